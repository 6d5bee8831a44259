import PyProof.Rows.All
import Wide.All
import OpenK.AllK
import Wide.FinOn
import HandS.Base
import HandS.Call
import HandS.List
import HandS.Comp
import HandS.Ends
import HandS.Dict
import HandS.Iter
import HandS.Words
import HandS.WordsList
import PySem.Challenge.RW_cutnotes_k15_whole_long_rows_by_reaches
import HandS.Zip
import HandS.IsInst
import HandS.DeepEq
import HandS.Codes
import KE.GoesMore
import KE.GoesEnum
import PyProof.EnumMake
import PyProof.Draws
import HandS.TupAny
import HandS.Rev
import HandS.Conv
import HandS.Walk
import HandS.More
import HandS.Strs
import HandS.Flow
import HandS.DictComp
import KE.DataMinMax
import HandS.OwnEq
import KE.KDictWalk
import HandS.TupLe
import HandS.ForMost
set_option Elab.async false
set_option linter.all false
set_option maxRecDepth 100000
set_option maxHeartbeats 4000000
namespace Ck
def road (ps : List (Option Nat)) (i : Nat) : List Nat :=
  match ps[i]? with
  | some (some p) => if _h : p < i then road ps p ++ [i] else [i]
  | _ => [i]
termination_by i
def stk (ps : List (Option Nat)) (lv : List Nat) (i : Nat) : List Nat :=
  match ps[i]? with
  | some (some p) => if _h : p < i then (stk ps lv p).take (lv.getD i 0 - 1) ++ [i] else [i]
  | _ => [i]
termination_by i
def Ps (ps : List (Option Nat)) : Prop := ∀ (i p : Nat), ps[i]? = some (some p) → p < i
/-- the most that the level of i may be, by the levels ahead -/
def mostLv (lv : List Nat) : Option Nat → Nat
  | none => 1
  | some p => lv.getD p 0 + 1
def Lv (ps : List (Option Nat)) (lv : List Nat) : Prop := lv.length = ps.length ∧ ∀ (i l : Nat) (q : Option Nat), lv[i]? = some l → ps[i]? = some q → 1 ≤ l ∧ l ≤ mostLv lv q
section
variable {ps : List (Option Nat)} {lv : List Nat} {i p : Nat}
theorem road_none (h : ps[i]? = some none) : road ps i = [i] := by
  rw [road, h]
theorem road_some (hp : Ps ps) (h : ps[i]? = some (some p)) : road ps i = road ps p ++ [i] := by
  have hl := hp i p h
  rw [road, h]
  dsimp only
  rw [dif_pos hl]
theorem stk_none (h : ps[i]? = some none) : stk ps lv i = [i] := by
  rw [stk, h]
theorem stk_some (hp : Ps ps) (h : ps[i]? = some (some p)) : stk ps lv i = (stk ps lv p).take (lv.getD i 0 - 1) ++ [i] := by
  have hl := hp i p h
  rw [stk, h]
  dsimp only
  rw [dif_pos hl]
theorem opt_cases (hi : i < ps.length) : ps[i]? = some none ∨ ∃ p, ps[i]? = some (some p) := by
  rw [List.getElem?_eq_getElem hi]
  cases h : ps[i] with
  | none => exact .inl rfl
  | some p => exact .inr ⟨p, rfl⟩
theorem road_le (hp : Ps ps) : ∀ n, n < ps.length → ∀ x ∈ road ps n, x ≤ n := by
  intro n
  induction n using Nat.strongRecOn with
  | ind n ih =>
    intro hn x hx
    rcases opt_cases hn with h | ⟨p, h⟩
    · rw [road_none h] at hx
      exact Nat.le_of_eq (List.mem_singleton.mp hx)
    · rw [road_some hp h] at hx
      have hl := hp n p h
      rcases List.mem_append.mp hx with hx | hx
      · exact Nat.le_of_lt (Nat.lt_of_le_of_lt (ih p hl (Nat.lt_trans hl hn) x hx) hl)
      · exact Nat.le_of_eq (List.mem_singleton.mp hx)
theorem road_self (hp : Ps ps) (hi : i < ps.length) : i ∈ road ps i := by
  rcases opt_cases hi with h | ⟨p, h⟩
  · rw [road_none h]; exact List.mem_singleton.mpr rfl
  · rw [road_some hp h]; exact List.mem_append.mpr (.inr (List.mem_singleton.mpr rfl))
theorem road_ne (hp : Ps ps) (hi : i < ps.length) : road ps i ≠ [] := fun z => by
  have h := road_self hp hi
  rw [z] at h; cases h
theorem road_len (hp : Ps ps) : ∀ n, n < ps.length → (road ps n).length ≤ n + 1 := by
  intro n
  induction n using Nat.strongRecOn with
  | ind n ih =>
    intro hn
    rcases opt_cases hn with h | ⟨p, h⟩
    · rw [road_none h]; exact Nat.le_add_left _ _
    · have hl := hp n p h
      have := ih p hl (Nat.lt_trans hl hn)
      rw [road_some hp h, List.length_append, List.length_singleton]
      omega
theorem getD_of {xs : List Nat} {l : Nat} (h : xs[i]? = some l) : xs.getD i 0 = l := by
  rw [List.getD_eq_getElem?_getD, h]; rfl
theorem stk_len (hp : Ps ps) (hv : Lv ps lv) : ∀ n, n < ps.length → (stk ps lv n).length = lv.getD n 0 := by
  intro n
  induction n using Nat.strongRecOn with
  | ind n ih =>
    intro hn
    have hl : lv[n]? = some (lv.getD n 0) := by
      rw [List.getD_eq_getElem?_getD, List.getElem?_eq_getElem (by rw [hv.1]; exact hn)]; rfl
    rcases opt_cases hn with h | ⟨p, h⟩
    · have := hv.2 n _ _ hl h
      rw [stk_none h, List.length_singleton]
      have e : mostLv lv none = 1 := rfl
      omega
    · have hpn := hp n p h
      have := hv.2 n _ _ hl h
      have e := ih p hpn (Nat.lt_trans hpn hn)
      have e2 : mostLv lv (some p) = lv.getD p 0 + 1 := rfl
      rw [stk_some hp h, List.length_append, List.length_singleton, List.length_take, e]
      omega
theorem stk_sub (hp : Ps ps) : ∀ n, n < ps.length → ∀ x ∈ stk ps lv n, x ∈ road ps n := by
  intro n
  induction n using Nat.strongRecOn with
  | ind n ih =>
    intro hn x hx
    rcases opt_cases hn with h | ⟨p, h⟩
    · rw [stk_none h] at hx
      rw [road_none h]; exact hx
    · have hl := hp n p h
      rw [stk_some hp h] at hx
      rw [road_some hp h]
      rcases List.mem_append.mp hx with hx | hx
      · exact List.mem_append.mpr (.inl (ih p hl (Nat.lt_trans hl hn) x (List.mem_of_mem_take hx)))
      · exact List.mem_append.mpr (.inr hx)
end
/-! those of a list that rank below all behind them -/
def rlm (rk : Nat → Nat) : List Nat → List Nat
  | [] => []
  | x :: xs => if ∀ y ∈ xs, rk x < rk y then x :: rlm rk xs else rlm rk xs
section
variable {rk rk' : Nat → Nat}
theorem rlm_mem : ∀ {xs : List Nat} {x : Nat}, x ∈ rlm rk xs → x ∈ xs
  | [], _, h => by cases h
  | y :: ys, x, h => by
    unfold rlm at h
    split at h
    · rcases List.mem_cons.mp h with e | h
      · rw [e]; exact List.mem_cons_self
      · exact List.mem_cons_of_mem _ (rlm_mem h)
    · exact List.mem_cons_of_mem _ (rlm_mem h)
theorem rlm_sorted : ∀ xs : List Nat, (rlm rk xs).Pairwise (fun a b => rk a < rk b)
  | [] => .nil
  | y :: ys => by
    unfold rlm
    split
    · rename_i h
      exact .cons (fun z hz => h z (rlm_mem hz)) (rlm_sorted ys)
    · exact rlm_sorted ys
theorem rlm_congr : ∀ {xs : List Nat}, (∀ x ∈ xs, ∀ y ∈ xs, (rk x < rk y ↔ rk' x < rk' y)) → rlm rk xs = rlm rk' xs
  | [], _ => rfl
  | y :: ys, h => by
    have ih := rlm_congr (xs := ys) fun x hx z hz => h x (List.mem_cons_of_mem _ hx) z (List.mem_cons_of_mem _ hz)
    have e : (∀ z ∈ ys, rk y < rk z) ↔ (∀ z ∈ ys, rk' y < rk' z) := ⟨fun q z hz => (h y List.mem_cons_self z (List.mem_cons_of_mem _ hz)).mp (q z hz), fun q z hz => (h y List.mem_cons_self z (List.mem_cons_of_mem _ hz)).mpr (q z hz)⟩
    unfold rlm
    rw [ih]
    by_cases c : ∀ z ∈ ys, rk y < rk z
    · rw [if_pos c, if_pos (e.mp c)]
    · rw [if_neg c, if_neg (fun z => c (e.mpr z))]
theorem rlm_snoc (k : Nat) : ∀ xs : List Nat, rlm rk (xs ++ [k]) = (rlm rk xs).filter (fun x => decide (rk x < rk k)) ++ [k]
  | [] => by
    show (if ∀ y ∈ ([] : List Nat), rk k < rk y then k :: rlm rk [] else rlm rk []) = _
    rw [if_pos (fun y hy => by cases hy)]; rfl
  | y :: ys => by
    have ih := rlm_snoc k ys
    show (if ∀ z ∈ ys ++ [k], rk y < rk z then y :: rlm rk (ys ++ [k]) else rlm rk (ys ++ [k])) = (if ∀ z ∈ ys, rk y < rk z then y :: rlm rk ys else rlm rk ys).filter _ ++ [k]
    rw [ih]
    by_cases c : ∀ z ∈ ys, rk y < rk z
    · rw [if_pos c]
      by_cases d : rk y < rk k
      · rw [if_pos (fun z hz => by
          rcases List.mem_append.mp hz with hz | hz
          · exact c z hz
          · rw [List.mem_singleton.mp hz]; exact d), List.filter_cons_of_pos (by simpa using d)]
        rfl
      · rw [if_neg (fun q => d (q k (List.mem_append.mpr (.inr (List.mem_singleton.mpr rfl))))), List.filter_cons_of_neg (by simpa using d)]
    · rw [if_neg c, if_neg (fun q => c fun z hz => q z (List.mem_append.mpr (.inl hz)))]
end
theorem filter_take {f : Nat → Nat} : ∀ {L : List Nat} {m x : Nat}, L.Pairwise (fun a b => f a < f b) → L[m]? = some x → L.filter (fun y => decide (f y < f x)) = L.take m
  | [], m, x, _, h => by rw [List.getElem?_nil] at h; cases h
  | a :: L, 0, x, p, h => by
    cases h
    rw [List.take_zero, List.filter_eq_nil_iff]
    intro b hb
    rcases List.mem_cons.mp hb with e | hb
    · rw [e]; simp
    · have := (List.pairwise_cons.mp p).1 b hb
      simp; omega
  | a :: L, m + 1, x, p, h => by
    rw [List.getElem?_cons_succ] at h
    have hx : x ∈ L := List.mem_of_getElem? h
    have := (List.pairwise_cons.mp p).1 x hx
    rw [List.filter_cons_of_pos (by simpa using this), List.take_succ_cons, filter_take (List.pairwise_cons.mp p).2 h]
/-! one thing put into an order -/
theorem idx_ne {a x : Nat} {l : List Nat} (h : ¬ a = x) : (a :: l).idxOf x = l.idxOf x + 1 := by
  rw [List.idxOf_cons]
  have e : (a == x) = false := by simpa using h
  rw [e]; rfl
theorem getD_at {L : List Nat} {m : Nat} (h : m < L.length) : L[m]? = some (L.getD m 0) := by
  rw [List.getD_eq_getElem?_getD, List.getElem?_eq_getElem h]; rfl
def putAt (ord : List Nat) (j k : Nat) : List Nat := ord.take j ++ k :: ord.drop j
theorem putAt_new : ∀ {ord : List Nat} {j k : Nat}, k ∉ ord → j ≤ ord.length → (putAt ord j k).idxOf k = j
  | ord, 0, k, _, _ => by
    show (k :: ord.drop 0).idxOf k = 0
    rw [List.idxOf_cons_self]
  | [], j + 1, k, _, h => by cases h
  | a :: ord, j + 1, k, hk, hj => by
    have ne : ¬ a = k := fun e => hk (by rw [e]; exact List.mem_cons_self)
    show (a :: putAt ord j k).idxOf k = j + 1
    rw [idx_ne ne, putAt_new (fun h => hk (List.mem_cons_of_mem _ h)) (Nat.le_of_succ_le_succ hj)]
theorem putAt_old : ∀ {ord : List Nat} {j k x : Nat}, k ∉ ord → j ≤ ord.length → x ∈ ord → (putAt ord j k).idxOf x = if ord.idxOf x < j then ord.idxOf x else ord.idxOf x + 1
  | [], j, k, x, _, _, h => by cases h
  | a :: ord, 0, k, x, hk, _, hx => by
    have ne : ¬ k = x := fun e => hk (by rw [e]; exact hx)
    show (k :: a :: ord).idxOf x = _
    rw [idx_ne ne, if_neg (Nat.not_lt_zero _)]
  | a :: ord, j + 1, k, x, hk, hj, hx => by
    show (a :: putAt ord j k).idxOf x = _
    by_cases e : a = x
    · rw [e, List.idxOf_cons_self, List.idxOf_cons_self, if_pos (Nat.succ_pos _)]
    · have hx' : x ∈ ord := (List.mem_cons.mp hx).resolve_left fun z => e z.symm
      rw [idx_ne e, idx_ne e, putAt_old (fun h => hk (List.mem_cons_of_mem _ h)) (Nat.le_of_succ_le_succ hj) hx']
      by_cases c : ord.idxOf x < j
      · rw [if_pos c, if_pos (Nat.succ_lt_succ c)]
      · rw [if_neg c, if_neg fun z => c (Nat.lt_of_succ_lt_succ z)]
theorem putAt_mem {ord : List Nat} {j k x : Nat} : x ∈ putAt ord j k ↔ x = k ∨ x ∈ ord := by
  unfold putAt
  rw [List.mem_append, List.mem_cons]
  have h : x ∈ ord ↔ x ∈ ord.take j ∨ x ∈ ord.drop j := by
    rw [← List.mem_append, List.take_append_drop]
  rw [h]
  constructor
  · rintro (a | a | a)
    · exact .inr (.inl a)
    · exact .inl a
    · exact .inr (.inr a)
  · rintro (a | a | a)
    · exact .inr (.inl a)
    · exact .inl a
    · exact .inr (.inr a)
theorem putAt_nd {ord : List Nat} {j k : Nat} (h : ord.Nodup) (hk : k ∉ ord) : (putAt ord j k).Nodup := by
  unfold putAt
  have e : (ord.take j ++ ord.drop j).Nodup := by rw [List.take_append_drop]; exact h
  rw [List.nodup_append] at e ⊢
  refine ⟨e.1, List.nodup_cons.mpr ⟨fun z => hk (List.mem_of_mem_drop z), e.2.1⟩, fun a ha b hb => ?_⟩
  rcases List.mem_cons.mp hb with z | hb
  · intro q
    rw [q, z] at ha
    exact hk (List.mem_of_mem_take ha)
  · exact e.2.2 a ha b hb
theorem putAt_len {ord : List Nat} {j k : Nat} : (putAt ord j k).length = ord.length + 1 := by
  unfold putAt
  rw [List.length_append, List.length_cons, List.length_take, List.length_drop]
  omega
/-! the order that the levels tell -/
def above (ps : List (Option Nat)) (lv : List Nat) (i : Nat) : List Nat :=
  match ps[i]? with
  | some (some p) => stk ps lv p
  | _ => []
theorem above_none {ps : List (Option Nat)} {lv : List Nat} {i : Nat} (h : ps[i]? = some none) : above ps lv i = [] := by unfold above; rw [h]
theorem above_some {ps : List (Option Nat)} {lv : List Nat} {i p : Nat} (h : ps[i]? = some (some p)) : above ps lv i = stk ps lv p := by unfold above; rw [h]
def ordAt (ps : List (Option Nat)) (lv : List Nat) (ord : List Nat) (i : Nat) : Nat :=
  if lv.getD i 0 ≤ (above ps lv i).length then ord.idxOf ((above ps lv i).getD (lv.getD i 0 - 1) 0) else ord.length
def ordOf (ps : List (Option Nat)) (lv : List Nat) : Nat → List Nat
  | 0 => []
  | k + 1 => putAt (ordOf ps lv k) (ordAt ps lv (ordOf ps lv k) k) k
theorem ordAt_le {ps : List (Option Nat)} {lv ord : List Nat} {i : Nat} : ordAt ps lv ord i ≤ ord.length := by
  unfold ordAt
  split
  · exact List.idxOf_le_length
  · exact Nat.le_refl _
theorem ord_inv {ps : List (Option Nat)} {lv : List Nat} (hp : Ps ps) (hv : Lv ps lv) : ∀ k, k ≤ ps.length → (ordOf ps lv k).Nodup ∧ (∀ x, x ∈ ordOf ps lv k ↔ x < k) ∧ ∀ i, i < k → stk ps lv i = rlm (fun x => (ordOf ps lv k).idxOf x) (road ps i) := by
  intro k
  induction k with
  | zero => exact fun _ => ⟨List.nodup_nil, fun x => ⟨fun z => (by cases z), fun z => absurd z (Nat.not_lt_zero _)⟩, fun i z => absurd z (Nat.not_lt_zero _)⟩
  | succ k ih =>
    intro hk
    obtain ⟨nd, hm, hs⟩ := ih (Nat.le_of_succ_le hk)
    have kn : k ∉ ordOf ps lv k := fun z => Nat.lt_irrefl _ ((hm k).mp z)
    have jl := ordAt_le (ps := ps) (lv := lv) (ord := ordOf ps lv k) (i := k)
    show (putAt _ _ k).Nodup ∧ (∀ x, x ∈ putAt _ _ k ↔ x < k + 1) ∧ ∀ i, i < k + 1 → stk ps lv i = rlm (fun x => (putAt (ordOf ps lv k) (ordAt ps lv (ordOf ps lv k) k) k).idxOf x) (road ps i)
    have hj : ordAt ps lv (ordOf ps lv k) k = if lv.getD k 0 ≤ (above ps lv k).length then (ordOf ps lv k).idxOf ((above ps lv k).getD (lv.getD k 0 - 1) 0) else (ordOf ps lv k).length := rfl
    generalize ordOf ps lv k = ord at nd hm hs kn jl hj ⊢
    generalize ordAt ps lv ord k = j at jl hj ⊢
    have old : ∀ x, x < k → (putAt ord j k).idxOf x = if ord.idxOf x < j then ord.idxOf x else ord.idxOf x + 1 := fun x hx => putAt_old kn jl ((hm x).mpr hx)
    have cg : ∀ n, n < k → rlm (fun x => (putAt ord j k).idxOf x) (road ps n) = stk ps lv n := fun n hn => by
      rw [hs n hn]
      refine rlm_congr fun x hx y hy => ?_
      have h1 := Nat.lt_of_le_of_lt (road_le hp n (by omega) x hx) hn
      have h2 := Nat.lt_of_le_of_lt (road_le hp n (by omega) y hy) hn
      show (putAt ord j k).idxOf x < (putAt ord j k).idxOf y ↔ _
      rw [old x h1, old y h2]
      split <;> split <;> omega
    refine ⟨putAt_nd nd kn, fun x => ?_, fun i hi => ?_⟩
    · rw [putAt_mem, hm]
      omega
    · by_cases hik : i < k
      · exact (cg i hik).symm
      · have e : i = k := by omega
        subst e
        have hl : lv[i]? = some (lv.getD i 0) := by
          rw [List.getD_eq_getElem?_getD, List.getElem?_eq_getElem (by rw [hv.1]; omega)]; rfl
        rcases opt_cases (ps := ps) (i := i) (by omega) with h | ⟨p, h⟩
        · rw [stk_none h, road_none h]
          show _ = rlm _ ([] ++ [i])
          rw [rlm_snoc]; rfl
        · have hpi := hp i p h
          have hlv := hv.2 i _ _ hl h
          have hml : mostLv lv (some p) = lv.getD p 0 + 1 := rfl
          have ea : above ps lv i = stk ps lv p := by unfold above; rw [h]
          have hlen := stk_len hp hv p (by omega)
          rw [stk_some hp h, road_some hp h, rlm_snoc, cg p hpi, putAt_new kn jl]
          congr 1
          rw [ea] at hj
          have flt : ∀ x ∈ stk ps lv p, decide ((putAt ord j i).idxOf x < j) = decide (ord.idxOf x < j) := fun x hx => by
            have hx2 := Nat.lt_of_le_of_lt (road_le hp p (by omega) x (stk_sub hp p (by omega) x hx)) hpi
            rw [old x hx2]
            congr 1
            refine propext ⟨fun z => ?_, fun z => ?_⟩
            · split at z <;> omega
            · rw [if_pos z]; exact z
          rw [List.filter_congr flt]
          by_cases c : lv.getD i 0 ≤ (stk ps lv p).length
          · rw [if_pos c] at hj
            have hm2 : lv.getD i 0 - 1 < (stk ps lv p).length := by omega
            have hg := getD_at hm2
            rw [hj]
            refine (filter_take ?_ hg).symm
            rw [hs p hpi]
            exact rlm_sorted _
          · rw [if_neg c] at hj
            rw [List.take_of_length_le (by omega), List.filter_eq_self.mpr]
            intro x hx
            have hx2 := Nat.lt_of_le_of_lt (road_le hp p (by omega) x (stk_sub hp p (by omega) x hx)) hpi
            have := List.idxOf_lt_length_of_mem ((hm x).mpr hx2)
            rw [hj]
            exact decide_eq_true this
/-- what the order tells of each place: its level -/
theorem ord_lv {ps : List (Option Nat)} {lv : List Nat} (hp : Ps ps) (hv : Lv ps lv) {i : Nat} (hi : i < ps.length) : (rlm (fun x => (ordOf ps lv ps.length).idxOf x) (road ps i)).length = lv.getD i 0 := by
  rw [← (ord_inv hp hv ps.length (Nat.le_refl _)).2.2 i hi]
  exact stk_len hp hv i hi
theorem ord_len {ps : List (Option Nat)} {lv : List Nat} : ∀ k, (ordOf ps lv k).length = k
  | 0 => rfl
  | k + 1 => by
    show (putAt _ _ k).length = k + 1
    rw [putAt_len, ord_len k]
theorem above_sub {ps : List (Option Nat)} {lv : List Nat} {i x : Nat} (hp : Ps ps) (hi : i < ps.length) (hx : x ∈ above ps lv i) : x < i := by
  rcases opt_cases hi with h | ⟨p, h⟩
  · rw [above_none h] at hx; cases hx
  · rw [above_some h] at hx
    have hl := hp i p h
    exact Nat.lt_of_le_of_lt (road_le hp p (Nat.lt_trans hl hi) x (stk_sub hp p (Nat.lt_trans hl hi) x hx)) hl
theorem putAt_end {ord : List Nat} {k : Nat} : putAt ord ord.length k = ord ++ [k] := by
  unfold putAt
  rw [List.take_length, List.drop_length]
/-- how many are not above any behind them -/
def cntMin : List Nat → Nat
  | [] => 0
  | x :: xs => (if ∀ y ∈ xs, x ≤ y then 1 else 0) + cntMin xs
theorem cnt_rlm {rk : Nat → Nat} : ∀ {xs : List Nat}, xs.Nodup → (∀ x ∈ xs, ∀ y ∈ xs, x ≠ y → rk x ≠ rk y) → cntMin (xs.map rk) = (rlm rk xs).length
  | [], _, _ => rfl
  | x :: xs, nd, inj => by
    have ih := cnt_rlm (xs := xs) (List.nodup_cons.mp nd).2 fun a ha b hb => inj a (List.mem_cons_of_mem _ ha) b (List.mem_cons_of_mem _ hb)
    show (if ∀ y ∈ xs.map rk, rk x ≤ y then 1 else 0) + cntMin (xs.map rk) = (if ∀ y ∈ xs, rk x < rk y then x :: rlm rk xs else rlm rk xs).length
    have e : (∀ y ∈ xs.map rk, rk x ≤ y) ↔ ∀ y ∈ xs, rk x < rk y := by
      constructor
      · intro h y hy
        have h1 := h (rk y) (List.mem_map.mpr ⟨y, hy, rfl⟩)
        have h2 := inj x List.mem_cons_self y (List.mem_cons_of_mem _ hy) fun z => (List.nodup_cons.mp nd).1 (z ▸ hy)
        omega
      · intro h z hz
        obtain ⟨y, hy, rfl⟩ := List.mem_map.mp hz
        exact Nat.le_of_lt (h y hy)
    rw [ih]
    by_cases c : ∀ y ∈ xs, rk x < rk y
    · rw [if_pos (e.mpr c), if_pos c, List.length_cons]; omega
    · rw [if_neg (fun z => c (e.mp z)), if_neg c]; omega
theorem road_nd {ps : List (Option Nat)} (hp : Ps ps) : ∀ n, n < ps.length → (road ps n).Nodup := by
  intro n
  induction n using Nat.strongRecOn with
  | ind n ih =>
    intro hn
    rcases opt_cases hn with h | ⟨p, h⟩
    · rw [road_none h]; exact List.nodup_cons.mpr ⟨fun z => (by cases z), List.nodup_nil⟩
    · have hl := hp n p h
      rw [road_some hp h, List.nodup_append]
      refine ⟨ih p hl (Nat.lt_trans hl hn), List.nodup_cons.mpr ⟨fun z => (by cases z), List.nodup_nil⟩, fun a ha b hb => ?_⟩
      rw [List.mem_singleton.mp hb]
      have := road_le hp p (Nat.lt_trans hl hn) a ha
      omega
/-- one plan's levels under a place put for another's -/
def mixLv (ps : List (Option Nat)) (l1 l2 : List Nat) (i : Nat) (at_ : Nat) : Nat := if i ∈ road ps at_ then l2.getD at_ 0 else l1.getD at_ 0
theorem mix_ok {ps : List (Option Nat)} {l1 l2 : List Nat} {i : Nat} (hp : Ps ps) (h1 : Lv ps l1) (h2 : Lv ps l2) (hi : i < ps.length)
    (hc : ∀ p, ps[i]? = some (some p) → mixLv ps l1 l2 i i ≤ mixLv ps l1 l2 i p + 1) : Lv ps ((List.range ps.length).map (mixLv ps l1 l2 i)) := by
  refine ⟨by rw [List.length_map, List.length_range], fun j l q hl hq => ?_⟩
  have hj : j < ps.length := (List.getElem?_eq_some_iff.mp hq).1
  have hg : ∀ k, k < ps.length → ((List.range ps.length).map (mixLv ps l1 l2 i)).getD k 0 = mixLv ps l1 l2 i k := fun k hk => by
    rw [List.getD_eq_getElem?_getD, List.getElem?_map, List.getElem?_range hk]; rfl
  have el : l = mixLv ps l1 l2 i j := by rw [← hg j hj, getD_of hl]
  have a1 := h1.2 j _ q (getD_at (by rw [h1.1]; exact hj)) hq
  have a2 := h2.2 j _ q (getD_at (by rw [h2.1]; exact hj)) hq
  cases q with
  | none =>
    have e : ∀ lv, mostLv lv none = 1 := fun _ => rfl
    rw [e] at a1 a2 ⊢
    rw [el]
    unfold mixLv
    split <;> omega
  | some p =>
    have hpj := hp j p hq
    have e : ∀ lv, mostLv lv (some p) = lv.getD p 0 + 1 := fun _ => rfl
    rw [e] at a1 a2 ⊢
    rw [hg p (Nat.lt_trans hpj hj), el]
    by_cases ej : j = i
    · subst ej
      refine ⟨?_, hc p hq⟩
      unfold mixLv
      split <;> omega
    · have em : i ∈ road ps j ↔ i ∈ road ps p := by
        rw [road_some hp hq, List.mem_append]
        constructor
        · rintro (h | h)
          · exact h
          · exact absurd (List.mem_singleton.mp h).symm ej
        · exact fun h => .inl h
      unfold mixLv
      by_cases c : i ∈ road ps p
      · rw [if_pos (em.mpr c), if_pos c]; exact a2
      · rw [if_neg (fun z => c (em.mp z)), if_neg c]; exact a1
theorem cnt_cons_yes {x : Nat} {t : List Nat} (c : ∀ y ∈ t, x ≤ y) : cntMin (x :: t) = 1 + cntMin t := by
  show (if ∀ y ∈ t, x ≤ y then 1 else 0) + cntMin t = _
  rw [if_pos c]
theorem cnt_cons_no {x : Nat} {t : List Nat} (c : ¬ ∀ y ∈ t, x ≤ y) : cntMin (x :: t) = cntMin t := by
  show (if ∀ y ∈ t, x ≤ y then 1 else 0) + cntMin t = _
  rw [if_neg c, Nat.zero_add]
theorem cnt_yes {l : List Nat} {i x : Nat} (h : l[i]? = some x) (c : ∀ y ∈ l.drop (i + 1), x ≤ y) : cntMin (l.drop i) = 1 + cntMin (l.drop (i + 1)) := by
  obtain ⟨hi, e⟩ := List.getElem?_eq_some_iff.mp h
  rw [List.drop_eq_getElem_cons hi, e]
  exact cnt_cons_yes c
theorem cnt_no {l : List Nat} {i x : Nat} (h : l[i]? = some x) (c : ¬ ∀ y ∈ l.drop (i + 1), x ≤ y) : cntMin (l.drop i) = cntMin (l.drop (i + 1)) := by
  obtain ⟨hi, e⟩ := List.getElem?_eq_some_iff.mp h
  rw [List.drop_eq_getElem_cons hi, e]
  exact cnt_cons_no c
end Ck
namespace Cn
open PySem PySem.Spec PyProof.Rows L2
def topS (i : Nat) : Stmt := PySem.Challenge.pw_cutnotes_k15_whole_long_rows_by_reaches.main.body.getD i (.Pass ⟨0, 0, 0, 0⟩)
abbrev sIsInt : Stmt := topS 1
abbrev sIsBtw : Stmt := topS 2
abbrev sIsLot : Stmt := topS 3
abbrev sLotOf : Stmt := topS 18
abbrev sIsPlace : Stmt := topS 19
abbrev sWay : Stmt := topS 20
abbrev sIsCuts : Stmt := topS 42
abbrev sLevel : Stmt := topS 44
abbrev sPlanOf : Stmt := topS 43
abbrev sHand : Stmt := topS 51
abbrev sDraw : Stmt := topS 52
abbrev sPlans : Stmt := topS 61
abbrev sUnder : Stmt := topS 21
abbrev sIsNumbers : Stmt := topS 4
abbrev sIsPairN : Stmt := topS 5
abbrev sIsBudgets : Stmt := topS 29
abbrev sRow : Stmt := topS 22
abbrev sIsRow : Stmt := topS 23
abbrev sCheckRB : Stmt := topS 35
abbrev sMayEnd : Stmt := topS 36
abbrev sReach : Stmt := topS 38
abbrev sReaches : Stmt := topS 37
abbrev sBorne : Stmt := topS 40
abbrev sIsReaches : Stmt := topS 39
abbrev sRowCuts : Stmt := topS 49
abbrev sPlanWithin : Stmt := topS 47
abbrev sLMay : Stmt := topS 55
abbrev sLLeast : Stmt := topS 56
abbrev sLEnough : Stmt := topS 57
abbrev sLIsReaches : Stmt := topS 58
abbrev sRowPlan : Stmt := topS 53
abbrev sRowPoint : Stmt := topS 54
abbrev sLBudgets : Stmt := topS 59
abbrev sLSmall : Stmt := topS 60
abbrev sKeeps : Stmt := topS 62
abbrev sLIsPlan : Stmt := topS 63
abbrev sInit : Stmt := inClass (topS 17) 0
abbrev sEqM : Stmt := inClass (topS 17) 1
abbrev sLaw : Stmt := topS 64
/-! heaps -/
theorem smUpd {H : Hp} {p : Addr} {o : HO} (h : H p = none) : Same H (upd H p o) := fun b x e => by
  rw [upd_ne (ne_of_none e h)]
  exact e
theorem cutTake (xs : List V) (n : Nat) : cutV xs none (some (n : Int)) = xs.take n := by
  unfold cutV
  rw [HT.sIx_none, HT.sIx_nat]
  show (xs.drop 0).take (min n xs.length - 0) = xs.take n
  rw [List.drop_zero, Nat.sub_zero]
  by_cases h : n ≤ xs.length
  · rw [Nat.min_eq_left h]
  · rw [Nat.min_eq_right (by omega), List.take_length, List.take_of_length_le (by omega)]
theorem getMap {xs : List Int} {i : Nat} {v : V} (h : (xs.map V.int)[i]? = some v) : ∃ z, xs[i]? = some z ∧ v = .int z := by
  rw [List.getElem?_map] at h
  cases e : xs[i]? with
  | none => rw [e] at h; cases h
  | some z => rw [e] at h; exact ⟨z, rfl, (Option.some.inj h).symm⟩
/-! the hand that deals -/
abbrev handL (c : Addr) (i g m t : Int) : HO := .lst [.ref c, .int i, .int g, .int m, .int t]
structure HandIn (H : Hp) (p c : Addr) (cells : List Int) : Prop where
  ob : ∃ i g m t : Int, H p = some (handL c i g m t) ∧ 0 ≤ i
  ce : H c = some (.lst (cells.map V.int))
  ne : p ≠ c
def spHand (K : PySem.W.Frag) : Sp := fun vs H Q _ => ∃ (a : Addr) (ns : List Int), vs = [.ref a] ∧ SqL K H a (ns.map V.int) ∧ ns.length ≤ 63 ∧
  ∀ (H' : Hp) (p c : Addr) (cells : List Int), Same H H' → H p = none → H c = none → HandIn H' p c cells → Q (.ref p) H'
def nHand : List Str := ["_law_script", "_law_cells", "_law_cell"]
theorem scHand : FnScope nHand ["_law_script"] (defScope sHand) := ⟨rfl, rfl, rfl, by decide +kernel, rfl, by decide +kernel, by decide +kernel⟩
section
variable {P : Program} {w : World} {K : PySem.W.Frag} {mg : Str → Option Value} {base : Heap}
theorem ok_hand {f : Addr} {fd : FuncData} (F : Fun K "_law_hand" "_law_hand" sHand f fd) (mAbs : mg "abs" = none) (mInt : mg "int" = none) (mLen : mg "len" = none) : FnOk P w K mg base CX0 1 f fd ["_law_script"] (spHand K) := by
  refine F.ok scHand (fun vs H Q E h => ?_) (fun cdv A outer s H vs Q E hr h => ?_)
  · obtain ⟨a, ns, rfl, _⟩ := h
    rfl
  · obtain ⟨a, ns, rfl, hS, hlen, k⟩ := h
    refine ⟨_, pss_cons (ps_setLc (i := 1) (own := [("_law_cell", 2)]) (g := gName 2) (tt := tYes) rfl scHand.nd rfl rfl (sw_true rfl rfl rfl (by decide +kernel))
        (pi_list (pe_slice sl_list (pv 0) po_none (po_some pe_int))) (blkOk_by (N := nHand) (sc := defScope sHand) (by decide +kernel))
        (fun _ _ _ _ _ => pg_name (i := 2) scHand.nd rfl (Or.inl rfl)) (fun _ _ _ _ _ => pts_nil)
        (fun _ _ _ _ _ => pe_callB call_abs (by rfl) mAbs (by decide +kernel) (pa_cons (pe_callTy call_int1 (by rfl) mInt (by decide +kernel) (pa_cons (pv 2) pa_nil)) pa_nil)))
      (pss_one (ps_ret (pe_lst (pa_cons (pv 1) (pa_cons pe_int (pa_cons pe_int (pa_cons (pe_op op_add pe_int (pe_callB call_len_seq (by rfl) mLen PySem.boot_len (pa_cons (pv 1) pa_nil))) (pa_cons pe_int pa_nil)))))))), ?_⟩
    refine ⟨.ref a, rfl, 63, rfl, a, ns.map V.int, rfl, hS, fun q nq => ?_⟩
    have ex : cutV (ns.map V.int) none (some 63) = (ns.take 63).map V.int := by
      rw [show (some (63 : Int)) = some ((63 : Nat) : Int) from rfl, cutTake, List.map_take]
    rw [ex]
    have s1 : Same H (upd H q (.lst ((ns.take 63).map V.int))) := smUpd nq
    refine ⟨_, rfl, ⟨_, .inl (.inl upd_same)⟩, fun D nD => ?_⟩
    have nDq : D ≠ q := fun e => by rw [e, upd_same] at nD; cases nD
    refine lc_list (K := K) (a := q) (xs := (ns.take 63).map V.int) (fun i H' => Same (upd H q (.lst ((ns.take 63).map V.int))) H' ∧ ∃ cs : List Int, H' D = some (.lst (cs.map V.int)) ∧ cs.length = i) ?_ ?_ ?_ ?_
    · exact ⟨smUpd nD, [], upd_same, rfl⟩
    · rintro i H' _ ⟨sm, _⟩
      exact .inl (.inl (sm _ _ upd_same))
    · rintro i x H' hx ⟨sm, cs, hD, hl⟩
      obtain ⟨z, hz, rfl⟩ := getMap hx
      have hi : i < 63 := by
        have e := (List.getElem?_eq_some_iff.mp hz).1
        rw [List.length_take] at e
        omega
      refine ⟨rfl, ⟨_, rfl, .inl ⟨z, rfl, z, rfl, cs.map V.int, hD, ?_, fun b o e => ?_, cs ++ [if z < 0 then -z else z], ?_, ?_⟩⟩⟩
      · rw [List.length_map]; exact small1000 (by omega)
      · have nb : b ≠ D := fun e' => by rw [e', nD] at e; cases e
        rw [upd_ne nb]
        exact sm b o e
      · rw [upd_same, List.map_append]; rfl
      · rw [List.length_append, hl]; rfl
    · rintro H' ⟨sm, cs, hD, hl⟩
      refine ⟨_, rfl, .ref D, rfl, D, cs.map V.int, rfl, .inl (.inl (.inl hD)), 1, _, rfl, rfl, by show 5 ≤ sizeLine; decide, fun p np => ?_⟩
      have npD : p ≠ D := fun e => by rw [e, hD] at np; cases np
      refine k _ p D cs (fun b o e => ?_) ?_ ?_ ⟨⟨0, 0, _, 0, upd_same, by decide⟩, by rw [upd_ne npD.symm]; exact hD, npD⟩
      · have e1 := sm b o (s1 b o e)
        rw [upd_ne (ne_of_none e1 np)]
        exact e1
      · cases e : H p with
        | none => rfl
        | some o => rw [sm p o (s1 p o e)] at np; cases np
      · cases e : H D with
        | none => rfl
        | some o => rw [s1 D o e] at nD; cases nD
end
end Cn
namespace Cn
open PySem PySem.Spec PyProof.Rows L2
/-! a statement, then the rest, by a word of what stands between -/
def tMid (t u : TS) : TS := fun D σ H => ∃ R : L2.St → Hp → Prop, t { nx := R, rt := D.rt, bk := D.bk, ct := D.ct } σ H ∧ ∀ σ2 H2, R σ2 H2 → u D σ2 H2
theorem psMid {X : Cx} {st : Stmt} {rest : List Stmt} {t u : TS} (a : PS X st t) (b : PSs X rest u) : PSs X (st :: rest) (tMid t u) := by
  constructor
  intro pins s σ H D I h
  obtain ⟨R, h1, h2⟩ := h
  refine wpAny_execs_cons (thn (a.run pins s σ H _ I h1) fun fl s1 q => ?_)
  cases fl with
  | next =>
    obtain ⟨σ2, H2, I2, q2⟩ := q
    exact b.run pins s1 σ2 H2 D I2 (h2 σ2 H2 q2)
  | brk => exact q
  | cont => exact q
  | ret u => exact q
def spDraw : Sp := fun vs H Q _ => ∃ (p c : Addr) (cells : List Int) (k : Int), vs = [.ref p, .int k] ∧ HandIn H p c cells ∧ 0 < k ∧ k < 1073741824 ∧
  ∀ (d i g m t : Int), 0 ≤ d → d < k → 0 ≤ i → Q (.int d) (upd H p (handL c i g m t))
def nDraw : List Str := ["_law_hand_here", "_law_many", "_law_cell", "_law_digit", "_law_number"]
theorem scDraw : FnScope nDraw ["_law_hand_here", "_law_many"] (defScope sDraw) := ⟨rfl, rfl, rfl, by decide +kernel, rfl, by decide +kernel, by decide +kernel⟩
theorem fmB {a k : Int} (h : 0 < k) : 0 ≤ a.fmod k ∧ a.fmod k < k := ⟨Int.fmod_nonneg_of_pos a h, Int.fmod_lt_of_pos a h⟩
theorem atNat {cs : List Int} {i : Int} (h0 : 0 ≤ i) (h1 : i < ((cs.map V.int).length : Int)) : ∃ z, atI (cs.map V.int) i = some (.int z) := by
  obtain ⟨n, rfl⟩ := Int.eq_ofNat_of_zero_le h0
  rw [List.length_map] at h1
  have hn : n < cs.length := by omega
  refine ⟨cs[n], ?_⟩
  unfold atI ixN
  rw [if_pos (by omega), List.length_map, if_pos (by omega)]
  show (cs.map V.int)[((n : Nat) : Int).toNat]? = _
  rw [Int.toNat_natCast, List.getElem?_map, List.getElem?_eq_getElem hn]
  rfl
section
variable {P : Program} {w : World} {K : PySem.W.Frag} {mg : Str → Option Value} {base : Heap}
theorem ok_draw {f : Addr} {fd : FuncData} (F : Fun K "_law_draw" "_law_draw" sDraw f fd) (mInt : mg "int" = none) (mLen : mg "len" = none) : FnOk P w K mg base CX0 1 f fd ["_law_hand_here", "_law_many"] spDraw := by
  refine F.ok scDraw (fun vs H Q E h => ?_) (fun cdv A outer s H vs Q E hr h => ?_)
  · obtain ⟨p, c, cells, k, rfl, _⟩ := h
    rfl
  · obtain ⟨p, c, cells, k, rfl, hI, k0, k1, q⟩ := h
    refine ⟨_, psMid (ps_if (PW.pt (pw_and (pt_cmpR op_eq (pe_ix ix_list (pv 0) pe_int (fun _ _ => rfl)) pe_int (nomark _))
            (pw_and1 (pt_cmpR op_lt (pe_ix ix_list (pv 0) pe_int (fun _ _ => rfl)) (pe_callB call_len_seq (by rfl) mLen PySem.boot_len (pa_cons (pe_ix ix_list (pv 0) pe_int (fun _ _ => rfl)) pa_nil)) (nomark _)))))
        (pss_cons (ps_set (i := 2) scDraw.nd rfl (Or.inl rfl) (pe_ix ix_list (pe_ix ix_list (pv 0) pe_int (fun _ _ => rfl)) (pe_ix ix_list (pv 0) pe_int (fun _ _ => rfl)) (fun _ _ => rfl)))
        (pss_cons (ps_asg (pe_op op_add (pe_ix ix_list (pv 0) pe_int (fun _ _ => rfl)) pe_int) (pg_sub (pv 0) pe_int set_list))
        (pss_cons (ps_asg (pe_op op_modN (pe_callTy call_int1 (by rfl) mInt (by decide +kernel) (pa_cons (pe_op op_add (pe_op op_add (pe_op op_mul (pe_ix ix_list (pv 0) pe_int (fun _ _ => rfl)) pe_int) (pv 2)) pe_int) pa_nil)) pe_int) (pg_sub (pv 0) pe_int set_list))
        (pss_one (ps_if (pt_cmpR op_ge (pv 2) (pe_op op_pow pe_int pe_int) (nomark _)) (pss_one (ps_asg (pv 2) (pg_sub (pv 0) pe_int set_list))) pss_nil)))))
        pss_nil)
      (pss_cons (ps_if (pt_cmpR op_gt (pe_ix ix_list (pv 0) pe_int (fun _ _ => rfl)) pe_int (nomark _))
        (pss_cons (ps_set (i := 3) scDraw.nd rfl (Or.inl rfl) (pe_op op_modN (pe_callTy call_int1 (by rfl) mInt (by decide +kernel) (pa_cons (pe_ix ix_list (pv 0) pe_int (fun _ _ => rfl)) pa_nil)) (pv 1)))
        (pss_cons (ps_asg (pe_op op_fdivN (pe_ix ix_list (pv 0) pe_int (fun _ _ => rfl)) (pv 1)) (pg_sub (pv 0) pe_int set_list))
        (pss_one (ps_ret (pv 3))))) pss_nil)
      (pss_cons (ps_asg (pe_op op_add (pe_ix ix_list (pv 0) pe_int (fun _ _ => rfl)) pe_int) (pg_sub (pv 0) pe_int set_list))
      (pss_cons (ps_set (i := 4) scDraw.nd rfl (Or.inl rfl) (pe_op op_modN (pe_callTy call_int1 (by rfl) mInt (by decide +kernel) (pa_cons (pe_op op_mul (pe_callTy call_int1 (by rfl) mInt (by decide +kernel) (pa_cons (pe_op op_add (pe_ix ix_list (pv 0) pe_int (fun _ _ => rfl)) (pe_op op_mul pe_int (pe_ix ix_list (pv 0) pe_int (fun _ _ => rfl)))) pa_nil)) pe_int) pa_nil)) pe_int))
      (pss_cons (ps_set (i := 4) scDraw.nd rfl (Or.inl rfl) (pe_op op_modN (pe_callTy call_int1 (by rfl) mInt (by decide +kernel) (pa_cons (pe_op op_mul (pv 4) (pe_op op_add (pe_op op_fdivN (pv 4) pe_int) pe_int)) pa_nil)) pe_int))
      (pss_cons (ps_set (i := 4) scDraw.nd rfl (Or.inl rfl) (pe_op op_modN (pe_callTy call_int1 (by rfl) mInt (by decide +kernel) (pa_cons (pe_op op_mul (pv 4) (pe_op op_add (pe_op op_fdivN (pv 4) pe_int) pe_int)) pa_nil)) pe_int))
      (pss_one (ps_ret (pe_op op_modN (pe_callTy call_int1 (by rfl) mInt (by decide +kernel) (pa_cons (pe_op op_fdivN (pv 4) pe_int) pa_nil)) (pv 1))))))))), ?_⟩
    obtain ⟨⟨i, g, m, t, hp, hi⟩, hc, ne⟩ := hI
    have sq : ∀ {H' : Hp} {a : Addr} {xs : List V}, H' a = some (.lst xs) → SqL K H' a xs := fun h => .inl (.inl h)
    have kn : k ≠ 0 := by omega
    have kb : k.natAbs < 1073741824 := by omega
    refine ⟨fun σ2 H2 => ∃ (cl : Option V) (i g m t : Int), 0 ≤ i ∧ σ2 = [some (.ref p), some (.int k), cl, none, none] ∧ H2 = upd H p (handL c i g m t), ?_, ?_⟩
    · have same : upd H p (handL c i g m t) = H := by
        funext b
        by_cases e : b = p
        · rw [e, upd_same, hp]
        · rw [upd_ne e]
      refine ⟨_, rfl, p, _, 2, _, rfl, rfl, sq hp, rfl, rfl, _, rfl, ?_⟩
      refine ite2 (fun _ => ?_) (fun _ => ⟨none, i, g, m, t, hi, rfl, same.symm⟩)
      refine ⟨_, rfl, p, _, 1, _, rfl, rfl, sq hp, rfl, _, rfl, p, _, 0, _, rfl, rfl, sq hp, rfl, c, _, rfl, .inl (sq hc), i, _, rfl, rfl, _, rfl, ?_⟩
      refine ite2 (fun hlt => ?_) (fun _ => ⟨none, i, g, m, t, hi, rfl, same.symm⟩)
      obtain ⟨z, hz⟩ := atNat hi (of_decide_eq_true hlt)
      refine ⟨_, rfl, p, _, 0, _, rfl, rfl, sq hp, rfl, _, rfl, p, _, 1, _, rfl, rfl, sq hp, rfl, c, _, i, _, rfl, rfl, sq hc, hz, ?_⟩
      refine ⟨_, rfl, p, _, 1, _, rfl, rfl, sq hp, rfl, _, _, rfl, rfl, _, rfl, p, _, 1, 1, rfl, rfl, hp, rfl, ?_⟩
      have st : ∀ (j : Nat) (v : V) (i g m t : Int), upd (upd H p (handL c i g m t)) p (.lst (List.set [.ref c, .int i, .int g, .int m, .int t] j v)) = upd H p (.lst (List.set [.ref c, .int i, .int g, .int m, .int t] j v)) := fun _ _ _ _ _ _ => upd_upd
      have s1 : upd H p (.lst (List.set [.ref c, .int i, .int g, .int m, .int t] 1 (.int (i + 1)))) = upd H p (handL c (i + 1) g m t) := rfl
      rw [s1]
      refine ⟨_, rfl, p, _, 3, _, rfl, rfl, sq upd_same, rfl, _, _, rfl, rfl, .inr (by decide), _, rfl, _, _, rfl, rfl, _, _, rfl, rfl, .inl ⟨_, rfl, _, _, rfl, rfl, (show (2147483629 : Int) ≠ 0 by decide), _, rfl, p, _, 3, 3, rfl, rfl, upd_same, rfl, ?_⟩⟩
      rw [st]
      refine ⟨_, rfl, _, _, rfl, rfl, ⟨by decide, by decide, by decide⟩, _, _, rfl, rfl, _, rfl, ?_⟩
      refine ite2 (fun _ => ?_) (fun _ => ⟨_, i + 1, g, _, t, by omega, rfl, rfl⟩)
      refine ⟨_, rfl, _, rfl, p, _, 2, 2, rfl, rfl, upd_same, rfl, ?_⟩
      exact ⟨_, i + 1, z, _, t, by omega, rfl, upd_upd⟩
    · rintro σ2 H2 ⟨cl, i, g, m, t, hi, rfl, rfl⟩
      have hp : upd H p (handL c i g m t) p = some (handL c i g m t) := upd_same
      refine ⟨_, rfl, p, _, 2, _, rfl, rfl, sq hp, rfl, _, _, rfl, rfl, _, rfl, ?_⟩
      refine ite2 (fun _ => ?_) (fun _ => ?_)
      · refine ⟨_, rfl, p, _, 2, _, rfl, rfl, sq hp, rfl, .inl ⟨_, rfl, _, rfl, _, _, rfl, rfl, kn, ?_⟩⟩
        refine ⟨_, rfl, p, _, 2, _, rfl, rfl, sq hp, rfl, _, rfl, _, _, rfl, rfl, ⟨kn, kb⟩, _, rfl, p, _, 2, 2, rfl, rfl, hp, rfl, _, rfl, ?_⟩
        rw [upd_upd]
        exact q _ i _ m t (fmB k0).1 (fmB k0).2 hi
      · refine ⟨_, rfl, p, _, 4, _, rfl, rfl, sq hp, rfl, _, _, rfl, rfl, _, rfl, p, _, 4, 4, rfl, rfl, hp, rfl, ?_⟩
        rw [upd_upd]
        refine ⟨_, rfl, p, _, 3, _, rfl, rfl, sq upd_same, rfl, _, rfl, p, _, 4, _, rfl, rfl, sq upd_same, rfl, _, _, rfl, rfl, .inl (by decide), _, _, rfl, rfl, .inl ⟨_, rfl, _, _, rfl, rfl, .inr (by decide), .inl ⟨_, rfl, _, _, rfl, rfl, (show (2147483647 : Int) ≠ 0 by decide), ?_⟩⟩⟩
        have b1 := fmB (a := (m + 7919 * (t + 1)) * 48271) (k := 2147483647) (by decide)
        refine ⟨_, rfl, _, rfl, _, _, rfl, rfl, ⟨by decide, by decide⟩, _, _, rfl, rfl, _, _, rfl, rfl, .inl ⟨by omega, by omega⟩, .inl ⟨_, rfl, _, _, rfl, rfl, (show (2147483647 : Int) ≠ 0 by decide), ?_⟩⟩
        have b2 := fmB (a := ((m + 7919 * (t + 1)) * 48271).fmod 2147483647 * ((((m + 7919 * (t + 1)) * 48271).fmod 2147483647).fdiv 1009 + 69621)) (k := 2147483647) (by decide)
        refine ⟨_, rfl, _, rfl, _, _, rfl, rfl, ⟨by decide, by decide⟩, _, _, rfl, rfl, _, _, rfl, rfl, .inl ⟨by omega, by omega⟩, .inl ⟨_, rfl, _, _, rfl, rfl, (show (2147483399 : Int) ≠ 0 by decide), ?_⟩⟩
        refine ⟨_, rfl, _, _, rfl, rfl, ⟨by decide, by decide⟩, .inl ⟨_, rfl, _, rfl, _, _, rfl, rfl, kn, ?_⟩⟩
        exact q _ i g m (t + 1) (fmB k0).1 (fmB k0).2 hi
end
end Cn
namespace Cn
open PySem PySem.Spec PyProof.Rows L2
theorem small4000 {n : Nat} (h : n ≤ 4000) : n < sizeLine := Nat.lt_of_le_of_lt h (by decide)
theorem OpR.orr {X : Cx} {f : Value → Value → Sem Value} {r r2 : R2} (h : OpR X f r) (k : OpR X f r2) : OpR X f (fun x y H Q => r x y H Q ∨ r2 x y H Q) := by
  intro pins s σ H x y v u Q I rx ry q
  rcases q with q | q
  · exact h pins s σ H x y v u Q I rx ry q
  · exact k pins s σ H x y v u Q I rx ry q
/-! two things that are alike, of nesting at most n: flat ones and dicts are the same -/
def DictOk (H : Hp) (x : V) : Prop := ∃ a kvs, x = .ref a ∧ H a = some (.dK kvs) ∧ (kvs = [] ∨ ∃ k u, kvs = [(k, u)] ∧ (flatV u = true ∨ ∃ b, u = .ref b))
def EqG (H : Hp) : Nat → V → V → Prop
  | 0 => fun x y => x = y ∧ (flatV x = true ∨ DictOk H x)
  | n + 1 => fun x y => EqG H n x y ∨ ∃ a b xs ys, x = .ref a ∧ y = .ref b ∧ ((H a = some (.lst xs) ∧ H b = some (.lst ys)) ∨ (H a = some (.tup xs) ∧ H b = some (.tup ys))) ∧ xs.length ≤ 4000 ∧ Paired (EqG H n) xs ys
theorem pairedSelf {F : V → V → Prop} : ∀ {xs : List V}, (∀ x ∈ xs, F x x) → Paired F xs xs
  | [], _ => .nil
  | x :: xs, h => .cons (h x List.mem_cons_self) (pairedSelf fun y hy => h y (List.mem_cons_of_mem _ hy))
theorem eqG_same {H H' : Hp} (s : Same H H') : ∀ {n : Nat} {x y : V}, EqG H n x y → EqG H' n x y
  | 0, x, y, h => by
    obtain ⟨e, h | ⟨a, kvs, e2, ha, hk⟩⟩ := h
    · exact ⟨e, .inl h⟩
    · exact ⟨e, .inr ⟨a, kvs, e2, s _ _ ha, hk⟩⟩
  | n + 1, x, y, h => by
    rcases h with h | ⟨a, b, xs, ys, e1, e2, h, hl, hp⟩
    · exact .inl (eqG_same s h)
    · exact .inr ⟨a, b, xs, ys, e1, e2, h.imp (fun z => ⟨s _ _ z.1, s _ _ z.2⟩) (fun z => ⟨s _ _ z.1, s _ _ z.2⟩), hl, Paired.mapP hp fun _ _ z => eqG_same s z⟩
/-- told and due, alike: True comes out, new things apart nothing is changed -/
def spIs (n : Nat) : Sp := fun vs H Q _ => ∃ (x y : V), vs = [x, y] ∧ EqG H n x y ∧ ∀ H', Same H H' → Q (.bl true) H'
/-- all([..]) over two lists, or two tuples, of things alike -/
def tAllIs (n : Nat) : TE := fun σ H Q => ∃ a b xs ys, σ[0]? = some (some (.ref a)) ∧ σ[1]? = some (some (.ref b)) ∧ ((H a = some (.lst xs) ∧ H b = some (.lst ys)) ∨ (H a = some (.tup xs) ∧ H b = some (.tup ys))) ∧ xs.length ≤ 4000 ∧ Paired (EqG H n) xs ys ∧ ∀ H', Same H H' → Q (.bl true) H'
/-! types -/
theorem kit2 {K : PySem.W.Frag} {T : String} {b : Bool} (h : ((kitB T "tuple").bind fun a => if a then some true else kitB T "list") = some b) : PySem.W.kitAny K (.type T) [.type "tuple", .type "list"] = some b := by
  cases e : kitB T "tuple" with
  | none => rw [e] at h; cases h
  | some a =>
    rw [e] at h
    cases a with
    | true =>
      have hb : b = true := (Option.some.inj h).symm
      subst hb
      exact kitAny_cons (kit_ty e) (fun z => nomatch z) fun _ => rfl
    | false =>
      have h : kitB T "list" = some b := h
      refine kitAny_cons (kit_ty e) (fun _ => kitAny_cons (kit_ty h) (fun z => ?_) (fun z => z)) (fun z => nomatch z)
      rw [z]; exact kitAny_nil
/-- a thing that is no list and no tuple -/
theorem leafTy {K : PySem.W.Frag} {H : Hp} {x : V} (h : flatV x = true ∨ DictOk H x) : ∃ T b, TyX K H x (.type T) ∧ PySem.W.kitAny K (.type T) [.type "tuple", .type "list"] = some false ∧ PySem.W.kitOne K (.type T) (.type "bool") = some b := by
  rcases h with h | ⟨a, kvs, rfl, ha, _⟩
  · cases x with
    | non => exact ⟨"NoneType", false, .base .non, kit2 (by decide +kernel), kit_ty (by decide +kernel)⟩
    | bl b => exact ⟨"bool", true, .base (.bl b), kit2 (by decide +kernel), kit_ty (by decide +kernel)⟩
    | int i => exact ⟨"int", false, .base (.int i), kit2 (by decide +kernel), kit_ty (by decide +kernel)⟩
    | str z => exact ⟨"str", false, .base (.str z), kit2 (by decide +kernel), kit_ty (by decide +kernel)⟩
    | _ => cases h
  · exact ⟨"dict", false, .base (.dK ha), kit2 (by decide +kernel), kit_ty (by decide +kernel)⟩
theorem seqTy {K : PySem.W.Frag} {H : Hp} {a : Addr} {xs : List V} {tu : Bool} (h : if tu = true then H a = some (.tup xs) else H a = some (.lst xs)) : ∃ T, TyX K H (.ref a) (.type T) ∧ PySem.W.kitAny K (.type T) [.type "tuple", .type "list"] = some true ∧ PySem.W.kitOne K (.type T) (.type "tuple") = some tu := by
  cases tu with
  | true => exact ⟨"tuple", .base (.tup (by simpa using h)), kit2 (by decide +kernel), kit_ty (by decide +kernel)⟩
  | false => exact ⟨"list", .base (.lst (by simpa using h)), kit2 (by decide +kernel), kit_ty (by decide +kernel)⟩
end Cn
namespace Cn
open PySem PySem.Spec PyProof.Rows L2
/-! comprehensions over zip -/
section
variable {K : PySem.W.Frag} {a b D : Addr} {xs ys : List V} {g : TG} {tt : TT} {te : TE} {vs : List Nat} {σ : L2.St} {H1 : Hp} {Qd : Hp → Prop}
def ZipTurn (Pv : Nat → Hp → Prop) (D : Addr) (g : TG) (tt : TT) (te : TE) (vs : List Nat) (σ : L2.St) (i : Nat) (x y : V) : Prop := ∀ (T : Addr) (H : Hp), Pv i H → H T = none → g (.ref T) (wipe σ vs) (upd H T (.tup [x, y])) fun σ2 H2 => wipe σ2 vs = wipe σ vs ∧ tt σ2 H2 fun k H3 =>
  if k = true then te σ2 H3 fun z H4 => ∃ acc, H4 D = some (.lst acc) ∧ acc.length < sizeLine ∧ Pv (i + 1) (upd H4 D (.lst (acc ++ [z]))) else Pv (i + 1) H3
theorem lcZipL (hl : xs.length = ys.length) (Pv : Nat → Hp → Prop) (h0 : Pv 0 (upd H1 D (.lst []))) (hq : ∀ i H, Pv i H → SqL K H a xs ∧ SqL K H b ys) (hs : ∀ i x y, xs[i]? = some x → ys[i]? = some y → ZipTurn Pv D g tt te vs σ i x y) (hd : ∀ H, Pv xs.length H → Qd H) :
    ∃ W : Nat → Nat → Hp → Prop, (∃ m, W 0 m (upd H1 D (.lst []))) ∧ ∀ i m H, W i m H → ((Itz K a b).stop i H ∧ Qd H) ∨ ((Itz K a b).go i H ∧ ∃ Nx : Hp → Prop, (∀ H', Nx H' → ∃ m', m' < m ∧ W (i + 1) m' H') ∧ ∀ x H', (Itz K a b).yld i H x H' → g x (wipe σ vs) H' fun σ2 H2 => wipe σ2 vs = wipe σ vs ∧ tt σ2 H2 fun k H3 =>
      if k = true then te σ2 H3 fun z H4 => ∃ acc, H4 D = some (.lst acc) ∧ acc.length < sizeLine ∧ Nx (upd H4 D (.lst (acc ++ [z]))) else Nx H3) := by
  refine ⟨fun i m H => m = xs.length - i ∧ i ≤ xs.length ∧ Pv i H, ⟨_, rfl, Nat.zero_le _, h0⟩, ?_⟩
  rintro i m H ⟨rfl, hi, p⟩
  obtain ⟨qa, qb⟩ := hq i H p
  rcases Nat.lt_or_ge i xs.length with lt | ge
  · have ea : xs[i]? = some xs[i] := List.getElem?_eq_getElem lt
    have lt2 : i < ys.length := by omega
    have eb : ys[i]? = some ys[i] := List.getElem?_eq_getElem lt2
    refine .inr ⟨⟨xs, ys, _, _, qa, qb, ea, eb⟩, Pv (i + 1), fun H' p' => ⟨xs.length - (i + 1), by omega, rfl, lt, p'⟩, ?_⟩
    rintro v H' ⟨T, u, z, rfl, nT, rfl, k1, k2⟩
    exact hs i u z (k1 xs qa) (k2 ys qb) T H p nT
  · have e : i = xs.length := by omega
    subst e
    exact .inl ⟨⟨xs, ys, qa, qb, .inl (Nat.le_refl _)⟩, hd H p⟩
theorem lcZipT (hl : xs.length = ys.length) (Pv : Nat → Hp → Prop) (h0 : Pv 0 (upd H1 D (.lst []))) (hq : ∀ i H, Pv i H → SqT K H a xs ∧ SqT K H b ys) (hs : ∀ i x y, xs[i]? = some x → ys[i]? = some y → ZipTurn Pv D g tt te vs σ i x y) (hd : ∀ H, Pv xs.length H → Qd H) :
    ∃ W : Nat → Nat → Hp → Prop, (∃ m, W 0 m (upd H1 D (.lst []))) ∧ ∀ i m H, W i m H → ((RZ.ItzT K a b).stop i H ∧ Qd H) ∨ ((RZ.ItzT K a b).go i H ∧ ∃ Nx : Hp → Prop, (∀ H', Nx H' → ∃ m', m' < m ∧ W (i + 1) m' H') ∧ ∀ x H', (RZ.ItzT K a b).yld i H x H' → g x (wipe σ vs) H' fun σ2 H2 => wipe σ2 vs = wipe σ vs ∧ tt σ2 H2 fun k H3 =>
      if k = true then te σ2 H3 fun z H4 => ∃ acc, H4 D = some (.lst acc) ∧ acc.length < sizeLine ∧ Nx (upd H4 D (.lst (acc ++ [z]))) else Nx H3) := by
  refine ⟨fun i m H => m = xs.length - i ∧ i ≤ xs.length ∧ Pv i H, ⟨_, rfl, Nat.zero_le _, h0⟩, ?_⟩
  rintro i m H ⟨rfl, hi, p⟩
  obtain ⟨qa, qb⟩ := hq i H p
  rcases Nat.lt_or_ge i xs.length with lt | ge
  · have ea : xs[i]? = some xs[i] := List.getElem?_eq_getElem lt
    have lt2 : i < ys.length := by omega
    have eb : ys[i]? = some ys[i] := List.getElem?_eq_getElem lt2
    refine .inr ⟨⟨xs, ys, _, _, qa, qb, ea, eb⟩, Pv (i + 1), fun H' p' => ⟨xs.length - (i + 1), by omega, rfl, lt, p'⟩, ?_⟩
    rintro v H' ⟨T, u, z, rfl, nT, rfl, k1, k2⟩
    exact hs i u z (k1 xs qa) (k2 ys qb) T H p nT
  · have e : i = xs.length := by omega
    subst e
    exact .inl ⟨⟨xs, ys, qa, qb, .inl (Nat.le_refl _)⟩, hd H p⟩
end
theorem pairedAt {F : V → V → Prop} : ∀ {xs ys : List V}, Paired F xs ys → ∀ {i : Nat} {x y : V}, xs[i]? = some x → ys[i]? = some y → F x y
  | _, _, .nil, i, x, y, h, _ => by simp at h
  | _, _, .cons h t, 0, x, y, h1, h2 => by
    cases (Option.some.inj h1)
    cases (Option.some.inj h2)
    exact h
  | _, _, .cons _ t, i + 1, x, y, h1, h2 => pairedAt t (i := i) (by simpa using h1) (by simpa using h2)
section
variable {P : Program} {w : World} {K : PySem.W.Frag} {mg : Str → Option Value} {base : Heap}
structure IsTxt (mg : Str → Option Value) : Prop where
  inst : mg "isinstance" = none
  tup : mg "tuple" = none
  lst : mg "list" = none
  bool : mg "bool" = none
  len : mg "len" = none
  all : mg "all" = none
  zip : mg "zip" = none
/-- the turn of the comprehension, by the promise of the next depth -/
theorem isTurn {n : Nat} {K' : PySem.W.Frag} {D : Addr} {xs ys : List V} {H0 : Hp} {u0 u1 z2 z3 : Option V} (hp : Paired (EqG H0 n) xs ys) (hx : xs.length ≤ 4000) (nD : H0 D = none) (i : Nat) (x y : V) (h1 : xs[i]? = some x) (h2 : ys[i]? = some y) :
    ZipTurn (fun i H' => Same H0 H' ∧ H' D = some (.lst ((List.replicate i true).map V.bl))) D (gTup K' 2 (gCons (gName 2) (gCons (gName 3) gNil))) tYes (tCall (spIs n) [] (fun _ _ _ => False) (tCons (tVar 2) (tCons (tVar 3) tNil))) [2, 3] [u0, u1, z2, z3] i x y := by
  rintro T H ⟨sm, hD⟩ nT
  have hi : i < 4000 := Nat.lt_of_lt_of_le (List.getElem?_eq_some_iff.mp h1).1 hx
  have sT : Same H (upd H T (.tup [x, y])) := smUpd nT
  refine ⟨T, [x, y], rfl, .inl (.inl upd_same), rfl, x, [y], rfl, y, [], rfl, rfl, rfl, x, rfl, y, rfl, x, y, rfl, eqG_same (sm.trans sT) (pairedAt hp h1 h2), fun H' s' => ?_⟩
  have hD' : H' D = some (.lst ((List.replicate i true).map V.bl)) := s' _ _ (sT _ _ hD)
  refine ⟨_, hD', by rw [List.length_map, List.length_replicate]; exact small4000 (by omega), fun b o e => ?_, ?_⟩
  · have nb : b ≠ D := fun z => by rw [z, nD] at e; cases e
    rw [upd_ne nb]
    exact s' _ _ (sT _ _ (sm _ _ e))
  · rw [upd_same, show List.replicate (i + 1) true = List.replicate i true ++ [true] from List.replicate_succ', List.map_append]
    rfl
theorem allRep (n : Nat) : (List.replicate n true).all id = true := by
  induction n with
  | zero => rfl
  | succ n ih => rw [List.replicate_succ, List.all_cons, ih]; rfl
theorem sameT {K : PySem.W.Frag} {H H' : Hp} {a : Addr} {xs : List V} (s : Same H H') (h : SqT K H a xs) : SqT K H' a xs := h.imp (fun r => r.imp (s _ _) (fun ⟨o, e⟩ => ⟨o, s _ _ e⟩)) (fun z => z)
theorem eqG_up {H : Hp} {n m : Nat} {x y : V} (h : EqG H n x y) (hm : n ≤ m) : EqG H m x y := by
  induction m with
  | zero =>
    have e : n = 0 := by omega
    rw [← e]; exact h
  | succ m ih =>
    by_cases e : n = m + 1
    · rw [← e]; exact h
    · exact .inl (ih (by omega))
theorem eqG_cases {H : Hp} : ∀ {n : Nat} {x y : V}, EqG H n x y → (x = y ∧ (flatV x = true ∨ DictOk H x)) ∨ ∃ m, n = m + 1 ∧ ∃ a b xs ys, x = .ref a ∧ y = .ref b ∧ ((H a = some (.lst xs) ∧ H b = some (.lst ys)) ∨ (H a = some (.tup xs) ∧ H b = some (.tup ys))) ∧ xs.length ≤ 4000 ∧ Paired (EqG H m) xs ys
  | 0, x, y, h => .inl h
  | n + 1, x, y, h => by
    rcases h with h | ⟨a, b, xs, ys, h⟩
    · rcases eqG_cases h with z | ⟨m, e, a, b, xs, ys, e1, e2, e3, e4, e5⟩
      · exact .inl z
      · exact .inr ⟨n, rfl, a, b, xs, ys, e1, e2, e3, e4, Paired.mapP e5 fun _ _ q => eqG_up q (by omega)⟩
    · exact .inr ⟨n, rfl, a, b, xs, ys, h⟩
/-- by the depth: nothing at 0 -/
def spJ : Nat → Sp
  | 0 => fun _ _ _ _ => False
  | n + 1 => spIs n
/-- the same flat thing, the same dict, compared -/
theorem leafEq {K : PySem.W.Frag} {H : Hp} {x : V} {Q : VK} (h : flatV x = true ∨ DictOk H x) (k : Q (.bl true) H) : rEq x x H Q ∨ rEqV K x x H Q := by
  rcases h with h | ⟨a, kvs, rfl, ha, hk⟩
  · left
    refine ⟨?_, ?_⟩
    · cases x <;> first | rfl | cases h
    · rw [decide_eq_true rfl]; exact k
  · right
    refine ⟨1, by decide, .inr ⟨a, a, kvs, kvs, rfl, rfl, ha, ha, rfl, fun q hq => ?_⟩, k⟩
    rcases hk with rfl | ⟨kk, u, rfl, hu⟩
    · cases hq
    · obtain rfl := List.mem_singleton.mp hq
      refine ⟨u, ?_, ?_⟩
      · show valV [(kk, u)] kk = some u
        unfold valV
        simp
      · rcases hu with hu | ⟨b, rfl⟩
        · refine .inl ⟨rfl, ?_⟩
          cases u <;> first | rfl | cases hu
        · exact .inr (.inl ⟨b, rfl, rfl⟩)
end
end Cn
namespace Cn
open PySem PySem.Spec PyProof.Rows L2
section
open AutoSeq1 (wpAny_loadPart')
theorem meets_enum_tup (l : Addr) (items : Array Value) (n : Nat) (dct : Option Addr) (sl : Array (Option Value)) :
    Meets (Builtin.«enumerate.__new__» ⟨[.type "enumerate", .ref l], []⟩) (fun _ R s => s.heap.get? l = some { cls := .type "tuple", dict := dct, data := .seq items n, slots := sl } ∧
      R (.ok (.ret (.ref (s.heap.push { cls := .type "tuple_iterator", data := .fields #[.ref l, .int 0 0] }).objs.size)))
        { s with heap := (s.heap.push { cls := .type "tuple_iterator", data := .fields #[.ref l, .int 0 0] }).push { cls := .type "enumerate", data := .fields #[.none, .bool false, .ref s.heap.objs.size, rawInt 0, .none, .none] } }) :=
  .of_wp fun prog w A R s h => by
    obtain ⟨hp, g, d, tk, os⟩ := s; obtain ⟨hl, h⟩ := h
    have hsub := sub_enumerate
    have hL : Heap.IsTuple (Shared.heap ⟨hp, g, d, tk, os⟩) l items := ⟨_, hl, rfl, n, rfl⟩
    wp_walk using wpAny_loadPart' hl
    refine wpAny_stack_any fun st => wpAny_pure ?_
    split
    · rename_i c _ _ _ _ _
      cases (c == Value.type "enumerate")
      · wp_walk using wpAny_loadPart' hl, wpAny_pyIter_tuple hL
        exact ⟨_, rfl, h⟩
      · wp_walk using wpAny_loadPart' hl, wpAny_pyIter_tuple hL
        exact ⟨_, rfl, h⟩
    · wp_walk using wpAny_loadPart' hl, wpAny_pyIter_tuple hL
      exact ⟨_, rfl, h⟩
end
section
variable {prog : Program} {w : World} {A : Around} {E : Value → Shared → Prop} {s : Shared}
theorem call_enum_tup {l : Addr} {items : Array Value} {Q : Value → Shared → Prop} (hL : s.heap.IsTuple l items)
    (h : ∀ h', IsEnum h' (s.heap.objs.size + 1) s.heap.objs.size 0 .none → h'.IsTupleIter s.heap.objs.size l 0 → h'.objs.size = s.heap.objs.size + 2 →
      (∀ b o, s.heap.get? b = some o → h'.get? b = some o) → Q (.ref (s.heap.objs.size + 1)) { s with heap := h' }) :
    wpAny (model prog w) A (call (.type "enumerate") [.ref l]) Q E s := by
  obtain ⟨⟨c, dct, dt, sl⟩, hl, hc, n, hd⟩ := hL
  replace hc : c = .type "tuple" := hc
  replace hd : dt = .seq items n := hd
  subst hc hd
  refine callType_new F.called_enumerate (by decide) (F.typeCall_enumerate_1 _) (F.newCall_enumerate_1 _) (fun obj => F.args_object_init_2 obj _) F.entry_enumerate_new
    (meets_enum_tup l items n dct sl) ⟨hl, ?_⟩
  have hz : (s.heap.push { cls := .type "tuple_iterator", data := .fields #[.ref l, .int 0 0] }).objs.size = s.heap.objs.size + 1 := Heap.size_push ..
  show _ ∧ _
  rw [hz]
  have he : IsEnum ((s.heap.push { cls := .type "tuple_iterator", data := .fields #[.ref l, .int 0 0] }).push { cls := .type "enumerate", data := .fields #[.none, .bool false, .ref s.heap.objs.size, rawInt 0, .none, .none] }) (s.heap.objs.size + 1) s.heap.objs.size 0 .none := by
    have := Heap.get?_push_size (s.heap.push { cls := .type "tuple_iterator", data := .fields #[.ref l, .int 0 0] }) (o := { cls := .type "enumerate", data := .fields #[.none, .bool false, .ref s.heap.objs.size, rawInt 0, .none, .none] }) rfl
    rw [hz] at this; exact this
  refine ⟨⟨_, he, rfl⟩, h _ he ⟨_, Heap.get?_push_of_some _ (Heap.get?_push_size _ rfl), rfl, rfl⟩ (by rw [Heap.size_push, hz]) fun b o x => Heap.get?_push_of_some _ (Heap.get?_push_of_some _ x)⟩
theorem enumEndT {e it l : Addr} {i : Nat} {c : Int} {items : Array Value} {old : Value} {Q : Option Value → Shared → Prop} (hh : A.handled = none) (he : IsEnum s.heap e it c old) (hit : s.heap.IsTupleIter it l i) (hl : s.heap.IsTuple l items) (hx : items[i]? = none)
    (hQ : ∀ h', Heap.ExtBut it s.heap h' → Q none { s with heap := h' }) : wpAny (model prog w) A (pyNext (.ref e)) Q E s := by
  have hT : s.TypeIs (.ref e) "enumerate" := ⟨_, he, rfl⟩
  unfold pyNext
  refine wpAny_bind (wpAny_attempt (wpAny_callSpecial?_slot (name := Str.ofString "__next__") hT F.slot_enumerate_next
    (wpAny_call_entry F.slot_enumerate_next hT F.entry_enumerate_next ?_ (F.args_enumerate_next_1 _))))
  show wpAny _ _ (field (.ref e) 2 >>= _) _ _ _
  refine wpAny_bind (wpAny_field he rfl (x := .ref it) rfl ?_)
  refine wpAny_bind (wpAny_nextOf_tuple_end (A := A.in1) hh hit hl hx fun h' x he' hx' => ?_)
  obtain ⟨o, ho, hc⟩ := hx'
  refine wpAny_bind (wpAny_isInstance (T := "StopIteration") (b := true) ⟨o, ho, hc⟩ isSubtype_stop ?_)
  exact wpAny_pure (hQ _ he')
end
/-- the tuple at a, each item in a new pair -/
def IteT (K : PySem.W.Frag) (a : Addr) : It :=
  ⟨fun i H => ∃ (xs : List V) (x : V), SqT K H a xs ∧ xs[i]? = some x, fun i H v H' => ∃ T x, v = .ref T ∧ H T = none ∧ H' = upd H T (.tup [.int (i : Nat), x]) ∧ ∀ xs, SqT K H a xs → xs[i]? = some x, fun i H => ∃ xs : List V, SqT K H a xs ∧ xs.length ≤ i⟩
theorem turn_enumT {P : Program} {w : World} {K : PySem.W.Frag} {elts : List Expr} {kk : Nat} {tpos : Pos} (a e it : Addr) :
    Turn P w K (.Tuple elts kk tpos) (IteT K a) [e, it] e (fun i h => (∃ old, IsEnum h e it ((i : Nat) : Int) old) ∧ h.IsTupleIter it a i ∧ e ≠ it ∧ a ≠ it ∧ a ≠ e) where
  mem := by simp
  obj := fun i h st b hb => by
    obtain ⟨⟨old, he⟩, ⟨o, ho, hc, hd⟩, _⟩ := st
    have e' : b = e ∨ b = it := by simpa using hb
    rcases e' with z | z
    · rw [z]; exact ⟨_, he, fun v q => nomatch q⟩
    · rw [z]; exact ⟨o, ho, fun v q => by rw [hd] at q; cases q⟩
  keep := fun i h h' st k => let ⟨⟨old, he⟩, hi, hne⟩ := st; ⟨⟨old, k e (by simp) _ he⟩, hi.at fun o q => k it (by simp) o q, hne⟩
  item := by
    intro X hP hw hK hc i pins s σ H E I hf st hg
    subst hP hw hK
    obtain ⟨⟨old, he⟩, hit, hne, hai, hae⟩ := st
    obtain ⟨xs, x, hq, hx⟩ := hg
    obtain ⟨its, rv, p, hz⟩ := I.tuple hq
    obtain ⟨u, hu, ru⟩ := rv.get hx
    have hel : e < s.heap.objs.size := Heap.lt_size he
    have hil : it < s.heap.objs.size := by obtain ⟨_, q, _⟩ := hit; exact Heap.lt_size q
    have hlt : i < its.toArray.size := by
      have := (List.getElem?_eq_some_iff.mp hu).1
      simpa using this
    refine wpAny_pyNext_enum_itemC (c := ((i : Nat) : Int)) (Draws.tuple (A := X.A.in1) (I.ok.hd hc) it a hai its.toArray) he ⟨hit, p⟩ hlt hne (by simp [hne, Ne.symm hae]) fun x' h' tk hP ho hs' hT hsz hk => ?_
    have ex : x' = u := by
      have e1 : its.toArray[i]? = some u := by simpa using hu
      rw [e1] at hP
      exact (Option.some.inj hP).symm
    subst ex
    refine ⟨_, rfl, wpAny_letOwnedTupleGo_enum (s := { s with heap := h', toks := tk + 1 }) ho fun h'' he' sb => ?_⟩
    have hT2 : h''.get? s.heap.objs.size = some { cls := .type "tuple", data := .seq #[.int i tk, x'] } := (sb.2 _ (Nat.ne_of_gt hel)).trans hT
    have new : ObjOk X.prog X.w (upd H s.heap.objs.size (.tup [.int (i : Nat), x])) h'' s.heap.objs.size (.tup [.int (i : Nat), x]) :=
      ⟨by show 2 ≤ sizeLine; decide, [.int i tk, x'], .cons ⟨_, rfl⟩ (.cons ru .nil), ⟨_, hT2, rfl, _, rfl⟩⟩
    have I1 : Inv X pins σ (upd H s.heap.objs.size (.tup [.int (i : Nat), x])) { s with heap := h'', toks := tk + 1 } :=
      I.turnedNew (ch := [e, it]) (fun b ob hb q => (sb.2 b (fun z => hb (by simp [z]))).trans (hk b ob (fun z => hb (by simp [z])) (fun z => hb (by simp [z])) q)) hf (Nat.le_refl _) new
    refine ⟨.ref s.heap.objs.size, _, I1, rfl, ⟨_, x, rfl, I.hok.fresh (Nat.le_refl _), rfl, fun ys hy => by rw [I.tuple_inj hy hq]; exact hx⟩, ⟨⟨x', ?_⟩, hs'.1.at fun o q => (sb.2 it (Ne.symm hne)).trans q, hne, hai, hae⟩, fun b hb => ?_⟩
    · have e1 : ((i + 1 : Nat) : Int) = (i : Int) + 1 := by omega
      rw [e1]; exact he'
    · have hb' : b < s.heap.objs.size := by
        have e' : b = e ∨ b = it := by simpa using hb
        rcases e' with z | z
        · rw [z]; exact hel
        · rw [z]; exact hil
      rw [upd_ne (Nat.ne_of_lt hb')]
      exact (hf b hb).1
  done := by
    intro X hP hw hK hc i pins s σ H E I hf st hg
    subst hP hw hK
    obtain ⟨⟨old, he⟩, hit, hne, hai, hae⟩ := st
    obtain ⟨xs, hq, hx⟩ := hg
    obtain ⟨its, rv, p, hz⟩ := I.tuple hq
    obtain ⟨f0, f1, f2, f3, f4, f5⟩ := hf it (by simp)
    have hl := rv.length
    refine enumEndT (I.ok.hd hc) he hit p (by simp; omega) fun h' eb => ⟨rfl, I.turned (t' := s.toks) (fun b o hb q => eb b o hb q) f0 f1 f3 f4 f5⟩
  self := fun A i s Q E st h => let ⟨⟨_, he⟩, _⟩ := st; wpAny_pyIter_enum he h
def iEnumT (K : PySem.W.Frag) (ta : TA) : TI := fun σ H R => ta σ H fun vs H1 => ∃ a xs, vs = [.ref a] ∧ SqT K H1 a xs ∧ R (IteT K a) H1
theorem pi_enumT {X : Cx} {e : Expr} {ta : TA} {p pos tpos : Pos} {elts : List Expr} {kk : Nat} (hg : Gl X "enumerate") (hm : X.mg "enumerate" = none) (ha : PA X [e] ta) (hs : starEach [e] X.env = [(false, eval e X.env)] := by rfl) :
    PI X (.Tuple elts kk tpos) (.Call (.Name "enumerate" p) [e] [] pos) (iEnumT X.K ta) := by
  refine ⟨fun pins s σ H R I h => ?_⟩
  refine Call_ (ld_blt I hg hm boot_enumerate (PyProof.Rows.callWith_type1 (thn (ha.run pos pins s σ H _ I h) fun us s1 ⟨vs, H1, I1, r1, q1⟩ => ?_) hs rfl))
  obtain ⟨a, xs, ex, hq, q⟩ := q1
  subst ex
  cases r1 with
  | cons r rr =>
    cases rr
    cases r
    obtain ⟨its, rv, p', hz⟩ := I1.tuple hq
    have hal : a < s1.heap.objs.size := by obtain ⟨_, q, _⟩ := p'; exact Heap.lt_size q
    refine call_enum_tup p' fun h' he hit hsz hk => wpAny_pyIter_enum he ?_
    have I2 : Inv X pins σ H1 { s1 with heap := h' } := I1.kept (t' := s1.toks) hk
    refine ⟨s1.heap.objs.size + 1, [s1.heap.objs.size + 1, s1.heap.objs.size], _, _, H1, rfl, I2, turn_enumT a (s1.heap.objs.size + 1) s1.heap.objs.size, ⟨⟨.none, he⟩, hit, Nat.succ_ne_self _, Nat.ne_of_lt hal, Nat.ne_of_lt (Nat.lt_succ_of_lt hal)⟩, fun b hb => ?_, q⟩
    have e' : b = s1.heap.objs.size + 1 ∨ b = s1.heap.objs.size := by simpa using hb
    have hle : s1.heap.objs.size ≤ b := by
      rcases e' with z | z
      · rw [z]; exact Nat.le_add_right _ _
      · rw [z]; exact Nat.le_refl _
    exact I1.fpOk hle (I1.hok.fresh hle)
theorem walk_enumT {K : PySem.W.Frag} {a : Addr} {xs : List V} : Walk (IteT K a) xs.length (fun H => SqT K H a xs) (YPair (fun i => some (.int (i : Nat))) (fun i => xs[i]?)) := by
  refine ⟨fun i _ hi q => ⟨xs, xs[i], q, by simp [hi]⟩, fun _ q => ⟨xs, q, Nat.le_refl _⟩, fun i H v H' _ q y => ?_⟩
  obtain ⟨T, x, h1, h2, h3, h4⟩ := y
  exact ⟨T, .int (i : Nat), x, h1, h2, h3, rfl, h4 xs q⟩
/-! t.index(y) -/
def rTidx (K : PySem.W.Frag) : V → List V → Hp → VK → Prop := fun x xs H Q => ∃ (a : Addr) (ys : List V) (y : V) (j : Nat) (z : V), x = V.ref a ∧ xs = [y] ∧ SqT K H a ys ∧ flatV y = true ∧ ys.all flatV = true ∧ ys[j]? = some z ∧ eqV z y = true ∧
  (∀ (m : Nat) (z' : V), m < j → ys[m]? = some z' → eqV z' y = false) ∧ Q (.int (j : Nat)) H
theorem mt_tidx {X : Cx} : MtR X "tuple.index" (rTidx X.K) := by
  intro pins s σ H x xs v us Q I rx rxs h
  obtain ⟨a, ys, y, j, z, rfl, rfl, hs, fy, fys, hz, hzj, hno, q⟩ := h
  cases rx
  cases rxs with
  | cons ry rt =>
    rename_i uy ut
    cases rt
    obtain ⟨its, rv, pl, hlen⟩ := I.tuple hs
    obtain ⟨⟨cls, dd, dt, sl⟩, ho, hc, n, hd⟩ := pl
    simp only at hc hd
    subst hc hd
    obtain ⟨u, hu, ru⟩ := rv.get hz
    obtain ⟨hjl, hje⟩ := List.getElem?_eq_some_iff.mp hu
    have hvl := rv.length
    have hj : j < its.toArray.size := by simpa using hjl
    refine call_meets PySem.F.slot_tuple_index ⟨_, ho, rfl⟩ PySem.F.entry_tuple_index (PySem.F.args_tuple_index_2 _ _) (TI.tuple_indexAt a its.toArray n dd sl uy (eqU y) j hj ?_ ?_)
      ⟨ho, fun u' hu' => mem_eqAt ry fy rv fys u' (by simpa using hu'), ⟨.int (j : Nat), H, I.tok _, ⟨_, rfl⟩, q⟩⟩
    · have e1 : its.toArray[j] = u := by simpa using hje
      rw [e1, eqU_of ru (flat_at fys hz)]
      exact hzj
    · intro m hm hmj
      have hml : m < its.length := by simpa using hm
      have hmy : m < ys.length := by omega
      have hy' : ys[m]? = some ys[m] := List.getElem?_eq_getElem hmy
      obtain ⟨u2, hu2, ru2⟩ := rv.get hy'
      obtain ⟨_, hme⟩ := List.getElem?_eq_some_iff.mp hu2
      have e1 : its.toArray[m] = u2 := by simpa using hme
      rw [e1, eqU_of ru2 (flat_at fys hy')]
      exact hno m _ hmj hy'
/-! sorted(t), whole numbers -/
section
variable {prog : Program} {w : World} {A : Around} {E : Value → Shared → Prop} {s : Shared}
theorem collect_tup {l : Addr} {vs : List Value} {Q : List Value → Shared → Prop} (hl : s.heap.IsTuple l vs.toArray)
    (h : Q vs { s with heap := (s.heap.push (seqObj "list" #[] 0)).update s.heap.objs.size (Obj.mapSeq (· ++ vs.toArray)) }) (hsz : vs.length ≤ sizeLine) :
    wpAny (model prog w) A (collect (.ref l)) Q E s := by
  obtain ⟨o, ho, hc, n, hd⟩ := id hl
  unfold collect
  refine wpAny_bind (wpAny_runValue (codeAny_builtin entry_proto_collect' ?_))
  show wpAny _ _ (do again (.builtin "list.__iadd__" ⟨[← newList [], .ref l], []⟩)) _ _ s
  refine wpAny_bind (wpAny_newList (wpAny_pure ⟨Code.quiet_builtin _ (by decide +kernel), codeAny_builtin entry_list_iadd' ?_⟩))
  show wpAny _ _ (Builtin.List.listExtendWith (.ref s.heap.objs.size) (.ref l) (.ref s.heap.objs.size)) _ _ { s with heap := s.heap.push (seqObj "list" #[] 0) }
  unfold Builtin.List.listExtendWith
  have ho' : (s.heap.push (seqObj "list" #[] 0)).get? l = some o := Heap.get?_push_of_some _ ho
  refine wpAny_bind (wpAny_typeOf (T := "tuple") ⟨o, ho', hc⟩ ?_)
  have ht : (Value.type "tuple" == Value.type "tuple") = true := by rfl
  rw [if_pos (by rw [ht]; simp)]
  refine wpAny_bind (listItems_at ho' hd ?_)
  refine wpAny_bind (listItems_at (xs := #[]) (n := 0) (Heap.get?_push_size _ rfl) rfl ?_)
  rw [if_neg (by simp)]
  refine wpAny_bind (listUpdate_at (xs := #[]) (n := 0) (Heap.get?_push_size _ rfl) rfl ?_ (Nat.zero_le _) (by show (#[] ++ vs.toArray).size ≤ sizeLine + 1; simp only [Array.size_append, List.size_toArray, List.length_nil]; omega))
  refine wpAny_pure ?_
  show wpAny (model prog w) A (do
      let o ← load s.heap.objs.size
      match o.data with
      | .seq xs _ => pure xs.toList
      | _ => unsupported "internal:collect") Q E { s with heap := (s.heap.push (seqObj "list" #[] 0)).update s.heap.objs.size (Obj.mapSeq (· ++ vs.toArray)) }
  refine wpAny_bind (wpAny_load (get?_update_seq (Heap.get?_push_size _ rfl) _) ?_)
  show wpAny _ _ (pure ((#[] : Array Value) ++ vs.toArray).toList) Q E _
  rw [show ((#[] : Array Value) ++ vs.toArray).toList = vs by simp]
  exact wpAny_pure h
theorem sorted_tupI {l : Addr} {vs : List Value} {ns : List Int} {Q : Value → Shared → Prop} (hl : s.heap.IsTuple l vs.toArray) (hI : IntsAre vs ns) (h64 : vs.length < 64)
    (h : ∀ (out : Array Value) (ns' : List Int), IntsAre out.toList ns' → ns'.Perm ns → ns'.Pairwise (· ≤ ·) → Q (.ref (s.heap.objs.size + 1)) { s with heap := sortedAll s.heap vs out }) :
    wpAny (model prog w) A (call (.builtin "sorted") [.ref l]) Q E s := by
  refine Calls.call_function_entry kind_sorted plain_sorted entry_sorted (args_sorted1 _) ?_
  unfold Builtin.«sorted»
  refine wpAny_bind (m := checkCount "sorted" 1 1 _) (wpAny_pure ?_)
  refine wpAny_bind (collect_tup hl ?_ (small64 h64))
  refine wpAny_bind (wpAny_newList ?_)
  have hsz : ((s.heap.push (seqObj "list" #[] 0)).update s.heap.objs.size (Obj.mapSeq (· ++ vs.toArray))).objs.size = s.heap.objs.size + 1 := by
    rw [Heap.size_update, size_push']
  have hoL : (((s.heap.push (seqObj "list" #[] 0)).update s.heap.objs.size (Obj.mapSeq (· ++ vs.toArray))).push (seqObj "list" vs.toArray 0)).get? (s.heap.objs.size + 1) = some (seqObj "list" vs.toArray 0) := by
    rw [← hsz]; exact Heap.get?_push_size _ rfl
  show wpAny _ _ _ _ _ { s with heap := ((s.heap.push (seqObj "list" #[] 0)).update s.heap.objs.size (Obj.mapSeq (· ++ vs.toArray))).push (seqObj "list" vs.toArray 0) }
  rw [hsz]
  refine wpAny_bind (wpAny_holding (wpAny_call_entry slot_list_sort ⟨_, hoL, rfl⟩ entry_list_sort (list_sort_tree hoL hI h64 fun out ns' a1 a2 a3 => ⟨_, rfl, ?_⟩) (args_list_sort _)))
  exact wpAny_pure ⟨_, rfl, h out ns' a1 a2 a3⟩
end
def rSortTup (K : PySem.W.Frag) : List V → Hp → VK → Prop := fun vs H Q => ∃ (a : Addr) (ns : List Int), vs = [V.ref a] ∧ SqT K H a (ns.map V.int) ∧ ns.length < 64 ∧
  ∀ (ns' : List Int) (p : Addr), ns'.Perm ns → ns'.Pairwise (· ≤ ·) → H p = none → Q (.ref p) (upd H p (.lst (ns'.map V.int)))
theorem cr_sortTup {X : Cx} : CallR X (.builtin "sorted") (rSortTup X.K) := by
  intro pins s σ H vs us Q I r h
  obtain ⟨a, ns, rfl, hs, h64, q⟩ := h
  obtain ⟨its, rv, hl, _⟩ := I.tuple hs
  rw [Vals.ref1 r]
  have hi := rv.ints
  refine sorted_tupI hl hi (by rw [hi.length]; exact h64) fun out ns' h1 h2 h3 => ?_
  obtain ⟨ep, he'⟩ := PyProof.Rows.sortedAll_at s.heap its out
  have hlen : (ns'.map V.int).length ≤ sizeLine := by rw [List.length_map, h2.length_eq]; exact small64 h64
  exact ⟨.ref _, upd H (s.heap.objs.size + 1) (.lst (ns'.map V.int)), I.laid (t' := s.toks) (fun _ _ => PyProof.Rows.sortedAll_old) (Nat.le_succ _) ⟨hlen, out.toList, ep, vals_of_ints h1, he'⟩, rfl, q ns' _ h2 h3 (I.hok.fresh (Nat.le_succ _))⟩
/-! tuples of which it is known that they have no dict of their own: t.index(y) -/
def TD (H : Hp) (a : Addr) (xs : List V) : Prop := ∃ o : Obj, o.dict = none ∧ H a = some (.frz o (.tup xs))
theorem tdT {K : PySem.W.Frag} {H : Hp} {a : Addr} {xs : List V} (h : TD H a xs) : SqT K H a xs := by
  obtain ⟨o, _, e⟩ := h
  exact .inl (.inr ⟨o, e⟩)
theorem tdTy {K : PySem.W.Frag} {H : Hp} {a : Addr} {xs : List V} (h : TD H a xs) : TyX K H (.ref a) (.type "tuple") := by
  obtain ⟨o, _, e⟩ := h
  exact .fTuple e
theorem tdSame {H H' : Hp} {a : Addr} {xs : List V} (s : Same H H') (h : TD H a xs) : TD H' a xs := by
  obtain ⟨o, d, e⟩ := h
  exact ⟨o, d, s _ _ e⟩
abbrev tupO (its : List Value) : Obj := { cls := .type "tuple", data := .seq its.toArray }
theorem tdNew {H : Hp} {a : Addr} {its : List Value} {xs : List V} : TD (upd H a (.frz (tupO its) (.tup xs))) a xs := ⟨tupO its, rfl, upd_same⟩
/-- a new tuple, its dict known to be none -/
theorem laidTD {X : Cx} {pins : List (Addr × Obj)} {σ : L2.St} {H : Hp} {s : Shared} {h' : Heap} {tk : Nat} {xs : List V} {its : List Value} (I : Inv X pins σ H { s with heap := h', toks := tk }) (r : Vals xs its) (hz : xs.length ≤ sizeLine) :
    Inv X pins σ (upd H h'.objs.size (.frz (tupO its) (.tup xs))) { s with heap := h'.push (tupO its), toks := tk } := by
  have g : (h'.push (tupO its)).get? h'.objs.size = some (tupO its) := Heap.get?_push_size _ rfl
  exact I.laid (t' := tk) (fun b o e => Heap.get?_push_of_some _ e) (Nat.le_refl _) ⟨g, hz, its, r, ⟨_, g, rfl, 0, rfl⟩⟩
section
variable {X : Cx}
def rTupD (K : PySem.W.Frag) : List V → Hp → VK → Prop := fun xs H Q => ∃ p ys, xs = [.ref p] ∧ SqL K H p ys ∧ ∀ l H', Same H H' → TD H' l ys → Q (.ref l) H'
/-- tuple(a list) -/
theorem call_tupD : CallR X (.type "tuple") (rTupD X.K) := by
  intro pins s σ H xs us Q I r h
  obtain ⟨p, ys, rfl, hq, q⟩ := h
  obtain ⟨u, rfl, rx⟩ := vals1 r
  cases rx
  obtain ⟨its, r', pl, hz⟩ := I.list hq
  have hlen := r'.length
  refine call_tuple_list pl.isList (fun h' kp => ?_) (by simp only [List.size_toArray] <;> omega)
  have I1 : Inv X pins σ H { s with heap := h', toks := s.toks } := I.kept (t' := s.toks) kp
  have hn : H h'.objs.size = none := I1.hok.fresh (Nat.le_refl _)
  exact ⟨.ref h'.objs.size, _, laidTD I1 r' hz, rfl, q _ _ (smUpd hn) tdNew⟩
def tTupRevD (K : PySem.W.Frag) (te : TE) : TE := fun σ H Q => te σ H fun v H1 => ∃ (a : Addr) (xs : List V), v = .ref a ∧ SqL K H1 a xs ∧ ∀ l H', Same H1 H' → TD H' l xs.reverse → Q (.ref l) H'
/-- tuple(reversed(a list)) -/
theorem pe_tupRevD {e : Expr} {te : TE} {p p2 pos pos2 : Pos} (hc : X.calm = true) (hg : Gl X "tuple") (hm : X.mg "tuple" = none) (hg2 : Gl X "reversed") (hm2 : X.mg "reversed" = none) (he : PE X e te)
    (hs : starEach [e] X.env = (false, eval e X.env) :: starEach [] X.env := by rfl)
    (hs2 : starEach [.Call (.Name "reversed" p2) [e] [] pos2] X.env = (false, eval (.Call (.Name "reversed" p2) [e] [] pos2) X.env) :: starEach [] X.env := by rfl) :
    PE X (.Call (.Name "tuple" p) [.Call (.Name "reversed" p2) [e] [] pos2] [] pos) (tTupRevD X.K te) := by
  refine ⟨fun pins s σ H Q I h => ?_⟩
  refine Call_ (ld_blt I hg hm boot_tuple (callWith_type1 (args_cons (Call_ (ld_blt I hg2 hm2 boot_reversed (callWith_type1 (args_cons (thn (he.run pins s σ H _ I h) fun u s1 ⟨v, H1, I1, r1, q1⟩ => args_nil ?_) hs) hs rfl))) hs2) hs2 rfl))
  obtain ⟨l, ys, rfl, hl, q⟩ := q1
  cases (show u = Value.ref l from r1)
  obtain ⟨its, rv, pl, hz⟩ := I1.list hl
  refine call_reversed_list pl.isList (args_nil ?_)
  have I2 : Inv X pins σ H1 { s1 with heap := s1.heap.push (PySem.revObj l ((its.toArray.size : Int) - 1)) } := I1.kept (t' := s1.toks) fun b o z => Heap.get?_push_of_some _ z
  have hfr : H1 s1.heap.objs.size = none := I1.hok.fresh (Nat.le_refl _)
  obtain ⟨f0, f1, _, f3, f4, f5⟩ := I1.fpOk (H' := H1) (b := s1.heap.objs.size) (Nat.le_refl _) hfr
  have hne : l ≠ s1.heap.objs.size := by
    obtain ⟨_, z, _⟩ := pl.isList
    exact Nat.ne_of_lt (Heap.lt_size z)
  refine RT.call_tuple_rev (s := { s1 with heap := s1.heap.push (PySem.revObj l ((its.toArray.size : Int) - 1)) }) (I1.ok.hd hc) ⟨_, Heap.get?_push_size _ rfl, rfl, rfl⟩ (pl.isList.push _) hne (by rw [List.size_toArray, ← rv.length]; exact hz) fun h' tk acc hk hi => ?_
  have I3 : Inv X pins σ H1 { s1 with heap := h', toks := tk } := I2.turned (t' := tk) (fun b o hb z => hk b o hb z) f0 f1 f3 f4 f5
  have hn : H1 h'.objs.size = none := I3.hok.fresh (Nat.le_refl _)
  have I4 := laidTD I3 (RT.vals_rev rv hi) (by rw [List.length_reverse]; exact hz)
  refine ⟨.ref h'.objs.size, upd H1 h'.objs.size (.frz (tupO acc.toList) (.tup ys.reverse)), ?_, rfl, q _ _ (smUpd hn) tdNew⟩
  have ea : acc.toList.toArray = acc := Array.toArray_toList
  rw [← ea]
  exact I4
/-- t.m(..), t such a tuple -/
def tBT (r : V → List V → Hp → VK → Prop) (to : TE) (t : TA) : TE := fun σ H Q => to σ H fun x H1 => (∃ a xs, x = .ref a ∧ TD H1 a xs) ∧ t σ H1 fun xs H2 => r x xs H2 Q
variable {o e : Expr} {es : List Expr} {to : TE} {t : TA} {name : Str} {apos cpos : Pos} {id : String} {r : V → List V → Hp → VK → Prop}
theorem pe_bt (slot : Slot "tuple" name id) (hty : typeOf (.builtin id) = pure (.type "method_descriptor")) (hm : MtR X id r) (ho : PE X o to) (ha : PA X (e :: es) t)
    (hbase : attributeBase o name X.env (eval o X.env) = eval o X.env := by rfl)
    (hfew : ((backTo cpos (starEach (e :: es) X.env)).all (fun x => !x.1) && (backToKw cpos (keywordEach [] X.env)).all (fun x => x.1.isSome)
      && decide ((e :: es).length + ([] : List Keyword).length + (if ([] : List Keyword).isEmpty then 0 else 1) < 30)) = true := by rfl)
    (hline : (apos.endLine == cpos.line) = true := by rfl) (hs : starEach (e :: es) X.env = (false, eval e X.env) :: starEach es X.env := by rfl) (hplain : (backTo cpos (starEach es X.env)).any (·.1) = false := by rfl) :
    PE X (.Call (.Attribute o name apos) (e :: es) [] cpos) (tBT r to t) := by
  refine ⟨fun pins s σ H Q I h => ?_⟩
  refine wpAny_Call_method_late hbase hfew hline rfl (thn (ho.run pins s σ H _ I h) fun v s1 ⟨x, H1, I1, r1, ty, q1⟩ => ?_)
  obtain ⟨a, xs, rfl, ob, hd, hx⟩ := ty
  cases (show v = Value.ref a from r1)
  obtain ⟨g, _, its, _, hit⟩ := I1.hok a _ hx
  have hT : s1.TypeIs (.ref a) "tuple" := by
    obtain ⟨o', g', c, _⟩ := hit
    exact ⟨o', g', c⟩
  refine ⟨"tuple", id, PySem.F.plainAttrs_tuple, slot, hty, hT, fun b z => (by cases z; exact ⟨ob, g, hd⟩), ?_⟩
  have hA := ha.run cpos pins s1 σ H1 _ I1 q1
  rw [hs] at hA ⊢
  refine Calls.callWith_builtin (by show (false || (backTo cpos (starEach es X.env)).any (·.1)) = false; rw [hplain] <;> rfl) (Calls.evalArgs_plain ?_)
  exact thn hA fun us s2 ⟨vs, H2, I2, r2, q2⟩ => hm pins s2 σ H2 (.ref a) vs (.ref a) us Q I2 rfl r2 q2
end
end Cn
namespace Cn
open PySem PySem.Spec PyProof.Rows L2 Ck
abbrev vn (n : Nat) : V := .int ((n : Nat) : Int)
def vp : Option Nat → V
  | none => .non
  | some n => vn n
def TN (H : Hp) (a : Addr) (ns : List Nat) : Prop := H a = some (.tup (ns.map vn))
def TP (H : Hp) (a : Addr) (ps : List (Option Nat)) : Prop := H a = some (.tup (ps.map vp))
def TDn (H : Hp) (a : Addr) (ns : List Nat) : Prop := TD H a (ns.map vn)
theorem tdL {K : PySem.W.Frag} {H : Hp} {a : Addr} {ns : List Nat} (h : TDn H a ns) : SqT K H a (ns.map vn) := tdT h
theorem tnL {K : PySem.W.Frag} {H : Hp} {a : Addr} {ns : List Nat} (h : TN H a ns) : SqT K H a (ns.map vn) := .inl (.inl h)
theorem tpL {K : PySem.W.Frag} {H : Hp} {a : Addr} {ps : List (Option Nat)} (h : TP H a ps) : SqT K H a (ps.map vp) := .inl (.inl h)
theorem vn_flat (ns : List Nat) : (ns.map vn).all flatV = true := by
  rw [List.all_eq_true]
  intro x hx
  obtain ⟨n, _, rfl⟩ := List.mem_map.mp hx
  rfl
theorem vn_at {ns : List Nat} {i n : Nat} (h : ns[i]? = some n) : (ns.map vn)[i]? = some (vn n) := by rw [List.getElem?_map, h]; rfl
theorem vp_at {ps : List (Option Nat)} {i : Nat} {q : Option Nat} (h : ps[i]? = some q) : (ps.map vp)[i]? = some (vp q) := by rw [List.getElem?_map, h]; rfl
theorem vn_ix {ns : List Nat} {i n : Nat} (h : ns[i]? = some n) : atI (ns.map vn) ((i : Nat) : Int) = some (vn n) := atI_nat (vn_at h)
theorem vp_ix {ps : List (Option Nat)} {i : Nat} {q : Option Nat} (h : ps[i]? = some q) : atI (ps.map vp) ((i : Nat) : Int) = some (vp q) := atI_nat (vp_at h)
theorem vn_get {ns : List Nat} {i : Nat} {x : V} (h : (ns.map vn)[i]? = some x) : ∃ n, ns[i]? = some n ∧ x = vn n := by
  rw [List.getElem?_map] at h
  obtain ⟨n, hn, e⟩ := Option.map_eq_some_iff.mp h
  exact ⟨n, hn, e.symm⟩
theorem vp_get {ps : List (Option Nat)} {i : Nat} {x : V} (h : (ps.map vp)[i]? = some x) : ∃ q, ps[i]? = some q ∧ x = vp q := by
  rw [List.getElem?_map] at h
  obtain ⟨n, hn, e⟩ := Option.map_eq_some_iff.mp h
  exact ⟨n, hn, e.symm⟩
theorem vn_inj {a b : Nat} : eqV (vn a) (vn b) = decide (a = b) := by
  show (((a : Nat) : Int) == ((b : Nat) : Int)) = decide (a = b)
  rw [Bool.eq_iff_iff, beq_iff_eq, decide_eq_true_iff]
  omega
/-- the first place of n -/
theorem vn_idx {ns : List Nat} {n : Nat} (h : n ∈ ns) : (ns.map vn)[ns.idxOf n]? = some (vn n) ∧ ∀ (m : Nat) (z : V), m < ns.idxOf n → (ns.map vn)[m]? = some z → eqV z (vn n) = false := by
  refine ⟨vn_at ?_, fun m z hm hz => ?_⟩
  · have hl := List.idxOf_lt_length_of_mem h
    rw [List.getElem?_eq_getElem hl, List.getElem_idxOf hl]
  · rw [List.getElem?_map] at hz
    obtain ⟨k, hk, rfl⟩ := Option.map_eq_some_iff.mp hz
    rw [vn_inj]
    refine decide_eq_false fun e => ?_
    subst e
    obtain ⟨hml, hme⟩ := List.getElem?_eq_some_iff.mp hk
    have := List.not_of_lt_findIdx (p := (· == k)) (xs := ns) (i := m) hm
    rw [hme] at this
    simp at this
theorem inV_vn {ns : List Nat} {n : Nat} : inV (vn n) (ns.map vn) = decide (n ∈ ns) := by
  unfold inV
  rw [Bool.eq_iff_iff, decide_eq_true_iff, List.any_eq_true]
  constructor
  · rintro ⟨x, hx, h⟩
    obtain ⟨m, hm, rfl⟩ := List.mem_map.mp hx
    rw [vn_inj, decide_eq_true_iff] at h
    rw [← h]; exact hm
  · intro h
    exact ⟨vn n, List.mem_map.mpr ⟨n, h, rfl⟩, by rw [vn_inj]; exact decide_eq_true rfl⟩
/-! the forest -/
def fields3 (ap ab aa : Addr) : List (Str × V) := [("parents", .ref ap), ("bearing", .ref ab), ("asking", .ref aa)]
structure Fo where
  ps : List (Option Nat)
  be : List Nat
  as : List Nat
/-- what a forest's data keep to -/
structure FoOk (f : Fo) : Prop where
  ps : Ps f.ps
  l0 : 1 ≤ f.ps.length
  l1 : f.ps.length ≤ 60
  be : f.be.Pairwise (· < ·)
  bl : ∀ x ∈ f.be, x < f.ps.length
  as : f.as.Pairwise (· < ·)
  al : ∀ x ∈ f.as, x < f.ps.length
def FoAt (C : Addr) (H : Hp) (a : Addr) (f : Fo) : Prop := ∃ dx ap ab aa, H a = some (.ins C dx (fields3 ap ab aa)) ∧ TP H ap f.ps ∧ TN H ab f.be ∧ TN H aa f.as
theorem foAt_same {C : Addr} {H H' : Hp} {a : Addr} {f : Fo} (s : Same H H') (h : FoAt C H a f) : FoAt C H' a f := by
  obtain ⟨dx, ap, ab, aa, h1, h2, h3, h4⟩ := h
  exact ⟨dx, ap, ab, aa, s _ _ h1, s _ _ h2, s _ _ h3, s _ _ h4⟩
structure FoT (K : PySem.W.Frag) (mg : Str → Option Value) (C : Addr) : Prop where
  cl : Cls K C
  nP : NoAttr K C "parents"
  nB : NoAttr K C "bearing"
  nA : NoAttr K C "asking"
  mgC : mg "Forest" = some (.ref C)
theorem fP {ap ab aa : Addr} : (fields3 ap ab aa).lookup ("parents" : Str) = some (.ref ap) := rfl
theorem fB {ap ab aa : Addr} : (fields3 ap ab aa).lookup ("bearing" : Str) = some (.ref ab) := rfl
theorem fA {ap ab aa : Addr} : (fields3 ap ab aa).lookup ("asking" : Str) = some (.ref aa) := rfl
/-- the builtins that the texts call -/
structure NamT (mg : Str → Option Value) : Prop where
  is : IsTxt mg
  int : mg "int" = none
  abs : mg "abs" = none
  range : mg "range" = none
  enum : mg "enumerate" = none
  rev : mg "reversed" = none
  sorted : mg "sorted" = none
  min : mg "min" = none
/-- a def and its name in the module -/
structure DefAt (K : PySem.W.Frag) (mg : Str → Option Value) (x : Str) (st : Stmt) (ps : List Str) (f : Addr) (fd : FuncData) : Prop where
  F : Fun K x x st f fd
  b : Binds K fd ps []
  g : mg x = some (.ref f)
theorem ifT {c : Prop} {_ : Decidable c} {a b : Prop} (h : c) (x : a) : if c then a else b := by rw [if_pos h]; exact x
theorem ifF {c : Prop} {_ : Decidable c} {a b : Prop} (h : ¬ c) (x : b) : if c then a else b := by rw [if_neg h]; exact x
/-! kinds -/
section
variable {P : Program} {w : World} {K : PySem.W.Frag} {mg : Str → Option Value} {base : Heap}
theorem intTy {H : Hp} {n : Int} : TyX K H (.int n) (.type "int") := .base (.int n)
def spIsInt : Sp := fun vs H Q _ => ∃ n : Int, vs = [.int n] ∧ Q (.bl true) H
theorem scIsInt : FnScope ["thing"] ["thing"] (defScope sIsInt) := ⟨rfl, rfl, rfl, by decide +kernel, rfl, by decide +kernel, by decide +kernel⟩
theorem ok_isInt {f : Addr} {fd : FuncData} (F : Fun K "is_integer" "is_integer" sIsInt f fd) (N : NamT mg) : FnOk P w K mg base CX0 1 f fd ["thing"] spIsInt := by
  refine F.ok scIsInt (fun vs H Q E h => ?_) (fun cdv A outer s H vs Q E hr h => ?_)
  · obtain ⟨n, rfl, _⟩ := h
    rfl
  · obtain ⟨n, rfl, k⟩ := h
    refine ⟨_, pss_one (ps_ret (pe_and (pe_callB call_isi (by rfl) N.is.inst (by decide +kernel) (pa_cons (pv 0) (pa_cons (pe_bltn (v := .ty "int") (by rfl) N.int (by decide +kernel) rfl) pa_nil))) (pe_one (pe_not (pe_callB call_isi (by rfl) N.is.inst (by decide +kernel) (pa_cons (pv 0) (pa_cons (pe_bltn (v := .ty "bool") (by rfl) N.is.bool (by decide +kernel) rfl) pa_nil))))))), ?_⟩
    refine ⟨_, rfl, _, .ty "int", _, _, true, rfl, .ty _, intTy, kit_ty (by decide +kernel), true, rfl, ?_⟩
    refine ifT rfl ?_
    exact ⟨_, rfl, _, .ty "bool", _, _, false, rfl, .ty _, intTy, kit_ty (by decide +kernel), false, rfl, k⟩
def spIsBtw : Sp := fun vs H Q _ => ∃ n a b : Int, vs = [.int n, .int a, .int b] ∧ Q (.bl (decide (a ≤ n ∧ n ≤ b))) H
theorem scIsBtw : FnScope ["thing", "least", "most"] ["thing", "least", "most"] (defScope sIsBtw) := ⟨rfl, rfl, rfl, by decide +kernel, rfl, by decide +kernel, by decide +kernel⟩
theorem ok_isBtw {f fI : Addr} {fd fdI : FuncData} (F : Fun K "is_between" "is_between" sIsBtw f fd) (N : NamT mg) (DI : DefAt K mg "is_integer" sIsInt ["thing"] fI fdI) : FnOk P w K mg base CX0 2 f fd ["thing", "least", "most"] spIsBtw := by
  have GI : FnOk P w K mg base CX0 1 fI fdI ["thing"] spIsInt := ok_isInt DI.F N
  refine F.ok scIsBtw (fun vs H Q E h => ?_) (fun cdv A outer s H vs Q E hr h => ?_)
  · obtain ⟨n, a, b, rfl, _⟩ := h
    rfl
  · obtain ⟨n, a, b, rfl, k⟩ := h
    refine ⟨_, pss_one (ps_ret (pe_and (pe_call GI hr (by rfl) DI.g DI.F.kp DI.b .nil pass0 (pa_cons (pv 0) pa_nil)) (pe_one (pe_chain op_le op_le (pv 1) (pv 0) (pv 2))))), ?_⟩
    refine ⟨_, rfl, n, rfl, true, rfl, ?_⟩
    refine ifT rfl ?_
    refine ⟨_, rfl, _, rfl, _, _, rfl, rfl, _, rfl, ?_⟩
    by_cases h1 : a ≤ n
    · refine ifT (decide_eq_true h1) ?_
      refine ⟨_, rfl, _, _, rfl, rfl, ?_⟩
      rw [show decide (a ≤ n ∧ n ≤ b) = decide (n ≤ b) from by simp [h1]] at k
      exact k
    · refine ifF (by rw [decide_eq_false h1]; exact Bool.false_ne_true) ?_
      rw [show decide (a ≤ n ∧ n ≤ b) = false from by simp [h1]] at k
      exact k
end
end Cn
namespace Cn
open PySem PySem.Spec PyProof.Rows L2 Ck
/-- the defs, as the text has them -/
structure Defs (K : PySem.W.Frag) (mg : Str → Option Value) (C : Addr) : Prop where
  N : NamT mg
  T : FoT K mg C
  mM : ∃ tm, mg "MOST_PLACES" = some (.int 60 tm)
  mBu : ∃ tm, mg "MOST_BUDGET" = some (.int 60 tm)
  zAny : mg "any" = none
  zMax : mg "max" = none
  zDict : mg "dict" = none
  ini : ∃ f fd, Fun K "__init__" "Forest.__init__" sInit f fd ∧ Mk K C f ∧ Binds K fd ["self", "parents", "bearing", "asking"] []
  eqm : ∃ f fd, Fun K "__eq__" "Forest.__eq__" sEqM f fd ∧ PySem.W.findIn K (.ref C) "__eq__" = some (some (.ref f)) ∧ PySem.W.isFn K (.ref f) = true ∧ Binds K fd ["self", "other"] []
  ty5 : PySem.W.findIn K (.ref C) "__class__" = some (some (.builtin "object.__class__")) ∧ PySem.W.specialIn K (.builtin "object.__class__") "__get__" = some (some (.builtin "getset_descriptor.__get__")) ∧ PySem.W.takesIn K (.builtin "object.__class__") = some true ∧ PySem.W.mroIn K C (.type "object") = some true
  I : ∃ f fd, DefAt K mg "is_integer" sIsInt ["thing"] f fd
  B : ∃ f fd, DefAt K mg "is_between" sIsBtw ["thing", "least", "most"] f fd
  L : ∃ f fd, DefAt K mg "is_lot" sIsLot ["thing"] f fd
  O : ∃ f fd, DefAt K mg "_is_lot_of_places" sLotOf ["thing", "many"] f fd
  Pl : ∃ f fd, DefAt K mg "is_place" sIsPlace ["forest", "thing"] f fd
  W : ∃ f fd, DefAt K mg "way" sWay ["forest", "place"] f fd
  cu : ∃ f fd, DefAt K mg "_is_cuts" sIsCuts ["forest", "thing"] f fd
  lv : ∃ f fd, DefAt K mg "_level" sLevel ["forest", "cuts", "place"] f fd
  po : ∃ f fd, DefAt K mg "plan_of" sPlanOf ["forest", "cuts"] f fd
  ha : ∃ f fd, DefAt K mg "_law_hand" sHand ["_law_script"] f fd
  dr : ∃ f fd, DefAt K mg "_law_draw" sDraw ["_law_hand_here", "_law_many"] f fd
  plans : ∃ f fd, DefAt K mg "_law_plans" sPlans ["_law_places"] f fd
  un : ∃ f fd, DefAt K mg "under" sUnder ["forest", "place"] f fd
  inu : ∃ f fd, DefAt K mg "is_numbers" sIsNumbers ["thing", "many"] f fd
  ipn : ∃ f fd, DefAt K mg "is_pair_of_numbers" sIsPairN ["thing", "many", "most"] f fd
  ibu : ∃ f fd, DefAt K mg "is_budgets" sIsBudgets ["forest", "thing"] f fd
  rw : ∃ f fd, DefAt K mg "row" sRow ["places"] f fd
  isr : ∃ f fd, DefAt K mg "is_row" sIsRow ["thing"] f fd
  crb : ∃ f fd, DefAt K mg "_check_row_and_budgets" sCheckRB ["forest", "budgets"] f fd
  mye : ∃ f fd, DefAt K mg "_may_end" sMayEnd ["budgets", "key"] f fd
  rea : ∃ f fd, DefAt K mg "_reach" sReach ["budgets", "key", "found"] f fd
  rcs : ∃ f fd, DefAt K mg "reaches" sReaches ["forest", "budgets"] f fd
  bor : ∃ f fd, DefAt K mg "_is_borne_out" sBorne ["budgets", "key", "told"] f fd
  irs : ∃ f fd, DefAt K mg "is_reaches" sIsReaches ["forest", "budgets", "thing"] f fd
  rcu : ∃ f fd, DefAt K mg "_row_cuts" sRowCuts ["forest", "budgets"] f fd
  pwi : ∃ f fd, DefAt K mg "plan_within" sPlanWithin ["forest", "budgets"] f fd
  lmy : ∃ f fd, DefAt K mg "_law_may_end" sLMay ["_law_budgets_here", "_law_key"] f fd
  lls : ∃ f fd, DefAt K mg "_law_least" sLLeast ["_law_budgets_here", "_law_key", "_law_known"] f fd
  lie : ∃ f fd, DefAt K mg "_law_is_enough" sLEnough ["_law_budgets_here", "_law_thing", "_law_key"] f fd
  lir : ∃ f fd, DefAt K mg "_law_is_reaches" sLIsReaches ["_law_budgets_here", "_law_thing"] f fd
  rpl : ∃ f fd, DefAt K mg "_law_row_plan" sRowPlan ["_law_hand_here", "_law_places"] f fd
  rpo : ∃ f fd, DefAt K mg "_law_row_point" sRowPoint ["_law_plan"] f fd
  lbu : ∃ f fd, DefAt K mg "_law_budgets" sLBudgets ["_law_hand_here", "_law_places", "_law_some"] f fd
  lsm : ∃ f fd, DefAt K mg "_law_small" sLSmall ["_law_hand_here", "_law_places"] f fd
  kee : ∃ f fd, DefAt K mg "_law_keeps" sKeeps ["_law_told", "_law_budgets_here"] f fd
  lip : ∃ f fd, DefAt K mg "_law_is_plan" sLIsPlan ["_law_told", "_law_places"] f fd
end Cn
namespace Cn
open PySem PySem.Spec PyProof.Rows L2 Ck
/-! readings that leave all as it is, apart from new things -/
theorem cutDrop (xs : List V) (n : Nat) : cutV xs (some (n : Int)) none = xs.drop n := by
  unfold cutV
  rw [HT.sIx_none, HT.sIx_nat]
  by_cases h : n ≤ xs.length
  · rw [Nat.min_eq_left h]
    exact List.take_of_length_le (by rw [List.length_drop]; omega)
  · rw [Nat.min_eq_right (by omega), Nat.sub_self, List.take_zero, List.drop_of_length_le (by omega)]
theorem cutWhole {xs : List V} {lo hi : Option Int} (h : HT.sIx xs.length 0 lo = 0 ∧ HT.sIx xs.length xs.length hi = xs.length) : cutV xs lo hi = xs := by
  unfold cutV
  rw [h.1, h.2, List.drop_zero, Nat.sub_zero, List.take_length]
theorem slA {K : PySem.W.Frag} {H : Hp} {a : Addr} {xs : List V} {lo hi : Option Int} {Q : VK} (ha : H a = some (.tup xs)) (k : ∀ b H', Same H H' → H' b = some (.tup (cutV xs lo hi)) → Q (.ref b) H') : rSlA K (.ref a) lo hi H Q := by
  refine ⟨a, xs, rfl, .inl (.inl ha), fun h => k a H (Same.refl _) (by rw [cutWhole h]; exact ha), fun _ p np => k p _ (smUpd np) upd_same⟩
theorem slN {K : PySem.W.Frag} {σ : L2.St} {H : Hp} {a : Addr} {xs : List V} {lo : Option Int} {Q : VK} (ha : H a = some (.tup xs)) (k : ∀ b H', Same H H' → H' b = some (.tup (cutV xs lo none)) → Q (.ref b) H') : tNoPart σ H (fun u H3 => rSlA K (.ref a) lo u H3 Q) := slA (hi := none) ha k
theorem catA {K : PySem.W.Frag} {H : Hp} {a b : Addr} {xs ys : List V} {Q : VK} (ha : H a = some (.tup xs)) (hb : H b = some (.tup ys)) (hl : xs.length + ys.length ≤ 1000) (k : ∀ c H', Same H H' → H' c = some (.tup (xs ++ ys)) → Q (.ref c) H') : rCatA K (.ref a) (.ref b) H Q := by
  refine ⟨a, b, xs, ys, rfl, rfl, .inl (.inl ha), .inl (.inl hb), Nat.le_of_lt (small1000 hl), fun h => ?_, fun _ h => ?_, fun _ _ p np => k p _ (smUpd np) upd_same⟩
  · subst h
    exact k b H (Same.refl _) hb
  · subst h
    exact k a H (Same.refl _) (by rw [List.append_nil]; exact ha)
theorem walk_zipT {K : PySem.W.Frag} {a b : Addr} {xs ys : List V} {n : Nat} (hn : n = min xs.length ys.length) : Walk (RZ.ItzT K a b) n (fun H => SqT K H a xs ∧ SqT K H b ys) (YPair (fun i => xs[i]?) (fun i => ys[i]?)) := by
  subst hn
  refine ⟨fun i _ hi q => ?_, fun _ q => ⟨xs, ys, q.1, q.2, by omega⟩, fun i H v H' _ q y => ?_⟩
  · have h1 : i < xs.length := by omega
    have h2 : i < ys.length := by omega
    exact ⟨xs, ys, xs[i], ys[i], q.1, q.2, by simp [h1], by simp [h2]⟩
  · obtain ⟨T, x, z, h1, h2, h3, h4, h5⟩ := y
    exact ⟨T, x, z, h1, h2, h3, h4 xs q.1, h5 ys q.2⟩
section
variable {P : Program} {w : World} {K : PySem.W.Frag} {mg : Str → Option Value} {base : Heap}
theorem tupTy {H : Hp} {a : Addr} {xs : List V} (h : H a = some (.tup xs)) : TyX K H (.ref a) (.type "tuple") := .base (.tup h)
def spIsLot : Sp := fun vs H Q _ => ∃ (a : Addr) (ns : List Nat), vs = [.ref a] ∧ TN H a ns ∧ ns.Pairwise (· < ·) ∧ ns.length ≤ 1000 ∧ ∀ H', Same H H' → Q (.bl true) H'
def nLot : List Str := ["thing", "item", "one", "following"]
theorem scIsLot : FnScope nLot ["thing"] (defScope sIsLot) := ⟨rfl, rfl, rfl, by decide +kernel, rfl, by decide +kernel, by decide +kernel⟩
theorem ok_isLot {f fI : Addr} {fd fdI : FuncData} (F : Fun K "is_lot" "is_lot" sIsLot f fd) (N : NamT mg) (DI : DefAt K mg "is_integer" sIsInt ["thing"] fI fdI) : FnOk P w K mg base CX0 2 f fd ["thing"] spIsLot := by
  have GI : FnOk P w K mg base CX0 1 fI fdI ["thing"] spIsInt := ok_isInt DI.F N
  refine F.ok scIsLot (fun vs H Q E h => ?_) (fun cdv A outer s H vs Q E hr h => ?_)
  · obtain ⟨a, ns, rfl, _⟩ := h
    rfl
  · obtain ⟨a, ns, rfl, ha, hp, hl, k⟩ := h
    refine ⟨_, pss_cons (ps_if (pt_not (pt_val (pe_callB call_isi (by rfl) N.is.inst (by decide +kernel) (pa_cons (pv 0) (pa_cons (pe_bltn (v := .ty "tuple") (by rfl) N.is.tup (by decide +kernel) rfl) pa_nil))))) (pss_one ps_never) pss_nil)
      (pss_cons (ps_for PassesOwn.never rfl (pi_tup (pv 0)) (pg_name (i := 1) scIsLot.nd rfl (Or.inl rfl)) (pss_one (ps_if (pt_not (pt_val (pe_call GI hr (by rfl) DI.g DI.F.kp DI.b .nil pass0 (pa_cons (pv 1) pa_nil)))) (pss_one ps_never) pss_nil)))
      (pss_cons (ps_for PassesOwn.never rfl (RZ.pi_zipA (by rfl) N.is.zip (pa_cons (pv 0) (pa_cons (pe_slice sl_tupA (pv 0) (po_some pe_int) po_none) pa_nil))) (pg_tup rfl (pgs_cons (pg_name (i := 2) scIsLot.nd rfl (Or.inl rfl)) (pgs_cons (pg_name (i := 3) scIsLot.nd rfl (Or.inl rfl)) pgs_nil)))
        (pss_one (ps_if (pt_cmpR op_ge (pv 2) (pv 3) (nomark _)) (pss_one ps_never) pss_nil)))
      (pss_one (ps_ret pe_bl)))), ?_⟩
    refine ⟨_, rfl, _, .ty "tuple", _, _, true, rfl, .ty _, tupTy ha, kit_ty (by decide +kernel), true, rfl, ?_⟩
    refine ifF (by decide) ?_
    refine ⟨_, rfl, a, rfl, ⟨_, tnL ha⟩, ?_⟩
    refine for_it (walk_tup (xs := ns.map vn)) (fun _ σ H' => H' = H ∧ ∃ t1, σ = [some (.ref a), t1, none, none]) ⟨rfl, _, rfl⟩ (fun i σ H' _ z => by rw [z.1]; exact tnL ha) ?_ ?_
    · rintro i x σ H' H2 hi ⟨rfl, t1, rfl⟩ ⟨rfl, hx⟩
      rw [List.getElem?_map] at hx
      obtain ⟨n, _, rfl⟩ := Option.map_eq_some_iff.mp hx
      refine ⟨_, rfl, (n : Int), rfl, true, rfl, ?_⟩
      refine ifF (by decide) ?_
      exact ⟨rfl, _, rfl⟩
    · rintro σ H' ⟨rfl, t1, rfl⟩
      refine ⟨_, rfl, _, rfl, 1, rfl, ?_⟩
      refine slN ha fun b H1 s1 hb => ?_
      rw [show (some (1 : Int)) = some ((1 : Nat) : Int) from rfl, cutDrop] at hb
      have ha1 : TN H1 a ns := s1 _ _ ha
      refine ⟨a, b, ns.map vn, (ns.map vn).drop 1, rfl, .inr ⟨tnL ha1, .inl (.inl hb), ?_⟩⟩
      refine for_it (walk_zipT (xs := ns.map vn) (ys := (ns.map vn).drop 1) rfl) (fun _ σ H' => Same H1 H' ∧ ∃ t1 t2 t3, σ = [some (.ref a), t1, t2, t3]) ⟨Same.refl _, _, _, _, rfl⟩ (fun i σ H' _ z => ⟨tnL (z.1 _ _ ha1), .inl (.inl (z.1 _ _ hb))⟩) ?_ ?_
      · rintro i x σ H' H2 hi ⟨sm, t1, t2, t3, rfl⟩ ⟨T, x1, y1, rfl, nT, rfl, e1, e2⟩
        obtain ⟨n, hn, rfl⟩ := vn_get (i := i) e1
        have e2 : ((ns.map vn).drop 1)[i]? = some y1 := e2
        rw [List.getElem?_drop] at e2
        obtain ⟨m, hm, rfl⟩ := vn_get e2
        refine ⟨T, _, rfl, .inl (.inl upd_same), rfl, _, _, rfl, _, _, rfl, rfl, ?_⟩
        refine ⟨_, rfl, _, rfl, _, _, rfl, rfl, _, rfl, ?_⟩
        obtain ⟨q1, q2⟩ := List.getElem?_eq_some_iff.mp hn
        obtain ⟨q3, q4⟩ := List.getElem?_eq_some_iff.mp hm
        have := List.pairwise_iff_getElem.mp hp i (1 + i) q1 q3 (by omega)
        rw [q2, q4] at this
        refine ifF (by rw [decide_eq_true_iff]; show ¬ ((m : Int) ≤ (n : Int)); omega) ?_
        exact ⟨sm.trans (smUpd nT), _, _, _, rfl⟩
      · rintro σ H' ⟨sm, _⟩
        exact k _ (s1.trans sm)
end
end Cn
namespace Cn
open PySem PySem.Spec PyProof.Rows L2 Ck
theorem vn_last {ns : List Nat} {n : Nat} (h : ns ≠ []) (hn : ns.getLast h = n) : atI (ns.map vn) (-1) = some (vn n) := by
  rw [← hn, show ns.map vn = ns.dropLast.map vn ++ [vn (ns.getLast h)] from by rw [← List.map_singleton (f := vn), ← List.map_append, List.dropLast_concat_getLast]]
  exact atI_last _ _
theorem vp_ne {m : Nat} : decide (vp (some m) = V.non) = false := decide_eq_false fun z => nomatch (show vn m = V.non from z)
section
variable {P : Program} {w : World} {K : PySem.W.Frag} {mg : Str → Option Value} {base : Heap} {C : Addr}
def spLotOf : Sp := fun vs H Q _ => ∃ (a : Addr) (ns : List Nat) (n : Nat), vs = [.ref a, vn n] ∧ TN H a ns ∧ ns.Pairwise (· < ·) ∧ (∀ x ∈ ns, x < n) ∧ ns.length ≤ 1000 ∧ ∀ H', Same H H' → Q (.bl true) H'
theorem scLotOf : FnScope ["thing", "many"] ["thing", "many"] (defScope sLotOf) := ⟨rfl, rfl, rfl, by decide +kernel, rfl, by decide +kernel, by decide +kernel⟩
theorem ok_lotOf {f fI fL : Addr} {fd fdI fdL : FuncData} (F : Fun K "_is_lot_of_places" "_is_lot_of_places" sLotOf f fd) (N : NamT mg) (DI : DefAt K mg "is_integer" sIsInt ["thing"] fI fdI) (DL : DefAt K mg "is_lot" sIsLot ["thing"] fL fdL) : FnOk P w K mg base CX0 3 f fd ["thing", "many"] spLotOf := by
  have GL : FnOk P w K mg base CX0 2 fL fdL ["thing"] spIsLot := ok_isLot DL.F N DI
  refine F.ok scLotOf (fun vs H Q E h => ?_) (fun cdv A outer s H vs Q E hr h => ?_)
  · obtain ⟨a, ns, n, rfl, _⟩ := h
    rfl
  · obtain ⟨a, ns, n, rfl, ha, hp, hx, hl, k⟩ := h
    refine ⟨_, pss_one (ps_ret (pe_and (pe_call GL hr (by rfl) DL.g DL.F.kp DL.b .nil pass0 (pa_cons (pv 0) pa_nil)) (pe_one (pe_or (pe_notT (pv 0)) (pe_one (pe_and (pe_cmpR op_le pe_int (pe_ix ix_tup (pv 0) pe_int (fun _ _ => rfl)) (nomark _)) (pe_one (pe_cmpR op_lt (pe_ix ix_tup (pv 0) (pe_un un_neg pe_int) (fun _ _ => rfl)) (pv 1) (nomark _))))))))), ?_⟩
    refine ⟨_, rfl, a, ns, rfl, ha, hp, hl, fun H1 s1 => ⟨true, rfl, ?_⟩⟩
    refine ifT rfl ?_
    have ha1 : TN H1 a ns := s1 _ _ ha
    refine ⟨_, rfl, _, .inr (.inl ⟨_, tnL ha1, rfl⟩), _, rfl, ?_⟩
    by_cases hne : ns = []
    · refine ifT (by rw [hne]; rfl) ?_
      exact k H1 s1
    · obtain ⟨m, h0⟩ : ∃ m, ns[0]? = some m := ⟨_, List.getElem?_eq_getElem (List.length_pos_iff.mpr hne)⟩
      have hem : (ns.map vn).isEmpty = false := by
        cases ns with
        | nil => exact absurd rfl hne
        | cons _ _ => rfl
      refine ifF (by rw [hem]; decide) ?_
      refine ⟨_, rfl, a, _, (0 : Int), _, rfl, rfl, tnL ha1, vn_ix (i := 0) h0, _, _, rfl, rfl, _, rfl, ?_⟩
      refine ifT (by rw [decide_eq_true_iff]; show (0 : Int) ≤ ((m : Nat) : Int); omega) ?_
      have hg := hx _ (List.getLast_mem hne)
      have el := vn_last hne rfl
      refine ⟨_, rfl, _, rfl, a, _, _, _, rfl, rfl, tnL ha1, el, _, rfl, _, _, rfl, rfl, ?_⟩
      have hlt : (((ns.getLast hne : Nat) : Int)) < (n : Int) := by omega
      show Q (V.bl (decide ((((ns.getLast hne : Nat) : Int)) < (n : Int)))) H1
      rw [decide_eq_true hlt]
      exact k H1 s1
/-! Forest(parents, bearing, asking) -/
def spInit (C : Addr) : Sp := fun vs H Q _ => ∃ (p dx ap ab aa : Addr) (f : Fo), vs = [.ref p, .ref ap, .ref ab, .ref aa] ∧ H p = some (.ins C dx []) ∧ TP H ap f.ps ∧ TN H ab f.be ∧ TN H aa f.as ∧ FoOk f ∧
  ∀ H', FoAt C H' p f → (∀ b o, b ≠ p → H b = some o → H' b = some o) → Q .non H'
def nInit : List Str := ["self", "parents", "bearing", "asking", "place", "parent"]
theorem scInit : FnScope nInit ["self", "parents", "bearing", "asking"] (defScope sInit) := ⟨rfl, rfl, rfl, by decide +kernel, rfl, by decide +kernel, by decide +kernel⟩
theorem put3 {ap ab aa : Addr} : putF "asking" (.ref aa) (putF "bearing" (.ref ab) (putF "parents" (.ref ap) [])) = fields3 ap ab aa := rfl
theorem lotLen {ns : List Nat} {n : Nat} (hp : ns.Pairwise (· < ·)) (hx : ∀ x ∈ ns, x < n) : ns.length ≤ n := by
  have h : ∀ (k : Nat) (xs : List Nat), xs.Pairwise (· < ·) → (∀ x ∈ xs, k ≤ x ∧ x < n) → k ≤ n → xs.length + k ≤ n := by
    intro k xs
    induction xs generalizing k with
    | nil => intro _ _ h; rw [List.length_nil]; omega
    | cons y ys ih =>
      intro p q hk
      have hy := q y List.mem_cons_self
      have := ih (y + 1) (List.pairwise_cons.mp p).2 (fun x hx => ⟨(List.pairwise_cons.mp p).1 x hx, (q x (List.mem_cons_of_mem _ hx)).2⟩) hy.2
      rw [List.length_cons]
      omega
  have := h 0 ns hp (fun x hx' => ⟨Nat.zero_le _, hx x hx'⟩) (Nat.zero_le _)
  omega
theorem ok_init {f fI fL fB fO : Addr} {fd fdI fdL fdB fdO : FuncData} {tm : Tok} (F : Fun K "__init__" "Forest.__init__" sInit f fd) (N : NamT mg) (T : FoT K mg C) (mM : mg "MOST_PLACES" = some (.int 60 tm)) (DI : DefAt K mg "is_integer" sIsInt ["thing"] fI fdI) (DL : DefAt K mg "is_lot" sIsLot ["thing"] fL fdL)
    (DB : DefAt K mg "is_between" sIsBtw ["thing", "least", "most"] fB fdB) (DO : DefAt K mg "_is_lot_of_places" sLotOf ["thing", "many"] fO fdO) : FnOk P w K mg base CX0 4 f fd ["self", "parents", "bearing", "asking"] (spInit C) := by
  have GB : FnOk P w K mg base CX0 2 fB fdB ["thing", "least", "most"] spIsBtw := ok_isBtw DB.F N DI
  have GO : FnOk P w K mg base CX0 3 fO fdO ["thing", "many"] spLotOf := ok_lotOf DO.F N DI DL
  refine F.ok scInit (fun vs H Q E h => ?_) (fun cdv A outer s H vs Q E hr h => ?_)
  · obtain ⟨p, dx, ap, ab, aa, f, rfl, _⟩ := h
    rfl
  · obtain ⟨p, dx, ap, ab, aa, fo, rfl, hp, h1, h2, h3, ok, k⟩ := h
    have hr2 : Room 2 (A.deeper (envOfC "Forest.__init__" (defScope sInit) s.heap.objs.size f cdv)) := Room.mono hr (by decide)
    refine ⟨_, pss_cons (ps_if (PW.pt (pw_or (pt_not (pt_val (pe_callB call_isi (by rfl) N.is.inst (by decide +kernel) (pa_cons (pv 1) (pa_cons (pe_bltn (v := .ty "tuple") (by rfl) N.is.tup (by decide +kernel) rfl) pa_nil)))))
          (pw_or1 (pt_not (pt_chain op_le op_le pe_int (pe_callB call_len_seq (by rfl) N.is.len PySem.boot_len (pa_cons (pv 1) pa_nil)) (pe_glob (v := .int 60) (by rfl) mM ⟨_, rfl⟩)))))) (pss_one ps_never) pss_nil)
      (pss_cons (ps_for PassesOwn.never rfl (pi_enumT (by rfl) N.enum (pa_cons (pv 1) pa_nil)) (pg_tup rfl (pgs_cons (pg_name (i := 4) scInit.nd rfl (Or.inl rfl)) (pgs_cons (pg_name (i := 5) scInit.nd rfl (Or.inl rfl)) pgs_nil)))
        (pss_one (ps_if (PW.pt (pw_and (pt_cmpR op_notN (pv 5) pe_non (nomark _)) (pw_and1 (pt_not (pt_val (pe_call GB hr2 (by rfl) DB.g DB.F.kp DB.b .nil pass0 (pa_cons (pv 5) (pa_cons pe_int (pa_cons (pe_op op_sub (pv 4) pe_int) pa_nil))))))))) (pss_one ps_never) pss_nil)))
      (pss_cons (ps_if (pt_not (pt_val (pe_call GO hr (by rfl) DO.g DO.F.kp DO.b .nil pass0 (pa_cons (pv 2) (pa_cons (pe_callB call_len_seq (by rfl) N.is.len PySem.boot_len (pa_cons (pv 1) pa_nil)) pa_nil))))) (pss_one ps_never) pss_nil)
      (pss_cons (ps_if (pt_not (pt_val (pe_call GO hr (by rfl) DO.g DO.F.kp DO.b .nil pass0 (pa_cons (pv 3) (pa_cons (pe_callB call_len_seq (by rfl) N.is.len PySem.boot_len (pa_cons (pv 1) pa_nil)) pa_nil))))) (pss_one ps_never) pss_nil)
      (pss_cons (ps_fld (pv 0) (pv 1) rfl) (pss_cons (ps_fld (pv 0) (pv 2) rfl) (pss_one (ps_fld (pv 0) (pv 3) rfl))))))), ?_⟩
    have l1 : ((fo.ps.map vp).length : Int) ≤ 60 := by have := ok.l1; rw [List.length_map]; omega
    have l0 : (1 : Int) ≤ ((fo.ps.map vp).length : Int) := by have := ok.l0; rw [List.length_map]; omega
    refine ⟨_, rfl, _, .ty "tuple", _, _, true, rfl, .ty _, tupTy h1, kit_ty (by decide +kernel), true, rfl, ?_⟩
    refine ifF (by decide) ?_
    refine ⟨_, rfl, ap, _, rfl, .inr (tpL h1), _, _, rfl, rfl, _, rfl, ?_⟩
    refine ifT (decide_eq_true l0) ?_
    refine ⟨_, _, rfl, rfl, _, rfl, ?_⟩
    refine ifF (by rw [decide_eq_true l1]; decide) ?_
    refine ⟨_, rfl, ap, _, rfl, tpL h1, ?_⟩
    refine for_it (walk_enumT (xs := fo.ps.map vp)) (fun _ σ H' => Same H H' ∧ ∃ t4 t5, σ = [some (.ref p), some (.ref ap), some (.ref ab), some (.ref aa), t4, t5]) ⟨Same.refl _, _, _, rfl⟩ (fun i σ H' _ z => tpL (z.1 _ _ h1)) ?_ ?_
    · rintro i x σ H' H2 hi ⟨sm, t4, t5, rfl⟩ ⟨T, x1, y1, rfl, nT, rfl, e1, e2⟩
      cases e1
      obtain ⟨q, hq, rfl⟩ := vp_get (i := i) e2
      refine ⟨T, _, rfl, .inl (.inl upd_same), rfl, _, _, rfl, _, _, rfl, rfl, ?_⟩
      cases q with
      | none =>
        refine ⟨_, rfl, rfl, _, rfl, ?_⟩
        refine ifF (by decide) ?_
        exact ⟨sm.trans (smUpd nT), _, _, rfl⟩
      | some m =>
        refine ⟨_, rfl, rfl, _, rfl, ?_⟩
        refine ifT (by rw [vp_ne]; rfl) ?_
        refine ⟨_, rfl, _, rfl, _, _, rfl, rfl, (m : Int), 0, (i : Int) - 1, rfl, _, rfl, ?_⟩
        have := ok.ps i m hq
        refine ifF (by rw [decide_eq_true (by omega)]; decide) ?_
        exact ⟨sm.trans (smUpd nT), _, _, rfl⟩
    · rintro σ H' ⟨sm, t4, t5, rfl⟩
      refine ⟨_, rfl, _, rfl, ap, _, rfl, .inr (tpL (sm _ _ h1)), ab, fo.be, fo.ps.length, by rw [List.length_map]; rfl, sm _ _ h2, ok.be, ok.bl, Nat.le_trans (lotLen ok.be ok.bl) (by have := ok.l1; omega), fun H1 s1 => ⟨true, rfl, ?_⟩⟩
      refine ifF (by decide) ?_
      refine ⟨_, rfl, _, rfl, ap, _, rfl, .inr (tpL (s1 _ _ (sm _ _ h1))), aa, fo.as, fo.ps.length, by rw [List.length_map]; rfl, s1 _ _ (sm _ _ h3), ok.as, ok.al, Nat.le_trans (lotLen ok.as ok.al) (by have := ok.l1; omega), fun H3 s3 => ⟨true, rfl, ?_⟩⟩
      refine ifF (by decide) ?_
      have sm3 := (sm.trans s1).trans s3
      refine ⟨_, rfl, _, rfl, p, C, dx, [], rfl, sm3 _ _ hp, T.cl, T.nP, (by show 0 < 1000; decide), ?_⟩
      refine ⟨_, rfl, _, rfl, p, C, dx, _, rfl, upd_same, T.cl, T.nB, (by show 1 < 1000; decide), ?_⟩
      refine ⟨_, rfl, _, rfl, p, C, dx, _, rfl, upd_same, T.cl, T.nA, (by show 2 < 1000; decide), ?_⟩
      have kp : ∀ b o, b ≠ p → H b = some o → (upd (upd (upd H3 p (.ins C dx (putF "parents" (.ref ap) []))) p (.ins C dx (putF "bearing" (.ref ab) (putF "parents" (.ref ap) [])))) p (.ins C dx (fields3 ap ab aa))) b = some o := fun b o ne e => by
        rw [upd_ne ne, upd_ne ne, upd_ne ne]
        exact sm3 _ _ e
      have nt : ∀ {a : Addr} {xs : List V}, H a = some (.tup xs) → a ≠ p := fun {a xs} e z => by rw [z, hp] at e; cases e
      exact k _ ⟨dx, ap, ab, aa, upd_same, kp _ _ (nt h1) h1, kp _ _ (nt h2) h2, kp _ _ (nt h3) h3⟩ kp
end
end Cn
namespace Cn
open PySem PySem.Spec PyProof.Rows L2 Ck
section
variable {P : Program} {w : World} {K : PySem.W.Frag} {mg : Str → Option Value} {base : Heap} {C : Addr}
/-- a def at its level -/
def Def (P : Program) (w : World) (K : PySem.W.Frag) (mg : Str → Option Value) (base : Heap) (x : Str) (k : Nat) (ps : List Str) (sp : Sp) : Prop :=
  ∃ f fd, FnOk P w K mg base CX0 k f fd ps sp ∧ mg x = some (.ref f) ∧ PySem.W.keepIn K (.ref f) = true ∧ Binds K fd ps []
theorem def_of {x : Str} {st : Stmt} {ps : List Str} {k : Nat} {sp : Sp} (h : ∃ f fd, DefAt K mg x st ps f fd) (g : ∀ f fd, Fun K x x st f fd → FnOk P w K mg base CX0 k f fd ps sp) : Def P w K mg base x k ps sp := by
  obtain ⟨f, fd, D⟩ := h
  exact ⟨f, fd, g f fd D.F, D.g, D.F.kp, D.b⟩
theorem dBtw (B : Defs K mg C) : Def P w K mg base "is_between" 2 ["thing", "least", "most"] spIsBtw := by
  obtain ⟨fI, fdI, DI⟩ := B.I
  exact def_of B.B fun f fd F => ok_isBtw F B.N DI
/-! is_place -/
def spPlace (C : Addr) : Sp := fun vs H Q _ => ∃ (a : Addr) (f : Fo) (i : Nat), vs = [.ref a, vn i] ∧ FoAt C H a f ∧ i < f.ps.length ∧ Q (.bl true) H
theorem scIsPlace : FnScope ["forest", "thing"] ["forest", "thing"] (defScope sIsPlace) := ⟨rfl, rfl, rfl, by decide +kernel, rfl, by decide +kernel, by decide +kernel⟩
theorem dPlace (B : Defs K mg C) : Def P w K mg base "is_place" 3 ["forest", "thing"] (spPlace C) := by
  obtain ⟨fB, fdB, GB, gB, kB, bB⟩ := dBtw (P := P) (w := w) (base := base) B
  refine def_of B.Pl fun f fd F => ?_
  refine F.ok scIsPlace (fun vs H Q E h => ?_) (fun cdv A outer s H vs Q E hr h => ?_)
  · obtain ⟨a, f, i, rfl, _⟩ := h
    rfl
  · obtain ⟨a, fo, i, rfl, ⟨dx, ap, ab, aa, h0, h1, h2, h3⟩, hi, k⟩ := h
    refine ⟨_, pss_one (ps_ret (pe_call GB hr (by rfl) gB kB bB .nil pass0 (pa_cons (pv 1) (pa_cons pe_int (pa_cons (pe_op op_sub (pe_callB call_len_seq (by rfl) B.N.is.len PySem.boot_len (pa_cons (pe_fld (pv 0) rfl) pa_nil)) pe_int) pa_nil))))), ?_⟩
    refine ⟨_, rfl, _, rfl, a, C, dx, _, _, rfl, h0, B.T.cl, B.T.nP, fP, ap, _, rfl, .inr (tpL h1), _, _, rfl, rfl, (i : Int), 0, _, rfl, ?_⟩
    rw [List.length_map, decide_eq_true (by omega)]
    exact k
/-! way -/
def spWay (C : Addr) : Sp := fun vs H Q _ => ∃ (a : Addr) (f : Fo) (i : Nat), vs = [.ref a, vn i] ∧ FoAt C H a f ∧ Ps f.ps ∧ f.ps.length ≤ 60 ∧ i < f.ps.length ∧ ∀ b H', Same H H' → TDn H' b (road f.ps i) → Q (.ref b) H'
def nWay : List Str := ["forest", "place", "upward", "parent"]
theorem scWay : FnScope nWay ["forest", "place"] (defScope sWay) := ⟨rfl, rfl, rfl, by decide +kernel, rfl, by decide +kernel, by decide +kernel⟩
theorem ps_at {ps : List (Option Nat)} {i : Nat} (hi : i < ps.length) : ∃ q, ps[i]? = some q := ⟨_, List.getElem?_eq_getElem hi⟩
/-- where the walk upward stands -/
def UpAt (ps : List (Option Nat)) (i : Nat) (up : List Nat) : Option Nat → Prop
  | none => road ps i = up.reverse
  | some p => p < i ∧ road ps i = road ps p ++ up.reverse
theorem upStart {ps : List (Option Nat)} {i : Nat} {q : Option Nat} (hp : Ps ps) (h : ps[i]? = some q) : UpAt ps i [i] q := by
  cases q with
  | none => exact road_none h
  | some p => exact ⟨hp i p h, road_some hp h⟩
theorem upNext {ps : List (Option Nat)} {i p : Nat} {up : List Nat} {q : Option Nat} (hp : Ps ps) (h : UpAt ps i up (some p)) (hq : ps[p]? = some q) : UpAt ps i (up ++ [p]) q := by
  obtain ⟨hl, e⟩ := h
  cases q with
  | none =>
    show road ps i = (up ++ [p]).reverse
    rw [e, road_none hq, List.reverse_append]; rfl
  | some r =>
    refine ⟨Nat.lt_trans (hp p r hq) hl, ?_⟩
    rw [e, road_some hp hq, List.reverse_append, List.append_assoc]; rfl
def meas : L2.St → Nat := fun σ => match σ[3]? with
  | some (some (V.int n)) => n.toNat + 1
  | _ => 0
theorem dWay (B : Defs K mg C) : Def P w K mg base "way" 4 ["forest", "place"] (spWay C) := by
  obtain ⟨fB, fdB, GB, gB, kB, bB⟩ := dPlace (P := P) (w := w) (base := base) B
  refine def_of B.W fun f fd F => ?_
  refine F.ok scWay (fun vs H Q E h => ?_) (fun cdv A outer s H vs Q E hr h => ?_)
  · obtain ⟨a, f, i, rfl, _⟩ := h
    rfl
  · obtain ⟨a, fo, i, rfl, hF, hp, hl, hi, k⟩ := h
    refine ⟨_, pss_cons (ps_if (pt_not (pt_val (pe_call GB hr (by rfl) gB kB bB .nil pass0 (pa_cons (pv 0) (pa_cons (pv 1) pa_nil))))) (pss_one ps_never) pss_nil)
      (pss_cons (ps_set (i := 2) scWay.nd rfl (Or.inl rfl) (pe_lst (pa_cons (pv 1) pa_nil)))
      (pss_cons (ps_set (i := 3) scWay.nd rfl (Or.inl rfl) (pe_ix ix_tup (pe_fld (pv 0) rfl) (pv 1) (fun _ _ => rfl)))
      (pss_cons (ps_while PassesOwn.never (pt_cmpR op_notN (pv 3) pe_non (nomark _))
        (pss_cons (ps_expr (pe_bm PySem.F.plainAttrs_list PySem.F.slot_list_append PySem.F.type_list_append mt_append (pv 2) (pa_cons (pv 3) pa_nil)))
        (pss_one (ps_set (i := 3) scWay.nd rfl (Or.inl rfl) (pe_ix ix_tup (pe_fld (pv 0) rfl) (pv 3) (fun _ _ => rfl))))))
      (pss_one (ps_ret (pe_tupRevD rfl (by rfl) B.N.is.tup (by rfl) B.N.rev (pv 2))))))), ?_⟩
    refine ⟨_, rfl, _, rfl, a, fo, i, rfl, hF, hi, true, rfl, ?_⟩
    refine ifF (by decide) ?_
    obtain ⟨dx, ap, ab, aa, h0, h1, h2, h3⟩ := hF
    refine ⟨_, rfl, by show 1 ≤ sizeLine; decide, fun u nu => ?_⟩
    have S1 := smUpd (o := .lst [vn i]) nu
    obtain ⟨q, hq⟩ := ps_at hi
    refine ⟨_, rfl, a, C, dx, _, _, rfl, S1 _ _ h0, B.T.cl, B.T.nP, fP, _, rfl, ap, _, (i : Int), _, rfl, rfl, tpL (S1 _ _ h1), vp_ix hq, ?_⟩
    refine while_by (fun σ H' => ∃ (up : List Nat) (q : Option Nat), σ = [some (.ref a), some (vn i), some (.ref u), some (vp q)] ∧ Same H H' ∧ H' u = some (.lst (up.map vn)) ∧ UpAt fo.ps i up q ∧ up.length ≤ i + 1) (fun σ _ => meas σ) ⟨[i], q, rfl, S1, upd_same, upStart hp hq, by show 1 ≤ i + 1; omega⟩ ?_ ?_
    · rintro σ H' ⟨up, q, rfl, sm, hu, hup, hul⟩
      refine ⟨_, rfl, rfl, _, rfl, ?_⟩
      cases q with
      | none =>
        refine ifF (by decide) ?_
        refine ⟨_, rfl, u, _, rfl, .inl (.inl hu), fun r H2 s2 hr => ?_⟩
        rw [← List.map_reverse] at hr
        have e : road fo.ps i = up.reverse := hup
        refine k r _ (sm.trans s2) ?_
        rw [e]
        exact hr
      | some p =>
        refine ifT (by rw [vp_ne]; rfl) ?_
        obtain ⟨hpi, _⟩ := id hup
        have hpl : p < fo.ps.length := Nat.lt_trans hpi hi
        obtain ⟨r, hr⟩ := ps_at hpl
        refine ⟨_, rfl, .inl ⟨rfl, _, .inl (.inl hu)⟩, _, rfl, u, _, _, rfl, rfl, hu, ?_, ?_⟩
        · rw [List.length_map]; exact small1000 (by omega)
        have nub : ∀ b o, H b = some o → b ≠ u := fun b o e z => by rw [z, nu] at e; cases e
        have sm2 : Same H (upd H' u (.lst (up.map vn ++ [vp (some p)]))) := fun b o e => by rw [upd_ne (nub b o e)]; exact sm b o e
        refine ⟨_, rfl, a, C, dx, _, _, rfl, sm2 _ _ h0, B.T.cl, B.T.nP, fP, _, rfl, ap, _, (p : Int), _, rfl, rfl, tpL (sm2 _ _ h1), vp_ix hr, ?_⟩
        refine ⟨⟨up ++ [p], r, rfl, sm2, ?_, upNext hp hup hr, ?_⟩, ?_⟩
        · rw [upd_same, List.map_append]; rfl
        · have e := road_len hp i hi
          obtain ⟨_, e2⟩ := hup
          have := List.length_pos_iff.mpr (road_ne hp hpl)
          rw [e2, List.length_append, List.length_reverse] at e
          rw [List.length_append, List.length_singleton]
          omega
        · cases r with
          | none => show 0 < (p : Int).toNat + 1; omega
          | some r =>
            have := hp p r hr
            show (r : Int).toNat + 1 < (p : Int).toNat + 1
            omega
    · rintro σ H' Q1 Q2 hq12 ⟨v, hv, e, kk, hk, qq⟩
      exact ⟨v, hv, e, kk, hk, hq12 _ _ qq⟩
end
end Cn
namespace Cn
open PySem PySem.Spec PyProof.Rows L2 Ck
/-! way, as a plain new tuple -/
section
variable {P : Program} {w : World} {K : PySem.W.Frag} {mg : Str → Option Value} {base : Heap} {C : Addr}
def spWayN (C : Addr) : Sp := fun vs H Q _ => ∃ (a : Addr) (f : Fo) (i : Nat), vs = [.ref a, vn i] ∧ FoAt C H a f ∧ Ps f.ps ∧ f.ps.length ≤ 60 ∧ i < f.ps.length ∧ ∀ b H', Same H H' → TN H' b (road f.ps i) → Q (.ref b) H'
theorem dWayN (B : Defs K mg C) : Def P w K mg base "way" 4 ["forest", "place"] (spWayN C) := by
  obtain ⟨fB, fdB, GB, gB, kB, bB⟩ := dPlace (P := P) (w := w) (base := base) B
  refine def_of B.W fun f fd F => ?_
  refine F.ok scWay (fun vs H Q E h => ?_) (fun cdv A outer s H vs Q E hr h => ?_)
  · obtain ⟨a, f, i, rfl, _⟩ := h
    rfl
  · obtain ⟨a, fo, i, rfl, hF, hp, hl, hi, k⟩ := h
    refine ⟨_, pss_cons (ps_if (pt_not (pt_val (pe_call GB hr (by rfl) gB kB bB .nil pass0 (pa_cons (pv 0) (pa_cons (pv 1) pa_nil))))) (pss_one ps_never) pss_nil)
      (pss_cons (ps_set (i := 2) scWay.nd rfl (Or.inl rfl) (pe_lst (pa_cons (pv 1) pa_nil)))
      (pss_cons (ps_set (i := 3) scWay.nd rfl (Or.inl rfl) (pe_ix ix_tup (pe_fld (pv 0) rfl) (pv 1) (fun _ _ => rfl)))
      (pss_cons (ps_while PassesOwn.never (pt_cmpR op_notN (pv 3) pe_non (nomark _))
        (pss_cons (ps_expr (pe_bm PySem.F.plainAttrs_list PySem.F.slot_list_append PySem.F.type_list_append mt_append (pv 2) (pa_cons (pv 3) pa_nil)))
        (pss_one (ps_set (i := 3) scWay.nd rfl (Or.inl rfl) (pe_ix ix_tup (pe_fld (pv 0) rfl) (pv 3) (fun _ _ => rfl))))))
      (pss_one (ps_ret (RT.pe_tupRev rfl (by rfl) B.N.is.tup (by rfl) B.N.rev (pv 2))))))), ?_⟩
    refine ⟨_, rfl, _, rfl, a, fo, i, rfl, hF, hi, true, rfl, ?_⟩
    refine ifF (by decide) ?_
    obtain ⟨dx, ap, ab, aa, h0, h1, h2, h3⟩ := hF
    refine ⟨_, rfl, by show 1 ≤ sizeLine; decide, fun u nu => ?_⟩
    have S1 := smUpd (o := .lst [vn i]) nu
    obtain ⟨q, hq⟩ := ps_at hi
    refine ⟨_, rfl, a, C, dx, _, _, rfl, S1 _ _ h0, B.T.cl, B.T.nP, fP, _, rfl, ap, _, (i : Int), _, rfl, rfl, tpL (S1 _ _ h1), vp_ix hq, ?_⟩
    refine while_by (fun σ H' => ∃ (up : List Nat) (q : Option Nat), σ = [some (.ref a), some (vn i), some (.ref u), some (vp q)] ∧ Same H H' ∧ H' u = some (.lst (up.map vn)) ∧ UpAt fo.ps i up q ∧ up.length ≤ i + 1) (fun σ _ => meas σ) ⟨[i], q, rfl, S1, upd_same, upStart hp hq, by show 1 ≤ i + 1; omega⟩ ?_ ?_
    · rintro σ H' ⟨up, q, rfl, sm, hu, hup, hul⟩
      refine ⟨_, rfl, rfl, _, rfl, ?_⟩
      cases q with
      | none =>
        refine ifF (by decide) ?_
        refine ⟨_, rfl, u, _, rfl, .inl (.inl hu), fun r nr => ?_⟩
        rw [← List.map_reverse]
        have e : road fo.ps i = up.reverse := hup
        refine k r _ (sm.trans (smUpd nr)) ?_
        rw [e]
        exact upd_same
      | some p =>
        refine ifT (by rw [vp_ne]; rfl) ?_
        obtain ⟨hpi, _⟩ := id hup
        have hpl : p < fo.ps.length := Nat.lt_trans hpi hi
        obtain ⟨r, hr⟩ := ps_at hpl
        refine ⟨_, rfl, .inl ⟨rfl, _, .inl (.inl hu)⟩, _, rfl, u, _, _, rfl, rfl, hu, ?_, ?_⟩
        · rw [List.length_map]; exact small1000 (by omega)
        have nub : ∀ b o, H b = some o → b ≠ u := fun b o e z => by rw [z, nu] at e; cases e
        have sm2 : Same H (upd H' u (.lst (up.map vn ++ [vp (some p)]))) := fun b o e => by rw [upd_ne (nub b o e)]; exact sm b o e
        refine ⟨_, rfl, a, C, dx, _, _, rfl, sm2 _ _ h0, B.T.cl, B.T.nP, fP, _, rfl, ap, _, (p : Int), _, rfl, rfl, tpL (sm2 _ _ h1), vp_ix hr, ?_⟩
        refine ⟨⟨up ++ [p], r, rfl, sm2, ?_, upNext hp hup hr, ?_⟩, ?_⟩
        · rw [upd_same, List.map_append]; rfl
        · have e := road_len hp i hi
          obtain ⟨_, e2⟩ := hup
          have := List.length_pos_iff.mpr (road_ne hp hpl)
          rw [e2, List.length_append, List.length_reverse] at e
          rw [List.length_append, List.length_singleton]
          omega
        · cases r with
          | none => show 0 < (p : Int).toNat + 1; omega
          | some r =>
            have := hp p r hr
            show (r : Int).toNat + 1 < (p : Int).toNat + 1
            omega
    · rintro σ H' Q1 Q2 hq12 ⟨v, hv, e, kk, hk, qq⟩
      exact ⟨v, hv, e, kk, hk, hq12 _ _ qq⟩
end
end Cn
namespace Cn
open PySem PySem.Spec PyProof.Rows L2 Ck
/-! data of whole numbers -/
def dn (ns : List Nat) : List PyData := ns.map fun n => PyData.int ((n : Nat) : Int)
theorem dpN {K : PySem.W.Frag} {H : Hp} : ∀ ns : List Nat, DpAll K H (ns.map vn) (dn ns)
  | [] => .nil
  | n :: ns => .cons (.int _) (dpN ns)
theorem dnLay : ∀ ns : List Nat, PyData.canLayAll0 (dn ns) = true
  | [] => rfl
  | n :: ns => by
    show (PyData.canLay0 (.int _) && PyData.canLayAll0 (dn ns)) = true
    rw [dnLay ns]; rfl
theorem dnDepth : ∀ ns : List Nat, PyData.depthAll (dn ns) = 0
  | [] => rfl
  | n :: ns => by
    show max (PyData.depth (.int _)) (PyData.depthAll (dn ns)) = 0
    rw [dnDepth ns]; rfl
theorem dnShL (ns : List Nat) : SeqAt.shaped (.list (dn ns)) = true := by
  show (PyData.canLayAll0 (dn ns) && decide (PyData.depthAll (dn ns) + 1 ≤ 64)) = true
  rw [dnLay, dnDepth]; rfl
theorem dnShT (ns : List Nat) : SeqAt.shaped (.tuple (dn ns)) = true := by
  show (PyData.canLayAll0 (dn ns) && decide (PyData.depthAll (dn ns) + 1 ≤ 64)) = true
  rw [dnLay, dnDepth]; rfl
theorem dnEqL (ns : List Nat) : PyData.eqv (.list (dn ns)) (.list (dn ns)) = true := SeqAt.eqv_refl (.list (dn ns)) (dnLay ns)
theorem dnEqT (ns : List Nat) : PyData.eqv (.tuple (dn ns)) (.tuple (dn ns)) = true := SeqAt.eqv_refl (.tuple (dn ns)) (dnLay ns)
/-- what is sorted and has just the numbers below n, each once -/
theorem sortedRange {ns : List Nat} {n : Nat} {zs : List Int} (nd : ns.Nodup) (hm : ∀ x, x ∈ ns ↔ x < n) (hp : zs.Perm (ns.map fun k => ((k : Nat) : Int))) (hs : zs.Pairwise (· ≤ ·)) : zs = (List.range n).map fun k => ((k : Nat) : Int) := by
  have h1 : ns.Perm (List.range n) := (List.perm_ext_iff_of_nodup nd List.nodup_range).mpr fun x => by rw [hm, List.mem_range]
  refine List.Perm.eq_of_pairwise (le := (· ≤ ·)) (fun a b _ _ p q => Int.le_antisymm p q) hs ?_ (hp.trans (h1.map _))
  rw [List.pairwise_map]
  exact List.pairwise_lt_range.imp fun h => by omega
theorem rgN (n : Nat) : rgV 0 (n : Int) = (List.range n).map vn := by
  unfold rgV
  rw [Int.sub_zero, Int.toNat_natCast]
  refine List.map_congr_left fun i _ => ?_
  show V.int (0 + (i : Int)) = V.int (i : Int)
  rw [Int.zero_add]
theorem mapIV (ns : List Nat) : (ns.map fun k => ((k : Nat) : Int)).map V.int = ns.map vn := by rw [List.map_map]; rfl
/-- cuts: all places, each once -/
structure CutsOk (n : Nat) (cs : List Nat) : Prop where
  len : cs.length = n
  nd : cs.Nodup
  mem : ∀ x, x ∈ cs ↔ x < n
section
variable {P : Program} {w : World} {K : PySem.W.Frag} {mg : Str → Option Value} {base : Heap} {C : Addr}
theorem dInt (B : Defs K mg C) : Def P w K mg base "is_integer" 1 ["thing"] spIsInt := def_of B.I fun f fd F => ok_isInt F B.N
end
end Cn

namespace Cn
open PySem PySem.Spec PyProof.Rows L2 Ck
section
variable {P : Program} {w : World} {K : PySem.W.Frag} {mg : Str → Option Value} {base : Heap} {C : Addr}
/-! _is_cuts -/
def spIsCuts (C : Addr) : Sp := fun vs H Q _ => ∃ (a b : Addr) (f : Fo) (cs : List Nat), vs = [.ref a, .ref b] ∧ FoAt C H a f ∧ TDn H b cs ∧ f.ps.length ≤ 60 ∧ CutsOk f.ps.length cs ∧ ∀ H', Same H H' → Q (.bl true) H'
def nIsCuts : List Str := ["forest", "thing", "item"]
theorem scIsCuts : FnScope nIsCuts ["forest", "thing"] (defScope sIsCuts) := ⟨rfl, rfl, rfl, by decide +kernel, rfl, by decide +kernel, by decide +kernel⟩
theorem dIsCuts (B : Defs K mg C) : Def P w K mg base "_is_cuts" 2 ["forest", "thing"] (spIsCuts C) := by
  obtain ⟨fI, fdI, GI, gI, kI, bI⟩ := dInt (P := P) (w := w) (base := base) B
  have N := B.N
  have T := B.T
  refine def_of B.cu fun f fd F => ?_
  refine F.ok scIsCuts (fun vs H Q E h => ?_) (fun cdv A outer s H vs Q E hr h => ?_)
  · obtain ⟨a, b, f, lv, rfl, _⟩ := h
    rfl
  · obtain ⟨a, b, fo, cs, rfl, ⟨dx, ap, ab, aa, h0, h1, h2, h3⟩, hb, hl, hc, k⟩ := h
    refine ⟨_, pss_cons (ps_if (PW.pt (pw_or (pt_not (pt_val (pe_callB call_isi (by rfl) N.is.inst (by decide +kernel) (pa_cons (pv 1) (pa_cons (pe_bltn (v := .ty "tuple") (by rfl) N.is.tup (by decide +kernel) rfl) pa_nil)))))
          (pw_or1 (pt_cmpR op_ne (pe_callB call_len_seq (by rfl) N.is.len PySem.boot_len (pa_cons (pv 1) pa_nil)) (pe_callB call_len_seq (by rfl) N.is.len PySem.boot_len (pa_cons (pe_fld (pv 0) rfl) pa_nil)) (nomark _))))) (pss_one ps_never) pss_nil)
      (pss_cons (ps_for PassesOwn.never rfl (pi_tup (pv 1)) (pg_name (i := 2) scIsCuts.nd rfl (Or.inl rfl)) (pss_one (ps_if (pt_not (pt_val (pe_call GI hr (by rfl) gI kI bI .nil pass0 (pa_cons (pv 2) pa_nil)))) (pss_one ps_never) pss_nil)))
      (pss_one (ps_ret (pe_cmpR (op_eqD hr.units) (pe_callB cr_sortTup (by rfl) N.sorted (by decide +kernel) (pa_cons (pv 1) pa_nil)) (pe_listRg rfl (by rfl) N.is.lst (prg_1 (by rfl) N.range (pe_callB call_len_seq (by rfl) N.is.len PySem.boot_len (pa_cons (pv 1) pa_nil)))) (nomark _))))), ?_⟩
    refine ⟨_, rfl, _, .ty "tuple", _, _, true, rfl, .ty _, tdTy hb, kit_ty (by decide +kernel), true, rfl, ?_⟩
    refine ifF (by decide) ?_
    refine ⟨_, rfl, b, _, rfl, .inr (tdL hb), _, rfl, a, C, dx, _, _, rfl, h0, T.cl, T.nP, fP, ap, _, rfl, .inr (tpL h1), rfl, _, rfl, ?_⟩
    refine ifF (by rw [List.length_map, List.length_map, hc.len, decide_eq_true rfl]; decide) ?_
    refine ⟨_, rfl, b, rfl, ⟨_, tdL hb⟩, ?_⟩
    refine for_it (walk_tup (xs := cs.map vn)) (fun _ σ H' => H' = H ∧ ∃ t1, σ = [some (.ref a), some (.ref b), t1]) ⟨rfl, _, rfl⟩ (fun i σ H' _ z => by rw [z.1]; exact tdL hb) ?_ ?_
    · rintro i x σ H' H2 hi ⟨rfl, t1, rfl⟩ ⟨rfl, hx⟩
      obtain ⟨n, _, rfl⟩ := vn_get hx
      refine ⟨_, rfl, (n : Int), rfl, true, rfl, ?_⟩
      refine ifF (by decide) ?_
      exact ⟨rfl, _, rfl⟩
    · rintro σ H' ⟨rfl, t1, rfl⟩
      refine ⟨_, rfl, b, cs.map (fun k => ((k : Nat) : Int)), rfl, by rw [mapIV]; exact tdL hb, by rw [List.length_map, hc.len]; omega, fun zs p hz hs np => ?_⟩
      rw [sortedRange hc.nd hc.mem hz hs, mapIV]
      have S1 := smUpd (o := .lst ((List.range fo.ps.length).map vn)) np
      have hp1 : upd H' p (.lst ((List.range fo.ps.length).map vn)) p = _ := upd_same
      generalize upd H' p (.lst ((List.range fo.ps.length).map vn)) = H1 at S1 hp1 ⊢
      have e : ((cs.map vn).length : Int) = ((fo.ps.length : Nat) : Int) := by rw [List.length_map, hc.len]
      refine ⟨_, rfl, b, _, rfl, .inr (tdL (tdSame S1 hb)), _, rfl, ?_, fun q nq => ?_⟩
      · rw [e]
        exact RgOk.of_le (by decide) (by omega) (by decide) (by omega)
      rw [e, rgN]
      have S2 := smUpd (o := .lst ((List.range fo.ps.length).map vn)) nq
      refine ⟨.list (dn (List.range fo.ps.length)), .list (dn (List.range fo.ps.length)), .lst (.inl (.inl (S2 _ _ hp1))) (dpN _), .lst (.inl (.inl upd_same)) (dpN _), dnShL _, dnShL _, ?_⟩
      rw [dnEqL]
      exact k _ (S1.trans S2)
end
end Cn

namespace Cn
open PySem PySem.Spec PyProof.Rows L2 Ck
section
variable {P : Program} {w : World} {K : PySem.W.Frag} {mg : Str → Option Value} {base : Heap} {C : Addr}
/-! _level -/
/-- r is below all of xs, and of the number of all -/
def Below1 (rk : Nat → Nat) (n : Nat) (xs : List Nat) (e : Nat) : Prop := ∀ r, r < e ↔ r < n ∧ ∀ y ∈ xs, r < rk y
theorem below0 (rk : Nat → Nat) (n : Nat) : Below1 rk n [] n := fun r => ⟨fun h => ⟨h, fun y hy => by cases hy⟩, fun h => h.1⟩
theorem belowYes {rk : Nat → Nat} {n : Nat} {xs : List Nat} {e x : Nat} (h : Below1 rk n xs e) (hx : rk x < e) : Below1 rk n (x :: xs) (rk x) ∧ rlm rk (x :: xs) = x :: rlm rk xs := by
  have hh := (h _).mp hx
  refine ⟨fun r => ⟨fun hr => ⟨Nat.lt_trans hr hh.1, fun y hy => ?_⟩, fun hr => hr.2 x List.mem_cons_self⟩, ?_⟩
  · rcases List.mem_cons.mp hy with e | hy
    · rw [e]; exact hr
    · exact Nat.lt_trans hr (hh.2 y hy)
  · show (if ∀ y ∈ xs, rk x < rk y then x :: rlm rk xs else rlm rk xs) = _
    rw [if_pos hh.2]
theorem belowNo {rk : Nat → Nat} {n : Nat} {xs : List Nat} {e x : Nat} (h : Below1 rk n xs e) (hn : rk x < n) (hx : ¬ rk x < e) : Below1 rk n (x :: xs) e ∧ rlm rk (x :: xs) = rlm rk xs := by
  refine ⟨fun r => ⟨fun hr => ⟨((h r).mp hr).1, fun y hy => ?_⟩, fun hr => (h r).mpr ⟨hr.1, fun y hy => hr.2 y (List.mem_cons_of_mem _ hy)⟩⟩, ?_⟩
  · rcases List.mem_cons.mp hy with e2 | hy
    · rw [e2]; omega
    · exact ((h r).mp hr).2 y hy
  · show (if ∀ y ∈ xs, rk x < rk y then x :: rlm rk xs else rlm rk xs) = _
    rw [if_neg fun q => hx ((h _).mpr ⟨hn, q⟩)]
def spLevel (C : Addr) : Sp := fun vs H Q _ => ∃ (a b : Addr) (f : Fo) (cs : List Nat) (i : Nat), vs = [.ref a, .ref b, vn i] ∧ FoAt C H a f ∧ TDn H b cs ∧ Ps f.ps ∧ f.ps.length ≤ 60 ∧ CutsOk f.ps.length cs ∧ i < f.ps.length ∧ ∀ H', Same H H' → Q (vn (rlm (fun x => cs.idxOf x) (road f.ps i)).length) H'
def nLevel : List Str := ["forest", "cuts", "place", "level", "earliest", "over", "turn"]
theorem scLevel : FnScope nLevel ["forest", "cuts", "place"] (defScope sLevel) := ⟨rfl, rfl, rfl, by decide +kernel, rfl, by decide +kernel, by decide +kernel⟩
theorem drop_prev {α : Type} {xs : List α} {j : Nat} {x : α} (hj : j < xs.length) (hx : xs[xs.length - 1 - j]? = some x) : xs.drop (xs.length - (j + 1)) = x :: xs.drop (xs.length - j) := by
  have e : xs.length - (j + 1) = xs.length - 1 - j := by omega
  have e2 : xs.length - j = xs.length - 1 - j + 1 := by omega
  obtain ⟨hl, hx⟩ := List.getElem?_eq_some_iff.mp hx
  rw [e, e2, List.drop_eq_getElem_cons hl, hx]
theorem dLevel (B : Defs K mg C) : Def P w K mg base "_level" 5 ["forest", "cuts", "place"] (spLevel C) := by
  obtain ⟨fW, fdW, GW, gW, kW, bW⟩ := dWay (P := P) (w := w) (base := base) B
  have N := B.N
  have T := B.T
  refine def_of B.lv fun f fd F => ?_
  refine F.ok scLevel (fun vs H Q E h => ?_) (fun cdv A outer s H vs Q E hr h => ?_)
  · obtain ⟨a, b, f, cs, i, rfl, _⟩ := h
    rfl
  · obtain ⟨a, b, fo, cs, i, rfl, hF, hb, hp, hl, hc, hi, k⟩ := h
    refine ⟨_, pss_cons (ps_set (i := 3) scLevel.nd rfl (Or.inl rfl) pe_int)
      (pss_cons (ps_set (i := 4) scLevel.nd rfl (Or.inl rfl) (pe_callB call_len_seq (by rfl) N.is.len PySem.boot_len (pa_cons (pv 1) pa_nil)))
      (pss_cons (ps_for PassesOwn.never rfl (RT.pi_revA (by rfl) N.rev (pe_call GW hr (by rfl) gW kW bW .nil pass0 (pa_cons (pv 0) (pa_cons (pv 2) pa_nil)))) (pg_name (i := 5) scLevel.nd rfl (Or.inl rfl))
        (pss_cons (ps_set (i := 6) scLevel.nd rfl (Or.inl rfl) (pe_bt PySem.F.slot_tuple_index PySem.F.type_tuple_index mt_tidx (pv 1) (pa_cons (pv 5) pa_nil)))
        (pss_one (ps_if (pt_cmpR op_lt (pv 6) (pv 4) (nomark _)) (pss_cons (ps_set (i := 4) scLevel.nd rfl (Or.inl rfl) (pv 6)) (pss_one (ps_aug (i := 3) scLevel.nd rfl (.inl rfl) pe_int ip_add))) pss_nil))))
      (pss_one (ps_ret (pv 3))))), ?_⟩
    refine ⟨_, rfl, b, _, rfl, .inr (tdL hb), ?_⟩
    rw [List.length_map]
    refine ⟨_, rfl, _, rfl, a, fo, i, rfl, hF, hp, hl, hi, fun r H1 s1 hr1 => ⟨r, _, rfl, .inr ⟨tdL hr1, ?_⟩⟩⟩
    have hb1 : TDn H1 b cs := tdSame s1 hb
    refine RT.for_ItvT (xs := (road fo.ps i).map vn) (fun j σ H' => H' = H1 ∧ ∃ (e : Nat) (t5 t6 : Option V), σ = [some (.ref a), some (.ref b), some (vn i), some (vn (rlm (fun x => cs.idxOf x) ((road fo.ps i).drop ((road fo.ps i).length - j))).length), some (vn e), t5, t6] ∧
      Below1 (fun x => cs.idxOf x) cs.length ((road fo.ps i).drop ((road fo.ps i).length - j)) e) ?_ (fun i σ H' z => by rw [z.1]; exact tdL hr1) ?_ ?_
    · refine ⟨rfl, cs.length, none, none, ?_, ?_⟩
      · rw [Nat.sub_zero, List.drop_length]; rfl
      · rw [Nat.sub_zero, List.drop_length]; exact below0 _ _
    · rintro j x σ H' hj hx ⟨rfl, e, t5, t6, rfl, hbl⟩
      rw [List.length_map] at hj hx
      obtain ⟨m, hm, rfl⟩ := vn_get hx
      have hmr : m ∈ road fo.ps i := List.mem_of_getElem? hm
      have hmc : m ∈ cs := (hc.mem m).mpr (Nat.lt_of_le_of_lt (road_le hp i hi m hmr) hi)
      obtain ⟨i1, i2⟩ := vn_idx hmc
      refine ⟨_, rfl, ⟨b, _, rfl, hb1⟩, _, rfl, b, _, _, cs.idxOf m, _, rfl, rfl, tdL hb1, rfl, vn_flat _, i1, by rw [vn_inj]; exact decide_eq_true rfl, i2, ?_⟩
      refine ⟨_, rfl, _, rfl, _, _, rfl, rfl, _, rfl, ?_⟩
      have hd := drop_prev hj hm
      have hlt := List.idxOf_lt_length_of_mem hmc
      by_cases c : cs.idxOf m < e
      · refine ifT (by rw [decide_eq_true_iff]; omega) ?_
        obtain ⟨b1, b2⟩ := belowYes hbl c
        refine ⟨_, rfl, _, rfl, _, _, rfl, rfl, rfl, cs.idxOf m, some (vn m), some (vn (cs.idxOf m)), ?_, by rw [hd]; exact b1⟩
        rw [hd, b2]
        rfl
      · refine ifF (by rw [decide_eq_true_iff]; omega) ?_
        obtain ⟨b1, b2⟩ := belowNo hbl hlt c
        refine ⟨rfl, e, some (vn m), some (vn (cs.idxOf m)), ?_, by rw [hd]; exact b1⟩
        rw [hd, b2]
        rfl
    · rintro σ H' ⟨rfl, e, t5, t6, rfl, _⟩
      rw [List.length_map, Nat.sub_self, List.drop_zero]
      exact ⟨_, rfl, k _ s1⟩
end
end Cn
namespace Cn
open PySem PySem.Spec PyProof.Rows L2 Ck
theorem smOver {H1 H4 : Hp} {D : Addr} {o : HO} (nD : H1 D = none) (sm : Same H1 H4) : Same H1 (upd H4 D o) := fun b u e => by
  have nb : b ≠ D := fun z => by rw [z, nD] at e; cases e
  rw [upd_ne nb]
  exact sm b u e
end Cn
namespace Cn
open PySem PySem.Spec PyProof.Rows L2 Ck
def dPar (ps : List (Option Nat)) : List PyData := ps.map fun q => match q with | none => PyData.none | some n => PyData.int ((n : Nat) : Int)
theorem dpPar {K : PySem.W.Frag} {H : Hp} : ∀ ps : List (Option Nat), DpAll K H (ps.map vp) (dPar ps)
  | [] => .nil
  | none :: ps => .cons .non (dpPar ps)
  | some n :: ps => .cons (.int _) (dpPar ps)
theorem dParLay : ∀ ps : List (Option Nat), PyData.canLayAll0 (dPar ps) = true
  | [] => rfl
  | none :: ps => by
    show (PyData.canLay0 .none && PyData.canLayAll0 (dPar ps)) = true
    rw [dParLay ps]; rfl
  | some n :: ps => by
    show (PyData.canLay0 (.int _) && PyData.canLayAll0 (dPar ps)) = true
    rw [dParLay ps]; rfl
theorem dParDepth : ∀ ps : List (Option Nat), PyData.depthAll (dPar ps) = 0
  | [] => rfl
  | none :: ps => by
    show max (PyData.depth .none) (PyData.depthAll (dPar ps)) = 0
    rw [dParDepth ps]; rfl
  | some n :: ps => by
    show max (PyData.depth (.int _)) (PyData.depthAll (dPar ps)) = 0
    rw [dParDepth ps]; rfl
theorem dParSh (ps : List (Option Nat)) : SeqAt.shaped (.tuple (dPar ps)) = true := by
  show (PyData.canLayAll0 (dPar ps) && decide (PyData.depthAll (dPar ps) + 1 ≤ 64)) = true
  rw [dParLay, dParDepth]; rfl
theorem dParEq : ∀ {ps qs : List (Option Nat)}, PyData.eqvAll (dPar ps) (dPar qs) = true → ps = qs
  | [], [], _ => rfl
  | [], q :: qs, h => by cases q <;> simp [dPar, PyData.eqvAll] at h
  | p :: ps, [], h => by cases p <;> simp [dPar, PyData.eqvAll] at h
  | none :: ps, none :: qs, h => by
    have h2 : PyData.eqvAll (dPar ps) (dPar qs) = true := by
      have h1 : PyData.eqvAll (PyData.none :: dPar ps) (PyData.none :: dPar qs) = true := h
      simp only [PyData.eqvAll, Bool.and_eq_true] at h1
      exact h1.2
    rw [dParEq h2]
  | some p :: ps, some q :: qs, h => by
    have h1 : PyData.eqvAll (PyData.int ((p : Nat) : Int) :: dPar ps) (PyData.int ((q : Nat) : Int) :: dPar qs) = true := h
    simp only [PyData.eqvAll, PyData.eqv, Bool.and_eq_true, beq_iff_eq] at h1
    rw [dParEq h1.2, show p = q from by omega]
  | none :: ps, some q :: qs, h => by
    have h1 : PyData.eqvAll (PyData.none :: dPar ps) (PyData.int ((q : Nat) : Int) :: dPar qs) = true := h
    simp [PyData.eqvAll, PyData.eqv] at h1
  | some p :: ps, none :: qs, h => by
    have h1 : PyData.eqvAll (PyData.int ((p : Nat) : Int) :: dPar ps) (PyData.none :: dPar qs) = true := h
    simp [PyData.eqvAll, PyData.eqv] at h1
theorem dParEqT {ps qs : List (Option Nat)} (h : PyData.eqv (.tuple (dPar ps)) (.tuple (dPar qs)) = true) : ps = qs := dParEq (by simpa only [PyData.eqv] using h)
end Cn
namespace Cn
open PySem PySem.Spec PyProof.Rows L2 Ck
def rLenQ (K : PySem.W.Frag) : List V → Hp → VK → Prop := fun xs H Q => ∃ p ys, xs = [.ref p] ∧ (SqL K H p ys ∨ SqT K H p ys) ∧ Q (.int ys.length) H
theorem len_q {X : Cx} : CallR X (.builtin "len") (rLenQ X.K) := call_len_seq
/-- either a list or a tuple, in slot i -/
def iSeq (K : PySem.W.Frag) (i : Nat) : TI := fun σ H R => iList K (tVar i) σ H R ∨ iTup K (tVar i) σ H R
theorem lenZero {n : Nat} : decide (V.int (n : Int) = V.int 0) = decide (n = 0) := by
  rw [Bool.eq_iff_iff, decide_eq_true_iff, decide_eq_true_iff]
  exact ⟨fun z => by have := V.int.inj z; omega, fun z => by rw [z]; rfl⟩
end Cn
namespace Cn
open PySem PySem.Spec PyProof.Rows L2 Ck
/-- a list of tuples of numbers -/
def Rows (H : Hp) (g : Nat → List Nat) (n : Nat) (us : List V) : Prop := us.length = n ∧ ∀ i, i < n → ∃ t, us[i]? = some (.ref t) ∧ TN H t (g i)
theorem rows0 {H : Hp} {g : Nat → List Nat} : Rows H g 0 [] := ⟨rfl, fun i h => absurd h (Nat.not_lt_zero _)⟩
theorem rowsSame {H H' : Hp} {g : Nat → List Nat} {n : Nat} {us : List V} (s : Same H H') (h : Rows H g n us) : Rows H' g n us := ⟨h.1, fun i hi => by
  obtain ⟨t, e, ht⟩ := h.2 i hi
  exact ⟨t, e, s _ _ ht⟩⟩
theorem rowsAdd {H : Hp} {g : Nat → List Nat} {n : Nat} {us : List V} {t : Addr} (h : Rows H g n us) (ht : TN H t (g n)) : Rows H g (n + 1) (us ++ [.ref t]) := by
  refine ⟨by rw [List.length_append, h.1]; rfl, fun i hi => ?_⟩
  by_cases e : i < n
  · obtain ⟨t', e', ht'⟩ := h.2 i e
    exact ⟨t', by rw [List.getElem?_append_left (by rw [h.1]; exact e)]; exact e', ht'⟩
  · have : i = n := by omega
    subst this
    exact ⟨t, by rw [List.getElem?_append_right (by rw [h.1]; exact Nat.le_refl _), h.1, Nat.sub_self]; rfl, ht⟩
/-- what is written at D, elsewhere nothing -/
theorem rowsUpd {H0 H' : Hp} {g : Nat → List Nat} {n : Nat} {us : List V} {D : Addr} {o : HO} {xs : List V} (h : Rows H' g n us) (hD : H' D = some (.lst xs)) : Rows (upd H' D o) g n us := ⟨h.1, fun i hi => by
  obtain ⟨t, e, ht⟩ := h.2 i hi
  have ne : t ≠ D := fun z => by
    have ht : H' t = _ := ht
    rw [z, hD] at ht; cases ht
  refine ⟨t, e, ?_⟩
  show upd H' D o t = _
  rw [upd_ne ne]; exact ht⟩
theorem lvLe {ps : List (Option Nat)} {lv : List Nat} (hp : Ps ps) (hv : Lv ps lv) : ∀ i, i < ps.length → lv.getD i 0 ≤ i + 1 := by
  intro i
  induction i using Nat.strongRecOn with
  | ind i ih =>
    intro hi
    have hil : i < lv.length := by rw [hv.1]; exact hi
    rcases opt_cases hi with h | ⟨p, h⟩
    · have h2 := hv.2 i _ _ (getD_at hil) h
      have e : mostLv lv none = 1 := rfl
      omega
    · have h2 := hv.2 i _ _ (getD_at hil) h
      have e : mostLv lv (some p) = lv.getD p 0 + 1 := rfl
      have hl := hp i p h
      have := ih p hl (Nat.lt_trans hl hi)
      omega
theorem stkLe {ps : List (Option Nat)} {lv : List Nat} {i : Nat} (hp : Ps ps) (hv : Lv ps lv) (hl : ps.length ≤ 60) (hi : i < ps.length) : (stk ps lv i).length ≤ 60 := by
  rw [stk_len hp hv i hi]
  have := lvLe hp hv i hi
  omega
theorem tnAt {H : Hp} {a : Addr} {xs : List V} {ns : List Nat} (h : H a = some (.tup xs)) (e : xs = ns.map vn) : TN H a ns := by
  show H a = some (.tup (ns.map vn))
  rw [← e]; exact h
end Cn
namespace Cn
open PySem PySem.Spec PyProof.Rows L2 Ck
/-! a note, notes as the heap has them -/
def NoteR (H : Hp) (v : V) (p : List Nat × List Nat) : Prop := ∃ t x y, v = .ref t ∧ H t = some (.tup [.ref x, .ref y]) ∧ TN H x p.1 ∧ TN H y p.2
theorem noteSame {H H' : Hp} (s : Same H H') {v : V} {p : List Nat × List Nat} (h : NoteR H v p) : NoteR H' v p := by
  obtain ⟨t, x, y, e, h1, h2, h3⟩ := h
  exact ⟨t, x, y, e, s _ _ h1, s _ _ h2, s _ _ h3⟩
def NotesR (H : Hp) (us : List V) (ps : List (List Nat × List Nat)) : Prop := Paired (NoteR H) us ps
theorem notesSame {H H' : Hp} (s : Same H H') {us : List V} {ps : List (List Nat × List Nat)} (h : NotesR H us ps) : NotesR H' us ps := Paired.mapP h fun _ _ z => noteSame s z
theorem notesUpd {H' : Hp} {D : Addr} {o : HO} {xs us : List V} {ps : List (List Nat × List Nat)} (hD : H' D = some (.lst xs)) (h : NotesR H' us ps) : NotesR (upd H' D o) us ps := Paired.mapP h fun v p z => by
  obtain ⟨t, x, y, e, h1, h2, h3⟩ := z
  have ne : ∀ {a : Addr} {ys : List V}, H' a = some (.tup ys) → upd H' D o a = some (.tup ys) := fun {a ys} e2 => by
    have q : a ≠ D := fun z => by rw [z, hD] at e2; cases e2
    rw [upd_ne q]; exact e2
  exact ⟨t, x, y, e, ne h1, ne h2, ne h3⟩
theorem paired_snoc {α β : Type} {F : α → β → Prop} : ∀ {xs : List α} {ys : List β} {x : α} {y : β}, Paired F xs ys → F x y → Paired F (xs ++ [x]) (ys ++ [y])
  | _, _, _, _, .nil, h => .cons h .nil
  | _, _, _, _, .cons a t, h => .cons a (paired_snoc t h)
end Cn

namespace Cn
open PySem PySem.Spec PyProof.Rows L2 Ck
section
variable {P : Program} {w : World} {K : PySem.W.Frag} {mg : Str → Option Value} {base : Heap} {C : Addr}
/-- the levels that cuts give, by their ranks -/
def lvOf (ps : List (Option Nat)) (cs : List Nat) (i : Nat) : Nat := (rlm (fun x => cs.idxOf x) (road ps i)).length
def spPlanOf (C : Addr) : Sp := fun vs H Q _ => ∃ (a b : Addr) (f : Fo) (cs : List Nat), vs = [.ref a, .ref b] ∧ FoAt C H a f ∧ TDn H b cs ∧ Ps f.ps ∧ f.ps.length ≤ 60 ∧ CutsOk f.ps.length cs ∧
  ∀ r H', Same H H' → TN H' r ((List.range f.ps.length).map (lvOf f.ps cs)) → Q (.ref r) H'
def nPlanOf : List Str := ["forest", "cuts", "place"]
theorem scPlanOf : FnScope nPlanOf ["forest", "cuts"] (defScope sPlanOf) := ⟨rfl, rfl, rfl, by decide +kernel, rfl, by decide +kernel, by decide +kernel⟩
theorem dPlanOf (B : Defs K mg C) : Def P w K mg base "plan_of" 6 ["forest", "cuts"] (spPlanOf C) := by
  obtain ⟨fC, fdC, GC, gC, kC, bC⟩ := dIsCuts (P := P) (w := w) (base := base) B
  obtain ⟨fL, fdL, GL, gL, kL, bL⟩ := dLevel (P := P) (w := w) (base := base) B
  have N := B.N
  refine def_of B.po fun f fd F => ?_
  refine F.ok scPlanOf (fun vs H Q E h => ?_) (fun cdv A outer s H vs Q E hr h => ?_)
  · obtain ⟨a, b, f, cs, rfl, _⟩ := h
    rfl
  · obtain ⟨a, b, fo, cs, rfl, hF, hb, hp, hl, hc, k⟩ := h
    have hr2 : Room 2 (A.deeper (envOfC "plan_of" (defScope sPlanOf) s.heap.objs.size f cdv)) := Room.mono hr (by decide)
    refine ⟨_, pss_cons (ps_if (pt_not (pt_val (pe_call GC hr2 (by rfl) gC kC bC .nil pass0 (pa_cons (pv 0) (pa_cons (pv 1) pa_nil))))) (pss_one ps_never) pss_nil)
      (pss_one (ps_ret (pe_callTy call_tuple_of (by rfl) N.is.tup (by decide +kernel) (pa_cons (pe_lc (own := [("place", 2)]) (g := gName 2) (tt := tYes) rfl scPlanOf.nd (pi_range1 (by rfl) N.range (pa_cons (pe_callB call_len_seq (by rfl) N.is.len PySem.boot_len (pa_cons (pv 1) pa_nil)) pa_nil))
        (blkOk_by (N := nPlanOf) (sc := defScope sPlanOf) (by decide +kernel)) (fun _ _ _ _ _ => pg_name (i := 2) scPlanOf.nd rfl (Or.inl rfl)) (fun _ _ _ _ _ => pts_nil)
        (fun _ _ _ _ _ => pe_call GL hr (by rfl) gL kL bL .nil pass0 (pa_cons (pv 0) (pa_cons (pv 1) (pa_cons (pv 2) pa_nil))))) pa_nil)))), ?_⟩
    refine ⟨_, rfl, _, rfl, a, b, fo, cs, rfl, hF, hb, hl, hc, fun H1 s1 => ⟨true, rfl, ?_⟩⟩
    refine ifF (by decide) ?_
    have hb1 := tdSame s1 hb
    refine ⟨_, rfl, b, _, rfl, .inr (tdL hb1), ((cs.map vn).length : Int), rfl, by omega, by rw [List.length_map, hc.len]; omega, fun D nD => ?_⟩
    rw [List.length_map, hc.len, Int.toNat_natCast]
    refine lc_range (lo := 0) (n := fo.ps.length) (fun i H' => Same H1 H' ∧ H' D = some (.lst (((List.range i).map (lvOf fo.ps cs)).map vn))) ⟨smUpd nD, upd_same⟩ ?_ ?_
    · rintro i H' hi ⟨sm, hD⟩
      have hb2 := tdSame sm hb1
      refine ⟨rfl, _, rfl, _, rfl, _, rfl, a, b, fo, cs, i, ?_, foAt_same (s1.trans sm) hF, hb2, hp, hl, hc, hi, fun H2 s2 => ?_⟩
      · show [V.ref a, V.ref b, V.int (0 + (i : Int))] = [V.ref a, V.ref b, V.int (i : Int)]
        rw [Int.zero_add]
      refine ⟨_, s2 _ _ hD, by rw [List.length_map, List.length_map, List.length_range]; exact small1000 (by omega), smOver nD (sm.trans s2), ?_⟩
      rw [upd_same, List.range_succ, List.map_append, List.map_append]
      rfl
    · rintro H' ⟨sm, hD⟩
      refine ⟨D, _, rfl, .inl ⟨.inl (.inl hD), fun r nr => ?_⟩⟩
      exact k r _ ((s1.trans sm).trans (smUpd nr)) upd_same
end
end Cn
namespace Cn
open PySem PySem.Spec PyProof.Rows L2 Ck
/-! the hand, turned -/
def Kept (p : Addr) (H H' : Hp) : Prop := ∀ b o, b ≠ p → H b = some o → H' b = some o
theorem kept_same {p : Addr} {H H' : Hp} (h : Same H H') : Kept p H H' := fun b o _ e => h b o e
theorem kept_trans {p : Addr} {H H1 H2 : Hp} (h : Kept p H H1) (k : Kept p H1 H2) : Kept p H H2 := fun b o ne e => k b o ne (h b o ne e)
theorem kept_hand {p : Addr} {H : Hp} {o : HO} : Kept p H (upd H p o) := fun b u ne e => by rw [upd_ne ne]; exact e
theorem kept_over {p D : Addr} {H1 H4 : Hp} {o : HO} (nD : H1 D = none) (k : Kept p H1 H4) : Kept p H1 (upd H4 D o) := fun b u ne e => by
  have nb : b ≠ D := fun z => by rw [z, nD] at e; cases e
  rw [upd_ne nb]
  exact k b u ne e
theorem handIn_upd {H : Hp} {p c : Addr} {cells : List Int} (h : HandIn H p c cells) {i g m t : Int} (hi : 0 ≤ i) : HandIn (upd H p (handL c i g m t)) p c cells :=
  ⟨⟨i, g, m, t, upd_same, hi⟩, by rw [upd_ne h.ne.symm]; exact h.ce, h.ne⟩
theorem handIn_keep {H H' : Hp} {p c : Addr} {cells : List Int} (h : HandIn H p c cells) (k : Same H H') : HandIn H' p c cells := by
  obtain ⟨⟨i, g, m, t, hp, hi⟩, hc, ne⟩ := h
  exact ⟨⟨i, g, m, t, k _ _ hp, hi⟩, k _ _ hc, ne⟩
/-- written at D, which is neither the hand nor its cells -/
theorem handIn_write {H0 H : Hp} {p c D : Addr} {cells cells0 : List Int} {o : HO} (h0 : HandIn H0 p c cells0) (nD : H0 D = none) (h : HandIn H p c cells) : HandIn (upd H D o) p c cells := by
  obtain ⟨⟨i, g, m, t, hp, hi⟩, hc, ne⟩ := h
  have n1 : p ≠ D := fun z => by
    obtain ⟨_, _, _, _, e, _⟩ := h0.ob
    rw [z, nD] at e; cases e
  have n2 : c ≠ D := fun z => by
    have e := h0.ce
    rw [z, nD] at e; cases e
  exact ⟨⟨i, g, m, t, by rw [upd_ne n1]; exact hp, hi⟩, by rw [upd_ne n2]; exact hc, ne⟩
theorem hand_ne {H : Hp} {p c a : Addr} {cells : List Int} (h : HandIn H p c cells) (na : H a = none) : a ≠ p := fun z => by
  obtain ⟨_, _, _, _, e, _⟩ := h.ob
  rw [← z, na] at e; cases e
/-- what is no list is not the hand -/
theorem tup_ne {H : Hp} {p c a : Addr} {cells : List Int} {xs : List V} (h : HandIn H p c cells) (ha : H a = some (.tup xs)) : a ≠ p := fun z => by
  obtain ⟨_, _, _, _, e, _⟩ := h.ob
  rw [← z, ha] at e; cases e
theorem atMem {xs : List V} {d : Int} (h0 : 0 ≤ d) (h1 : d < (xs.length : Int)) : ∃ v, atI xs d = some v ∧ v ∈ xs := by
  obtain ⟨n, rfl⟩ := Int.eq_ofNat_of_zero_le h0
  have hn : n < xs.length := by omega
  exact ⟨xs[n], atI_nat (List.getElem?_eq_getElem hn), List.getElem_mem hn⟩
theorem glCons {R : V → Prop} {x : V} {xs : List V} (h : R x) (t : ∀ v ∈ xs, R v) : ∀ v ∈ x :: xs, R v := fun v hm => by
  rcases List.mem_cons.mp hm with e | hm
  · rw [e]; exact h
  · exact t v hm
theorem glNil {R : V → Prop} : ∀ v ∈ ([] : List V), R v := fun v hm => by cases hm
section
variable {P : Program} {w : World} {K : PySem.W.Frag} {mg : Str → Option Value} {base : Heap} {C : Addr}
theorem nOf (B : Defs K mg C) : NamT mg := B.N
theorem dDraw (B : Defs K mg C) : Def P w K mg base "_law_draw" 1 ["_law_hand_here", "_law_many"] spDraw := def_of B.dr fun f fd F => ok_draw F (nOf B).int (nOf B).is.len
end
end Cn
namespace Cn
open PySem PySem.Spec PyProof.Rows L2 Ck
/-! what is under a place -/
def dwn (ps : List (Option Nat)) (i n : Nat) : List Nat := (List.range n).filter fun j => decide (i ∈ road ps j)
theorem dwn_mem {ps : List (Option Nat)} {i n j : Nat} : j ∈ dwn ps i n ↔ j < n ∧ i ∈ road ps j := by
  unfold dwn
  rw [List.mem_filter, List.mem_range, decide_eq_true_iff]
theorem dwn_len {ps : List (Option Nat)} {i n : Nat} : (dwn ps i n).length ≤ n := by
  have := List.length_filter_le (fun j => decide (i ∈ road ps j)) (List.range n)
  rw [List.length_range] at this
  exact this
theorem dwn_succ {ps : List (Option Nat)} {i j : Nat} : dwn ps i (j + 1) = dwn ps i j ++ if i ∈ road ps j then [j] else [] := by
  unfold dwn
  rw [List.range_succ, List.filter_append]
  by_cases c : i ∈ road ps j
  · rw [if_pos c, List.filter_cons_of_pos (by simpa using c)]; rfl
  · rw [if_neg c, List.filter_cons_of_neg (by simpa using c)]; rfl
theorem dwn_before {ps : List (Option Nat)} {i : Nat} (hp : Ps ps) (hi : i < ps.length) : ∀ j, j ≤ i → dwn ps i j = [] := by
  intro j
  induction j with
  | zero => intro _; rfl
  | succ j ih =>
    intro h
    rw [dwn_succ, ih (by omega), if_neg (fun z => by have := road_le hp j (by omega) i z; omega)]
    rfl
theorem dwn_start {ps : List (Option Nat)} {i : Nat} (hp : Ps ps) (hi : i < ps.length) : dwn ps i (i + 1) = [i] := by
  rw [dwn_succ, dwn_before hp hi i (Nat.le_refl _), if_pos (road_self hp hi)]
  rfl
theorem dwn_step {ps : List (Option Nat)} {i j : Nat} {q : Option Nat} (hp : Ps ps) (hij : i < j) (hj : j < ps.length) (h : ps[j]? = some q) : (i ∈ road ps j) ↔ ∃ p, q = some p ∧ p ∈ dwn ps i j := by
  cases q with
  | none =>
    rw [road_none h]
    constructor
    · intro z; have := List.mem_singleton.mp z; omega
    · rintro ⟨p, z, _⟩; cases z
  | some p =>
    rw [road_some hp h, List.mem_append, List.mem_singleton]
    constructor
    · rintro (z | z)
      · exact ⟨p, rfl, dwn_mem.mpr ⟨hp j p h, z⟩⟩
      · omega
    · rintro ⟨p', z, m⟩
      cases z
      exact .inl (dwn_mem.mp m).2
theorem inV_vp {ns : List Nat} {q : Option Nat} : inV (vp q) (ns.map vn) = decide (∃ p, q = some p ∧ p ∈ ns) := by
  cases q with
  | some p =>
    show inV (vn p) (ns.map vn) = _
    rw [inV_vn]
    by_cases c : p ∈ ns
    · rw [decide_eq_true c, decide_eq_true ⟨p, rfl, c⟩]
    · rw [decide_eq_false c, decide_eq_false (fun ⟨p', z, m⟩ => by cases z; exact c m)]
  | none =>
    rw [decide_eq_false (fun ⟨p', z, m⟩ => by cases z)]
    induction ns with
    | nil => rfl
    | cons n ns ih => exact ih
theorem vp_flat (q : Option Nat) : flatV (vp q) = true := by cases q <;> rfl
/-! the pairs -/
def pairsOf (ps : List (Option Nat)) (be as : List Nat) : List (Nat × Nat) := be.flatMap fun i => (as.filter fun j => decide (i ∈ road ps j)).map (Prod.mk i)
def PairR (H : Hp) (v : V) (p : Nat × Nat) : Prop := ∃ t, v = .ref t ∧ H t = some (.tup [vn p.1, vn p.2])
def PairsR (H : Hp) (us : List V) (ps : List (Nat × Nat)) : Prop := Paired (PairR H) us ps
theorem pairSame {H H' : Hp} (s : Same H H') {v : V} {p : Nat × Nat} (h : PairR H v p) : PairR H' v p := by
  obtain ⟨t, e, h1⟩ := h
  exact ⟨t, e, s _ _ h1⟩
theorem pairsSame {H H' : Hp} (s : Same H H') {us : List V} {ps : List (Nat × Nat)} (h : PairsR H us ps) : PairsR H' us ps := Paired.mapP h fun _ _ z => pairSame s z
theorem pairsUpd {H' : Hp} {D : Addr} {o : HO} {xs us : List V} {ps : List (Nat × Nat)} (hD : H' D = some (.lst xs)) (h : PairsR H' us ps) : PairsR (upd H' D o) us ps := Paired.mapP h fun v p z => by
  obtain ⟨t, e, h1⟩ := z
  have q : t ≠ D := fun z => by rw [z, hD] at h1; cases h1
  exact ⟨t, e, by rw [upd_ne q]; exact h1⟩
theorem pairedSnoc {α β : Type} {F : α → β → Prop} : ∀ {xs : List α} {ys : List β} {x : α} {y : β}, Paired F xs ys → F x y → Paired F (xs ++ [x]) (ys ++ [y])
  | _, _, _, _, .nil, h => .cons h .nil
  | _, _, _, _, .cons a t, h => .cons a (pairedSnoc t h)
theorem pairedApp {α β : Type} {F : α → β → Prop} : ∀ {xs xs' : List α} {ys ys' : List β}, Paired F xs ys → Paired F xs' ys' → Paired F (xs ++ xs') (ys ++ ys')
  | _, _, _, _, .nil, h => h
  | _, _, _, _, .cons a t, h => .cons a (pairedApp t h)
theorem pairsOf_len {ps : List (Option Nat)} {as : List Nat} : ∀ {be : List Nat}, (pairsOf ps be as).length ≤ be.length * as.length
  | [] => Nat.zero_le _
  | i :: be => by
    have h := pairsOf_len (ps := ps) (as := as) (be := be)
    show (((as.filter fun j => decide (i ∈ road ps j)).map (Prod.mk i)) ++ pairsOf ps be as).length ≤ (be.length + 1) * as.length
    rw [List.length_append, List.length_map, Nat.add_mul, Nat.one_mul]
    have := List.length_filter_le (fun j => decide (i ∈ road ps j)) as
    omega
theorem pairsOf_snoc {ps : List (Option Nat)} {be as : List Nat} {i : Nat} : pairsOf ps (be ++ [i]) as = pairsOf ps be as ++ (as.filter fun j => decide (i ∈ road ps j)).map (Prod.mk i) := by
  unfold pairsOf
  rw [List.flatMap_append, List.flatMap_singleton]
theorem pairs3600 {f : Fo} (ok : FoOk f) : (pairsOf f.ps f.be f.as).length ≤ 3600 := by
  have h := pairsOf_len (ps := f.ps) (as := f.as) (be := f.be)
  have h1 := lotLen ok.be ok.bl
  have h2 := lotLen ok.as ok.al
  have h3 := ok.l1
  exact Nat.le_trans h (Nat.mul_le_mul (Nat.le_trans h1 h3) (Nat.le_trans h2 h3))
section
variable {P : Program} {w : World} {K : PySem.W.Frag} {mg : Str → Option Value} {base : Heap} {C : Addr}
def spUnder (C : Addr) : Sp := fun vs H Q _ => ∃ (a : Addr) (f : Fo) (i : Nat), vs = [.ref a, vn i] ∧ FoAt C H a f ∧ Ps f.ps ∧ f.ps.length ≤ 60 ∧ i < f.ps.length ∧ ∀ r H', Same H H' → TN H' r (dwn f.ps i f.ps.length) → Q (.ref r) H'
def nUnder : List Str := ["forest", "place", "found", "later"]
theorem scUnder : FnScope nUnder ["forest", "place"] (defScope sUnder) := ⟨rfl, rfl, rfl, by decide +kernel, rfl, by decide +kernel, by decide +kernel⟩
theorem dUnder (B : Defs K mg C) : Def P w K mg base "under" 4 ["forest", "place"] (spUnder C) := by
  obtain ⟨fB, fdB, GB, gB, kB, bB⟩ := dPlace (P := P) (w := w) (base := base) B
  have N := B.N
  have T := B.T
  refine def_of B.un fun f fd F => ?_
  refine F.ok scUnder (fun vs H Q E h => ?_) (fun cdv A outer s H vs Q E hr h => ?_)
  · obtain ⟨a, f, i, rfl, _⟩ := h
    rfl
  · obtain ⟨a, fo, i, rfl, hF, hp, hl, hi, k⟩ := h
    refine ⟨_, pss_cons (ps_if (pt_not (pt_val (pe_call GB hr (by rfl) gB kB bB .nil pass0 (pa_cons (pv 0) (pa_cons (pv 1) pa_nil))))) (pss_one ps_never) pss_nil)
      (pss_cons (ps_set (i := 2) scUnder.nd rfl (Or.inl rfl) (pe_lst (pa_cons (pv 1) pa_nil)))
      (pss_cons (ps_for PassesOwn.never rfl (pi_range2 (by rfl) N.range (pa_cons (pe_op op_add (pv 1) pe_int) (pa_cons (pe_callB call_len_seq (by rfl) N.is.len PySem.boot_len (pa_cons (pe_fld (pv 0) rfl) pa_nil)) pa_nil))) (pg_name (i := 3) scUnder.nd rfl (Or.inl rfl))
        (pss_one (ps_if (pt_cmpR op_in_seq (pe_ix ix_tup (pe_fld (pv 0) rfl) (pv 3) (fun _ _ => rfl)) (pv 2) (by rfl))
          (pss_one (ps_expr (pe_bm PySem.F.plainAttrs_list PySem.F.slot_list_append PySem.F.type_list_append mt_append (pv 2) (pa_cons (pv 3) pa_nil)))) pss_nil)))
      (pss_one (ps_ret (pe_callTy call_tuple_of (by rfl) N.is.tup (by decide +kernel) (pa_cons (pv 2) pa_nil)))))), ?_⟩
    refine ⟨_, rfl, _, rfl, a, fo, i, rfl, hF, hi, true, rfl, ?_⟩
    refine ifF (by decide) ?_
    obtain ⟨dx, ap, ab, aa, h0, h1, h2, h3⟩ := hF
    refine ⟨_, rfl, by show 1 ≤ sizeLine; decide, fun D nD => ?_⟩
    have S1 := smUpd (o := .lst [vn i]) nD
    refine ⟨_, rfl, _, _, rfl, rfl, _, rfl, a, C, dx, _, _, rfl, S1 _ _ h0, T.cl, T.nP, fP, ap, _, rfl, .inr (tpL (S1 _ _ h1)), ((i : Int) + 1), ((fo.ps.map vp).length : Int), rfl, ⟨by omega, by omega, by omega, by rw [List.length_map]; omega⟩, ?_⟩
    rw [List.length_map]
    refine for_range (lo := (i : Int) + 1) (n := ((fo.ps.length : Int) - ((i : Int) + 1)).toNat) (fun k σ H' => ∃ t3, σ = [some (.ref a), some (vn i), some (.ref D), t3] ∧ Same H H' ∧ H' D = some (.lst ((dwn fo.ps i (i + 1 + k)).map vn))) ⟨none, rfl, S1, by rw [Nat.add_zero, dwn_start hp hi]; exact upd_same⟩ ?_ ?_
    · rintro m σ H1 hm ⟨t3, rfl, sm, hD⟩
      have hj : i + 1 + m < fo.ps.length := by omega
      have ej : (i : Int) + 1 + (m : Int) = ((i + 1 + m : Nat) : Int) := by omega
      rw [ej]
      obtain ⟨q, hq⟩ := ps_at hj
      refine ⟨_, rfl, a, C, dx, _, _, rfl, sm _ _ h0, T.cl, T.nP, fP, _, rfl, ap, _, ((i + 1 + m : Nat) : Int), _, rfl, rfl, tpL (sm _ _ h1), vp_ix hq, _, rfl, D, _, rfl, .inl (.inl (.inl hD)), vp_flat q, vn_flat _, _, rfl, ?_⟩
      have st := dwn_step hp (by omega : i < i + 1 + m) hj hq
      have ed : dwn fo.ps i (i + 1 + (m + 1)) = dwn fo.ps i (i + 1 + m) ++ if i ∈ road fo.ps (i + 1 + m) then [i + 1 + m] else [] := dwn_succ
      by_cases c : i ∈ road fo.ps (i + 1 + m)
      · refine ifT (by show inV (vp q) _ = true; rw [inV_vp]; exact decide_eq_true (st.mp c)) ?_
        refine ⟨_, rfl, .inl ⟨rfl, _, .inl (.inl hD)⟩, _, rfl, D, _, _, rfl, rfl, hD, small1000 (by rw [List.length_map]; have := dwn_len (ps := fo.ps) (i := i) (n := i + 1 + m); omega), ?_⟩
        refine ⟨_, rfl, smOver nD sm, ?_⟩
        rw [upd_same, ed, if_pos c, List.map_append]
        rfl
      · refine ifF (by show ¬ inV (vp q) _ = true; rw [inV_vp]; simpa using fun p e m => c (st.mpr ⟨p, e, m⟩)) ?_
        refine ⟨_, rfl, sm, ?_⟩
        rw [ed, if_neg c, List.append_nil]
        exact hD
    · rintro σ H1 ⟨t3, rfl, sm, hD⟩
      have en : i + 1 + ((fo.ps.length : Int) - ((i : Int) + 1)).toNat = fo.ps.length := by omega
      rw [en] at hD
      refine ⟨_, rfl, D, _, rfl, .inl ⟨.inl (.inl hD), fun r nr => ?_⟩⟩
      exact k r _ (sm.trans (smUpd nr)) upd_same
end
end Cn
namespace Cn
open PySem PySem.Spec PyProof.Rows L2 Ck
/-! a dict made by a comprehension, its keys of any kind that a dict of the hand layer has (o0: the empty dict of that kind) -/
section
variable {X : Cx}
/-- stored by the comprehension -/
theorem putIn {pins : List (Addr × Obj)} {σ : L2.St} {H H' : Hp} {s : Shared} {E : Value → Shared → Prop} {D : Addr} {y z : V} {u r : Value} {Q : Unit → Shared → Prop} (hu : X.A.units + 1 < cLine) (I : Inv X pins σ H s) (put : DPut H D y z H') (ry : RelV y u) (rz : RelV z r) (k : ∀ s', Inv X pins σ H' s' → Q () s') : wpAny (model X.prog X.w) X.A (dictSet D u r) Q E s := by
  rcases put with ⟨kvs, q, hD, rfl, hl, rfl⟩ | ⟨kvs, q, b, hD, rfl, hb, hl, rfl⟩
  · exact L2.d_dictSet I hD hl ry rz k
  · cases (show u = Value.ref b from ry)
    obtain ⟨c1, c2, xs, rel, dd⟩ := dt_of I.hok hD
    have c3 : xs.length ≤ sizeLine := Paired.length rel ▸ c1
    have c4 : (putK kvs q z).length ≤ sizeLine := Nat.le_trans (length_putK kvs q z) hl
    refine wpAny_dictSet_heap (hsz := c3) (Nat.lt_of_succ_lt hu) (key_of I.hok hb) dd (fun g ⟨o, es, ep, e1, e2, e3, e4, _, e5⟩ same => k _ ?_)
    have kept : ∀ (c : Addr) (ys : List V), H c = some (.tup ys) → upd H D (.dT (putK kvs q z)) c = some (.tup ys) := fun c ys hc => (upd_ne (L2.ne_of hc hD nofun)).trans hc
    exact d_write I (hD ▸ True.intro) same ⟨o, e1⟩ ⟨c4, c2, _, (rel.put q hb rz).keeps fun c ys hc => kept c ys hc, o, es, ep, e1, e2, e3, e4, e5⟩
/-- a turn's word and the walk's, as for a list -/
def tDcP (o0 : HO) (wi : TI) (g : TG) (tt : TT) (tk tv : TE) (vs : List Nat) : TE := fun σ H Q => wi σ H fun J H1 => ∀ D, H1 D = none → ∃ W : Nat → Nat → Hp → Prop, (∃ m, W 0 m (upd H1 D o0)) ∧ ∀ i m G, W i m G → (J.stop i G ∧ Q (.ref D) G) ∨
  (J.go i G ∧ ∃ Nx : Hp → Prop, (∀ G', Nx G' → ∃ m', m' < m ∧ W (i + 1) m' G') ∧ ∀ x G', J.yld i G x G' → g x (wipe σ vs) G' fun τ G2 => wipe τ vs = wipe σ vs ∧ tt τ G2 fun b G3 => if b = true then tk τ G3 fun y G4 => tv τ G4 fun z G5 => ∃ G6, DPut G5 D y z G6 ∧ Nx G6 else Nx G3)
theorem dcP_core {pins : List (Addr × Obj)} {s : Shared} {σ : L2.St} {H : Hp} {Q : VK} {o0 : HO} {kx vx tg iter : Expr} {ifs : List Expr} {sc : Scope} {own : List (Str × Nat)} {pos ipos : Pos} {wi : TI} {g : TG} {tt : TT} {tk tv : TE} {use : Option (Value → Sem Unit)} {Qf : Value → Shared → Prop} (I : Inv X pins σ H s) (h0 : o0 = .dK [] ∨ o0 = .dT []) (hc : X.calm = true) (hu : X.A.units + 1 < cLine) (hN : X.N.Nodup) (hi : PI X tg iter wi) (ok : BlkOk X.N X.env.scope sc own)
    (hg : ∀ s H C cl fp, PG (X.blk s H sc (compEnvC sc cl C X.env) fp) tg g) (ht : ∀ s H C cl fp, PTs (X.blk s H sc (compEnvC sc cl C X.env) fp) ifs tt) (hk : ∀ s H C cl fp, PE (X.blk s H sc (compEnvC sc cl C X.env) fp) kx tk) (hv : ∀ s H C cl fp, PE (X.blk s H sc (compEnvC sc cl C X.env) fp) vx tv)
    (hs : ∀ x, foldedSetIterable iter X.env x = pure x) (hw : tDcP o0 wi g tt tk tv (own.map (·.2)) σ H Q)
    (last : ∀ D C t m G, Inv X pins σ G t → Q (.ref D) G → t.heap.Ns C m → FpOk X pins G C → compPost (model X.prog X.w) X.A X.xe use Qf (.ref D) C (.ok .next) t) :
    wpAny (model X.prog X.w) X.A (comprehension (.DictComp kx vx [⟨tg, iter, ifs, 0⟩] sc pos) sc X.env ipos newDict false (eval iter X.env) use) Qf X.xe s := by
  have cells : ∀ y ∈ sc.names, y.2 = .free → ∃ c, X.env.cells.lookup y.1 = some c := fun y hy e => (ok.free y hy e).elim (fun z => I.ok.has _ (.inl z)) (fun z => I.ok.has _ (.inr z))
  refine wpAny_comprehension_free (use := use) rfl hs (closure_ok cells) ok.kind (fun y hy e => (ok.uniq y hy).trans (congrArg some e)) ?_
  refine thn (hi.run pins s σ H _ I hw) fun _ sa wa => thn wa fun _ sb ⟨it, fp, tn, J, Ha, e, Ia, T, stA, okA, qq⟩ => ?_
  subst e
  refine wpAny_newObj_type (newEnv_comp ?_)
  obtain ⟨D, hD⟩ : ∃ D, sb.heap.objs.size = D := ⟨_, rfl⟩
  have fresh : Ha D = none := Ia.hok.fresh (Nat.le_of_eq hD)
  obtain ⟨W, ⟨m0, w0⟩, turn⟩ := qq D fresh
  obtain ⟨sd, ed⟩ : ∃ sd : Shared, ({ sb with heap := sb.heap.push { cls := .type "dict", data := .dict #[] } } : Shared) = sd := ⟨_, rfl⟩
  have heq : sd.heap = sb.heap.push { cls := .type "dict", data := .dict #[] } := ed ▸ rfl
  have Ib : Inv X pins σ (upd Ha D o0) sd := by
    subst ed hD
    refine Ia.laid (t' := sb.toks) (fun b o e => Heap.get?_push_of_some _ e) (Nat.le_refl _) ?_
    rcases h0 with rfl | rfl
    · exact dk_empty sb.heap Ia.big
    · exact dt_empty sb.heap Ia.big
  have below : ∀ b ∈ fp, b < sb.heap.objs.size := fun b hb => let ⟨_, e, _⟩ := T.obj _ _ stA b hb; Heap.lt_size e
  have okB : ∀ b ∈ fp, FpOk X pins (upd Ha D o0) b ∧ b < sd.heap.objs.size := fun b hb => by
    have lt := below b hb
    exact ⟨⟨(upd_ne (hD ▸ Nat.ne_of_lt lt)).trans (okA b hb).1, (okA b hb).2⟩, by rw [heq, Heap.size_push]; exact Nat.lt_succ_of_lt lt⟩
  have stB : tn 0 sd.heap := T.keep _ _ _ stA fun b _ o e => heq ▸ Heap.get?_push_of_some _ e
  have Ic := block_start Ib ok hN okB
  obtain ⟨C, hC⟩ : ∃ C, sd.heap.objs.size = C := ⟨_, rfl⟩
  rw [hC] at Ic
  obtain ⟨cl, hcl⟩ : ∃ cl, cellsFrom (C + 1) sc.names (cloFrom X.env.cells sc.names []) = cl := ⟨_, rfl⟩
  rw [hcl] at Ic
  obtain ⟨G, hG⟩ : ∃ G, upd Ha D o0 = G := ⟨_, rfl⟩
  rw [hG] at Ib Ic okB w0
  have rg := hg sd G C cl fp
  have rt := ht sd G C cl fp
  have rk := hk sd G C cl fp
  have rv := hv sd G C cl fp
  obtain ⟨ce, hce⟩ : ∃ ce, compEnvC sc cl C X.env = ce := ⟨_, rfl⟩
  have ceL : ce.locals = C := hce ▸ rfl
  rw [hce] at Ic rg rt rk rv
  obtain ⟨se, hse⟩ : ∃ se : Shared, ({ sd with heap := pushCells (sd.heap.push { cls := .type "dict", data := .dict #[] }) sc.names } : Shared) = se := ⟨_, rfl⟩
  rw [hse] at Ic
  have stC : tn 0 se.heap := T.keep _ _ _ stB fun b _ o e => hse ▸ pushCells_keeps _ _ _ _ (Heap.get?_push_of_some _ e)
  have none0 : ∀ b ∈ fp, G b = none := fun b hb => (okB b hb).1.1
  have looks : ∀ {σ' : L2.St} {H' : Hp} {s' : Shared}, Inv (X.blk sd G sc ce fp) [] σ' H' s' → (∀ b ∈ fp, H' b = none) → ∀ b ∈ fp, FpOk (X.blk sd G sc ce fp) [] H' b := fun I' z b hb =>
    ⟨z b hb, (I'.ok.exf b hb).1, I'.ok.exfs b hb, .inl hb, fun x c e => (I'.ok.exf b hb).2 x c e, fun p hp => nomatch (show p ∈ ([] : List (Addr × Obj)) from hp)⟩
  have whole : codeAny (model X.prog X.w) X.A (.compLoop (.DictComp kx vx [⟨tg, iter, ifs, 0⟩] sc pos) 0 (.ref it) (.ref D) ce) (compPost (model X.prog X.w) X.A X.xe use Qf (.ref D) C) se := by
    refine compLoop_anyD (fun n s' => ∃ i H', Inv (X.blk sd G sc ce fp) [] (wipe σ (own.map (·.2))) H' s' ∧ tn i s'.heap ∧ (∀ b ∈ fp, H' b = none) ∧ W i n H') ?_ m0 ⟨0, G, Ic, stC, none0, w0⟩
    rintro n t ⟨i, Ht, It, stT, noneT, wT⟩
    rcases turn i n Ht wT with ⟨stop, out⟩ | ⟨go, Nx, less, step⟩
    · refine thnF (T.done (X.blk sd G sc ce fp) rfl rfl rfl hc i [] t _ Ht (fun _ _ => False) It (looks It noneT) stT stop) fun r t' ⟨hr, Iu⟩ => ?_
      subst hr
      have back : Inv X pins σ Ht t' := Ib.call' (ch := fp) Iu.os Iu.base Iu.hok Iu.bare fun b hb => let z := (okB b hb).1.2; ⟨z.2.2.1, z.1, z.2.2.2.1, z.2.2.2.2⟩
      have gone : Ht C = none := ceL ▸ Iu.free
      obtain ⟨m, hm, _⟩ := Iu.loc
      have hm : t'.heap.Ns C m := ceL ▸ hm
      exact last D C t' m Ht back out hm (Ib.fpOk (Nat.le_of_eq hC) gone)
    · refine thnF (T.item (X.blk sd G sc ce fp) rfl rfl rfl hc i [] t _ Ht (fun _ _ => False) It (looks It noneT) stT go) fun r t1 ⟨u, hr, hh⟩ => ?_
      subst hr
      refine thnF hh fun _ t2 ⟨x, Hu, Iu, rx, yx, stU, noneU⟩ => ?_
      have Iw := Iu.pinned (looks Iu noneU) (T.obj _ _ stU)
      refine thnF (rg.run _ t2 _ Hu x u _ Iw rx (step x Hu yx)) fun _ t3 ⟨τ, Hv, Iv, wip, qv⟩ => ?_
      refine thnF (rt.run _ t3 τ Hv _ Iv qv) fun b t4 ⟨Hw, Ix, qw⟩ => ?_
      have onward : ∀ (t' : Shared) (H' : Hp), Inv (X.blk sd G sc ce fp) ([] ++ pinsAt fp t2.heap) τ H' t' → Nx H' → ∃ m, m < n ∧ ∃ i H', Inv (X.blk sd G sc ce fp) [] (wipe σ (own.map (·.2))) H' t' ∧ tn i t'.heap ∧ (∀ b ∈ fp, H' b = none) ∧ W i m H' := by
        intro t' H' I' nx
        obtain ⟨m, lt, wm⟩ := less H' nx
        have held : ∀ b ∈ fp, ∀ o, t2.heap.get? b = some o → t'.heap.get? b = some o ∧ H' b = none := fun b hb o e =>
          have z := I'.pin (b, o) (List.mem_append_right _ (List.mem_append_right _ (mem_pinsAt hb e)))
          ⟨z.1, z.2.1⟩
        refine ⟨m, lt, i + 1, H', (I'.unpinned (pins := [])).weak (by rw [← wip, wipe_length]) (fun j v e => (wipe_some (wip ▸ e : (wipe τ (own.map (·.2)))[j]? = some (some v))).1), T.keep _ _ _ stU fun b hb o e => (held b hb o e).1, fun b hb => ?_, wm⟩
        exact let ⟨o, e, _⟩ := T.obj _ _ stU b hb; (held b hb o e).2
      cases b with
      | false =>
        rw [if_neg Bool.false_ne_true] at qw
        rw [if_neg Bool.false_ne_true]
        exact onward t4 Hw Ix qw
      | true =>
        rw [if_pos rfl] at qw
        rw [if_pos rfl]
        refine thnF (rk.run _ t4 τ Hw _ Ix qw) fun z1 t5 ⟨y, Hy, Iy, ry, qy⟩ => ?_
        refine thnF (rv.run _ t5 τ Hy _ Iy qy) fun z2 t6 ⟨z, Hz, Iz, rz, He, put, nx⟩ => ?_
        exact putIn (X := X.blk sd G sc ce fp) hu Iz put ry rz fun t7 I7 => onward t7 He I7 nx
  have start := codeAny_compStart_dict whole (T.self X.A 0 _ _ _ stC whole)
  rw [← hC] at hcl
  subst hcl hce ed hse
  show codeAny _ _ _ _ _
  rw [hC] at start ⊢
  exact hD ▸ start
/-- as a value -/
theorem pe_dcP {o0 : HO} {kx vx tg iter : Expr} {ifs : List Expr} {sc : Scope} {own : List (Str × Nat)} {pos : Pos} {wi : TI} {g : TG} {tt : TT} {tk tv : TE} (h0 : o0 = .dK [] ∨ o0 = .dT []) (hc : X.calm = true) (hu : X.A.units + 1 < cLine) (hN : X.N.Nodup) (hi : PI X tg iter wi) (ok : BlkOk X.N X.env.scope sc own)
    (hg : ∀ s H C cl fp, PG (X.blk s H sc (compEnvC sc cl C X.env) fp) tg g) (ht : ∀ s H C cl fp, PTs (X.blk s H sc (compEnvC sc cl C X.env) fp) ifs tt) (hk : ∀ s H C cl fp, PE (X.blk s H sc (compEnvC sc cl C X.env) fp) kx tk) (hv : ∀ s H C cl fp, PE (X.blk s H sc (compEnvC sc cl C X.env) fp) vx tv)
    (hs : ∀ x, foldedSetIterable iter X.env x = pure x := by intro _; rfl) : PE X (.DictComp kx vx [⟨tg, iter, ifs, 0⟩] sc pos) (tDcP o0 wi g tt tk tv (own.map (·.2))) := by
  refine ⟨fun pins s σ H Q I hw => ?_⟩
  rw [arm_eval_DictComp]
  refine dcP_core I h0 hc hu hN hi ok hg ht hk hv hs hw fun D C t m G It q hm ⟨f0, f1, _, f3, f4, f5⟩ => ⟨m, hm, fun g' same => ?_⟩
  exact ⟨.ref D, G, It.turned (t' := t.toks) (fun b o hb e => (same.2 b hb).trans e) f0 f1 f3 f4 f5, rfl, q⟩
/-- stored under a name on its own row -/
theorem ps_setDcP {i : Nat} {y : Str} {py spos : Pos} {o0 : HO} {kx vx tg iter : Expr} {ifs : List Expr} {sc : Scope} {own : List (Str × Nat)} {pos : Pos} {wi : TI} {g : TG} {tt : TT} {tk tv : TE} (h0 : o0 = .dK [] ∨ o0 = .dT []) (hc : X.calm = true) (hu : X.A.units + 1 < cLine) (hN : X.N.Nodup) (hy : X.N[i]? = some y) (hl : X.env.scope.names.lookup y = some .local)
    (sw : swapsWith (.DictComp kx vx [⟨tg, iter, ifs, 0⟩] sc pos) (some (.Name y py)) spos.line X.env = pure true) (hi : PI X tg iter wi) (ok : BlkOk X.N X.env.scope sc own)
    (hg : ∀ s H C cl fp, PG (X.blk s H sc (compEnvC sc cl C X.env) fp) tg g) (ht : ∀ s H C cl fp, PTs (X.blk s H sc (compEnvC sc cl C X.env) fp) ifs tt) (hk : ∀ s H C cl fp, PE (X.blk s H sc (compEnvC sc cl C X.env) fp) kx tk) (hv : ∀ s H C cl fp, PE (X.blk s H sc (compEnvC sc cl C X.env) fp) vx tv)
    (hs : ∀ x, foldedSetIterable iter X.env x = pure x := by intro _; rfl) :
    PS X (.Assign [.Name y py] (.DictComp kx vx [⟨tg, iter, ifs, 0⟩] sc pos) spos) (tAsg (tDcP o0 wi g tt tk tv (own.map (·.2))) (gName i)) := by
  refine ⟨fun pins s σ H D I hw => ?_⟩
  rw [exec_Assign_Name_used _ _ _ _ sw]
  have hw : tDcP o0 wi g tt tk tv (own.map (·.2)) σ H (fun x G => gName i x σ G D.nx) := hw
  have go := dcP_core (pos := pos) (ipos := firstIterPos [⟨tg, iter, ifs, 0⟩] pos) (use := some (assign (.Name y py) X.env)) (Qf := fun _ s' => SP X pins D .next s') I h0 hc hu hN hi ok hg ht hk hv hs hw fun L C t m G It q hm f => by
    refine wpAny_assign_Name (store_ok2 (v := V.ref L) It hN hy (.inl hl) rfl (fun t2 I2 ⟨a, sb, ha⟩ => ?_) (.inr hl))
    have ne : C ≠ a := ha.elim (fun z => z ▸ f.2.1) (fun z e => f.2.2.2.2.1 y a z e.symm)
    exact ⟨m, hm.sameBut sb ne, fun g' same => ⟨_, G, I2.turned (t' := t2.toks) (fun b o hb e => (same.2 b hb).trans e) f.1 f.2.1 f.2.2.2.1 f.2.2.2.2.1 f.2.2.2.2.2, q⟩⟩
  exact wpAny_bind (wpAny_standAt (wpAny_bind (wpAny_bind (thn go fun _ _ z => wpAny_pure (wpAny_pure z)))))
theorem sw_dict {kx vx : Expr} {gs : List Comprehension} {sc : Scope} {pos py : Pos} {y : Str} {l : Nat} {env : Env} (hk : env.scope.kind = .function) (hy : env.scope.names.lookup y = some .local) (hl : (py.line == pos.line) = true) (ha : (sc.names.any fun q => q.1 == y && (q.2 == .local || q.2 == .cell)) = false) :
    swapsWith (.DictComp kx vx gs sc pos) (some (.Name y py)) l env = pure true := by
  have e1 : env.kindOf y = some .local := hy
  have e2 : env.blockKind = .function := by unfold Env.blockKind; rw [hk]; rfl
  show (pure (env.blockKind == ScopeKind.function && env.kindOf y == some NameKind.local && py.line == pos.line && !(sc.names.any fun q => q.1 == y && (q.2 == .local || q.2 == .cell))) : Sem Bool) = pure true
  rw [e1, e2, hl, ha]
  rfl
end
end Cn
namespace Cn
open PySem PySem.Spec PyProof.Rows L2 Ck
theorem ixNat {n i : Nat} (h : i < n) : ixN n (i : Int) = some i := by
  unfold ixN
  rw [if_pos (Int.natCast_nonneg _), if_pos (by omega), Int.toNat_natCast]
theorem noneBack {H H1 : Hp} {D : Addr} (s : Same H H1) (h : H1 D = none) : H D = none := by
  cases e : H D with
  | none => rfl
  | some o => rw [s _ _ e] at h; cases h
end Cn
namespace Cn
/-! notes held, counted twice -/
theorem countP_or {α : Type} {f g : α → Bool} : ∀ {l : List α}, (∀ x ∈ l, ¬ (f x = true ∧ g x = true)) → (l.countP fun x => f x || g x) = l.countP f + l.countP g
  | [], _ => rfl
  | x :: l, h => by
    have ih := countP_or (f := f) (g := g) (l := l) fun y hy => h y (List.mem_cons_of_mem _ hy)
    have hx := h x List.mem_cons_self
    rw [List.countP_cons, List.countP_cons, List.countP_cons, ih]
    cases a : f x <;> cases b : g x <;> simp_all <;> omega
theorem countP_one {p : Nat × Nat} : ∀ {l : List (Nat × Nat)}, l.Nodup → p ∈ l → (l.countP fun q => decide (q = p)) = 1
  | x :: l, nd, h => by
    obtain ⟨n1, n2⟩ := List.nodup_cons.mp nd
    rw [List.countP_cons]
    by_cases e : x = p
    · subst e
      rw [List.countP_eq_zero.mpr fun q hq => by simp only [decide_eq_true_eq]; exact fun z => n1 (z ▸ hq)]
      simp
    · rw [countP_one n2 ((List.mem_cons.mp h).resolve_left fun z => e z.symm)]
      simp [e]
theorem countRow {i : Nat} {prs : List (Nat × Nat)} (nd : prs.Nodup) : ∀ {js : List Nat}, js.Nodup → (∀ j ∈ js, (i, j) ∈ prs) → (prs.countP fun q => decide (q.1 = i) && decide (q.2 ∈ js)) = js.length
  | [], _, _ => List.countP_eq_zero.mpr fun q _ => by simp
  | j :: js, h, m => by
    obtain ⟨n1, n2⟩ := List.nodup_cons.mp h
    have ih := countRow (js := js) nd n2 fun k hk => m k (List.mem_cons_of_mem _ hk)
    have e : (prs.countP fun q => decide (q.1 = i) && decide (q.2 ∈ j :: js)) = prs.countP fun q => decide (q = (i, j)) || (decide (q.1 = i) && decide (q.2 ∈ js)) := by
      refine List.countP_congr fun q _ => ?_
      simp only [Bool.and_eq_true, Bool.or_eq_true, decide_eq_true_eq, List.mem_cons]
      constructor
      · rintro ⟨a, b | b⟩
        · exact .inl (Prod.ext a b)
        · exact .inr ⟨a, b⟩
      · rintro (z | ⟨a, b⟩)
        · rw [z]; exact ⟨rfl, .inl rfl⟩
        · exact ⟨a, .inr b⟩
    rw [e, countP_or fun q _ => ?_, countP_one nd (m j List.mem_cons_self), ih, List.length_cons, Nat.add_comm]
    rintro ⟨a, b⟩
    simp only [Bool.and_eq_true, decide_eq_true_eq] at a b
    rw [a] at b
    exact n1 b.2
theorem countBox {prs : List (Nat × Nat)} {js : List Nat} (nd : prs.Nodup) (hj : js.Nodup) : ∀ {is : List Nat}, is.Nodup → (∀ i ∈ is, ∀ j ∈ js, (i, j) ∈ prs) → (prs.countP fun q => decide (q.1 ∈ is) && decide (q.2 ∈ js)) = is.length * js.length
  | [], _, _ => by rw [List.length_nil, Nat.zero_mul]; exact List.countP_eq_zero.mpr fun q _ => by simp
  | i :: is, h, m => by
    obtain ⟨n1, n2⟩ := List.nodup_cons.mp h
    have ih := countBox (is := is) nd hj n2 fun k hk => m k (List.mem_cons_of_mem _ hk)
    have e : (prs.countP fun q => decide (q.1 ∈ i :: is) && decide (q.2 ∈ js)) = prs.countP fun q => (decide (q.1 = i) && decide (q.2 ∈ js)) || (decide (q.1 ∈ is) && decide (q.2 ∈ js)) := by
      refine List.countP_congr fun q _ => ?_
      simp only [Bool.and_eq_true, Bool.or_eq_true, decide_eq_true_eq, List.mem_cons]
      constructor
      · rintro ⟨a | a, b⟩
        · exact .inl ⟨a, b⟩
        · exact .inr ⟨a, b⟩
      · rintro (⟨a, b⟩ | ⟨a, b⟩)
        · exact ⟨.inl a, b⟩
        · exact ⟨.inr a, b⟩
    rw [e, countP_or fun q _ => ?_, countRow nd hj (m i List.mem_cons_self), ih, List.length_cons, Nat.add_mul, Nat.one_mul, Nat.add_comm]
    rintro ⟨a, b⟩
    simp only [Bool.and_eq_true, decide_eq_true_eq] at a b
    rw [a.1] at b
    exact n1 b.1
theorem sumAdd {α : Type} {f g : α → Nat} : ∀ {l : List α}, (l.map fun x => f x + g x).sum = (l.map f).sum + (l.map g).sum
  | [] => rfl
  | x :: l => by
    have := sumAdd (f := f) (g := g) (l := l)
    simp only [List.map_cons, List.sum_cons]
    omega
theorem sumCount {α : Type} {c : α → Bool} : ∀ {l : List α}, (l.map fun x => if c x = true then 1 else 0).sum = l.countP c
  | [] => rfl
  | x :: l => by
    have := sumCount (c := c) (l := l)
    simp only [List.map_cons, List.sum_cons, List.countP_cons]
    omega
theorem sumLe {α : Type} {f : α → Nat} : ∀ {l : List α}, (∀ x ∈ l, 1 ≤ f x) → l.length ≤ (l.map f).sum ∧ ((l.map f).sum = l.length ↔ ∀ x ∈ l, f x ≤ 1)
  | [], _ => ⟨Nat.le_refl _, by simp⟩
  | x :: l, h => by
    obtain ⟨h1, h2⟩ := sumLe (l := l) fun y hy => h y (List.mem_cons_of_mem _ hy)
    have hx := h x List.mem_cons_self
    simp only [List.map_cons, List.sum_cons, List.length_cons, List.forall_mem_cons]
    refine ⟨by omega, fun e => ⟨by omega, h2.mp (by omega)⟩, fun ⟨a, b⟩ => ?_⟩
    have := h2.mpr b
    omega
end Cn
namespace Ck
/-! over and under, once more -/
section
variable {ps : List (Option Nat)}
theorem rd_cases (hp : Ps ps) {x y : Nat} (hy : y < ps.length) (h : x ∈ road ps y) : x = y ∨ ∃ p, ps[y]? = some (some p) ∧ p < y ∧ x ∈ road ps p := by
  rcases opt_cases hy with e | ⟨p, e⟩
  · rw [road_none e] at h
    exact .inl (List.mem_singleton.mp h)
  · rw [road_some hp e] at h
    rcases List.mem_append.mp h with h | h
    · exact .inr ⟨p, e, hp y p e, h⟩
    · exact .inl (List.mem_singleton.mp h)
theorem rd_up (hp : Ps ps) {x y p : Nat} (e : ps[y]? = some (some p)) (h : x ∈ road ps p) : x ∈ road ps y := by
  rw [road_some hp e]
  exact List.mem_append_left _ h
theorem rd_trans (hp : Ps ps) {x y : Nat} : ∀ z, z < ps.length → x ∈ road ps y → y ∈ road ps z → x ∈ road ps z := by
  intro z
  induction z using Nat.strongRecOn with
  | ind z ih =>
    intro hz hxy hyz
    rcases rd_cases hp hz hyz with rfl | ⟨p, e, hpz, h⟩
    · exact hxy
    · exact rd_up hp e (ih p hpz (Nat.lt_trans hpz hz) hxy h)
theorem rd_lin (hp : Ps ps) {x y : Nat} : ∀ z, z < ps.length → x ∈ road ps z → y ∈ road ps z → x ∈ road ps y ∨ y ∈ road ps x := by
  intro z
  induction z using Nat.strongRecOn with
  | ind z ih =>
    intro hz hx hy
    rcases rd_cases hp hz hx with rfl | ⟨p, e, hpz, h⟩
    · exact .inr hy
    · rcases rd_cases hp hz hy with rfl | ⟨p', e', _, h'⟩
      · exact .inl hx
      · rw [e] at e'
        cases e'
        exact ih p hpz (Nat.lt_trans hpz hz) h h'
theorem rd_anti (hp : Ps ps) {x y : Nat} (hx : x < ps.length) (hy : y < ps.length) (h : x ∈ road ps y) (k : y ∈ road ps x) : x = y := by
  have := road_le hp y hy x h
  have := road_le hp x hx y k
  omega
theorem rd_lt (hp : Ps ps) {x y : Nat} (hy : y < ps.length) (h : x ∈ road ps y) : x < ps.length := Nat.lt_of_le_of_lt (road_le hp y hy x h) hy
theorem road_asc (hp : Ps ps) : ∀ z, z < ps.length → (road ps z).Pairwise (· < ·) := by
  intro z
  induction z using Nat.strongRecOn with
  | ind z ih =>
    intro hz
    rcases opt_cases hz with e | ⟨p, e⟩
    · rw [road_none e]; exact List.pairwise_singleton _ _
    · have hl := hp z p e
      rw [road_some hp e, List.pairwise_append]
      refine ⟨ih p hl (Nat.lt_trans hl hz), List.pairwise_singleton _ _, fun a ha b hb => ?_⟩
      rw [List.mem_singleton.mp hb]
      exact Nat.lt_of_le_of_lt (road_le hp p (Nat.lt_trans hl hz) a ha) hl
end
/-! the topmost place up to which none is cut -/
def top (ps : List (Option Nat)) (cut : List Nat) (i : Nat) : Nat :=
  match ps[i]? with
  | some (some p) => if _h : p < i then (if p ∈ cut then i else top ps cut p) else i
  | _ => i
termination_by i
section
variable {ps : List (Option Nat)} {cut : List Nat}
theorem top_none {i : Nat} (h : ps[i]? = some none) : top ps cut i = i := by rw [top, h]
theorem top_cut {i p : Nat} (hp : Ps ps) (h : ps[i]? = some (some p)) (c : p ∈ cut) : top ps cut i = i := by
  rw [top, h]
  dsimp only
  rw [dif_pos (hp i p h), if_pos c]
theorem top_up {i p : Nat} (hp : Ps ps) (h : ps[i]? = some (some p)) (c : p ∉ cut) : top ps cut i = top ps cut p := by
  rw [top, h]
  dsimp only
  rw [dif_pos (hp i p h), if_neg c]
theorem top_road (hp : Ps ps) : ∀ x, x < ps.length → top ps cut x ∈ road ps x := by
  intro x
  induction x using Nat.strongRecOn with
  | ind x ih =>
    intro hx
    rcases opt_cases hx with e | ⟨p, e⟩
    · rw [top_none e]; exact road_self hp hx
    · by_cases c : p ∈ cut
      · rw [top_cut hp e c]; exact road_self hp hx
      · rw [top_up hp e c]
        exact rd_up hp e (ih p (hp x p e) (Nat.lt_trans (hp x p e) hx))
theorem top_free (hp : Ps ps) : ∀ x, x < ps.length → x ∉ cut → top ps cut x ∉ cut := by
  intro x
  induction x using Nat.strongRecOn with
  | ind x ih =>
    intro hx nx
    rcases opt_cases hx with e | ⟨p, e⟩
    · rw [top_none e]; exact nx
    · by_cases c : p ∈ cut
      · rw [top_cut hp e c]; exact nx
      · rw [top_up hp e c]
        exact ih p (hp x p e) (Nat.lt_trans (hp x p e) hx) c
/-- all from the topmost one down are alike -/
theorem top_seg (hp : Ps ps) {z : Nat} : ∀ x, x < ps.length → x ∉ cut → z ∈ road ps x → top ps cut x ∈ road ps z → z ∉ cut ∧ top ps cut z = top ps cut x := by
  intro x
  induction x using Nat.strongRecOn with
  | ind x ih =>
    intro hx nx hz ht
    rcases rd_cases hp hx hz with rfl | ⟨p, e, hpx, h⟩
    · exact ⟨nx, rfl⟩
    · by_cases c : p ∈ cut
      · rw [top_cut hp e c] at ht
        have h1 := road_le hp p (Nat.lt_trans hpx hx) z h
        have h2 := road_le hp z (Nat.lt_of_le_of_lt h1 (Nat.lt_trans hpx hx)) x ht
        omega
      · rw [top_up hp e c] at ht ⊢
        exact ih p hpx (Nat.lt_trans hpx hx) c h ht
theorem top_same (hp : Ps ps) {y : Nat} : ∀ x, x < ps.length → y ∈ road ps x → (∀ z ∈ road ps x, y ∈ road ps z → z ≠ x → z ∉ cut) → top ps cut x = top ps cut y := by
  intro x
  induction x using Nat.strongRecOn with
  | ind x ih =>
    intro hx hy hf
    rcases rd_cases hp hx hy with rfl | ⟨p, e, hpx, h⟩
    · rfl
    · have hpl := Nat.lt_trans hpx hx
      have c : p ∉ cut := hf p (rd_up hp e (road_self hp hpl)) h (Nat.ne_of_lt hpx)
      rw [top_up hp e c]
      refine ih p hpx hpl h fun z hz hyz _ => hf z (rd_up hp e hz) hyz fun e2 => ?_
      have := road_le hp p hpl z hz
      omega
/-- joined with a place over it just if none between is cut -/
theorem join_iff (hp : Ps ps) {x y : Nat} (hx : x < ps.length) (hy : y ∈ road ps x) : (x ∉ cut ∧ top ps cut x = top ps cut y) ↔ ∀ z ∈ road ps x, y ∈ road ps z → z ∉ cut := by
  have hyl := rd_lt hp hx hy
  constructor
  · rintro ⟨nx, e⟩ z hz hyz
    have hzl := rd_lt hp hx hz
    exact (top_seg hp x hx nx hz (e ▸ rd_trans hp z hzl (top_road hp y hyl) hyz)).1
  · intro h
    exact ⟨h x (road_self hp hx) hy, top_same hp x hx hy fun z hz hyz _ => h z hz hyz⟩
/-! one place more cut -/
theorem cut_far (hp : Ps ps) {x : Nat} : ∀ y, y < ps.length → ¬ (x ∈ road ps y ∧ top ps cut y = top ps cut x) → top ps (x :: cut) y = top ps cut y := by
  intro y
  induction y using Nat.strongRecOn with
  | ind y ih =>
    intro hy hn
    rcases opt_cases hy with e | ⟨p, e⟩
    · rw [top_none e, top_none e]
    · by_cases c : p ∈ cut
      · rw [top_cut hp e c, top_cut hp e (List.mem_cons_of_mem _ c)]
      · have hpy := hp y p e
        have hpl := Nat.lt_trans hpy hy
        have nx : p ≠ x := fun z => by
          subst z
          exact hn ⟨rd_up hp e (road_self hp hpl), top_up hp e c⟩
        rw [top_up hp e c, top_up hp e (fun z => (List.mem_cons.mp z).elim nx c)]
        exact ih p hpy hpl fun z => hn ⟨rd_up hp e z.1, by rw [top_up hp e c]; exact z.2⟩
theorem cut_near (hp : Ps ps) {x : Nat} : ∀ y, y < ps.length → y ∉ cut → y ≠ x → x ∈ road ps y → top ps cut y = top ps cut x → ps[top ps (x :: cut) y]? = some (some x) ∧ top ps (x :: cut) y ∈ road ps y ∧ ∀ c, ps[c]? = some (some x) → c ∈ road ps y → top ps (x :: cut) y = c := by
  intro y
  induction y using Nat.strongRecOn with
  | ind y ih =>
    intro hy ny ne hx ht
    rcases rd_cases hp hy hx with z | ⟨p, e, hpy, h⟩
    · exact absurd z.symm ne
    · have hpl := Nat.lt_trans hpy hy
      by_cases px : p = x
      · subst px
        have et : top ps (p :: cut) y = y := top_cut hp e List.mem_cons_self
        rw [et]
        refine ⟨e, road_self hp hy, fun c hc hcy => ?_⟩
        rcases rd_cases hp hy hcy with z | ⟨p', e', _, h'⟩
        · exact z.symm
        · rw [e] at e'
          cases e'
          have := road_le hp p hpl c h'
          have := hp c p hc
          omega
      · have c : p ∉ cut := fun c => by
          rw [top_cut hp e c] at ht
          have hxl := rd_lt hp hy hx
          have h1 := road_le hp x hxl _ (top_road (cut := cut) hp x hxl)
          have h2 := road_le hp p hpl x h
          omega
        have et : top ps (x :: cut) y = top ps (x :: cut) p := top_up hp e fun z => (List.mem_cons.mp z).elim px c
        rw [top_up hp e c] at ht
        obtain ⟨i1, i2, i3⟩ := ih p hpy hpl c px h ht
        rw [et]
        refine ⟨i1, rd_up hp e i2, fun c' hc hcy => ?_⟩
        rcases rd_cases hp hy hcy with z | ⟨p', e', _, h'⟩
        · subst z
          rw [e] at hc
          cases hc
          exact absurd rfl px
        · rw [e] at e'
          cases e'
          exact i3 c' hc h'
/-! the pieces -/
def comp (ps : List (Option Nat)) (cut : List Nat) (r : Nat) : List Nat := (List.range ps.length).filter fun y => decide (y ∉ cut) && decide (top ps cut y = r)
theorem comp_mem {r y : Nat} : y ∈ comp ps cut r ↔ y < ps.length ∧ y ∉ cut ∧ top ps cut y = r := by
  unfold comp
  rw [List.mem_filter, List.mem_range, Bool.and_eq_true, decide_eq_true_iff, decide_eq_true_iff]
/-- as the law cuts a piece at a place -/
def cutL (ps : List (Option Nat)) (pc : List Nat) (x : Nat) : List (List Nat) :=
  ((pc.filter fun y => !decide (y ∈ pc.filter fun y => decide (x ∈ road ps y))) ::
    ((pc.filter fun y => decide (x ∈ road ps y)).filter fun c => decide (ps[c]? = some (some x))).map fun c => (pc.filter fun y => decide (x ∈ road ps y)).filter fun y => decide (c ∈ road ps y)).filter fun l => !l.isEmpty
structure Tops (ps : List (Option Nat)) (cut : List Nat) (rs : List Nat) : Prop where
  nd : rs.Nodup
  mem : ∀ r, r ∈ rs ↔ r < ps.length ∧ r ∉ cut ∧ top ps cut r = r
theorem filter_eq {α : Type} {f g : α → Bool} {xs : List α} (h : ∀ x ∈ xs, f x = g x) : xs.filter f = xs.filter g := List.filter_congr h
/-- the piece of a place, cut at it -/
theorem cut_parts (hp : Ps ps) {x : Nat} (hx : x < ps.length) (nx : x ∉ cut) : cutL ps (comp ps cut (top ps cut x)) x = ((if top ps cut x = x then [] else [top ps cut x]) ++ (List.range ps.length).filter fun c => decide (c ∉ cut) && decide (ps[c]? = some (some x))).map (comp ps (x :: cut)) := by
  have hr := top_road (cut := cut) hp x hx
  have hrl := rd_lt hp hx hr
  have hrx := road_le hp x hx _ hr
  -- those under it
  have eu : ((comp ps cut (top ps cut x)).filter fun y => decide (x ∈ road ps y)).filter (fun c => decide (ps[c]? = some (some x))) = (List.range ps.length).filter fun c => decide (c ∉ cut) && decide (ps[c]? = some (some x)) := by
    unfold comp
    rw [List.filter_filter, List.filter_filter]
    refine List.filter_congr fun c hc => ?_
    have hcl := List.mem_range.mp hc
    rw [Bool.eq_iff_iff]
    simp only [Bool.and_eq_true, decide_eq_true_eq]
    constructor
    · rintro ⟨⟨a, b⟩, d, e⟩
      exact ⟨d, a⟩
    · rintro ⟨d, a⟩
      exact ⟨⟨a, rd_up hp a (road_self hp hx)⟩, d, top_up hp a nx⟩
  have ec : ∀ c, c < ps.length → c ∉ cut → ps[c]? = some (some x) → ((comp ps cut (top ps cut x)).filter fun y => decide (x ∈ road ps y)).filter (fun y => decide (c ∈ road ps y)) = comp ps (x :: cut) c := by
    intro c hc nc e
    have hxc := hp c x e
    unfold comp
    rw [List.filter_filter, List.filter_filter]
    refine List.filter_congr fun y hy => ?_
    have hyl := List.mem_range.mp hy
    rw [Bool.eq_iff_iff]
    simp only [Bool.and_eq_true, decide_eq_true_eq]
    constructor
    · rintro ⟨⟨a, b⟩, d, t⟩
      have ne : y ≠ x := fun z => by
        subst z
        have := road_le hp y hyl c a
        omega
      exact ⟨fun z => (List.mem_cons.mp z).elim ne d, (cut_near hp y hyl d ne b t).2.2 c e a⟩
    · rintro ⟨d, t⟩
      have dc : y ∉ cut := fun z => d (List.mem_cons_of_mem _ z)
      have hcy : c ∈ road ps y := t ▸ top_road hp y hyl
      have hxy : x ∈ road ps y := rd_trans hp y hyl (rd_up hp e (road_self hp hx)) hcy
      by_cases j : x ∈ road ps y ∧ top ps cut y = top ps cut x
      · exact ⟨⟨hcy, hxy⟩, dc, j.2⟩
      · have := cut_far hp y hyl j
        rw [t] at this
        have h2 := top_seg hp y hyl dc hcy (this ▸ road_self hp hc)
        rw [← h2.2, top_up hp e nx] at this
        exact absurd ⟨hxy, by rw [← h2.2, top_up hp e nx]⟩ j
  have er : ((comp ps cut (top ps cut x)).filter fun y => !decide (y ∈ (comp ps cut (top ps cut x)).filter fun y => decide (x ∈ road ps y))) = if top ps cut x = x then [] else comp ps (x :: cut) (top ps cut x) := by
    have e1 : ((comp ps cut (top ps cut x)).filter fun y => !decide (y ∈ (comp ps cut (top ps cut x)).filter fun y => decide (x ∈ road ps y))) = (comp ps cut (top ps cut x)).filter fun y => !decide (x ∈ road ps y) := by
      refine List.filter_congr fun y hy => ?_
      congr 1
      rw [Bool.eq_iff_iff, decide_eq_true_iff, decide_eq_true_iff, List.mem_filter, decide_eq_true_iff]
      exact ⟨fun z => z.2, fun z => ⟨hy, z⟩⟩
    rw [e1]
    by_cases c : top ps cut x = x
    · rw [if_pos c, List.filter_eq_nil_iff]
      intro y hy
      obtain ⟨hyl, _, t⟩ := comp_mem.mp hy
      have := top_road (cut := cut) hp y hyl
      rw [t, c] at this
      simpa using this
    · rw [if_neg c]
      have nr : x ∉ road ps (top ps cut x) := fun z => c (rd_anti hp hrl hx hr z)
      unfold comp
      rw [List.filter_filter]
      refine List.filter_congr fun y hy => ?_
      have hyl := List.mem_range.mp hy
      rw [Bool.eq_iff_iff]
      simp only [Bool.and_eq_true, decide_eq_true_eq, Bool.not_eq_true', decide_eq_false_iff_not]
      constructor
      · rintro ⟨a, d, t⟩
        refine ⟨fun z => (List.mem_cons.mp z).elim (fun z => a (by rw [← z]; exact road_self hp hyl)) d, ?_⟩
        rw [cut_far hp y hyl (fun z => a z.1)]
        exact t
      · rintro ⟨d, t⟩
        have dc : y ∉ cut := fun z => d (List.mem_cons_of_mem _ z)
        have ne : y ≠ x := fun z => d (z ▸ List.mem_cons_self)
        have j : ¬ (x ∈ road ps y ∧ top ps cut y = top ps cut x) := fun j => by
          have h1 := (cut_near hp y hyl dc ne j.1 j.2).1
          rw [t] at h1
          have := hp _ _ h1
          omega
        have e2 := cut_far hp y hyl j
        rw [t] at e2
        exact ⟨fun z => j ⟨z, e2.symm⟩, dc, e2.symm⟩
  unfold cutL
  rw [er, eu]
  have em : (((List.range ps.length).filter fun c => decide (c ∉ cut) && decide (ps[c]? = some (some x))).map fun c => ((comp ps cut (top ps cut x)).filter fun y => decide (x ∈ road ps y)).filter fun y => decide (c ∈ road ps y)) = ((List.range ps.length).filter fun c => decide (c ∉ cut) && decide (ps[c]? = some (some x))).map (comp ps (x :: cut)) := by
    refine List.map_congr_left fun c hc => ?_
    obtain ⟨h1, h2⟩ := List.mem_filter.mp hc
    simp only [Bool.and_eq_true, decide_eq_true_eq] at h2
    exact ec c (List.mem_range.mp h1) h2.1 h2.2
  rw [em]
  have ne : ∀ r, r < ps.length → r ∉ cut → r ≠ x → top ps (x :: cut) r = r → (!(comp ps (x :: cut) r).isEmpty) = true := fun r hr n1 n2 t => by
    have : r ∈ comp ps (x :: cut) r := comp_mem.mpr ⟨hr, fun z => (List.mem_cons.mp z).elim n2 n1, t⟩
    cases h : comp ps (x :: cut) r with
    | nil => rw [h] at this; cases this
    | cons _ _ => rfl
  have hch : (((List.range ps.length).filter fun c => decide (c ∉ cut) && decide (ps[c]? = some (some x))).map (comp ps (x :: cut))).filter (fun l => !l.isEmpty) = ((List.range ps.length).filter fun c => decide (c ∉ cut) && decide (ps[c]? = some (some x))).map (comp ps (x :: cut)) := by
    rw [List.filter_eq_self]
    intro l hl
    obtain ⟨c, hc, rfl⟩ := List.mem_map.mp hl
    obtain ⟨h1, h2⟩ := List.mem_filter.mp hc
    simp only [Bool.and_eq_true, decide_eq_true_eq] at h2
    have := hp c x h2.2
    exact ne c (List.mem_range.mp h1) h2.1 (by omega) (top_cut hp h2.2 List.mem_cons_self)
  by_cases c : top ps cut x = x
  · rw [if_pos c, if_pos c, List.filter_cons_of_neg (by simp), hch]
    rfl
  · rw [if_neg c, if_neg c, List.filter_cons_of_pos, hch]
    · rfl
    · have nr : x ∉ road ps (top ps cut x) := fun z => c (rd_anti hp hrl hx hr z)
      have tt : top ps cut (top ps cut x) = top ps cut x := (top_seg hp x hx nx hr (road_self hp hrl)).2
      exact ne _ hrl (top_free hp x hx nx) c (by rw [cut_far hp _ hrl (fun z => nr z.1)]; exact tt)
/-- the tops behind a cut -/
theorem tops_next (hp : Ps ps) {rs : List Nat} {x at_ : Nat} (T : Tops ps cut rs) (hx : x < ps.length) (nx : x ∉ cut) (ha : rs[at_]? = some (top ps cut x)) :
    ∃ rs', Tops ps (x :: cut) rs' ∧ (rs.map (comp ps cut)).take at_ ++ cutL ps (comp ps cut (top ps cut x)) x ++ (rs.map (comp ps cut)).drop (at_ + 1) = rs'.map (comp ps (x :: cut)) := by
  have hr := top_road (cut := cut) hp x hx
  have hrl := rd_lt hp hx hr
  have hrx := road_le hp x hx _ hr
  have hal := (List.getElem?_eq_some_iff.mp ha).1
  have hae := (List.getElem?_eq_some_iff.mp ha).2
  have split : rs = rs.take at_ ++ top ps cut x :: rs.drop (at_ + 1) := by
    rw [← hae, ← List.drop_eq_getElem_cons hal, List.take_append_drop]
  have nd := T.nd
  rw [split] at nd
  obtain ⟨nd1, nd2, nd3⟩ := List.nodup_append.mp nd
  obtain ⟨nd4, nd5⟩ := List.nodup_cons.mp nd2
  -- the others
  have far : ∀ r ∈ rs, r ≠ top ps cut x → comp ps cut r = comp ps (x :: cut) r ∧ r ≠ x ∧ top ps (x :: cut) r = r := by
    intro r hr' ne
    obtain ⟨h1, h2, h3⟩ := (T.mem r).mp hr'
    have rx : r ≠ x := fun z => ne (by rw [← z]; exact h3.symm)
    refine ⟨?_, rx, by rw [cut_far hp r h1 (fun z => ne (by rw [← z.2]; exact h3.symm))]; exact h3⟩
    unfold comp
    refine List.filter_congr fun y hy => ?_
    have hyl := List.mem_range.mp hy
    rw [Bool.eq_iff_iff]
    simp only [Bool.and_eq_true, decide_eq_true_eq]
    constructor
    · rintro ⟨d, t⟩
      have yx : y ≠ x := fun z => ne (by rw [← t, z])
      exact ⟨fun z => (List.mem_cons.mp z).elim yx d, by rw [cut_far hp y hyl (fun z => ne (by rw [← t]; exact z.2))]; exact t⟩
    · rintro ⟨d, t⟩
      have dc : y ∉ cut := fun z => d (List.mem_cons_of_mem _ z)
      have yx : y ≠ x := fun z => d (z ▸ List.mem_cons_self)
      by_cases j : x ∈ road ps y ∧ top ps cut y = top ps cut x
      · have h4 := (cut_near hp y hyl dc yx j.1 j.2).1
        rw [t] at h4
        have h5 := top_up (cut := cut) hp h4 nx
        rw [h3] at h5
        exact absurd h5 ne
      · have := cut_far hp y hyl j
        rw [t] at this
        exact ⟨dc, this.symm⟩
  have inT : ∀ r ∈ rs.take at_, r ∈ rs ∧ r ≠ top ps cut x := fun r h => ⟨List.mem_of_mem_take h, nd3 r h _ List.mem_cons_self⟩
  have inD : ∀ r ∈ rs.drop (at_ + 1), r ∈ rs ∧ r ≠ top ps cut x := fun r h => ⟨List.mem_of_mem_drop h, fun z => nd4 (z ▸ h)⟩
  refine ⟨rs.take at_ ++ (((if top ps cut x = x then [] else [top ps cut x]) ++ (List.range ps.length).filter fun c => decide (c ∉ cut) && decide (ps[c]? = some (some x))) ++ rs.drop (at_ + 1)), ⟨?_, fun r => ?_⟩, ?_⟩
  · have chn : ∀ c ∈ (List.range ps.length).filter (fun c => decide (c ∉ cut) && decide (ps[c]? = some (some x))), c ∉ rs ∧ c ≠ top ps cut x := fun c hc => by
      obtain ⟨h1, h2⟩ := List.mem_filter.mp hc
      simp only [Bool.and_eq_true, decide_eq_true_eq] at h2
      have h3 := hp c x h2.2
      have h4 := top_up (cut := cut) hp h2.2 nx
      exact ⟨fun z => by have := ((T.mem c).mp z).2.2; omega, by omega⟩
    rw [List.nodup_append, List.nodup_append, List.nodup_append]
    refine ⟨nd1, ⟨⟨?_, List.nodup_range.filter _, fun a ha b hb z => ?_⟩, nd5, fun a ha b hb z => ?_⟩, fun a ha b hb z => ?_⟩
    · split
      · exact List.nodup_nil
      · exact List.nodup_cons.mpr ⟨List.not_mem_nil, List.nodup_nil⟩
    · subst z
      split at ha
      · cases ha
      · exact (chn a hb).2 (List.mem_singleton.mp ha)
    · subst z
      rcases List.mem_append.mp ha with ha | ha
      · split at ha
        · cases ha
        · exact (inD a hb).2 (List.mem_singleton.mp ha)
      · exact (chn a ha).1 (inD a hb).1
    · subst z
      rcases List.mem_append.mp hb with hb | hb
      · rcases List.mem_append.mp hb with hb | hb
        · split at hb
          · cases hb
          · exact (inT a ha).2 (List.mem_singleton.mp hb)
        · exact (chn a hb).1 (inT a ha).1
      · exact nd3 a ha a (List.mem_cons_of_mem _ hb) rfl
  · rw [List.mem_append, List.mem_append, List.mem_append]
    constructor
    · rintro (h | (h | h) | h)
      · obtain ⟨a, b⟩ := inT r h
        obtain ⟨h1, h2, h3⟩ := (T.mem r).mp a
        obtain ⟨_, f2, f3⟩ := far r a b
        exact ⟨h1, fun z => (List.mem_cons.mp z).elim f2 h2, f3⟩
      · split at h
        · cases h
        · rename_i c
          rw [List.mem_singleton.mp h]
          have nr : x ∉ road ps (top ps cut x) := fun z => c (rd_anti hp hrl hx hr z)
          have tt : top ps cut (top ps cut x) = top ps cut x := (top_seg hp x hx nx hr (road_self hp hrl)).2
          exact ⟨hrl, fun z => (List.mem_cons.mp z).elim c (top_free hp x hx nx), by rw [cut_far hp _ hrl (fun z => nr z.1)]; exact tt⟩
      · obtain ⟨h1, h2⟩ := List.mem_filter.mp h
        simp only [Bool.and_eq_true, decide_eq_true_eq] at h2
        have h3 := hp r x h2.2
        exact ⟨List.mem_range.mp h1, fun z => (List.mem_cons.mp z).elim (by omega) h2.1, top_cut hp h2.2 List.mem_cons_self⟩
      · obtain ⟨a, b⟩ := inD r h
        obtain ⟨h1, h2, h3⟩ := (T.mem r).mp a
        obtain ⟨_, f2, f3⟩ := far r a b
        exact ⟨h1, fun z => (List.mem_cons.mp z).elim f2 h2, f3⟩
    · rintro ⟨h1, h2, h3⟩
      have dc : r ∉ cut := fun z => h2 (List.mem_cons_of_mem _ z)
      have rx : r ≠ x := fun z => h2 (z ▸ List.mem_cons_self)
      by_cases j : x ∈ road ps r ∧ top ps cut r = top ps cut x
      · have h4 := (cut_near hp r h1 dc rx j.1 j.2).1
        rw [h3] at h4
        exact .inr (.inl (.inr (List.mem_filter.mpr ⟨List.mem_range.mpr h1, by simp only [Bool.and_eq_true, decide_eq_true_eq]; exact ⟨dc, h4⟩⟩)))
      · have h4 := cut_far hp r h1 j
        rw [h3] at h4
        have hrs := (T.mem r).mpr ⟨h1, dc, h4.symm⟩
        by_cases e : r = top ps cut x
        · refine .inr (.inl (.inl ?_))
          rw [if_neg (fun z => rx (e.trans z))]
          exact List.mem_singleton.mpr e
        · rw [split] at hrs
          rcases List.mem_append.mp hrs with h | h
          · exact .inl h
          · exact .inr (.inr ((List.mem_cons.mp h).resolve_left e))
  · rw [cut_parts hp hx nx, ← List.map_take, ← List.map_drop]
    generalize ((if top ps cut x = x then [] else [top ps cut x]) ++ (List.range ps.length).filter fun c => decide (c ∉ cut) && decide (ps[c]? = some (some x))) = Y
    rw [List.map_append, List.map_append, List.append_assoc]
    congr 1
    · exact List.map_congr_left fun r h => (far r (inT r h).1 (inT r h).2).1
    · congr 1
      exact List.map_congr_left fun r h => (far r (inD r h).1 (inD r h).2).1
end
end Ck
namespace Cn
open PySem PySem.Spec PyProof.Rows L2 Ck
theorem foKept {C : Addr} {H H' : Hp} {p c a : Addr} {cells : List Int} {f : Fo} (hI : HandIn H p c cells) (k : Kept p H H') (h : FoAt C H a f) : FoAt C H' a f := by
  obtain ⟨dx, ap, ab, aa, h1, h2, h3, h4⟩ := h
  have ne : a ≠ p := fun z => by
    obtain ⟨_, _, _, _, e, _⟩ := hI.ob
    rw [← z, h1] at e; cases e
  exact ⟨dx, ap, ab, aa, k _ _ ne h1, k _ _ (tup_ne hI h2) h2, k _ _ (tup_ne hI h3) h3, k _ _ (tup_ne hI h4) h4⟩
/-- one of two numbers -/
theorem pickN {c : Prop} {_ : Decidable c} {σ : L2.St} {H : Hp} {Q : VK} {a b : Nat} (k : ∀ n : Nat, n = a ∨ n = b → Q (vn n) H) : if c then tC (.int (a : Int)) σ H Q else tC (.int (b : Int)) σ H Q := by
  by_cases h : c
  · rw [if_pos h]; exact k a (.inl rfl)
  · rw [if_neg h]; exact k b (.inr rfl)
def dNote (q : List Nat × List Nat) : PyData := .tuple [.tuple (dn q.1), .tuple (dn q.2)]
theorem dpNotes {K : PySem.W.Frag} {H : Hp} : ∀ {us : List V} {ns : List (List Nat × List Nat)}, NotesR H us ns → DpAll K H us (ns.map dNote)
  | _, _, .nil => .nil
  | _, _, .cons h t => by
    obtain ⟨a, x, y, rfl, h1, h2, h3⟩ := h
    exact .cons (.tup (.inl (.inl h1)) (.cons (.tup (tnL h2) (dpN _)) (.cons (.tup (tnL h3) (dpN _)) .nil))) (dpNotes t)
theorem dNoteLay : ∀ ns : List (List Nat × List Nat), PyData.canLayAll0 (ns.map dNote) = true
  | [] => rfl
  | q :: ns => by
    show ((PyData.canLayAll0 (dn q.1) && (PyData.canLayAll0 (dn q.2) && true)) && PyData.canLayAll0 (ns.map dNote)) = true
    rw [dNoteLay ns, dnLay, dnLay]; rfl
theorem dNoteDepth : ∀ ns : List (List Nat × List Nat), PyData.depthAll (ns.map dNote) ≤ 2
  | [] => by simp [PyData.depthAll]
  | q :: ns => by
    have h1 := dNoteDepth ns
    show max (max (PyData.depthAll (dn q.1) + 1) (max (PyData.depthAll (dn q.2) + 1) 0) + 1) (PyData.depthAll (ns.map dNote)) ≤ 2
    rw [dnDepth, dnDepth]
    omega
theorem dNoteSh (ns : List (List Nat × List Nat)) : SeqAt.shaped (.tuple (ns.map dNote)) = true := by
  show (PyData.canLayAll0 (ns.map dNote) && decide (PyData.depthAll (ns.map dNote) + 1 ≤ 64)) = true
  have := dNoteDepth ns
  rw [dNoteLay, decide_eq_true (by omega)]; rfl
theorem dNoteEq (ns : List (List Nat × List Nat)) : PyData.eqv (.tuple (ns.map dNote)) (.tuple (ns.map dNote)) = true := SeqAt.eqv_refl (.tuple (ns.map dNote)) (dNoteLay ns)
section
variable {P : Program} {w : World} {K : PySem.W.Frag} {mg : Str → Option Value} {base : Heap} {C : Addr}
theorem dHand (B : Defs K mg C) : Def P w K mg base "_law_hand" 1 ["_law_script"] (spHand K) := def_of B.ha fun f fd F => ok_hand F (nOf B).abs (nOf B).int (nOf B).is.len
def spLaw (K : PySem.W.Frag) : Sp := fun vs H Q _ => ∃ (a : Addr) (ns : List Int), vs = [.ref a] ∧ SqL K H a (ns.map V.int) ∧ ns.length ≤ 63 ∧ ∀ H', Q (.bl true) H'
end
end Cn
namespace Ck
/-! sums and products by a number -/
def sumN (f : Nat → Nat) : Nat → Nat
  | 0 => 0
  | b + 1 => sumN f b + f (b + 1)
def prN (g : Nat → Nat) : Nat → Nat
  | 0 => 1
  | b + 1 => prN g b * g b
def adN (g : Nat → Nat) : Nat → Nat
  | 0 => 0
  | b + 1 => adN g b + g b
section
variable {f g h : Nat → Nat} {n k : Nat}
theorem sumN_congr : ∀ {b : Nat}, (∀ m, 1 ≤ m → m ≤ b → f m = g m) → sumN f b = sumN g b
  | 0, _ => rfl
  | b + 1, e => by
    show sumN f b + f (b + 1) = sumN g b + g (b + 1)
    rw [sumN_congr fun m h1 h2 => e m h1 (by omega), e (b + 1) (by omega) (Nat.le_refl _)]
theorem sumN_le : ∀ {b : Nat}, (∀ m, 1 ≤ m → m ≤ b → f m ≤ g m) → sumN f b ≤ sumN g b
  | 0, _ => Nat.le_refl _
  | b + 1, e => Nat.add_le_add (sumN_le fun m h1 h2 => e m h1 (by omega)) (e (b + 1) (by omega) (Nat.le_refl _))
theorem sumN_mul (c : Nat) : ∀ b, sumN (fun m => c * f m) b = c * sumN f b
  | 0 => rfl
  | b + 1 => by
    show sumN (fun m => c * f m) b + c * f (b + 1) = c * (sumN f b + f (b + 1))
    rw [sumN_mul c b, Nat.mul_add]
theorem sumN_bound {c : Nat} : ∀ {b : Nat}, (∀ m, 1 ≤ m → m ≤ b → f m ≤ c) → sumN f b ≤ b * c
  | 0, _ => Nat.zero_le _
  | b + 1, e => by
    rw [Nat.succ_mul]
    exact Nat.add_le_add (sumN_bound fun m h1 h2 => e m h1 (by omega)) (e (b + 1) (by omega) (Nat.le_refl _))
theorem sumN_mono {a : Nat} : ∀ {b : Nat}, a ≤ b → sumN f a ≤ sumN f b
  | 0, e => by rw [Nat.le_zero.mp e]; exact Nat.le_refl _
  | b + 1, e => by
    by_cases c : a = b + 1
    · rw [c]; exact Nat.le_refl _
    · exact Nat.le_trans (sumN_mono (b := b) (by omega)) (Nat.le_add_right _ _)
theorem sumN_one {b : Nat} (hb : 1 ≤ b) : f 1 ≤ sumN f b := by
  have e : sumN f 1 = f 1 := by show 0 + f 1 = f 1; omega
  rw [← e]
  exact sumN_mono hb
theorem prN_congr : ∀ {b : Nat}, (∀ q, q < b → f q = g q) → prN f b = prN g b
  | 0, _ => rfl
  | b + 1, e => by
    show prN f b * f b = prN g b * g b
    rw [prN_congr fun q hq => e q (by omega), e b (by omega)]
theorem prN_mul : ∀ b, prN (fun q => f q * g q) b = prN f b * prN g b
  | 0 => rfl
  | b + 1 => by
    show prN (fun q => f q * g q) b * (f b * g b) = prN f b * f b * (prN g b * g b)
    rw [prN_mul b]; grind
theorem prN_one : ∀ {b : Nat}, (∀ q, q < b → f q = 1) → prN f b = 1
  | 0, _ => rfl
  | b + 1, e => by
    show prN f b * f b = 1
    rw [prN_one fun q hq => e q (by omega), e b (by omega)]
theorem prN_single {x : Nat} : ∀ {b : Nat}, k < b → prN (fun q => if q = k then x else 1) b = x
  | 0, e => absurd e (Nat.not_lt_zero _)
  | b + 1, e => by
    show prN (fun q => if q = k then x else 1) b * (if b = k then x else 1) = x
    by_cases c : b = k
    · rw [if_pos c, prN_one fun q hq => if_neg (by omega), Nat.one_mul]
    · rw [if_neg c, Nat.mul_one]
      exact prN_single (by omega)
theorem prN_pos : ∀ {b : Nat}, (∀ q, q < b → 1 ≤ f q) → 1 ≤ prN f b
  | 0, _ => Nat.le_refl _
  | b + 1, e => Nat.mul_pos (prN_pos fun q hq => e q (by omega)) (e b (by omega))
theorem prN_le : ∀ {b : Nat}, (∀ q, q < b → f q ≤ g q) → prN f b ≤ prN g b
  | 0, _ => Nat.le_refl _
  | b + 1, e => Nat.mul_le_mul (prN_le fun q hq => e q (by omega)) (e b (by omega))
theorem prN_mono {a : Nat} : ∀ {b : Nat}, a ≤ b → (∀ q, q < b → 1 ≤ f q) → prN f a ≤ prN f b
  | 0, e, _ => by rw [Nat.le_zero.mp e]; exact Nat.le_refl _
  | b + 1, e, h => by
    by_cases c : a = b + 1
    · rw [c]; exact Nat.le_refl _
    · have h1 : prN f a ≤ prN f b := prN_mono (Nat.le_of_lt_succ (Nat.lt_of_le_of_ne e c)) fun q hq => h q (Nat.lt_succ_of_lt hq)
      exact Nat.le_trans h1 (Nat.le_mul_of_pos_right _ (h b (by omega)))
theorem prN_pow {c : Nat} : ∀ {b : Nat}, (∀ q, q < b → f q ≤ c ^ g q) → prN f b ≤ c ^ adN g b
  | 0, _ => Nat.le_refl _
  | b + 1, e => by
    show prN f b * f b ≤ c ^ (adN g b + g b)
    rw [Nat.pow_add]
    exact Nat.mul_le_mul (prN_pow fun q hq => e q (by omega)) (e b (by omega))
theorem adN_congr : ∀ {b : Nat}, (∀ q, q < b → f q = g q) → adN f b = adN g b
  | 0, _ => rfl
  | b + 1, e => by
    show adN f b + f b = adN g b + g b
    rw [adN_congr fun q hq => e q (by omega), e b (by omega)]
theorem adN_add : ∀ b, adN (fun q => f q + g q) b = adN f b + adN g b
  | 0 => rfl
  | b + 1 => by
    show adN (fun q => f q + g q) b + (f b + g b) = adN f b + f b + (adN g b + g b)
    rw [adN_add b]; omega
theorem adN_zero : ∀ {b : Nat}, (∀ q, q < b → f q = 0) → adN f b = 0
  | 0, _ => rfl
  | b + 1, e => by
    show adN f b + f b = 0
    rw [adN_zero fun q hq => e q (by omega), e b (by omega)]
theorem adN_single {x : Nat} : ∀ {b : Nat}, k < b → adN (fun q => if q = k then x else 0) b = x
  | 0, e => absurd e (Nat.not_lt_zero _)
  | b + 1, e => by
    show adN (fun q => if q = k then x else 0) b + (if b = k then x else 0) = x
    by_cases c : b = k
    · rw [if_pos c, adN_zero fun q hq => if_neg (by omega), Nat.zero_add]
    · rw [if_neg c, Nat.add_zero]
      exact adN_single (by omega)
theorem adN_one : ∀ {b : Nat}, k < b → f k ≤ adN f b
  | 0, e => absurd e (Nat.not_lt_zero _)
  | b + 1, e => by
    show f k ≤ adN f b + f b
    by_cases c : k = b
    · rw [c]; omega
    · have h1 : f k ≤ adN f b := adN_one (by omega)
      omega
end
/-! the ways of what hangs at a place -/
def kid (ps : List (Option Nat)) (p c : Nat) : Bool := decide (ps[c]? = some (some p))
def wF (ps : List (Option Nat)) : Nat → Nat → Nat → Nat
  | 0, _, _ => 1
  | k + 1, p, l => prN (fun c => if kid ps p c = true then sumN (wF ps k c) (l + 1) else 1) ps.length
def wy (ps : List (Option Nat)) (p l : Nat) : Nat := wF ps (ps.length - p) p l
section
variable {ps : List (Option Nat)} {p c l : Nat}
theorem kid_iff : kid ps p c = true ↔ ps[c]? = some (some p) := by unfold kid; exact decide_eq_true_iff
theorem kid_lt (hp : Ps ps) (h : kid ps p c = true) : p < c ∧ c < ps.length := ⟨hp c p (kid_iff.mp h), (List.getElem?_eq_some_iff.mp (kid_iff.mp h)).1⟩
theorem wF_stab (hp : Ps ps) : ∀ (k k' p l : Nat), p < ps.length → ps.length - p ≤ k → ps.length - p ≤ k' → wF ps k p l = wF ps k' p l
  | 0, _, p, l, h1, h2, _ => by omega
  | _, 0, p, l, h1, _, h3 => by omega
  | k + 1, k' + 1, p, l, h1, h2, h3 => by
    refine prN_congr fun c hc => ?_
    by_cases hk : kid ps p c = true
    · rw [if_pos hk, if_pos hk]
      have := kid_lt hp hk
      exact sumN_congr fun m _ _ => wF_stab hp k k' c m hc (by omega) (by omega)
    · rw [if_neg hk, if_neg hk]
theorem wy_eq (hp : Ps ps) (h : p < ps.length) : wy ps p l = prN (fun c => if kid ps p c = true then sumN (wy ps c) (l + 1) else 1) ps.length := by
  unfold wy
  have e : ps.length - p = (ps.length - p - 1) + 1 := by omega
  rw [e]
  refine prN_congr fun c hc => ?_
  by_cases hk : kid ps p c = true
  · rw [if_pos hk, if_pos hk]
    have := kid_lt hp hk
    exact sumN_congr fun m _ _ => wF_stab hp _ _ c m hc (by omega) (by omega)
  · rw [if_neg hk, if_neg hk]
theorem wF_pos : ∀ (k p l : Nat), 1 ≤ wF ps k p l
  | 0, _, _ => Nat.le_refl _
  | k + 1, p, l => prN_pos fun c _ => by
    split
    · exact Nat.le_trans (wF_pos k c 1) (sumN_one (by omega))
    · exact Nat.le_refl _
theorem wy_pos : 1 ≤ wy ps p l := wF_pos _ _ _
theorem sumwy_pos {b : Nat} (h : 1 ≤ b) : 1 ≤ sumN (wy ps p) b := Nat.le_trans wy_pos (sumN_one h)
/-! how many hang under a place -/
def dF (ps : List (Option Nat)) : Nat → Nat → Nat
  | 0, _ => 0
  | k + 1, p => adN (fun c => if kid ps p c = true then dF ps k c + 1 else 0) ps.length
def dsc (ps : List (Option Nat)) (p : Nat) : Nat := dF ps (ps.length - p) p
theorem dF_stab (hp : Ps ps) : ∀ (k k' p : Nat), p < ps.length → ps.length - p ≤ k → ps.length - p ≤ k' → dF ps k p = dF ps k' p
  | 0, _, p, h1, h2, _ => by omega
  | _, 0, p, h1, _, h3 => by omega
  | k + 1, k' + 1, p, h1, h2, h3 => by
    refine adN_congr fun c hc => ?_
    by_cases hk : kid ps p c = true
    · rw [if_pos hk, if_pos hk]
      have := kid_lt hp hk
      rw [dF_stab hp k k' c hc (by omega) (by omega)]
    · rw [if_neg hk, if_neg hk]
theorem dsc_eq (hp : Ps ps) (h : p < ps.length) : dsc ps p = adN (fun c => if kid ps p c = true then dsc ps c + 1 else 0) ps.length := by
  unfold dsc
  have e : ps.length - p = (ps.length - p - 1) + 1 := by omega
  rw [e]
  refine adN_congr fun c hc => ?_
  by_cases hk : kid ps p c = true
  · rw [if_pos hk, if_pos hk]
    have := kid_lt hp hk
    rw [dF_stab hp _ (ps.length - c) c hc (by omega) (by omega)]
  · rw [if_neg hk, if_neg hk]
theorem wy_bound (hp : Ps ps) {A : Nat} : ∀ (k p l : Nat), p < ps.length → ps.length - p ≤ k → l + (ps.length - p) + 1 ≤ A → wy ps p l ≤ A ^ dsc ps p
  | 0, p, l, h1, h2, _ => by omega
  | k + 1, p, l, h1, h2, h3 => by
    rw [wy_eq hp h1, dsc_eq hp h1]
    refine prN_pow fun c hc => ?_
    by_cases hk : kid ps p c = true
    · rw [if_pos hk, if_pos hk]
      have hl := kid_lt hp hk
      have e := sumN_bound (f := wy ps c) (c := A ^ dsc ps c) (b := l + 1) fun m _ hm => wy_bound hp k c m hc (by omega) (by omega)
      rw [Nat.pow_succ, Nat.mul_comm]
      exact Nat.le_trans e (Nat.mul_le_mul_right _ (by omega))
    · rw [if_neg hk, if_neg hk]
      exact Nat.le_refl _
end
/-! what is open behind a prefix -/
def opn (ps : List (Option Nat)) (k q : Nat) : Bool := match ps[q]? with
  | some none => true
  | some (some p) => decide (p < k)
  | none => false
theorem opn_self {ps : List (Option Nat)} {k : Nat} (hp : Ps ps) (hk : k < ps.length) : opn ps k k = true := by
  unfold opn
  rcases opt_cases hk with h | ⟨p, h⟩
  · rw [h]
  · rw [h]; exact decide_eq_true (hp k p h)
def pa (ps : List (Option Nat)) (q : Nat) : Option Nat := (ps[q]?).getD none
def fac (ps : List (Option Nat)) (lv : List Nat) (q : Nat) : Nat := sumN (wy ps q) (mostLv lv (pa ps q))
def rest (ps : List (Option Nat)) (lv : List Nat) (k : Nat) : Nat := prN (fun q => if k ≤ q ∧ opn ps k q = true then fac ps lv q else 1) ps.length
def oth (ps : List (Option Nat)) (lv : List Nat) (k : Nat) : Nat := prN (fun q => if k < q ∧ opn ps k q = true then fac ps lv q else 1) ps.length
def nmb (ps : List (Option Nat)) (lv : List Nat) : Nat → Nat
  | 0 => 0
  | k + 1 => nmb ps lv k + oth ps lv k * sumN (wy ps k) (lv.getD k 0 - 1)
def tot (ps : List (Option Nat)) : Nat := prN (fun q => if ps[q]? = some none then wy ps q 1 else 1) ps.length
def Agree (a b : List Nat) (k : Nat) : Prop := ∀ i, i < k → a.getD i 0 = b.getD i 0
section
variable {ps : List (Option Nat)} {lv lv' : List Nat} {k q : Nat}
theorem pa_of {o : Option Nat} (h : ps[q]? = some o) : pa ps q = o := by unfold pa; rw [h]; rfl
theorem most_pos : 1 ≤ mostLv lv (pa ps q) := by
  cases pa ps q with
  | none => exact Nat.le_refl _
  | some p => exact Nat.le_add_left _ _
theorem fac_pos : 1 ≤ fac ps lv q := sumwy_pos most_pos
theorem fac_agree (ha : Agree lv lv' k) (ho : opn ps k q = true) : fac ps lv q = fac ps lv' q := by
  unfold fac
  unfold opn at ho
  cases h : ps[q]? with
  | none => rw [h] at ho; cases ho
  | some o =>
    rw [pa_of h]
    cases o with
    | none => rfl
    | some p =>
      rw [h] at ho
      have := ha p (of_decide_eq_true ho)
      show sumN _ (lv.getD p 0 + 1) = sumN _ (lv'.getD p 0 + 1)
      rw [this]
theorem rest_agree (ha : Agree lv lv' k) : rest ps lv k = rest ps lv' k := by
  refine prN_congr fun q _ => ?_
  split
  · rename_i h
    exact fac_agree ha h.2
  · rfl
theorem oth_agree (ha : Agree lv lv' k) : oth ps lv k = oth ps lv' k := by
  refine prN_congr fun q _ => ?_
  split
  · rename_i h
    exact fac_agree ha h.2
  · rfl
theorem nmb_agree : ∀ {k : Nat}, Agree lv lv' k → nmb ps lv k = nmb ps lv' k
  | 0, _ => rfl
  | k + 1, ha => by
    show nmb ps lv k + oth ps lv k * _ = nmb ps lv' k + oth ps lv' k * _
    rw [nmb_agree (k := k) fun i hi => ha i (by omega), oth_agree (k := k) fun i hi => ha i (by omega), ha k (by omega)]
theorem oth_pos : 1 ≤ oth ps lv k := prN_pos fun q _ => by
  split
  · exact fac_pos
  · exact Nat.le_refl _
theorem rest_pos : 1 ≤ rest ps lv k := prN_pos fun q _ => by
  split
  · exact fac_pos
  · exact Nat.le_refl _
theorem rest_cut (hp : Ps ps) (hk : k < ps.length) : rest ps lv k = fac ps lv k * oth ps lv k := by
  have e : rest ps lv k = prN (fun q => (if q = k then fac ps lv k else 1) * (if k < q ∧ opn ps k q = true then fac ps lv q else 1)) ps.length := by
    refine prN_congr fun q _ => ?_
    by_cases c : q = k
    · subst c
      rw [if_pos ⟨Nat.le_refl _, opn_self hp hk⟩, if_pos rfl, if_neg (fun z => Nat.lt_irrefl _ z.1), Nat.mul_one]
    · rw [if_neg c, Nat.one_mul]
      by_cases d : k < q ∧ opn ps k q = true
      · rw [if_pos d, if_pos ⟨Nat.le_of_lt d.1, d.2⟩]
      · rw [if_neg d, if_neg fun z => d ⟨by omega, z.2⟩]
  rw [e, prN_mul, prN_single hk]
  rfl
theorem rest_next (hp : Ps ps) (hk : k < ps.length) : rest ps lv (k + 1) = oth ps lv k * wy ps k (lv.getD k 0) := by
  rw [wy_eq hp hk]
  unfold oth
  rw [← prN_mul]
  refine prN_congr fun q hq => ?_
  cases h : ps[q]? with
  | none => exact absurd h (by rw [List.getElem?_eq_getElem hq]; exact fun z => nomatch z)
  | some o =>
    have op : ∀ j, opn ps j q = (match (some o : Option (Option Nat)) with | some none => true | some (some p) => decide (p < j) | none => false) := fun j => by unfold opn; rw [h]
    cases o with
    | none =>
      have kf : ¬ kid ps k q = true := fun z => by
        have := kid_iff.mp z
        rw [h] at this; cases this
      rw [op, op, if_neg kf, Nat.mul_one]
      by_cases c : k < q
      · rw [if_pos ⟨c, rfl⟩, if_pos ⟨c, rfl⟩]
      · rw [if_neg fun z => c z.1, if_neg fun z => c z.1]
    | some p =>
      have hpq := hp q p h
      have kf : kid ps k q = true ↔ p = k := by
        rw [kid_iff, h]
        exact ⟨fun z => by cases z; rfl, fun z => by rw [z]⟩
      rw [op, op]
      show (if k + 1 ≤ q ∧ decide (p < k + 1) = true then fac ps lv q else 1) = (if k < q ∧ decide (p < k) = true then fac ps lv q else 1) * _
      by_cases c : p = k
      · have e1 : fac ps lv q = sumN (wy ps q) (lv.getD k 0 + 1) := by
          unfold fac
          rw [pa_of h, c]; rfl
        rw [if_pos ⟨by omega, decide_eq_true (by omega)⟩, if_neg fun z => by have := of_decide_eq_true z.2; omega, if_pos (kf.mpr c), Nat.one_mul, e1]
      · rw [if_neg fun z => c (kf.mp z), Nat.mul_one]
        by_cases d : k < q ∧ p < k
        · rw [if_pos ⟨by omega, decide_eq_true (by omega)⟩, if_pos ⟨d.1, decide_eq_true d.2⟩]
        · rw [if_neg fun z => d ⟨by omega, by have := of_decide_eq_true z.2; omega⟩, if_neg fun z => d ⟨z.1, of_decide_eq_true z.2⟩]
theorem rest_full : rest ps lv ps.length = 1 := prN_one fun q hq => if_neg fun z => by omega
theorem rest_zero : rest ps lv 0 = tot ps := by
  refine prN_congr fun q hq => ?_
  cases h : ps[q]? with
  | none => exact absurd h (by rw [List.getElem?_eq_getElem hq]; exact fun z => nomatch z)
  | some o =>
    cases o with
    | none =>
      have e : fac ps lv q = wy ps q 1 := by
        unfold fac
        rw [pa_of h]
        show 0 + wy ps q 1 = _
        omega
      rw [if_pos ⟨Nat.zero_le _, by unfold opn; rw [h]⟩, if_pos rfl, e]
    | some p =>
      rw [if_neg fun z => by
        have z2 := z.2
        unfold opn at z2
        rw [h] at z2
        have := of_decide_eq_true z2
        omega, if_neg fun z => nomatch z]
theorem tot_pos : 1 ≤ tot ps := by rw [← rest_zero (lv := [])]; exact rest_pos
/-! numbers of plans -/
theorem nmb_rest (hp : Ps ps) (hk : k < ps.length) (h1 : 1 ≤ lv.getD k 0) : nmb ps lv (k + 1) + rest ps lv (k + 1) = nmb ps lv k + oth ps lv k * sumN (wy ps k) (lv.getD k 0) := by
  rw [rest_next hp hk]
  show nmb ps lv k + oth ps lv k * sumN (wy ps k) (lv.getD k 0 - 1) + _ = _
  obtain ⟨m, hm⟩ : ∃ m, lv.getD k 0 = m + 1 := ⟨lv.getD k 0 - 1, by omega⟩
  rw [hm, Nat.add_sub_cancel]
  show _ = nmb ps lv k + oth ps lv k * (sumN (wy ps k) m + wy ps k (m + 1))
  rw [Nat.mul_add]; omega
theorem lv_at (hv : Lv ps lv) (hk : k < ps.length) : 1 ≤ lv.getD k 0 ∧ lv.getD k 0 ≤ mostLv lv (pa ps k) := by
  obtain ⟨o, ho⟩ : ∃ o, ps[k]? = some o := ⟨_, List.getElem?_eq_getElem hk⟩
  rw [pa_of ho]
  exact hv.2 k _ o (getD_at (by rw [hv.1]; exact hk)) ho
theorem nmb_down (hp : Ps ps) (hv : Lv ps lv) (hk : k < ps.length) : nmb ps lv (k + 1) + rest ps lv (k + 1) ≤ nmb ps lv k + rest ps lv k := by
  have h := lv_at hv hk
  rw [nmb_rest hp hk h.1, rest_cut hp hk, Nat.mul_comm (fac ps lv k)]
  exact Nat.add_le_add_left (Nat.mul_le_mul_left _ (sumN_mono h.2)) _
theorem nmb_lt (hp : Ps ps) (hv : Lv ps lv) : ∀ j k, k + j = ps.length → nmb ps lv ps.length + 1 ≤ nmb ps lv k + rest ps lv k
  | 0, k, e => by
    have e : k = ps.length := by omega
    subst e
    rw [rest_full]
    exact Nat.le_refl _
  | j + 1, k, e => Nat.le_trans (nmb_lt hp hv j (k + 1) (by omega)) (nmb_down hp hv (by omega))
theorem nmb_le : ∀ {a b : Nat}, a ≤ b → nmb ps lv a ≤ nmb ps lv b
  | a, 0, h => by rw [Nat.le_zero.mp h]; exact Nat.le_refl _
  | a, b + 1, h => by
    by_cases c : a = b + 1
    · rw [c]; exact Nat.le_refl _
    · exact Nat.le_trans (nmb_le (b := b) (by omega)) (Nat.le_add_right _ _)
theorem nmb_tot (hp : Ps ps) (hv : Lv ps lv) : nmb ps lv ps.length < tot ps := by
  have := nmb_lt hp hv ps.length 0 (by omega)
  rw [rest_zero (lv := lv)] at this
  have e : nmb ps lv 0 = 0 := rfl
  omega
theorem nmb_mono (hp : Ps ps) (hv : Lv ps lv) (hk : k < ps.length) (ha : Agree lv lv' k) (hl : lv.getD k 0 < lv'.getD k 0) : nmb ps lv ps.length < nmb ps lv' ps.length := by
  have h1 := nmb_lt hp hv (ps.length - (k + 1)) (k + 1) (by omega)
  have h2 : nmb ps lv' (k + 1) ≤ nmb ps lv' ps.length := nmb_le (by omega)
  have h3 := nmb_rest hp hk (lv_at hv hk).1
  have h4 : nmb ps lv' (k + 1) = nmb ps lv k + oth ps lv k * sumN (wy ps k) (lv'.getD k 0 - 1) := by
    rw [nmb_agree ha, oth_agree ha]; rfl
  have h5 : sumN (wy ps k) (lv.getD k 0) ≤ sumN (wy ps k) (lv'.getD k 0 - 1) := sumN_mono (by omega)
  have h6 := Nat.mul_le_mul_left (oth ps lv k) h5
  omega
/-- two lists as long: alike, or there is a first place where they are not -/
theorem first_diff : ∀ (n : Nat) (a b : List Nat), Agree a b n ∨ ∃ k, k < n ∧ Agree a b k ∧ a.getD k 0 ≠ b.getD k 0
  | 0, a, b => .inl fun i hi => absurd hi (Nat.not_lt_zero _)
  | n + 1, a, b => by
    rcases first_diff n a b with h | ⟨k, hk, h1, h2⟩
    · by_cases e : a.getD n 0 = b.getD n 0
      · refine .inl fun i hi => ?_
        by_cases c : i = n
        · rw [c]; exact e
        · exact h i (by omega)
      · exact .inr ⟨n, by omega, h, e⟩
    · exact .inr ⟨k, by omega, h1, h2⟩
theorem agree_eq {a b : List Nat} {n : Nat} (ha : a.length = n) (hb : b.length = n) (h : Agree a b n) : a = b := by
  refine List.ext_getElem? fun i => ?_
  by_cases c : i < n
  · rw [getD_at (by omega), getD_at (by omega), h i c]
  · rw [List.getElem?_eq_none (by omega), List.getElem?_eq_none (by omega)]
theorem nmb_inj (hp : Ps ps) (hv : Lv ps lv) (hv' : Lv ps lv') (e : nmb ps lv ps.length = nmb ps lv' ps.length) : lv = lv' := by
  rcases first_diff ps.length lv lv' with h | ⟨k, hk, h1, h2⟩
  · exact agree_eq hv.1 hv'.1 h
  · rcases Nat.lt_or_gt_of_ne h2 with h3 | h3
    · have := nmb_mono hp hv hk h1 h3
      omega
    · have := nmb_mono hp hv' hk (fun i hi => (h1 i hi).symm) h3
      omega
end
end Ck
namespace Ck
section
variable {ps : List (Option Nat)} {lv : List Nat} {k q p l : Nat}
/-! bounds -/
theorem opn_root (h : ps[q]? = some none) : opn ps k q = true := by unfold opn; rw [h]
theorem opn_kid (h : ps[q]? = some (some p)) : opn ps k q = decide (p < k) := by unfold opn; rw [h]
def opE (ps : List (Option Nat)) (k : Nat) : Nat := adN (fun q => if k ≤ q ∧ opn ps k q = true then dsc ps q + 1 else 0) ps.length
theorem opE_next (hp : Ps ps) (hk : k < ps.length) : opE ps k = opE ps (k + 1) + 1 := by
  have e1 : opE ps k = adN (fun q => (if q = k then dsc ps k + 1 else 0) + (if k < q ∧ opn ps k q = true then dsc ps q + 1 else 0)) ps.length := by
    refine adN_congr fun q hq => ?_
    by_cases c : q = k
    · subst c
      rw [if_pos ⟨Nat.le_refl _, opn_self hp hk⟩, if_pos rfl, if_neg (fun z => Nat.lt_irrefl _ z.1), Nat.add_zero]
    · rw [if_neg c, Nat.zero_add]
      by_cases d : k < q ∧ opn ps k q = true
      · rw [if_pos d, if_pos ⟨Nat.le_of_lt d.1, d.2⟩]
      · rw [if_neg d, if_neg fun z => d ⟨by omega, z.2⟩]
  have e2 : opE ps (k + 1) = adN (fun q => (if k < q ∧ opn ps k q = true then dsc ps q + 1 else 0) + (if kid ps k q = true then dsc ps q + 1 else 0)) ps.length := by
    refine adN_congr fun q hq => ?_
    cases h : ps[q]? with
    | none => exact absurd h (by rw [List.getElem?_eq_getElem hq]; exact fun z => nomatch z)
    | some o =>
      cases o with
      | none =>
        have kf : ¬ kid ps k q = true := fun z => by
          have := kid_iff.mp z
          rw [h] at this; cases this
        rw [opn_root h, opn_root h, if_neg kf, Nat.add_zero]
        by_cases c : k < q
        · rw [if_pos ⟨c, rfl⟩, if_pos ⟨c, rfl⟩]
        · rw [if_neg fun z => c z.1, if_neg fun z => c z.1]
      | some p =>
        have hpq := hp q p h
        have kf : kid ps k q = true ↔ p = k := by
          rw [kid_iff, h]
          exact ⟨fun z => by cases z; rfl, fun z => by rw [z]⟩
        rw [opn_kid h, opn_kid h]
        show (if k + 1 ≤ q ∧ decide (p < k + 1) = true then dsc ps q + 1 else 0) = (if k < q ∧ decide (p < k) = true then dsc ps q + 1 else 0) + _
        by_cases c : p = k
        · rw [if_pos ⟨by omega, decide_eq_true (by omega)⟩, if_neg fun z => by have := of_decide_eq_true z.2; omega, if_pos (kf.mpr c), Nat.zero_add]
        · rw [if_neg fun z => c (kf.mp z), Nat.add_zero]
          by_cases d : k < q ∧ p < k
          · rw [if_pos ⟨by omega, decide_eq_true (by omega)⟩, if_pos ⟨d.1, decide_eq_true d.2⟩]
          · rw [if_neg fun z => d ⟨by omega, by have := of_decide_eq_true z.2; omega⟩, if_neg fun z => d ⟨z.1, of_decide_eq_true z.2⟩]
  rw [e1, e2, adN_add, adN_add, adN_single hk, dsc_eq hp hk]
  omega
theorem opE_all (hp : Ps ps) : ∀ j k, k + j = ps.length → opE ps k = j
  | 0, k, e => adN_zero fun q hq => if_neg fun z => by omega
  | j + 1, k, e => by rw [opE_next hp (by omega), opE_all hp j (k + 1) (by omega)]
theorem dsc_le (hp : Ps ps) (hk : k < ps.length) : dsc ps k < ps.length := by
  have h1 := opE_all hp (ps.length - k) k (by omega)
  have h3 : (if k ≤ k ∧ opn ps k k = true then dsc ps k + 1 else 0) ≤ opE ps k := adN_one (f := fun q => if k ≤ q ∧ opn ps k q = true then dsc ps q + 1 else 0) hk
  rw [if_pos ⟨Nat.le_refl _, opn_self hp hk⟩] at h3
  omega
theorem wy_big (hp : Ps ps) (h60 : ps.length ≤ 60) (hk : k < ps.length) (hl : l ≤ 64) : wy ps k l ≤ 2 ^ 420 := by
  have h1 := wy_bound hp (A := 128) (ps.length - k) k l hk (Nat.le_refl _) (by omega)
  have h2 := dsc_le hp hk
  refine Nat.le_trans h1 ?_
  have e : (128 : Nat) = 2 ^ 7 := by decide
  rw [e, ← Nat.pow_mul]
  exact Nat.pow_le_pow_right (by decide) (by omega)
theorem tot_big (hp : Ps ps) (h60 : ps.length ≤ 60) : tot ps ≤ 2 ^ 420 := by
  have h1 : tot ps ≤ 128 ^ adN (fun q => if 0 ≤ q ∧ opn ps 0 q = true then dsc ps q + 1 else 0) ps.length := by
    refine prN_pow fun q hq => ?_
    by_cases c : ps[q]? = some none
    · rw [if_pos c, if_pos ⟨Nat.zero_le _, by unfold opn; rw [c]⟩]
      refine Nat.le_trans (wy_bound hp (A := 128) (ps.length - q) q 1 hq (Nat.le_refl _) (by omega)) ?_
      exact Nat.pow_le_pow_right (by decide) (by omega)
    · rw [if_neg c]
      exact Nat.pow_pos (by decide)
  have h2 : adN (fun q => if 0 ≤ q ∧ opn ps 0 q = true then dsc ps q + 1 else 0) ps.length = ps.length := opE_all hp ps.length 0 (by omega)
  rw [h2] at h1
  refine Nat.le_trans h1 ?_
  have e : (128 : Nat) = 2 ^ 7 := by decide
  rw [e, ← Nat.pow_mul]
  exact Nat.pow_le_pow_right (by decide) (by omega)
/-! the list of all plans -/
def stepL (ps : List (Option Nat)) (k : Nat) (lv : List Nat) : List (List Nat) := (List.range (mostLv lv (pa ps k))).map fun m => lv ++ [m + 1]
def plansL (ps : List (Option Nat)) : Nat → List (List Nat)
  | 0 => [[]]
  | k + 1 => (plansL ps k).flatMap (stepL ps k)
def LvUp (ps : List (Option Nat)) (lv : List Nat) : Prop := ∀ (j l : Nat) (o : Option Nat), lv[j]? = some l → ps[j]? = some o → 1 ≤ l ∧ l ≤ mostLv lv o
theorem mostApp {lv : List Nat} {l : Nat} {o : Option Nat} (hq : ∀ m, o = some m → m < lv.length) : mostLv (lv ++ [l]) o = mostLv lv o := by
  cases o with
  | none => rfl
  | some m =>
    show (lv ++ [l]).getD m 0 + 1 = lv.getD m 0 + 1
    rw [List.getD_eq_getElem?_getD, List.getD_eq_getElem?_getD, List.getElem?_append_left (hq m rfl)]
theorem lvUp_snoc (hp : Ps ps) (hv : LvUp ps lv) (hk : lv.length < ps.length) (h1 : 1 ≤ l) (h2 : l ≤ mostLv lv (pa ps lv.length)) : LvUp ps (lv ++ [l]) := fun j m r hm hr => by
  by_cases c : j < lv.length
  · rw [List.getElem?_append_left c] at hm
    rw [mostApp fun x e => Nat.lt_trans (hp j x (by rw [hr, e])) c]
    exact hv j m r hm hr
  · rw [List.getElem?_append_right (by omega)] at hm
    have e : j = lv.length := by
      have := (List.getElem?_eq_some_iff.mp hm).1
      simp at this
      omega
    subst e
    rw [Nat.sub_self] at hm
    cases (Option.some.inj hm)
    rw [pa_of hr] at h2
    rw [mostApp fun x e => hp lv.length x (by rw [hr, e])]
    exact ⟨h1, h2⟩
theorem plans_ok (hp : Ps ps) : ∀ k, k ≤ ps.length → ∀ lv ∈ plansL ps k, lv.length = k ∧ LvUp ps lv
  | 0, _, lv, h => by
    rw [List.mem_singleton.mp h]
    exact ⟨rfl, fun j l o h => by rw [List.getElem?_nil] at h; cases h⟩
  | k + 1, hk, lv, h => by
    obtain ⟨l0, h0, h1⟩ := List.mem_flatMap.mp h
    obtain ⟨hl, hv⟩ := plans_ok hp k (by omega) l0 h0
    obtain ⟨m, hm, rfl⟩ := List.mem_map.mp h1
    rw [List.mem_range] at hm
    refine ⟨by rw [List.length_append, hl]; rfl, lvUp_snoc hp hv (by omega) (by omega) ?_⟩
    rw [hl]; omega
theorem plans_lv (hp : Ps ps) {lv : List Nat} (h : lv ∈ plansL ps ps.length) : Lv ps lv := plans_ok hp _ (Nat.le_refl _) lv h
/-- prefixes of k places, one behind another, from number s on -/
def StL (ps : List (Option Nat)) (k : Nat) : Nat → List (List Nat) → Prop
  | _, [] => True
  | s, lv :: L => nmb ps lv k = s ∧ StL ps k (s + rest ps lv k) L
def sumR (ps : List (Option Nat)) (k : Nat) (L : List (List Nat)) : Nat := (L.map fun lv => rest ps lv k).sum
theorem sumR_app {A B : List (List Nat)} : sumR ps k (A ++ B) = sumR ps k A + sumR ps k B := by unfold sumR; rw [List.map_append, List.sum_append]
theorem stL_app : ∀ {s : Nat} {A B : List (List Nat)}, StL ps k s A → StL ps k (s + sumR ps k A) B → StL ps k s (A ++ B)
  | s, [], B, _, h => h
  | s, lv :: A, B, h, h2 => by
    refine ⟨h.1, stL_app h.2 ?_⟩
    have e : s + sumR ps k (lv :: A) = s + rest ps lv k + sumR ps k A := by
      show s + (rest ps lv k + sumR ps k A) = _
      omega
    rw [← e]; exact h2
theorem agree_snoc (hl : lv.length = k) : Agree (lv ++ [l]) lv k := fun i hi => by
  rw [List.getD_eq_getElem?_getD, List.getD_eq_getElem?_getD, List.getElem?_append_left (by omega)]
theorem getD_snoc (hl : lv.length = k) : (lv ++ [l]).getD k 0 = l := by
  rw [List.getD_eq_getElem?_getD, List.getElem?_append_right (by omega), hl, Nat.sub_self]; rfl
theorem nmb_snoc (hl : lv.length = k) : nmb ps (lv ++ [l]) (k + 1) = nmb ps lv k + oth ps lv k * sumN (wy ps k) (l - 1) := by
  show nmb ps (lv ++ [l]) k + oth ps (lv ++ [l]) k * sumN (wy ps k) ((lv ++ [l]).getD k 0 - 1) = _
  rw [nmb_agree (agree_snoc hl), oth_agree (agree_snoc hl), getD_snoc hl]
theorem rest_snoc (hp : Ps ps) (hl : lv.length = k) (hk : k < ps.length) : rest ps (lv ++ [l]) (k + 1) = oth ps lv k * wy ps k l := by
  rw [rest_next hp hk, oth_agree (agree_snoc hl), getD_snoc hl]
theorem stL_step (hp : Ps ps) (hl : lv.length = k) (hk : k < ps.length) : ∀ b, StL ps (k + 1) (nmb ps lv k) ((List.range b).map fun m => lv ++ [m + 1]) ∧ sumR ps (k + 1) ((List.range b).map fun m => lv ++ [m + 1]) = oth ps lv k * sumN (wy ps k) b
  | 0 => ⟨trivial, rfl⟩
  | b + 1 => by
    obtain ⟨h1, h2⟩ := stL_step hp hl hk b
    have hs : sumR ps (k + 1) [lv ++ [b + 1]] = oth ps lv k * wy ps k (b + 1) := by
      show rest ps (lv ++ [b + 1]) (k + 1) + 0 = _
      rw [rest_snoc hp hl hk]; rfl
    rw [List.range_succ, List.map_append]
    refine ⟨stL_app h1 ⟨?_, trivial⟩, ?_⟩
    · rw [h2, nmb_snoc hl]; rfl
    · rw [sumR_app, h2]
      show _ + sumR ps (k + 1) [lv ++ [b + 1]] = oth ps lv k * (sumN (wy ps k) b + wy ps k (b + 1))
      rw [hs, Nat.mul_add]
theorem stL_flat (hp : Ps ps) (hk : k < ps.length) : ∀ {s : Nat} {L : List (List Nat)}, (∀ lv ∈ L, lv.length = k) → StL ps k s L → StL ps (k + 1) s (L.flatMap (stepL ps k)) ∧ sumR ps (k + 1) (L.flatMap (stepL ps k)) = sumR ps k L
  | s, [], _, _ => ⟨trivial, rfl⟩
  | s, lv :: L, hL, h => by
    have hl := hL lv List.mem_cons_self
    obtain ⟨h1, h2⟩ := stL_step hp hl hk (mostLv lv (pa ps k))
    obtain ⟨h3, h4⟩ := stL_flat hp hk (fun x hx => hL x (List.mem_cons_of_mem _ hx)) h.2
    have e : sumR ps (k + 1) (stepL ps k lv) = rest ps lv k := by
      unfold stepL
      rw [h2, rest_cut hp hk, Nat.mul_comm]; rfl
    rw [List.flatMap_cons]
    refine ⟨stL_app (by rw [← h.1]; exact h1) (by rw [e]; exact h3), ?_⟩
    rw [sumR_app, e, h4]; rfl
theorem plans_st (hp : Ps ps) : ∀ k, k ≤ ps.length → StL ps k 0 (plansL ps k) ∧ sumR ps k (plansL ps k) = tot ps
  | 0, _ => ⟨⟨rfl, trivial⟩, by
    show rest ps [] 0 + 0 = _
    rw [rest_zero]; rfl⟩
  | k + 1, hk => by
    obtain ⟨h1, h2⟩ := plans_st hp k (by omega)
    obtain ⟨h3, h4⟩ := stL_flat hp (by omega) (fun lv h => (plans_ok hp k (by omega) lv h).1) h1
    exact ⟨h3, h4.trans h2⟩
theorem stL_at : ∀ {L : List (List Nat)} {s i : Nat} {lv : List Nat}, StL ps ps.length s L → L[i]? = some lv → nmb ps lv ps.length = s + i
  | [], s, i, lv, _, h => by rw [List.getElem?_nil] at h; cases h
  | a :: L, s, 0, lv, h, e => by
    cases e
    exact h.1
  | a :: L, s, i + 1, lv, h, e => by
    have := stL_at (L := L) h.2 (by rwa [List.getElem?_cons_succ] at e)
    rw [this, rest_full]
    omega
theorem sumR_full : ∀ {L : List (List Nat)}, sumR ps ps.length L = L.length
  | [] => rfl
  | a :: L => by
    show rest ps a ps.length + sumR ps ps.length L = L.length + 1
    rw [rest_full, sumR_full]
    omega
theorem plans_at (hp : Ps ps) {i : Nat} (h : (plansL ps ps.length)[i]? = some lv) : nmb ps lv ps.length = i := by
  have := stL_at (plans_st hp _ (Nat.le_refl _)).1 h
  omega
theorem plans_len (hp : Ps ps) : (plansL ps ps.length).length = tot ps := by
  rw [← sumR_full (ps := ps)]
  exact (plans_st hp _ (Nat.le_refl _)).2
/-! few places, few plans -/
def bell : Nat → Nat → Nat
  | 0, _ => 1
  | j + 1, m => m * bell j m + bell j (m + 1)
theorem sumN_two {f : Nat → Nat} {a b m most : Nat} (h1 : ∀ l, 1 ≤ l → l ≤ m → f l ≤ a) (h2 : f (m + 1) ≤ b) (hm : most ≤ m + 1) : sumN f most ≤ m * a + b := by
  have h3 : sumN f m ≤ m * a := sumN_bound h1
  have h4 : sumN f most ≤ sumN f (m + 1) := sumN_mono hm
  have h5 : sumN f (m + 1) = sumN f m + f (m + 1) := rfl
  omega
theorem rest_sum (hp : Ps ps) (hl : lv.length = k) (hk : k < ps.length) : rest ps lv k = sumN (fun l => rest ps (lv ++ [l]) (k + 1)) (mostLv lv (pa ps k)) := by
  rw [rest_cut hp hk, Nat.mul_comm]
  unfold fac
  rw [← sumN_mul]
  exact sumN_congr fun m _ _ => (rest_snoc hp hl hk).symm
theorem rest_bell (hp : Ps ps) : ∀ (j : Nat) (lv : List Nat) (m : Nat), lv.length + j = ps.length → (∀ i, lv.getD i 0 ≤ m) → rest ps lv lv.length ≤ bell j m
  | 0, lv, m, hl, _ => by
    have e : lv.length = ps.length := by omega
    rw [e, rest_full]
    exact Nat.le_refl _
  | j + 1, lv, m, hl, hm => by
    rw [rest_sum hp rfl (by omega)]
    have hg : ∀ l M, l ≤ M → m ≤ M → ∀ i, (lv ++ [l]).getD i 0 ≤ M := fun l M h1 h2 i => by
      by_cases c : i < lv.length
      · rw [List.getD_eq_getElem?_getD, List.getElem?_append_left c, ← List.getD_eq_getElem?_getD]
        exact Nat.le_trans (hm i) h2
      · by_cases d : i = lv.length
        · rw [getD_snoc d.symm]; exact h1
        · rw [List.getD_eq_getElem?_getD, List.getElem?_eq_none (by rw [List.length_append]; show lv.length + 1 ≤ i; omega)]
          exact Nat.zero_le _
    have hl2 : ∀ l, (lv ++ [l]).length = lv.length + 1 := fun l => by rw [List.length_append]; rfl
    refine sumN_two (fun l h1 h2 => ?_) ?_ ?_
    · have := rest_bell hp j (lv ++ [l]) m (by rw [hl2]; omega) (hg l m h2 (Nat.le_refl _))
      rw [hl2] at this
      exact this
    · have := rest_bell hp j (lv ++ [m + 1]) (m + 1) (by rw [hl2]; omega) (hg _ _ (Nat.le_refl _) (by omega))
      rw [hl2] at this
      exact this
    · cases pa ps lv.length with
      | none => show 1 ≤ m + 1; omega
      | some p => exact Nat.add_le_add_right (hm p) 1
theorem bell7 : ∀ n, n < 8 → bell n 0 ≤ 877 := by decide
theorem tot_few (hp : Ps ps) (h7 : ps.length ≤ 7) : tot ps ≤ 877 := by
  have h1 := rest_bell hp ps.length [] 0 (by show 0 + _ = _; omega) fun i => by rw [List.getD_eq_getElem?_getD, List.getElem?_nil]; exact Nat.le_refl _
  have h2 := bell7 ps.length (by omega)
  rw [← rest_zero (lv := [])]
  exact Nat.le_trans h1 h2
theorem plans_few (hp : Ps ps) (h7 : ps.length ≤ 7) : ∀ k, k ≤ ps.length → (plansL ps k).length ≤ 877 := fun k hk => by
  have h1 := (plans_st hp k hk).2
  have h2 := tot_few hp h7
  have h3 : ∀ L : List (List Nat), L.length ≤ sumR ps k L := fun L => by
    induction L with
    | nil => exact Nat.le_refl _
    | cons a L ih =>
      show L.length + 1 ≤ rest ps a k + sumR ps k L
      have := rest_pos (ps := ps) (lv := a) (k := k)
      omega
  have := h3 (plansL ps k)
  omega
/-! the first plan, the last one -/
theorem ones_ok (hp : Ps ps) : Lv ps (List.replicate ps.length 1) := by
  refine ⟨List.length_replicate, fun i l o hl ho => ?_⟩
  have e : l = 1 := List.eq_of_mem_replicate (List.mem_of_getElem? hl)
  subst e
  refine ⟨Nat.le_refl _, ?_⟩
  cases o with
  | none => exact Nat.le_refl _
  | some p => exact Nat.le_add_left _ _
theorem ones_nmb : ∀ k, k ≤ ps.length → nmb ps (List.replicate ps.length 1) k = 0
  | 0, _ => rfl
  | k + 1, hk => by
    have e : (List.replicate ps.length 1).getD k 0 = 1 := by
      rw [List.getD_eq_getElem?_getD, List.getElem?_replicate, if_pos (by omega)]; rfl
    show nmb ps _ k + oth ps _ k * sumN (wy ps k) (_ - 1) = 0
    rw [e, ones_nmb k (by omega)]; rfl
theorem last_nmb (hp : Ps ps) (hv : ∀ i, i < ps.length → lv.getD i 0 = mostLv lv (pa ps i)) : ∀ k, k ≤ ps.length → nmb ps lv k + rest ps lv k = tot ps
  | 0, _ => by
    rw [rest_zero]
    show 0 + _ = _
    omega
  | k + 1, hk => by
    have h := hv k (by omega)
    have h1 : 1 ≤ lv.getD k 0 := by rw [h]; exact most_pos
    rw [nmb_rest hp (by omega) h1, ← last_nmb hp hv k (by omega), rest_cut hp (by omega), Nat.mul_comm (fac ps lv k), h]
    rfl
theorem last_is (hp : Ps ps) (hv : ∀ i, i < ps.length → lv.getD i 0 = mostLv lv (pa ps i)) : nmb ps lv ps.length = tot ps - 1 := by
  have := last_nmb hp hv ps.length (Nat.le_refl _)
  rw [rest_full] at this
  omega
/-! what is found for a number -/
theorem oth_div (hp : Ps ps) (hk : k < ps.length) : rest ps lv k / sumN (wy ps k) (mostLv lv (pa ps k)) = oth ps lv k := by
  rw [rest_cut hp hk]
  exact Nat.mul_div_cancel_left _ fac_pos
end
/-! rows -/
def fct : Nat → Nat
  | 0 => 1
  | n + 1 => (n + 1) * fct n
theorem fct_pos : ∀ n, 1 ≤ fct n
  | 0 => Nat.le_refl _
  | n + 1 => Nat.mul_pos (Nat.succ_pos _) (fct_pos n)
def bal : Nat → Nat → Nat
  | 0, _ => 1
  | k + 1, l => sumN (bal k) (l + 1)
theorem bal_is : ∀ k l, fct k * fct (k + l + 1) * bal k l = (l + 1) * fct (2 * k + l)
  | 0, l => by
    show 1 * fct (0 + l + 1) * 1 = (l + 1) * fct (2 * 0 + l)
    have e1 : 0 + l + 1 = l + 1 := by omega
    have e2 : 2 * 0 + l = l := by omega
    rw [e1, e2, Nat.one_mul, Nat.mul_one]; rfl
  | k + 1, 0 => by
    have ih := bal_is k 1
    have e : bal (k + 1) 0 = bal k 1 := by show 0 + bal k 1 = _; omega
    have e1 : k + 1 + 0 + 1 = k + 1 + 1 := by omega
    have e2 : 2 * (k + 1) + 0 = 2 * k + 1 + 1 := by omega
    rw [e, e1, e2]
    have f1 : fct (k + 1) = (k + 1) * fct k := rfl
    have f2 : fct (2 * k + 1 + 1) = (2 * k + 1 + 1) * fct (2 * k + 1) := rfl
    generalize fct (k + 1 + 1) = A at *
    generalize fct (2 * k + 1) = B at *
    generalize bal k 1 = C at *
    rw [f1, f2]
    grind
  | k + 1, l + 1 => by
    have h1 := bal_is (k + 1) l
    have h2 := bal_is k (l + 2)
    have e : bal (k + 1) (l + 1) = bal (k + 1) l + bal k (l + 2) := rfl
    have e1 : k + 1 + (l + 1) + 1 = (k + l + 2) + 1 := by omega
    have e2 : k + 1 + l + 1 = k + l + 2 := by omega
    have e3 : k + (l + 2) + 1 = (k + l + 2) + 1 := by omega
    have e4 : 2 * (k + 1) + (l + 1) = (2 * k + l + 2) + 1 := by omega
    have e5 : 2 * (k + 1) + l = 2 * k + l + 2 := by omega
    have e6 : 2 * k + (l + 2) = 2 * k + l + 2 := by omega
    rw [e2, e5] at h1
    rw [e3, e6] at h2
    rw [e, e1, e4]
    have f1 : fct (k + 1) = (k + 1) * fct k := rfl
    have f2 : fct ((k + l + 2) + 1) = (k + l + 2 + 1) * fct (k + l + 2) := rfl
    have f3 : fct ((2 * k + l + 2) + 1) = (2 * k + l + 2 + 1) * fct (2 * k + l + 2) := rfl
    rw [f2] at h2
    rw [f3, f2]
    rw [f1] at h1 ⊢
    generalize fct (k + l + 2) = A at *
    generalize fct (2 * k + l + 2) = B at *
    generalize bal (k + 1) l = C at *
    generalize bal k (l + 2) = D at *
    generalize fct k = F at *
    grind
def brk : Nat → Nat
  | 0 => 1
  | m + 1 => brk m * 2 * (2 * m + 1) / (m + 2)
theorem brk_is : ∀ m, fct m * fct (m + 1) * brk m = fct (2 * m)
  | 0 => rfl
  | m + 1 => by
    have ih := brk_is m
    have e2 : 2 * (m + 1) = 2 * m + 1 + 1 := by omega
    rw [e2]
    have f1 : fct (m + 1) = (m + 1) * fct m := rfl
    have f2 : fct (m + 1 + 1) = (m + 1 + 1) * ((m + 1) * fct m) := rfl
    have f3 : fct (2 * m + 1 + 1) = (2 * m + 1 + 1) * ((2 * m + 1) * fct (2 * m)) := rfl
    -- the next one, times m + 2
    have hp : 1 ≤ fct m := fct_pos m
    have hd : (m + 2) ∣ brk m * 2 * (2 * m + 1) := by
      -- C(m+1) is whole: by the ballot numbers
      have hb := bal_is m 1
      have e3 : m + 1 + 1 = m + 2 := by omega
      refine ⟨bal m 1, ?_⟩
      have f4 : fct (m + 1 + 1) = (m + 2) * ((m + 1) * fct m) := rfl
      have f5 : fct (2 * m + 1) = (2 * m + 1) * fct (2 * m) := rfl
      rw [f4, f5] at hb
      rw [f1] at ih
      refine Nat.eq_of_mul_eq_mul_left (n := fct m * ((m + 1) * fct m)) (Nat.mul_pos hp (Nat.mul_pos (Nat.succ_pos _) hp)) ?_
      generalize fct m = F at *
      generalize fct (2 * m) = B at *
      generalize bal m 1 = D at *
      generalize brk m = C at *
      grind
    have hq : (m + 2) * brk (m + 1) = brk m * 2 * (2 * m + 1) := Nat.mul_div_cancel' hd
    rw [f2, f3, f1]
    rw [f1] at ih
    generalize fct m = F at *
    generalize fct (2 * m) = B at *
    generalize brk m = C at *
    generalize brk (m + 1) = E at *
    grind
theorem brk_bal (n : Nat) : brk (n + 1) = bal n 1 := by
  have h1 := brk_is (n + 1)
  have h2 := bal_is n 1
  have e2 : 2 * (n + 1) = 2 * n + 1 + 1 := by omega
  rw [e2] at h1
  have f1 : fct (n + 1) = (n + 1) * fct n := rfl
  have f3 : fct (2 * n + 1 + 1) = (2 * n + 1 + 1) * fct (2 * n + 1) := rfl
  rw [f1, f3] at h1
  have p1 := fct_pos n
  have p2 := fct_pos (n + 1 + 1)
  refine Nat.eq_of_mul_eq_mul_left (n := (n + 1) * fct n * fct (n + 1 + 1)) (Nat.mul_pos (Nat.mul_pos (Nat.succ_pos _) p1) p2) ?_
  rw [h1]
  generalize fct n = F at *
  generalize fct (n + 1 + 1) = G at *
  generalize fct (2 * n + 1) = B at *
  grind
def rowP (n : Nat) : List (Option Nat) := none :: (List.range (n - 1)).map some
theorem rowP_len {n : Nat} (h : 1 ≤ n) : (rowP n).length = n := by
  unfold rowP
  rw [List.length_cons, List.length_map, List.length_range]
  omega
theorem rowP_at {n q : Nat} (h : q + 1 < n) : (rowP n)[q + 1]? = some (some q) := by
  unfold rowP
  rw [List.getElem?_cons_succ, List.getElem?_map, List.getElem?_range (by omega)]; rfl
theorem rowP_ps {n : Nat} : Ps (rowP n) := fun i p h => by
  cases i with
  | zero => cases h
  | succ i =>
    unfold rowP at h
    rw [List.getElem?_cons_succ, List.getElem?_map] at h
    obtain ⟨x, hx, e⟩ := Option.map_eq_some_iff.mp h
    have := (List.getElem?_eq_some_iff.mp hx)
    obtain ⟨h1, h2⟩ := this
    rw [List.getElem_range] at h2
    cases e
    omega
theorem rowP_wy {n : Nat} (hn : 1 ≤ n) : ∀ j p l, p + j + 1 = n → wy (rowP n) p l = bal j l
  | 0, p, l, e => by
    rw [wy_eq rowP_ps (by rw [rowP_len hn]; omega)]
    refine prN_one fun c hc => if_neg fun z => ?_
    rw [rowP_len hn] at hc
    have h1 := kid_iff.mp z
    cases c with
    | zero => cases h1
    | succ c =>
      rw [rowP_at (by omega)] at h1
      cases h1
      omega
  | j + 1, p, l, e => by
    rw [wy_eq rowP_ps (by rw [rowP_len hn]; omega)]
    have e1 : prN (fun c => if kid (rowP n) p c = true then sumN (wy (rowP n) c) (l + 1) else 1) (rowP n).length = prN (fun c => if c = p + 1 then sumN (wy (rowP n) (p + 1)) (l + 1) else 1) (rowP n).length := by
      refine prN_congr fun c hc => ?_
      rw [rowP_len hn] at hc
      have kf : kid (rowP n) p c = true ↔ c = p + 1 := by
        rw [kid_iff]
        cases c with
        | zero => exact ⟨fun z => (by cases z), fun z => (by omega)⟩
        | succ c =>
          rw [rowP_at (by omega)]
          exact ⟨fun z => (by cases z; rfl), fun z => (by rw [show c = p from by omega])⟩
      by_cases c1 : c = p + 1
      · rw [if_pos (kf.mpr c1), if_pos c1, c1]
      · rw [if_neg fun z => c1 (kf.mp z), if_neg c1]
    rw [e1, prN_single (by rw [rowP_len hn]; omega)]
    show _ = sumN (bal j) (l + 1)
    exact sumN_congr fun m _ _ => rowP_wy hn j (p + 1) m (by omega)
theorem rowP_tot {n : Nat} (hn : 1 ≤ n) : tot (rowP n) = brk n := by
  have e1 : tot (rowP n) = prN (fun q => if q = 0 then wy (rowP n) 0 1 else 1) (rowP n).length := by
    refine prN_congr fun q hq => ?_
    rw [rowP_len hn] at hq
    cases q with
    | zero => exact (if_pos (show (rowP n)[0]? = some none from rfl)).trans (if_pos rfl).symm
    | succ q => exact (if_neg (by rw [rowP_at hq]; exact fun z => nomatch z)).trans (if_neg (by omega)).symm
  rw [e1, prN_single (by rw [rowP_len hn]; omega), rowP_wy hn (n - 1) 0 1 (by omega), ← brk_bal]
  rw [show n - 1 + 1 = n from by omega]
theorem brk_small : ∀ m, m ≤ 60 → brk m < 2 ^ 200 := by decide
end Ck
namespace Ck
/-! reaches of a row within budgets T (touches), R (reads) -/
def may (T R : List Nat) (l x y : Nat) : Bool := (decide (T.length ≤ l) || decide (x ≤ T.getD l 0)) && (decide (l = 0) || decide (y ≤ R.getD (l - 1) 0))
def rch (T R : List Nat) : Nat → Nat → Nat → Nat → Int
  | 0, l, _, _ => (l : Int) - 1
  | f + 1, l, x, y => if may T R l x y = true then
      (if l = T.length then (l : Int)
       else if rch T R f l (x + 1) y < (l : Int) then (l : Int)
       else if rch T R f l (x + 1) y < (T.length : Int) then max (rch T R f l (x + 1) y) (rch T R f ((rch T R f l (x + 1) y).toNat + 1) x (y + 1))
       else rch T R f l (x + 1) y)
    else (l : Int) - 1
def rv (T R : List Nat) (l x y : Nat) : Int := rch T R (123 - x - y) l x y
/-- budgets of so many places, none above 60 -/
structure BuOk (n : Nat) (T R : List Nat) : Prop where
  t : T.length = n
  r : R.length = n
  n1 : 1 ≤ n
  n60 : n ≤ 60
  tb : ∀ i, T.getD i 0 ≤ 60
  rb : ∀ i, R.getD i 0 ≤ 60
/-- keys that come -/
structure KOk (n l x y : Nat) : Prop where
  kl : l ≤ n
  kx : x ≤ 61
  ky : y ≤ 61
  kz : l = 0 → y ≤ 60
section
variable {T R : List Nat} {n l x y : Nat}
theorem may_x (B : BuOk n T R) (h : may T R l x y = true) (hl : l ≠ n) (k : KOk n l x y) : x ≤ 60 := by
  unfold may at h
  rw [Bool.and_eq_true, Bool.or_eq_true, decide_eq_true_iff, decide_eq_true_iff] at h
  have := B.tb l
  have := B.t
  have := k.kl
  omega
theorem may_y (B : BuOk n T R) (h : may T R l x y = true) (k : KOk n l x y) : y ≤ 60 := by
  unfold may at h
  rw [Bool.and_eq_true, Bool.or_eq_true, Bool.or_eq_true, decide_eq_true_iff, decide_eq_true_iff, decide_eq_true_iff, decide_eq_true_iff] at h
  have := B.rb (l - 1)
  rcases h.2 with h | h
  · exact k.kz h
  · omega
theorem may_mono {x' y' : Nat} (h : may T R l x y = true) (hx : x' ≤ x) (hy : y' ≤ y) : may T R l x' y' = true := by
  unfold may at h ⊢
  rw [Bool.and_eq_true, Bool.or_eq_true, Bool.or_eq_true, decide_eq_true_iff, decide_eq_true_iff, decide_eq_true_iff, decide_eq_true_iff] at h ⊢
  omega
theorem rv_no (h : may T R l x y = false) : rv T R l x y = (l : Int) - 1 := by
  unfold rv
  cases 123 - x - y with
  | zero => rfl
  | succ f => show (if may T R l x y = true then _ else _) = _; rw [if_neg (by rw [h]; decide)]
theorem rv_step (k : KOk n l x y) (h : may T R l x y = true) : rv T R l x y = (if l = T.length then (l : Int)
       else if rv T R l (x + 1) y < (l : Int) then (l : Int)
       else if rv T R l (x + 1) y < (T.length : Int) then max (rv T R l (x + 1) y) (rv T R ((rv T R l (x + 1) y).toNat + 1) x (y + 1))
       else rv T R l (x + 1) y) := by
  have h1 := k.kx
  have h2 := k.ky
  have e : 123 - x - y = (122 - x - y) + 1 := by omega
  have e1 : 123 - (x + 1) - y = 122 - x - y := by omega
  have e2 : 123 - x - (y + 1) = 122 - x - y := by omega
  unfold rv
  rw [e, e1, e2]
  show (if may T R l x y = true then _ else _) = _
  rw [if_pos h]
theorem rch_ge : ∀ (f l x y : Nat), (l : Int) - 1 ≤ rch T R f l x y
  | 0, l, x, y => Int.le_refl _
  | f + 1, l, x, y => by
    show _ ≤ (if may T R l x y = true then _ else _)
    split
    · split
      · omega
      · split
        · omega
        · rename_i h
          split
          · have := Int.le_max_left (rch T R f l (x + 1) y) (rch T R f ((rch T R f l (x + 1) y).toNat + 1) x (y + 1))
            omega
          · omega
    · exact Int.le_refl _
theorem rch_le : ∀ (f l x y : Nat), l ≤ T.length → rch T R f l x y ≤ (T.length : Int)
  | 0, l, x, y, h => by show (l : Int) - 1 ≤ _; omega
  | f + 1, l, x, y, h => by
    show (if may T R l x y = true then _ else _) ≤ _
    have i1 := rch_le f l (x + 1) y h
    split
    · split
      · omega
      · split
        · omega
        · rename_i h1 h2 h3
          split
          · rename_i h4
            have i2 := rch_le f ((rch T R f l (x + 1) y).toNat + 1) x (y + 1) (by omega)
            exact Int.max_le.mpr ⟨i1, i2⟩
          · exact i1
    · omega
theorem rv_ge : (l : Int) - 1 ≤ rv T R l x y := rch_ge _ _ _ _
theorem rv_le (h : l ≤ T.length) : rv T R l x y ≤ (T.length : Int) := rch_le _ _ _ _ h
end
/-! trees of cuts -/
inductive Tr where
  | leaf
  | node (a b : Tr)
def Tr.size : Tr → Nat
  | .leaf => 0
  | .node a b => a.size + 1 + b.size
/-- levels of the places, and their touches -/
def lvT : Tr → List Nat
  | .leaf => []
  | .node a b => lvT a ++ 1 :: (lvT b).map (· + 1)
def tcT : Tr → List Nat
  | .leaf => []
  | .node a b => (tcT a).map (· + 1) ++ 1 :: tcT b
/-- each gap may end where it lies -/
def OkT (T R : List Nat) : Tr → Nat → Nat → Nat → Prop
  | .leaf, l, x, y => may T R l x y = true
  | .node a b, l, x, y => OkT T R a l (x + 1) y ∧ OkT T R b (l + a.size + 1) x (y + 1)
theorem lvT_len : ∀ t, (lvT t).length = t.size
  | .leaf => rfl
  | .node a b => by
    show (lvT a ++ 1 :: (lvT b).map (· + 1)).length = a.size + 1 + b.size
    rw [List.length_append, List.length_cons, List.length_map, lvT_len a, lvT_len b]; omega
theorem tcT_len : ∀ t, (tcT t).length = t.size
  | .leaf => rfl
  | .node a b => by
    show ((tcT a).map (· + 1) ++ 1 :: tcT b).length = a.size + 1 + b.size
    rw [List.length_append, List.length_cons, List.length_map, tcT_len a, tcT_len b]; omega
section
variable {T R : List Nat} {n : Nat}
theorem okT_mono : ∀ {t : Tr} {l x y x' y' : Nat}, OkT T R t l x y → x' ≤ x → y' ≤ y → OkT T R t l x' y'
  | .leaf, _, _, _, _, _, h, hx, hy => may_mono h hx hy
  | .node a b, _, _, _, _, _, h, hx, hy => ⟨okT_mono h.1 (by omega) hy, okT_mono h.2 hx (by omega)⟩
/-- gaps left out at the begin: no way is longer -/
theorem okT_cut : ∀ {t : Tr} {l l' x y : Nat}, OkT T R t l x y → l ≤ l' → l' ≤ l + t.size → ∃ t', t'.size + l' = l + t.size ∧ OkT T R t' l' x y
  | .leaf, l, l', x, y, h, h1, h2 => by
    have e : l' = l := by have : Tr.size .leaf = 0 := rfl; omega
    subst e
    exact ⟨.leaf, by show 0 + _ = _ + 0; omega, h⟩
  | .node a b, l, l', x, y, h, h1, h2 => by
    have es : Tr.size (.node a b) = a.size + 1 + b.size := rfl
    rw [es] at h2
    by_cases c : l' ≤ l + a.size
    · obtain ⟨a', e1, k1⟩ := okT_cut h.1 h1 c
      refine ⟨.node a' b, ?_, k1, ?_⟩
      · show a'.size + 1 + b.size + l' = l + (a.size + 1 + b.size)
        omega
      · rw [show l' + a'.size + 1 = l + a.size + 1 from by omega]
        exact h.2
    · obtain ⟨b', e1, k1⟩ := okT_cut h.2 (show l + a.size + 1 ≤ l' by omega) (by omega)
      exact ⟨b', by rw [es]; omega, okT_mono k1 (Nat.le_refl _) (Nat.le_succ _)⟩
theorem okT_first : ∀ {t : Tr} {l x y : Nat}, OkT T R t l x y → may T R l x y = true
  | .leaf, _, _, _, h => h
  | .node a b, l, x, y, h => may_mono (okT_first h.1) (Nat.le_succ _) (Nat.le_refl _)
/-- no cuts go farther -/
theorem rv_far (B : BuOk n T R) : ∀ (m : Nat) {t : Tr} {l x y : Nat}, t.size ≤ m → KOk n l x y → l + t.size ≤ n → OkT T R t l x y → ((l + t.size : Nat) : Int) ≤ rv T R l x y
  | m, .leaf, l, x, y, hm, k, hl, h => by
    have h0 : may T R l x y = true := h
    have e0 : l + Tr.size .leaf = l := rfl
    rw [e0, rv_step k h0]
    split
    · omega
    · split
      · omega
      · rename_i h1 h2
        split
        · have := Int.le_max_left (rv T R l (x + 1) y) (rv T R ((rv T R l (x + 1) y).toNat + 1) x (y + 1))
          omega
        · omega
  | 0, .node a b, l, x, y, hm, k, hl, h => by
    have es : Tr.size (.node a b) = a.size + 1 + b.size := rfl
    omega
  | m + 1, .node a b, l, x, y, hm, k, hl, h => by
    have es : Tr.size (.node a b) = a.size + 1 + b.size := rfl
    rw [es] at hl hm ⊢
    have h0 := okT_first h
    have hx := may_x B h0 (by omega) k
    have hy := may_y B h0 k
    have k1 : KOk n l (x + 1) y := ⟨k.kl, by omega, k.ky, k.kz⟩
    have i1 := rv_far B m (t := a) (by omega) k1 (by omega) h.1
    have bt := B.t
    have top := rv_le (T := T) (R := R) (l := l) (x := x + 1) (y := y) (by omega)
    rw [rv_step k h0, if_neg (by omega), if_neg (by omega)]
    split
    · rename_i h3
      obtain ⟨q, hq⟩ := Int.eq_ofNat_of_zero_le (show 0 ≤ rv T R l (x + 1) y by omega)
      rw [hq] at i1 h3 ⊢
      rw [Int.toNat_natCast]
      have mx1 := Int.le_max_left ((q : Nat) : Int) (rv T R (q + 1) x (y + 1))
      have mx2 := Int.le_max_right ((q : Nat) : Int) (rv T R (q + 1) x (y + 1))
      by_cases c : l + (a.size + 1 + b.size) ≤ q
      · omega
      · obtain ⟨b', e1, kb⟩ := okT_cut h.2 (show l + a.size + 1 ≤ q + 1 by omega) (by omega)
        have i2 := rv_far B m (t := b') (by omega) ⟨by omega, k.kx, by omega, fun z => by omega⟩ (by omega) kb
        omega
    · rename_i h3
      omega
end
/-! a tree from reaches -/
def trR (T R : List Nat) : Nat → Nat → Nat → Nat → Nat → Tr
  | 0, _, _, _, _ => .leaf
  | f + 1, l, x, y, e => if l = e then .leaf else if (e : Int) ≤ rv T R l (x + 1) y then trR T R f l (x + 1) y e
      else .node (trR T R f l (x + 1) y (rv T R l (x + 1) y).toNat) (trR T R f ((rv T R l (x + 1) y).toNat + 1) x (y + 1) e)
section
variable {T R : List Nat} {n : Nat}
/-- a part that can go so far -/
structure PartOk (T R : List Nat) (n l x y e : Nat) : Prop where
  k : KOk n l x y
  le : l ≤ e
  en : e ≤ n
  far : (e : Int) ≤ rv T R l x y
theorem part_may {l x y e : Nat} (p : PartOk T R n l x y e) : may T R l x y = true := by
  cases h : may T R l x y with
  | true => rfl
  | false =>
    have h1 := rv_no h
    have h2 := p.far
    have h3 := p.le
    omega
/-- what stands left of the least one, and right of it -/
theorem part_next (B : BuOk n T R) {l x y e : Nat} (p : PartOk T R n l x y e) (ne : l ≠ e) : KOk n l (x + 1) y ∧ (l : Int) ≤ rv T R l (x + 1) y ∧
    ((e : Int) ≤ rv T R l (x + 1) y → PartOk T R n l (x + 1) y e) ∧
    (rv T R l (x + 1) y < (e : Int) → PartOk T R n l (x + 1) y (rv T R l (x + 1) y).toNat ∧ PartOk T R n ((rv T R l (x + 1) y).toNat + 1) x (y + 1) e) := by
  have h0 := part_may p
  have k := p.k
  have p1 := p.le
  have p2 := p.en
  have p3 := p.far
  have hx := may_x B h0 (by omega) k
  have hy := may_y B h0 k
  have bt := B.t
  have k1 : KOk n l (x + 1) y := ⟨k.kl, by omega, k.ky, k.kz⟩
  rw [rv_step k h0, if_neg (by omega)] at p3
  have hl : (l : Int) ≤ rv T R l (x + 1) y := by
    by_cases c : rv T R l (x + 1) y < (l : Int)
    · rw [if_pos c] at p3; omega
    · omega
  rw [if_neg (by omega)] at p3
  refine ⟨k1, hl, fun h => ⟨k1, p1, p2, h⟩, fun h => ?_⟩
  rw [if_pos (by omega)] at p3
  obtain ⟨q, hq⟩ := Int.eq_ofNat_of_zero_le (show 0 ≤ rv T R l (x + 1) y by omega)
  rw [hq] at hl h p3 ⊢
  rw [Int.toNat_natCast] at p3 ⊢
  refine ⟨⟨k1, by omega, by omega, by rw [hq]; exact Int.le_refl _⟩, ⟨⟨by omega, k.kx, by omega, fun z => by omega⟩, by omega, p2, ?_⟩⟩
  rcases Int.le_total ((q : Nat) : Int) (rv T R (q + 1) x (y + 1)) with c | c
  · rw [Int.max_eq_right c] at p3; exact p3
  · rw [Int.max_eq_left c] at p3; omega
/-- how many steps are left -/
def fuelR (l x e : Nat) : Nat := (e - l) * 64 + (63 - x)
theorem trR_ok (B : BuOk n T R) : ∀ (f : Nat) {l x y e : Nat}, PartOk T R n l x y e → (e - l) * 100 + (62 - x) < f → (trR T R f l x y e).size + l = e ∧ OkT T R (trR T R f l x y e) l x y
  | 0, _, _, _, _, _, h => absurd h (Nat.not_lt_zero _)
  | f + 1, l, x, y, e, p, hf => by
    show (if l = e then Tr.leaf else _).size + l = e ∧ OkT T R (if l = e then Tr.leaf else _) l x y
    by_cases c : l = e
    · rw [if_pos c]
      exact ⟨by show 0 + l = e; omega, part_may p⟩
    · rw [if_neg c]
      obtain ⟨k1, hl, n1, n2⟩ := part_next B p c
      have := p.le
      have := k1.kx
      by_cases d : (e : Int) ≤ rv T R l (x + 1) y
      · rw [if_pos d]
        obtain ⟨i1, i2⟩ := trR_ok B f (n1 d) (by omega)
        exact ⟨i1, okT_mono i2 (Nat.le_succ _) (Nat.le_refl _)⟩
      · rw [if_neg d]
        obtain ⟨q1, q2⟩ := n2 (by omega)
        obtain ⟨q, hq⟩ := Int.eq_ofNat_of_zero_le (show 0 ≤ rv T R l (x + 1) y by omega)
        have p1 := q1.le
        have p2 := q2.le
        rw [hq, Int.toNat_natCast] at q1 q2 p1 p2 ⊢
        obtain ⟨a1, a2⟩ := trR_ok B f q1 (by omega)
        obtain ⟨b1, b2⟩ := trR_ok B f q2 (by omega)
        refine ⟨?_, a2, ?_⟩
        · show (_ + 1 + _) + l = e
          omega
        · rw [show l + (trR T R f l (x + 1) y q).size + 1 = q + 1 from by omega]
          exact b2
end
/-! the order of a tree's cuts: a place, then what is right of it, then what is left -/
def ordT : Tr → Nat → List Nat
  | .leaf, _ => []
  | .node a b, l => (l + a.size) :: (ordT b (l + a.size + 1) ++ ordT a l)
theorem ordT_mem : ∀ {t : Tr} {l z : Nat}, z ∈ ordT t l ↔ l ≤ z ∧ z < l + t.size
  | .leaf, l, z => ⟨fun h => (by cases h), fun h => by have : Tr.size .leaf = 0 := rfl; omega⟩
  | .node a b, l, z => by
    show z ∈ (l + a.size) :: (ordT b (l + a.size + 1) ++ ordT a l) ↔ _
    have es : Tr.size (.node a b) = a.size + 1 + b.size := rfl
    rw [List.mem_cons, List.mem_append, ordT_mem, ordT_mem, es]
    omega
theorem ordT_nd : ∀ {t : Tr} {l : Nat}, (ordT t l).Nodup
  | .leaf, l => List.nodup_nil
  | .node a b, l => by
    show ((l + a.size) :: (ordT b (l + a.size + 1) ++ ordT a l)).Nodup
    refine List.nodup_cons.mpr ⟨fun h => ?_, List.nodup_append.mpr ⟨ordT_nd, ordT_nd, fun x hx y hy e => ?_⟩⟩
    · rcases List.mem_append.mp h with h | h
      · have := ordT_mem.mp h; omega
      · have := ordT_mem.mp h; omega
    · have h1 := ordT_mem.mp hx
      have h2 := ordT_mem.mp hy
      omega
theorem ordT_len : ∀ {t : Tr} {l : Nat}, (ordT t l).length = t.size
  | .leaf, l => rfl
  | .node a b, l => by
    show ((l + a.size) :: (ordT b (l + a.size + 1) ++ ordT a l)).length = a.size + 1 + b.size
    rw [List.length_cons, List.length_append, ordT_len, ordT_len]; omega
/-- each part's first cut is taken ahead of all others in it -/
def HeapT (rk : Nat → Nat) : Tr → Nat → Prop
  | .leaf, _ => True
  | .node a b, l => (∀ z, l ≤ z → z < l + (a.size + 1 + b.size) → z ≠ l + a.size → rk (l + a.size) < rk z) ∧ HeapT rk a l ∧ HeapT rk b (l + a.size + 1)
theorem heap_congr {rk rk' : Nat → Nat} : ∀ {t : Tr} {l : Nat}, (∀ z w, l ≤ z → z < l + t.size → l ≤ w → w < l + t.size → rk z < rk w → rk' z < rk' w) → HeapT rk t l → HeapT rk' t l
  | .leaf, _, _, _ => trivial
  | .node a b, l, h, k => by
    have es : Tr.size (.node a b) = a.size + 1 + b.size := rfl
    rw [es] at h
    exact ⟨fun z h1 h2 h3 => h _ _ (by omega) (by omega) h1 h2 (k.1 z h1 h2 h3), heap_congr (fun z w a1 a2 a3 a4 => h z w a1 (by omega) a3 (by omega)) k.2.1, heap_congr (fun z w a1 a2 a3 a4 => h z w (by omega) (by omega) (by omega) (by omega)) k.2.2⟩
theorem idx_app {A B : List Nat} {z : Nat} : (z ∈ A → (A ++ B).idxOf z = A.idxOf z) ∧ (z ∉ A → (A ++ B).idxOf z = A.length + B.idxOf z) := by
  rw [List.idxOf_append]
  exact ⟨fun h => if_pos h, fun h => by rw [if_neg h]; omega⟩
theorem heap_ord : ∀ {t : Tr} {l : Nat}, HeapT (fun z => (ordT t l).idxOf z) t l
  | .leaf, _ => trivial
  | .node a b, l => by
    have inB : ∀ z, l + a.size + 1 ≤ z → z < l + a.size + 1 + b.size → (ordT (.node a b) l).idxOf z = (ordT b (l + a.size + 1)).idxOf z + 1 := fun z h1 h2 => by
      show ((l + a.size) :: (ordT b (l + a.size + 1) ++ ordT a l)).idxOf z = _
      rw [idx_ne (by omega), idx_app.1 (ordT_mem.mpr ⟨h1, h2⟩)]
    have inA : ∀ z, l ≤ z → z < l + a.size → (ordT (.node a b) l).idxOf z = b.size + (ordT a l).idxOf z + 1 := fun z h1 h2 => by
      show ((l + a.size) :: (ordT b (l + a.size + 1) ++ ordT a l)).idxOf z = _
      rw [idx_ne (by omega), idx_app.2 (fun m => by have := ordT_mem.mp m; omega), ordT_len]
    refine ⟨fun z h1 h2 h3 => ?_, ?_, ?_⟩
    · show (ordT (.node a b) l).idxOf (l + a.size) < (ordT (.node a b) l).idxOf z
      have e0 : (ordT (.node a b) l).idxOf (l + a.size) = 0 := by
        show ((l + a.size) :: _).idxOf (l + a.size) = 0
        rw [List.idxOf_cons_self]
      rw [e0]
      by_cases c : z < l + a.size
      · rw [inA z h1 c]; omega
      · rw [inB z (by omega) (by omega)]; omega
    · exact heap_congr (fun z w a1 a2 a3 a4 h => by
        show (ordT (.node a b) l).idxOf z < (ordT (.node a b) l).idxOf w
        rw [inA z a1 a2, inA w a3 a4]; omega) (heap_ord (t := a) (l := l))
    · exact heap_congr (fun z w a1 a2 a3 a4 h => by
        show (ordT (.node a b) l).idxOf z < (ordT (.node a b) l).idxOf w
        rw [inB z a1 a2, inB w a3 a4]; omega) (heap_ord (t := b) (l := l + a.size + 1))
/-- those from l to j that rank below all behind them -/
theorem rlm_tree {rk : Nat → Nat} : ∀ {t : Tr} {l j : Nat}, HeapT rk t l → l ≤ j → j < l + t.size → (rlm rk ((List.range' l (j + 1 - l)))).length = (lvT t).getD (j - l) 0
  | .leaf, l, j, _, h1, h2 => by have : Tr.size .leaf = 0 := rfl; omega
  | .node a b, l, j, h, h1, h2 => by
    have es : Tr.size (.node a b) = a.size + 1 + b.size := rfl
    rw [es] at h2
    have el : lvT (.node a b) = lvT a ++ 1 :: (lvT b).map (· + 1) := rfl
    have la := lvT_len a
    have lb := lvT_len b
    by_cases c : j < l + a.size
    · rw [rlm_tree h.2.1 h1 c, el, List.getD_eq_getElem?_getD, List.getD_eq_getElem?_getD, List.getElem?_append_left (by omega)]
    · -- the range, cut ahead of the first cut
      have er : List.range' l (j + 1 - l) = List.range' l a.size ++ List.range' (l + a.size) (j + 1 - (l + a.size)) := by
        rw [show j + 1 - l = a.size + (j + 1 - (l + a.size)) from by omega, ← List.range'_append_1]
      have drop : ∀ (xs ys : List Nat), (l + a.size) ∈ ys → (∀ x ∈ xs, ¬ rk x < rk (l + a.size)) → rlm rk (xs ++ ys) = rlm rk ys := fun xs ys hy => by
        induction xs with
        | nil => intro _; rfl
        | cons x xs ih =>
          intro hx
          rw [List.cons_append]
          show (if ∀ y ∈ xs ++ ys, rk x < rk y then x :: rlm rk (xs ++ ys) else rlm rk (xs ++ ys)) = _
          rw [if_neg fun z => hx x List.mem_cons_self (z _ (List.mem_append.mpr (.inr hy)))]
          exact ih fun x hx2 => hx x (List.mem_cons_of_mem _ hx2)
      have mem : ∀ {z s m : Nat}, z ∈ List.range' s m ↔ s ≤ z ∧ z < s + m := fun {z s m} => List.mem_range'_1
      rw [er, drop _ _ (mem.mpr ⟨by omega, by omega⟩) fun x hx => by
        have := mem.mp hx
        have := h.1 x (by omega) (by omega) (by omega)
        omega]
      obtain ⟨m, em⟩ : ∃ m, j + 1 - (l + a.size) = m + 1 := ⟨j - (l + a.size), by omega⟩
      rw [em, List.range'_succ]
      show (if ∀ y ∈ List.range' (l + a.size + 1) m, rk (l + a.size) < rk y then (l + a.size) :: rlm rk (List.range' (l + a.size + 1) m) else _).length = _
      rw [if_pos fun y hy => by
        have := mem.mp hy
        exact h.1 y (by omega) (by omega) (by omega), List.length_cons, el, List.getD_eq_getElem?_getD, List.getElem?_append_right (by omega)]
      cases m with
      | zero =>
        have e : j - l - (lvT a).length = 0 := by omega
        rw [e]; rfl
      | succ m =>
        have i := rlm_tree (t := b) (l := l + a.size + 1) (j := j) h.2.2 (by omega) (by omega)
        rw [show j + 1 - (l + a.size + 1) = m + 1 from by omega] at i
        rw [i, show j - l - (lvT a).length = (j - (l + a.size + 1)) + 1 from by omega, List.getElem?_cons_succ, List.getElem?_map, List.getD_eq_getElem?_getD, List.getElem?_eq_getElem (by omega)]
        rfl
end Ck
namespace Ck
/-! budgets and trees -/
section
variable {T R : List Nat} {n : Nat}
theorem may_iff {l x y : Nat} : may T R l x y = true ↔ (T.length ≤ l ∨ x ≤ T.getD l 0) ∧ (l = 0 ∨ y ≤ R.getD (l - 1) 0) := by
  unfold may
  rw [Bool.and_eq_true, Bool.or_eq_true, Bool.or_eq_true, decide_eq_true_iff, decide_eq_true_iff, decide_eq_true_iff, decide_eq_true_iff]
theorem getD_left {xs ys : List Nat} {j : Nat} (h : j < xs.length) : (xs ++ ys).getD j 0 = xs.getD j 0 := by
  rw [List.getD_eq_getElem?_getD, List.getD_eq_getElem?_getD, List.getElem?_append_left h]
theorem getD_right {xs ys : List Nat} {j : Nat} : (xs ++ ys).getD (xs.length + j) 0 = ys.getD j 0 := by
  rw [List.getD_eq_getElem?_getD, List.getD_eq_getElem?_getD, List.getElem?_append_right (by omega), show xs.length + j - xs.length = j from by omega]
theorem getD_add {xs : List Nat} {j : Nat} (h : j < xs.length) : (xs.map (· + 1)).getD j 0 = xs.getD j 0 + 1 := by
  rw [List.getD_eq_getElem?_getD, List.getD_eq_getElem?_getD, List.getElem?_map, List.getElem?_eq_getElem h]; rfl
theorem lv_l {a b : Tr} {j : Nat} (h : j < a.size) : (lvT (.node a b)).getD j 0 = (lvT a).getD j 0 := getD_left (by rw [lvT_len]; exact h)
theorem lv_m {a b : Tr} : (lvT (.node a b)).getD a.size 0 = 1 := by
  have := getD_right (xs := lvT a) (ys := 1 :: (lvT b).map (· + 1)) (j := 0)
  rw [lvT_len] at this
  exact this
theorem lv_r {a b : Tr} {j : Nat} (h : j < b.size) : (lvT (.node a b)).getD (a.size + 1 + j) 0 = (lvT b).getD j 0 + 1 := by
  have := getD_right (xs := lvT a) (ys := 1 :: (lvT b).map (· + 1)) (j := j + 1)
  rw [lvT_len, show a.size + (j + 1) = a.size + 1 + j from by omega] at this
  exact this.trans (getD_add (by rw [lvT_len]; exact h))
theorem tc_l {a b : Tr} {j : Nat} (h : j < a.size) : (tcT (.node a b)).getD j 0 = (tcT a).getD j 0 + 1 := by
  have := getD_left (xs := (tcT a).map (· + 1)) (ys := 1 :: tcT b) (j := j) (by rw [List.length_map, tcT_len]; exact h)
  exact this.trans (getD_add (by rw [tcT_len]; exact h))
theorem tc_m {a b : Tr} : (tcT (.node a b)).getD a.size 0 = 1 := by
  have := getD_right (xs := (tcT a).map (· + 1)) (ys := 1 :: tcT b) (j := 0)
  rw [List.length_map, tcT_len] at this
  exact this
theorem tc_r {a b : Tr} {j : Nat} : (tcT (.node a b)).getD (a.size + 1 + j) 0 = (tcT b).getD j 0 := by
  have := getD_right (xs := (tcT a).map (· + 1)) (ys := 1 :: tcT b) (j := j + 1)
  rw [List.length_map, tcT_len, show a.size + (j + 1) = a.size + 1 + j from by omega] at this
  exact this
/-- what touches and reads no more than is let: each gap may end -/
theorem okT_of : ∀ {t : Tr} {l x y : Nat}, (∀ j, j < t.size → (tcT t).getD j 0 + x ≤ T.getD (l + j) 0) → (∀ j, j < t.size → (lvT t).getD j 0 + y ≤ R.getD (l + j) 0) →
    (l = 0 ∨ y ≤ R.getD (l - 1) 0) → (T.length ≤ l + t.size ∨ x ≤ T.getD (l + t.size) 0) → OkT T R t l x y
  | .leaf, l, x, y, _, _, h3, h4 => may_iff.mpr ⟨h4, h3⟩
  | .node a b, l, x, y, h1, h2, h3, h4 => by
    have es : Tr.size (.node a b) = a.size + 1 + b.size := rfl
    rw [es] at h1 h2 h4
    have m1 := h1 a.size (by omega)
    have m2 := h2 a.size (by omega)
    rw [tc_m] at m1
    rw [lv_m] at m2
    refine ⟨okT_of (fun j hj => ?_) (fun j hj => ?_) h3 (.inr (by omega)), okT_of (fun j hj => ?_) (fun j hj => ?_) (.inr ?_) ?_⟩
    · have := h1 j (by omega)
      rw [tc_l hj] at this; omega
    · have := h2 j (by omega)
      rw [lv_l hj] at this; omega
    · have := h1 (a.size + 1 + j) (by omega)
      rw [tc_r, show l + (a.size + 1 + j) = l + a.size + 1 + j from by omega] at this
      exact this
    · have := h2 (a.size + 1 + j) (by omega)
      rw [lv_r hj, show l + (a.size + 1 + j) = l + a.size + 1 + j from by omega] at this
      omega
    · rw [show l + a.size + 1 - 1 = l + a.size from by omega]; omega
    · rw [show l + a.size + 1 + b.size = l + (a.size + 1 + b.size) from by omega]; exact h4
theorem okT_last : ∀ {t : Tr} {l x y : Nat}, OkT T R t l x y → T.length ≤ l + t.size ∨ x ≤ T.getD (l + t.size) 0
  | .leaf, _, _, _, h => (may_iff.mp h).1
  | .node a b, l, x, y, h => by
    have i := okT_last h.2
    rw [show l + a.size + 1 + b.size = l + (a.size + 1 + b.size) from by omega] at i
    exact i
theorem okT_to : ∀ {t : Tr} {l x y : Nat}, l + t.size ≤ T.length → OkT T R t l x y → ∀ j, j < t.size → (tcT t).getD j 0 + x ≤ T.getD (l + j) 0 ∧ (lvT t).getD j 0 + y ≤ R.getD (l + j) 0
  | .leaf, _, _, _, _, _, j, h => absurd h (Nat.not_lt_zero _)
  | .node a b, l, x, y, hl, h, j, hj => by
    have es : Tr.size (.node a b) = a.size + 1 + b.size := rfl
    rw [es] at hl hj
    by_cases c : j < a.size
    · have i := okT_to (t := a) (by omega) h.1 j c
      rw [tc_l c, lv_l c]
      omega
    · by_cases d : j = a.size
      · subst d
        rw [tc_m, lv_m]
        have i1 := okT_last h.1
        have i2 := (may_iff.mp (okT_first h.2)).2
        rw [show l + a.size + 1 - 1 = l + a.size from by omega] at i2
        omega
      · obtain ⟨q, rfl⟩ : ∃ q, j = a.size + 1 + q := ⟨j - (a.size + 1), by omega⟩
        have i := okT_to (t := b) (by omega) h.2 q (by omega)
        rw [tc_r, lv_r (by omega), show l + (a.size + 1 + q) = l + a.size + 1 + q from by omega]
        omega
end
/-! plans of rows are those of trees -/
structure RowPl (lv : List Nat) : Prop where
  one : ∀ i, i < lv.length → 1 ≤ lv.getD i 0
  first : lv ≠ [] → lv.getD 0 0 = 1
  next : ∀ i, i + 1 < lv.length → lv.getD (i + 1) 0 ≤ lv.getD i 0 + 1
theorem last_one : ∀ (lv : List Nat), 0 < lv.length → lv.getD 0 0 = 1 → ∃ k, k < lv.length ∧ lv.getD k 0 = 1 ∧ ∀ j, k < j → j < lv.length → lv.getD j 0 ≠ 1 := fun lv h0 h1 => by
  have key : ∀ m, m ≤ lv.length → 0 < m → ∃ k, k < m ∧ lv.getD k 0 = 1 ∧ ∀ j, k < j → j < m → lv.getD j 0 ≠ 1 := fun m => by
    induction m with
    | zero => intro _ h; omega
    | succ m ih =>
      intro hm _
      by_cases c : lv.getD m 0 = 1
      · exact ⟨m, Nat.lt_succ_self m, c, fun j a b => by omega⟩
      · by_cases d : m = 0
        · subst d; exact absurd h1 c
        · obtain ⟨k, k1, k2, k3⟩ := ih (by omega) (by omega)
          refine ⟨k, by omega, k2, fun j a b => ?_⟩
          by_cases e : j = m
          · rw [e]; exact c
          · exact k3 j a (by omega)
  exact key lv.length (Nat.le_refl _) h0
theorem tree_of : ∀ (m : Nat) (lv : List Nat), lv.length ≤ m → RowPl lv → ∃ t, lvT t = lv
  | 0, lv, hm, _ => ⟨.leaf, (List.eq_nil_of_length_eq_zero (by omega)).symm⟩
  | m + 1, lv, hm, h => by
    by_cases c : lv = []
    · exact ⟨.leaf, c.symm⟩
    · have hl : 0 < lv.length := List.length_pos_iff.mpr c
      obtain ⟨k, k1, k2, k3⟩ := last_one lv hl (h.first c)
      have ga : ∀ j, j < k → (lv.take k).getD j 0 = lv.getD j 0 := fun j hj => by
        rw [List.getD_eq_getElem?_getD, List.getD_eq_getElem?_getD, List.getElem?_take, if_pos hj]
      have lb : ((lv.drop (k + 1)).map (· - 1)).length = lv.length - (k + 1) := by rw [List.length_map, List.length_drop]
      have gb : ∀ j, j < lv.length - (k + 1) → ((lv.drop (k + 1)).map (· - 1)).getD j 0 = lv.getD (k + 1 + j) 0 - 1 := fun j hj => by
        rw [List.getD_eq_getElem?_getD, List.getD_eq_getElem?_getD, List.getElem?_map, List.getElem?_drop, List.getElem?_eq_getElem (by omega)]; rfl
      have la : (lv.take k).length = k := by rw [List.length_take]; omega
      have big : ∀ j, j < lv.length - (k + 1) → 2 ≤ lv.getD (k + 1 + j) 0 := fun j hj => by
        have := h.one (k + 1 + j) (by omega)
        have := k3 (k + 1 + j) (by omega) (by omega)
        omega
      obtain ⟨a, ea⟩ := tree_of m (lv.take k) (by omega) ⟨fun i hi => by rw [ga i (by omega)]; exact h.one i (by omega), fun ne => by
        have : 0 < k := by
          have := List.length_pos_iff.mpr ne
          omega
        rw [ga 0 this]; exact h.first c, fun i hi => by rw [ga _ (by omega), ga i (by omega)]; exact h.next i (by omega)⟩
      obtain ⟨b, eb⟩ := tree_of m ((lv.drop (k + 1)).map (· - 1)) (by omega) ⟨fun i hi => by
        have := big i (by omega)
        rw [gb i (by omega)]; omega, fun ne => by
        have : 0 < lv.length - (k + 1) := by
          have := List.length_pos_iff.mpr ne
          omega
        have h1 := big 0 this
        have h2 := h.next k (by omega)
        rw [gb 0 this]
        show lv.getD (k + 1) 0 - 1 = 1
        have h3 : 2 ≤ lv.getD (k + 1) 0 := h1
        omega, fun i hi => by
        have h1 := big i (by omega)
        have h2 := h.next (k + 1 + i) (by omega)
        rw [gb _ (by omega), gb i (by omega)]
        rw [show k + 1 + (i + 1) = k + 1 + i + 1 from by omega]
        omega⟩
      refine ⟨.node a b, ?_⟩
      show lvT a ++ 1 :: (lvT b).map (· + 1) = lv
      rw [ea, eb, List.map_map]
      refine List.ext_getElem? fun j => ?_
      by_cases c1 : j < k
      · rw [List.getElem?_append_left (by omega), List.getElem?_take, if_pos c1]
      · rw [List.getElem?_append_right (by omega), la]
        by_cases c2 : j = k
        · subst c2
          rw [Nat.sub_self, getD_at k1, k2]; rfl
        · obtain ⟨q, rfl⟩ : ∃ q, j = k + 1 + q := ⟨j - (k + 1), by omega⟩
          rw [show k + 1 + q - k = q + 1 from by omega, List.getElem?_cons_succ, List.getElem?_map, List.getElem?_drop]
          by_cases c3 : k + 1 + q < lv.length
          · have := big q (by omega)
            rw [getD_at c3]
            show some (lv.getD (k + 1 + q) 0 - 1 + 1) = some (lv.getD (k + 1 + q) 0)
            rw [show lv.getD (k + 1 + q) 0 - 1 + 1 = lv.getD (k + 1 + q) 0 from by omega]
          · rw [List.getElem?_eq_none (by omega)]; rfl
theorem rowPl_of {n : Nat} {lv : List Nat} (hn : 1 ≤ n) (h : Lv (rowP n) lv) : RowPl lv := by
  have hl : lv.length = n := by rw [h.1, rowP_len hn]
  refine ⟨fun i hi => (lv_at h (by rw [rowP_len hn]; omega)).1, fun _ => ?_, fun i hi => ?_⟩
  · have := lv_at h (k := 0) (by rw [rowP_len hn]; omega)
    rw [pa_of (show (rowP n)[0]? = some none from rfl)] at this
    have e : mostLv lv none = 1 := rfl
    omega
  · have := lv_at h (k := i + 1) (by rw [rowP_len hn]; omega)
    rw [pa_of (rowP_at (by omega))] at this
    exact this.2
theorem rowPl_to {n : Nat} {lv : List Nat} (hn : 1 ≤ n) (hl : lv.length = n) (h : RowPl lv) : Lv (rowP n) lv := by
  refine ⟨by rw [rowP_len hn, hl], fun i l o h1 h2 => ?_⟩
  have hi := (List.getElem?_eq_some_iff.mp h1).1
  have e := getD_of h1
  cases i with
  | zero =>
    have e2 : o = none := by
      have : (rowP n)[0]? = some none := rfl
      rw [this] at h2; exact (Option.some.inj h2).symm
    have := h.first (List.length_pos_iff.mp hi)
    rw [e] at this
    rw [e2, this]
    exact ⟨Nat.le_refl _, Nat.le_refl _⟩
  | succ i =>
    rw [rowP_at (by omega)] at h2
    cases h2
    have a1 := h.one (i + 1) hi
    have a2 := h.next i hi
    rw [e] at a1 a2
    exact ⟨a1, a2⟩
theorem road_row {n : Nat} (hn : 1 ≤ n) : ∀ j, j < n → road (rowP n) j = List.range' 0 (j + 1)
  | 0, _ => by
    rw [road_none (show (rowP n)[0]? = some none from rfl)]; rfl
  | j + 1, h => by
    rw [road_some rowP_ps (rowP_at h), road_row hn j (by omega), show List.range' 0 (j + 1 + 1) = List.range' 0 (j + 1) ++ [0 + (j + 1)] from List.range'_1_concat, Nat.zero_add]
theorem plans_all {ps : List (Option Nat)} {lv : List Nat} (hp : Ps ps) (hv : Lv ps lv) : lv ∈ plansL ps ps.length := by
  have h1 := nmb_tot hp hv
  rw [← plans_len hp] at h1
  have h2 := List.getElem?_eq_getElem h1
  have h3 := plans_at hp h2
  have h4 := plans_lv hp (List.mem_of_getElem? h2)
  have e := nmb_inj hp h4 hv h3
  rw [← e]
  exact List.mem_of_getElem? h2
/-! the point of a row's plan, by going along it -/
def addTo (tc : Nat → Nat) (a b : Nat) : Nat → Nat := fun q => if a ≤ q ∧ q ≤ b then tc q + 1 else tc q
def beginOf (st : List Nat) : Nat := match st.getLast? with
  | some s => s + 1
  | none => 0
def rpGo : List Nat → Nat → List Nat → (Nat → Nat) → List Nat × (Nat → Nat)
  | [], _, st, tc => (st, tc)
  | L :: lv, p, st, tc => rpGo lv (p + 1) (st.take (L - 1) ++ [p]) (addTo tc (beginOf (st.take (L - 1))) p)
theorem rpGo_app : ∀ (xs ys : List Nat) (p : Nat) (st : List Nat) (tc : Nat → Nat), rpGo (xs ++ ys) p st tc = rpGo ys (p + xs.length) (rpGo xs p st tc).1 (rpGo xs p st tc).2
  | [], ys, p, st, tc => rfl
  | L :: xs, ys, p, st, tc => by
    show rpGo (xs ++ ys) (p + 1) _ _ = rpGo ys (p + (xs.length + 1)) (rpGo xs (p + 1) _ _).1 (rpGo xs (p + 1) _ _).2
    rw [rpGo_app xs ys, show p + 1 + xs.length = p + (xs.length + 1) from by omega]
theorem rp_tree : ∀ (t : Tr) (d a : Nat) (S st : List Nat) (tc : Nat → Nat), st.take d = S → S.length = d → beginOf S = a →
    (rpGo ((lvT t).map (· + d)) a st tc).1.take d = S ∧ ∀ q, (rpGo ((lvT t).map (· + d)) a st tc).2 q = if a ≤ q ∧ q < a + t.size then tc q + (tcT t).getD (q - a) 0 else tc q
  | .leaf, d, a, S, st, tc, h1, h2, h3 => ⟨h1, fun q => (if_neg fun z => by have : Tr.size .leaf = 0 := rfl; omega).symm⟩
  | .node x y, d, a, S, st, tc, h1, h2, h3 => by
    have es : Tr.size (.node x y) = x.size + 1 + y.size := rfl
    have e1 : (lvT (.node x y)).map (· + d) = (lvT x).map (· + d) ++ (1 + d) :: (lvT y).map (· + (d + 1)) := by
      show (lvT x ++ 1 :: (lvT y).map (· + 1)).map (· + d) = _
      rw [List.map_append, List.map_cons, List.map_map]
      congr 2
      refine List.map_congr_left fun z _ => ?_
      show z + 1 + d = z + (d + 1)
      omega
    obtain ⟨i1, i2⟩ := rp_tree x d a S st tc h1 h2 h3
    rw [e1, rpGo_app, List.length_map, lvT_len]
    generalize rpGo ((lvT x).map (· + d)) a st tc = w at i1 i2
    show (rpGo ((lvT y).map (· + (d + 1))) (a + x.size + 1) (w.1.take (1 + d - 1) ++ [a + x.size]) (addTo w.2 (beginOf (w.1.take (1 + d - 1))) (a + x.size))).1.take d = S ∧ _
    rw [show 1 + d - 1 = d from by omega, i1, h3]
    have hS : (S ++ [a + x.size]).length = d + 1 := by rw [List.length_append, h2]; rfl
    have hb : beginOf (S ++ [a + x.size]) = a + x.size + 1 := by
      unfold beginOf
      rw [List.getLast?_append]; rfl
    obtain ⟨j1, j2⟩ := rp_tree y (d + 1) (a + x.size + 1) (S ++ [a + x.size]) (S ++ [a + x.size]) (addTo w.2 a (a + x.size)) (by rw [← hS, List.take_length]) hS hb
    refine ⟨?_, fun q => ?_⟩
    · have := congrArg (fun z => z.take d) j1
      rw [List.take_take, Nat.min_eq_left (Nat.le_succ d), List.take_append_of_le_length (by omega), ← h2, List.take_length] at this
      rw [← h2]
      exact this
    · show (rpGo ((lvT y).map (· + (d + 1))) (a + x.size + 1) (w.1.take (1 + d - 1) ++ [a + x.size]) (addTo w.2 (beginOf (w.1.take (1 + d - 1))) (a + x.size))).2 q = _
      rw [show 1 + d - 1 = d from by omega, i1, h3, j2 q, es]
      unfold addTo
      rw [i2 q]
      by_cases c1 : a ≤ q ∧ q < a + x.size
      · rw [if_neg (by omega), if_pos (by omega), if_pos c1, if_pos (by omega), tc_l (by omega)]; omega
      · by_cases c2 : q = a + x.size
        · rw [if_neg (by omega), if_pos (by omega), if_neg c1, if_pos (by omega), show q - a = x.size from by omega, tc_m]
        · by_cases c3 : a + x.size + 1 ≤ q ∧ q < a + x.size + 1 + y.size
          · rw [if_pos c3, if_neg (by omega), if_neg c1, if_pos (by omega), show q - a = x.size + 1 + (q - (a + x.size + 1)) from by omega, tc_r]
          · rw [if_neg c3, if_neg (by omega), if_neg c1, if_neg (by omega)]
theorem rp_top {t : Tr} : ∀ q, (rpGo (lvT t) 0 [] fun _ => 0).2 q = (tcT t).getD q 0 := fun q => by
  have h := (rp_tree t 0 0 [] [] (fun _ => 0) rfl rfl rfl).2 q
  have e : (lvT t).map (· + 0) = lvT t := by
    have : (fun z : Nat => z + 0) = id := rfl
    rw [this, List.map_id]
  rw [e] at h
  rw [h]
  by_cases c : q < t.size
  · rw [if_pos (by omega), Nat.sub_zero, Nat.zero_add]
  · rw [if_neg (by omega), List.getD_eq_getElem?_getD, List.getElem?_eq_none (by rw [tcT_len]; omega)]; rfl
end Ck
namespace Cn
open PySem PySem.Spec PyProof.Rows L2 Ck
open PySem.W (alike alikeAll AlikeAll max_tuple_data)
/-! max(a tuple of whole numbers): one of them -/
theorem dn_alike (ns : List Nat) : AlikeAll (dn ns) := by
  constructor
  · intro x hx y hy
    obtain ⟨p, _, rfl⟩ := List.mem_map.mp hx
    obtain ⟨q, _, rfl⟩ := List.mem_map.mp hy
    simp only [alike]
  · intro x hx
    obtain ⟨p, _, rfl⟩ := List.mem_map.mp hx
    exact fun z => nomatch z
theorem valsBk : ∀ {xs : List V} {us : List Value} {i : Nat} {u : Value}, Vals xs us → us[i]? = some u → ∃ x, xs[i]? = some x ∧ RelV x u
  | _, _, i, u, .nil, h => by rw [List.getElem?_nil] at h; cases h
  | _, _, 0, u, .cons a t, h => by cases h; exact ⟨_, rfl, a⟩
  | _, _, i + 1, u, .cons a t, h => by
    rw [List.getElem?_cons_succ] at h
    obtain ⟨x, h1, h2⟩ := valsBk t h
    exact ⟨x, by rw [List.getElem?_cons_succ]; exact h1, h2⟩
def rMaxT (K : PySem.W.Frag) : List V → Hp → VK → Prop := fun vs H Q => ∃ (a : Addr) (n : Nat) (ns : List Nat), vs = [V.ref a] ∧ TN H a (n :: ns) ∧ ∀ m, m ∈ n :: ns → Q (vn m) H
theorem cr_maxT {X : Cx} (hc : X.calm = true) (hu : X.A.units + 64 < cLine) : CallR X (.builtin "max") (rMaxT X.K) := by
  intro pins s σ H vs us Q I r h
  obtain ⟨a, n, ns, rfl, ha, q⟩ := h
  obtain ⟨its, rv, hl, _⟩ := I.tuple (tnL ha)
  rw [Vals.ref1 r]
  obtain ⟨as, ra⟩ := Dp.readsAll I (dn (n :: ns)) _ its (dpN (n :: ns)) rv
  have ra' : ReadsAll s.heap its (PyData.int ((n : Nat) : Int) :: dn ns) as := ra
  refine max_tuple_data (I.ok.hd hc) hl ra' (dn_alike (n :: ns)) (by have := dnDepth (n :: ns); have e : PyData.depthAll (PyData.int ((n : Nat) : Int) :: dn ns) = 0 := this; omega) fun i v h' tk bs hv _ hk => ?_
  obtain ⟨x, hx, rx⟩ := valsBk rv (by simpa using hv)
  obtain ⟨m, hm, rfl⟩ := vn_get hx
  exact ⟨vn m, H, I.kept hk, rx, q m (List.mem_of_getElem? hm)⟩
section
variable {P : Program} {w : World} {K : PySem.W.Frag} {mg : Str → Option Value} {base : Heap} {C : Addr}
def spIsNumbers : Sp := fun vs H Q _ => ∃ (a : Addr) (ns : List Nat), vs = [.ref a, vn ns.length] ∧ TN H a ns ∧ Q (.bl true) H
def nIsNumbers : List Str := ["thing", "many", "item"]
theorem scIsNumbers : FnScope nIsNumbers ["thing", "many"] (defScope sIsNumbers) := ⟨rfl, rfl, rfl, by decide +kernel, rfl, by decide +kernel, by decide +kernel⟩
theorem dIsNumbers (B : Defs K mg C) : Def P w K mg base "is_numbers" 2 ["thing", "many"] spIsNumbers := by
  obtain ⟨fI, fdI, GI, gI, kI, bI⟩ := dInt (P := P) (w := w) (base := base) B
  have N := B.N
  have nd := scIsNumbers.nd
  refine def_of B.inu fun f fd F => ?_
  refine F.ok scIsNumbers (fun vs H Q E h => ?_) (fun cdv A outer s H vs Q E hr h => ?_)
  · obtain ⟨a, ns, rfl, _⟩ := h
    rfl
  · obtain ⟨a, ns, rfl, ha, k⟩ := h
    refine ⟨_, pss_cons (ps_if (PW.pt (pw_or (pt_not (pt_val (pe_callB call_isi (by rfl) N.is.inst (by decide +kernel) (pa_cons (pv 0) (pa_cons (pe_bltn (v := .ty "tuple") (by rfl) N.is.tup (by decide +kernel) rfl) pa_nil)))))
          (pw_or1 (pt_cmpR op_ne (pe_callB call_len_seq (by rfl) N.is.len PySem.boot_len (pa_cons (pv 0) pa_nil)) (pv 1) (nomark _))))) (pss_one ps_never) pss_nil)
      (pss_cons (ps_for PassesOwn.never rfl (pi_tup (pv 0)) (pg_name (i := 2) nd rfl (Or.inl rfl))
        (pss_one (ps_if (PW.pt (pw_or (pt_not (pt_val (pe_call GI hr (by rfl) gI kI bI .nil pass0 (pa_cons (pv 2) pa_nil)))) (pw_or1 (pt_cmpR op_lt (pv 2) pe_int (nomark _))))) (pss_one ps_never) pss_nil)))
      (pss_one (ps_ret pe_bl))), ?_⟩
    refine ⟨_, rfl, _, .ty "tuple", _, _, true, rfl, .ty _, tupTy ha, kit_ty (by decide +kernel), true, rfl, ?_⟩
    refine ifF (by decide) ?_
    refine ⟨_, rfl, a, _, rfl, .inr (tnL ha), _, rfl, rfl, _, rfl, ?_⟩
    refine ifF (by rw [List.length_map, decide_eq_true rfl]; decide) ?_
    refine ⟨_, rfl, a, rfl, ⟨_, tnL ha⟩, ?_⟩
    refine for_tup (xs := ns.map vn) (fun _ σ H' => H' = H ∧ ∃ t2, σ = [some (.ref a), some (vn ns.length), t2]) ⟨rfl, none, rfl⟩ (fun i σ H' _ z => by rw [z.1]; exact tnL ha) ?_ ?_
    · rintro i x σ H' hx ⟨rfl, t2, rfl⟩
      obtain ⟨n, hn, rfl⟩ := vn_get hx
      refine ⟨_, rfl, (n : Int), rfl, true, rfl, ?_⟩
      refine ifF (by decide) ?_
      refine ⟨_, rfl, _, _, rfl, rfl, _, rfl, ?_⟩
      refine ifF (fun z => by have := of_decide_eq_true z; omega) ?_
      exact ⟨rfl, _, rfl⟩
    · rintro σ H' ⟨rfl, t2, rfl⟩
      exact k
/-- budgets of so many places -/
def BuAt (H : Hp) (b : Addr) (T R : List Nat) : Prop := ∃ t r, H b = some (.tup [.ref t, .ref r]) ∧ TN H t T ∧ TN H r R
theorem buSame {H H' : Hp} {b : Addr} {T R : List Nat} (s : Same H H') (h : BuAt H b T R) : BuAt H' b T R := by
  obtain ⟨t, r, h1, h2, h3⟩ := h
  exact ⟨t, r, s _ _ h1, s _ _ h2, s _ _ h3⟩
def spIsPairN : Sp := fun vs H Q _ => ∃ (b : Addr) (n : Nat) (T R : List Nat), vs = [.ref b, vn n, .int 60] ∧ BuAt H b T R ∧ BuOk n T R ∧ Q (.bl true) H
def nIsPairN : List Str := ["thing", "many", "most", "numbers"]
theorem scIsPairN : FnScope nIsPairN ["thing", "many", "most"] (defScope sIsPairN) := ⟨rfl, rfl, rfl, by decide +kernel, rfl, by decide +kernel, by decide +kernel⟩
theorem mem_le60 {xs : List Nat} (h : ∀ i, xs.getD i 0 ≤ 60) {m : Nat} (hm : m ∈ xs) : m ≤ 60 := by
  obtain ⟨i, hi⟩ := List.getElem?_of_mem hm
  rw [← getD_of hi]; exact h i
theorem dIsPairN (B : Defs K mg C) : Def P w K mg base "is_pair_of_numbers" 3 ["thing", "many", "most"] spIsPairN := by
  obtain ⟨fI, fdI, GI, gI, kI, bI⟩ := dIsNumbers (P := P) (w := w) (base := base) B
  have N := B.N
  have nd := scIsPairN.nd
  refine def_of B.ipn fun f fd F => ?_
  refine F.ok scIsPairN (fun vs H Q E h => ?_) (fun cdv A outer s H vs Q E hr h => ?_)
  · obtain ⟨b, n, T, R, rfl, _⟩ := h
    rfl
  · obtain ⟨b, n, T, R, rfl, ⟨t, r, hb, ht, hrr⟩, ok, k⟩ := h
    refine ⟨_, pss_cons (ps_if (PW.pt (pw_or (pt_not (pt_val (pe_callB call_isi (by rfl) N.is.inst (by decide +kernel) (pa_cons (pv 0) (pa_cons (pe_bltn (v := .ty "tuple") (by rfl) N.is.tup (by decide +kernel) rfl) pa_nil)))))
          (pw_or1 (pt_cmpR op_ne (pe_callB call_len_seq (by rfl) N.is.len PySem.boot_len (pa_cons (pv 0) pa_nil)) pe_int (nomark _))))) (pss_one ps_never) pss_nil)
      (pss_cons (ps_for PassesOwn.never rfl (pi_tup (pv 0)) (pg_name (i := 3) nd rfl (Or.inl rfl))
        (pss_one (ps_if (PW.pt (pw_or (pt_not (pt_val (pe_call GI hr (by rfl) gI kI bI .nil pass0 (pa_cons (pv 3) (pa_cons (pv 1) pa_nil))))) (pw_or1 (pt_cmpR op_gt (pe_callB (cr_maxT rfl hr.units) (by rfl) B.zMax (by decide +kernel) (pa_cons (pv 3) pa_nil)) (pv 2) (nomark _))))) (pss_one ps_never) pss_nil)))
      (pss_one (ps_ret pe_bl))), ?_⟩
    refine ⟨_, rfl, _, .ty "tuple", _, _, true, rfl, .ty _, tupTy hb, kit_ty (by decide +kernel), true, rfl, ?_⟩
    refine ifF (by decide) ?_
    refine ⟨_, rfl, b, _, rfl, .inr (.inl (.inl hb)), rfl, _, rfl, ?_⟩
    refine ifF (by show ¬ (!decide (V.int 2 = V.int 2)) = true; decide) ?_
    refine ⟨_, rfl, b, rfl, ⟨_, .inl (.inl hb)⟩, ?_⟩
    refine for_tup (xs := [.ref t, .ref r]) (fun _ σ H' => H' = H ∧ ∃ t2, σ = [some (.ref b), some (vn n), some (.int 60), t2]) ⟨rfl, none, rfl⟩ (fun i σ H' _ z => by rw [z.1]; exact .inl (.inl hb)) ?_ ?_
    · rintro i x σ H' hx ⟨rfl, t2, rfl⟩
      obtain ⟨v, xs, rfl, hv, hl, hle⟩ : ∃ v xs, x = .ref v ∧ TN H' v xs ∧ xs.length = n ∧ ∀ m ∈ xs, m ≤ 60 := by
        have := List.mem_of_getElem? hx
        rcases List.mem_cons.mp this with e | e
        · exact ⟨t, T, e, ht, ok.t, fun m hm => mem_le60 ok.tb hm⟩
        · exact ⟨r, R, List.mem_singleton.mp e, hrr, ok.r, fun m hm => mem_le60 ok.rb hm⟩
      refine ⟨_, rfl, _, rfl, v, xs, congrArg (fun z : Nat => [V.ref v, vn z]) hl.symm, hv, true, rfl, ?_⟩
      refine ifF (by decide) ?_
      cases xs with
      | nil => have := ok.n1; rw [← hl] at this; cases this
      | cons y ys =>
        refine ⟨_, rfl, v, y, ys, rfl, hv, fun m hm => ⟨_, rfl, _, _, rfl, rfl, _, rfl, ?_⟩⟩
        have := hle m hm
        refine ifF (fun z => by have := of_decide_eq_true z; omega) ?_
        exact ⟨rfl, _, rfl⟩
    · rintro σ H' ⟨rfl, t2, rfl⟩
      exact k
def spIsBudgets (C : Addr) : Sp := fun vs H Q _ => ∃ (a b : Addr) (f : Fo) (T R : List Nat), vs = [.ref a, .ref b] ∧ FoAt C H a f ∧ BuAt H b T R ∧ BuOk f.ps.length T R ∧ Q (.bl true) H
def nIsBudgets : List Str := ["forest", "thing"]
theorem scIsBudgets : FnScope nIsBudgets ["forest", "thing"] (defScope sIsBudgets) := ⟨rfl, rfl, rfl, by decide +kernel, rfl, by decide +kernel, by decide +kernel⟩
theorem dIsBudgets (B : Defs K mg C) : Def P w K mg base "is_budgets" 4 ["forest", "thing"] (spIsBudgets C) := by
  obtain ⟨fI, fdI, GI, gI, kI, bI⟩ := dIsPairN (P := P) (w := w) (base := base) B
  obtain ⟨tm, mBu⟩ := B.mBu
  have N := B.N
  have T0 := B.T
  refine def_of B.ibu fun f fd F => ?_
  refine F.ok scIsBudgets (fun vs H Q E h => ?_) (fun cdv A outer s H vs Q E hr h => ?_)
  · obtain ⟨a, b, f, T, R, rfl, _⟩ := h
    rfl
  · obtain ⟨a, b, fo, T, R, rfl, ⟨dx, ap, ab, aa, h0, h1, h2, h3⟩, hb, ok, k⟩ := h
    refine ⟨_, pss_one (ps_ret (pe_call GI hr (by rfl) gI kI bI .nil pass0 (pa_cons (pv 1) (pa_cons (pe_callB call_len_seq (by rfl) N.is.len PySem.boot_len (pa_cons (pe_fld (pv 0) rfl) pa_nil)) (pa_cons (pe_glob (v := .int 60) (by rfl) mBu ⟨_, rfl⟩) pa_nil))))), ?_⟩
    refine ⟨_, rfl, _, rfl, a, C, dx, _, _, rfl, h0, T0.cl, T0.nP, fP, ap, _, rfl, .inr (tpL h1), b, fo.ps.length, T, R, ?_, hb, ok, k⟩
    exact congrArg (fun z : Nat => [V.ref b, vn z, V.int 60]) (List.length_map _)
end
end Cn
namespace Cn
open PySem PySem.Spec PyProof.Rows L2 Ck
theorem cutInit2 (xs : List V) (x : V) : cutV (xs ++ [x]) none (some (-1)) = xs := by
  unfold cutV
  rw [HT.sIx_none, List.drop_zero, Nat.sub_zero]
  have e : HT.sIx (xs ++ [x]).length (xs ++ [x]).length (some (-1)) = xs.length := by
    show (if (-1 : Int) < 0 then ((-1 : Int) + ((xs ++ [x]).length : Int)).toNat else min (-1 : Int).toNat (xs ++ [x]).length) = _
    rw [if_pos (by decide), List.length_append]
    show ((-1 : Int) + ((xs.length + 1 : Nat) : Int)).toNat = xs.length
    omega
  rw [e, List.take_append_of_le_length (Nat.le_refl _), List.take_length]
theorem kitSelf {K : PySem.W.Frag} {a : Addr} : PySem.W.kitOne K (.ref a) (.ref a) = some true := by
  unfold PySem.W.kitOne
  simp
def rowF (n : Nat) : Fo := ⟨rowP n, List.range n, List.range n⟩
theorem rowF_ok {n : Nat} (h1 : 1 ≤ n) (h2 : n ≤ 60) : FoOk (rowF n) := by
  have e : (rowP n).length = n := rowP_len h1
  exact ⟨rowP_ps, by show 1 ≤ (rowP n).length; omega, by show (rowP n).length ≤ 60; omega, List.pairwise_lt_range, fun x hx => by have := List.mem_range.mp hx; show x < (rowP n).length; omega, List.pairwise_lt_range, fun x hx => by have := List.mem_range.mp hx; show x < (rowP n).length; omega⟩
section
variable {P : Program} {w : World} {K : PySem.W.Frag} {mg : Str → Option Value} {base : Heap} {C : Addr}
def spRow (C : Addr) : Sp := fun vs H Q _ => ∃ (n : Nat), vs = [vn n] ∧ 1 ≤ n ∧ n ≤ 60 ∧ ∀ a H', Same H H' → FoAt C H' a (rowF n) → Q (.ref a) H'
def nRow : List Str := ["places", "everywhere"]
theorem scRow : FnScope nRow ["places"] (defScope sRow) := ⟨rfl, rfl, rfl, by decide +kernel, rfl, by decide +kernel, by decide +kernel⟩
theorem dRow (B : Defs K mg C) : Def P w K mg base "row" 6 ["places"] (spRow C) := by
  obtain ⟨fN, fdN, FN, MN, bN⟩ := B.ini
  obtain ⟨tm, mM⟩ := B.mM
  obtain ⟨fI, fdI, DI⟩ := B.I
  obtain ⟨fL, fdL, DL⟩ := B.L
  obtain ⟨fB, fdB, DB⟩ := B.B
  obtain ⟨fO, fdO, DO⟩ := B.O
  have GN : FnOk P w K mg base CX0 4 fN fdN ["self", "parents", "bearing", "asking"] (spInit C) := ok_init FN B.N B.T mM DI DL DB DO
  obtain ⟨fT, fdT, GT, gT, kT, bT⟩ := dBtw (P := P) (w := w) (base := base) B
  have N := B.N
  have nd := scRow.nd
  refine def_of B.rw fun f fd F => ?_
  refine F.ok scRow (fun vs H Q E h => ?_) (fun cdv A outer s H vs Q E hr h => ?_)
  · obtain ⟨n, rfl, _⟩ := h
    rfl
  · obtain ⟨n, rfl, n1, n60, k⟩ := h
    have h2 : Room 2 (A.deeper (envOfC "row" (defScope sRow) s.heap.objs.size f cdv)) := Room.mono hr (by decide)
    refine ⟨_, pss_cons (ps_if (pt_not (pt_val (pe_call GT h2 (by rfl) gT kT bT .nil pass0 (pa_cons (pv 0) (pa_cons pe_int (pa_cons (pe_glob (v := .int 60) (by rfl) mM ⟨_, rfl⟩) pa_nil)))))) (pss_one ps_never) pss_nil)
      (pss_cons (ps_set (i := 1) nd rfl (Or.inl rfl) (pe_tupRg rfl (by rfl) N.is.tup (prg_1 (by rfl) N.range (pv 0))))
      (pss_one (ps_ret (pe_make MN GN hr (by rfl) B.T.mgC bN .nil pass0 (pa_cons (pe_op op_catA (pe_tup (pa_cons pe_non pa_nil)) (pe_slice sl_tupA (pv 1) po_none (po_some (pe_un un_neg pe_int)))) (pa_cons (pv 1) (pa_cons (pv 1) pa_nil))))))), ?_⟩
    refine ⟨_, rfl, _, _, _, rfl, true, ?_, ?_⟩
    · rw [decide_eq_true (by omega)]
    refine ifF (by decide) ?_
    refine ⟨_, rfl, _, rfl, RgOk.of_le (by omega) (by omega) (by omega) (by omega), fun e ne => ?_⟩
    rw [rgN]
    have S1 := smUpd (o := .tup ((List.range n).map vn)) ne
    have he : upd H e (.tup ((List.range n).map vn)) e = some (.tup ((List.range n).map vn)) := upd_same
    generalize upd H e (.tup ((List.range n).map vn)) = H1 at S1 he ⊢
    refine ⟨by show 1 ≤ sizeLine; decide, fun t nt => ?_⟩
    have S2 := smUpd (o := .tup [V.non]) nt
    have ht : upd H1 t (.tup [V.non]) t = some (.tup [V.non]) := upd_same
    have he2 := S2 _ _ he
    generalize upd H1 t (.tup [V.non]) = H2 at S2 ht he2 ⊢
    refine ⟨_, rfl, _, rfl, _, rfl, ?_⟩
    refine slA he2 fun u H3 s3 hu => ?_
    have eu : cutV ((List.range n).map vn) none (some (-1)) = (List.range (n - 1)).map vn := by
      obtain ⟨m, rfl⟩ : ∃ m, n = m + 1 := ⟨n - 1, by omega⟩
      rw [List.range_succ, List.map_append]
      exact cutInit2 _ _
    rw [eu] at hu
    refine catA (s3 _ _ ht) hu (by rw [List.length_map, List.length_range]; show 1 + _ ≤ 1000; omega) fun r H4 s4 hr4 => ?_
    have s24 := s3.trans s4
    have he4 := s24 _ _ he2
    refine ⟨_, rfl, _, rfl, fun x dx nx ndx nex => ?_⟩
    have S5 := smUpd (o := .own x) ndx
    have nx1 : (upd H4 dx (.own x)) x = none := by rw [upd_ne (Ne.symm nex)]; exact nx
    have S6 := S5.trans (smUpd (o := .ins C dx []) nx1)
    have hp4 : TP H4 r (rowP n) := by
      show H4 r = _
      rw [hr4]
      unfold rowP
      rw [List.map_cons, List.map_map]; rfl
    refine ⟨x, dx, r, e, e, rowF n, rfl, upd_same, S6 _ _ hp4, S6 _ _ he4, S6 _ _ he4, rowF_ok n1 n60, fun H7 hF kp => ⟨rfl, ?_⟩⟩
    exact k x H7 (S1.trans (S2.trans (s24.trans fun b o z => kp b o (fun y => by rw [y, nx] at z; cases z) (S6 _ _ z)))) hF
/-! == of forests -/
def SameFo (C : Addr) : Addr → Addr → Hp → Prop := fun a b H => ∃ f, FoAt C H a f ∧ FoAt C H b f
def nEqM : List Str := ["self", "other"]
theorem scEqM : FnScope nEqM ["self", "other"] (defScope sEqM) := ⟨rfl, rfl, rfl, by decide +kernel, rfl, by decide +kernel, by decide +kernel⟩
theorem ok_eqm (B : Defs K mg C) {f : Addr} {fd : FuncData} (F : Fun K "__eq__" "Forest.__eq__" sEqM f fd) : FnOk P w K mg base CX0 1 f fd ["self", "other"] (spEq (SameFo C)) := by
  have N := B.N
  have T := B.T
  refine F.ok scEqM (fun vs H Q E h => ?_) (fun cdv A outer s H vs Q E hr h => ?_)
  · obtain ⟨a, b, rfl, _⟩ := h
    rfl
  · obtain ⟨a, b, rfl, ⟨fo, ⟨dx, ap, ab, aa, h0, h1, h2, h3⟩, ⟨dy, bp, bb, ba, g0, g1, g2, g3⟩⟩, k⟩ := h
    refine ⟨_, pss_one (ps_ret (pe_and (pe_callB call_isi (by rfl) N.is.inst (by decide +kernel) (pa_cons (pv 1) (pa_cons (pe_glob (v := .ref C) (by rfl) T.mgC rfl) pa_nil)))
      (pe_and (pe_cmpR (op_eqD hr.units) (pe_fld (pv 0) rfl) (pe_fld (pv 1) rfl) (nomark _))
      (pe_and (pe_cmpR (op_eqD hr.units) (pe_fld (pv 0) rfl) (pe_fld (pv 1) rfl) (nomark _))
      (pe_one (pe_cmpR (op_eqD hr.units) (pe_fld (pv 0) rfl) (pe_fld (pv 1) rfl) (nomark _))))))), ?_⟩
    refine ⟨_, rfl, _, .ref C, _, _, true, rfl, .own C, .base (.ins g0 T.cl B.ty5.1 B.ty5.2.1 B.ty5.2.2.1 B.ty5.2.2.2), kitSelf, true, rfl, ?_⟩
    refine ifT rfl ?_
    refine ⟨_, rfl, a, C, dx, _, _, rfl, h0, T.cl, T.nP, fP, _, rfl, b, C, dy, _, _, rfl, g0, T.cl, T.nP, fP, _, _, .tup (tpL h1) (dpPar _), .tup (tpL g1) (dpPar _), dParSh _, dParSh _, ?_⟩
    rw [show PyData.eqv (.tuple (dPar fo.ps)) (.tuple (dPar fo.ps)) = true from SeqAt.eqv_refl (.tuple (dPar fo.ps)) (dParLay _)]
    refine ⟨true, rfl, ?_⟩
    refine ifT rfl ?_
    refine ⟨_, rfl, a, C, dx, _, _, rfl, h0, T.cl, T.nB, fB, _, rfl, b, C, dy, _, _, rfl, g0, T.cl, T.nB, fB, _, _, .tup (tnL h2) (dpN _), .tup (tnL g2) (dpN _), dnShT _, dnShT _, ?_⟩
    rw [dnEqT]
    refine ⟨true, rfl, ?_⟩
    refine ifT rfl ?_
    refine ⟨_, rfl, a, C, dx, _, _, rfl, h0, T.cl, T.nA, fA, _, rfl, b, C, dy, _, _, rfl, g0, T.cl, T.nA, fA, _, _, .tup (tnL h3) (dpN _), .tup (tnL g3) (dpN _), dnShT _, dnShT _, ?_⟩
    rw [dnEqT]
    exact k _ Ext.rfl'
def spIsRow (C : Addr) : Sp := fun vs H Q _ => ∃ (a : Addr) (n : Nat), vs = [.ref a] ∧ FoAt C H a (rowF n) ∧ 1 ≤ n ∧ n ≤ 60 ∧ ∀ H', Same H H' → Q (.bl true) H'
def nIsRow : List Str := ["thing"]
theorem scIsRow : FnScope nIsRow ["thing"] (defScope sIsRow) := ⟨rfl, rfl, rfl, by decide +kernel, rfl, by decide +kernel, by decide +kernel⟩
theorem dIsRow (B : Defs K mg C) : Def P w K mg base "is_row" 7 ["thing"] (spIsRow C) := by
  obtain ⟨fR, fdR, GR, gR, kR, bR⟩ := dRow (P := P) (w := w) (base := base) B
  obtain ⟨fe, fde, Fe, he1, he2, be⟩ := B.eqm
  have Ge : FnOk P w K mg base CX0 1 fe fde ["self", "other"] (spEq (SameFo C)) := ok_eqm B Fe
  have N := B.N
  have T := B.T
  refine def_of B.isr fun f fd F => ?_
  refine F.ok scIsRow (fun vs H Q E h => ?_) (fun cdv A outer s H vs Q E hr h => ?_)
  · obtain ⟨a, n, rfl, _⟩ := h
    rfl
  · obtain ⟨a, n, rfl, hF, n1, n60, k⟩ := h
    have h1 : Room 1 (A.deeper (envOfC "is_row" (defScope sIsRow) s.heap.objs.size f cdv)) := Room.mono hr (by decide)
    refine ⟨_, pss_one (ps_ret (pe_and (pe_callB call_isi (by rfl) N.is.inst (by decide +kernel) (pa_cons (pv 0) (pa_cons (pe_glob (v := .ref C) (by rfl) T.mgC rfl) pa_nil)))
      (pe_one (pe_cmpR (op_eqG (rcG_ins (C := C) (R := SameFo C) Ge he1 he2 be pass0) h1) (pv 0) (pe_call GR hr (by rfl) gR kR bR .nil pass0 (pa_cons (pe_callB call_len_seq (by rfl) N.is.len PySem.boot_len (pa_cons (pe_fld (pv 0) rfl) pa_nil)) pa_nil)) (nomark _))))), ?_⟩
    obtain ⟨dx, ap, ab, aa, h0, h1', h2, h3⟩ := id hF
    refine ⟨_, rfl, _, .ref C, _, _, true, rfl, .own C, .base (.ins h0 T.cl B.ty5.1 B.ty5.2.1 B.ty5.2.2.1 B.ty5.2.2.2), kitSelf, true, rfl, ?_⟩
    refine ifT rfl ?_
    refine ⟨_, rfl, _, rfl, a, C, dx, _, _, rfl, h0, T.cl, T.nP, fP, ap, _, rfl, .inr (tpL h1'), n, ?_, n1, n60, fun b H1 s1 hb => ?_⟩
    · exact congrArg (fun z : Nat => [vn z]) ((List.length_map _).trans (rowP_len n1))
    have ha1 := foAt_same s1 hF
    obtain ⟨dx1, _, _, _, a0, _, _, _⟩ := id ha1
    obtain ⟨dy, _, _, _, b0, _, _, _⟩ := id hb
    exact ⟨⟨a, b, dx1, dy, _, _, rfl, rfl, a0, b0, rowF n, ha1, hb⟩, fun H2 e2 => k H2 (s1.trans e2)⟩
def spCheckRB (C : Addr) : Sp := fun vs H Q _ => ∃ (a b : Addr) (n : Nat) (T R : List Nat), vs = [.ref a, .ref b] ∧ FoAt C H a (rowF n) ∧ BuAt H b T R ∧ BuOk n T R ∧ ∀ H', Same H H' → Q .non H'
def nCheckRB : List Str := ["forest", "budgets"]
theorem scCheckRB : FnScope nCheckRB ["forest", "budgets"] (defScope sCheckRB) := ⟨rfl, rfl, rfl, by decide +kernel, rfl, by decide +kernel, by decide +kernel⟩
theorem dCheckRB (B : Defs K mg C) : Def P w K mg base "_check_row_and_budgets" 8 ["forest", "budgets"] (spCheckRB C) := by
  obtain ⟨fR, fdR, GR, gR, kR, bR⟩ := dIsRow (P := P) (w := w) (base := base) B
  obtain ⟨fI, fdI, GI, gI, kI, bI⟩ := dIsBudgets (P := P) (w := w) (base := base) B
  refine def_of B.crb fun f fd F => ?_
  refine F.ok scCheckRB (fun vs H Q E h => ?_) (fun cdv A outer s H vs Q E hr h => ?_)
  · obtain ⟨a, b, n, T, R, rfl, _⟩ := h
    rfl
  · obtain ⟨a, b, n, T, R, rfl, hF, hb, ok, k⟩ := h
    have h4 : Room 4 (A.deeper (envOfC "_check_row_and_budgets" (defScope sCheckRB) s.heap.objs.size f cdv)) := Room.mono hr (by decide)
    refine ⟨_, pss_cons (ps_if (pt_not (pt_val (pe_call GR hr (by rfl) gR kR bR .nil pass0 (pa_cons (pv 0) pa_nil)))) (pss_one ps_never) pss_nil)
      (pss_one (ps_if (pt_not (pt_val (pe_call GI h4 (by rfl) gI kI bI .nil pass0 (pa_cons (pv 0) (pa_cons (pv 1) pa_nil))))) (pss_one ps_never) pss_nil)), ?_⟩
    refine ⟨_, rfl, a, n, rfl, hF, ok.n1, ok.n60, fun H1 s1 => ⟨true, rfl, ?_⟩⟩
    refine ifF (by decide) ?_
    refine ⟨_, rfl, _, rfl, a, b, rowF n, T, R, rfl, foAt_same s1 hF, buSame s1 hb, by show BuOk (rowP n).length T R; rw [rowP_len ok.n1]; exact ok, true, rfl, ?_⟩
    refine ifF (by decide) ?_
    exact k H1 s1
end
end Cn
namespace Cn
open PySem PySem.Spec PyProof.Rows L2 Ck
/-! dicts of reaches -/
abbrev K3 := Nat × Nat × Nat
def k3 (k : K3) : List Key := [Sum.inl (k.1 : Int), Sum.inl (k.2.1 : Int), Sum.inl (k.2.2 : Int)]
theorem k3_inj {a b : K3} (h : k3 a = k3 b) : a = b := by
  unfold k3 at h
  injection h with h1 h
  injection h with h2 h
  injection h with h3 _
  have e1 := Sum.inl.inj h1
  have e2 := Sum.inl.inj h2
  have e3 := Sum.inl.inj h3
  exact Prod.ext (by omega) (Prod.ext (by show a.2.1 = b.2.1; omega) (by show a.2.2 = b.2.2; omega))
def rdict (g : K3 → Int) (ks : List K3) : List (List Key × V) := ks.map fun k => (k3 k, V.int (g k))
theorem rdict_len {g : K3 → Int} {ks : List K3} : (rdict g ks).length = ks.length := List.length_map _
theorem rdict_get {g : K3 → Int} {k : K3} : ∀ {ks : List K3}, valV (rdict g ks) (k3 k) = if k ∈ ks then some (V.int (g k)) else none
  | [] => rfl
  | a :: ks => by
    have ih := rdict_get (g := g) (k := k) (ks := ks)
    unfold valV rdict at ih ⊢
    rw [List.map_cons, List.find?_cons]
    by_cases c : a = k
    · subst c
      rw [show decide (k3 a = k3 a) = true from decide_eq_true rfl, if_pos List.mem_cons_self]
      rfl
    · rw [show decide (k3 a = k3 k) = false from decide_eq_false fun z => c (k3_inj z), ih]
      by_cases d : k ∈ ks
      · rw [if_pos d, if_pos (List.mem_cons_of_mem _ d)]
      · rw [if_neg d, if_neg fun z => (List.mem_cons.mp z).elim (fun e => c e.symm) d]
theorem rdict_put {g : K3 → Int} {k : K3} : ∀ {ks : List K3}, k ∉ ks → putK (rdict g ks) (k3 k) (V.int (g k)) = rdict g (ks ++ [k])
  | ks, h => by
    have e : rdict g (ks ++ [k]) = rdict g ks ++ [(k3 k, V.int (g k))] := by unfold rdict; rw [List.map_append]; rfl
    rw [e, putK_new _ (by rw [rdict_get, if_neg h])]
theorem rdict_same {g : K3 → Int} {k : K3} {ks : List K3} (h : k ∈ ks) : putK (rdict g ks) (k3 k) (V.int (g k)) = rdict g ks := by
  unfold putK
  have a : ((rdict g ks).any fun kv => decide (kv.1 = k3 k)) = true := by rw [valV_any, rdict_get, if_pos h]; rfl
  rw [if_pos a]
  unfold rdict
  rw [List.map_map]
  refine List.map_congr_left fun q _ => ?_
  show (if k3 q = k3 k then (k3 q, V.int (g k)) else (k3 q, V.int (g q))) = (k3 q, V.int (g q))
  by_cases c : k3 q = k3 k
  · rw [if_pos c, k3_inj c]
  · rw [if_neg c]
theorem nodup_le : ∀ (N : Nat) {xs : List Nat}, xs.Nodup → (∀ x ∈ xs, x < N) → xs.length ≤ N
  | 0, [], _, _ => Nat.le_refl _
  | 0, x :: xs, _, h => absurd (h x List.mem_cons_self) (Nat.not_lt_zero _)
  | N + 1, xs, nd, h => by
    by_cases c : N ∈ xs
    · have h1 := nodup_le N (nd.erase N) fun x hx => by
        have h2 := (List.Nodup.mem_erase_iff nd).mp hx
        have := h x h2.2
        have : x ≠ N := h2.1
        omega
      rw [List.length_erase_of_mem c] at h1
      omega
    · have := nodup_le N nd fun x hx => by
        have := h x hx
        have : x ≠ N := fun e => c (e ▸ hx)
        omega
      omega
structure GoodK (T R : List Nat) (n : Nat) (ks : List K3) : Prop where
  nd : ks.Nodup
  ok : ∀ k ∈ ks, KOk n k.1 k.2.1 k.2.2
  cl : ∀ k ∈ ks, may T R k.1 k.2.1 k.2.2 = true → k.1 ≠ n → (k.1, k.2.1 + 1, k.2.2) ∈ ks ∧
    ((k.1 : Int) ≤ rv T R k.1 (k.2.1 + 1) k.2.2 → rv T R k.1 (k.2.1 + 1) k.2.2 < (n : Int) → ((rv T R k.1 (k.2.1 + 1) k.2.2).toNat + 1, k.2.1, k.2.2 + 1) ∈ ks)
theorem goodK_len {T R : List Nat} {n : Nat} {ks : List K3} (n60 : n ≤ 60) (h : GoodK T R n ks) : ks.length ≤ 249856 := by
  have h1 : (ks.map fun k => (k.1 * 64 + k.2.1) * 64 + k.2.2).Nodup := by
    refine List.pairwise_map.mpr (h.nd.imp_of_mem fun {a b} ha hb ne e => ne ?_)
    have a1 := h.ok a ha
    have b1 := h.ok b hb
    have := a1.kx; have := a1.ky; have := b1.kx; have := b1.ky
    exact Prod.ext (by omega) (Prod.ext (by show a.2.1 = b.2.1; omega) (by show a.2.2 = b.2.2; omega))
  have h2 := nodup_le 249856 h1 fun x hx => by
    obtain ⟨k, hk, rfl⟩ := List.mem_map.mp hx
    have k1 := h.ok k hk
    have := k1.kl; have := k1.kx; have := k1.ky
    omega
  rwa [List.length_map] at h2
theorem goodK_add {T R : List Nat} {n : Nat} {ks : List K3} {k : K3} (h : GoodK T R n ks) (hk : k ∉ ks) (ok : KOk n k.1 k.2.1 k.2.2)
    (c : may T R k.1 k.2.1 k.2.2 = true → k.1 ≠ n → (k.1, k.2.1 + 1, k.2.2) ∈ ks ∧ ((k.1 : Int) ≤ rv T R k.1 (k.2.1 + 1) k.2.2 → rv T R k.1 (k.2.1 + 1) k.2.2 < (n : Int) → ((rv T R k.1 (k.2.1 + 1) k.2.2).toNat + 1, k.2.1, k.2.2 + 1) ∈ ks)) : GoodK T R n (ks ++ [k]) := by
  refine ⟨List.nodup_append.mpr ⟨h.nd, List.nodup_cons.mpr ⟨fun z => (by cases z), List.nodup_nil⟩, fun a ha b hb e => hk (by rw [← List.mem_singleton.mp hb, ← e]; exact ha)⟩, fun a ha => ?_, fun a ha m ne => ?_⟩
  · rcases List.mem_append.mp ha with ha | ha
    · exact h.ok a ha
    · rw [List.mem_singleton.mp ha]; exact ok
  · rcases List.mem_append.mp ha with ha | ha
    · obtain ⟨c1, c2⟩ := h.cl a ha m ne
      exact ⟨List.mem_append.mpr (.inl c1), fun p q => List.mem_append.mpr (.inl (c2 p q))⟩
    · rw [List.mem_singleton.mp ha] at m ne ⊢
      obtain ⟨c1, c2⟩ := c m ne
      exact ⟨List.mem_append.mpr (.inl c1), fun p q => List.mem_append.mpr (.inl (c2 p q))⟩
def rg (T R : List Nat) : K3 → Int := fun k => rv T R k.1 k.2.1 k.2.2
def RAt (H : Hp) (d : Addr) (T R : List Nat) (ks : List K3) : Prop := H d = some (.dT (rdict (rg T R) ks))
def Sub3 (ks ks' : List K3) : Prop := ∀ k ∈ ks, k ∈ ks'
section
variable {P : Program} {w : World} {K : PySem.W.Frag} {mg : Str → Option Value} {base : Heap} {C : Addr}
def spMayEnd : Sp := fun vs H Q _ => ∃ (b q : Addr) (n l x y : Nat) (T R : List Nat), vs = [.ref b, .ref q] ∧ BuAt H b T R ∧ BuOk n T R ∧ TN H q [l, x, y] ∧ l ≤ n ∧ Q (.bl (may T R l x y)) H
def nMayEnd : List Str := ["budgets", "key", "touches", "reads", "gap", "lefts", "rights"]
theorem scMayEnd : FnScope nMayEnd ["budgets", "key"] (defScope sMayEnd) := ⟨rfl, rfl, rfl, by decide +kernel, rfl, by decide +kernel, by decide +kernel⟩
theorem dMayEnd (B : Defs K mg C) : Def P w K mg base "_may_end" 1 ["budgets", "key"] spMayEnd := by
  have N := B.N
  have nd := scMayEnd.nd
  refine def_of B.mye fun f fd F => ?_
  refine F.ok scMayEnd (fun vs H Q E h => ?_) (fun cdv A outer s H vs Q E hr h => ?_)
  · obtain ⟨b, q, n, l, x, y, T, R, rfl, _⟩ := h
    rfl
  · obtain ⟨b, q, n, l, x, y, T, R, rfl, ⟨t, r, hb, ht, hrr⟩, ok, hq, hl, k⟩ := h
    refine ⟨_, pss_cons (ps_asg (pv 0) (pg_tup rfl (pgs_cons (pg_name (i := 2) nd rfl (Or.inl rfl)) (pgs_cons (pg_name (i := 3) nd rfl (Or.inl rfl)) pgs_nil))))
      (pss_cons (ps_asg (pv 1) (pg_tup rfl (pgs_cons (pg_name (i := 4) nd rfl (Or.inl rfl)) (pgs_cons (pg_name (i := 5) nd rfl (Or.inl rfl)) (pgs_cons (pg_name (i := 6) nd rfl (Or.inl rfl)) pgs_nil)))))
      (pss_cons (ps_if (PW.pt (pw_and (pt_cmpR op_lt (pv 4) (pe_callB call_len_seq (by rfl) N.is.len PySem.boot_len (pa_cons (pv 2) pa_nil)) (nomark _)) (pw_and1 (pt_cmpR op_lt (pe_ix ix_tup (pv 2) (pv 4) (fun _ _ => rfl)) (pv 5) (nomark _))))) (pss_one (ps_ret pe_bl)) pss_nil)
      (pss_one (ps_ret (pe_or (pe_cmpR op_eq (pv 4) pe_int (nomark _)) (pe_one (pe_cmpR op_ge (pe_ix ix_tup (pv 3) (pe_op op_sub (pv 4) pe_int) (fun _ _ => rfl)) (pv 6) (nomark _)))))))), ?_⟩
    refine ⟨_, rfl, b, _, rfl, .inl (.inl hb), rfl, _, _, rfl, _, _, rfl, rfl, ?_⟩
    refine ⟨_, rfl, q, _, rfl, tnL hq, rfl, _, _, rfl, _, _, rfl, _, _, rfl, rfl, ?_⟩
    refine ⟨_, rfl, _, rfl, t, _, rfl, .inr (tnL ht), _, _, rfl, rfl, _, rfl, ?_⟩
    rw [List.length_map, ok.t]
    have tail : (l ≥ n ∨ x ≤ T.getD l 0) → tOrV (tOp rEq (tVar 4) (tC (.int 0))) (tOp (rI0 fun i j => V.bl (decide (j ≤ i))) (tOp (rIxT K) (tVar 3) (tOp (rI0 fun i j => V.int (i - j)) (tVar 4) (tC (.int 1)))) (tVar 6)) [some (.ref b), some (.ref q), some (.ref t), some (.ref r), some (vn l), some (vn x), some (vn y)] H Q := fun hx => by
      refine ⟨_, rfl, rfl, _, rfl, ?_⟩
      by_cases c : l = 0
      · refine ifT (decide_eq_true (by rw [c]; rfl)) ?_
        rw [show may T R l x y = true from may_iff.mpr ⟨by rw [ok.t]; exact hx, .inl c⟩] at k
        exact k
      · refine ifF (fun z => c (by have := V.int.inj (of_decide_eq_true z); omega)) ?_
        have hrl : l - 1 < R.length := by rw [ok.r]; omega
        refine ⟨_, rfl, _, rfl, _, _, rfl, rfl, r, _, ((l - 1 : Nat) : Int), _, rfl, by show V.int (((l : Nat) : Int) - 1) = V.int _; rw [show ((l : Nat) : Int) - 1 = ((l - 1 : Nat) : Int) from by omega], tnL hrr, vn_ix (getD_at hrl), _, rfl, _, _, rfl, rfl, ?_⟩
        have e : decide (((y : Nat) : Int) ≤ ((R.getD (l - 1) 0 : Nat) : Int)) = may T R l x y := by
          rw [Bool.eq_iff_iff, decide_eq_true_iff, may_iff, ok.t]
          constructor
          · intro z; exact ⟨hx, .inr (by omega)⟩
          · rintro ⟨_, z⟩; omega
        show Q (V.bl (decide (((y : Nat) : Int) ≤ ((R.getD (l - 1) 0 : Nat) : Int)))) H
        rw [e]
        exact k
    by_cases c : l < n
    · refine ifT (decide_eq_true (by omega)) ?_
      refine ⟨_, rfl, _, rfl, t, _, (l : Int), _, rfl, rfl, tnL ht, vn_ix (getD_at (by rw [ok.t]; exact c)), _, rfl, _, _, rfl, rfl, _, rfl, ?_⟩
      by_cases d : T.getD l 0 < x
      · refine ifT (decide_eq_true (by omega)) ?_
        rw [show may T R l x y = false from by
          cases h : may T R l x y with
          | false => rfl
          | true =>
            have := (may_iff.mp h).1
            rw [ok.t] at this
            omega] at k
        exact k
      · refine ifF (fun z => d (by have := of_decide_eq_true z; omega)) ?_
        exact tail (.inr (by omega))
    · refine ifF (fun z => c (by have := of_decide_eq_true z; omega)) ?_
      refine ifF (by decide) ?_
      exact tail (.inl (by omega))
/-- the number at a key, put into the dict with all that it needs; so deep at most -/
def spReach (m : Nat) : Sp := fun vs H Q _ => ∃ (b q d : Addr) (n l x y : Nat) (T R : List Nat) (ks : List K3), vs = [.ref b, .ref q, .ref d] ∧ BuAt H b T R ∧ BuOk n T R ∧ TN H q [l, x, y] ∧ KOk n l x y ∧ 123 - x - y ≤ m ∧ RAt H d T R ks ∧ GoodK T R n ks ∧
  ∀ ks' H', Kept d H H' → RAt H' d T R ks' → GoodK T R n ks' → Sub3 ks ks' → (l, x, y) ∈ ks' → Q (.int (rv T R l x y)) H'
def nReach : List Str := ["budgets", "key", "found", "places", "gap", "lefts", "rights", "number", "left_part"]
theorem scReach : FnScope nReach ["budgets", "key", "found"] (defScope sReach) := ⟨rfl, rfl, rfl, by decide +kernel, rfl, by decide +kernel, by decide +kernel⟩
theorem buKept {H H' : Hp} {d b : Addr} {T R : List Nat} {kvs : List (List Key × V)} (hd : H d = some (.dT kvs)) (k : Kept d H H') (h : BuAt H b T R) : BuAt H' b T R := by
  obtain ⟨t, r, h1, h2, h3⟩ := h
  have ne : ∀ {a : Addr} {xs : List V}, H a = some (.tup xs) → a ≠ d := fun e z => by rw [z, hd] at e; cases e
  exact ⟨t, r, k _ _ (ne h1) h1, k _ _ (ne h2) h2, k _ _ (ne h3) h3⟩
theorem tnKept {H H' : Hp} {d a : Addr} {ns : List Nat} {kvs : List (List Key × V)} (hd : H d = some (.dT kvs)) (k : Kept d H H') (h : TN H a ns) : TN H' a ns := k _ _ (fun z => by have h : H a = _ := h; rw [z, hd] at h; cases h) h
theorem ok_reach (B : Defs K mg C) {f : Addr} {fd : FuncData} (F : Fun K "_reach" "_reach" sReach f fd) (g : mg "_reach" = some (.ref f)) (bR : Binds K fd ["budgets", "key", "found"] []) : ∀ m : Nat, FnOk P w K mg base CX0 (m + 2) f fd ["budgets", "key", "found"] (spReach m) := by
  obtain ⟨fM, fdM, GM, gM, kM, bM⟩ := dMayEnd (P := P) (w := w) (base := base) B
  have N := B.N
  have nd := scReach.nd
  have kp := F.kp
  intro m
  induction m with
  | zero =>
    refine F.ok scReach (fun vs H Q E h => ?_) (fun cdv A outer s H vs Q E hr h => ?_)
    · obtain ⟨b, q, d, n, l, x, y, T, R, ks, rfl, _⟩ := h
      rfl
    · obtain ⟨b, q, d, n, l, x, y, T, R, ks, rfl, hb, ok, hq, hk, hm, _⟩ := h
      have := hk.kx
      have := hk.ky
      omega
  | succ m ih =>
    refine F.ok scReach (fun vs H Q E h => ?_) (fun cdv A outer s H vs Q E hr h => ?_)
    · obtain ⟨b, q, d, n, l, x, y, T, R, ks, rfl, _⟩ := h
      rfl
    · obtain ⟨b, q, d, n, l, x, y, T, R, ks, rfl, hb, ok, hq, hk, hm, hd, hG, k⟩ := h
      have h1 : Room 1 (A.deeper (envOfC "_reach" (defScope sReach) s.heap.objs.size f cdv)) := Room.mono hr (by omega)
      have hu : (A.deeper (envOfC "_reach" (defScope sReach) s.heap.objs.size f cdv)).units + 1 < cLine := by have := hr.units; omega
      refine ⟨_, pss_cons (ps_if (pt_cmp (pc_din hu (pv 1) (pv 2))) (pss_one (ps_ret (pe_dget hu (pv 2) (pv 1) (fun _ _ => rfl)))) pss_nil)
        (pss_cons (ps_set (i := 3) nd rfl (Or.inl rfl) (pe_callB call_len_seq (by rfl) N.is.len PySem.boot_len (pa_cons (pe_ix ix_tup (pv 0) pe_int (fun _ _ => rfl)) pa_nil)))
        (pss_cons (ps_asg (pv 1) (pg_tup rfl (pgs_cons (pg_name (i := 4) nd rfl (Or.inl rfl)) (pgs_cons (pg_name (i := 5) nd rfl (Or.inl rfl)) (pgs_cons (pg_name (i := 6) nd rfl (Or.inl rfl)) pgs_nil)))))
        (psMid (ps_if (pt_not (pt_val (pe_call GM h1 (by rfl) gM kM bM .nil pass0 (pa_cons (pv 0) (pa_cons (pv 1) pa_nil))))) (pss_one (ps_set (i := 7) nd rfl (Or.inl rfl) (pe_op op_sub (pv 4) pe_int)))
          (pss_one (ps_if (pt_cmpR op_eq (pv 4) (pv 3) (nomark _)) (pss_one (ps_set (i := 7) nd rfl (Or.inl rfl) (pv 3)))
            (pss_cons (ps_set (i := 8) nd rfl (Or.inl rfl) (pe_call ih hr (by rfl) g kp bR .nil pass0 (pa_cons (pv 0) (pa_cons (pe_tup (pa_cons (pv 4) (pa_cons (pe_op op_add (pv 5) pe_int) (pa_cons (pv 6) pa_nil)))) (pa_cons (pv 2) pa_nil)))))
            (pss_cons (ps_set (i := 7) nd rfl (Or.inl rfl) (pe_callB (call_max2 rfl) (by rfl) B.zMax (by decide +kernel) (pa_cons (pv 4) (pa_cons (pv 8) pa_nil))))
            (pss_one (ps_if (pt_chain op_le op_lt (pv 4) (pv 8) (pv 3)) (pss_one (ps_set (i := 7) nd rfl (Or.inl rfl) (pe_callB (call_max2 rfl) (by rfl) B.zMax (by decide +kernel) (pa_cons (pv 7) (pa_cons (pe_call ih hr (by rfl) g kp bR .nil pass0 (pa_cons (pv 0) (pa_cons (pe_tup (pa_cons (pe_op op_add (pv 8) pe_int) (pa_cons (pv 5) (pa_cons (pe_op op_add (pv 6) pe_int) pa_nil)))) (pa_cons (pv 2) pa_nil)))) pa_nil))))) pss_nil)))))))
        (pss_cons (ps_dput hu (pv 2) (pv 1) (pv 7) rfl)
        (pss_one (ps_ret (pv 7))))))), ?_⟩
      have hdg : ∀ {G : Hp} {ks : List K3} {q : Addr} {a : K3}, RAt G d T R ks → TN G q [a.1, a.2.1, a.2.2] → DGet G d (.ref q) (valV (rdict (rg T R) ks) (k3 a)) := fun h1 h2 => DGet.t h1 h2
      refine ⟨_, rfl, _, rfl, d, _, rfl, hdg (a := (l, x, y)) hd hq, _, rfl, ?_⟩
      rw [rdict_get]
      by_cases c : (l, x, y) ∈ ks
      · refine ifT (by rw [if_pos c]; rfl) ?_
        refine ⟨_, rfl, _, rfl, d, V.int (rv T R l x y), rfl, ?_, ?_⟩
        · have := hdg (a := (l, x, y)) hd hq
          rw [rdict_get, if_pos c] at this
          exact this
        · exact k ks H (kept_same (Same.refl _)) hd hG (fun _ h => h) c
      · refine ifF (by rw [if_neg c]; decide) ?_
        obtain ⟨t, r, hb0, ht, hrr⟩ := id hb
        refine ⟨_, rfl, b, _, (0 : Int), _, rfl, rfl, .inl (.inl hb0), rfl, t, _, rfl, .inr (tnL ht), ?_⟩
        rw [List.length_map, ok.t]
        refine ⟨_, rfl, q, _, rfl, tnL hq, rfl, _, _, rfl, _, _, rfl, _, _, rfl, rfl, ?_⟩
        refine ⟨fun σ H' => ∃ (t8 : Option V) (ks' : List K3), σ = [some (.ref b), some (.ref q), some (.ref d), some (vn n), some (vn l), some (vn x), some (vn y), some (.int (rv T R l x y)), t8] ∧ Kept d H H' ∧ RAt H' d T R ks' ∧ GoodK T R n ks' ∧ Sub3 ks ks' ∧
          (may T R l x y = true → l ≠ n → (l, x + 1, y) ∈ ks' ∧ ((l : Int) ≤ rv T R l (x + 1) y → rv T R l (x + 1) y < (n : Int) → ((rv T R l (x + 1) y).toNat + 1, x, y + 1) ∈ ks')), ?_, ?_⟩
        · refine ⟨_, rfl, _, rfl, b, q, n, l, x, y, T, R, rfl, hb, ok, hq, hk.kl, _, rfl, ?_⟩
          by_cases cm : may T R l x y = true
          · refine ifF (by rw [cm]; decide) ?_
            have es := rv_step hk cm
            rw [ok.t] at es
            refine ⟨_, rfl, _, rfl, rfl, _, rfl, ?_⟩
            by_cases cl : l = n
            · refine ifT (decide_eq_true (by rw [cl])) ?_
              rw [if_pos cl] at es
              refine ⟨_, rfl, none, ks, ?_, kept_same (Same.refl _), hd, hG, fun _ h => h, fun _ ne => absurd cl ne⟩
              rw [es, cl]; rfl
            · refine ifF (fun z => cl (by have := V.int.inj (of_decide_eq_true z); omega)) ?_
              rw [if_neg cl] at es
              have hx60 := may_x ok cm cl hk
              have hy60 := may_y ok cm hk
              have kl := hk.kl
              refine ⟨_, rfl, _, rfl, _, rfl, _, _, rfl, rfl, _, rfl, by show 3 ≤ sizeLine; decide, fun q2 nq2 => ?_⟩
              have S2 := smUpd (o := .tup [vn l, V.int ((x : Int) + 1), vn y]) nq2
              have hq2 : TN (upd H q2 (.tup [vn l, V.int ((x : Int) + 1), vn y])) q2 [l, x + 1, y] := by
                show upd H q2 _ q2 = _
                rw [upd_same]; rfl
              generalize upd H q2 (.tup [vn l, V.int ((x : Int) + 1), vn y]) = Ha at S2 hq2 ⊢
              refine ⟨_, rfl, b, q2, d, n, l, x + 1, y, T, R, ks, rfl, buSame S2 hb, ok, hq2, ⟨hk.kl, by omega, hk.ky, hk.kz⟩, by omega, S2 _ _ hd, hG, fun ks1 H1 k1 hd1 hG1 sub1 mem1 => ?_⟩
              have k01 : Kept d H H1 := kept_trans (kept_same S2) k1
              refine ⟨_, rfl, _, rfl, _, _, rfl, ?_⟩
              generalize hmv : rv T R l (x + 1) y = mv at es ⊢
              refine ⟨_, rfl, _, rfl, _, _, rfl, rfl, _, rfl, ?_⟩
              by_cases d1 : (l : Int) ≤ mv
              · refine ifT (decide_eq_true d1) ?_
                obtain ⟨p, rfl⟩ := Int.eq_ofNat_of_zero_le (show 0 ≤ mv by omega)
                rw [if_neg (by omega)] at es
                have em : (if ((p : Nat) : Int) > ((l : Nat) : Int) then ((p : Nat) : Int) else ((l : Nat) : Int)) = ((p : Nat) : Int) := by
                  split <;> omega
                refine ⟨_, rfl, _, _, rfl, rfl, _, rfl, ?_⟩
                by_cases d2 : ((p : Nat) : Int) < ((n : Nat) : Int)
                · refine ifT (decide_eq_true d2) ?_
                  rw [if_pos d2, Int.toNat_natCast] at es
                  rw [em]
                  refine ⟨_, rfl, _, rfl, _, rfl, _, _, rfl, rfl, _, rfl, _, rfl, _, _, rfl, rfl, by show 3 ≤ sizeLine; decide, fun q3 nq3 => ?_⟩
                  have S3 := smUpd (o := .tup [V.int ((p : Int) + 1), vn x, V.int ((y : Int) + 1)]) nq3
                  have hq3 : TN (upd H1 q3 (.tup [V.int ((p : Int) + 1), vn x, V.int ((y : Int) + 1)])) q3 [p + 1, x, y + 1] := by
                    show upd H1 q3 _ q3 = _
                    rw [upd_same]; rfl
                  have hd3 := S3 _ _ hd1
                  generalize upd H1 q3 (.tup [V.int ((p : Int) + 1), vn x, V.int ((y : Int) + 1)]) = Hb at S3 hq3 hd3 ⊢
                  refine ⟨_, rfl, b, q3, d, n, p + 1, x, y + 1, T, R, ks1, rfl, buSame S3 (buKept hd k01 hb), ok, hq3, ⟨by omega, hk.kx, by omega, fun z => by omega⟩, by omega, hd3, hG1, fun ks2 H2 k2 hd2 hG2 sub2 mem2 => ?_⟩
                  refine ⟨_, _, rfl, some (vn p), ks2, ?_, kept_trans k01 (kept_trans (kept_same S3) k2), hd2, hG2, fun z hz => sub2 z (sub1 z hz), fun _ _ => ⟨sub2 _ mem1, fun _ _ => ?_⟩⟩
                  · rw [es]
                    show [_, _, _, _, _, _, _, some (V.int (if rv T R (p + 1) x (y + 1) > ((p : Nat) : Int) then rv T R (p + 1) x (y + 1) else ((p : Nat) : Int))), _] = _
                    rw [show (if rv T R (p + 1) x (y + 1) > ((p : Nat) : Int) then rv T R (p + 1) x (y + 1) else ((p : Nat) : Int)) = max ((p : Nat) : Int) (rv T R (p + 1) x (y + 1)) from by split <;> omega]
                  · rw [Int.toNat_natCast]; exact mem2
                · refine ifF (fun z => d2 (of_decide_eq_true z)) ?_
                  rw [if_neg d2] at es
                  rw [em]
                  refine ⟨some (vn p), ks1, ?_, k01, hd1, hG1, sub1, fun _ _ => ⟨mem1, fun _ z => absurd z d2⟩⟩
                  rw [es]; rfl
              · refine ifF (fun z => d1 (of_decide_eq_true z)) ?_
                rw [if_pos (by omega)] at es
                refine ⟨_, rfl, ?_⟩
                refine ifF (by decide) ?_
                refine ⟨some (.int mv), ks1, ?_, k01, hd1, hG1, sub1, fun _ _ => ⟨mem1, fun z _ => absurd z d1⟩⟩
                rw [es, if_neg (by omega)]; rfl
          · have cm' : may T R l x y = false := by cases h : may T R l x y <;> simp_all
            refine ifT (by rw [cm']; rfl) ?_
            refine ⟨_, rfl, _, _, rfl, rfl, none, ks, ?_, kept_same (Same.refl _), hd, hG, fun _ h => h, fun z => absurd z cm⟩
            rw [rv_no cm']; rfl
        · rintro σ2 H2 ⟨t8, ks', rfl, k', hd', hG', sub', cc⟩
          have hq' : H2 q = some (.tup ((k3 (l, x, y)).map kV)) := tnKept hd k' hq
          refine ⟨_, rfl, _, rfl, _, rfl, d, _, rfl, DPut.t (k := k3 (l, x, y)) hd' hq' (by rw [rdict_len]; exact Nat.lt_of_le_of_lt (goodK_len ok.n60 hG') (by decide)), _, rfl, ?_⟩
          have kk : ∀ o, Kept d H (upd H2 d o) := fun o => kept_trans k' kept_hand
          by_cases c2 : (l, x, y) ∈ ks'
          · have e : putK (rdict (rg T R) ks') (k3 (l, x, y)) (V.int (rv T R l x y)) = rdict (rg T R) ks' := rdict_same (g := rg T R) c2
            rw [e]
            exact k ks' _ (kk _) upd_same hG' sub' c2
          · have e : putK (rdict (rg T R) ks') (k3 (l, x, y)) (V.int (rv T R l x y)) = rdict (rg T R) (ks' ++ [(l, x, y)]) := rdict_put (g := rg T R) c2
            rw [e]
            exact k (ks' ++ [(l, x, y)]) _ (kk _) upd_same (goodK_add hG' c2 hk cc) (fun z hz => List.mem_append.mpr (.inl (sub' z hz))) (List.mem_append.mpr (.inr (List.mem_singleton.mpr rfl)))
theorem dReach (B : Defs K mg C) : Def P w K mg base "_reach" 125 ["budgets", "key", "found"] (spReach 123) := by
  obtain ⟨f, fd, D⟩ := B.rea
  exact ⟨f, fd, ok_reach B D.F D.g D.b 123, D.g, D.F.kp, D.b⟩
def spReaches (C : Addr) : Sp := fun vs H Q _ => ∃ (a b : Addr) (n : Nat) (T R : List Nat), vs = [.ref a, .ref b] ∧ FoAt C H a (rowF n) ∧ BuAt H b T R ∧ BuOk n T R ∧
  ∀ d ks H', Same H H' → H d = none → RAt H' d T R ks → GoodK T R n ks → (0, 0, 0) ∈ ks → Q (.ref d) H'
def nReaches : List Str := ["forest", "budgets", "found"]
theorem scReaches : FnScope nReaches ["forest", "budgets"] (defScope sReaches) := ⟨rfl, rfl, rfl, by decide +kernel, rfl, by decide +kernel, by decide +kernel⟩
theorem dReaches (B : Defs K mg C) : Def P w K mg base "reaches" 126 ["forest", "budgets"] (spReaches C) := by
  obtain ⟨fR, fdR, GR, gR, kR, bR⟩ := dReach (P := P) (w := w) (base := base) B
  obtain ⟨fC, fdC, GC, gC, kC, bC⟩ := dCheckRB (P := P) (w := w) (base := base) B
  have nd := scReaches.nd
  refine def_of B.rcs fun f fd F => ?_
  refine F.ok scReaches (fun vs H Q E h => ?_) (fun cdv A outer s H vs Q E hr h => ?_)
  · obtain ⟨a, b, n, T, R, rfl, _⟩ := h
    rfl
  · obtain ⟨a, b, n, T, R, rfl, hF, hb, ok, k⟩ := h
    have h8 : Room 8 (A.deeper (envOfC "reaches" (defScope sReaches) s.heap.objs.size f cdv)) := Room.mono hr (by decide)
    refine ⟨_, pss_cons (ps_expr (pe_call GC h8 (by rfl) gC kC bC .nil pass0 (pa_cons (pv 0) (pa_cons (pv 1) pa_nil))))
      (pss_cons (ps_set (i := 2) nd rfl (Or.inl rfl) pe_dnewT)
      (pss_cons (ps_expr (pe_call GR hr (by rfl) gR kR bR .nil pass0 (pa_cons (pv 1) (pa_cons (pe_tup (pa_cons pe_int (pa_cons pe_int (pa_cons pe_int pa_nil)))) (pa_cons (pv 2) pa_nil)))))
      (pss_one (ps_ret (pv 2))))), ?_⟩
    refine ⟨_, rfl, _, rfl, a, b, n, T, R, rfl, hF, hb, ok, fun H1 s1 => ?_⟩
    intro d nd1
    have n0 : H d = none := noneBack s1 nd1
    have S2 := s1.trans (smUpd (o := .dT []) nd1)
    have hd : upd H1 d (.dT []) d = some (.dT []) := upd_same
    generalize upd H1 d (.dT []) = H2 at S2 hd ⊢
    refine ⟨_, rfl, by show 3 ≤ sizeLine; decide, fun q nq => ?_⟩
    have S3 := smUpd (o := .tup [V.int 0, V.int 0, V.int 0]) nq
    have hq : TN (upd H2 q (.tup [V.int 0, V.int 0, V.int 0])) q [0, 0, 0] := by
      show upd H2 q _ q = _
      rw [upd_same]; rfl
    have hd3 := S3 _ _ hd
    generalize upd H2 q (.tup [V.int 0, V.int 0, V.int 0]) = H3 at S3 hq hd3 ⊢
    refine ⟨_, rfl, b, q, d, n, 0, 0, 0, T, R, [], rfl, buSame (S2.trans S3) hb, ok, hq, ⟨Nat.zero_le _, by omega, by omega, fun _ => by omega⟩, by omega, hd3, ⟨List.nodup_nil, fun k hk => (by cases hk), fun k hk => (by cases hk)⟩, fun ks H4 k4 hd4 hG4 _ hm => ?_⟩
    refine ⟨_, rfl, ?_⟩
    exact k d ks H4 (fun c o e => k4 c o (fun z => by rw [z, n0] at e; cases e) ((S2.trans S3) _ _ e)) n0 hd4 hG4 hm
end
end Cn
namespace Cn
open PySem PySem.Spec PyProof.Rows L2
/-! for k, v in d.items(), the keys of d tuples; d locked -/
def Itit (d : Addr) (o : Obj) (kvs : List (List Key × V)) : It :=
  ⟨fun i H => H d = some (.frz o (.dT kvs)) ∧ i < kvs.length, fun i H x H' => ∃ (T q : Addr) (k : List Key) (v : V), kvs[i]? = some (k, v) ∧ x = .ref T ∧ H T = none ∧ H q = some (.tup (k.map kV)) ∧ H' = upd H T (.tup [.ref q, v]),
    fun i H => H d = some (.frz o (.dT kvs)) ∧ kvs.length ≤ i⟩
section
variable {X : Cx} {pins : List (Addr × Obj)} {σ : L2.St} {H : Hp} {s : Shared} {d : Addr} {o : Obj}
theorem frzT2 {kvs : List (List Key × V)} (I : Inv X pins σ H s) (h : H d = some (.frz o (.dT kvs))) : (d == sysModules) = false ∧ s.heap.get? d = some o ∧ o.ExactDict ∧ ∃ (es : Array DictEntry) (ep : Nat), o.data = .dict es ep ∧ es.size = kvs.length ∧
    ∀ (i : Nat) (k : List Key) (v : V), kvs[i]? = some (k, v) → ∃ (en : DictEntry) (q : Addr), es[i]? = some en ∧ en.key = .ref q ∧ RelV v en.val ∧ H q = some (.tup (k.map kV)) := by
  obtain ⟨hg, _, hs, xs, pr, o', es, ep, ho, hx, hdt, he, _⟩ := I.hok d _ h
  rw [hg] at ho
  cases ho
  refine ⟨hs, hg, hx, es, ep, hdt, ?_, fun i k v e => ?_⟩
  · rw [size_of_entries he, Paired.length pr]
  · obtain ⟨b, hb, b1, b2, b3⟩ := L2.paired_get pr e
    have q := entry_at he i
    rw [hb] at q
    exact ⟨_, b.2.1, q, rfl, b3, b2⟩
end
theorem turn_itemsT {P : Program} {w : World} {K : PySem.W.Frag} {d : Addr} {o : Obj} {es : Array DictEntry} {ep : Nat} {kvs : List (List Key × V)} {elts : List Expr} {kk : Nat} {tpos : Pos} (it : Addr) (hod : o.data = .dict es ep) :
    Turn P w K (.Tuple elts kk tpos) (Itit d o kvs) [it] it (fun i h => ∃ a b, IsItemIter h it d i kvs.length ep a b) where
  mem := by simp
  obj := fun i h st b hb => by
    obtain ⟨a, c, e⟩ := st
    have eb : b = it := by simpa using hb
    rw [eb]
    exact ⟨_, e, fun v z => nomatch z⟩
  keep := fun i h h' st k => by
    obtain ⟨a, c, e⟩ := st
    exact ⟨a, c, k it (by simp) _ e⟩
  item := by
    intro X hP hw hK hc i pins s σ H E I hf st hg
    subst hP hw hK
    obtain ⟨hd, hi⟩ := hg
    obtain ⟨_, hgd, hx, es', ep', hdt, hsz, ent⟩ := frzT2 I hd
    obtain ⟨rfl, rfl⟩ := dict_ep hod hdt
    obtain ⟨⟨k, v⟩, hkv⟩ : ∃ p, kvs[i]? = some p := ⟨kvs[i], List.getElem?_eq_getElem hi⟩
    obtain ⟨en, q, hen, hkey, hval, hq⟩ := ent i k v hkv
    obtain ⟨a, c, he⟩ := st
    rw [← hsz] at he
    have hlt : it < s.heap.objs.size := Heap.lt_size he
    have hie : i < es'.size := by omega
    have ee : es'[i] = en := by
      rw [Array.getElem?_eq_getElem hie] at hen
      exact Option.some.inj hen
    refine wpAny_pyNext_items_item_raw he ⟨o, hgd, hx, hdt⟩ hie fun h' ho hT hz hk => ?_
    rw [ee] at ho hT
    refine ⟨_, rfl, wpAny_letOwnedTupleGo_items (s := { s with heap := h' }) ho fun h'' he' sb => ?_⟩
    have hT2 : h''.get? s.heap.objs.size = some { cls := .type "tuple", data := .seq #[en.key, en.val] } := (sb.2 _ (Nat.ne_of_gt hlt)).trans hT
    have new : ObjOk X.prog X.w (upd H s.heap.objs.size (.tup [.ref q, v])) h'' s.heap.objs.size (.tup [.ref q, v]) :=
      ⟨by show 2 ≤ sizeLine; decide, [en.key, en.val], .cons hkey (.cons hval .nil), ⟨_, hT2, rfl, _, rfl⟩⟩
    have I1 : Inv X pins σ (upd H s.heap.objs.size (.tup [.ref q, v])) { s with heap := h'' } :=
      I.turnedNew (t' := s.toks) (ch := [it]) (fun b ob hb e => (sb.2 b (by simpa using hb)).trans (hk b ob (by simpa using hb) e)) hf (Nat.le_refl _) new
    refine ⟨.ref s.heap.objs.size, _, I1, rfl, ⟨_, q, k, v, hkv, rfl, I.hok.fresh (Nat.le_refl _), hq, rfl⟩, ⟨en.key, en.val, ?_⟩, fun b hb => ?_⟩
    · rw [← hsz]; exact he'
    · have eb : b = it := by simpa using hb
      rw [eb, upd_ne (Nat.ne_of_lt hlt)]
      exact (hf it (by simp)).1
  done := by
    intro X hP hw hK hc i pins s σ H E I hf st hg
    subst hP hw hK
    obtain ⟨hd, hi⟩ := hg
    obtain ⟨f0, f1, f2, f3, f4, f5⟩ := hf it (by simp)
    obtain ⟨_, hgd, hx, es', ep', hdt, hsz, _⟩ := frzT2 I hd
    obtain ⟨rfl, rfl⟩ := dict_ep hod hdt
    obtain ⟨a, c, he⟩ := st
    rw [← hsz] at he
    exact wpAny_pyNext_items_end_raw (I.ok.hd hc) he ⟨o, hgd, hx, hdt⟩ (by omega) fun h' eb => ⟨rfl, I.turned (t' := s.toks) (fun b ob hb e => eb b ob hb e) f0 f1 f3 f4 f5⟩
  self := fun A i s Q E st h => let ⟨_, _, e⟩ := st; PySem.W.kcp_self e h
def iItemsT (td : TE) : TI := fun σ H R => td σ H fun x H1 => ∃ d o kvs, x = .ref d ∧ H1 d = some (.frz o (.dT kvs)) ∧ R (Itit d o kvs) H1
theorem pi_itemsT {X : Cx} {e : Expr} {td : TE} {apos cpos tpos : Pos} {elts : List Expr} {kk : Nat} (he : PE X e td) (hbase : attributeBase e "items" X.env (eval e X.env) = eval e X.env := by rfl) (hline : (apos.endLine == cpos.line) = true := by rfl) :
    PI X (.Tuple elts kk tpos) (.Call (.Attribute e "items" apos) [] [] cpos) (iItemsT td) := by
  refine ⟨fun pins s σ H R I h => ?_⟩
  refine wpAny_Call_method (T := "dict") (id := "dict.items") hbase rfl hline F.plainAttrs_dict F.slot_dict_items F.type_dict_items (thn (he.run pins s σ H _ I h) fun u s1 ⟨x, H1, I1, rx, d, o, kvs, ex, hd, q⟩ => ?_)
  subst ex
  obtain rfl : u = Value.ref d := rx
  obtain ⟨hs, hgd, hx, es, ep, hdt, hsz, _⟩ := frzT2 I1 hd
  have hm : s1.heap.DictRaw d es ep := ⟨o, hgd, hx, hdt⟩
  refine ⟨hm.typeIs, ?_, ?_⟩
  · exact fun b e => by cases e; exact ⟨o, hgd, hx.2.1⟩
  have I2 : Inv X pins σ H1 { s1 with heap := s1.heap.push { cls := .type "dict_items", data := .fields #[.ref d] } } := I1.kept (t' := s1.toks) fun b ob q => Heap.get?_push_of_some _ q
  have fin : wpAny (model X.prog X.w) X.A (pyIter (.ref s1.heap.objs.size)) (PIE X pins σ (.Tuple elts kk tpos) R) X.xe { s1 with heap := s1.heap.push { cls := .type "dict_items", data := .fields #[.ref d] } } := by
    refine wpAny_pyIter_items_raw (d := d) ⟨_, Heap.get?_push_size _ rfl, rfl, rfl⟩ ⟨o, Heap.get?_push_of_some _ hgd, hx, hdt⟩ (pi_one (tk := s1.toks) I2 _ (turn_itemsT _ hdt) ⟨.none, .none, ?_⟩ q)
    rw [← hsz]
    exact Heap.get?_push_size _ rfl
  show wpAny _ _ (callWith cpos (.builtin "dict.items") [.ref d] [] []) _ X.xe s1
  exact method_meetsIn F.slot_dict_items F.entry_dict_items rfl (PySem.evalArgs_none ⟨rfl, hm.typeIs, F.args_dict_items_1 _, _, meets_dict_items_raw d hs, ⟨es, ep, hm⟩, fin⟩)
def YItT (kvs : List (List Key × V)) : Nat → Hp → V → Hp → Prop := fun i H x H' => ∃ (T q : Addr) (k : List Key) (v : V), kvs[i]? = some (k, v) ∧ x = .ref T ∧ H T = none ∧ H q = some (.tup (k.map kV)) ∧ H' = upd H T (.tup [.ref q, v])
theorem walk_itemsT {d : Addr} {o : Obj} {kvs : List (List Key × V)} : Walk (Itit d o kvs) kvs.length (fun H => H d = some (.frz o (.dT kvs))) (YItT kvs) :=
  ⟨fun i H hi h => ⟨h, hi⟩, fun H h => ⟨h, Nat.le_refl _⟩, fun i H x H' _ _ y => y⟩
end Cn
namespace Cn
open PySem PySem.Spec PyProof.Rows L2 Ck
section
variable {P : Program} {w : World} {K : PySem.W.Frag} {mg : Str → Option Value} {base : Heap} {C : Addr}
theorem dctTy {H : Hp} {a : Addr} {kvs : List (List Key × V)} (h : H a = some (.dT kvs)) : TyX K H (.ref a) (.type "dict") := .base (.dT h)
theorem rdict_at {g : K3 → Int} {ks : List K3} {i : Nat} {k : List Key} {v : V} (h : (rdict g ks)[i]? = some (k, v)) : ∃ a, ks[i]? = some a ∧ k = k3 a ∧ v = V.int (g a) := by
  unfold rdict at h
  rw [List.getElem?_map] at h
  cases e : ks[i]? with
  | none => rw [e] at h; cases h
  | some a =>
    rw [e] at h
    cases h
    exact ⟨a, rfl, rfl, rfl⟩
theorem rget {H : Hp} {d q : Addr} {T R : List Nat} {ks : List K3} {a : K3} (hd : Rd H d (.dT (rdict (rg T R) ks))) (hq : TN H q [a.1, a.2.1, a.2.2]) (hm : a ∈ ks) : DGet H d (.ref q) (some (V.int (rg T R a))) := by
  refine .inr ⟨_, k3 a, q, hd, rfl, hq, ?_⟩
  rw [rdict_get, if_pos hm]
/-- the number at a key is as great as it must be -/
def spBorne : Sp := fun vs H Q _ => ∃ (b q d : Addr) (n l x y : Nat) (T R : List Nat) (ks : List K3), vs = [.ref b, .ref q, .ref d] ∧ BuAt H b T R ∧ BuOk n T R ∧ TN H q [l, x, y] ∧ Rd H d (.dT (rdict (rg T R) ks)) ∧ GoodK T R n ks ∧ (l, x, y) ∈ ks ∧ ∀ H', Same H H' → Q (.bl true) H'
def nBorne : List Str := ["budgets", "key", "told", "places", "gap", "lefts", "rights", "number", "left_key", "left_part", "right_key"]
theorem scBorne : FnScope nBorne ["budgets", "key", "told"] (defScope sBorne) := ⟨rfl, rfl, rfl, by decide +kernel, rfl, by decide +kernel, by decide +kernel⟩
theorem dBorne (B : Defs K mg C) : Def P w K mg base "_is_borne_out" 2 ["budgets", "key", "told"] spBorne := by
  obtain ⟨fM, fdM, GM, gM, kM, bM⟩ := dMayEnd (P := P) (w := w) (base := base) B
  have N := B.N
  have nd := scBorne.nd
  refine def_of B.bor fun f fd F => ?_
  refine F.ok scBorne (fun vs H Q E h => ?_) (fun cdv A outer s H vs Q E hr h => ?_)
  · obtain ⟨b, q, d, n, l, x, y, T, R, ks, rfl, _⟩ := h
    rfl
  · obtain ⟨b, q, d, n, l, x, y, T, R, ks, rfl, hb, ok, hq, hd, hG, hm, k⟩ := h
    have hu : (A.deeper (envOfC "_is_borne_out" (defScope sBorne) s.heap.objs.size f cdv)).units + 1 < cLine := by have := hr.units; omega
    refine ⟨_, pss_cons (ps_set (i := 3) nd rfl (Or.inl rfl) (pe_callB call_len_seq (by rfl) N.is.len PySem.boot_len (pa_cons (pe_ix ix_tup (pv 0) pe_int (fun _ _ => rfl)) pa_nil)))
      (pss_cons (ps_asg (pv 1) (pg_tup rfl (pgs_cons (pg_name (i := 4) nd rfl (Or.inl rfl)) (pgs_cons (pg_name (i := 5) nd rfl (Or.inl rfl)) (pgs_cons (pg_name (i := 6) nd rfl (Or.inl rfl)) pgs_nil)))))
      (pss_cons (ps_set (i := 7) nd rfl (Or.inl rfl) (pe_dget hu (pv 2) (pv 1) (fun _ _ => rfl)))
      (pss_cons (ps_if (pt_not (pt_val (pe_call GM hr (by rfl) gM kM bM .nil pass0 (pa_cons (pv 0) (pa_cons (pv 1) pa_nil))))) (pss_one (ps_ret (pe_cmpR op_ge (pv 7) (pe_op op_sub (pv 4) pe_int) (nomark _)))) pss_nil)
      (pss_cons (ps_if (pt_cmpR op_eq (pv 4) (pv 3) (nomark _)) (pss_one (ps_ret (pe_cmpR op_ge (pv 7) (pv 3) (nomark _)))) pss_nil)
      (pss_cons (ps_set (i := 8) nd rfl (Or.inl rfl) (pe_tup (pa_cons (pv 4) (pa_cons (pe_op op_add (pv 5) pe_int) (pa_cons (pv 6) pa_nil)))))
      (pss_cons (ps_if (PW.pt (pw_or (pt_cmpR op_lt (pv 7) (pv 4) (nomark _)) (pw_or1 (pt_cmp (pc_dnotin hu (pv 8) (pv 2)))))) (pss_one ps_never) pss_nil)
      (pss_cons (ps_set (i := 9) nd rfl (Or.inl rfl) (pe_dget hu (pv 2) (pv 8) (fun _ _ => rfl)))
      (pss_cons (ps_if (pt_cmpR op_lt (pv 9) (pv 4) (nomark _)) (pss_one (ps_ret pe_bl)) pss_nil)
      (pss_cons (ps_if (pt_cmpR op_ge (pv 9) (pv 3) (nomark _)) (pss_one (ps_ret (pe_cmpR op_ge (pv 7) (pv 9) (nomark _)))) pss_nil)
      (pss_cons (ps_set (i := 10) nd rfl (Or.inl rfl) (pe_tup (pa_cons (pe_op op_add (pv 9) pe_int) (pa_cons (pv 5) (pa_cons (pe_op op_add (pv 6) pe_int) pa_nil)))))
      (pss_one (ps_ret (pe_and (pe_cmpR op_ge (pv 7) (pv 9) (nomark _)) (pe_and (pe_cmp (pc_din hu (pv 10) (pv 2))) (pe_one (pe_cmpR op_ge (pv 7) (pe_dget hu (pv 2) (pv 10) (fun _ _ => rfl)) (nomark _))))))))))))))))), ?_⟩
    obtain ⟨t, r, hb0, ht, hrr⟩ := id hb
    have hk : KOk n l x y := hG.ok _ hm
    have kl : l ≤ n := hk.kl
    refine ⟨_, rfl, b, _, (0 : Int), _, rfl, rfl, .inl (.inl hb0), rfl, t, _, rfl, .inr (tnL ht), ?_⟩
    rw [List.length_map, ok.t]
    refine ⟨_, rfl, q, _, rfl, tnL hq, rfl, _, _, rfl, _, _, rfl, _, _, rfl, rfl, ?_⟩
    refine ⟨_, rfl, _, rfl, d, V.int (rv T R l x y), rfl, rget (a := (l, x, y)) hd hq hm, ?_⟩
    refine ⟨_, rfl, _, rfl, b, q, n, l, x, y, T, R, rfl, hb, ok, hq, kl, _, rfl, ?_⟩
    have fin : ∀ (c : Bool) (H' : Hp), Same H H' → c = true → Q (.bl c) H' := fun c H' s e => e ▸ k H' s
    by_cases cm : may T R l x y = true
    · refine ifF (by rw [cm]; decide) ?_
      have es := rv_step hk cm
      rw [ok.t] at es
      refine ⟨_, rfl, _, rfl, rfl, _, rfl, ?_⟩
      by_cases cl : l = n
      · refine ifT (decide_eq_true (by rw [cl])) ?_
        rw [if_pos cl] at es
        refine ⟨_, rfl, _, rfl, _, _, rfl, rfl, ?_⟩
        exact fin _ H (Same.refl _) (decide_eq_true (show ((n : Nat) : Int) ≤ rv T R l x y from by omega))
      · refine ifF (fun z => cl (by have := V.int.inj (of_decide_eq_true z); omega)) ?_
        rw [if_neg cl] at es
        obtain ⟨c1, c2⟩ := hG.cl _ hm cm cl
        have g1 := rv_ge (T := T) (R := R) (l := l) (x := x + 1) (y := y)
        refine ⟨_, rfl, _, rfl, _, _, rfl, rfl, _, rfl, by show 3 ≤ sizeLine; decide, fun q2 nq2 => ?_⟩
        have S2 := smUpd (o := .tup [vn l, V.int ((x : Int) + 1), vn y]) nq2
        have hq2 : TN (upd H q2 (.tup [vn l, V.int ((x : Int) + 1), vn y])) q2 [l, x + 1, y] := by
          show upd H q2 _ q2 = _
          rw [upd_same]; rfl
        generalize upd H q2 (.tup [vn l, V.int ((x : Int) + 1), vn y]) = Ha at S2 hq2 ⊢
        have hdA : Rd Ha d (.dT (rdict (rg T R) ks)) := hd.imp (S2 _ _) fun ⟨o, e⟩ => ⟨o, S2 _ _ e⟩
        have hl : ((l : Nat) : Int) ≤ rv T R l x y := by
          rw [es]
          split
          · omega
          · split
            · have := Int.le_max_left (rv T R l (x + 1) y) (rv T R ((rv T R l (x + 1) y).toNat + 1) x (y + 1))
              omega
            · omega
        have gl : DGet Ha d (.ref q2) (some (V.int (rv T R l (x + 1) y))) := rget (a := (l, x + 1, y)) hdA hq2 c1
        refine ⟨_, rfl, _, rfl, _, _, rfl, rfl, _, rfl, ?_⟩
        refine ifF (fun z => by have := of_decide_eq_true z; omega) ?_
        refine ⟨_, rfl, _, rfl, d, _, rfl, gl, _, rfl, ?_⟩
        refine ifF (fun z => nomatch (show false = true from z)) ?_
        refine ⟨_, rfl, _, rfl, d, _, rfl, gl, ?_⟩
        generalize hmv : rv T R l (x + 1) y = mv at es g1 c2 ⊢
        refine ⟨_, rfl, _, rfl, _, _, rfl, rfl, _, rfl, ?_⟩
        by_cases d1 : mv < (l : Int)
        · refine ifT (decide_eq_true d1) ?_
          exact k Ha S2
        · refine ifF (fun z => d1 (of_decide_eq_true z)) ?_
          rw [if_neg d1] at es
          refine ⟨_, rfl, _, rfl, _, _, rfl, rfl, _, rfl, ?_⟩
          by_cases d2 : mv < (n : Int)
          · refine ifF (fun z => by have := of_decide_eq_true z; omega) ?_
            rw [if_pos d2] at es
            have c3 := c2 (by omega) d2
            obtain ⟨p, rfl⟩ := Int.eq_ofNat_of_zero_le (show 0 ≤ mv by omega)
            have c3 : (p + 1, x, y + 1) ∈ ks := c3
            rw [Int.toNat_natCast] at es
            have m1 := Int.le_max_left ((p : Nat) : Int) (rv T R (p + 1) x (y + 1))
            have m2 := Int.le_max_right ((p : Nat) : Int) (rv T R (p + 1) x (y + 1))
            refine ⟨_, rfl, _, _, rfl, rfl, _, rfl, _, rfl, _, _, rfl, rfl, by show 3 ≤ sizeLine; decide, fun q3 nq3 => ?_⟩
            have S3 := smUpd (o := .tup [V.int ((p : Int) + 1), vn x, V.int ((y : Int) + 1)]) nq3
            have hq3 : TN (upd Ha q3 (.tup [V.int ((p : Int) + 1), vn x, V.int ((y : Int) + 1)])) q3 [p + 1, x, y + 1] := by
              show upd Ha q3 _ q3 = _
              rw [upd_same]; rfl
            generalize upd Ha q3 (.tup [V.int ((p : Int) + 1), vn x, V.int ((y : Int) + 1)]) = Hb at S3 hq3 ⊢
            have hdB : Rd Hb d (.dT (rdict (rg T R) ks)) := hdA.imp (S3 _ _) fun ⟨o, e⟩ => ⟨o, S3 _ _ e⟩
            have gr : DGet Hb d (.ref q3) (some (V.int (rv T R (p + 1) x (y + 1)))) := rget (a := (p + 1, x, y + 1)) hdB hq3 c3
            refine ⟨_, rfl, _, rfl, _, _, rfl, rfl, _, rfl, ?_⟩
            refine ifT (decide_eq_true (by omega)) ?_
            refine ⟨_, rfl, _, rfl, d, _, rfl, gr, _, rfl, ?_⟩
            refine ifT rfl ?_
            refine ⟨_, rfl, _, rfl, _, rfl, d, _, rfl, gr, _, _, rfl, rfl, ?_⟩
            exact fin _ Hb (S2.trans S3) (decide_eq_true (show rv T R (p + 1) x (y + 1) ≤ rv T R l x y from by omega))
          · refine ifT (decide_eq_true (by omega)) ?_
            rw [if_neg d2] at es
            refine ⟨_, rfl, _, rfl, _, _, rfl, rfl, ?_⟩
            exact fin _ Ha S2 (decide_eq_true (show mv ≤ rv T R l x y from by omega))
    · have cm' : may T R l x y = false := by cases h : may T R l x y <;> simp_all
      refine ifT (by rw [cm']; rfl) ?_
      refine ⟨_, rfl, _, rfl, _, _, rfl, rfl, _, _, rfl, rfl, ?_⟩
      exact fin _ H (Same.refl _) (decide_eq_true (show ((l : Nat) : Int) - 1 ≤ rv T R l x y from by rw [rv_no cm']; omega))
/-- reaches made here are let -/
def spIsReaches (C : Addr) : Sp := fun vs H Q _ => ∃ (a b d : Addr) (n : Nat) (T R : List Nat) (ks : List K3), vs = [.ref a, .ref b, .ref d] ∧ FoAt C H a (rowF n) ∧ BuAt H b T R ∧ BuOk n T R ∧ RAt H d T R ks ∧ GoodK T R n ks ∧ (0, 0, 0) ∈ ks ∧ ∀ H', Same H H' → Q (.bl true) H'
def nIsReaches : List Str := ["forest", "budgets", "thing", "key", "number"]
theorem scIsReaches : FnScope nIsReaches ["forest", "budgets", "thing"] (defScope sIsReaches) := ⟨rfl, rfl, rfl, by decide +kernel, rfl, by decide +kernel, by decide +kernel⟩
theorem sameBack {H H' : Hp} {d : Addr} {u : HO} (k : Kept d H H') (h : H d = some u) : Same H (upd H' d u) := fun c o e => by
  by_cases z : c = d
  · rw [z] at e ⊢
    rw [h] at e
    rw [upd_same, e]
  · rw [upd_ne z]
    exact k c o z e
theorem all_rep (m : Nat) : (List.replicate m true).all id = true := by
  induction m with
  | zero => rfl
  | succ m ih => rw [List.replicate_succ]; exact ih
theorem dIsReaches (B : Defs K mg C) : Def P w K mg base "is_reaches" 9 ["forest", "budgets", "thing"] (spIsReaches C) := by
  obtain ⟨fC, fdC, GC, gC, kC, bC⟩ := dCheckRB (P := P) (w := w) (base := base) B
  obtain ⟨fB, fdB, GB, gB, kB, bB⟩ := dBorne (P := P) (w := w) (base := base) B
  obtain ⟨fN, fdN, GN, gN, kN, bN⟩ := dIsNumbers (P := P) (w := w) (base := base) B
  obtain ⟨fI, fdI, GI, gI, kI, bI⟩ := dInt (P := P) (w := w) (base := base) B
  have N := B.N
  have T0 := B.T
  have nd := scIsReaches.nd
  refine def_of B.irs fun f fd F => ?_
  refine F.ok scIsReaches (fun vs H Q E h => ?_) (fun cdv A outer s H vs Q E hr h => ?_)
  · obtain ⟨a, b, d, n, T, R, ks, rfl, _⟩ := h
    rfl
  · obtain ⟨a, b, d, n, T, R, ks, rfl, hF, hb, ok, hd, hG, hm, k⟩ := h
    have h2 : Room 2 (A.deeper (envOfC "is_reaches" (defScope sIsReaches) s.heap.objs.size f cdv)) := Room.mono hr (by decide)
    have h1 : Room 1 (A.deeper (envOfC "is_reaches" (defScope sIsReaches) s.heap.objs.size f cdv)) := Room.mono hr (by decide)
    have hu : (A.deeper (envOfC "is_reaches" (defScope sIsReaches) s.heap.objs.size f cdv)).units + 1 < cLine := by have := hr.units; omega
    refine ⟨_, pss_cons (ps_expr (pe_call GC hr (by rfl) gC kC bC .nil pass0 (pa_cons (pv 0) (pa_cons (pv 1) pa_nil))))
      (pss_cons (ps_if (pt_not (pt_val (pe_callB call_isi (by rfl) N.is.inst (by decide +kernel) (pa_cons (pv 2) (pa_cons (pe_bltn (v := .ty "dict") (by rfl) B.zDict (by decide +kernel) rfl) pa_nil))))) (pss_one ps_never) pss_nil)
      (pss_cons (ps_lock (ps_for PassesOwn.never rfl (pi_itemsT (pv 2)) (pg_tup rfl (pgs_cons (pg_name (i := 3) nd rfl (Or.inl rfl)) (pgs_cons (pg_name (i := 4) nd rfl (Or.inl rfl)) pgs_nil)))
        (pss_one (ps_if (PW.pt (pw_or (pt_not (pt_val (pe_call GN h2 (by rfl) gN kN bN .nil pass0 (pa_cons (pv 3) (pa_cons pe_int pa_nil))))) (pw_or (pt_cmpR op_gt (pe_ix ix_tup (pv 3) pe_int (fun _ _ => rfl)) (pe_callB call_len_seq (by rfl) N.is.len PySem.boot_len (pa_cons (pe_fld (pv 0) rfl) pa_nil)) (nomark _)) (pw_or1 (pt_not (pt_val (pe_call GI h1 (by rfl) gI kI bI .nil pass0 (pa_cons (pv 4) pa_nil)))))))) (pss_one ps_never) pss_nil))))
      (pss_one (ps_ret (pe_and (pe_cmp (pc_din hu (pe_tup (pa_cons pe_int (pa_cons pe_int (pa_cons pe_int pa_nil)))) (pv 2))) (pe_one (pe_callB (r := rAll K) (cr_all rfl) (by rfl) N.is.all (by decide +kernel) (pa_cons (pe_lock (pe_lc (own := [("key", 3)]) (g := gName 3) (tt := tYes) rfl nd (pi_keys (pv 2))
        (blkOk_by (N := nIsReaches) (sc := defScope sIsReaches) (by decide +kernel)) (fun _ _ _ _ _ => pg_name (i := 3) nd rfl (Or.inl rfl)) (fun _ _ _ _ _ => pts_nil)
        (fun _ _ _ _ _ => pe_call GB h2 (by rfl) gB kB bB .nil pass0 (pa_cons (pv 1) (pa_cons (pv 3) (pa_cons (pv 2) pa_nil)))))) pa_nil)))))))), ?_⟩
    have hlen := goodK_len ok.n60 hG
    have hrl : (rdict (rg T R) ks).length = ks.length := rdict_len
    refine ⟨_, rfl, _, rfl, a, b, n, T, R, rfl, hF, hb, ok, fun H1 s1 => ?_⟩
    have hd1 : H1 d = some (.dT (rdict (rg T R) ks)) := s1 _ _ hd
    refine ⟨_, rfl, _, .ty "dict", _, _, true, rfl, .ty _, dctTy hd1, kit_ty (by decide +kernel), true, rfl, ?_⟩
    refine ifF (by decide) ?_
    refine ⟨d, _, hd1, trivial, fun od => ?_⟩
    obtain ⟨dx, ap, ab, aa, h0, hp, hbe, has⟩ := id hF
    have at2 : ∀ {G : Hp} {i : Nat} {kk : List Key} {v : V} {q : Addr}, (rdict (rg T R) ks)[i]? = some (kk, v) → G q = some (.tup (kk.map kV)) → ∃ p : K3, p ∈ ks ∧ TN G q [p.1, p.2.1, p.2.2] ∧ v = V.int (rg T R p) := fun h hq => by
      obtain ⟨p, h1, rfl, rfl⟩ := rdict_at h
      exact ⟨p, List.mem_of_getElem? h1, hq, rfl⟩
    have hL : upd H1 d (.frz od (.dT (rdict (rg T R) ks))) d = some (.frz od (.dT (rdict (rg T R) ks))) := upd_same
    have KL : Kept d H (upd H1 d (.frz od (.dT (rdict (rg T R) ks)))) := kept_trans (kept_same s1) kept_hand
    generalize upd H1 d (.frz od (.dT (rdict (rg T R) ks))) = HL at hL KL ⊢
    refine ⟨_, rfl, d, od, _, rfl, hL, ?_⟩
    refine for_it walk_itemsT (fun m σ H' => Kept d H H' ∧ H' d = some (.frz od (.dT (rdict (rg T R) ks))) ∧ ∃ t3 t4, σ = [some (.ref a), some (.ref b), some (.ref d), t3, t4]) ⟨KL, hL, none, none, rfl⟩ (fun m σ H' _ z => z.2.1) ?_ ?_
    · rintro m x σ H2 H2' hm2 ⟨k2, hd2, t3, t4, rfl⟩ ⟨T2, q, kk, v, hkv, rfl, nT, hq, rfl⟩
      obtain ⟨p, hp1, hp2, rfl⟩ := at2 hkv hq
      have S3 := smUpd (o := .tup [.ref q, V.int (rg T R p)]) nT
      have hT : upd H2 T2 (.tup [.ref q, V.int (rg T R p)]) T2 = some (.tup [.ref q, V.int (rg T R p)]) := upd_same
      have hp3 : TN (upd H2 T2 (.tup [.ref q, V.int (rg T R p)])) q [p.1, p.2.1, p.2.2] := S3 _ _ hp2
      have hd3 := S3 _ _ hd2
      have k3 := kept_trans k2 (kept_same S3)
      generalize upd H2 T2 (.tup [.ref q, V.int (rg T R p)]) = H3 at hT hp3 hd3 k3 ⊢
      have e0 := k3 _ _ (fun z => by rw [z, hd] at h0; cases h0) h0
      have e1 := k3 _ _ (fun z => by have h : H ap = _ := hp; rw [z, hd] at h; cases h) hp
      refine ⟨T2, _, rfl, .inl (.inl hT), rfl, _, _, rfl, _, _, rfl, rfl, ?_⟩
      refine ⟨_, rfl, q, [p.1, p.2.1, p.2.2], rfl, hp3, true, rfl, ?_⟩
      refine ifF (by decide) ?_
      refine ⟨_, rfl, q, _, (0 : Int), _, rfl, rfl, tnL hp3, rfl, _, rfl, a, C, dx, _, _, rfl, e0, T0.cl, T0.nP, fP, ap, _, rfl, .inr (tpL e1), _, _, rfl, rfl, _, rfl, ?_⟩
      have hl := (hG.ok p hp1).kl
      refine ifF (fun z => ?_) ?_
      · have := of_decide_eq_true z
        rw [List.length_map, show (rowF n).ps.length = n from rowP_len ok.n1] at this
        omega
      refine ⟨_, rfl, rg T R p, rfl, true, rfl, ?_⟩
      refine ifF (by decide) ?_
      exact ⟨k3, hd3, _, _, rfl⟩
    · rintro σ H3 ⟨k3, hd3, t3, t4, rfl⟩
      refine ⟨hd3, ?_⟩
      have S4 : Same H (upd H3 d (.dT (rdict (rg T R) ks))) := sameBack k3 hd
      have hd4 : upd H3 d (.dT (rdict (rg T R) ks)) d = some (.dT (rdict (rg T R) ks)) := upd_same
      generalize upd H3 d (.dT (rdict (rg T R) ks)) = H4 at S4 hd4 ⊢
      refine ⟨by show 3 ≤ sizeLine; decide, fun q nq => ?_⟩
      have S5 := smUpd (o := .tup [V.int 0, V.int 0, V.int 0]) nq
      have hq : TN (upd H4 q (.tup [V.int 0, V.int 0, V.int 0])) q [0, 0, 0] := by
        show upd H4 q _ q = _
        rw [upd_same]; rfl
      have hd5 := S5 _ _ hd4
      have S05 := S4.trans S5
      generalize upd H4 q (.tup [V.int 0, V.int 0, V.int 0]) = H5 at hq hd5 S05 ⊢
      refine ⟨_, rfl, d, _, rfl, rget (a := (0, 0, 0)) (.inl hd5) hq hm, _, rfl, ?_⟩
      refine ifT rfl ?_
      refine ⟨d, _, hd5, trivial, fun od => ?_⟩
      have hL : upd H5 d (.frz od (.dT (rdict (rg T R) ks))) d = some (.frz od (.dT (rdict (rg T R) ks))) := upd_same
      have KL : Kept d H (upd H5 d (.frz od (.dT (rdict (rg T R) ks)))) := kept_trans (kept_same S05) kept_hand
      generalize upd H5 d (.frz od (.dT (rdict (rg T R) ks))) = HL at hL KL ⊢
      refine ⟨_, rfl, d, od, rfl, .inr ⟨_, hL, fun D2 nD2 => ?_⟩⟩
      refine lc_it walk_keysT (fun m H' => Kept d H H' ∧ H' d = some (.frz od (.dT (rdict (rg T R) ks))) ∧ H' D2 = some (.lst ((List.replicate m true).map V.bl))) ⟨kept_trans KL (kept_same (smUpd nD2)), (smUpd nD2) _ _ hL, upd_same⟩ (fun m H' _ z => z.2.1) ?_ ?_
      · rintro m x H6 H6' hm6 ⟨k6, hd6, hW⟩ ⟨rfl, kk, v, q6, hkv, rfl, hq6⟩
        obtain ⟨p, hp1, hp2, rfl⟩ := at2 hkv hq6
        refine ⟨rfl, _, rfl, _, rfl, _, rfl, b, q6, d, n, p.1, p.2.1, p.2.2, T, R, ks, rfl, buKept hd k6 hb, ok, hp2, .inr ⟨od, hd6⟩, hG, hp1, fun H7 s7 => ?_⟩
        have nD0 : H D2 = none := by
          cases e : H D2 with
          | none => rfl
          | some o =>
            by_cases z : D2 = d
            · rw [z, hL] at nD2; cases nD2
            · rw [KL _ _ z e] at nD2; cases nD2
        have nDd : d ≠ D2 := fun z => by rw [← z, hL] at nD2; cases nD2
        refine ⟨_, s7 _ _ hW, ?_, ?_, ?_, ?_⟩
        · rw [List.length_map, List.length_replicate]
          rw [hrl] at hm6
          exact Nat.lt_of_lt_of_le hm6 (Nat.le_trans hlen (by decide))
        · exact fun c o z e => by
            rw [upd_ne (fun y => by rw [y, nD0] at e; cases e)]
            exact kept_trans k6 (kept_same s7) c o z e
        · rw [upd_ne nDd]; exact s7 _ _ hd6
        · rw [upd_same, List.replicate_succ', List.map_append]; rfl
      · rintro H7 ⟨k7, hd7, hW⟩
        have nDd : D2 ≠ d := fun z => by rw [z, hL] at nD2; cases nD2
        refine ⟨hd7, D2, List.replicate ks.length true, rfl, .inl (.inl (by rw [upd_ne nDd, hW, hrl])), ?_⟩
        rw [all_rep]
        exact k _ (sameBack k7 hd)
end
end Cn
namespace Ck
abbrev P4 := Nat × Nat × Nat × Nat
section
variable {T R : List Nat} {n : Nat}
/-- enough steps: no matter how many -/
theorem trR_fuel (B : BuOk n T R) : ∀ (f f' : Nat) {l x y e : Nat}, PartOk T R n l x y e → (e - l) * 100 + (62 - x) < f → (e - l) * 100 + (62 - x) < f' → trR T R f l x y e = trR T R f' l x y e
  | 0, _, _, _, _, _, _, h, _ => absurd h (Nat.not_lt_zero _)
  | _ + 1, 0, _, _, _, _, _, _, h => absurd h (Nat.not_lt_zero _)
  | f + 1, f' + 1, l, x, y, e, p, h, h' => by
    show (if l = e then Tr.leaf else _) = (if l = e then Tr.leaf else _)
    by_cases c : l = e
    · rw [if_pos c, if_pos c]
    · rw [if_neg c, if_neg c]
      obtain ⟨k1, hl, n1, n2⟩ := part_next B p c
      have := p.le
      have := k1.kx
      by_cases d : (e : Int) ≤ rv T R l (x + 1) y
      · rw [if_pos d, if_pos d]
        exact trR_fuel B f f' (n1 d) (by omega) (by omega)
      · rw [if_neg d, if_neg d]
        obtain ⟨q1, q2⟩ := n2 (by omega)
        obtain ⟨q, hq⟩ := Int.eq_ofNat_of_zero_le (show 0 ≤ rv T R l (x + 1) y by omega)
        have p1 := q1.le
        have p2 := q2.le
        rw [hq, Int.toNat_natCast] at q1 q2 p1 p2 ⊢
        rw [trR_fuel B f f' q1 (by omega) (by omega), trR_fuel B f f' q2 (by omega) (by omega)]
def trW (T R : List Nat) (p : P4) : Tr := trR T R 7000 p.1 p.2.1 p.2.2.1 p.2.2.2
def PaOk (T R : List Nat) (n : Nat) (p : P4) : Prop := PartOk T R n p.1 p.2.1 p.2.2.1 p.2.2.2
theorem trW_leaf {l x y : Nat} : trW T R (l, x, y, l) = .leaf := by
  show (if l = l then Tr.leaf else _) = _
  rw [if_pos rfl]
theorem trW_skip (B : BuOk n T R) {l x y e : Nat} (p : PaOk T R n (l, x, y, e)) (c : l ≠ e) (d : (e : Int) ≤ rv T R l (x + 1) y) : PaOk T R n (l, x + 1, y, e) ∧ trW T R (l, x, y, e) = trW T R (l, x + 1, y, e) := by
  have p : PartOk T R n l x y e := p
  obtain ⟨k1, hl, n1, n2⟩ := part_next B p c
  have p2 : e ≤ n := p.en
  have p3 := B.n60
  refine ⟨n1 d, ?_⟩
  show (if l = e then Tr.leaf else _) = trR T R 7000 l (x + 1) y e
  rw [if_neg c, if_pos d]
  exact trR_fuel B 6999 7000 (l := l) (x := x + 1) (y := y) (e := e) (n1 d) (by omega) (by omega)
theorem trW_node (B : BuOk n T R) {l x y e : Nat} (p : PaOk T R n (l, x, y, e)) (c : l ≠ e) (d : rv T R l (x + 1) y < (e : Int)) : ∃ q : Nat, rv T R l (x + 1) y = (q : Int) ∧ l ≤ q ∧ q < e ∧ PaOk T R n (l, x + 1, y, q) ∧ PaOk T R n (q + 1, x, y + 1, e) ∧
    trW T R (l, x, y, e) = .node (trW T R (l, x + 1, y, q)) (trW T R (q + 1, x, y + 1, e)) := by
  have p : PartOk T R n l x y e := p
  obtain ⟨k1, hl, n1, n2⟩ := part_next B p c
  have p2 : e ≤ n := p.en
  have p3 := B.n60
  obtain ⟨q1, q2⟩ := n2 d
  obtain ⟨q, hq⟩ := Int.eq_ofNat_of_zero_le (show 0 ≤ rv T R l (x + 1) y by omega)
  have a1 := q1.le
  have a2 := q2.le
  have d' := d
  rw [hq, Int.toNat_natCast] at q1 q2 a1 a2
  rw [hq] at d'
  refine ⟨q, hq, a1, by omega, q1, q2, ?_⟩
  show (if l = e then Tr.leaf else _) = Tr.node (trR T R 7000 l (x + 1) y q) (trR T R 7000 (q + 1) x (y + 1) e)
  rw [if_neg c, if_neg (show ¬ ((e : Int) ≤ rv T R l (x + 1) y) from by omega)]
  show Tr.node (trR T R 6999 l (x + 1) y (rv T R l (x + 1) y).toNat) (trR T R 6999 ((rv T R l (x + 1) y).toNat + 1) x (y + 1) e) = _
  rw [hq, Int.toNat_natCast, trR_fuel B 6999 7000 q1 (by omega) (by omega), trR_fuel B 6999 7000 q2 (by omega) (by omega)]
theorem trW_all (B : BuOk n T R) (h : (n : Int) ≤ rv T R 0 0 0) : PaOk T R n (0, 0, 0, n) ∧ (trW T R (0, 0, 0, n)).size = n ∧ OkT T R (trW T R (0, 0, 0, n)) 0 0 0 := by
  have p : PartOk T R n 0 0 0 n := ⟨⟨Nat.zero_le _, by omega, by omega, fun _ => by omega⟩, Nat.zero_le _, Nat.le_refl _, h⟩
  have := B.n60
  obtain ⟨a, b⟩ := trR_ok B 7000 p (by omega)
  exact ⟨p, a, b⟩
/-- what waits, the last one first -/
def ordS (T R : List Nat) : List P4 → List Nat
  | [] => []
  | p :: ws => ordS T R ws ++ ordT (trW T R p) p.1
def wt (p : P4) : Nat := (p.2.2.2 - p.1) * 100 + (62 - p.2.1) + 1
def wtS : List P4 → Nat
  | [] => 0
  | p :: ws => wt p + wtS ws
theorem ordS_snoc {p : P4} : ∀ {ws : List P4}, ordS T R (ws ++ [p]) = ordT (trW T R p) p.1 ++ ordS T R ws
  | [] => by show [] ++ ordT _ _ = ordT _ _ ++ []; rw [List.nil_append, List.append_nil]
  | q :: ws => by show ordS T R (ws ++ [p]) ++ ordT _ _ = ordT _ _ ++ (ordS T R ws ++ ordT _ _); rw [ordS_snoc, List.append_assoc]
theorem wtS_snoc {p : P4} : ∀ {ws : List P4}, wtS (ws ++ [p]) = wtS ws + wt p
  | [] => by show wt p + 0 = 0 + wt p; omega
  | q :: ws => by show wt q + wtS (ws ++ [p]) = wt q + wtS ws + wt p; rw [wtS_snoc]; omega
theorem wtS_len : ∀ {ws : List P4}, ws.length ≤ wtS ws
  | [] => Nat.le_refl _
  | q :: ws => by
    have := wtS_len (ws := ws)
    show ws.length + 1 ≤ wt q + wtS ws
    unfold wt
    omega
end
end Ck
namespace Cn
open PySem PySem.Spec PyProof.Rows L2 Ck
theorem pairedUnsnoc {α β : Type} {F : α → β → Prop} {y : β} : ∀ {us : List α} {ws : List β}, Paired F us (ws ++ [y]) → ∃ us' x, us = us' ++ [x] ∧ Paired F us' ws ∧ F x y
  | _, [], .cons a .nil => ⟨[], _, rfl, .nil, a⟩
  | _, z :: ws, .cons a t => by
    obtain ⟨us', x, rfl, h1, h2⟩ := pairedUnsnoc t
    exact ⟨_ :: us', x, rfl, .cons a h1, h2⟩
section
variable {P : Program} {w : World} {K : PySem.W.Frag} {mg : Str → Option Value} {base : Heap} {C : Addr}
def P4R (H : Hp) (us : List V) (ws : List P4) : Prop := Paired (fun v (p : P4) => ∃ q, v = V.ref q ∧ TN H q [p.1, p.2.1, p.2.2.1, p.2.2.2]) us ws
theorem p4Same {H H' : Hp} (s : Same H H') {us : List V} {ws : List P4} (h : P4R H us ws) : P4R H' us ws := Paired.mapP h fun _ _ ⟨q, e, z⟩ => ⟨q, e, s _ _ z⟩
theorem p4Upd {H : Hp} {D : Addr} {o : HO} {xs us : List V} {ws : List P4} (hD : H D = some (.lst xs)) (h : P4R H us ws) : P4R (upd H D o) us ws := Paired.mapP h fun _ _ ⟨q, e, z⟩ => ⟨q, e, by
  have z' : H q = _ := z
  show upd H D o q = _
  rw [upd_ne (fun y => by rw [y, hD] at z'; cases z')]
  exact z'⟩
def RcI (H : Hp) (a b d o wl : Addr) (n : Nat) (T R : List Nat) (ks : List K3) : Nat → L2.St → Hp → Prop := fun m σ H' => ∃ (ol : List Nat) (ws : List P4) (us : List V) (t6 t7 t8 t9 t10 : Option V),
  σ = [some (.ref a), some (.ref b), some (vn n), some (.ref d), some (.ref o), some (.ref wl), t6, t7, t8, t9, t10] ∧ Same H H' ∧ RAt H' d T R ks ∧ H' o = some (.lst (ol.map vn)) ∧ H' wl = some (.lst us) ∧ P4R H' us ws ∧
  (∀ p ∈ ws, PaOk T R n p ∧ (p.1, p.2.1, p.2.2.1) ∈ ks) ∧ ol ++ ordS T R ws = ordT (trW T R (0, 0, 0, n)) 0 ∧ m = wtS ws ∧ m ≤ 6063
theorem lastG {us : List V} {v : V} : (us ++ [v])[(us ++ [v]).length - 1]? = some v := by
  rw [List.length_append]
  show (us ++ [v])[us.length + 1 - 1]? = some v
  rw [Nat.add_sub_cancel, List.getElem?_append_right (Nat.le_refl _), Nat.sub_self]
  rfl
theorem small6063 {m : Nat} (h : m ≤ 6100) : m < sizeLine := Nat.lt_of_le_of_lt h (by decide)
theorem dNe {H : Hp} {x y : Addr} {kvs : List (List Key × V)} {xs : List V} (h : H x = some (.dT kvs)) (k : H y = some (.lst xs)) : x ≠ y := fun z => by rw [z, k] at h; cases h
/-- the order of cuts of a tree that is within -/
def spRowCuts (C : Addr) : Sp := fun vs H Q _ => ∃ (a b : Addr) (n : Nat) (T R : List Nat), vs = [.ref a, .ref b] ∧ FoAt C H a (rowF n) ∧ BuAt H b T R ∧ BuOk n T R ∧ (rv T R 0 0 0 < (n : Int) → ∀ H', Same H H' → Q .non H') ∧
  ((n : Int) ≤ rv T R 0 0 0 → ∀ o H', Same H H' → H o = none → H' o = some (.lst ((ordT (trW T R (0, 0, 0, n)) 0).map vn)) → Q (.ref o) H')
def nRowCuts : List Str := ["forest", "budgets", "places", "found", "order", "waiting", "gap", "lefts", "rights", "end", "middle"]
theorem scRowCuts : FnScope nRowCuts ["forest", "budgets"] (defScope sRowCuts) := ⟨rfl, rfl, rfl, by decide +kernel, rfl, by decide +kernel, by decide +kernel⟩
theorem dRowCuts (B : Defs K mg C) : Def P w K mg base "_row_cuts" 127 ["forest", "budgets"] (spRowCuts C) := by
  obtain ⟨fR, fdR, GR, gR, kR, bR⟩ := dReaches (P := P) (w := w) (base := base) B
  have N := B.N
  have T0 := B.T
  have nd := scRowCuts.nd
  refine def_of B.rcu fun f fd F => ?_
  refine F.ok scRowCuts (fun vs H Q E h => ?_) (fun cdv A outer s H vs Q E hr h => ?_)
  · obtain ⟨a, b, n, T, R, rfl, _⟩ := h
    rfl
  · obtain ⟨a, b, n, T, R, rfl, hF, hb, ok, kN, kO⟩ := h
    have hu : (A.deeper (envOfC "_row_cuts" (defScope sRowCuts) s.heap.objs.size f cdv)).units + 1 < cLine := by have := hr.units; omega
    refine ⟨_, pss_cons (ps_set (i := 2) nd rfl (Or.inl rfl) (pe_callB call_len_seq (by rfl) N.is.len PySem.boot_len (pa_cons (pe_fld (pv 0) rfl) pa_nil)))
      (pss_cons (ps_set (i := 3) nd rfl (Or.inl rfl) (pe_call GR hr (by rfl) gR kR bR .nil pass0 (pa_cons (pv 0) (pa_cons (pv 1) pa_nil))))
      (pss_cons (ps_if (pt_cmpR op_lt (pe_dget hu (pv 3) (pe_tup (pa_cons pe_int (pa_cons pe_int (pa_cons pe_int pa_nil)))) (fun _ _ => rfl)) (pv 2) (nomark _)) (pss_one (ps_ret pe_non)) pss_nil)
      (pss_cons (ps_set (i := 4) nd rfl (Or.inl rfl) (pe_lst pa_nil))
      (pss_cons (ps_set (i := 5) nd rfl (Or.inl rfl) (pe_lst (pa_cons (pe_tup (pa_cons pe_int (pa_cons pe_int (pa_cons pe_int (pa_cons (pv 2) pa_nil))))) pa_nil)))
      (pss_cons (ps_while PassesOwn.never (pt_truth (pv 5) (fun _ => rfl))
        (pss_cons (ps_asg (pe_bm0 PySem.F.plainAttrs_list PySem.F.slot_list_pop PySem.F.type_list_pop mt_pop (pv 5)) (pg_tup rfl (pgs_cons (pg_name (i := 6) nd rfl (Or.inl rfl)) (pgs_cons (pg_name (i := 7) nd rfl (Or.inl rfl)) (pgs_cons (pg_name (i := 8) nd rfl (Or.inl rfl)) (pgs_cons (pg_name (i := 9) nd rfl (Or.inl rfl)) pgs_nil))))))
        (pss_cons (ps_if (pt_cmpR op_eq (pv 6) (pv 9) (nomark _)) (pss_one ps_continue) pss_nil)
        (pss_cons (ps_set (i := 10) nd rfl (Or.inl rfl) (pe_dget hu (pv 3) (pe_tup (pa_cons (pv 6) (pa_cons (pe_op op_add (pv 7) pe_int) (pa_cons (pv 8) pa_nil)))) (fun _ _ => rfl)))
        (pss_one (ps_if (pt_cmpR op_ge (pv 10) (pv 9) (nomark _))
          (pss_one (ps_expr (pe_bm PySem.F.plainAttrs_list PySem.F.slot_list_append PySem.F.type_list_append mt_append (pv 5) (pa_cons (pe_tup (pa_cons (pv 6) (pa_cons (pe_op op_add (pv 7) pe_int) (pa_cons (pv 8) (pa_cons (pv 9) pa_nil))))) pa_nil))))
          (pss_cons (ps_expr (pe_bm PySem.F.plainAttrs_list PySem.F.slot_list_append PySem.F.type_list_append mt_append (pv 4) (pa_cons (pv 10) pa_nil)))
          (pss_cons (ps_expr (pe_bm PySem.F.plainAttrs_list PySem.F.slot_list_append PySem.F.type_list_append mt_append (pv 5) (pa_cons (pe_tup (pa_cons (pv 6) (pa_cons (pe_op op_add (pv 7) pe_int) (pa_cons (pv 8) (pa_cons (pv 10) pa_nil))))) pa_nil)))
          (pss_one (ps_expr (pe_bm PySem.F.plainAttrs_list PySem.F.slot_list_append PySem.F.type_list_append mt_append (pv 5) (pa_cons (pe_tup (pa_cons (pe_op op_add (pv 10) pe_int) (pa_cons (pv 7) (pa_cons (pe_op op_add (pv 8) pe_int) (pa_cons (pv 9) pa_nil))))) pa_nil))))))))))))
      (pss_one (ps_ret (pv 4)))))))), ?_⟩
    obtain ⟨dx, ap, ab, aa, h0, hp, hbe, has⟩ := id hF
    refine ⟨_, rfl, a, C, dx, _, _, rfl, h0, T0.cl, T0.nP, fP, ap, _, rfl, .inr (tpL hp), ?_⟩
    rw [List.length_map, show (rowF n).ps.length = n from rowP_len ok.n1]
    refine ⟨_, rfl, _, rfl, a, b, n, T, R, rfl, hF, hb, ok, fun d ks H1 s1 d0 hd hG hm => ?_⟩
    refine ⟨_, rfl, by show 3 ≤ sizeLine; decide, fun q nq => ?_⟩
    have S2 := s1.trans (smUpd (o := .tup [V.int 0, V.int 0, V.int 0]) nq)
    have hq : TN (upd H1 q (.tup [V.int 0, V.int 0, V.int 0])) q [0, 0, 0] := by
      show upd H1 q _ q = _
      rw [upd_same]; rfl
    have hd2 : RAt (upd H1 q (.tup [V.int 0, V.int 0, V.int 0])) d T R ks := smUpd nq _ _ hd
    generalize upd H1 q (.tup [V.int 0, V.int 0, V.int 0]) = H2 at S2 hq hd2 ⊢
    refine ⟨d, _, rfl, rget (a := (0, 0, 0)) (.inl hd2) hq hm, _, rfl, _, _, rfl, rfl, _, rfl, ?_⟩
    by_cases c0 : rv T R 0 0 0 < (n : Int)
    · refine ifT (decide_eq_true c0) ?_
      exact kN c0 H2 S2
    refine ifF (fun z => c0 (of_decide_eq_true z)) ?_
    have c0' : (n : Int) ≤ rv T R 0 0 0 := by omega
    refine ⟨by show 0 ≤ sizeLine; decide, fun o no => ?_⟩
    have o0 := noneBack S2 no
    have S3 := S2.trans (smUpd (o := .lst []) no)
    have ho3 : upd H2 o (.lst []) o = some (.lst []) := upd_same
    have hd3 : RAt (upd H2 o (.lst [])) d T R ks := smUpd no _ _ hd2
    generalize upd H2 o (.lst []) = H3 at S3 ho3 hd3 ⊢
    refine ⟨_, rfl, by show 4 ≤ sizeLine; decide, fun q3 nq3 => ?_⟩
    have S4 := S3.trans (smUpd (o := .tup [V.int 0, V.int 0, V.int 0, vn n]) nq3)
    have hq4 : TN (upd H3 q3 (.tup [V.int 0, V.int 0, V.int 0, vn n])) q3 [0, 0, 0, n] := by
      show upd H3 q3 _ q3 = _
      rw [upd_same]; rfl
    have ho4 := smUpd (o := .tup [V.int 0, V.int 0, V.int 0, vn n]) nq3 _ _ ho3
    have hd4 : RAt (upd H3 q3 (.tup [V.int 0, V.int 0, V.int 0, vn n])) d T R ks := smUpd nq3 _ _ hd3
    generalize upd H3 q3 (.tup [V.int 0, V.int 0, V.int 0, vn n]) = H4 at S4 hq4 ho4 hd4 ⊢
    refine ⟨by show 1 ≤ sizeLine; decide, fun wl nwl => ?_⟩
    have w0 := noneBack S4 nwl
    have S5 := S4.trans (smUpd (o := .lst [.ref q3]) nwl)
    have ho5 := smUpd (o := .lst [.ref q3]) nwl _ _ ho4
    have owl : o ≠ wl := fun z => by rw [z, nwl] at ho4; cases ho4
    have hd5 : RAt (upd H4 wl (.lst [.ref q3])) d T R ks := smUpd nwl _ _ hd4
    have hq5 : TN (upd H4 wl (.lst [.ref q3])) q3 [0, 0, 0, n] := smUpd nwl _ _ hq4
    have hw5 : upd H4 wl (.lst [.ref q3]) wl = some (.lst [.ref q3]) := upd_same
    generalize upd H4 wl (.lst [.ref q3]) = H5 at S5 ho5 hd5 hq5 hw5 ⊢
    obtain ⟨pk0, sz0, _⟩ := trW_all ok c0'
    have n60 := ok.n60
    refine ⟨RcI H a b d o wl n T R ks, ⟨wtS [(0, 0, 0, n)], [], [(0, 0, 0, n)], [.ref q3], none, none, none, none, none, rfl, S5, hd5, ho5, hw5, .cons ⟨q3, rfl, hq5⟩ .nil, fun p hp => ?_, ?_, rfl, ?_⟩, ?_⟩
    · rw [List.mem_singleton.mp hp]
      exact ⟨pk0, hm⟩
    · show [] ++ ([] ++ ordT _ 0) = _
      rw [List.nil_append, List.nil_append]
    · show (n - 0) * 100 + (62 - 0) + 1 + 0 ≤ 6063
      omega
    rintro m σ H6 ⟨ol, ws, us, t6, t7, t8, t9, t10, rfl, sm, hd6, ho6, hw6, hP, hall, hord, rfl, hm2⟩
    refine ⟨_, rfl, !us.isEmpty, .inl ⟨us, .inl (.inl hw6), rfl⟩, ?_⟩
    rcases List.eq_nil_or_concat ws with rfl | ⟨ws', p, rfl⟩
    · cases hP
      refine ifF (by decide) ?_
      refine ⟨_, rfl, ?_⟩
      refine kO c0' o H6 sm o0 ?_
      rw [ho6, ← hord]
      show _ = some (HO.lst ((ol ++ []).map vn))
      rw [List.append_nil]
    · rw [List.concat_eq_append] at hP hall hord hm2 ⊢
      obtain ⟨us', v, rfl, hP', q, rfl, hq⟩ := pairedUnsnoc hP
      obtain ⟨hp1, hp2⟩ := hall p (List.mem_append.mpr (.inr (List.mem_singleton.mpr rfl)))
      have hall' : ∀ r ∈ ws', PaOk T R n r ∧ (r.1, r.2.1, r.2.2.1) ∈ ks := fun r hr => hall r (List.mem_append.mpr (.inl hr))
      refine ifT (by rw [show (us' ++ [V.ref q]).isEmpty = false from by cases us' <;> rfl]; rfl) ?_
      refine ⟨fun σ' H' => ∃ m', m' < wtS (ws' ++ [p]) ∧ RcI H a b d o wl n T R ks m' σ' H', fun _ _ z => z, ?_⟩
      rw [ordS_snoc] at hord
      rw [wtS_snoc] at hm2 ⊢
      obtain ⟨l, x, y, e⟩ := p
      have hp1' : PartOk T R n l x y e := hp1
      have wlen : us'.length = ws'.length := Paired.length hP'
      have wle : ws'.length ≤ wtS ws' := wtS_len
      refine ⟨_, rfl, .inl ⟨rfl, _, .inl (.inl hw6)⟩, wl, _, .ref q, rfl, rfl, hw6, lastG, ?_⟩
      rw [List.dropLast_concat]
      have ndw : d ≠ wl := dNe hd6 hw6
      have up : ∀ {G : Hp} {o' : HO}, Same H G → Same H (upd G wl o') := fun h b u e => by
        rw [upd_ne (fun z => by rw [z, w0] at e; cases e)]
        exact h b u e
      have up2 : ∀ {G : Hp} {o' : HO}, Same H G → Same H (upd G o o') := fun h b u e => by
        rw [upd_ne (fun z => by rw [z, o0] at e; cases e)]
        exact h b u e
      have sm7 := up (o' := .lst us') sm
      have hd7 : RAt (upd H6 wl (.lst us')) d T R ks := by
        show upd H6 wl _ d = _
        rw [upd_ne ndw]; exact hd6
      have ho7 : upd H6 wl (.lst us') o = some (.lst (ol.map vn)) := by rw [upd_ne owl]; exact ho6
      have hP7 := p4Upd (o := .lst us') hw6 hP'
      have hq7 : TN (upd H6 wl (.lst us')) q [l, x, y, e] := by
        have z' : H6 q = _ := hq
        show upd H6 wl _ q = _
        rw [upd_ne (fun y => by rw [y, hw6] at z'; cases z')]
        exact z'
      have hw7 : upd H6 wl (.lst us') wl = some (.lst us') := upd_same
      generalize upd H6 wl (.lst us') = H7 at sm7 hd7 ho7 hP7 hq7 hw7 ⊢
      refine ⟨q, _, rfl, tnL hq7, rfl, _, _, rfl, _, _, rfl, _, _, rfl, _, _, rfl, rfl, ?_⟩
      refine ⟨_, rfl, _, rfl, rfl, _, rfl, ?_⟩
      by_cases c : l = e
      · subst c
        refine ifT (decide_eq_true rfl) ?_
        refine ⟨wtS ws', by show _ < _ + ((l - l) * 100 + (62 - x) + 1); omega, ol, ws', us', _, _, _, _, _, rfl, sm7, hd7, ho7, hw7, hP7, hall', ?_, rfl, by omega⟩
        rw [trW_leaf] at hord
        exact hord
      · refine ifF (fun z => c (by have := V.int.inj (of_decide_eq_true z); omega)) ?_
        have le := hp1'.le
        have en := hp1'.en
        obtain ⟨c1, c2⟩ := hG.cl _ hp2 (part_may hp1') (show l ≠ n by omega)
        have c1 : (l, x + 1, y) ∈ ks := c1
        refine ⟨_, rfl, _, rfl, _, rfl, _, _, rfl, rfl, _, rfl, by show 3 ≤ sizeLine; decide, fun q8 nq8 => ?_⟩
        have S8 := smUpd (o := .tup [vn l, V.int ((x : Int) + 1), vn y]) nq8
        have hq8 : TN (upd H7 q8 (.tup [vn l, V.int ((x : Int) + 1), vn y])) q8 [l, x + 1, y] := by
          show upd H7 q8 _ q8 = _
          rw [upd_same]; rfl
        generalize upd H7 q8 (.tup [vn l, V.int ((x : Int) + 1), vn y]) = H8 at S8 hq8 ⊢
        have sm8 := sm7.trans S8
        have hd8 : RAt H8 d T R ks := S8 _ _ hd7
        have ho8 := S8 _ _ ho7
        have hw8 := S8 _ _ hw7
        have hP8 := p4Same S8 hP7
        refine ⟨d, _, rfl, rget (a := (l, x + 1, y)) (.inl hd8) hq8 c1, ?_⟩
        refine ⟨_, rfl, _, rfl, _, _, rfl, rfl, _, rfl, ?_⟩
        by_cases dd : (e : Int) ≤ rv T R l (x + 1) y
        · refine ifT (decide_eq_true dd) ?_
          obtain ⟨pk, et⟩ := trW_skip ok hp1 c dd
          refine ⟨_, rfl, .inl ⟨rfl, _, .inl (.inl hw8)⟩, _, rfl, _, rfl, _, _, rfl, rfl, _, rfl, _, rfl, by show 4 ≤ sizeLine; decide, fun q9 nq9 => ?_⟩
          have S9 := smUpd (o := .tup [vn l, V.int ((x : Int) + 1), vn y, vn e]) nq9
          have hq9 : TN (upd H8 q9 (.tup [vn l, V.int ((x : Int) + 1), vn y, vn e])) q9 [l, x + 1, y, e] := by
            show upd H8 q9 _ q9 = _
            rw [upd_same]; rfl
          generalize upd H8 q9 (.tup [vn l, V.int ((x : Int) + 1), vn y, vn e]) = H9 at S9 hq9 ⊢
          have hw9 := S9 _ _ hw8
          refine ⟨wl, _, _, rfl, rfl, hw9, small6063 (by omega), ?_⟩
          refine ⟨wtS (ws' ++ [(l, x + 1, y, e)]), ?_, ol, ws' ++ [(l, x + 1, y, e)], us' ++ [.ref q9], _, _, _, _, _, rfl, up (sm8.trans S9), ?_, ?_, upd_same, pairedSnoc (p4Upd hw9 (p4Same S9 hP8)) ⟨q9, rfl, ?_⟩, fun r hr => ?_, ?_, rfl, ?_⟩
          · rw [wtS_snoc]
            have := hp1'.k.kx
            show _ + ((e - l) * 100 + (62 - (x + 1)) + 1) < _ + ((e - l) * 100 + (62 - x) + 1)
            omega
          · show upd H9 wl _ d = _
            rw [upd_ne ndw]; exact S9 _ _ hd8
          · rw [upd_ne owl]; exact S9 _ _ ho8
          · have z' : H9 q9 = _ := hq9
            show upd H9 wl _ q9 = _
            rw [upd_ne (fun y => by rw [y, hw9] at z'; cases z')]
            exact z'
          · rcases List.mem_append.mp hr with hr | hr
            · exact hall' r hr
            · rw [List.mem_singleton.mp hr]; exact ⟨pk, c1⟩
          · rw [ordS_snoc, ← et]; exact hord
          · rw [wtS_snoc]
            have : wtS ws' + ((e - l) * 100 + (62 - x) + 1) ≤ 6063 := hm2
            show _ + ((e - l) * 100 + (62 - (x + 1)) + 1) ≤ _
            omega
        · refine ifF (fun z => dd (of_decide_eq_true z)) ?_
          obtain ⟨p, ep, lp, pe, pk1, pk2, et⟩ := trW_node ok hp1 c (by omega)
          have c2 := c2 (by show (l : Int) ≤ rv T R l (x + 1) y; rw [ep]; omega) (by show rv T R l (x + 1) y < (n : Int); rw [ep]; omega)
          have c2 : ((rv T R l (x + 1) y).toNat + 1, x, y + 1) ∈ ks := c2
          rw [ep, Int.toNat_natCast] at c2
          rw [show rg T R (l, x + 1, y) = (p : Int) from ep]
          have ol60 : ol.length ≤ 60 := by
            have e := congrArg List.length hord
            rw [List.length_append, ordT_len, sz0] at e
            omega
          refine ⟨_, rfl, .inl ⟨rfl, _, .inl (.inl ho8)⟩, _, rfl, o, _, _, rfl, rfl, ho8, small6063 (by rw [List.length_map]; omega), ?_⟩
          have ndo : d ≠ o := dNe hd8 ho8
          have sm9 := up2 (o' := .lst (ol.map vn ++ [vn p])) sm8
          have hd9 : RAt (upd H8 o (.lst (ol.map vn ++ [vn p]))) d T R ks := by
            show upd H8 o _ d = _
            rw [upd_ne ndo]; exact hd8
          have ho9 : upd H8 o (.lst (ol.map vn ++ [vn p])) o = some (.lst ((ol ++ [p]).map vn)) := by rw [upd_same, List.map_append]; rfl
          have hw9 : upd H8 o (.lst (ol.map vn ++ [vn p])) wl = some (.lst us') := by rw [upd_ne (Ne.symm owl)]; exact hw8
          have hP9 := p4Upd (o := .lst (ol.map vn ++ [vn p])) ho8 hP8
          generalize upd H8 o (.lst (ol.map vn ++ [vn p])) = H9 at sm9 hd9 ho9 hw9 hP9 ⊢
          refine ⟨_, rfl, .inl ⟨rfl, _, .inl (.inl hw9)⟩, _, rfl, _, rfl, _, _, rfl, rfl, _, rfl, _, rfl, by show 4 ≤ sizeLine; decide, fun qa nqa => ?_⟩
          have SA := smUpd (o := .tup [vn l, V.int ((x : Int) + 1), vn y, vn p]) nqa
          have hqA : TN (upd H9 qa (.tup [vn l, V.int ((x : Int) + 1), vn y, vn p])) qa [l, x + 1, y, p] := by
            show upd H9 qa _ qa = _
            rw [upd_same]; rfl
          generalize upd H9 qa (.tup [vn l, V.int ((x : Int) + 1), vn y, vn p]) = HA at SA hqA ⊢
          have hwA := SA _ _ hw9
          refine ⟨wl, _, _, rfl, rfl, hwA, small6063 (by omega), ?_⟩
          have hPB : P4R (upd HA wl (.lst (us' ++ [.ref qa]))) (us' ++ [.ref qa]) (ws' ++ [(l, x + 1, y, p)]) := pairedSnoc (p4Upd hwA (p4Same SA hP9)) ⟨qa, rfl, by
            have z' : HA qa = _ := hqA
            show upd HA wl _ qa = _
            rw [upd_ne (fun y => by rw [y, hwA] at z'; cases z')]
            exact z'⟩
          have smB := up (o' := .lst (us' ++ [.ref qa])) (sm9.trans SA)
          have hdB : RAt (upd HA wl (.lst (us' ++ [.ref qa]))) d T R ks := by
            show upd HA wl _ d = _
            rw [upd_ne ndw]; exact SA _ _ hd9
          have hoB : upd HA wl (.lst (us' ++ [.ref qa])) o = some (.lst ((ol ++ [p]).map vn)) := by rw [upd_ne owl]; exact SA _ _ ho9
          have hwB : upd HA wl (.lst (us' ++ [.ref qa])) wl = some (.lst (us' ++ [.ref qa])) := upd_same
          generalize upd HA wl (.lst (us' ++ [.ref qa])) = HB at hPB smB hdB hoB hwB ⊢
          refine ⟨_, rfl, .inl ⟨rfl, _, .inl (.inl hwB)⟩, _, rfl, _, _, rfl, rfl, _, rfl, _, rfl, _, _, rfl, rfl, _, rfl, by show 4 ≤ sizeLine; decide, fun qc nqc => ?_⟩
          have SC := smUpd (o := .tup [V.int ((p : Int) + 1), vn x, V.int ((y : Int) + 1), vn e]) nqc
          have hqC : TN (upd HB qc (.tup [V.int ((p : Int) + 1), vn x, V.int ((y : Int) + 1), vn e])) qc [p + 1, x, y + 1, e] := by
            show upd HB qc _ qc = _
            rw [upd_same]; rfl
          generalize upd HB qc (.tup [V.int ((p : Int) + 1), vn x, V.int ((y : Int) + 1), vn e]) = HC at SC hqC ⊢
          have hwC := SC _ _ hwB
          refine ⟨wl, _, _, rfl, rfl, hwC, small6063 (by rw [List.length_append]; show us'.length + 1 ≤ _; omega), ?_⟩
          have szA : (trW T R (l, x + 1, y, p)).size + l = p := (trR_ok ok 7000 (l := l) (x := x + 1) (y := y) (e := p) pk1 (by omega)).1
          have kx := hp1'.k.kx
          refine ⟨wtS (ws' ++ [(l, x + 1, y, p)] ++ [(p + 1, x, y + 1, e)]), ?_, ol ++ [p], ws' ++ [(l, x + 1, y, p)] ++ [(p + 1, x, y + 1, e)], us' ++ [.ref qa] ++ [.ref qc], _, _, _, _, _, rfl, up (smB.trans SC), ?_, ?_, upd_same, pairedSnoc (p4Upd hwC (p4Same SC hPB)) ⟨qc, rfl, ?_⟩, fun r hr => ?_, ?_, rfl, ?_⟩
          · rw [wtS_snoc, wtS_snoc]
            show _ + ((p - l) * 100 + (62 - (x + 1)) + 1) + ((e - (p + 1)) * 100 + (62 - x) + 1) < _ + ((e - l) * 100 + (62 - x) + 1)
            omega
          · show upd HC wl _ d = _
            rw [upd_ne ndw]; exact SC _ _ hdB
          · rw [upd_ne owl]; exact SC _ _ hoB
          · have z' : HC qc = _ := hqC
            show upd HC wl _ qc = _
            rw [upd_ne (fun y => by rw [y, hwC] at z'; cases z')]
            exact z'
          · rcases List.mem_append.mp hr with hr | hr
            · rcases List.mem_append.mp hr with hr | hr
              · exact hall' r hr
              · rw [List.mem_singleton.mp hr]; exact ⟨pk1, c1⟩
            · rw [List.mem_singleton.mp hr]; exact ⟨pk2, c2⟩
          · rw [ordS_snoc, ordS_snoc, ← hord, et]
            show (ol ++ [p]) ++ (ordT (trW T R (p + 1, x, y + 1, e)) (p + 1) ++ (ordT (trW T R (l, x + 1, y, p)) l ++ ordS T R ws')) =
              ol ++ (((l + (trW T R (l, x + 1, y, p)).size) :: (ordT (trW T R (p + 1, x, y + 1, e)) (l + (trW T R (l, x + 1, y, p)).size + 1) ++ ordT (trW T R (l, x + 1, y, p)) l)) ++ ordS T R ws')
            rw [show l + (trW T R (l, x + 1, y, p)).size = p from by omega, List.append_assoc ol [p]]
            show ol ++ (p :: (ordT (trW T R (p + 1, x, y + 1, e)) (p + 1) ++ (ordT (trW T R (l, x + 1, y, p)) l ++ ordS T R ws'))) = ol ++ (p :: ((ordT (trW T R (p + 1, x, y + 1, e)) (p + 1) ++ ordT (trW T R (l, x + 1, y, p)) l) ++ ordS T R ws'))
            rw [List.append_assoc (ordT (trW T R (p + 1, x, y + 1, e)) (p + 1))]
          · rw [wtS_snoc, wtS_snoc]
            have : wtS ws' + ((e - l) * 100 + (62 - x) + 1) ≤ 6063 := hm2
            show _ + ((p - l) * 100 + (62 - (x + 1)) + 1) + ((e - (p + 1)) * 100 + (62 - x) + 1) ≤ _
            omega
/-- a plan within, where there is one -/
theorem lvOf_tree {n : Nat} {t : Tr} (hn : 1 ≤ n) (hs : t.size = n) : (List.range n).map (lvOf (rowP n) (ordT t 0)) = lvT t := by
  refine List.ext_getElem? fun i => ?_
  by_cases c : i < n
  · rw [List.getElem?_map, List.getElem?_range c, getD_at (show i < (lvT t).length by rw [lvT_len, hs]; exact c)]
    show some (lvOf (rowP n) (ordT t 0) i) = _
    unfold lvOf
    rw [road_row hn i c]
    have e := rlm_tree (rk := fun x => (ordT t 0).idxOf x) (t := t) (l := 0) (j := i) heap_ord (Nat.zero_le _) (by omega)
    exact congrArg some e
  · rw [List.getElem?_eq_none (by rw [List.length_map, List.length_range]; omega), List.getElem?_eq_none (by rw [lvT_len]; omega)]
theorem cuts_tree {n : Nat} {t : Tr} (hs : t.size = n) : CutsOk n (ordT t 0) := ⟨by rw [ordT_len, hs], ordT_nd, fun x => by rw [ordT_mem, hs]; omega⟩
def spPlanWithin (C : Addr) : Sp := fun vs H Q _ => ∃ (a b : Addr) (n : Nat) (T R : List Nat), vs = [.ref a, .ref b] ∧ FoAt C H a (rowF n) ∧ BuAt H b T R ∧ BuOk n T R ∧ (rv T R 0 0 0 < (n : Int) → ∀ H', Same H H' → Q .non H') ∧
  ((n : Int) ≤ rv T R 0 0 0 → ∀ r H', Same H H' → TN H' r (lvT (trW T R (0, 0, 0, n))) → Q (.ref r) H')
def nPlanWithin : List Str := ["forest", "budgets", "order"]
theorem scPlanWithin : FnScope nPlanWithin ["forest", "budgets"] (defScope sPlanWithin) := ⟨rfl, rfl, rfl, by decide +kernel, rfl, by decide +kernel, by decide +kernel⟩
theorem dPlanWithin (B : Defs K mg C) : Def P w K mg base "plan_within" 128 ["forest", "budgets"] (spPlanWithin C) := by
  obtain ⟨fR, fdR, GR, gR, kR, bR⟩ := dRowCuts (P := P) (w := w) (base := base) B
  obtain ⟨fI, fdI, GI, gI, kI, bI⟩ := dIsRow (P := P) (w := w) (base := base) B
  obtain ⟨fG, fdG, GG, gG, kG, bG⟩ := dIsBudgets (P := P) (w := w) (base := base) B
  obtain ⟨fP, fdP, GP, gP, kP, bP⟩ := dPlanOf (P := P) (w := w) (base := base) B
  have N := B.N
  have nd := scPlanWithin.nd
  refine def_of B.pwi fun f fd F => ?_
  refine F.ok scPlanWithin (fun vs H Q E h => ?_) (fun cdv A outer s H vs Q E hr h => ?_)
  · obtain ⟨a, b, n, T, R, rfl, _⟩ := h
    rfl
  · obtain ⟨a, b, n, T, R, rfl, hF, hb, ok, kN, kO⟩ := h
    have h4 : Room 4 (A.deeper (envOfC "plan_within" (defScope sPlanWithin) s.heap.objs.size f cdv)) := Room.mono hr (by decide)
    have h6 : Room 6 (A.deeper (envOfC "plan_within" (defScope sPlanWithin) s.heap.objs.size f cdv)) := Room.mono hr (by decide)
    have h7 : Room 7 (A.deeper (envOfC "plan_within" (defScope sPlanWithin) s.heap.objs.size f cdv)) := Room.mono hr (by decide)
    refine ⟨_, pss_cons (ps_if (pt_not (pt_val (pe_call GG h4 (by rfl) gG kG bG .nil pass0 (pa_cons (pv 0) (pa_cons (pv 1) pa_nil))))) (pss_one ps_never) pss_nil)
      (pss_cons (ps_if (pt_val (pe_call GI h7 (by rfl) gI kI bI .nil pass0 (pa_cons (pv 0) pa_nil))) (pss_one (ps_set (i := 2) nd rfl (Or.inl rfl) (pe_call GR hr (by rfl) gR kR bR .nil pass0 (pa_cons (pv 0) (pa_cons (pv 1) pa_nil))))) (pss_one ps_never))
      (pss_one (ps_ret (pe_ifExp (pt_cmpR op_isN (pv 2) pe_non (nomark _)) pe_non (pe_call GP h6 (by rfl) gP kP bP .nil pass0 (pa_cons (pv 0) (pa_cons (pe_callTy call_tupD (by rfl) N.is.tup (by decide +kernel) (pa_cons (pv 2) pa_nil)) pa_nil))))))), ?_⟩
    refine ⟨_, rfl, _, rfl, a, b, rowF n, T, R, rfl, hF, hb, by rw [show (rowF n).ps.length = n from rowP_len ok.n1]; exact ok, true, rfl, ?_⟩
    refine ifF (by decide) ?_
    refine ⟨_, rfl, a, n, rfl, hF, ok.n1, ok.n60, fun H1 s1 => ⟨true, rfl, ?_⟩⟩
    refine ifT rfl ?_
    have hF1 := foAt_same s1 hF
    refine ⟨_, rfl, _, rfl, a, b, n, T, R, rfl, hF1, buSame s1 hb, ok, fun c H2 s2 => ?_, fun c o H2 s2 o0 ho => ?_⟩
    · refine ⟨_, rfl, rfl, _, rfl, ?_⟩
      refine ifT (by decide) ?_
      exact kN c H2 (s1.trans s2)
    · refine ⟨_, rfl, rfl, _, rfl, ?_⟩
      refine ifF (fun z => nomatch (show V.ref o = V.non from of_decide_eq_true z)) ?_
      obtain ⟨_, sz, _⟩ := trW_all ok c
      have el : (rowF n).ps.length = n := rowP_len ok.n1
      refine ⟨_, rfl, _, rfl, o, _, rfl, .inl (.inl ho), fun l H3 s3 hl => ?_⟩
      refine ⟨a, l, rowF n, ordT (trW T R (0, 0, 0, n)) 0, rfl, foAt_same (s2.trans s3) hF1, hl, rowP_ps, by rw [el]; exact ok.n60, by rw [el]; exact cuts_tree sz, fun r H4 s4 hr4 => ?_⟩
      rw [el, show (rowF n).ps = rowP n from rfl, lvOf_tree ok.n1 sz] at hr4
      exact kO c r H4 (s1.trans (s2.trans (s3.trans s4))) hr4
end
end Cn
namespace Cn
open PySem PySem.Spec PyProof.Rows L2 Ck
section
variable {P : Program} {w : World} {K : PySem.W.Frag} {mg : Str → Option Value} {base : Heap} {C : Addr}
def nLMay : List Str := ["_law_budgets_here", "_law_key", "_law_gap", "_law_lefts", "_law_rights"]
theorem scLMay : FnScope nLMay ["_law_budgets_here", "_law_key"] (defScope sLMay) := ⟨rfl, rfl, rfl, by decide +kernel, rfl, by decide +kernel, by decide +kernel⟩
theorem dLMay (B : Defs K mg C) : Def P w K mg base "_law_may_end" 1 ["_law_budgets_here", "_law_key"] spMayEnd := by
  have N := B.N
  have nd := scLMay.nd
  refine def_of B.lmy fun f fd F => ?_
  refine F.ok scLMay (fun vs H Q E h => ?_) (fun cdv A outer s H vs Q E hr h => ?_)
  · obtain ⟨b, q, n, l, x, y, T, R, rfl, _⟩ := h
    rfl
  · obtain ⟨b, q, n, l, x, y, T, R, rfl, ⟨t, r, hb, ht, hrr⟩, ok, hq, hl, k⟩ := h
    refine ⟨_, pss_cons (ps_asg (pv 1) (pg_tup rfl (pgs_cons (pg_name (i := 2) nd rfl (Or.inl rfl)) (pgs_cons (pg_name (i := 3) nd rfl (Or.inl rfl)) (pgs_cons (pg_name (i := 4) nd rfl (Or.inl rfl)) pgs_nil)))))
      (pss_cons (ps_if (PW.pt (pw_and (pt_cmpR op_lt (pv 2) (pe_callB call_len_seq (by rfl) N.is.len PySem.boot_len (pa_cons (pe_ix ix_tup (pv 0) pe_int (fun _ _ => rfl)) pa_nil)) (nomark _)) (pw_and1 (pt_cmpR op_lt (pe_ix ix_tup (pe_ix ix_tup (pv 0) pe_int (fun _ _ => rfl)) (pv 2) (fun _ _ => rfl)) (pv 3) (nomark _))))) (pss_one (ps_ret pe_bl)) pss_nil)
      (pss_one (ps_ret (pe_or (pe_cmpR op_eq (pv 2) pe_int (nomark _)) (pe_one (pe_cmpR op_ge (pe_ix ix_tup (pe_ix ix_tup (pv 0) pe_int (fun _ _ => rfl)) (pe_op op_sub (pv 2) pe_int) (fun _ _ => rfl)) (pv 4) (nomark _))))))), ?_⟩
    refine ⟨_, rfl, q, _, rfl, tnL hq, rfl, _, _, rfl, _, _, rfl, _, _, rfl, rfl, ?_⟩
    refine ⟨_, rfl, _, rfl, b, _, (0 : Int), _, rfl, rfl, .inl (.inl hb), rfl, t, _, rfl, .inr (tnL ht), _, _, rfl, rfl, _, rfl, ?_⟩
    rw [List.length_map, ok.t]
    have tail : (l ≥ n ∨ x ≤ T.getD l 0) → tOrV (tOp rEq (tVar 2) (tC (.int 0))) (tOp (rI0 fun i j => V.bl (decide (j ≤ i))) (tOp (rIxT K) (tOp (rIxT K) (tVar 0) (tC (.int 1))) (tOp (rI0 fun i j => V.int (i - j)) (tVar 2) (tC (.int 1)))) (tVar 4)) [some (.ref b), some (.ref q), some (vn l), some (vn x), some (vn y)] H Q := fun hx => by
      refine ⟨_, rfl, rfl, _, rfl, ?_⟩
      by_cases c : l = 0
      · refine ifT (decide_eq_true (by rw [c]; rfl)) ?_
        rw [show may T R l x y = true from may_iff.mpr ⟨by rw [ok.t]; exact hx, .inl c⟩] at k
        exact k
      · refine ifF (fun z => c (by have := V.int.inj (of_decide_eq_true z); omega)) ?_
        have hrl : l - 1 < R.length := by rw [ok.r]; omega
        refine ⟨_, rfl, b, _, (1 : Int), _, rfl, rfl, .inl (.inl hb), rfl, _, rfl, _, _, rfl, rfl, r, _, ((l - 1 : Nat) : Int), _, rfl, by show V.int (((l : Nat) : Int) - 1) = V.int _; rw [show ((l : Nat) : Int) - 1 = ((l - 1 : Nat) : Int) from by omega], tnL hrr, vn_ix (getD_at hrl), _, rfl, _, _, rfl, rfl, ?_⟩
        have e : decide (((y : Nat) : Int) ≤ ((R.getD (l - 1) 0 : Nat) : Int)) = may T R l x y := by
          rw [Bool.eq_iff_iff, decide_eq_true_iff, may_iff, ok.t]
          constructor
          · intro z; exact ⟨hx, .inr (by omega)⟩
          · rintro ⟨_, z⟩; omega
        show Q (V.bl (decide (((y : Nat) : Int) ≤ ((R.getD (l - 1) 0 : Nat) : Int)))) H
        rw [e]
        exact k
    by_cases c : l < n
    · refine ifT (decide_eq_true (by omega)) ?_
      refine ⟨_, rfl, b, _, (0 : Int), _, rfl, rfl, .inl (.inl hb), rfl, _, rfl, t, _, (l : Int), _, rfl, rfl, tnL ht, vn_ix (getD_at (by rw [ok.t]; exact c)), _, rfl, _, _, rfl, rfl, _, rfl, ?_⟩
      by_cases d : T.getD l 0 < x
      · refine ifT (decide_eq_true (by omega)) ?_
        rw [show may T R l x y = false from by
          cases h : may T R l x y with
          | false => rfl
          | true =>
            have := (may_iff.mp h).1
            rw [ok.t] at this
            omega] at k
        exact k
      · refine ifF (fun z => d (by have := of_decide_eq_true z; omega)) ?_
        exact tail (.inr (by omega))
    · refine ifF (fun z => c (by have := of_decide_eq_true z; omega)) ?_
      refine ifF (by decide) ?_
      exact tail (.inl (by omega))
def nLLeast : List Str := ["_law_budgets_here", "_law_key", "_law_known", "_law_gap", "_law_lefts", "_law_rights", "_law_found", "_law_least_here"]
theorem scLLeast : FnScope nLLeast ["_law_budgets_here", "_law_key", "_law_known"] (defScope sLLeast) := ⟨rfl, rfl, rfl, by decide +kernel, rfl, by decide +kernel, by decide +kernel⟩
theorem ok_lleast (B : Defs K mg C) {f : Addr} {fd : FuncData} (F : Fun K "_law_least" "_law_least" sLLeast f fd) (g : mg "_law_least" = some (.ref f)) (bR : Binds K fd ["_law_budgets_here", "_law_key", "_law_known"] []) : ∀ m : Nat, FnOk P w K mg base CX0 (m + 2) f fd ["_law_budgets_here", "_law_key", "_law_known"] (spReach m) := by
  obtain ⟨fM, fdM, GM, gM, kM, bM⟩ := dLMay (P := P) (w := w) (base := base) B
  have N := B.N
  have nd := scLLeast.nd
  have kp := F.kp
  intro m
  induction m with
  | zero =>
    refine F.ok scLLeast (fun vs H Q E h => ?_) (fun cdv A outer s H vs Q E hr h => ?_)
    · obtain ⟨b, q, d, n, l, x, y, T, R, ks, rfl, _⟩ := h
      rfl
    · obtain ⟨b, q, d, n, l, x, y, T, R, ks, rfl, hb, ok, hq, hk, hm, _⟩ := h
      have := hk.kx
      have := hk.ky
      omega
  | succ m ih =>
    refine F.ok scLLeast (fun vs H Q E h => ?_) (fun cdv A outer s H vs Q E hr h => ?_)
    · obtain ⟨b, q, d, n, l, x, y, T, R, ks, rfl, _⟩ := h
      rfl
    · obtain ⟨b, q, d, n, l, x, y, T, R, ks, rfl, hb, ok, hq, hk, hm, hd, hG, k⟩ := h
      have h1 : Room 1 (A.deeper (envOfC "_law_least" (defScope sLLeast) s.heap.objs.size f cdv)) := Room.mono hr (by omega)
      have hu : (A.deeper (envOfC "_law_least" (defScope sLLeast) s.heap.objs.size f cdv)).units + 1 < cLine := by have := hr.units; omega
      refine ⟨_, pss_cons (ps_if (pt_cmp (pc_din hu (pv 1) (pv 2))) (pss_one (ps_ret (pe_dget hu (pv 2) (pv 1) (fun _ _ => rfl)))) pss_nil)
        (pss_cons (ps_asg (pv 1) (pg_tup rfl (pgs_cons (pg_name (i := 3) nd rfl (Or.inl rfl)) (pgs_cons (pg_name (i := 4) nd rfl (Or.inl rfl)) (pgs_cons (pg_name (i := 5) nd rfl (Or.inl rfl)) pgs_nil)))))
        (pss_cons (ps_set (i := 6) nd rfl (Or.inl rfl) (pv 3))
        (psMid (ps_if (pt_not (pt_val (pe_call GM h1 (by rfl) gM kM bM .nil pass0 (pa_cons (pv 0) (pa_cons (pv 1) pa_nil))))) (pss_one (ps_set (i := 6) nd rfl (Or.inl rfl) (pe_op op_sub (pv 3) pe_int)))
          (pss_one (ps_if (pt_cmpR op_lt (pv 3) (pe_callB call_len_seq (by rfl) N.is.len PySem.boot_len (pa_cons (pe_ix ix_tup (pv 0) pe_int (fun _ _ => rfl)) pa_nil)) (nomark _))
            (pss_cons (ps_set (i := 7) nd rfl (Or.inl rfl) (pe_call ih hr (by rfl) g kp bR .nil pass0 (pa_cons (pv 0) (pa_cons (pe_tup (pa_cons (pv 3) (pa_cons (pe_op op_add (pv 4) pe_int) (pa_cons (pv 5) pa_nil)))) (pa_cons (pv 2) pa_nil)))))
            (pss_cons (ps_set (i := 6) nd rfl (Or.inl rfl) (pe_callB (call_max2 rfl) (by rfl) B.zMax (by decide +kernel) (pa_cons (pv 3) (pa_cons (pv 7) pa_nil))))
            (pss_one (ps_if (pt_chain op_le op_lt (pv 3) (pv 7) (pe_callB call_len_seq (by rfl) N.is.len PySem.boot_len (pa_cons (pe_ix ix_tup (pv 0) pe_int (fun _ _ => rfl)) pa_nil))) (pss_one (ps_set (i := 6) nd rfl (Or.inl rfl) (pe_callB (call_max2 rfl) (by rfl) B.zMax (by decide +kernel) (pa_cons (pv 6) (pa_cons (pe_call ih hr (by rfl) g kp bR .nil pass0 (pa_cons (pv 0) (pa_cons (pe_tup (pa_cons (pe_op op_add (pv 7) pe_int) (pa_cons (pv 4) (pa_cons (pe_op op_add (pv 5) pe_int) pa_nil)))) (pa_cons (pv 2) pa_nil)))) pa_nil))))) pss_nil))))
            pss_nil)))
        (pss_cons (ps_dput hu (pv 2) (pv 1) (pv 6) rfl)
        (pss_one (ps_ret (pv 6))))))), ?_⟩
      have hdg : ∀ {G : Hp} {ks : List K3} {q : Addr} {a : K3}, RAt G d T R ks → TN G q [a.1, a.2.1, a.2.2] → DGet G d (.ref q) (valV (rdict (rg T R) ks) (k3 a)) := fun h1 h2 => DGet.t h1 h2
      refine ⟨_, rfl, _, rfl, d, _, rfl, hdg (a := (l, x, y)) hd hq, _, rfl, ?_⟩
      rw [rdict_get]
      by_cases c : (l, x, y) ∈ ks
      · refine ifT (by rw [if_pos c]; rfl) ?_
        refine ⟨_, rfl, _, rfl, d, V.int (rv T R l x y), rfl, ?_, ?_⟩
        · have := hdg (a := (l, x, y)) hd hq
          rw [rdict_get, if_pos c] at this
          exact this
        · exact k ks H (kept_same (Same.refl _)) hd hG (fun _ h => h) c
      · refine ifF (by rw [if_neg c]; decide) ?_
        obtain ⟨t, r, hb0, ht, hrr⟩ := id hb
        refine ⟨_, rfl, q, _, rfl, tnL hq, rfl, _, _, rfl, _, _, rfl, _, _, rfl, rfl, ?_⟩
        refine ⟨_, rfl, ?_⟩
        refine ⟨fun σ H' => ∃ (t8 : Option V) (ks' : List K3), σ = [some (.ref b), some (.ref q), some (.ref d), some (vn l), some (vn x), some (vn y), some (.int (rv T R l x y)), t8] ∧ Kept d H H' ∧ RAt H' d T R ks' ∧ GoodK T R n ks' ∧ Sub3 ks ks' ∧
          (may T R l x y = true → l ≠ n → (l, x + 1, y) ∈ ks' ∧ ((l : Int) ≤ rv T R l (x + 1) y → rv T R l (x + 1) y < (n : Int) → ((rv T R l (x + 1) y).toNat + 1, x, y + 1) ∈ ks')), ?_, ?_⟩
        · refine ⟨_, rfl, _, rfl, b, q, n, l, x, y, T, R, rfl, hb, ok, hq, hk.kl, _, rfl, ?_⟩
          by_cases cm : may T R l x y = true
          · refine ifF (by rw [cm]; decide) ?_
            have es := rv_step hk cm
            rw [ok.t] at es
            refine ⟨_, rfl, _, rfl, b, _, (0 : Int), _, rfl, rfl, .inl (.inl hb0), rfl, t, _, rfl, .inr (tnL ht), _, _, rfl, rfl, _, rfl, ?_⟩
            rw [List.length_map, ok.t]
            by_cases cl : l = n
            · refine ifF (fun z => by have := of_decide_eq_true z; omega) ?_
              rw [if_pos cl] at es
              refine ⟨none, ks, ?_, kept_same (Same.refl _), hd, hG, fun _ h => h, fun _ ne => absurd cl ne⟩
              rw [es]; rfl
            · have kl := hk.kl
              refine ifT (decide_eq_true (by omega)) ?_
              rw [if_neg cl] at es
              have hx60 := may_x ok cm cl hk
              have hy60 := may_y ok cm hk
              refine ⟨_, rfl, _, rfl, _, rfl, _, _, rfl, rfl, _, rfl, by show 3 ≤ sizeLine; decide, fun q2 nq2 => ?_⟩
              have S2 := smUpd (o := .tup [vn l, V.int ((x : Int) + 1), vn y]) nq2
              have hq2 : TN (upd H q2 (.tup [vn l, V.int ((x : Int) + 1), vn y])) q2 [l, x + 1, y] := by
                show upd H q2 _ q2 = _
                rw [upd_same]; rfl
              generalize upd H q2 (.tup [vn l, V.int ((x : Int) + 1), vn y]) = Ha at S2 hq2 ⊢
              refine ⟨_, rfl, b, q2, d, n, l, x + 1, y, T, R, ks, rfl, buSame S2 hb, ok, hq2, ⟨hk.kl, by omega, hk.ky, hk.kz⟩, by omega, S2 _ _ hd, hG, fun ks1 H1 k1 hd1 hG1 sub1 mem1 => ?_⟩
              have k01 : Kept d H H1 := kept_trans (kept_same S2) k1
              refine ⟨_, rfl, _, rfl, _, _, rfl, ?_⟩
              generalize hmv : rv T R l (x + 1) y = mv at es ⊢
              refine ⟨_, rfl, _, rfl, _, _, rfl, rfl, _, rfl, ?_⟩
              by_cases d1 : (l : Int) ≤ mv
              · refine ifT (decide_eq_true d1) ?_
                obtain ⟨p, rfl⟩ := Int.eq_ofNat_of_zero_le (show 0 ≤ mv by omega)
                rw [if_neg (by omega)] at es
                have em : (if ((p : Nat) : Int) > ((l : Nat) : Int) then ((p : Nat) : Int) else ((l : Nat) : Int)) = ((p : Nat) : Int) := by
                  split <;> omega
                obtain ⟨t', r', hb1, ht1, _⟩ := buKept hd k01 hb
                refine ⟨_, rfl, b, _, (0 : Int), _, rfl, rfl, .inl (.inl hb1), rfl, t', _, rfl, .inr (tnL ht1), _, _, rfl, rfl, _, rfl, ?_⟩
                rw [List.length_map, ok.t]
                by_cases d2 : ((p : Nat) : Int) < ((n : Nat) : Int)
                · refine ifT (decide_eq_true d2) ?_
                  rw [if_pos d2, Int.toNat_natCast] at es
                  rw [em]
                  refine ⟨_, rfl, _, rfl, _, rfl, _, _, rfl, rfl, _, rfl, _, rfl, _, _, rfl, rfl, by show 3 ≤ sizeLine; decide, fun q3 nq3 => ?_⟩
                  have S3 := smUpd (o := .tup [V.int ((p : Int) + 1), vn x, V.int ((y : Int) + 1)]) nq3
                  have hq3 : TN (upd H1 q3 (.tup [V.int ((p : Int) + 1), vn x, V.int ((y : Int) + 1)])) q3 [p + 1, x, y + 1] := by
                    show upd H1 q3 _ q3 = _
                    rw [upd_same]; rfl
                  have hd3 := S3 _ _ hd1
                  generalize upd H1 q3 (.tup [V.int ((p : Int) + 1), vn x, V.int ((y : Int) + 1)]) = Hb at S3 hq3 hd3 ⊢
                  refine ⟨_, rfl, b, q3, d, n, p + 1, x, y + 1, T, R, ks1, rfl, buSame S3 (buKept hd k01 hb), ok, hq3, ⟨by omega, hk.kx, by omega, fun z => by omega⟩, by omega, hd3, hG1, fun ks2 H2 k2 hd2 hG2 sub2 mem2 => ?_⟩
                  refine ⟨_, _, rfl, some (vn p), ks2, ?_, kept_trans k01 (kept_trans (kept_same S3) k2), hd2, hG2, fun z hz => sub2 z (sub1 z hz), fun _ _ => ⟨sub2 _ mem1, fun _ _ => ?_⟩⟩
                  · rw [es]
                    show [_, _, _, _, _, _, some (V.int (if rv T R (p + 1) x (y + 1) > ((p : Nat) : Int) then rv T R (p + 1) x (y + 1) else ((p : Nat) : Int))), _] = _
                    rw [show (if rv T R (p + 1) x (y + 1) > ((p : Nat) : Int) then rv T R (p + 1) x (y + 1) else ((p : Nat) : Int)) = max ((p : Nat) : Int) (rv T R (p + 1) x (y + 1)) from by split <;> omega]
                  · rw [Int.toNat_natCast]; exact mem2
                · refine ifF (fun z => d2 (of_decide_eq_true z)) ?_
                  rw [if_neg d2] at es
                  rw [em]
                  refine ⟨some (vn p), ks1, ?_, k01, hd1, hG1, sub1, fun _ _ => ⟨mem1, fun _ z => absurd z d2⟩⟩
                  rw [es]; rfl
              · refine ifF (fun z => d1 (of_decide_eq_true z)) ?_
                rw [if_pos (by omega)] at es
                refine ⟨_, rfl, ?_⟩
                refine ifF (by decide) ?_
                refine ⟨some (.int mv), ks1, ?_, k01, hd1, hG1, sub1, fun _ _ => ⟨mem1, fun z _ => absurd z d1⟩⟩
                rw [es, if_neg (by omega)]; rfl
          · have cm' : may T R l x y = false := by cases h : may T R l x y <;> simp_all
            refine ifT (by rw [cm']; rfl) ?_
            refine ⟨_, rfl, _, _, rfl, rfl, none, ks, ?_, kept_same (Same.refl _), hd, hG, fun _ h => h, fun z => absurd z cm⟩
            rw [rv_no cm']; rfl
        · rintro σ2 H2 ⟨t8, ks', rfl, k', hd', hG', sub', cc⟩
          have hq' : H2 q = some (.tup ((k3 (l, x, y)).map kV)) := tnKept hd k' hq
          refine ⟨_, rfl, _, rfl, _, rfl, d, _, rfl, DPut.t (k := k3 (l, x, y)) hd' hq' (by rw [rdict_len]; exact Nat.lt_of_le_of_lt (goodK_len ok.n60 hG') (by decide)), _, rfl, ?_⟩
          have kk : ∀ o, Kept d H (upd H2 d o) := fun o => kept_trans k' kept_hand
          by_cases c2 : (l, x, y) ∈ ks'
          · have e : putK (rdict (rg T R) ks') (k3 (l, x, y)) (V.int (rv T R l x y)) = rdict (rg T R) ks' := rdict_same (g := rg T R) c2
            rw [e]
            exact k ks' _ (kk _) upd_same hG' sub' c2
          · have e : putK (rdict (rg T R) ks') (k3 (l, x, y)) (V.int (rv T R l x y)) = rdict (rg T R) (ks' ++ [(l, x, y)]) := rdict_put (g := rg T R) c2
            rw [e]
            exact k (ks' ++ [(l, x, y)]) _ (kk _) upd_same (goodK_add hG' c2 hk cc) (fun z hz => List.mem_append.mpr (.inl (sub' z hz))) (List.mem_append.mpr (.inr (List.mem_singleton.mpr rfl)))
theorem dLLeast (B : Defs K mg C) : Def P w K mg base "_law_least" 125 ["_law_budgets_here", "_law_key", "_law_known"] (spReach 123) := by
  obtain ⟨f, fd, D⟩ := B.lls
  exact ⟨f, fd, ok_lleast B D.F D.g D.b 123, D.g, D.F.kp, D.b⟩
end
end Cn
namespace Cn
open PySem PySem.Spec PyProof.Rows L2 Ck
section
variable {P : Program} {w : World} {K : PySem.W.Frag} {mg : Str → Option Value} {base : Heap} {C : Addr}
def spLEnough : Sp := fun vs H Q _ => ∃ (b q d : Addr) (n l x y : Nat) (T R : List Nat) (ks : List K3), vs = [.ref b, .ref d, .ref q] ∧ BuAt H b T R ∧ BuOk n T R ∧ TN H q [l, x, y] ∧ Rd H d (.dT (rdict (rg T R) ks)) ∧ GoodK T R n ks ∧ (l, x, y) ∈ ks ∧ ∀ H', Same H H' → Q (.bl true) H'
def nLEnough : List Str := ["_law_budgets_here", "_law_thing", "_law_key", "_law_gap", "_law_lefts", "_law_rights", "_law_number", "_law_least_here", "_law_later"]
theorem scLEnough : FnScope nLEnough ["_law_budgets_here", "_law_thing", "_law_key"] (defScope sLEnough) := ⟨rfl, rfl, rfl, by decide +kernel, rfl, by decide +kernel, by decide +kernel⟩
theorem dLEnough (B : Defs K mg C) : Def P w K mg base "_law_is_enough" 2 ["_law_budgets_here", "_law_thing", "_law_key"] spLEnough := by
  obtain ⟨fM, fdM, GM, gM, kM, bM⟩ := dLMay (P := P) (w := w) (base := base) B
  have N := B.N
  have nd := scLEnough.nd
  refine def_of B.lie fun f fd F => ?_
  refine F.ok scLEnough (fun vs H Q E h => ?_) (fun cdv A outer s H vs Q E hr h => ?_)
  · obtain ⟨b, q, d, n, l, x, y, T, R, ks, rfl, _⟩ := h
    rfl
  · obtain ⟨b, q, d, n, l, x, y, T, R, ks, rfl, hb, ok, hq, hd, hG, hm, k⟩ := h
    have hu : (A.deeper (envOfC "_law_is_enough" (defScope sLEnough) s.heap.objs.size f cdv)).units + 1 < cLine := by have := hr.units; omega
    refine ⟨_, pss_cons (ps_asg (pv 2) (pg_tup rfl (pgs_cons (pg_name (i := 3) nd rfl (Or.inl rfl)) (pgs_cons (pg_name (i := 4) nd rfl (Or.inl rfl)) (pgs_cons (pg_name (i := 5) nd rfl (Or.inl rfl)) pgs_nil)))))
      (pss_cons (ps_set (i := 6) nd rfl (Or.inl rfl) (pe_dget hu (pv 1) (pv 2) (fun _ _ => rfl)))
      (pss_cons (ps_if (pt_not (pt_val (pe_call GM hr (by rfl) gM kM bM .nil pass0 (pa_cons (pv 0) (pa_cons (pv 2) pa_nil))))) (pss_one (ps_ret (pe_cmpR op_ge (pv 6) (pe_op op_sub (pv 3) pe_int) (nomark _)))) pss_nil)
      (pss_cons (ps_if (pt_cmpR op_eq (pv 3) (pe_callB call_len_seq (by rfl) N.is.len PySem.boot_len (pa_cons (pe_ix ix_tup (pv 0) pe_int (fun _ _ => rfl)) pa_nil)) (nomark _)) (pss_one (ps_ret (pe_cmpR op_ge (pv 6) (pv 3) (nomark _)))) pss_nil)
      (pss_cons (ps_if (PW.pt (pw_or (pt_cmpR op_lt (pv 6) (pv 3) (nomark _)) (pw_or1 (pt_cmp (pc_dnotin hu (pe_tup (pa_cons (pv 3) (pa_cons (pe_op op_add (pv 4) pe_int) (pa_cons (pv 5) pa_nil)))) (pv 1)))))) (pss_one ps_never) pss_nil)
      (pss_cons (ps_set (i := 7) nd rfl (Or.inl rfl) (pe_dget hu (pv 1) (pe_tup (pa_cons (pv 3) (pa_cons (pe_op op_add (pv 4) pe_int) (pa_cons (pv 5) pa_nil)))) (fun _ _ => rfl)))
      (pss_cons (ps_if (pt_cmpR op_lt (pv 7) (pv 3) (nomark _)) (pss_one (ps_ret pe_bl)) pss_nil)
      (pss_cons (ps_if (pt_cmpR op_lt (pv 7) (pe_callB call_len_seq (by rfl) N.is.len PySem.boot_len (pa_cons (pe_ix ix_tup (pv 0) pe_int (fun _ _ => rfl)) pa_nil)) (nomark _))
        (pss_cons (ps_set (i := 8) nd rfl (Or.inl rfl) (pe_tup (pa_cons (pe_op op_add (pv 7) pe_int) (pa_cons (pv 4) (pa_cons (pe_op op_add (pv 5) pe_int) pa_nil)))))
        (pss_one (ps_ret (pe_and (pe_cmpR op_ge (pv 6) (pv 7) (nomark _)) (pe_and (pe_cmp (pc_din hu (pv 8) (pv 1))) (pe_one (pe_cmpR op_ge (pv 6) (pe_dget hu (pv 1) (pv 8) (fun _ _ => rfl)) (nomark _)))))))) pss_nil)
      (pss_one (ps_ret (pe_cmpR op_ge (pv 6) (pv 7) (nomark _))))))))))), ?_⟩
    obtain ⟨t, r, hb0, ht, hrr⟩ := id hb
    have hk : KOk n l x y := hG.ok _ hm
    have kl : l ≤ n := hk.kl
    refine ⟨_, rfl, q, _, rfl, tnL hq, rfl, _, _, rfl, _, _, rfl, _, _, rfl, rfl, ?_⟩
    refine ⟨_, rfl, _, rfl, d, V.int (rv T R l x y), rfl, rget (a := (l, x, y)) hd hq hm, ?_⟩
    refine ⟨_, rfl, _, rfl, b, q, n, l, x, y, T, R, rfl, hb, ok, hq, kl, _, rfl, ?_⟩
    have fin : ∀ (c : Bool) (H' : Hp), Same H H' → c = true → Q (.bl c) H' := fun c H' s e => e ▸ k H' s
    by_cases cm : may T R l x y = true
    · refine ifF (by rw [cm]; decide) ?_
      have es := rv_step hk cm
      rw [ok.t] at es
      refine ⟨_, rfl, _, rfl, b, _, (0 : Int), _, rfl, rfl, .inl (.inl hb0), rfl, t, _, rfl, .inr (tnL ht), rfl, _, rfl, ?_⟩
      rw [List.length_map, ok.t]
      by_cases cl : l = n
      · refine ifT (decide_eq_true (by rw [cl])) ?_
        rw [if_pos cl] at es
        refine ⟨_, rfl, _, rfl, _, _, rfl, rfl, ?_⟩
        exact fin _ H (Same.refl _) (decide_eq_true (show ((l : Nat) : Int) ≤ rv T R l x y from by omega))
      · refine ifF (fun z => cl (by have := V.int.inj (of_decide_eq_true z); omega)) ?_
        rw [if_neg cl] at es
        obtain ⟨c1, c2⟩ := hG.cl _ hm cm cl
        have hl : ((l : Nat) : Int) ≤ rv T R l x y := by
          rw [es]
          split
          · omega
          · split
            · have := Int.le_max_left (rv T R l (x + 1) y) (rv T R ((rv T R l (x + 1) y).toNat + 1) x (y + 1))
              omega
            · omega
        refine ⟨_, rfl, _, rfl, _, _, rfl, rfl, _, rfl, ?_⟩
        refine ifF (fun z => by have := of_decide_eq_true z; omega) ?_
        refine ⟨_, rfl, _, rfl, _, _, rfl, rfl, _, rfl, by show 3 ≤ sizeLine; decide, fun q1 nq1 => ?_⟩
        have S1 := smUpd (o := .tup [vn l, V.int ((x : Int) + 1), vn y]) nq1
        have hq1 : TN (upd H q1 (.tup [vn l, V.int ((x : Int) + 1), vn y])) q1 [l, x + 1, y] := by
          show upd H q1 _ q1 = _
          rw [upd_same]; rfl
        generalize upd H q1 (.tup [vn l, V.int ((x : Int) + 1), vn y]) = H1 at S1 hq1 ⊢
        have hd1 : Rd H1 d (.dT (rdict (rg T R) ks)) := hd.imp (S1 _ _) fun ⟨o, e⟩ => ⟨o, S1 _ _ e⟩
        refine ⟨_, rfl, d, _, rfl, rget (a := (l, x + 1, y)) hd1 hq1 c1, _, rfl, ?_⟩
        refine ifF (fun z => nomatch (show false = true from z)) ?_
        refine ⟨_, rfl, _, rfl, _, rfl, _, _, rfl, rfl, _, rfl, by show 3 ≤ sizeLine; decide, fun q2 nq2 => ?_⟩
        have S2 := S1.trans (smUpd (o := .tup [vn l, V.int ((x : Int) + 1), vn y]) nq2)
        have hq2 : TN (upd H1 q2 (.tup [vn l, V.int ((x : Int) + 1), vn y])) q2 [l, x + 1, y] := by
          show upd H1 q2 _ q2 = _
          rw [upd_same]; rfl
        generalize upd H1 q2 (.tup [vn l, V.int ((x : Int) + 1), vn y]) = Ha at S2 hq2 ⊢
        have hdA : Rd Ha d (.dT (rdict (rg T R) ks)) := hd.imp (S2 _ _) fun ⟨o, e⟩ => ⟨o, S2 _ _ e⟩
        have gl : DGet Ha d (.ref q2) (some (V.int (rv T R l (x + 1) y))) := rget (a := (l, x + 1, y)) hdA hq2 c1
        refine ⟨d, _, rfl, gl, ?_⟩
        generalize hmv : rv T R l (x + 1) y = mv at es c2 ⊢
        refine ⟨_, rfl, _, rfl, _, _, rfl, rfl, _, rfl, ?_⟩
        by_cases d1 : mv < (l : Int)
        · refine ifT (decide_eq_true d1) ?_
          exact k Ha S2
        · refine ifF (fun z => d1 (of_decide_eq_true z)) ?_
          rw [if_neg d1] at es
          refine ⟨_, rfl, _, rfl, b, _, (0 : Int), _, rfl, rfl, .inl (.inl (S2 _ _ hb0)), rfl, t, _, rfl, .inr (tnL (S2 _ _ ht)), _, _, rfl, rfl, _, rfl, ?_⟩
          rw [List.length_map, ok.t]
          by_cases d2 : mv < (n : Int)
          · refine ifT (decide_eq_true d2) ?_
            rw [if_pos d2] at es
            have c3 := c2 (by show (l : Int) ≤ mv; omega) d2
            obtain ⟨p, rfl⟩ := Int.eq_ofNat_of_zero_le (show 0 ≤ mv by omega)
            have c3 : (p + 1, x, y + 1) ∈ ks := c3
            rw [Int.toNat_natCast] at es
            have m1 := Int.le_max_left ((p : Nat) : Int) (rv T R (p + 1) x (y + 1))
            have m2 := Int.le_max_right ((p : Nat) : Int) (rv T R (p + 1) x (y + 1))
            refine ⟨_, rfl, _, _, rfl, rfl, _, rfl, _, rfl, _, _, rfl, rfl, by show 3 ≤ sizeLine; decide, fun q3 nq3 => ?_⟩
            have S3 := smUpd (o := .tup [V.int ((p : Int) + 1), vn x, V.int ((y : Int) + 1)]) nq3
            have hq3 : TN (upd Ha q3 (.tup [V.int ((p : Int) + 1), vn x, V.int ((y : Int) + 1)])) q3 [p + 1, x, y + 1] := by
              show upd Ha q3 _ q3 = _
              rw [upd_same]; rfl
            generalize upd Ha q3 (.tup [V.int ((p : Int) + 1), vn x, V.int ((y : Int) + 1)]) = Hb at S3 hq3 ⊢
            have hdB : Rd Hb d (.dT (rdict (rg T R) ks)) := hdA.imp (S3 _ _) fun ⟨o, e⟩ => ⟨o, S3 _ _ e⟩
            have gr : DGet Hb d (.ref q3) (some (V.int (rv T R (p + 1) x (y + 1)))) := rget (a := (p + 1, x, y + 1)) hdB hq3 c3
            refine ⟨_, rfl, _, rfl, _, _, rfl, rfl, _, rfl, ?_⟩
            refine ifT (decide_eq_true (by omega)) ?_
            refine ⟨_, rfl, _, rfl, d, _, rfl, gr, _, rfl, ?_⟩
            refine ifT rfl ?_
            refine ⟨_, rfl, _, rfl, _, rfl, d, _, rfl, gr, _, _, rfl, rfl, ?_⟩
            exact fin _ Hb (S2.trans S3) (decide_eq_true (show rv T R (p + 1) x (y + 1) ≤ rv T R l x y from by omega))
          · refine ifF (fun z => d2 (of_decide_eq_true z)) ?_
            rw [if_neg d2] at es
            refine ⟨_, rfl, _, rfl, _, _, rfl, rfl, ?_⟩
            exact fin _ Ha S2 (decide_eq_true (show mv ≤ rv T R l x y from by omega))
    · have cm' : may T R l x y = false := by cases h : may T R l x y <;> simp_all
      refine ifT (by rw [cm']; rfl) ?_
      refine ⟨_, rfl, _, rfl, _, _, rfl, rfl, _, _, rfl, rfl, ?_⟩
      exact fin _ H (Same.refl _) (decide_eq_true (show ((l : Nat) : Int) - 1 ≤ rv T R l x y from by rw [rv_no cm']; omega))
/-- reaches made here are right -/
def spLIsReaches : Sp := fun vs H Q _ => ∃ (b d : Addr) (n : Nat) (T R : List Nat) (ks : List K3), vs = [.ref b, .ref d] ∧ BuAt H b T R ∧ BuOk n T R ∧ RAt H d T R ks ∧ GoodK T R n ks ∧ (0, 0, 0) ∈ ks ∧ ∀ H', Same H H' → Q (.bl true) H'
def nLIsReaches : List Str := ["_law_budgets_here", "_law_thing", "_law_key", "_law_one"]
theorem scLIsReaches : FnScope nLIsReaches ["_law_budgets_here", "_law_thing"] (defScope sLIsReaches) := ⟨rfl, rfl, rfl, by decide +kernel, rfl, by decide +kernel, by decide +kernel⟩
theorem dLIsReaches (B : Defs K mg C) : Def P w K mg base "_law_is_reaches" 3 ["_law_budgets_here", "_law_thing"] spLIsReaches := by
  obtain ⟨fB, fdB, GB, gB, kB, bB⟩ := dLEnough (P := P) (w := w) (base := base) B
  have N := B.N
  have nd := scLIsReaches.nd
  refine def_of B.lir fun f fd F => ?_
  refine F.ok scLIsReaches (fun vs H Q E h => ?_) (fun cdv A outer s H vs Q E hr h => ?_)
  · obtain ⟨b, d, n, T, R, ks, rfl, _⟩ := h
    rfl
  · obtain ⟨b, d, n, T, R, ks, rfl, hb, ok, hd, hG, hm, k⟩ := h
    have hu : (A.deeper (envOfC "_law_is_reaches" (defScope sLIsReaches) s.heap.objs.size f cdv)).units + 1 < cLine := by have := hr.units; omega
    refine ⟨_, pss_cons (ps_if (PW.pt (pw_or (pt_not (pt_val (pe_callB call_isi (by rfl) N.is.inst (by decide +kernel) (pa_cons (pv 1) (pa_cons (pe_bltn (v := .ty "dict") (by rfl) B.zDict (by decide +kernel) rfl) pa_nil)))))
          (pw_or1 (pt_cmp (pc_dnotin hu (pe_tup (pa_cons pe_int (pa_cons pe_int (pa_cons pe_int pa_nil)))) (pv 1)))))) (pss_one ps_never) pss_nil)
      (pss_cons (ps_lock (ps_for PassesOwn.never rfl (pi_keys (pv 1)) (pg_name (i := 2) nd rfl (Or.inl rfl))
        (pss_cons (ps_if (PW.pt (pw_or (pt_not (pt_val (pe_callB call_isi (by rfl) N.is.inst (by decide +kernel) (pa_cons (pv 2) (pa_cons (pe_bltn (v := .ty "tuple") (by rfl) N.is.tup (by decide +kernel) rfl) pa_nil)))))
            (pw_or (pt_cmpR op_ne (pe_callB call_len_seq (by rfl) N.is.len PySem.boot_len (pa_cons (pv 2) pa_nil)) pe_int (nomark _))
            (pw_or (pt_not (pt_val (pe_callB call_isi (by rfl) N.is.inst (by decide +kernel) (pa_cons (pe_dget hu (pv 1) (pv 2) (fun _ _ => rfl)) (pa_cons (pe_bltn (v := .ty "int") (by rfl) N.int (by decide +kernel) rfl) pa_nil)))))
            (pw_or1 (pt_val (pe_callB call_isi (by rfl) N.is.inst (by decide +kernel) (pa_cons (pe_dget hu (pv 1) (pv 2) (fun _ _ => rfl)) (pa_cons (pe_bltn (v := .ty "bool") (by rfl) N.is.bool (by decide +kernel) rfl) pa_nil))))))))) (pss_one ps_never) pss_nil)
        (pss_cons (ps_if (pt_not (pt_val (pe_callB (r := rAll K) (cr_all rfl) (by rfl) N.is.all (by decide +kernel) (pa_cons (pe_lc (own := [("_law_one", 3)]) (g := gName 3) (tt := tYes) rfl nd (pi_tup (pv 2))
          (blkOk_by (N := nLIsReaches) (sc := defScope sLIsReaches) (by decide +kernel)) (fun _ _ _ _ _ => pg_name (i := 3) nd rfl (Or.inl rfl)) (fun _ _ _ _ _ => pts_nil)
          (fun _ _ _ _ _ => pe_and (pe_callB (r := rIsi K) call_isi (by rfl) N.is.inst (by decide +kernel) (pa_cons (pv 3) (pa_cons (pe_bltn (v := .ty "int") (by rfl) N.int (by decide +kernel) rfl) pa_nil))) (pe_and (pe_not (pe_callB (r := rIsi K) call_isi (by rfl) N.is.inst (by decide +kernel) (pa_cons (pv 3) (pa_cons (pe_bltn (v := .ty "bool") (by rfl) N.is.bool (by decide +kernel) rfl) pa_nil)))) (pe_one (pe_cmpR op_ge (pv 3) pe_int (nomark _)))))) pa_nil)))) (pss_one ps_never) pss_nil)
        (pss_one (ps_if (pt_cmpR op_gt (pe_ix ix_tup (pv 2) pe_int (fun _ _ => rfl)) (pe_callB call_len_seq (by rfl) N.is.len PySem.boot_len (pa_cons (pe_ix ix_tup (pv 0) pe_int (fun _ _ => rfl)) pa_nil)) (nomark _)) (pss_one ps_never) pss_nil))))))
      (pss_one (ps_ret (pe_callB (r := rAll K) (cr_all rfl) (by rfl) N.is.all (by decide +kernel) (pa_cons (pe_lock (pe_lc (own := [("_law_key", 2)]) (g := gName 2) (tt := tYes) rfl nd (pi_keys (pv 1))
        (blkOk_by (N := nLIsReaches) (sc := defScope sLIsReaches) (by decide +kernel)) (fun _ _ _ _ _ => pg_name (i := 2) nd rfl (Or.inl rfl)) (fun _ _ _ _ _ => pts_nil)
        (fun _ _ _ _ _ => pe_call GB hr (by rfl) gB kB bB .nil pass0 (pa_cons (pv 0) (pa_cons (pv 1) (pa_cons (pv 2) pa_nil)))))) pa_nil))))), ?_⟩
    have hlen := goodK_len ok.n60 hG
    have hrl : (rdict (rg T R) ks).length = ks.length := rdict_len
    have at2 : ∀ {G : Hp} {i : Nat} {kk : List Key} {v : V} {q : Addr}, (rdict (rg T R) ks)[i]? = some (kk, v) → G q = some (.tup (kk.map kV)) → ∃ p : K3, p ∈ ks ∧ TN G q [p.1, p.2.1, p.2.2] ∧ v = V.int (rg T R p) := fun h hq => by
      obtain ⟨p, h1, rfl, rfl⟩ := rdict_at h
      exact ⟨p, List.mem_of_getElem? h1, hq, rfl⟩
    refine ⟨_, rfl, _, .ty "dict", _, _, true, rfl, .ty _, dctTy hd, kit_ty (by decide +kernel), true, rfl, ?_⟩
    refine ifF (by decide) ?_
    refine ⟨by show 3 ≤ sizeLine; decide, fun q nq => ?_⟩
    have S1 := smUpd (o := .tup [V.int 0, V.int 0, V.int 0]) nq
    have hq : TN (upd H q (.tup [V.int 0, V.int 0, V.int 0])) q [0, 0, 0] := by
      show upd H q _ q = _
      rw [upd_same]; rfl
    have hd1 : upd H q (.tup [V.int 0, V.int 0, V.int 0]) d = some (.dT (rdict (rg T R) ks)) := S1 _ _ hd
    generalize upd H q (.tup [V.int 0, V.int 0, V.int 0]) = H1 at S1 hq hd1 ⊢
    refine ⟨_, rfl, d, _, rfl, rget (a := (0, 0, 0)) (.inl hd1) hq hm, _, rfl, ?_⟩
    refine ifF (fun z => nomatch (show false = true from z)) ?_
    refine ⟨d, _, hd1, trivial, fun od => ?_⟩
    have hL : upd H1 d (.frz od (.dT (rdict (rg T R) ks))) d = some (.frz od (.dT (rdict (rg T R) ks))) := upd_same
    have KL : Kept d H (upd H1 d (.frz od (.dT (rdict (rg T R) ks)))) := kept_trans (kept_same S1) kept_hand
    generalize upd H1 d (.frz od (.dT (rdict (rg T R) ks))) = HL at hL KL ⊢
    refine ⟨_, rfl, d, od, rfl, .inr ⟨_, hL, ?_⟩⟩
    refine for_it walk_keysT (fun m σ H' => Kept d H H' ∧ H' d = some (.frz od (.dT (rdict (rg T R) ks))) ∧ ∃ t2 t3, σ = [some (.ref b), some (.ref d), t2, t3]) ⟨KL, hL, none, none, rfl⟩ (fun m σ H' _ z => z.2.1) ?_ ?_
    · rintro m x σ H2 H2' hm2 ⟨k2, hd2, t2, t3, rfl⟩ ⟨rfl, kk, v, q, hkv, rfl, hq⟩
      obtain ⟨p, hp1, hp2, rfl⟩ := at2 hkv hq
      have gp : DGet H2' d (.ref q) (some (V.int (rg T R p))) := rget (a := p) (.inr ⟨od, hd2⟩) hp2 hp1
      refine ⟨_, rfl, _, .ty "tuple", _, _, true, rfl, .ty _, tupTy hp2, kit_ty (by decide +kernel), true, rfl, ?_⟩
      refine ifF (by decide) ?_
      refine ⟨_, rfl, q, _, rfl, .inr (tnL hp2), rfl, _, rfl, ?_⟩
      refine ifF (by show ¬ (!decide (V.int 3 = V.int 3)) = true; decide) ?_
      refine ⟨_, rfl, _, rfl, d, _, rfl, gp, _, .ty "int", _, _, true, rfl, .ty _, intTy, kit_ty (by decide +kernel), true, rfl, ?_⟩
      refine ifF (by decide) ?_
      refine ⟨_, rfl, _, rfl, d, _, rfl, gp, _, .ty "bool", _, _, false, rfl, .ty _, intTy, kit_ty (by decide +kernel), false, rfl, ?_⟩
      refine ifF (by decide) ?_
      refine ⟨_, rfl, q, rfl, ⟨_, tnL hp2⟩, fun D nD => ?_⟩
      refine lc_tup (xs := [p.1, p.2.1, p.2.2].map vn) (fun i H' => Same H2' H' ∧ H' D = some (.lst ((List.replicate i true).map V.bl))) ⟨smUpd nD, upd_same⟩ (fun i H' _ z => tnL (z.1 _ _ hp2)) ?_ ?_
      · rintro i x H3 hx ⟨s3, hD3⟩
        obtain ⟨j, hj, rfl⟩ := vn_get hx
        have hi : i < 3 := (List.getElem?_eq_some_iff.mp hj).1
        refine ⟨rfl, _, rfl, _, .ty "int", _, _, true, rfl, .ty _, intTy, kit_ty (by decide +kernel), true, rfl, ?_⟩
        refine ifT rfl ?_
        refine ⟨_, rfl, _, .ty "bool", _, _, false, rfl, .ty _, intTy, kit_ty (by decide +kernel), false, rfl, _, rfl, ?_⟩
        refine ifT rfl ?_
        refine ⟨_, rfl, _, _, rfl, rfl, ?_⟩
        refine ⟨_, hD3, small6063 (by rw [List.length_map, List.length_replicate]; omega), smOver nD s3, ?_⟩
        rw [upd_same, List.replicate_succ', List.map_append]
        show some (HO.lst (_ ++ [V.bl (decide ((0 : Int) ≤ ((j : Nat) : Int)))])) = _
        rw [show decide ((0 : Int) ≤ ((j : Nat) : Int)) = true from decide_eq_true (by omega)]
        rfl
      · rintro H3 ⟨s3, hD3⟩
        have k3 := kept_trans k2 (kept_same s3)
        obtain ⟨t, r, hb3, ht3, _⟩ := buKept hd k3 hb
        refine ⟨D, List.replicate 3 true, rfl, .inl (.inl hD3), _, rfl, ?_⟩
        refine ifF (by decide) ?_
        refine ⟨_, rfl, q, _, (0 : Int), _, rfl, rfl, tnL (s3 _ _ hp2), rfl, _, rfl, b, _, (0 : Int), _, rfl, rfl, .inl (.inl hb3), rfl, t, _, rfl, .inr (tnL ht3), _, _, rfl, rfl, _, rfl, ?_⟩
        rw [List.length_map, ok.t]
        have hl := (hG.ok p hp1).kl
        refine ifF (fun z => by have := of_decide_eq_true z; omega) ?_
        exact ⟨k3, s3 _ _ hd2, _, _, rfl⟩
    · rintro σ H3 ⟨k3, hd3, t2, t3, rfl⟩
      refine ⟨hd3, ?_⟩
      have S4 : Same H (upd H3 d (.dT (rdict (rg T R) ks))) := sameBack k3 hd
      have hd5 : upd H3 d (.dT (rdict (rg T R) ks)) d = some (.dT (rdict (rg T R) ks)) := upd_same
      generalize upd H3 d (.dT (rdict (rg T R) ks)) = H5 at S4 hd5 ⊢
      refine ⟨d, _, hd5, trivial, fun od => ?_⟩
      have hL : upd H5 d (.frz od (.dT (rdict (rg T R) ks))) d = some (.frz od (.dT (rdict (rg T R) ks))) := upd_same
      have KL : Kept d H (upd H5 d (.frz od (.dT (rdict (rg T R) ks)))) := kept_trans (kept_same S4) kept_hand
      generalize upd H5 d (.frz od (.dT (rdict (rg T R) ks))) = HL at hL KL ⊢
      refine ⟨_, rfl, d, od, rfl, .inr ⟨_, hL, fun D2 nD2 => ?_⟩⟩
      refine lc_it walk_keysT (fun m H' => Kept d H H' ∧ H' d = some (.frz od (.dT (rdict (rg T R) ks))) ∧ H' D2 = some (.lst ((List.replicate m true).map V.bl))) ⟨kept_trans KL (kept_same (smUpd nD2)), (smUpd nD2) _ _ hL, upd_same⟩ (fun m H' _ z => z.2.1) ?_ ?_
      · rintro m x H6 H6' hm6 ⟨k6, hd6, hW⟩ ⟨rfl, kk, v, q6, hkv, rfl, hq6⟩
        obtain ⟨p, hp1, hp2, rfl⟩ := at2 hkv hq6
        refine ⟨rfl, _, rfl, _, rfl, _, rfl, b, q6, d, n, p.1, p.2.1, p.2.2, T, R, ks, rfl, buKept hd k6 hb, ok, hp2, .inr ⟨od, hd6⟩, hG, hp1, fun H7 s7 => ?_⟩
        have nD0 : H D2 = none := by
          cases e : H D2 with
          | none => rfl
          | some o =>
            by_cases z : D2 = d
            · rw [z, hL] at nD2; cases nD2
            · rw [KL _ _ z e] at nD2; cases nD2
        have nDd : d ≠ D2 := fun z => by rw [← z, hL] at nD2; cases nD2
        refine ⟨_, s7 _ _ hW, ?_, ?_, ?_, ?_⟩
        · rw [List.length_map, List.length_replicate]
          rw [hrl] at hm6
          exact Nat.lt_of_lt_of_le hm6 (Nat.le_trans hlen (by decide))
        · exact fun c o z e => by
            rw [upd_ne (fun y => by rw [y, nD0] at e; cases e)]
            exact kept_trans k6 (kept_same s7) c o z e
        · rw [upd_ne nDd]; exact s7 _ _ hd6
        · rw [upd_same, List.replicate_succ', List.map_append]; rfl
      · rintro H7 ⟨k7, hd7, hW⟩
        have nDd : D2 ≠ d := fun z => by rw [z, hL] at nD2; cases nD2
        refine ⟨hd7, D2, List.replicate ks.length true, rfl, .inl (.inl (by rw [upd_ne nDd, hW, hrl])), ?_⟩
        rw [all_rep]
        exact k _ (sameBack k7 hd)
end
end Cn
namespace Cn
open PySem PySem.Spec PyProof.Rows L2 Ck
section
variable {P : Program} {w : World} {K : PySem.W.Frag} {mg : Str → Option Value} {base : Heap} {C : Addr}
theorem rowPl_le {lv : List Nat} (h : RowPl lv) : ∀ i, i < lv.length → lv.getD i 0 ≤ i + 1
  | 0, hi => by have := h.first (List.length_pos_iff.mp hi); omega
  | i + 1, hi => by
    have := rowPl_le h i (by omega)
    have := h.next i hi
    omega
theorem rowPl_snoc {lv : List Nat} {l : Nat} (h : RowPl lv) (ne : lv ≠ []) (h1 : 1 ≤ l) (h2 : l ≤ lv.getD (lv.length - 1) 0 + 1) : RowPl (lv ++ [l]) := by
  have hp := List.length_pos_iff.mpr ne
  have gl : ∀ j, j < lv.length → (lv ++ [l]).getD j 0 = lv.getD j 0 := fun j hj => by
    rw [List.getD_eq_getElem?_getD, List.getD_eq_getElem?_getD, List.getElem?_append_left hj]
  have gr : (lv ++ [l]).getD lv.length 0 = l := by
    rw [List.getD_eq_getElem?_getD, List.getElem?_append_right (Nat.le_refl _), Nat.sub_self]; rfl
  refine ⟨fun i hi => ?_, fun _ => ?_, fun i hi => ?_⟩
  · rw [List.length_append] at hi
    have hi : i < lv.length + 1 := hi
    by_cases c : i < lv.length
    · rw [gl i c]; exact h.one i c
    · rw [show i = lv.length from by omega, gr]; exact h1
  · rw [gl 0 hp]; exact h.first ne
  · rw [List.length_append] at hi
    have hi : i + 1 < lv.length + 1 := hi
    rw [gl i (by omega)]
    by_cases c : i + 1 < lv.length
    · rw [gl _ c]; exact h.next i c
    · rw [show i + 1 = lv.length from by omega, gr, show i = lv.length - 1 from by omega]
      exact h2
def spRowPlan : Sp := fun vs H Q _ => ∃ (p c : Addr) (cells : List Int) (n : Nat), vs = [.ref p, vn n] ∧ HandIn H p c cells ∧ 1 ≤ n ∧ n ≤ 60 ∧
  ∀ r lv H', RowPl lv → lv.length = n → HandIn H' p c cells → Kept p H H' → TN H' r lv → Q (.ref r) H'
def nRowPlan : List Str := ["_law_hand_here", "_law_places", "_law_deep", "_law_found", "_law_place", "_law_most", "_law_level"]
theorem scRowPlan : FnScope nRowPlan ["_law_hand_here", "_law_places"] (defScope sRowPlan) := ⟨rfl, rfl, rfl, by decide +kernel, rfl, by decide +kernel, by decide +kernel⟩
theorem dRowPlan (B : Defs K mg C) : Def P w K mg base "_law_row_plan" 2 ["_law_hand_here", "_law_places"] spRowPlan := by
  obtain ⟨fD, fdD, GD, gD, kD, bD⟩ := dDraw (P := P) (w := w) (base := base) B
  have N := nOf B
  have nd := scRowPlan.nd
  refine def_of B.rpl fun f fd F => ?_
  refine F.ok scRowPlan (fun vs H Q E h => ?_) (fun cdv A outer s H vs Q E hr h => ?_)
  · obtain ⟨p, c, cells, n, rfl, _⟩ := h
    rfl
  · obtain ⟨p, c, cells, n, rfl, hI, n1, n60, k⟩ := h
    refine ⟨_, pss_cons (ps_set (i := 2) nd rfl (Or.inl rfl) (pe_call GD hr (by rfl) gD kD bD .nil pass0 (pa_cons (pv 0) (pa_cons pe_int pa_nil))))
      (pss_cons (ps_set (i := 3) nd rfl (Or.inl rfl) (pe_lst (pa_cons pe_int pa_nil)))
      (pss_cons (ps_for PassesOwn.never rfl (pi_range1 (by rfl) N.range (pa_cons (pe_op op_sub (pv 1) pe_int) pa_nil)) (pg_name (i := 4) nd rfl (Or.inl rfl))
        (pss_cons (ps_set (i := 5) nd rfl (Or.inl rfl) (pe_op op_add (pe_ix ix_list (pv 3) (pe_un un_neg pe_int) (fun _ _ => rfl)) pe_int))
        (pss_cons (ps_set (i := 6) nd rfl (Or.inl rfl) (pe_op op_add pe_int (pe_call GD hr (by rfl) gD kD bD .nil pass0 (pa_cons (pv 0) (pa_cons (pv 5) pa_nil)))))
        (pss_one (ps_expr (pe_bm PySem.F.plainAttrs_list PySem.F.slot_list_append PySem.F.type_list_append mt_append (pv 3) (pa_cons
          (pe_ifExp (pt_cmpR op_eq (pv 2) pe_int (nomark _)) (pe_callB (call_max2 rfl) (by rfl) B.zMax (by decide +kernel) (pa_cons (pv 6) (pa_cons (pe_op op_sub (pv 5) (pe_call GD hr (by rfl) gD kD bD .nil pass0 (pa_cons (pv 0) (pa_cons pe_int pa_nil)))) pa_nil))) (pv 6)) pa_nil)))))))
      (pss_one (ps_ret (pe_callTy call_tuple_of (by rfl) N.is.tup (by decide +kernel) (pa_cons (pv 3) pa_nil)))))), ?_⟩
    refine ⟨_, rfl, p, c, cells, 4, rfl, hI, by decide, by decide, fun d a1 a2 a3 a4 d0 d1 a10 => ?_⟩
    have hI1 := handIn_upd (i := a1) (g := a2) (m := a3) (t := a4) hI a10
    have k1 : Kept p H (upd H p (handL c a1 a2 a3 a4)) := kept_hand
    generalize upd H p (handL c a1 a2 a3 a4) = H1 at hI1 k1 ⊢
    refine ⟨by show 1 ≤ sizeLine; decide, fun o no => ?_⟩
    have op := hand_ne hI1 no
    have o0 : H o = none := by
      cases e : H o with
      | none => rfl
      | some u => rw [k1 _ _ op e] at no; cases no
    have S2 := smUpd (o := .lst [V.int 1]) no
    have hI2 := handIn_keep hI1 S2
    have k2 := kept_trans k1 (kept_same S2)
    have ho2 : upd H1 o (.lst [V.int 1]) o = some (.lst ([1].map vn)) := upd_same
    generalize upd H1 o (.lst [V.int 1]) = H2 at hI2 k2 ho2 ⊢
    refine ⟨_, rfl, _, _, rfl, rfl, ((n - 1 : Nat) : Int), by show [V.int (((n : Nat) : Int) - 1)] = [V.int _]; rw [show ((n : Nat) : Int) - 1 = ((n - 1 : Nat) : Int) from by omega], by omega, by omega, ?_⟩
    rw [Int.toNat_natCast]
    refine for_range (lo := 0) (n := n - 1) (fun i σ H' => HandIn H' p c cells ∧ Kept p H H' ∧ ∃ (lv : List Nat) (t4 t5 t6 : Option V), σ = [some (.ref p), some (vn n), some (.int d), some (.ref o), t4, t5, t6] ∧ H' o = some (.lst (lv.map vn)) ∧ RowPl lv ∧ lv.length = i + 1) ⟨hI2, k2, [1], none, none, none, rfl, ho2, ⟨fun i hi => ?_, fun _ => rfl, fun i hi => ?_⟩, rfl⟩ ?_ ?_
    · have : i < 1 := hi
      rw [show i = 0 from by omega]
      exact Nat.le_refl _
    · have : i + 1 < 1 := hi
      omega
    · rintro i σ H3 hi ⟨hI3, k3, lv, t4, t5, t6, rfl, ho3, hv, hl⟩
      have hne : lv ≠ [] := fun z => by rw [z] at hl; cases hl
      have eL : lv.getLast hne = lv.getD (lv.length - 1) 0 := by
        rw [List.getLast_eq_getElem]
        exact (getD_of (List.getElem?_eq_getElem _)).symm
      have hL1 := hv.one (lv.length - 1) (by omega)
      have hL2 := rowPl_le hv (lv.length - 1) (by omega)
      generalize hLe : lv.getD (lv.length - 1) 0 = L at eL hL1 hL2
      refine ⟨_, rfl, _, rfl, o, _, (-1 : Int), _, rfl, rfl, .inl (.inl ho3), vn_last hne eL, _, _, rfl, rfl, ?_⟩
      refine ⟨_, rfl, _, rfl, p, c, cells, (L : Int) + 1, rfl, hI3, by omega, by omega, fun d4 a1 a2 a3 a4 d40 d41 a10 => ⟨_, _, rfl, rfl, ?_⟩⟩
      obtain ⟨e4, rfl⟩ := Int.eq_ofNat_of_zero_le d40
      have hI4 := handIn_upd (i := a1) (g := a2) (m := a3) (t := a4) hI3 a10
      have k4 := kept_trans k3 (kept_hand (p := p) (o := handL c a1 a2 a3 a4))
      have ho4 : upd H3 p (handL c a1 a2 a3 a4) o = some (.lst (lv.map vn)) := by rw [upd_ne op]; exact ho3
      generalize upd H3 p (handL c a1 a2 a3 a4) = H4 at hI4 k4 ho4 ⊢
      have fin : ∀ (m : Nat) (z : Int) (H5 : Hp) (t4 t5 t6 : Option V), z = (m : Int) → 1 ≤ m → m ≤ L + 1 → HandIn H5 p c cells → Kept p H H5 → H5 o = some (.lst (lv.map vn)) → HandIn (upd H5 o (.lst (lv.map vn ++ [V.int z]))) p c cells ∧ Kept p H (upd H5 o (.lst (lv.map vn ++ [V.int z]))) ∧
          ∃ (lv' : List Nat) (t4' t5' t6' : Option V), [some (V.ref p), some (vn n), some (.int d), some (.ref o), t4, t5, t6] = [some (.ref p), some (vn n), some (.int d), some (.ref o), t4', t5', t6'] ∧ upd H5 o (.lst (lv.map vn ++ [V.int z])) o = some (.lst (lv'.map vn)) ∧ RowPl lv' ∧ lv'.length = i + 1 + 1 := fun m z H5 t4 t5 t6 ez m1 m2 hI5 k5 ho5 => by
        refine ⟨handIn_write hI o0 hI5, kept_over o0 k5, lv ++ [m], t4, t5, t6, rfl, ?_, rowPl_snoc hv hne m1 (by rw [hLe]; exact m2), by rw [List.length_append, hl]; rfl⟩
        rw [upd_same, List.map_append, ez]; rfl
      refine ⟨_, rfl, .inl ⟨rfl, _, .inl (.inl ho4)⟩, _, rfl, rfl, _, rfl, ?_⟩
      by_cases cd : d = 0
      · subst cd
        refine ifT (by decide) ?_
        refine ⟨_, rfl, _, rfl, _, rfl, p, c, cells, 3, rfl, hI4, by decide, by decide, fun d5 a1 a2 a3 a4 d50 d51 a10 => ⟨_, _, rfl, rfl, _, _, rfl, ?_⟩⟩
        have hI5 := handIn_upd (i := a1) (g := a2) (m := a3) (t := a4) hI4 a10
        have k5 := kept_trans k4 (kept_hand (p := p) (o := handL c a1 a2 a3 a4))
        have ho5 : upd H4 p (handL c a1 a2 a3 a4) o = some (.lst (lv.map vn)) := by rw [upd_ne op]; exact ho4
        generalize upd H4 p (handL c a1 a2 a3 a4) = H5 at hI5 k5 ho5 ⊢
        refine ⟨o, _, _, rfl, rfl, ho5, small6063 (by rw [List.length_map]; omega), ?_⟩
        exact fin (if (L : Int) + 1 - d5 > 1 + (e4 : Int) then (L : Int) + 1 - d5 else 1 + (e4 : Int)).toNat _ H5 _ _ _ (by split <;> omega) (by split <;> omega) (by split <;> omega) hI5 k5 ho5
      · refine ifF (fun z => cd (V.int.inj (of_decide_eq_true z))) ?_
        refine ⟨_, rfl, o, _, _, rfl, rfl, ho4, small6063 (by rw [List.length_map]; omega), ?_⟩
        exact fin (1 + e4) _ H4 _ _ _ (by omega) (by omega) (by omega) hI4 k4 ho4
    · rintro σ H3 ⟨hI3, k3, lv, t4, t5, t6, rfl, ho3, hv, hl⟩
      refine ⟨_, rfl, o, _, rfl, .inl ⟨.inl (.inl ho3), fun r nr => ?_⟩⟩
      have S := smUpd (o := .tup (lv.map vn)) nr
      exact k r lv _ hv (by omega) (handIn_keep hI3 S) (kept_trans k3 (kept_same S)) upd_same
/-! the point of a row's plan -/
def tcl (g : Nat → Nat) (n : Nat) : List Nat := (List.range n).map g
theorem tcl_len {g : Nat → Nat} {n : Nat} : ((tcl g n).map vn).length = n := by unfold tcl; rw [List.length_map, List.length_map, List.length_range]
theorem tcl_at {g : Nat → Nat} {n i : Nat} (h : i < n) : ((tcl g n).map vn)[i]? = some (vn (g i)) := by
  unfold tcl
  rw [List.getElem?_map, List.getElem?_map, List.getElem?_range h]
  rfl
theorem tcl_set {g g' : Nat → Nat} {n i : Nat} (hi : i < n) (h1 : g' i = g i + 1) (h2 : ∀ j, j ≠ i → g' j = g j) : ((tcl g n).map vn).set i (V.int (((g i : Nat) : Int) + 1)) = (tcl g' n).map vn := by
  refine List.ext_getElem? fun j => ?_
  by_cases c : j < n
  · rw [tcl_at c, List.getElem?_set]
    by_cases d : i = j
    · subst d
      rw [if_pos rfl, if_pos (by rw [tcl_len]; exact hi), h1]
      rfl
    · rw [if_neg d, tcl_at c, h2 j (Ne.symm d)]
  · rw [List.getElem?_eq_none (by rw [List.length_set, tcl_len]; omega), List.getElem?_eq_none (by rw [tcl_len]; omega)]
theorem tcl_zero (n : Nat) : (List.replicate n [V.int 0]).flatten = (tcl (fun _ => 0) n).map vn := by
  unfold tcl
  rw [List.map_map]
  induction n with
  | zero => rfl
  | succ n ih => rw [List.replicate_succ', List.flatten_append, ih, List.range_succ, List.map_append]; rfl
def rpAt (lv : List Nat) (i : Nat) : List Nat × (Nat → Nat) := rpGo (lv.take i) 0 [] fun _ => 0
theorem rpAt_zero {lv : List Nat} : rpAt lv 0 = ([], fun _ => 0) := rfl
theorem rpAt_succ {lv : List Nat} {i L : Nat} (h : lv[i]? = some L) : rpAt lv (i + 1) = ((rpAt lv i).1.take (L - 1) ++ [i], addTo (rpAt lv i).2 (beginOf ((rpAt lv i).1.take (L - 1))) i) := by
  unfold rpAt
  have hi := (List.getElem?_eq_some_iff.mp h).1
  have e : lv.take (i + 1) = lv.take i ++ [L] := by
    rw [List.take_add_one, h]; rfl
  rw [e, rpGo_app, List.length_take, Nat.min_eq_left (Nat.le_of_lt hi), Nat.zero_add]
  rfl
theorem rpAt_len {lv : List Nat} : ∀ {i : Nat}, i ≤ lv.length → (rpAt lv i).1.length ≤ i
  | 0, _ => Nat.le_refl _
  | i + 1, h => by
    rw [rpAt_succ (List.getElem?_eq_getElem (show i < lv.length by omega)), List.length_append, List.length_take]
    have := rpAt_len (lv := lv) (i := i) (by omega)
    show min _ _ + 1 ≤ _
    omega
theorem rpAt_lt {lv : List Nat} : ∀ {i : Nat}, i ≤ lv.length → ∀ x ∈ (rpAt lv i).1, x < i
  | 0, _, x, hx => by cases hx
  | i + 1, h, x, hx => by
    rw [rpAt_succ (List.getElem?_eq_getElem (show i < lv.length by omega))] at hx
    rcases List.mem_append.mp hx with hx | hx
    · have := rpAt_lt (lv := lv) (i := i) (by omega) x (List.mem_of_mem_take hx)
      omega
    · rw [List.mem_singleton.mp hx]; exact Nat.lt_succ_self i
theorem beginOf_snoc {ys : List Nat} {z : Nat} : beginOf (ys ++ [z]) = z + 1 := by
  unfold beginOf
  rw [List.getLast?_append]; rfl
theorem beginOf_le {st : List Nat} {i : Nat} (h : ∀ x ∈ st, x < i) : beginOf st ≤ i := by
  rcases List.eq_nil_or_concat st with rfl | ⟨ys, z, rfl⟩
  · exact Nat.zero_le _
  · rw [List.concat_eq_append] at h ⊢
    rw [beginOf_snoc]
    exact h z (List.mem_append.mpr (.inr (List.mem_singleton.mpr rfl)))
def gk (tc : Nat → Nat) (bg k : Nat) : Nat → Nat := fun x => if bg ≤ x ∧ x < bg + k then tc x + 1 else tc x
def spRowPoint : Sp := fun vs H Q _ => ∃ (b : Addr) (lv : List Nat), vs = [.ref b] ∧ TN H b lv ∧ RowPl lv ∧ lv.length ≤ 60 ∧
  ∀ r H', Same H H' → BuAt H' r (tcl (rpGo lv 0 [] fun _ => 0).2 lv.length) lv → Q (.ref r) H'
def nRowPoint : List Str := ["_law_plan", "_law_touches", "_law_stack", "_law_place", "_law_level", "_law_begin", "_law_one"]
theorem scRowPoint : FnScope nRowPoint ["_law_plan"] (defScope sRowPoint) := ⟨rfl, rfl, rfl, by decide +kernel, rfl, by decide +kernel, by decide +kernel⟩
theorem dRowPoint (B : Defs K mg C) : Def P w K mg base "_law_row_point" 1 ["_law_plan"] spRowPoint := by
  have N := nOf B
  have nd := scRowPoint.nd
  refine def_of B.rpo fun f fd F => ?_
  refine F.ok scRowPoint (fun vs H Q E h => ?_) (fun cdv A outer s H vs Q E hr h => ?_)
  · obtain ⟨b, lv, rfl, _⟩ := h
    rfl
  · obtain ⟨b, lv, rfl, hb, hv, n60, k⟩ := h
    refine ⟨_, pss_cons (ps_set (i := 1) nd rfl (Or.inl rfl) (pe_op op_rep (pe_lst (pa_cons pe_int pa_nil)) (pe_callB call_len_seq (by rfl) N.is.len PySem.boot_len (pa_cons (pv 0) pa_nil))))
      (pss_cons (ps_set (i := 2) nd rfl (Or.inl rfl) (pe_lst pa_nil))
      (pss_cons (ps_for PassesOwn.never rfl (pi_enumT (by rfl) N.enum (pa_cons (pv 0) pa_nil)) (pg_tup rfl (pgs_cons (pg_name (i := 3) nd rfl (Or.inl rfl)) (pgs_cons (pg_name (i := 4) nd rfl (Or.inl rfl)) pgs_nil)))
        (pss_cons (ps_set (i := 2) nd rfl (Or.inl rfl) (pe_slice sl_list (pv 2) po_none (po_some (pe_op op_sub (pv 4) pe_int))))
        (psMid (ps_set (i := 5) nd rfl (Or.inl rfl) (pe_ifExp (pt_cmpR op_gt (pe_callB call_len_seq (by rfl) N.is.len PySem.boot_len (pa_cons (pv 2) pa_nil)) pe_int (nomark _)) (pe_op op_add (pe_ix ix_list (pv 2) (pe_un un_neg pe_int) (fun _ _ => rfl)) pe_int) pe_int))
        (pss_cons (ps_for PassesOwn.never rfl (pi_range2 (by rfl) N.range (pa_cons (pv 5) (pa_cons (pe_op op_add (pv 3) pe_int) pa_nil))) (pg_name (i := 6) nd rfl (Or.inl rfl))
          (pss_one (ps_asg (pe_op op_add (pe_ix ix_list (pv 1) (pv 6) (fun _ _ => rfl)) pe_int) (pg_sub (pv 1) (pv 6) set_list))))
        (pss_one (ps_expr (pe_bm PySem.F.plainAttrs_list PySem.F.slot_list_append PySem.F.type_list_append mt_append (pv 2) (pa_cons (pv 3) pa_nil))))))))
      (pss_one (ps_ret (pe_tup (pa_cons (pe_callTy call_tuple_of (by rfl) N.is.tup (by decide +kernel) (pa_cons (pv 1) pa_nil)) (pa_cons (pe_callTy call_tuple_of (by rfl) N.is.tup (by decide +kernel) (pa_cons (pv 0) pa_nil)) pa_nil))))))), ?_⟩
    refine ⟨by show 1 ≤ sizeLine; decide, fun l0 nl0 => ?_⟩
    have S2 := smUpd (o := .lst [V.int 0]) nl0
    have hl0 : upd H l0 (.lst [V.int 0]) l0 = some (.lst [V.int 0]) := upd_same
    generalize upd H l0 (.lst [V.int 0]) = H2 at S2 hl0 ⊢
    refine ⟨_, rfl, b, _, rfl, .inr (tnL (S2 _ _ hb)), l0, _, _, rfl, rfl, hl0, by omega, by rw [List.length_map]; omega, Nat.le_of_lt (small1000 (by rw [List.length_map, Int.toNat_natCast]; show 1 * _ ≤ 1000; omega)), fun D nD => ?_⟩
    rw [List.length_map, Int.toNat_natCast, tcl_zero]
    have D0 := noneBack S2 nD
    have S3 := S2.trans (smUpd (o := .lst ((tcl (fun _ => 0) lv.length).map vn)) nD)
    have hD3 : upd H2 D (.lst ((tcl (fun _ => 0) lv.length).map vn)) D = some (.lst ((tcl (fun _ => 0) lv.length).map vn)) := upd_same
    generalize upd H2 D (.lst ((tcl (fun _ => 0) lv.length).map vn)) = H3 at S3 hD3 ⊢
    refine ⟨by show 0 ≤ sizeLine; decide, fun s0 ns0 => ?_⟩
    have s00 := noneBack S3 ns0
    have S4 := S3.trans (smUpd (o := .lst []) ns0)
    have hD4 := smUpd (o := .lst []) ns0 _ _ hD3
    have sD : s0 ≠ D := fun z => by rw [z, hD3] at ns0; cases ns0
    have hS4 : upd H3 s0 (.lst []) s0 = some (.lst []) := upd_same
    generalize upd H3 s0 (.lst []) = H4 at S4 hD4 hS4 ⊢
    refine ⟨_, rfl, b, _, rfl, tnL (S4 _ _ hb), ?_⟩
    refine for_it (walk_enumT (xs := lv.map vn)) (fun i σ H' => ∃ (sA : Addr) (t3 t4 t5 t6 : Option V), σ = [some (.ref b), some (.ref D), some (.ref sA), t3, t4, t5, t6] ∧ Same H H' ∧ H sA = none ∧ sA ≠ D ∧ H' D = some (.lst ((tcl (rpAt lv i).2 lv.length).map vn)) ∧ H' sA = some (.lst ((rpAt lv i).1.map vn)))
      ⟨s0, none, none, none, none, rfl, S4, s00, sD, hD4, hS4⟩ (fun i σ H' _ ⟨_, _, _, _, _, _, z, _⟩ => tnL (z _ _ hb)) ?_ ?_
    · rintro i x σ H' H5 hi ⟨sA, t3, t4, t5, t6, rfl, sm, sA0, sAD, hD, hS⟩ ⟨T1, x1, y1, rfl, nT, rfl, e1, e2⟩
      cases e1
      obtain ⟨L, hL, rfl⟩ := vn_get (i := i) e2
      rw [List.length_map] at hi
      refine ⟨T1, _, rfl, .inl (.inl upd_same), rfl, _, _, rfl, _, _, rfl, rfl, ?_⟩
      have S5 := smUpd (o := .tup [.int (i : Nat), vn L]) nT
      have sm5 := sm.trans S5
      have hD5 := S5 _ _ hD
      have hS5 := S5 _ _ hS
      generalize upd H' T1 (.tup [.int (i : Nat), vn L]) = H5 at sm5 hD5 hS5 ⊢
      have L1 := hv.one i hi
      rw [getD_of hL] at L1
      have e1 : ((L : Nat) : Int) - 1 = ((L - 1 : Nat) : Int) := by omega
      have sl := rpAt_len (lv := lv) (i := i) (by omega)
      have st := rpAt_succ hL
      have lt : ∀ x ∈ (rpAt lv i).1.take (L - 1), x < i := fun x hx => rpAt_lt (Nat.le_of_lt hi) x (List.mem_of_mem_take hx)
      have bl := beginOf_le lt
      refine ⟨_, rfl, _, rfl, _, _, rfl, rfl, _, rfl, sA, _, rfl, .inl (.inl hS5), fun q nq => ?_⟩
      rw [e1, cutTake, ← List.map_take]
      have q0 := noneBack sm5 nq
      have qD : q ≠ D := fun z => by rw [z, hD5] at nq; cases nq
      have tl : ((rpAt lv i).1.take (L - 1)).length ≤ 60 := by
        rw [List.length_take]
        omega
      generalize (rpAt lv i).1.take (L - 1) = sn at st bl tl ⊢
      generalize (rpAt lv i).2 = tc at st hD5
      have S6 := sm5.trans (smUpd (o := .lst (sn.map vn)) nq)
      have hD6 := smUpd (o := .lst (sn.map vn)) nq _ _ hD5
      have hS6 : upd H5 q (.lst (sn.map vn)) q = some (.lst (sn.map vn)) := upd_same
      generalize upd H5 q (.lst (sn.map vn)) = H6 at S6 hD6 hS6 ⊢
      refine ⟨fun σ H' => σ = [some (.ref b), some (.ref D), some (.ref q), some (vn i), some (vn L), some (vn (beginOf sn)), t6] ∧ H' = H6, ?_, ?_⟩
      · refine ⟨_, rfl, q, _, rfl, .inl (.inl (.inl hS6)), _, _, rfl, rfl, _, rfl, ?_⟩
        rw [List.length_map]
        rcases List.eq_nil_or_concat sn with rfl | ⟨ys, z, rfl⟩
        · refine ifF (by decide) ?_
          exact ⟨rfl, rfl⟩
        · rw [List.concat_eq_append] at hS6 ⊢
          refine ifT (decide_eq_true (by rw [List.length_append]; show (0 : Int) < ((ys.length + 1 : Nat) : Int); omega)) ?_
          refine ⟨_, rfl, _, rfl, q, _, (-1 : Int), _, rfl, rfl, .inl (.inl hS6), vn_last (n := z) (by simp) (by simp), _, _, rfl, rfl, ?_⟩
          rw [beginOf_snoc]
          exact ⟨rfl, rfl⟩
      · rintro σ2 H7 ⟨rfl, rfl⟩
        generalize beginOf sn = bg at st bl ⊢
        refine ⟨_, rfl, _, rfl, _, _, rfl, rfl, (bg : Int), ((i : Int) + 1), rfl, ⟨by omega, by omega, by omega, by omega⟩, ?_⟩
        refine for_range (lo := (bg : Int)) (n := (((i : Int) + 1) - (bg : Int)).toNat) (fun k σ H' => ∃ t6, σ = [some (.ref b), some (.ref D), some (.ref q), some (vn i), some (vn L), some (vn bg), t6] ∧ Same H H' ∧ H' D = some (.lst ((tcl (gk tc bg k) lv.length).map vn)) ∧ H' q = some (.lst (sn.map vn))) ⟨t6, rfl, S6, ?_, hS6⟩ ?_ ?_
        · rw [hD6]
          congr 4
          funext x
          unfold gk
          rw [if_neg (by omega)]
        · rintro m σ G hm ⟨t6, rfl, sg, gD, gS⟩
          have hml : bg + m < lv.length := by omega
          have ej : (bg : Int) + (m : Int) = ((bg + m : Nat) : Int) := by omega
          rw [ej]
          refine ⟨_, rfl, _, rfl, D, _, ((bg + m : Nat) : Int), _, rfl, rfl, .inl (.inl gD), atI_nat (tcl_at hml), _, _, rfl, rfl, ?_⟩
          refine ⟨_, rfl, _, rfl, D, _, _, bg + m, rfl, rfl, gD, by rw [tcl_len]; exact ixNat hml, ?_⟩
          rw [tcl_set (g' := gk tc bg (m + 1)) hml (by unfold gk; rw [if_pos (by omega), if_neg (by omega)]) (fun j hj => by
            unfold gk
            by_cases c : bg ≤ j ∧ j < bg + m
            · rw [if_pos (by omega), if_pos c]
            · rw [if_neg (by omega), if_neg c])]
          exact ⟨_, rfl, smOver D0 sg, upd_same, by rw [upd_ne qD]; exact gS⟩
        · rintro σ G ⟨t6, rfl, sg, gD, gS⟩
          refine ⟨_, rfl, .inl ⟨rfl, _, .inl (.inl gS)⟩, _, rfl, q, _, _, rfl, rfl, gS, small6063 (by rw [List.length_map]; omega), ?_⟩
          refine ⟨q, _, _, _, _, rfl, smOver q0 sg, q0, qD, ?_, ?_⟩
          · rw [upd_ne (Ne.symm qD), gD, st]
            congr 4
            funext x
            show gk tc bg _ x = addTo tc bg i x
            unfold gk addTo
            by_cases c : bg ≤ x ∧ x ≤ i
            · rw [if_pos (by omega), if_pos c]
            · rw [if_neg (by omega), if_neg c]
          · rw [upd_same, st, List.map_append]; rfl
    · rintro σ G ⟨sA, t3, t4, t5, t6, rfl, sm, sA0, sAD, hD, hS⟩
      have et : rpAt lv ((lv.map vn).length) = rpGo lv 0 [] fun _ => 0 := by
        unfold rpAt
        rw [List.length_map, List.take_length]
      rw [et] at hD
      refine ⟨_, rfl, D, _, rfl, .inl ⟨.inl (.inl hD), fun r1 nr1 => ?_⟩⟩
      have S7 := sm.trans (smUpd (o := .tup ((tcl (rpGo lv 0 [] fun _ => 0).2 lv.length).map vn)) nr1)
      have hr1 : TN (upd G r1 (.tup ((tcl (rpGo lv 0 [] fun _ => 0).2 lv.length).map vn))) r1 (tcl (rpGo lv 0 [] fun _ => 0).2 lv.length) := upd_same
      generalize upd G r1 (.tup ((tcl (rpGo lv 0 [] fun _ => 0).2 lv.length).map vn)) = G7 at S7 hr1 ⊢
      refine ⟨_, rfl, b, _, rfl, .inr ⟨tnL (S7 _ _ hb), by show 2 ≤ sizeLine; decide, fun r nr => ?_⟩⟩
      have S8 := smUpd (o := .tup [.ref r1, .ref b]) nr
      exact k r _ (S7.trans S8) ⟨r1, b, upd_same, S8 _ _ hr1, S8 _ _ (S7 _ _ hb)⟩
end
end Cn
namespace Cn
open PySem PySem.Spec PyProof.Rows L2 Ck
def lcScR : Expr → Scope
  | .ListComp _ _ sc _ => sc
  | _ => default
def relSR (sc base : Scope) : Scope := { sc with names := sc.names.map fun (n, k) => if (k == .free && base.kind == .function && base.names.lookup n == some .cell) then (n, .cell) else (n, k) }
def NsR (H : Hp) : List V → List (List Nat) → Prop := Paired fun v lv => ∃ q, v = V.ref q ∧ TN H q lv
theorem nsSame {H H' : Hp} (s : Same H H') {us : List V} {ls : List (List Nat)} (h : NsR H us ls) : NsR H' us ls := Paired.mapP h fun _ _ ⟨q, e, z⟩ => ⟨q, e, s _ _ z⟩
theorem nsKept {H H' : Hp} {p c : Addr} {cells : List Int} (hI : HandIn H p c cells) (k : Kept p H H') {us : List V} {ls : List (List Nat)} (h : NsR H us ls) : NsR H' us ls := Paired.mapP h fun _ _ ⟨q, e, z⟩ => ⟨q, e, k _ _ (tup_ne hI z) z⟩
theorem nsUpd {H : Hp} {D : Addr} {o : HO} {xs us : List V} {ls : List (List Nat)} (hD : H D = some (.lst xs)) (h : NsR H us ls) : NsR (upd H D o) us ls := Paired.mapP h fun _ _ ⟨q, e, z⟩ => ⟨q, e, by
  have z' : H q = _ := z
  show upd H D o q = _
  rw [upd_ne (fun y => by rw [y, hD] at z'; cases z')]
  exact z'⟩
/-- so many numbers, none above 60 -/
def Bud (n : Nat) (X : List Nat) : Prop := X.length = n ∧ ∀ x ∈ X, x ≤ 60
theorem bud_ok {n : Nat} {T R : List Nat} (h1 : Bud n T) (h2 : Bud n R) (n1 : 1 ≤ n) (n60 : n ≤ 60) : BuOk n T R := by
  have g : ∀ {X : List Nat}, Bud n X → ∀ i, X.getD i 0 ≤ 60 := fun {X} h i => by
    by_cases c : i < X.length
    · exact h.2 _ (List.mem_of_getElem? (getD_at c))
    · rw [List.getD_eq_getElem?_getD, List.getElem?_eq_none (by omega)]; exact Nat.zero_le _
  exact ⟨h1.1, h2.1, n1, n60, g h1, g h2⟩
theorem nsTwo {H : Hp} {us : List V} {ls : List (List Nat)} {n : Nat} (h : NsR H us ls) (hl : ls.length = 2) (hb : ∀ X ∈ ls, Bud n X) : ∃ t r T R, us = [.ref t, .ref r] ∧ TN H t T ∧ TN H r R ∧ Bud n T ∧ Bud n R := by
  match ls, h, hl with
  | [T, R], .cons ⟨t, e1, h1⟩ (.cons ⟨r, e2, h2⟩ .nil), _ => exact ⟨t, r, T, R, by rw [e1, e2], h1, h2, hb T (by simp), hb R (by simp)⟩
section
variable {P : Program} {w : World} {K : PySem.W.Frag} {mg : Str → Option Value} {base : Heap} {C : Addr}
def spSmall : Sp := fun vs H Q _ => ∃ (p c : Addr) (cells : List Int) (n : Nat), vs = [.ref p, vn n] ∧ HandIn H p c cells ∧ 1 ≤ n ∧ n ≤ 60 ∧
  ∀ b T R H', BuOk n T R → HandIn H' p c cells → Kept p H H' → BuAt H' b T R → Q (.ref b) H'
def nSmall : List Str := ["_law_hand_here", "_law_places", "_law_most", "_law_rows", "_law_side", "_law_least_here", "_law_place"]
theorem scSmall : FnScope nSmall ["_law_hand_here", "_law_places"] (defScope sLSmall) := ⟨rfl, rfl, rfl, by decide +kernel, rfl, by decide +kernel, by decide +kernel⟩
theorem dSmall (B : Defs K mg C) : Def P w K mg base "_law_small" 2 ["_law_hand_here", "_law_places"] spSmall := by
  obtain ⟨fD, fdD, GD, gD, kD, bD⟩ := dDraw (P := P) (w := w) (base := base) B
  have N := nOf B
  have nd := scSmall.nd
  refine def_of B.lsm fun f fd F => ?_
  refine F.ok scSmall (fun vs H Q E h => ?_) (fun cdv A outer s H vs Q E hr h => ?_)
  · obtain ⟨p, c, cells, n, rfl, _⟩ := h
    rfl
  · obtain ⟨p, c, cells, n, rfl, hI, n1, n60, k⟩ := h
    refine ⟨_, pss_cons (ps_set (i := 2) nd rfl (Or.inr rfl) (pe_lst (pa_cons (pe_op op_add pe_int (pe_call GD hr (by rfl) gD kD bD .nil pass0 (pa_cons (pv 0) (pa_cons pe_int pa_nil)))) (pa_cons (pe_op op_add pe_int (pe_call GD hr (by rfl) gD kD bD .nil pass0 (pa_cons (pv 0) (pa_cons pe_int pa_nil)))) pa_nil))))
      (pss_cons (ps_set (i := 3) nd rfl (Or.inl rfl) (pe_lst pa_nil))
      (pss_cons (ps_for PassesOwn.never rfl (pi_range1 (by rfl) N.range (pa_cons pe_int pa_nil)) (pg_name (i := 4) nd rfl (Or.inr rfl))
        (pss_cons (ps_set (i := 5) nd rfl (Or.inr rfl) (pe_call GD hr (by rfl) gD kD bD .nil pass0 (pa_cons (pv 0) (pa_cons (pe_ix ix_list (pv 2) (pv 4) (fun _ _ => rfl)) pa_nil))))
        (pss_one (ps_expr (pe_bm PySem.F.plainAttrs_list PySem.F.slot_list_append PySem.F.type_list_append mt_append (pv 3) (pa_cons (pe_callTy call_tuple_of (by rfl) N.is.tup (by decide +kernel) (pa_cons
          (pe_lc (own := [("_law_place", 6)]) (g := gName 6) (tt := tYes) rfl nd (pi_range1 (by rfl) N.range (pa_cons (pv 1) pa_nil))
            (blkOk_by (N := nSmall) (sc := defScope sLSmall) (by decide +kernel)) (fun _ _ _ _ _ => pg_name (i := 6) nd rfl (Or.inl rfl)) (fun _ _ _ _ _ => pts_nil)
            (fun _ _ _ _ _ => pe_op op_add (pv 5) (pe_call GD hr (by rfl) gD kD bD .nil pass0 (pa_cons (pv 0) (pa_cons (pe_op op_sub (pe_ix (r := rIxL K) ix_list (pv 2) (pv 4) (fun _ _ => rfl)) (pv 5)) pa_nil))))) pa_nil)) pa_nil))))))
      (pss_one (ps_ret (pe_callTy call_tuple_of (by rfl) N.is.tup (by decide +kernel) (pa_cons (pv 3) pa_nil)))))), ?_⟩
    refine ⟨_, rfl, p, c, cells, 7, rfl, hI, by decide, by decide, fun d1 a1 a2 a3 a4 d10 d11 a10 => ⟨_, _, rfl, rfl, ?_⟩⟩
    have hI1 := handIn_upd (i := a1) (g := a2) (m := a3) (t := a4) hI a10
    have k1 : Kept p H (upd H p (handL c a1 a2 a3 a4)) := kept_hand
    generalize upd H p (handL c a1 a2 a3 a4) = H1 at hI1 k1 ⊢
    refine ⟨_, rfl, p, c, cells, 7, rfl, hI1, by decide, by decide, fun d2 b1 b2 b3 b4 d20 d21 b10 => ⟨_, _, rfl, rfl, ?_⟩⟩
    have hI2 := handIn_upd (i := b1) (g := b2) (m := b3) (t := b4) hI1 b10
    have k2 := kept_trans k1 (kept_hand (p := p) (o := handL c b1 b2 b3 b4))
    generalize upd H1 p (handL c b1 b2 b3 b4) = H2 at hI2 k2 ⊢
    refine ⟨by show 2 ≤ sizeLine; decide, fun L nL => ?_⟩
    have Lp := hand_ne hI2 nL
    have noneK : ∀ {G : Hp} {D : Addr}, Kept p H G → D ≠ p → G D = none → H D = none := fun {G D} kg dp h => by
      cases e : H D with
      | none => rfl
      | some o => rw [kg _ _ dp e] at h; cases h
    have L0 := noneK k2 Lp nL
    have S3 := smUpd (o := .lst [V.int (1 + d1), V.int (1 + d2)]) nL
    have hI3 := handIn_keep hI2 S3
    have k3 := kept_trans k2 (kept_same S3)
    have hL3 : upd H2 L (.lst [V.int (1 + d1), V.int (1 + d2)]) L = some (.lst [V.int (1 + d1), V.int (1 + d2)]) := upd_same
    generalize upd H2 L (.lst [V.int (1 + d1), V.int (1 + d2)]) = H3 at hI3 k3 hL3 ⊢
    refine ⟨by show 0 ≤ sizeLine; decide, fun Z nZ => ?_⟩
    have Zp := hand_ne hI3 nZ
    have Z0 := noneK k3 Zp nZ
    have LZ : L ≠ Z := fun z => by rw [z, nZ] at hL3; cases hL3
    have S4 := smUpd (o := .lst []) nZ
    have hI4 := handIn_keep hI3 S4
    have k4 := kept_trans k3 (kept_same S4)
    have hL4 := S4 _ _ hL3
    have hZ4 : upd H3 Z (.lst []) Z = some (.lst []) := upd_same
    generalize upd H3 Z (.lst []) = H4 at hI4 k4 hL4 hZ4 ⊢
    have pick : ∀ i : Nat, i < 2 → ∃ m : Int, 1 ≤ m ∧ m ≤ 7 ∧ atI [V.int (1 + d1), V.int (1 + d2)] (i : Int) = some (.int m) := fun i hi => by
      match i, hi with
      | 0, _ => exact ⟨1 + d1, by omega, by omega, atI_nat (j := 0) rfl⟩
      | 1, _ => exact ⟨1 + d2, by omega, by omega, atI_nat (j := 1) rfl⟩
      | k + 2, h => exact absurd h (by omega)
    generalize [V.int (1 + d1), V.int (1 + d2)] = mo at hL4 pick
    refine ⟨2, rfl, by decide, by decide, ?_⟩
    refine for_range (lo := 0) (n := 2) (fun i σ H' => HandIn H' p c cells ∧ Kept p H H' ∧ H' L = some (.lst mo) ∧ ∃ (us : List V) (ls : List (List Nat)) (t4 t5 t6 : Option V), σ = [some (.ref p), some (vn n), some (.ref L), some (.ref Z), t4, t5, t6] ∧ H' Z = some (.lst us) ∧ NsR H' us ls ∧ ls.length = i ∧ ∀ X ∈ ls, Bud n X)
      ⟨hI4, k4, hL4, [], [], none, none, none, rfl, hZ4, .nil, rfl, fun X h => (by cases h)⟩ ?_ ?_
    · rintro i σ H5 hi ⟨hI5, k5, hL5, us, ls, t4, t5, t6, rfl, hZ5, hN5, hl, hB⟩
      obtain ⟨m, m1, m7, hm⟩ := pick i hi
      rw [Int.zero_add]
      refine ⟨_, rfl, _, rfl, _, rfl, L, _, (i : Int), _, rfl, rfl, .inl (.inl hL5), hm, p, c, cells, m, rfl, hI5, by omega, by omega, fun d a1 a2 a3 a4 d0 dm a10 => ?_⟩
      have hI6 := handIn_upd (i := a1) (g := a2) (m := a3) (t := a4) hI5 a10
      have k56 : Kept p H5 (upd H5 p (handL c a1 a2 a3 a4)) := kept_hand
      have k6 := kept_trans k5 k56
      have hL6 := k56 _ _ Lp hL5
      have hZ6 := k56 _ _ Zp hZ5
      have hN6 := nsKept hI5 k56 hN5
      generalize upd H5 p (handL c a1 a2 a3 a4) = H6 at hI6 k6 hL6 hZ6 hN6 ⊢
      refine ⟨_, rfl, .inl ⟨rfl, _, .inl (.inl hZ6)⟩, _, rfl, (n : Int), rfl, by omega, by omega, fun D nD => ?_⟩
      rw [Int.toNat_natCast]
      have Dp := hand_ne hI6 nD
      have D0 := noneK k6 Dp nD
      have DL : D ≠ L := fun z => by rw [z, hL6] at nD; cases nD
      have DZ : D ≠ Z := fun z => by rw [z, hZ6] at nD; cases nD
      have SD := smUpd (o := .lst []) nD
      refine lc_range (lo := 0) (n := n) (fun q H' => HandIn H' p c cells ∧ Kept p H H' ∧ H' L = some (.lst mo) ∧ H' Z = some (.lst us) ∧ NsR H' us ls ∧ ∃ X : List Nat, H' D = some (.lst (X.map vn)) ∧ X.length = q ∧ ∀ x ∈ X, x ≤ 60)
        ⟨handIn_keep hI6 SD, kept_trans k6 (kept_same SD), SD _ _ hL6, SD _ _ hZ6, nsSame SD hN6, [], upd_same, rfl, fun x h => (by cases h)⟩ ?_ ?_
      · rintro q H7 hq ⟨hI7, k7, hL7, hZ7, hN7, X, hX, hXl, hXb⟩
        refine ⟨rfl, _, rfl, _, rfl, _, rfl, _, rfl, L, _, (i : Int), _, rfl, rfl, .inl (.inl hL7), hm, _, rfl, _, _, rfl, rfl, p, c, cells, m - d, rfl, hI7, by omega, by omega, fun e b1 b2 b3 b4 e0 em b10 => ⟨_, _, rfl, rfl, ?_⟩⟩
        have hI8 := handIn_upd (i := b1) (g := b2) (m := b3) (t := b4) hI7 b10
        have k78 : Kept p H7 (upd H7 p (handL c b1 b2 b3 b4)) := kept_hand
        have hX8 := k78 _ _ Dp hX
        refine ⟨X.map vn, hX8, small6063 (by rw [List.length_map]; omega), handIn_write hI D0 hI8, kept_over D0 (kept_trans k7 k78), ?_, ?_, nsUpd hX8 (nsKept hI7 k78 hN7), X ++ [(d + e).toNat], ?_, by rw [List.length_append, hXl]; rfl, fun x hx => ?_⟩
        · rw [upd_ne (Ne.symm DL)]; exact k78 _ _ Lp hL7
        · rw [upd_ne (Ne.symm DZ)]; exact k78 _ _ Zp hZ7
        · rw [upd_same, List.map_append]
          show some (HO.lst (_ ++ [V.int (d + e)])) = some (HO.lst (_ ++ [V.int (((d + e).toNat : Nat) : Int)]))
          rw [Int.toNat_of_nonneg (by omega)]
        · rcases List.mem_append.mp hx with hx | hx
          · exact hXb x hx
          · rw [List.mem_singleton.mp hx]; omega
      · rintro H7 ⟨hI7, k7, hL7, hZ7, hN7, X, hX, hXl, hXb⟩
        refine ⟨D, _, rfl, .inl ⟨.inl (.inl hX), fun r nr => ⟨Z, us, _, rfl, rfl, ?_⟩⟩⟩
        have S8 := smUpd (o := .tup (X.map vn)) nr
        have hr8 : TN (upd H7 r (.tup (X.map vn))) r X := upd_same
        have hI8 := handIn_keep hI7 S8
        have k8 := kept_trans k7 (kept_same S8)
        have hL8 := S8 _ _ hL7
        have hZ8 := S8 _ _ hZ7
        have hN8 := nsSame S8 hN7
        generalize upd H7 r (.tup (X.map vn)) = H8 at hr8 hI8 k8 hL8 hZ8 hN8 ⊢
        have ul : us.length = ls.length := Paired.length hN8
        refine ⟨hZ8, small6063 (by omega), ?_⟩
        refine ⟨handIn_write hI Z0 hI8, kept_over Z0 k8, ?_, us ++ [.ref r], ls ++ [X], _, _, _, rfl, upd_same, nsUpd hZ8 (pairedSnoc hN8 ⟨r, rfl, hr8⟩), by rw [List.length_append, hl]; rfl, fun Y hY => ?_⟩
        · rw [upd_ne LZ]; exact hL8
        · rcases List.mem_append.mp hY with hY | hY
          · exact hB Y hY
          · rw [List.mem_singleton.mp hY]; exact ⟨hXl, hXb⟩
    · rintro σ H5 ⟨hI5, k5, hL5, us, ls, t4, t5, t6, rfl, hZ5, hN5, hl, hB⟩
      obtain ⟨t, r, T, R, rfl, hT, hR, bT, bR⟩ := nsTwo hN5 hl hB
      refine ⟨_, rfl, Z, _, rfl, .inl ⟨.inl (.inl hZ5), fun b nb => ?_⟩⟩
      have S6 := smUpd (o := .tup [.ref t, .ref r]) nb
      exact k b T R _ (bud_ok bT bR n1 n60) (handIn_keep hI5 S6) (kept_trans k5 (kept_same S6)) ⟨t, r, upd_same, S6 _ _ hT, S6 _ _ hR⟩
end
end Cn
namespace Cn
open PySem PySem.Spec PyProof.Rows L2 Ck
section
variable {P : Program} {w : World} {K : PySem.W.Frag} {mg : Str → Option Value} {base : Heap} {C : Addr}
/-- lists of so many whole numbers, each by itself -/
def IL (H0 H : Hp) (n : Nat) (D : Addr) (as : List Addr) : Prop := as.Nodup ∧ ∀ a ∈ as, (∃ X : List Int, H a = some (.lst (X.map V.int)) ∧ X.length = n) ∧ H0 a = none ∧ a ≠ D
theorem ilKeep {H0 H H' : Hp} {n : Nat} {D : Addr} {as : List Addr} (k : ∀ a o, H0 a = none → a ≠ D → H a = some o → H' a = some o) (h : IL H0 H n D as) : IL H0 H' n D as :=
  ⟨h.1, fun a ha => let ⟨⟨X, e, l⟩, z, d⟩ := h.2 a ha; ⟨⟨X, k a _ z d e, l⟩, z, d⟩⟩
theorem ilPut {H0 H : Hp} {n : Nat} {D a : Addr} {as : List Addr} {X : List Int} (h : IL H0 H n D as) (l : X.length = n) : IL H0 (upd H a (.lst (X.map V.int))) n D as :=
  ⟨h.1, fun b hb => by
    obtain ⟨⟨Y, e, ly⟩, z, d⟩ := h.2 b hb
    by_cases c : b = a
    · subst c
      exact ⟨⟨X, upd_same, l⟩, z, d⟩
    · exact ⟨⟨Y, by rw [upd_ne c]; exact e, ly⟩, z, d⟩⟩
theorem ilSnoc {H0 H : Hp} {n : Nat} {D a : Addr} {as : List Addr} {X : List Int} (h : IL H0 H n D as) (na : a ∉ as) (e : H a = some (.lst (X.map V.int))) (l : X.length = n) (z : H0 a = none) (d : a ≠ D) : IL H0 H n D (as ++ [a]) :=
  ⟨List.nodup_append.mpr ⟨h.1, List.nodup_cons.mpr ⟨fun z => (by cases z), List.nodup_nil⟩, fun x hx y hy q => na (by rw [← List.mem_singleton.mp hy, ← q]; exact hx)⟩, fun b hb => by
    rcases List.mem_append.mp hb with hb | hb
    · exact h.2 b hb
    · rw [List.mem_singleton.mp hb]; exact ⟨⟨X, e, l⟩, z, d⟩⟩
theorem ilOther {H0 H : Hp} {n : Nat} {D Z : Addr} {as : List Addr} {o : HO} (h : IL H0 H n Z as) (nd : D ∉ as) : IL H0 (upd H D o) n Z as :=
  ⟨h.1, fun a ha => by
    obtain ⟨⟨X, e, l⟩, z, d⟩ := h.2 a ha
    exact ⟨⟨X, by rw [upd_ne (fun y => nd (by rw [← y]; exact ha))]; exact e, l⟩, z, d⟩⟩
def bodyAt (i : Nat) : Stmt := (defBody sLBudgets).getD i default
def stRhR : Stmt → Expr
  | .Assign _ e _ => e
  | .Return (some e) _ => e
  | _ => default
def arg0 : Expr → Expr
  | .Call _ (a :: _) _ _ => a
  | _ => default
def scBu1 : Scope := relSR (lcScR (stRhR (bodyAt 1))) (defScope sLBudgets)
def scBu2 : Scope := relSR (lcScR (arg0 (stRhR (bodyAt 4)))) (defScope sLBudgets)
def rLo (K : PySem.W.Frag) : List V → Hp → VK → Prop := fun xs H Q => ∃ p ys, xs = [.ref p] ∧ (SqL K H p ys ∨ SqT K H p ys) ∧ ∀ l, H l = none → Q (.ref l) (upd H l (.lst ys))
def rTo (K : PySem.W.Frag) : List V → Hp → VK → Prop := fun xs H Q => ∃ p ys, xs = [.ref p] ∧ ((SqL K H p ys ∧ ∀ l, H l = none → Q (.ref l) (upd H l (.tup ys))) ∨ (SqT K H p ys ∧ Q (.ref p) H))
def rMx2 : List V → Hp → VK → Prop := fun xs H Q => ∃ i j, xs = [.int i, .int j] ∧ Q (.int (if j > i then j else i)) H
def rMn2 : List V → Hp → VK → Prop := fun xs H Q => ∃ i j, xs = [.int i, .int j] ∧ Q (.int (if j < i then j else i)) H
def spLBudgets : Sp := fun vs H Q _ => ∃ (p c s b0 : Addr) (cells : List Int) (n : Nat) (T0 R0 : List Nat), vs = [.ref p, vn n, .ref s] ∧ HandIn H p c cells ∧ 1 ≤ n ∧ n ≤ 60 ∧ H s = some (.lst [.ref b0]) ∧ BuAt H b0 T0 R0 ∧ T0.length = n ∧ R0.length = n ∧
  ∀ b T R H', BuOk n T R → HandIn H' p c cells → Kept p H H' → BuAt H' b T R → Q (.ref b) H'
def nBud : List Str := ["_law_hand_here", "_law_places", "_law_some", "_law_most", "_law_side", "_law_place", "_law_rows", "_law_turn", "_law_numbers", "_law_number"]
theorem scBud : FnScope nBud ["_law_hand_here", "_law_places", "_law_some"] (defScope sLBudgets) := ⟨rfl, rfl, rfl, by decide +kernel, rfl, by decide +kernel, by decide +kernel⟩
theorem dLBudgets (B : Defs K mg C) : Def P w K mg base "_law_budgets" 2 ["_law_hand_here", "_law_places", "_law_some"] spLBudgets := by
  obtain ⟨fD, fdD, GD, gD, kD, bD⟩ := dDraw (P := P) (w := w) (base := base) B
  have N := nOf B
  have nd := scBud.nd
  refine def_of B.lbu fun f fd F => ?_
  refine F.ok scBud (fun vs H Q E h => ?_) (fun cdv A outer s H vs Q E hr h => ?_)
  · obtain ⟨p, c, s, b0, cells, n, T0, R0, rfl, _⟩ := h
    rfl
  · obtain ⟨p, c, so, b0, cells, n, T0, R0, rfl, hI, n1, n60, hso, hb0, l0, l1, k⟩ := h
    refine ⟨_, pss_cons (ps_set (i := 3) nd rfl (Or.inr rfl) (pe_ix ix_list (pe_lst (pa_cons pe_int (pa_cons pe_int (pa_cons pe_int (pa_cons pe_int pa_nil))))) (pe_call GD hr (by rfl) gD kD bD .nil pass0 (pa_cons (pv 0) (pa_cons pe_int pa_nil))) (fun _ _ => rfl)))
      (pss_cons (ps_setLc (i := 6) (own := [("_law_side", 4)]) (g := gName 4) (tt := tYes) (te := tLc (iRng1 (tCons (tVar 1) tNil)) (gName 5) tYes (tCall spDraw [] (fun _ _ _ => False) (tCons (tVar 0) (tCons (tVar 3) tNil))) [5]) rfl nd rfl rfl (sw_true rfl rfl rfl (by decide +kernel)) (pi_range1 (by rfl) N.range (pa_cons pe_int pa_nil))
          (blkOk_by (N := nBud) (sc := defScope sLBudgets) (by decide +kernel)) (fun _ _ _ _ _ => pg_name (i := 4) nd rfl (Or.inl rfl)) (fun _ _ _ _ _ => pts_nil)
          (fun _ _ _ _ _ => pe_lc (own := [("_law_place", 5)]) (g := gName 5) (tt := tYes) (te := tCall spDraw [] (fun _ _ _ => False) (tCons (tVar 0) (tCons (tVar 3) tNil))) rfl nd (pi_range1 (by rfl) N.range (pa_cons (pv 1) pa_nil))
            (blkOk_by (N := nBud) (sc := scBu1) (by decide +kernel)) (fun _ _ _ _ _ => pg_name (i := 5) nd rfl (Or.inl rfl)) (fun _ _ _ _ _ => pts_nil) (fun _ _ _ _ _ => pe_call GD hr (by rfl) gD kD bD .nil pass0 (pa_cons (pv 0) (pa_cons (pv 3) pa_nil)))))
      (psMid (ps_if (pt_cmpR op_gt (pe_call GD hr (by rfl) gD kD bD .nil pass0 (pa_cons (pv 0) (pa_cons pe_int pa_nil))) pe_int (nomark _))
          (pss_one (ps_setLc (i := 6) (own := [("_law_side", 4)]) (g := gName 4) (tt := tYes) (te := tCB (rLo K) (tCons (tVar 4) tNil)) rfl nd rfl rfl (sw_true rfl rfl rfl (by decide +kernel)) (pi_tup (pe_ix ix_list (pv 2) (pe_call GD hr (by rfl) gD kD bD .nil pass0 (pa_cons (pv 0) (pa_cons (pe_callB call_len_seq (by rfl) N.is.len PySem.boot_len (pa_cons (pv 2) pa_nil)) pa_nil))) (fun _ _ => rfl)))
            (blkOk_by (N := nBud) (sc := defScope sLBudgets) (by decide +kernel)) (fun _ _ _ _ _ => pg_name (i := 4) nd rfl (Or.inl rfl)) (fun _ _ _ _ _ => pts_nil)
            (fun _ _ _ _ _ => pe_callTy (r := rLo K) call_list_of (by rfl) N.is.lst (by decide +kernel) (pa_cons (pv 4) pa_nil)))) pss_nil)
      (pss_cons (ps_for PassesOwn.never rfl (pi_range1 (by rfl) N.range (pa_cons (pe_call GD hr (by rfl) gD kD bD .nil pass0 (pa_cons (pv 0) (pa_cons pe_int pa_nil))) pa_nil)) (pg_name (i := 7) nd rfl (Or.inl rfl))
        (pss_cons (ps_par (i := 4) (j := 5) rfl nd rfl rfl (by decide) rfl rfl (pa_cons (pe_call GD hr (by rfl) gD kD bD .nil pass0 (pa_cons (pv 0) (pa_cons pe_int pa_nil))) (pa_cons (pe_call GD hr (by rfl) gD kD bD .nil pass0 (pa_cons (pv 0) (pa_cons (pv 1) pa_nil))) pa_nil)) rfl)
        (pss_cons (ps_set (i := 8) nd rfl (Or.inl rfl) (pe_ix ix_list (pv 6) (pv 4) (fun _ _ => rfl)))
        (pss_one (ps_asg (pe_op op_sub (pe_op op_add (pe_ix ix_list (pv 8) (pv 5) (fun _ _ => rfl)) (pe_op op_mul pe_int (pe_call GD hr (by rfl) gD kD bD .nil pass0 (pa_cons (pv 0) (pa_cons pe_int pa_nil))))) pe_int) (pg_sub (pv 8) (pv 5) set_list))))))
      (pss_one (ps_ret (pe_callTy call_tuple_of (by rfl) N.is.tup (by decide +kernel) (pa_cons (pe_lc (own := [("_law_side", 4)]) (g := gName 4) (tt := tYes) (te := tCB (rTo K) (tCons (tLc (iList K (tVar 4)) (gName 9) tYes (tCB rMx2 (tCons (tC (.int 0)) (tCons (tCB rMn2 (tCons (tC (.int 60)) (tCons (tVar 9) tNil))) tNil))) [9]) tNil)) rfl nd (pi_list (pv 6))
          (blkOk_by (N := nBud) (sc := defScope sLBudgets) (by decide +kernel)) (fun _ _ _ _ _ => pg_name (i := 4) nd rfl (Or.inl rfl)) (fun _ _ _ _ _ => pts_nil)
          (fun _ _ _ _ _ => pe_callTy (r := rTo K) call_tuple_of (by rfl) N.is.tup (by decide +kernel) (pa_cons (pe_lc (own := [("_law_number", 9)]) (g := gName 9) (tt := tYes) (te := tCB rMx2 (tCons (tC (.int 0)) (tCons (tCB rMn2 (tCons (tC (.int 60)) (tCons (tVar 9) tNil))) tNil))) rfl nd (pi_list (pv 4))
            (blkOk_by (N := nBud) (sc := scBu2) (by decide +kernel)) (fun _ _ _ _ _ => pg_name (i := 9) nd rfl (Or.inl rfl)) (fun _ _ _ _ _ => pts_nil)
            (fun _ _ _ _ _ => pe_callB (r := rMx2) (call_max2 rfl) (by rfl) B.zMax (by decide +kernel) (pa_cons pe_int (pa_cons (pe_callB (r := rMn2) (call_min2 rfl) (by rfl) N.min (by decide +kernel) (pa_cons pe_int (pa_cons (pv 9) pa_nil))) pa_nil)))) pa_nil))) pa_nil))))))), ?_⟩
    have noneK : ∀ {G : Hp} {D : Addr}, Kept p H G → D ≠ p → G D = none → H D = none := fun {G D} kg dp h => by
      cases e : H D with
      | none => rfl
      | some o => rw [kg _ _ dp e] at h; cases h
    have npH : ∀ {a : Addr}, H a = none → a ≠ p := fun h => hand_ne hI h
    have ilHand : ∀ {G : Hp} {Z : Addr} {as : List Addr} {o : HO}, IL H G n Z as → IL H (upd G p o) n Z as := fun h => ilKeep (fun a o z _ e => by rw [upd_ne (npH z)]; exact e) h
    have ilFresh : ∀ {G : Hp} {Z D : Addr} {as : List Addr}, IL H G n Z as → G D = none → D ∉ as := fun h nD z => by
      obtain ⟨⟨X, e, _⟩, _⟩ := h.2 _ z
      rw [nD] at e; cases e
    have sop : so ≠ p := fun z => by
      obtain ⟨_, _, _, _, e, _⟩ := hI.ob
      rw [← z, hso] at e
      cases e
    obtain ⟨tt0, tr0, hb00, hT0, hR0⟩ := hb0
    refine ⟨by show 4 ≤ sizeLine; decide, fun M nM => ?_⟩
    have Mp := hand_ne hI nM
    have S1 := smUpd (o := .lst [V.int 2, V.int 3, V.int 4, V.int 61]) nM
    have hI1 := handIn_keep hI S1
    have k1 : Kept p H (upd H M (.lst [V.int 2, V.int 3, V.int 4, V.int 61])) := kept_same S1
    have hM1 : upd H M (.lst [V.int 2, V.int 3, V.int 4, V.int 61]) M = some (.lst [V.int 2, V.int 3, V.int 4, V.int 61]) := upd_same
    generalize upd H M (.lst [V.int 2, V.int 3, V.int 4, V.int 61]) = H1 at hI1 k1 hM1 ⊢
    refine ⟨_, rfl, p, c, cells, 4, rfl, hI1, by decide, by decide, fun d a1 a2 a3 a4 d0 d4 a10 => ?_⟩
    have hI2 := handIn_upd (i := a1) (g := a2) (m := a3) (t := a4) hI1 a10
    have k2 := kept_trans k1 (kept_hand (p := p) (o := handL c a1 a2 a3 a4))
    have hM2 : upd H1 p (handL c a1 a2 a3 a4) M = some (.lst [V.int 2, V.int 3, V.int 4, V.int 61]) := by rw [upd_ne Mp]; exact hM1
    generalize upd H1 p (handL c a1 a2 a3 a4) = H2 at hI2 k2 hM2 ⊢
    obtain ⟨m, m2, m61, hm⟩ : ∃ m : Int, 2 ≤ m ∧ m ≤ 61 ∧ atI [V.int 2, V.int 3, V.int 4, V.int 61] d = some (.int m) := by
      obtain ⟨j, rfl⟩ := Int.eq_ofNat_of_zero_le d0
      have hj : j < 4 := by omega
      match j, hj with
      | 0, _ => exact ⟨2, by decide, by decide, atI_nat (j := 0) rfl⟩
      | 1, _ => exact ⟨3, by decide, by decide, atI_nat (j := 1) rfl⟩
      | 2, _ => exact ⟨4, by decide, by decide, atI_nat (j := 2) rfl⟩
      | 3, _ => exact ⟨61, by decide, by decide, atI_nat (j := 3) rfl⟩
    refine ⟨M, _, d, _, rfl, rfl, .inl (.inl hM2), hm, ?_⟩
    refine ⟨2, rfl, by decide, by decide, fun Z nZ => ?_⟩
    have Zp := hand_ne hI2 nZ
    have Z0 := noneK k2 Zp nZ
    have SZ := smUpd (o := .lst []) nZ
    refine lc_range (lo := 0) (n := 2) (fun i G => HandIn G p c cells ∧ Kept p H G ∧ ∃ as : List Addr, G Z = some (.lst (as.map V.ref)) ∧ as.length = i ∧ IL H G n Z as) ⟨handIn_keep hI2 SZ, kept_trans k2 (kept_same SZ), [], upd_same, rfl, List.nodup_nil, fun a h => (by cases h)⟩ ?_ ?_
    · rintro i G hi ⟨hG, kG, as, gZ, al, gI⟩
      refine ⟨rfl, _, rfl, (n : Int), rfl, by omega, by omega, fun D nD => ?_⟩
      rw [Int.toNat_natCast]
      have Dp := hand_ne hG nD
      have D0 := noneK kG Dp nD
      have DZ : D ≠ Z := fun z => by rw [z, gZ] at nD; cases nD
      have na := ilFresh gI nD
      have SD := smUpd (o := .lst []) nD
      refine lc_range (lo := 0) (n := n) (fun q G' => HandIn G' p c cells ∧ Kept p H G' ∧ G' Z = some (.lst (as.map V.ref)) ∧ IL H G' n Z as ∧ ∃ X : List Int, G' D = some (.lst (X.map V.int)) ∧ X.length = q) ⟨handIn_keep hG SD, kept_trans kG (kept_same SD), SD _ _ gZ, ilKeep (fun a o _ _ e => SD _ _ e) gI, [], upd_same, rfl⟩ ?_ ?_
      · rintro q G' hq ⟨hG', kG', gZ', gI', X, gX, Xl⟩
        refine ⟨rfl, _, rfl, _, rfl, p, c, cells, m, rfl, hG', by omega, by omega, fun e b1 b2 b3 b4 e0 em b10 => ?_⟩
        have hG3 := handIn_upd (i := b1) (g := b2) (m := b3) (t := b4) hG' b10
        have k3 : Kept p G' (upd G' p (handL c b1 b2 b3 b4)) := kept_hand
        have gX3 := k3 _ _ Dp gX
        refine ⟨X.map V.int, gX3, small6063 (by rw [List.length_map]; omega), handIn_write hI D0 hG3, kept_over D0 (kept_trans kG' k3), ?_, ?_, X ++ [e], ?_, by rw [List.length_append, Xl]; rfl⟩
        · rw [upd_ne (Ne.symm DZ)]; exact k3 _ _ Zp gZ'
        · exact ilOther (ilHand gI') na
        · rw [upd_same, List.map_append]; rfl
      · rintro G' ⟨hG', kG', gZ', gI', X, gX, Xl⟩
        have al2 : as.length ≤ 60 := by omega
        refine ⟨as.map V.ref, gZ', small6063 (by rw [List.length_map]; omega), handIn_write hI Z0 hG', kept_over Z0 kG', as ++ [D], ?_, by rw [List.length_append, al]; rfl, ilKeep (fun a o z zd e => by rw [upd_ne zd]; exact e) (ilSnoc gI' na gX Xl D0 DZ)⟩
        rw [upd_same, List.map_append]; rfl
    rintro G ⟨hG, kG, as, gZ, al, gI⟩
    refine ⟨fun σ G => HandIn G p c cells ∧ Kept p H G ∧ ∃ (Z : Addr) (as : List Addr) (t4 t5 t7 t8 t9 : Option V), σ = [some (.ref p), some (vn n), some (.ref so), some (.int m), t4, t5, some (.ref Z), t7, t8, t9] ∧ H Z = none ∧ G Z = some (.lst (as.map V.ref)) ∧ as.length = 2 ∧ IL H G n Z as, ?_, ?_⟩
    · refine ⟨_, rfl, p, c, cells, 4, rfl, hG, by decide, by decide, fun d5 a1 a2 a3 a4 d50 d54 a10 => ⟨_, _, rfl, rfl, _, rfl, ?_⟩⟩
      have hG3 := handIn_upd (i := a1) (g := a2) (m := a3) (t := a4) hG a10
      have k3 : Kept p G (upd G p (handL c a1 a2 a3 a4)) := kept_hand
      have kG3 := kept_trans kG k3
      have gZ3 := k3 _ _ Zp gZ
      have gI3 : IL H (upd G p (handL c a1 a2 a3 a4)) n Z as := ilHand gI
      generalize upd G p (handL c a1 a2 a3 a4) = G3 at hG3 kG3 gZ3 gI3 k3 ⊢
      by_cases cd : d5 > 0
      · refine ifT (decide_eq_true cd) ?_
        have hso3 : G3 so = some (.lst [.ref b0]) := kG3 _ _ sop hso
        refine ⟨_, rfl, _, rfl, _, rfl, so, _, rfl, .inl (.inl (.inl hso3)), p, c, cells, 1, rfl, hG3, by decide, by decide, fun d6 b1 b2 b3 b4 d60 d61 b10 => ?_⟩
        have hG4 := handIn_upd (i := b1) (g := b2) (m := b3) (t := b4) hG3 b10
        have kG4 := kept_trans kG3 (kept_hand (p := p) (o := handL c b1 b2 b3 b4))
        generalize upd G3 p (handL c b1 b2 b3 b4) = G4 at hG4 kG4 ⊢
        obtain rfl : d6 = 0 := by omega
        have tupK : ∀ {G : Hp} {a : Addr} {xs : List V}, Kept p H G → H a = some (.tup xs) → G a = some (.tup xs) := fun kg e => kg _ _ (tup_ne hI e) e
        refine ⟨so, _, (0 : Int), _, rfl, rfl, .inl (.inl (kG4 _ _ sop hso)), atI_nat (j := 0) rfl, b0, rfl, ⟨_, .inl (.inl (tupK kG4 hb00))⟩, fun Y nY => ?_⟩
        have Yp := hand_ne hG4 nY
        have Y0 := noneK kG4 Yp nY
        have SY := smUpd (o := .lst []) nY
        refine lc_tup (xs := [.ref tt0, .ref tr0]) (fun i G => HandIn G p c cells ∧ Kept p H G ∧ ∃ as : List Addr, G Y = some (.lst (as.map V.ref)) ∧ as.length = i ∧ IL H G n Y as) ⟨handIn_keep hG4 SY, kept_trans kG4 (kept_same SY), [], upd_same, rfl, List.nodup_nil, fun a h => (by cases h)⟩ (fun i G _ z => .inl (.inl (tupK z.2.1 hb00))) ?_ ?_
        · rintro i x G5 hx ⟨hG5, kG5, as, gY, al, gI⟩
          have hi : i < 2 := (List.getElem?_eq_some_iff.mp hx).1
          obtain ⟨u, X, rfl, hu, lX⟩ : ∃ (u : Addr) (X : List Nat), x = .ref u ∧ TN H u X ∧ X.length = n := by
            rcases List.mem_cons.mp (List.mem_of_getElem? hx) with e | e
            · exact ⟨tt0, T0, e, hT0, l0⟩
            · exact ⟨tr0, R0, List.mem_singleton.mp e, hR0, l1⟩
          refine ⟨rfl, _, rfl, u, _, rfl, .inr (tnL (tupK kG5 hu)), fun D nD => ?_⟩
          have Dp := hand_ne hG5 nD
          have D0 := noneK kG5 Dp nD
          have DY : D ≠ Y := fun z => by rw [z, gY] at nD; cases nD
          have na := ilFresh gI nD
          have SD := smUpd (o := .lst (X.map vn)) nD
          have eX : X.map vn = (X.map fun z => ((z : Nat) : Int)).map V.int := by rw [List.map_map]; rfl
          refine ⟨as.map V.ref, SD _ _ gY, small6063 (by rw [List.length_map]; omega), handIn_write hI Y0 (handIn_keep hG5 SD), kept_over Y0 (kept_trans kG5 (kept_same SD)), as ++ [D], ?_, by rw [List.length_append, al]; rfl, ilKeep (fun a o z zd e => by rw [upd_ne zd]; exact e) (ilSnoc (X := X.map fun z => ((z : Nat) : Int)) (ilOther gI na) na (by rw [upd_same, eX]) (by rw [List.length_map, lX]) D0 DY)⟩
          rw [upd_same, List.map_append]; rfl
        · rintro G5 ⟨hG5, kG5, as, gY, al, gI⟩
          exact ⟨hG5, kG5, Y, as, _, _, _, _, _, rfl, Y0, gY, al, gI⟩
      · refine ifF (fun z => cd (of_decide_eq_true z)) ?_
        exact ⟨hG3, kG3, Z, as, _, _, _, _, _, rfl, Z0, gZ3, al, gI3⟩
    · rintro σ G0 ⟨hG0, kG0, Z, as, t4, t5, t7, t8, t9, rfl, Z0, gZ0, al, gI0⟩
      have Zp := npH Z0
      refine ⟨_, rfl, p, c, cells, 4, rfl, hG0, by decide, by decide, fun d5 a1 a2 a3 a4 d50 d54 a10 => ⟨d5, rfl, by omega, by omega, ?_⟩⟩
      have hG1 := handIn_upd (i := a1) (g := a2) (m := a3) (t := a4) hG0 a10
      have k01 : Kept p G0 (upd G0 p (handL c a1 a2 a3 a4)) := kept_hand
      have kG1 := kept_trans kG0 k01
      have gZ1 := k01 _ _ Zp gZ0
      have gI1 : IL H (upd G0 p (handL c a1 a2 a3 a4)) n Z as := ilHand gI0
      generalize upd G0 p (handL c a1 a2 a3 a4) = G1 at hG1 kG1 gZ1 gI1 ⊢
      refine for_range (lo := 0) (n := d5.toNat) (fun i σ G => HandIn G p c cells ∧ Kept p H G ∧ G Z = some (.lst (as.map V.ref)) ∧ IL H G n Z as ∧ ∃ (t4 t5 t7 t8 t9 : Option V), σ = [some (.ref p), some (vn n), some (.ref so), some (.int m), t4, t5, some (.ref Z), t7, t8, t9]) ⟨hG1, kG1, gZ1, gI1, _, _, _, _, _, rfl⟩ ?_ ?_
      · rintro i σ G hi ⟨hG, kG, gZ, gI, t4, t5, t7, t8, t9, rfl⟩
        refine ⟨_, rfl, p, c, cells, 2, rfl, hG, by decide, by decide, fun d6 a1 a2 a3 a4 d60 d62 a10 => ?_⟩
        have hG2 := handIn_upd (i := a1) (g := a2) (m := a3) (t := a4) hG a10
        have k2 : Kept p G (upd G p (handL c a1 a2 a3 a4)) := kept_hand
        have kG2 := kept_trans kG k2
        have gZ2 := k2 _ _ Zp gZ
        have gI2 : IL H (upd G p (handL c a1 a2 a3 a4)) n Z as := ilHand gI
        generalize upd G p (handL c a1 a2 a3 a4) = G2 at hG2 k2 kG2 gZ2 gI2 ⊢
        refine ⟨_, rfl, _, rfl, p, c, cells, n, rfl, hG2, by omega, by omega, fun d7 b1 b2 b3 b4 d70 d7n b10 => ⟨_, _, rfl, ?_⟩⟩
        have hG3 := handIn_upd (i := b1) (g := b2) (m := b3) (t := b4) hG2 b10
        have k3 : Kept p G2 (upd G2 p (handL c b1 b2 b3 b4)) := kept_hand
        have kG3 := kept_trans kG2 k3
        have gZ3 := k3 _ _ Zp gZ2
        have gI3 : IL H (upd G2 p (handL c b1 b2 b3 b4)) n Z as := ilHand gI2
        generalize upd G2 p (handL c b1 b2 b3 b4) = G3 at hG3 k3 kG3 gZ3 gI3 ⊢
        obtain ⟨j, rfl⟩ := Int.eq_ofNat_of_zero_le d60
        obtain ⟨q, rfl⟩ := Int.eq_ofNat_of_zero_le d70
        have hj : j < as.length := by omega
        obtain ⟨⟨X, eX, lX⟩, za, _⟩ := gI3.2 as[j] (List.getElem_mem hj)
        have haj : (as.map V.ref)[j]? = some (.ref as[j]) := by rw [List.getElem?_map, List.getElem?_eq_getElem hj]; rfl
        generalize as[j] = u at eX za haj
        refine ⟨_, rfl, _, rfl, Z, _, (j : Int), _, rfl, rfl, .inl (.inl gZ3), atI_nat haj, ?_⟩
        have hq : q < X.length := by omega
        have hxq : (X.map V.int)[q]? = some (.int X[q]) := by rw [List.getElem?_map, List.getElem?_eq_getElem hq]; rfl
        refine ⟨_, rfl, _, rfl, u, _, (q : Int), _, rfl, rfl, .inl (.inl eX), atI_nat hxq, _, rfl, p, c, cells, 2, rfl, hG3, by decide, by decide, fun d8 a1 a2 a3 a4 d80 d82 a10 => ?_⟩
        have hG4 := handIn_upd (i := a1) (g := a2) (m := a3) (t := a4) hG3 a10
        have k4 : Kept p G3 (upd G3 p (handL c a1 a2 a3 a4)) := kept_hand
        have kG4 := kept_trans kG3 k4
        have gZ4 := k4 _ _ Zp gZ3
        have eX4 := k4 _ _ (npH za) eX
        have gI4 : IL H (upd G3 p (handL c a1 a2 a3 a4)) n Z as := ilHand gI3
        generalize upd G3 p (handL c a1 a2 a3 a4) = G4 at hG4 k4 kG4 gZ4 gI4 eX4 ⊢
        have uZ : u ≠ Z := fun z => by
          rw [z, gZ4] at eX4
          match as, al, eX4 with
          | [a, b], _, e =>
            match X, e with
            | x :: X, e => cases e
        refine ⟨_, _, rfl, rfl, .inl ⟨by decide, by decide⟩, _, _, rfl, rfl, _, _, rfl, rfl, ?_⟩
        refine ⟨_, rfl, _, rfl, u, _, _, q, rfl, rfl, eX4, by rw [List.length_map]; exact ixNat hq, ?_⟩
        refine ⟨handIn_write hI za hG4, kept_over za kG4, by rw [upd_ne (Ne.symm uZ)]; exact gZ4, ?_, _, _, _, _, _, rfl⟩
        rw [← List.map_set]
        exact ilPut gI4 (by rw [List.length_set]; exact lX)
      · rintro σ G ⟨hG, kG, gZ, gI, t4, t5, t7, t8, t9, rfl⟩
        refine ⟨_, rfl, Z, rfl, ⟨_, .inl (.inl gZ)⟩, fun W nW => ?_⟩
        have Wp := hand_ne hG nW
        have W0 := noneK kG Wp nW
        have WZ : W ≠ Z := fun z => by rw [z, gZ] at nW; cases nW
        have nWa := ilFresh gI nW
        have SW := smUpd (o := .lst []) nW
        refine lc_it (walk_list (K := K) (xs := as.map V.ref)) (fun i G => HandIn G p c cells ∧ Kept p H G ∧ G Z = some (.lst (as.map V.ref)) ∧ IL H G n Z as ∧ ∃ (us : List V) (ls : List (List Nat)), G W = some (.lst us) ∧ NsR G us ls ∧ ls.length = i ∧ ∀ X ∈ ls, Bud n X)
          ⟨handIn_keep hG SW, kept_trans kG (kept_same SW), SW _ _ gZ, ilKeep (fun a o _ _ e => SW _ _ e) gI, [], [], upd_same, .nil, rfl, fun X h => (by cases h)⟩ (fun i G _ z => .inl (.inl z.2.2.1)) ?_ ?_
        · rintro i x G2 G2' hi ⟨hG2, kG2, gZ2, gI2, us, ls, gW, gN, ll, gB⟩ ⟨rfl, hx⟩
          rw [List.length_map] at hi
          obtain ⟨⟨X, eX, lX⟩, za, _⟩ := gI2.2 as[i] (List.getElem_mem hi)
          have hai : (as.map V.ref)[i]? = some (.ref as[i]) := by rw [List.getElem?_map, List.getElem?_eq_getElem hi]; rfl
          rw [hai] at hx
          cases hx
          generalize as[i] = u at eX za hai ⊢
          refine ⟨rfl, _, rfl, u, rfl, ⟨_, .inl (.inl eX)⟩, fun D nD => ?_⟩
          have Dp := hand_ne hG2 nD
          have D0 := noneK kG2 Dp nD
          refine lc_it (walk_list (K := K) (xs := X.map V.int)) (fun q G => Same _ G ∧ ∃ Y : List Nat, G D = some (.lst (Y.map vn)) ∧ Y.length = q ∧ ∀ y ∈ Y, y ≤ 60) ⟨smUpd nD, [], upd_same, rfl, fun y h => (by cases h)⟩ (fun q G _ z => .inl (.inl (z.1 _ _ eX))) ?_ ?_
          · rintro q x G3 G3' hq ⟨s3, Y, gY, lY, bY⟩ ⟨rfl, hx⟩
            rw [List.length_map] at hq
            rw [List.getElem?_map, List.getElem?_eq_getElem hq] at hx
            cases hx
            generalize X[q] = v
            refine ⟨rfl, _, rfl, 60, v, rfl, 0, _, rfl, Y.map vn, gY, small6063 (by rw [List.length_map]; omega), smOver nD s3, Y ++ [(if (if v < 60 then v else 60) > 0 then (if v < 60 then v else 60) else 0).toNat], ?_, by rw [List.length_append, lY]; rfl, fun y hy => ?_⟩
            · rw [upd_same, List.map_append]
              show some (HO.lst (_ ++ [V.int (if (if v < 60 then v else 60) > 0 then (if v < 60 then v else 60) else 0)])) = some (HO.lst (_ ++ [V.int (((if (if v < 60 then v else 60) > 0 then (if v < 60 then v else 60) else 0).toNat : Nat) : Int)]))
              rw [Int.toNat_of_nonneg (by split <;> omega)]
            · rcases List.mem_append.mp hy with hy | hy
              · exact bY y hy
              · rw [List.mem_singleton.mp hy]
                split
                · split <;> omega
                · omega
          · rintro G3 ⟨s3, Y, gY, lY, bY⟩
            rw [List.length_map, lX] at lY
            refine ⟨D, _, rfl, .inl ⟨.inl (.inl gY), fun r nr => ?_⟩⟩
            have S4 := s3.trans (smUpd (o := .tup (Y.map vn)) nr)
            have hr4 : TN (upd G3 r (.tup (Y.map vn))) r Y := upd_same
            generalize upd G3 r (.tup (Y.map vn)) = G4 at S4 hr4 ⊢
            have gW4 := S4 _ _ gW
            have ul : us.length = ls.length := Paired.length gN
            have al2 : as.length = 2 := al
            refine ⟨us, gW4, small6063 (by omega), handIn_write hI W0 (handIn_keep hG2 S4), kept_over W0 (kept_trans kG2 (kept_same S4)), by rw [upd_ne (Ne.symm WZ)]; exact S4 _ _ gZ2, ilOther (ilKeep (fun a o _ _ e => S4 _ _ e) gI2) nWa, us ++ [.ref r], ls ++ [Y], upd_same, nsUpd gW4 (pairedSnoc (nsSame S4 gN) ⟨r, rfl, hr4⟩), by rw [List.length_append, ll]; rfl, fun Q hQ => ?_⟩
            rcases List.mem_append.mp hQ with hQ | hQ
            · exact gB Q hQ
            · rw [List.mem_singleton.mp hQ]; exact ⟨lY, bY⟩
        · rintro G2 ⟨hG2, kG2, gZ2, gI2, us, ls, gW, gN, ll, gB⟩
          rw [List.length_map, al] at ll
          obtain ⟨t, r, T, R, rfl, hT, hR, bT, bR⟩ := nsTwo gN ll gB
          refine ⟨W, _, rfl, .inl ⟨.inl (.inl gW), fun b nb => ?_⟩⟩
          have S6 := smUpd (o := .tup [.ref t, .ref r]) nb
          exact k b T R _ (bud_ok bT bR n1 n60) (handIn_keep hG2 S6) (kept_trans kG2 (kept_same S6)) ⟨t, r, upd_same, S6 _ _ hT, S6 _ _ hR⟩
end
end Cn
namespace Cn
open PySem PySem.Spec PyProof.Rows L2 Ck
section
variable {P : Program} {w : World} {K : PySem.W.Frag} {mg : Str → Option Value} {base : Heap} {C : Addr}
/-- own look: a plan of a row -/
def spLIsPlan : Sp := fun vs H Q _ => ∃ (a : Addr) (lv : List Nat), vs = [.ref a, vn lv.length] ∧ TN H a lv ∧ RowPl lv ∧ 1 ≤ lv.length ∧ lv.length ≤ 60 ∧ ∀ H', Same H H' → Q (.bl true) H'
def nLIsPlan : List Str := ["_law_told", "_law_places", "_law_level", "_law_at"]
theorem scLIsPlan : FnScope nLIsPlan ["_law_told", "_law_places"] (defScope sLIsPlan) := ⟨rfl, rfl, rfl, by decide +kernel, rfl, by decide +kernel, by decide +kernel⟩
theorem dLIsPlan (B : Defs K mg C) : Def P w K mg base "_law_is_plan" 1 ["_law_told", "_law_places"] spLIsPlan := by
  have N := nOf B
  have nd := scLIsPlan.nd
  refine def_of B.lip fun f fd F => ?_
  refine F.ok scLIsPlan (fun vs H Q E h => ?_) (fun cdv A outer s H vs Q E hr h => ?_)
  · obtain ⟨a, lv, rfl, _⟩ := h
    rfl
  · obtain ⟨a, lv, rfl, ha, hv, n1, n60, k⟩ := h
    refine ⟨_, pss_cons (ps_if (PW.pt (pw_or (pt_not (pt_val (pe_callB call_isi (by rfl) N.is.inst (by decide +kernel) (pa_cons (pv 0) (pa_cons (pe_bltn (v := .ty "tuple") (by rfl) N.is.tup (by decide +kernel) rfl) pa_nil)))))
          (pw_or1 (pt_cmpR op_ne (pe_callB call_len_seq (by rfl) N.is.len PySem.boot_len (pa_cons (pv 0) pa_nil)) (pv 1) (nomark _))))) (pss_one ps_never) pss_nil)
      (pss_cons (ps_if (pt_not (pt_val (pe_callB (r := rAll K) (cr_all rfl) (by rfl) N.is.all (by decide +kernel) (pa_cons (pe_lc (own := [("_law_level", 2)]) (g := gName 2) (tt := tYes) rfl nd (pi_tup (pv 0))
          (blkOk_by (N := nLIsPlan) (sc := defScope sLIsPlan) (by decide +kernel)) (fun _ _ _ _ _ => pg_name (i := 2) nd rfl (Or.inl rfl)) (fun _ _ _ _ _ => pts_nil)
          (fun _ _ _ _ _ => pe_and (pe_callB (r := rIsi K) call_isi (by rfl) N.is.inst (by decide +kernel) (pa_cons (pv 2) (pa_cons (pe_bltn (v := .ty "int") (by rfl) N.int (by decide +kernel) rfl) pa_nil))) (pe_and (pe_not (pe_callB (r := rIsi K) call_isi (by rfl) N.is.inst (by decide +kernel) (pa_cons (pv 2) (pa_cons (pe_bltn (v := .ty "bool") (by rfl) N.is.bool (by decide +kernel) rfl) pa_nil)))) (pe_one (pe_cmpR op_ge (pv 2) pe_int (nomark _)))))) pa_nil)))) (pss_one ps_never) pss_nil)
      (pss_one (ps_ret (pe_and (pe_cmpR op_eq (pe_ix ix_tup (pv 0) pe_int (fun _ _ => rfl)) pe_int (nomark _)) (pe_one (pe_callB (r := rAll K) (cr_all rfl) (by rfl) N.is.all (by decide +kernel) (pa_cons (pe_lc (own := [("_law_at", 3)]) (g := gName 3) (tt := tYes) rfl nd (pi_range2 (by rfl) N.range (pa_cons pe_int (pa_cons (pv 1) pa_nil)))
          (blkOk_by (N := nLIsPlan) (sc := defScope sLIsPlan) (by decide +kernel)) (fun _ _ _ _ _ => pg_name (i := 3) nd rfl (Or.inl rfl)) (fun _ _ _ _ _ => pts_nil)
          (fun _ _ _ _ _ => pe_cmpR op_le (pe_ix (r := rIxT K) ix_tup (pv 0) (pv 3) (fun _ _ => rfl)) (pe_op op_add (pe_ix (r := rIxT K) ix_tup (pv 0) (pe_op op_sub (pv 3) pe_int) (fun _ _ => rfl)) pe_int) (nomark _))) pa_nil))))))), ?_⟩
    refine ⟨_, rfl, _, .ty "tuple", _, _, true, rfl, .ty _, tupTy ha, kit_ty (by decide +kernel), true, rfl, ?_⟩
    refine ifF (by decide) ?_
    refine ⟨_, rfl, a, _, rfl, .inr (tnL ha), _, rfl, rfl, _, rfl, ?_⟩
    refine ifF (by rw [List.length_map, decide_eq_true rfl]; decide) ?_
    refine ⟨_, rfl, a, rfl, ⟨_, tnL ha⟩, fun D nD => ?_⟩
    refine lc_tup (xs := lv.map vn) (fun i H' => Same H H' ∧ H' D = some (.lst ((List.replicate i true).map V.bl))) ⟨smUpd nD, upd_same⟩ (fun i H' _ z => tnL (z.1 _ _ ha)) ?_ ?_
    · rintro i x H3 hx ⟨s3, hD3⟩
      obtain ⟨j, hj, rfl⟩ := vn_get hx
      have hi : i < lv.length := (List.getElem?_eq_some_iff.mp hj).1
      have h1 := hv.one i hi
      rw [getD_of hj] at h1
      refine ⟨rfl, _, rfl, _, .ty "int", _, _, true, rfl, .ty _, intTy, kit_ty (by decide +kernel), true, rfl, ?_⟩
      refine ifT rfl ?_
      refine ⟨_, rfl, _, .ty "bool", _, _, false, rfl, .ty _, intTy, kit_ty (by decide +kernel), false, rfl, _, rfl, ?_⟩
      refine ifT rfl ?_
      refine ⟨_, rfl, _, _, rfl, rfl, ?_⟩
      refine ⟨_, hD3, small6063 (by rw [List.length_map, List.length_replicate]; omega), smOver nD s3, ?_⟩
      rw [upd_same, List.replicate_succ', List.map_append]
      show some (HO.lst (_ ++ [V.bl (decide ((1 : Int) ≤ ((j : Nat) : Int)))])) = _
      rw [show decide ((1 : Int) ≤ ((j : Nat) : Int)) = true from decide_eq_true (by omega)]
      rfl
    · rintro H3 ⟨s3, hD3⟩
      refine ⟨D, List.replicate (lv.map vn).length true, rfl, .inl (.inl hD3), _, rfl, ?_⟩
      refine ifF (by rw [all_rep]; decide) ?_
      have ha3 : TN H3 a lv := s3 _ _ ha
      have f1 := hv.first (List.length_pos_iff.mp (show 0 < lv.length by omega))
      refine ⟨_, rfl, a, _, (0 : Int), _, rfl, rfl, tnL ha3, vn_ix (i := 0) (getD_at (by omega)), rfl, _, rfl, ?_⟩
      refine ifT (decide_eq_true (by rw [f1]; rfl)) ?_
      refine ⟨_, rfl, 1, (lv.length : Int), rfl, ⟨by omega, by omega, by omega, by omega⟩, fun D2 nD2 => ?_⟩
      refine lc_range (lo := 1) (n := ((lv.length : Int) - 1).toNat) (fun i H' => Same H3 H' ∧ H' D2 = some (.lst ((List.replicate i true).map V.bl))) ⟨smUpd nD2, upd_same⟩ ?_ ?_
      · rintro i H4 hi ⟨s4, hD4⟩
        have ha4 : TN H4 a lv := s4 _ _ ha3
        have ei : (1 : Int) + (i : Int) = ((i + 1 : Nat) : Int) := by omega
        have hi1 : i + 1 < lv.length := by omega
        have nx := hv.next i hi1
        rw [ei]
        refine ⟨rfl, _, rfl, _, rfl, a, _, ((i + 1 : Nat) : Int), _, rfl, rfl, tnL ha4, vn_ix (getD_at hi1), _, rfl, _, rfl, _, _, rfl, rfl, a, _, ((i : Nat) : Int), _, rfl, ?_, tnL ha4, vn_ix (getD_at (show i < lv.length by omega)), _, _, rfl, rfl, _, _, rfl, rfl, ?_⟩
        · show V.int (((i + 1 : Nat) : Int) - 1) = _
          rw [show ((i + 1 : Nat) : Int) - 1 = ((i : Nat) : Int) from by omega]
        refine ⟨_, hD4, small6063 (by rw [List.length_map, List.length_replicate]; omega), smOver nD2 s4, ?_⟩
        rw [upd_same, List.replicate_succ', List.map_append]
        show some (HO.lst (_ ++ [V.bl (decide (((lv.getD (i + 1) 0 : Nat) : Int) ≤ ((lv.getD i 0 : Nat) : Int) + 1))])) = _
        rw [show decide (((lv.getD (i + 1) 0 : Nat) : Int) ≤ ((lv.getD i 0 : Nat) : Int) + 1) = true from decide_eq_true (by omega)]
        rfl
      · rintro H4 ⟨s4, hD4⟩
        refine ⟨D2, List.replicate _ true, rfl, .inl (.inl hD4), ?_⟩
        rw [all_rep]
        exact k _ (s3.trans s4)
/-- own look: at no place greater -/
def leB (n : Nat) (X Y : List Nat) : Bool := ((List.range n).map fun j => decide (X.getD j 0 ≤ Y.getD j 0)).all id
theorem leB_iff {n : Nat} {X Y : List Nat} : leB n X Y = true ↔ ∀ j, j < n → X.getD j 0 ≤ Y.getD j 0 := by
  unfold leB
  rw [List.all_eq_true]
  constructor
  · intro h j hj
    exact of_decide_eq_true (h _ (List.mem_map.mpr ⟨j, List.mem_range.mpr hj, rfl⟩))
  · intro h x hx
    obtain ⟨j, hj, rfl⟩ := List.mem_map.mp hx
    exact decide_eq_true (h j (List.mem_range.mp hj))
def spKeeps : Sp := fun vs H Q _ => ∃ (a b : Addr) (n : Nat) (T1 R1 T R : List Nat), vs = [.ref a, .ref b] ∧ BuAt H a T1 R1 ∧ BuAt H b T R ∧ T1.length = n ∧ R1.length = n ∧ T.length = n ∧ R.length = n ∧ n ≤ 60 ∧ ∀ H', Same H H' → Q (.bl (leB n T1 T && leB n R1 R)) H'
def nKeeps : List Str := ["_law_told", "_law_budgets_here", "_law_one", "_law_other", "_law_number", "_law_most"]
theorem scKeeps : FnScope nKeeps ["_law_told", "_law_budgets_here"] (defScope sKeeps) := ⟨rfl, rfl, rfl, by decide +kernel, rfl, by decide +kernel, by decide +kernel⟩
theorem dKeeps (B : Defs K mg C) : Def P w K mg base "_law_keeps" 1 ["_law_told", "_law_budgets_here"] spKeeps := by
  have N := nOf B
  have nd := scKeeps.nd
  refine def_of B.kee fun f fd F => ?_
  refine F.ok scKeeps (fun vs H Q E h => ?_) (fun cdv A outer s H vs Q E hr h => ?_)
  · obtain ⟨a, b, n, T1, R1, T, R, rfl, _⟩ := h
    rfl
  · obtain ⟨a, b, n, T1, R1, T, R, rfl, ⟨t1, r1, ha, ht1, hr1⟩, ⟨t, r, hb, ht, hrr⟩, l1, l2, l3, l4, n60, k⟩ := h
    refine ⟨_, pss_cons (ps_for PassesOwn.never rfl (RZ.pi_zipA (by rfl) N.is.zip (pa_cons (pv 0) (pa_cons (pv 1) pa_nil))) (pg_tup rfl (pgs_cons (pg_name (i := 2) nd rfl (Or.inl rfl)) (pgs_cons (pg_name (i := 3) nd rfl (Or.inl rfl)) pgs_nil)))
        (pss_one (ps_if (pt_not (pt_val (pe_callB (r := rAll K) (cr_all rfl) (by rfl) N.is.all (by decide +kernel) (pa_cons (pe_lc (own := [("_law_number", 4), ("_law_most", 5)]) (g := gTup K 2 (gCons (gName 4) (gCons (gName 5) gNil))) (tt := tYes) rfl nd (RZ.pi_zipA (by rfl) N.is.zip (pa_cons (pv 2) (pa_cons (pv 3) pa_nil)))
          (blkOk_by (N := nKeeps) (sc := defScope sKeeps) (by decide +kernel)) (fun _ _ _ _ _ => pg_tup rfl (pgs_cons (pg_name (i := 4) nd rfl (Or.inl rfl)) (pgs_cons (pg_name (i := 5) nd rfl (Or.inl rfl)) pgs_nil))) (fun _ _ _ _ _ => pts_nil)
          (fun _ _ _ _ _ => pe_cmpR op_le (pv 4) (pv 5) (nomark _))) pa_nil)))) (pss_one (ps_ret pe_bl)) pss_nil)))
      (pss_one (ps_ret pe_bl)), ?_⟩
    refine ⟨_, rfl, _, rfl, a, b, [.ref t1, .ref r1], [.ref t, .ref r], rfl, .inr ⟨.inl (.inl ha), .inl (.inl hb), ?_⟩⟩
    refine for_it (walk_zipT (n := 2) (xs := [.ref t1, .ref r1]) (ys := [.ref t, .ref r]) rfl) (fun i σ H' => Same H H' ∧ (1 ≤ i → leB n T1 T = true) ∧ (2 ≤ i → leB n R1 R = true) ∧ ∃ t2 t3 t4 t5, σ = [some (.ref a), some (.ref b), t2, t3, t4, t5]) ⟨Same.refl _, fun z => by omega, fun z => by omega, none, none, none, none, rfl⟩ (fun i σ H' _ z => ⟨.inl (.inl (z.1 _ _ ha)), .inl (.inl (z.1 _ _ hb))⟩) ?_ ?_
    · rintro i x σ H' H2 hi ⟨sm, g1, g2, t2, t3, t4, t5, rfl⟩ ⟨T0, x1, y1, rfl, nT, rfl, e1, e2⟩
      obtain ⟨u, v, X, Y, rfl, rfl, hu, hv, lX, lY, cont⟩ : ∃ (u v : Addr) (X Y : List Nat), x1 = .ref u ∧ y1 = .ref v ∧ TN H u X ∧ TN H v Y ∧ X.length = n ∧ Y.length = n ∧ (leB n X Y = true → (1 ≤ i + 1 → leB n T1 T = true) ∧ (2 ≤ i + 1 → leB n R1 R = true)) ∧ (leB n X Y = false → (leB n T1 T && leB n R1 R) = false) := by
        rcases i with _ | _ | i
        · cases e1; cases e2
          exact ⟨t1, t, T1, T, rfl, rfl, ht1, ht, l1, l3, fun z => ⟨fun _ => z, fun y => by omega⟩, fun z => by rw [z]; rfl⟩
        · cases e1; cases e2
          exact ⟨r1, r, R1, R, rfl, rfl, hr1, hrr, l2, l4, fun z => ⟨fun _ => g1 (by omega), fun _ => z⟩, fun z => by rw [z]; exact Bool.and_false _⟩
        · cases e1
      refine ⟨T0, _, rfl, .inl (.inl upd_same), rfl, _, _, rfl, _, _, rfl, rfl, ?_⟩
      have S2 := sm.trans (smUpd (o := .tup [.ref u, .ref v]) nT)
      generalize upd H' T0 (.tup [.ref u, .ref v]) = H2 at S2 ⊢
      refine ⟨_, rfl, _, rfl, u, v, X.map vn, Y.map vn, rfl, .inr ⟨tnL (S2 _ _ hu), tnL (S2 _ _ hv), fun D nD => ?_⟩⟩
      refine lc_it (walk_zipT (n := n) (xs := X.map vn) (ys := Y.map vn) (by rw [List.length_map, List.length_map, lX, lY, Nat.min_self])) (fun m G => Same H2 G ∧ G D = some (.lst (((List.range m).map fun j => decide (X.getD j 0 ≤ Y.getD j 0)).map V.bl))) ⟨smUpd nD, upd_same⟩ (fun m G _ z => ⟨tnL (z.1 _ _ (S2 _ _ hu)), tnL (z.1 _ _ (S2 _ _ hv))⟩) ?_ ?_
      · rintro m x G G2 hm ⟨sg, gD⟩ ⟨T3, x3, y3, rfl, nT3, rfl, e3, e4⟩
        obtain ⟨p, hp, rfl⟩ := vn_get (i := m) e3
        obtain ⟨q, hq, rfl⟩ := vn_get (i := m) e4
        refine ⟨T3, _, rfl, .inl (.inl upd_same), rfl, _, _, rfl, _, _, rfl, rfl, rfl, _, rfl, _, rfl, _, _, rfl, rfl, ?_⟩
        have S3 := smUpd (o := .tup [vn p, vn q]) nT3
        refine ⟨_, S3 _ _ gD, small6063 (by rw [List.length_map, List.length_map, List.length_range]; omega), smOver nD (sg.trans S3), ?_⟩
        rw [upd_same, List.range_succ, List.map_append, List.map_append, ← getD_of hp, ← getD_of hq]
        show some (HO.lst (_ ++ [V.bl (decide (((X.getD m 0 : Nat) : Int) ≤ ((Y.getD m 0 : Nat) : Int)))])) = some (HO.lst (_ ++ [V.bl (decide (X.getD m 0 ≤ Y.getD m 0))]))
        rw [show decide (((X.getD m 0 : Nat) : Int) ≤ ((Y.getD m 0 : Nat) : Int)) = decide (X.getD m 0 ≤ Y.getD m 0) from decide_eq_decide.mpr (by omega)]
      · rintro G ⟨sg, gD⟩
        refine ⟨D, (List.range n).map fun j => decide (X.getD j 0 ≤ Y.getD j 0), rfl, .inl (.inl gD), _, rfl, ?_⟩
        rw [show ((List.range n).map fun j => decide (X.getD j 0 ≤ Y.getD j 0)).all id = leB n X Y from rfl]
        cases c : leB n X Y with
        | true =>
          refine ifF (by decide) ?_
          exact ⟨S2.trans sg, (cont.1 c).1, (cont.1 c).2, _, _, _, _, rfl⟩
        | false =>
          refine ifT (by decide) ?_
          have := k G (S2.trans sg)
          rw [cont.2 c] at this
          exact this
    · rintro σ H' ⟨sm, g1, g2, t2, t3, t4, t5, rfl⟩
      have := k H' sm
      rw [g1 (by decide), g2 (by decide)] at this
      exact this
end
end Cn
namespace Cn
open PySem PySem.Spec PyProof.Rows L2 Ck
/-! all plans of a row -/
def lastL (lv : List Nat) : Nat := lv.getD (lv.length - 1) 0
def lvsR (lv : List Nat) (m : Nat) : List (List Nat) := (List.range m).map fun a => lv ++ [a + 1]
def stepR (lv : List Nat) : List (List Nat) := lvsR lv (lastL lv + 1)
def rowsL : Nat → List (List Nat)
  | 0 => [[1]]
  | i + 1 => (rowsL i).flatMap stepR
theorem rowPl_one : RowPl [1] := ⟨fun i hi => (by
  have : i < 1 := hi
  rw [show i = 0 from by omega]
  exact Nat.le_refl _), fun _ => rfl, fun i hi => (by have : i + 1 < 1 := hi; omega)⟩
theorem rowsL_ok : ∀ (i : Nat) {lv : List Nat}, lv ∈ rowsL i → RowPl lv ∧ lv.length = i + 1
  | 0, lv, h => by rw [List.mem_singleton.mp h]; exact ⟨rowPl_one, rfl⟩
  | i + 1, lv, h => by
    obtain ⟨lv0, h0, h1⟩ := List.mem_flatMap.mp h
    obtain ⟨a, ha, rfl⟩ := List.mem_map.mp h1
    obtain ⟨p, l⟩ := rowsL_ok i h0
    have := List.mem_range.mp ha
    refine ⟨rowPl_snoc p (fun z => by rw [z] at l; cases l) (by omega) ?_, by rw [List.length_append, l]; rfl⟩
    show a + 1 ≤ lastL lv0 + 1
    omega
theorem rowsL_all : ∀ (i : Nat) {lv : List Nat}, RowPl lv → lv.length = i + 1 → lv ∈ rowsL i
  | 0, lv, h, hl => by
    have f := h.first (fun z => by rw [z] at hl; cases hl)
    match lv, hl with
    | [x], _ =>
      have f : x = 1 := f
      rw [f]; exact List.mem_singleton.mpr rfl
  | i + 1, lv, h, hl => by
    rcases List.eq_nil_or_concat lv with rfl | ⟨ys, l, rfl⟩
    · cases hl
    · rw [List.concat_eq_append] at h hl ⊢
      rw [List.length_append] at hl
      have hl : ys.length = i + 1 := by have : ys.length + 1 = i + 1 + 1 := hl; omega
      have gl : ∀ j, j < ys.length → (ys ++ [l]).getD j 0 = ys.getD j 0 := fun j hj => by
        rw [List.getD_eq_getElem?_getD, List.getD_eq_getElem?_getD, List.getElem?_append_left hj]
      have gr : (ys ++ [l]).getD ys.length 0 = l := by
        rw [List.getD_eq_getElem?_getD, List.getElem?_append_right (Nat.le_refl _), Nat.sub_self]; rfl
      have le : (ys ++ [l]).length = ys.length + 1 := by rw [List.length_append]; rfl
      have p : RowPl ys := ⟨fun j hj => by rw [← gl j hj]; exact h.one j (by omega), fun _ => by rw [← gl 0 (by omega)]; exact h.first (by simp), fun j hj => by rw [← gl _ hj, ← gl j (by omega)]; exact h.next j (by omega)⟩
      have h1 := h.one ys.length (by omega)
      have h2 := h.next (ys.length - 1) (by omega)
      rw [show ys.length - 1 + 1 = ys.length from by omega, gr, gl _ (by omega)] at h2
      rw [gr] at h1
      refine List.mem_flatMap.mpr ⟨ys, rowsL_all i p hl, List.mem_map.mpr ⟨l - 1, List.mem_range.mpr ?_, by rw [show l - 1 + 1 = l from by omega]⟩⟩
      show l - 1 < lastL ys + 1
      unfold lastL
      omega
theorem flatLe {α β : Type} {f : α → List β} {c : Nat} : ∀ {xs : List α}, (∀ x ∈ xs, (f x).length ≤ c) → (xs.flatMap f).length ≤ xs.length * c
  | [], _ => Nat.zero_le _
  | x :: xs, h => by
    have h1 := h x (List.mem_cons_self)
    have h2 := flatLe (xs := xs) (f := f) (c := c) fun y hy => h y (List.mem_cons_of_mem _ hy)
    rw [List.flatMap_cons, List.length_append, List.length_cons, Nat.add_one_mul]
    omega
theorem lastL_le {lv : List Nat} {i : Nat} (p : RowPl lv) (l : lv.length = i + 1) : lastL lv ≤ i + 1 := by
  have := rowPl_le p (lv.length - 1) (by omega)
  unfold lastL
  omega
theorem rowsL_few : ∀ {i : Nat}, i ≤ 4 → (rowsL i).length ≤ 120 := by
  have step : ∀ i, (rowsL (i + 1)).length ≤ (rowsL i).length * (i + 2) := fun i => flatLe fun lv h => by
    obtain ⟨p, l⟩ := rowsL_ok i h
    have := lastL_le p l
    show ((List.range (lastL lv + 1)).map _).length ≤ _
    rw [List.length_map, List.length_range]
    omega
  have h0 : (rowsL 0).length = 1 := rfl
  have h1 : (rowsL 1).length ≤ (rowsL 0).length * 2 := step 0
  have h2 : (rowsL 2).length ≤ (rowsL 1).length * 3 := step 1
  have h3 : (rowsL 3).length ≤ (rowsL 2).length * 4 := step 2
  have h4 : (rowsL 4).length ≤ (rowsL 3).length * 5 := step 3
  intro i hi
  match i, hi with
  | 0, _ => omega
  | 1, _ => omega
  | 2, _ => omega
  | 3, _ => omega
  | 4, _ => omega
  | n + 5, h => omega
theorem pairedGetR {α β : Type} {F : α → β → Prop} : ∀ {xs : List α} {ys : List β} {i : Nat} {x : α}, Paired F xs ys → xs[i]? = some x → ∃ y, ys[i]? = some y ∧ F x y
  | _, _, i, x, .nil, h => by rw [List.getElem?_nil] at h; cases h
  | _, _, 0, x, .cons a t, h => by cases h; exact ⟨_, rfl, a⟩
  | _, _, i + 1, x, .cons a t, h => by
    rw [List.getElem?_cons_succ] at h
    obtain ⟨y, h1, h2⟩ := pairedGetR t h
    exact ⟨y, by rw [List.getElem?_cons_succ]; exact h1, h2⟩
def RwR (H : Hp) : List V → List (List Nat) → Prop := Paired fun v lv => ∃ q, v = V.ref q ∧ TN H q lv
theorem rwSame {H H' : Hp} (s : Same H H') {us : List V} {ls : List (List Nat)} (h : RwR H us ls) : RwR H' us ls := Paired.mapP h fun _ _ ⟨q, e, z⟩ => ⟨q, e, s _ _ z⟩
theorem rwUpd {H : Hp} {D : Addr} {o : HO} {xs us : List V} {ls : List (List Nat)} (hD : H D = some (.lst xs)) (h : RwR H us ls) : RwR (upd H D o) us ls := Paired.mapP h fun _ _ ⟨q, e, z⟩ => ⟨q, e, by
  have z' : H q = _ := z
  show upd H D o q = _
  rw [upd_ne (fun y => by rw [y, hD] at z'; cases z')]
  exact z'⟩
section
variable {P : Program} {w : World} {K : PySem.W.Frag} {mg : Str → Option Value} {base : Heap} {C : Addr}
def spRows : Sp := fun vs H Q _ => ∃ (n : Nat), vs = [vn n] ∧ 1 ≤ n ∧ n ≤ 5 ∧ ∀ r us H', Same H H' → H' r = some (.lst us) → RwR H' us (rowsL (n - 1)) → Q (.ref r) H'
def nRows : List Str := ["_law_places", "_law_found", "_law_place", "_law_later", "_law_plan", "_law_level"]
theorem scRows : FnScope nRows ["_law_places"] (defScope sPlans) := ⟨rfl, rfl, rfl, by decide +kernel, rfl, by decide +kernel, by decide +kernel⟩
theorem dRows (B : Defs K mg C) : Def P w K mg base "_law_plans" 1 ["_law_places"] spRows := by
  have N := nOf B
  have nd := scRows.nd
  refine def_of B.plans fun f fd F => ?_
  refine F.ok scRows (fun vs H Q E h => ?_) (fun cdv A outer s H vs Q E hr h => ?_)
  · obtain ⟨n, rfl, _⟩ := h
    rfl
  · obtain ⟨n, rfl, n1, n5, k⟩ := h
    refine ⟨_, pss_cons (ps_set (i := 1) nd rfl (Or.inl rfl) (pe_lst (pa_cons (pe_tup (pa_cons pe_int pa_nil)) pa_nil)))
      (pss_cons (ps_for PassesOwn.never rfl (pi_range2 (by rfl) N.range (pa_cons pe_int (pa_cons (pv 0) pa_nil))) (pg_name (i := 2) nd rfl (Or.inl rfl))
        (pss_cons (ps_set (i := 3) nd rfl (Or.inl rfl) (pe_lst pa_nil))
        (pss_cons (ps_for PassesOwn.never rfl (pi_list (pv 1)) (pg_name (i := 4) nd rfl (Or.inr rfl))
          (pss_one (ps_expr (pe_bm PySem.F.plainAttrs_list PySem.F.slot_list_extend PySem.F.type_list_extend mt_extend (pv 3) (pa_cons (pe_lc (own := [("_law_level", 5)]) (g := gName 5) (tt := tYes) (te := tOp (rCatA K) (tVar 4) (tTup (tCons (tVar 5) tNil))) rfl nd (pi_range2 (by rfl) N.range (pa_cons pe_int (pa_cons (pe_op op_add (pe_ix ix_tup (pv 4) (pe_un un_neg pe_int) (fun _ _ => rfl)) pe_int) pa_nil)))
            (blkOk_by (N := nRows) (sc := defScope sPlans) (by decide +kernel)) (fun _ _ _ _ _ => pg_name (i := 5) nd rfl (Or.inl rfl)) (fun _ _ _ _ _ => pts_nil) (fun _ _ _ _ _ => pe_op (r := rCatA K) op_catA (pv 4) (pe_tup (pa_cons (pv 5) pa_nil)))) pa_nil)))))
        (pss_one (ps_set (i := 1) nd rfl (Or.inl rfl) (pv 3))))))
      (pss_one (ps_ret (pv 1)))), ?_⟩
    refine ⟨by show 1 ≤ sizeLine; decide, fun t0 nt0 => ⟨by show 1 ≤ sizeLine; decide, fun D0 nD0 => ?_⟩⟩
    have S0 := smUpd (o := .tup [V.int 1]) nt0
    have ht0 : TN (upd H t0 (.tup [V.int 1])) t0 [1] := upd_same
    generalize upd H t0 (.tup [V.int 1]) = H1 at S0 nD0 ht0 ⊢
    have S1 := S0.trans (smUpd (o := .lst [.ref t0]) nD0)
    have hD1 : upd H1 D0 (.lst [.ref t0]) D0 = some (.lst [.ref t0]) := upd_same
    have ht1 : TN (upd H1 D0 (.lst [.ref t0])) t0 [1] := smUpd (o := .lst [.ref t0]) nD0 _ _ ht0
    generalize upd H1 D0 (.lst [.ref t0]) = H2 at S1 hD1 ht1 ⊢
    refine ⟨_, rfl, 1, (n : Int), rfl, ⟨by omega, by omega, by omega, by omega⟩, ?_⟩
    refine for_range (lo := 1) (n := ((n : Int) - 1).toNat) (fun i σ H' => Same H H' ∧ ∃ (D : Addr) (us : List V) (t2 t3 t4 t5 : Option V), σ = [some (vn n), some (.ref D), t2, t3, t4, t5] ∧ H' D = some (.lst us) ∧ RwR H' us (rowsL i)) ⟨S1, D0, _, none, none, none, none, rfl, hD1, .cons ⟨t0, rfl, ht1⟩ .nil⟩ ?_ ?_
    · rintro i σ H3 hi ⟨sm, D, us, t2, t3, t4, t5, rfl, hD, hU⟩
      have few := rowsL_few (i := i) (by omega)
      have few1 : ((rowsL i).flatMap stepR).length ≤ 120 := rowsL_few (i := i + 1) (by omega)
      have hul : us.length = (rowsL i).length := Paired.length hU
      refine ⟨by show 0 ≤ sizeLine; decide, fun L nL => ?_⟩
      have SL := smUpd (o := .lst []) nL
      have hLL : upd H3 L (.lst []) L = some (.lst []) := upd_same
      generalize upd H3 L (.lst []) = H4 at SL hLL ⊢
      refine ⟨_, rfl, D, rfl, ⟨_, .inl (.inl (SL _ _ hD))⟩, ?_⟩
      refine for_it (walk_list (K := K) (xs := us)) (fun j σ H' => Same H3 H' ∧ ∃ (ws : List V) (t4 t5 : Option V), σ = [some (vn n), some (.ref D), some (.int (1 + (i : Int))), some (.ref L), t4, t5] ∧ H' L = some (.lst ws) ∧ RwR H' ws (((rowsL i).take j).flatMap stepR)) ⟨SL, [], _, _, rfl, hLL, .nil⟩ (fun j σ H' _ z => .inl (.inl (z.1 _ _ hD))) ?_ ?_
      · rintro j x σ H5 H6 hj ⟨sm5, ws, t4, t5, rfl, hL, hW⟩ ⟨rfl, hx2⟩
        obtain ⟨lv, hlv, t, rfl, ht0⟩ := pairedGetR hU hx2
        have ht : TN H6 t lv := sm5 _ _ ht0
        obtain ⟨p, pl⟩ := rowsL_ok i (List.mem_of_getElem? hlv)
        have ne : lv ≠ [] := fun z => by rw [z] at pl; cases pl
        have eL : lv.getLast ne = lastL lv := by
          rw [List.getLast_eq_getElem]
          exact (getD_of (List.getElem?_eq_getElem _)).symm
        have lle := lastL_le p pl
        have hwl : ws.length = (((rowsL i).take j).flatMap stepR).length := Paired.length hW
        have e1 : ((rowsL i).take (j + 1)).flatMap stepR = ((rowsL i).take j).flatMap stepR ++ stepR lv := by
          rw [List.take_add_one, hlv, List.flatMap_append]
          show _ ++ ([lv].flatMap stepR) = _
          rw [List.flatMap_cons, List.flatMap_nil, List.append_nil]
        have fl : (((rowsL i).take (j + 1)).flatMap stepR).length ≤ 120 := by
          have := congrArg (fun z => (List.flatMap stepR z).length) (List.take_append_drop (j + 1) (rowsL i))
          have h2 : (List.flatMap stepR ((rowsL i).take (j + 1) ++ (rowsL i).drop (j + 1))).length = ((rowsL i).flatMap stepR).length := this
          rw [List.flatMap_append, List.length_append] at h2
          omega
        rw [e1, List.length_append] at fl
        refine ⟨_, rfl, .inl ⟨rfl, _, .inl (.inl hL)⟩, _, rfl, _, rfl, t, _, (-1 : Int), _, rfl, rfl, tnL ht, vn_last ne eL, _, _, rfl, rfl, 1, _, rfl, ⟨by decide, by decide, by omega, by omega⟩, fun E nE => ?_⟩
        rw [show (((lastL lv : Nat) : Int) + 2 - 1).toNat = lastL lv + 1 from by omega]
        refine lc_range (lo := 1) (n := lastL lv + 1) (fun a H' => Same H6 H' ∧ ∃ zs, H' E = some (.lst zs) ∧ RwR H' zs (lvsR lv a)) ⟨smUpd nE, [], upd_same, .nil⟩ ?_ ?_
        · rintro a H7 ha ⟨s7, zs, hE, hZ⟩
          have hzl : zs.length = (lvsR lv a).length := Paired.length hZ
          unfold lvsR at hzl
          rw [List.length_map, List.length_range] at hzl
          refine ⟨rfl, _, rfl, _, rfl, by show 1 ≤ sizeLine; decide, fun u nu => ?_⟩
          have S6 := smUpd (o := .tup [.int (1 + (a : Int))]) nu
          refine catA (S6 _ _ (s7 _ _ ht)) upd_same (by rw [List.length_map, pl]; show i + 1 + 1 ≤ 1000; omega) fun e H8 s8 he => ?_
          have s78 := S6.trans s8
          have hE8 := s78 _ _ hE
          refine ⟨zs, hE8, small1000 (by omega), smOver nE (s7.trans s78), _, upd_same, ?_⟩
          have el : lvsR lv (a + 1) = lvsR lv a ++ [lv ++ [a + 1]] := by unfold lvsR; rw [List.range_succ, List.map_append]; rfl
          rw [el]
          refine rwUpd hE8 (pairedSnoc (rwSame s78 hZ) ⟨e, rfl, tnAt he ?_⟩)
          rw [List.map_append]
          show _ ++ [V.int (1 + (a : Int))] = _ ++ [V.int (((a + 1 : Nat)) : Int)]
          rw [show (((a + 1 : Nat)) : Int) = 1 + (a : Int) from by omega]
        · rintro H7 ⟨s7, zs, hE, hZ⟩
          have hL7 := s7 _ _ hL
          have hzl : zs.length = (stepR lv).length := Paired.length hZ
          refine ⟨L, E, ws, zs, rfl, rfl, hL7, hE, Nat.le_of_lt (small1000 (by omega)), ?_⟩
          refine ⟨smOver nL (sm5.trans s7), ws ++ zs, _, _, rfl, upd_same, ?_⟩
          rw [e1]
          exact rwUpd hL7 (pairedApp (rwSame s7 hW) hZ)
      · rintro σ H5 ⟨sm5, ws, t4, t5, rfl, hL, hW⟩
        rw [hul, List.take_length] at hW
        exact ⟨_, rfl, sm.trans sm5, L, ws, _, _, _, _, rfl, hL, hW⟩
    · rintro σ H3 ⟨sm, D, us, t2, t3, t4, t5, rfl, hD, hU⟩
      rw [show ((n : Int) - 1).toNat = n - 1 from by omega] at hU
      exact ⟨_, rfl, k D us H3 sm hD hU⟩
end
end Cn
namespace Ck
theorem rowPl_tree : ∀ t : Tr, (∀ i, i < t.size → 1 ≤ (lvT t).getD i 0) ∧ (0 < t.size → (lvT t).getD 0 0 = 1) ∧ ∀ i, i + 1 < t.size → (lvT t).getD (i + 1) 0 ≤ (lvT t).getD i 0 + 1
  | .leaf => ⟨fun i h => absurd h (Nat.not_lt_zero _), fun h => absurd h (Nat.not_lt_zero _), fun i h => absurd h (Nat.not_lt_zero _)⟩
  | .node a b => by
    have es : Tr.size (.node a b) = a.size + 1 + b.size := rfl
    obtain ⟨a1, a2, a3⟩ := rowPl_tree a
    obtain ⟨b1, b2, b3⟩ := rowPl_tree b
    rw [es]
    refine ⟨fun i hi => ?_, fun _ => ?_, fun i hi => ?_⟩
    · by_cases c : i < a.size
      · rw [lv_l c]; exact a1 i c
      · by_cases d : i = a.size
        · rw [d, lv_m]; exact Nat.le_refl _
        · obtain ⟨j, rfl⟩ : ∃ j, i = a.size + 1 + j := ⟨i - (a.size + 1), by omega⟩
          rw [lv_r (by omega)]; omega
    · by_cases c : 0 < a.size
      · rw [lv_l c]; exact a2 c
      · have e : a.size = 0 := by omega
        have := lv_m (a := a) (b := b)
        rw [e] at this
        exact this
    · by_cases c : i + 1 < a.size
      · rw [lv_l c, lv_l (show i < a.size by omega)]; exact a3 i c
      · by_cases d : i + 1 = a.size
        · rw [d, lv_m]; omega
        · by_cases e : i = a.size
          · subst e
            have := lv_r (a := a) (b := b) (j := 0) (by omega)
            rw [show a.size + 1 + 0 = a.size + 1 from rfl] at this
            rw [this, lv_m, b2 (by omega)]; omega
          · obtain ⟨j, rfl⟩ : ∃ j, i = a.size + 1 + j := ⟨i - (a.size + 1), by omega⟩
            have h1 := lv_r (a := a) (b := b) (j := j + 1) (by omega)
            rw [show a.size + 1 + (j + 1) = a.size + 1 + j + 1 from rfl] at h1
            rw [h1, lv_r (show j < b.size by omega)]
            have := b3 j (by omega)
            omega
theorem rowPl_lvT (t : Tr) : RowPl (lvT t) := by
  obtain ⟨a, b, c⟩ := rowPl_tree t
  have e := lvT_len t
  exact ⟨fun i hi => a i (by omega), fun ne => b (by have := List.length_pos_iff.mpr ne; omega), fun i hi => c i (by omega)⟩
end Ck
namespace Cn
open PySem PySem.Spec PyProof.Rows L2 Ck
def keepB (T R lv : List Nat) : Bool := leB lv.length (tcl (rpGo lv 0 [] fun _ => 0).2 lv.length) T && leB lv.length lv R
theorem tcl_getD {g : Nat → Nat} {n j : Nat} (h : j < n) : (tcl g n).getD j 0 = g j := by
  unfold tcl
  rw [List.getD_eq_getElem?_getD, List.getElem?_map, List.getElem?_range h]; rfl
theorem keep_tree {T R : List Nat} {n : Nat} (B : BuOk n T R) {t : Tr} (hs : t.size = n) : keepB T R (lvT t) = true ↔ OkT T R t 0 0 0 := by
  have el : (lvT t).length = n := by rw [lvT_len, hs]
  unfold keepB
  rw [Bool.and_eq_true, leB_iff, leB_iff, el]
  constructor
  · rintro ⟨h1, h2⟩
    refine okT_of (fun j hj => ?_) (fun j hj => ?_) (.inl rfl) (.inl (by rw [B.t, hs]; omega))
    · have := h1 j (by omega)
      rw [tcl_getD (by omega), rp_top] at this
      rw [Nat.zero_add, Nat.add_zero]; exact this
    · have := h2 j (by omega)
      rw [Nat.zero_add, Nat.add_zero]; exact this
  · intro h
    have q := okT_to (by rw [B.t, hs]; omega) h
    refine ⟨fun j hj => ?_, fun j hj => ?_⟩
    · have := (q j (by omega)).1
      rw [Nat.zero_add, Nat.add_zero] at this
      rw [tcl_getD hj, rp_top]; exact this
    · have := (q j (by omega)).2
      rw [Nat.zero_add, Nat.add_zero] at this
      exact this
theorem keep_any {T R : List Nat} {n : Nat} (B : BuOk n T R) : ((rowsL (n - 1)).map (keepB T R)).any id = decide ((n : Int) ≤ rv T R 0 0 0) := by
  have n1 := B.n1
  rw [Bool.eq_iff_iff, decide_eq_true_iff, List.any_eq_true]
  constructor
  · rintro ⟨x, hx, hk⟩
    obtain ⟨lv, h1, rfl⟩ := List.mem_map.mp hx
    obtain ⟨p, l⟩ := rowsL_ok _ h1
    obtain ⟨t, rfl⟩ := tree_of _ lv (Nat.le_refl _) p
    have hs : t.size = n := by rw [lvT_len] at l; omega
    have o := (keep_tree B hs).mp hk
    have := rv_far B _ (Nat.le_refl _) (⟨Nat.zero_le _, by omega, by omega, fun _ => by omega⟩ : KOk n 0 0 0) (by omega) o
    rw [hs, Nat.zero_add] at this
    exact this
  · intro h
    obtain ⟨_, sz, o⟩ := trW_all B h
    exact ⟨_, List.mem_map.mpr ⟨_, rowsL_all (n - 1) (rowPl_lvT (trW T R (0, 0, 0, n))) (by rw [lvT_len, sz]; omega), rfl⟩, (keep_tree B sz).mpr o⟩
section
variable {P : Program} {w : World} {K : PySem.W.Frag} {mg : Str → Option Value} {base : Heap} {C : Addr}
def nLaw : List Str := ["_law_script", "_law_hand_here", "_law_sort", "_law_places", "_law_budgets_here", "_law_forest", "_law_found", "_law_least_here", "_law_told", "_law_plan"]
theorem scLaw : FnScope nLaw ["_law_script"] (defScope sLaw) := ⟨rfl, rfl, rfl, by decide +kernel, rfl, by decide +kernel, by decide +kernel⟩
theorem ok_law {f : Addr} {fd : FuncData} (F : Fun K "law" "law" sLaw f fd) (B : Defs K mg C) : FnOk P w K mg base CX0 129 f fd ["_law_script"] (spLaw K) := by
  obtain ⟨fH, fdH, GH, gH, kH, bH⟩ := dHand (P := P) (w := w) (base := base) B
  obtain ⟨fD, fdD, GD, gD, kD, bD⟩ := dDraw (P := P) (w := w) (base := base) B
  obtain ⟨fS, fdS, GS, gS, kS, bS⟩ := dSmall (P := P) (w := w) (base := base) B
  obtain ⟨fU, fdU, GU, gU, kU, bU⟩ := dLBudgets (P := P) (w := w) (base := base) B
  obtain ⟨fQ, fdQ, GQ, gQ, kQ, bQ⟩ := dRowPoint (P := P) (w := w) (base := base) B
  obtain ⟨fL, fdL, GL, gL, kL, bL⟩ := dRowPlan (P := P) (w := w) (base := base) B
  obtain ⟨fW, fdW, GW, gW, kW, bW⟩ := dRow (P := P) (w := w) (base := base) B
  obtain ⟨fR, fdR, GR, gR, kR, bR⟩ := dReaches (P := P) (w := w) (base := base) B
  obtain ⟨fJ, fdJ, GJ, gJ, kJ, bJ⟩ := dLIsReaches (P := P) (w := w) (base := base) B
  obtain ⟨fI, fdI, GI, gI, kI, bI⟩ := dIsReaches (P := P) (w := w) (base := base) B
  obtain ⟨fE, fdE, GE, gE, kE, bE⟩ := dLLeast (P := P) (w := w) (base := base) B
  obtain ⟨fP, fdP, GP, gP, kP, bP⟩ := dPlanWithin (P := P) (w := w) (base := base) B
  obtain ⟨fA, fdA, GA, gA, kA, bA⟩ := dLIsPlan (P := P) (w := w) (base := base) B
  obtain ⟨fK, fdK, GK, gK, kK, bK⟩ := dKeeps (P := P) (w := w) (base := base) B
  obtain ⟨fY, fdY, GY, gY, kY, bY⟩ := dRows (P := P) (w := w) (base := base) B
  have N := nOf B
  have nd := scLaw.nd
  refine F.ok scLaw (fun vs H Q E h => ?_) (fun cdv A outer s H vs Q E hr h => ?_)
  · obtain ⟨a, ns, rfl, _⟩ := h
    rfl
  · obtain ⟨a, ns, rfl, hs, hl, k⟩ := h
    have h1 : Room 1 (A.deeper (envOfC "law" (defScope sLaw) s.heap.objs.size f cdv)) := Room.mono hr (by decide)
    have h2 : Room 2 (A.deeper (envOfC "law" (defScope sLaw) s.heap.objs.size f cdv)) := Room.mono hr (by decide)
    have h3 : Room 3 (A.deeper (envOfC "law" (defScope sLaw) s.heap.objs.size f cdv)) := Room.mono hr (by decide)
    have h6 : Room 6 (A.deeper (envOfC "law" (defScope sLaw) s.heap.objs.size f cdv)) := Room.mono hr (by decide)
    have h9 : Room 9 (A.deeper (envOfC "law" (defScope sLaw) s.heap.objs.size f cdv)) := Room.mono hr (by decide)
    have h125 : Room 125 (A.deeper (envOfC "law" (defScope sLaw) s.heap.objs.size f cdv)) := Room.mono hr (by decide)
    have h126 : Room 126 (A.deeper (envOfC "law" (defScope sLaw) s.heap.objs.size f cdv)) := Room.mono hr (by decide)
    have hu : (A.deeper (envOfC "law" (defScope sLaw) s.heap.objs.size f cdv)).units + 1 < cLine := by have := hr.units; omega
    refine ⟨_, pss_cons (ps_set (i := 1) nd rfl (Or.inl rfl) (pe_call GH h1 (by rfl) gH kH bH .nil pass0 (pa_cons (pv 0) pa_nil)))
      (pss_cons (ps_set (i := 2) nd rfl (Or.inl rfl) (pe_call GD h1 (by rfl) gD kD bD .nil pass0 (pa_cons (pv 1) (pa_cons pe_int pa_nil))))
      (pss_cons (ps_set (i := 3) nd rfl (Or.inl rfl) (pe_op op_add pe_int (pe_call GD h1 (by rfl) gD kD bD .nil pass0 (pa_cons (pv 1) (pa_cons (pe_ix ix_list (pe_lst (pa_cons pe_int (pa_cons pe_int (pa_cons pe_int (pa_cons pe_int pa_nil))))) (pv 2) (fun _ _ => rfl)) pa_nil)))))
      (psMid (ps_if (pt_cmpR op_lt (pv 2) pe_int (nomark _))
          (pss_one (ps_set (i := 4) nd rfl (Or.inr rfl) (pe_call GS h2 (by rfl) gS kS bS .nil pass0 (pa_cons (pv 1) (pa_cons (pv 3) pa_nil)))))
          (pss_one (ps_set (i := 4) nd rfl (Or.inr rfl) (pe_call GU h2 (by rfl) gU kU bU .nil pass0 (pa_cons (pv 1) (pa_cons (pv 3) (pa_cons (pe_lst (pa_cons (pe_call GQ h1 (by rfl) gQ kQ bQ .nil pass0 (pa_cons (pe_call GL h2 (by rfl) gL kL bL .nil pass0 (pa_cons (pv 1) (pa_cons (pv 3) pa_nil))) pa_nil)) pa_nil)) pa_nil)))))))
      (pss_cons (ps_set (i := 5) nd rfl (Or.inl rfl) (pe_call GW h6 (by rfl) gW kW bW .nil pass0 (pa_cons (pv 3) pa_nil)))
      (pss_cons (ps_set (i := 6) nd rfl (Or.inl rfl) (pe_call GR h126 (by rfl) gR kR bR .nil pass0 (pa_cons (pv 5) (pa_cons (pv 4) pa_nil))))
      (pss_cons (ps_if (PW.pt (pw_or (pt_not (pt_val (pe_call GJ h3 (by rfl) gJ kJ bJ .nil pass0 (pa_cons (pv 4) (pa_cons (pv 6) pa_nil)))))
          (pw_or1 (pt_cmpR op_isnot_bl (pe_call GI h9 (by rfl) gI kI bI .nil pass0 (pa_cons (pv 5) (pa_cons (pv 4) (pa_cons (pv 6) pa_nil)))) pe_bl (nomark _))))) (pss_one ps_never) pss_nil)
      (pss_cons (ps_set (i := 7) nd rfl (Or.inl rfl) (pe_call GE h125 (by rfl) gE kE bE .nil pass0 (pa_cons (pv 4) (pa_cons (pe_tup (pa_cons pe_int (pa_cons pe_int (pa_cons pe_int pa_nil)))) (pa_cons pe_dnewT pa_nil)))))
      (pss_cons (ps_if (pt_cmpR op_ne (pe_dget hu (pv 6) (pe_tup (pa_cons pe_int (pa_cons pe_int (pa_cons pe_int pa_nil)))) (fun _ _ => rfl)) (pv 7) (nomark _)) (pss_one ps_never) pss_nil)
      (pss_cons (ps_set (i := 8) nd rfl (Or.inl rfl) (pe_call GP hr (by rfl) gP kP bP .nil pass0 (pa_cons (pv 5) (pa_cons (pv 4) pa_nil))))
      (pss_cons (ps_if (pt_cmpR op_ne (pe_cmpR op_isN (pv 8) pe_non (nomark _)) (pe_cmpR op_lt (pv 7) (pv 3) (nomark _)) (nomark _)) (pss_one ps_never) pss_nil)
      (pss_cons (ps_if (PW.pt (pw_and (pt_cmpR op_notN (pv 8) pe_non (nomark _)) (pw_and1 (PW.pt (pw_or (pt_not (pt_val (pe_call GA h1 (by rfl) gA kA bA .nil pass0 (pa_cons (pv 8) (pa_cons (pv 3) pa_nil)))))
          (pw_or1 (pt_not (pt_val (pe_call GK h1 (by rfl) gK kK bK .nil pass0 (pa_cons (pe_call GQ h1 (by rfl) gQ kQ bQ .nil pass0 (pa_cons (pv 8) pa_nil)) (pa_cons (pv 4) pa_nil))))))))))) (pss_one ps_never) pss_nil)
      (pss_cons (ps_if (pt_cmpR op_gt (pv 3) pe_int (nomark _)) (pss_one (ps_ret pe_bl)) pss_nil)
      (pss_one (ps_ret (pe_cmpR op_eq (pe_cmpR op_notN (pv 8) pe_non (nomark _)) (pe_callB (r := rAny K) (cr_any rfl) (by rfl) B.zAny (by decide +kernel) (pa_cons (pe_lc (own := [("_law_plan", 9)]) (g := gName 9) (tt := tYes) rfl nd (pi_list (pe_call GY h1 (by rfl) gY kY bY .nil pass0 (pa_cons (pv 3) pa_nil)))
          (blkOk_by (N := nLaw) (sc := defScope sLaw) (by decide +kernel)) (fun _ _ _ _ _ => pg_name (i := 9) nd rfl (Or.inl rfl)) (fun _ _ _ _ _ => pts_nil)
          (fun _ _ _ _ _ => pe_call GK h1 (by rfl) gK kK bK .nil pass0 (pa_cons (pe_call GQ h1 (by rfl) gQ kQ bQ .nil pass0 (pa_cons (pv 9) pa_nil)) (pa_cons (pv 4) pa_nil)))) pa_nil)) (nomark _)))))))))))))))), ?_⟩
    refine ⟨_, rfl, a, ns, rfl, hs, hl, fun H1 p c cells s1 np nc hI => ?_⟩
    refine ⟨_, rfl, p, c, cells, 4, rfl, hI, by decide, by decide, fun so a1 a2 a3 a4 so0 so4 a10 => ?_⟩
    have hI2 := handIn_upd (i := a1) (g := a2) (m := a3) (t := a4) hI a10
    generalize upd H1 p (handL c a1 a2 a3 a4) = H2 at hI2 ⊢
    obtain ⟨m, m1, m60, hm⟩ : ∃ m : Int, 1 ≤ m ∧ m ≤ 60 ∧ atI [V.int 60, V.int 60, V.int 12, V.int 12] so = some (.int m) := by
      obtain ⟨j, rfl⟩ := Int.eq_ofNat_of_zero_le so0
      have hj : j < 4 := by omega
      match j, hj with
      | 0, _ => exact ⟨60, by decide, by decide, atI_nat (j := 0) rfl⟩
      | 1, _ => exact ⟨60, by decide, by decide, atI_nat (j := 1) rfl⟩
      | 2, _ => exact ⟨12, by decide, by decide, atI_nat (j := 2) rfl⟩
      | 3, _ => exact ⟨12, by decide, by decide, atI_nat (j := 3) rfl⟩
    refine ⟨_, rfl, by show 4 ≤ sizeLine; decide, fun M nM => ?_⟩
    have S3 := smUpd (o := .lst [V.int 60, V.int 60, V.int 12, V.int 12]) nM
    have hI3 := handIn_keep hI2 S3
    have hM3 : upd H2 M (.lst [V.int 60, V.int 60, V.int 12, V.int 12]) M = some (.lst [V.int 60, V.int 60, V.int 12, V.int 12]) := upd_same
    generalize upd H2 M (.lst [V.int 60, V.int 60, V.int 12, V.int 12]) = H3 at hI3 hM3 ⊢
    refine ⟨_, rfl, M, _, so, _, rfl, rfl, .inl (.inl hM3), hm, p, c, cells, m, rfl, hI3, by omega, by omega, fun d a1 a2 a3 a4 d0 dm a10 => ⟨_, _, rfl, rfl, ?_⟩⟩
    have hI4 := handIn_upd (i := a1) (g := a2) (m := a3) (t := a4) hI3 a10
    generalize upd H3 p (handL c a1 a2 a3 a4) = H4 at hI4 ⊢
    obtain ⟨n, en, n1, n60⟩ : ∃ n : Nat, (1 : Int) + d = (n : Int) ∧ 1 ≤ n ∧ n ≤ 60 := ⟨(1 + d).toNat, by omega, by omega, by omega⟩
    have ev : V.int (1 + d) = vn n := congrArg V.int en
    refine ⟨fun σ G => ∃ (b : Addr) (T R : List Nat), σ = [some (.ref a), some (.ref p), some (.int so), some (vn n), some (.ref b), none, none, none, none, none] ∧ BuAt G b T R ∧ BuOk n T R, ?_, ?_⟩
    · refine ⟨_, rfl, _, _, rfl, rfl, _, rfl, ?_⟩
      by_cases cs : so < 2
      · refine ifT (decide_eq_true cs) ?_
        refine ⟨_, rfl, _, rfl, p, c, cells, n, congrArg (fun z => [V.ref p, z]) ev, hI4, n1, n60, fun b T R G ok hG kG hb => ?_⟩
        exact ⟨b, T, R, congrArg (fun z => [some (V.ref a), some (V.ref p), some (V.int so), some z, some (V.ref b), none, none, none, none, none]) ev, hb, ok⟩
      · refine ifF (fun z => cs (of_decide_eq_true z)) ?_
        refine ⟨_, rfl, _, rfl, _, rfl, _, rfl, p, c, cells, n, congrArg (fun z => [V.ref p, z]) ev, hI4, n1, n60, fun r lv G hv hl hG kG hr => ?_⟩
        refine ⟨r, lv, rfl, hr, hv, by omega, fun b0 G2 s2 hb0 => ⟨by show 1 ≤ sizeLine; decide, fun L nL => ?_⟩⟩
        have SL := smUpd (o := .lst [.ref b0]) nL
        refine ⟨p, c, L, b0, cells, n, _, lv, congrArg (fun z => [V.ref p, z, V.ref L]) ev, handIn_keep (handIn_keep hG s2) SL, n1, n60, upd_same, buSame SL hb0, by rw [show (tcl (rpGo lv 0 [] fun _ => 0).2 lv.length).length = lv.length from by unfold tcl; rw [List.length_map, List.length_range], hl], hl, fun b T R G3 ok hG3 kG3 hb => ?_⟩
        exact ⟨b, T, R, congrArg (fun z => [some (V.ref a), some (V.ref p), some (V.int so), some z, some (V.ref b), none, none, none, none, none]) ev, hb, ok⟩
    · rintro σ G ⟨b, T, R, rfl, hb, ok⟩
      refine ⟨_, rfl, n, rfl, n1, n60, fun a2 G2 s2 hF2 => ?_⟩
      have hb2 := buSame s2 hb
      refine ⟨_, rfl, _, rfl, a2, b, n, T, R, rfl, hF2, hb2, ok, fun d ks G3 s3 dn hd hG hm => ?_⟩
      have hb3 := buSame s3 hb2
      have hF3 := foAt_same s3 hF2
      refine ⟨_, rfl, _, rfl, b, d, n, T, R, ks, rfl, hb3, ok, hd, hG, hm, fun G4 s4 => ⟨true, rfl, ?_⟩⟩
      refine ifF (by decide) ?_
      have hb4 := buSame s4 hb3
      have hF4 := foAt_same s4 hF3
      have hd4 : RAt G4 d T R ks := s4 _ _ hd
      refine ⟨_, rfl, _, rfl, _, rfl, a2, b, d, n, T, R, ks, rfl, hF4, hb4, ok, hd4, hG, hm, fun G5 s5 => ⟨_, _, rfl, rfl, _, rfl, ?_⟩⟩
      refine ifF (by decide) ?_
      have hb5 := buSame s5 hb4
      have hF5 := foAt_same s5 hF4
      have hd5 : RAt G5 d T R ks := s5 _ _ hd4
      refine ⟨_, rfl, by show 3 ≤ sizeLine; decide, fun q nq => ?_⟩
      have S6 := smUpd (o := .tup [V.int 0, V.int 0, V.int 0]) nq
      have hq6 : TN (upd G5 q (.tup [V.int 0, V.int 0, V.int 0])) q [0, 0, 0] := by
        show upd G5 q _ q = _
        rw [upd_same]; rfl
      generalize upd G5 q (.tup [V.int 0, V.int 0, V.int 0]) = G6 at S6 hq6 ⊢
      intro e ne
      have S7 := S6.trans (smUpd (o := .dT []) ne)
      have hq7 := smUpd (o := .dT []) ne _ _ hq6
      have he7 : upd G6 e (.dT []) e = some (.dT []) := upd_same
      have e0 : G5 e = none := noneBack S6 ne
      generalize upd G6 e (.dT []) = G7 at S7 hq7 he7 ⊢
      refine ⟨b, q, e, n, 0, 0, 0, T, R, [], rfl, buSame S7 hb5, ok, hq7, ⟨Nat.zero_le _, by omega, by omega, fun _ => by omega⟩, by omega, he7, ⟨List.nodup_nil, fun k hk => (by cases hk), fun k hk => (by cases hk)⟩, fun ks' G8 k8 he8 hG8 _ hm8 => ?_⟩
      have s58 : Same G5 G8 := fun c o z => k8 c o (fun y => by rw [y, e0] at z; cases z) (S7 _ _ z)
      have hb8 := buSame s58 hb5
      have hF8 := foAt_same s58 hF5
      have hd8 : RAt G8 d T R ks := s58 _ _ hd5
      refine ⟨_, rfl, by show 3 ≤ sizeLine; decide, fun q9 nq9 => ?_⟩
      have S9 := smUpd (o := .tup [V.int 0, V.int 0, V.int 0]) nq9
      have hq9 : TN (upd G8 q9 (.tup [V.int 0, V.int 0, V.int 0])) q9 [0, 0, 0] := by
        show upd G8 q9 _ q9 = _
        rw [upd_same]; rfl
      have hb9 := buSame S9 hb8
      have hF9 := foAt_same S9 hF8
      have hd9 := S9 _ _ hd8
      generalize upd G8 q9 (.tup [V.int 0, V.int 0, V.int 0]) = G9 at hq9 hb9 hF9 hd9 ⊢
      refine ⟨d, _, rfl, rget (a := (0, 0, 0)) (.inl hd9) hq9 hm, _, rfl, rfl, _, rfl, ?_⟩
      refine ifF (by show ¬ (!decide (V.int (rv T R 0 0 0) = V.int (rv T R 0 0 0))) = true; rw [decide_eq_true rfl]; decide) ?_
      have any0 := keep_any ok
      have fin : ∀ (c : Bool) (G : Hp), c = true → Q (.bl c) G := fun c G e => e ▸ k G
      have anyR : ∀ (G : Hp) (u0 u1 u2 u5 u6 u7 u8 u9 : Option V) (Q' : VK), BuAt G b T R → n ≤ 5 → (∀ G', Q' (.bl (decide ((n : Int) ≤ rv T R 0 0 0))) G') →
          tCB (rAny K) (tCons (tLc (iList K (tCall spRows [] (fun _ _ _ => False) (tCons (tVar 3) tNil))) (gName 9) tYes (tCall spKeeps [] (fun _ _ _ => False) (tCons (tCall spRowPoint [] (fun _ _ _ => False) (tCons (tVar 9) tNil)) (tCons (tVar 4) tNil))) [9]) tNil) [u0, u1, u2, some (vn n), some (.ref b), u5, u6, u7, u8, u9] G Q' := by
        intro G u0 u1 u2 u5 u6 u7 u8 u9 Q' hb n5 kq
        refine ⟨_, rfl, n, rfl, n1, n5, fun r us G2 s2 hr hU => ⟨r, rfl, ⟨_, .inl (.inl hr)⟩, fun D nD => ?_⟩⟩
        have few := rowsL_few (i := n - 1) (by omega)
        have hul : us.length = (rowsL (n - 1)).length := Paired.length hU
        refine lc_it (walk_list (K := K) (xs := us)) (fun i G' => Same G2 G' ∧ G' D = some (.lst ((((rowsL (n - 1)).take i).map (keepB T R)).map V.bl))) ⟨smUpd nD, upd_same⟩ (fun i G' _ z => .inl (.inl (z.1 _ _ hr))) ?_ ?_
        · rintro i x G3 G3' hi ⟨s3, hD⟩ ⟨rfl, hx⟩
          obtain ⟨lv, hlv, q, rfl, hq⟩ := pairedGetR hU hx
          obtain ⟨pl, l⟩ := rowsL_ok _ (List.mem_of_getElem? hlv)
          have l : lv.length = n := by omega
          refine ⟨rfl, _, rfl, q, lv, rfl, s3 _ _ hq, pl, by omega, fun r2 G4 s4 hB4 => ⟨_, rfl, r2, b, n, _, lv, T, R, rfl, hB4, buSame ((s2.trans s3).trans s4) hb, by unfold tcl; rw [List.length_map, List.length_range, l], l, ok.t, ok.r, n60, fun G5 s5 => ?_⟩⟩
          refine ⟨_, (s4.trans s5) _ _ hD, small6063 (by rw [List.length_map, List.length_map, List.length_take]; omega), smOver nD (s3.trans (s4.trans s5)), ?_⟩
          rw [upd_same, List.take_add_one, hlv, List.map_append, List.map_append]
          show _ = some (HO.lst (_ ++ [V.bl (keepB T R lv)]))
          unfold keepB
          rw [l]
        · rintro G3 ⟨s3, hD⟩
          rw [hul, List.take_length] at hD
          refine ⟨D, (rowsL (n - 1)).map (keepB T R), rfl, .inl (.inl hD), ?_⟩
          rw [any0]
          exact kq _
      refine ⟨_, rfl, _, rfl, a2, b, n, T, R, rfl, hF9, hb9, ok, fun c0 G10 s10 => ?_, fun c0 r G10 s10 hr => ?_⟩
      · refine ⟨_, rfl, rfl, _, rfl, _, rfl, _, _, rfl, rfl, rfl, _, rfl, ?_⟩
        refine ifF (by show ¬ (!decide (V.bl (decide (V.non = V.non)) = V.bl (decide (rv T R 0 0 0 < (n : Int))))) = true; rw [decide_eq_true c0]; decide) ?_
        refine ⟨_, rfl, rfl, _, rfl, ?_⟩
        refine ifF (by decide) ?_
        refine ifF (by decide) ?_
        refine ⟨_, rfl, _, _, rfl, rfl, _, rfl, ?_⟩
        by_cases c5 : (5 : Int) < n
        · refine ifT (decide_eq_true (by omega)) ?_
          exact k _
        · refine ifF (fun z => c5 (by have := of_decide_eq_true z; omega)) ?_
          refine ⟨_, rfl, rfl, anyR G10 _ _ _ _ _ _ _ _ _ (buSame s10 hb9) (by omega) fun G' => ⟨rfl, ?_⟩⟩
          refine fin _ _ (decide_eq_true ?_)
          rw [decide_eq_false (show ¬ ((n : Int) ≤ rv T R 0 0 0) by omega)]
          rfl
      · obtain ⟨_, sz, o⟩ := trW_all ok c0
        have kp := (keep_tree ok sz).mpr o
        have el : (lvT (trW T R (0, 0, 0, n))).length = n := by rw [lvT_len, sz]
        have pl := rowPl_lvT (trW T R (0, 0, 0, n))
        generalize lvT (trW T R (0, 0, 0, n)) = lv at hr kp el pl
        have dn0 : decide (V.ref r = V.non) = false := decide_eq_false fun z => nomatch z
        refine ⟨_, rfl, rfl, _, rfl, _, rfl, _, _, rfl, rfl, rfl, _, rfl, ?_⟩
        refine ifF (by show ¬ (!decide (V.bl (decide (V.ref r = V.non)) = V.bl (decide (rv T R 0 0 0 < (n : Int))))) = true; rw [dn0, decide_eq_false (show ¬ (rv T R 0 0 0 < (n : Int)) by omega)]; decide) ?_
        refine ⟨_, rfl, rfl, _, rfl, ?_⟩
        refine ifT (by rw [dn0]; rfl) ?_
        refine ⟨_, rfl, _, rfl, r, lv, congrArg (fun z : Nat => [V.ref r, vn z]) el.symm, hr, pl, by omega, by omega, fun G11 s11 => ⟨true, rfl, ?_⟩⟩
        refine ifF (by decide) ?_
        refine ⟨_, rfl, r, lv, rfl, s11 _ _ hr, pl, by omega, fun r2 G12 s12 hB12 => ⟨_, rfl, r2, b, n, _, lv, T, R, rfl, hB12, buSame ((s10.trans s11).trans s12) hb9, by unfold tcl; rw [List.length_map, List.length_range, el], el, ok.t, ok.r, n60, fun G13 s13 => ⟨_, rfl, ?_⟩⟩⟩
        have kp' : (leB n (tcl (rpGo lv 0 [] fun _ => 0).2 lv.length) T && leB n lv R) = true := by
          have z := kp
          unfold keepB at z
          rw [el] at z ⊢
          exact z
        rw [kp']
        refine ifF (by decide) ?_
        have hb13 := buSame (((s10.trans s11).trans s12).trans s13) hb9
        refine ⟨_, rfl, _, _, rfl, rfl, _, rfl, ?_⟩
        by_cases c5 : (5 : Int) < n
        · refine ifT (decide_eq_true (by omega)) ?_
          exact k _
        · refine ifF (fun z => c5 (by have := of_decide_eq_true z; omega)) ?_
          refine ⟨_, rfl, rfl, anyR G13 _ _ _ _ _ _ _ _ _ hb13 (by omega) fun G' => ⟨rfl, ?_⟩⟩
          refine fin _ _ (decide_eq_true ?_)
          rw [dn0, decide_eq_true c0]
          rfl
end
end Cn
namespace Cn
open PySem PySem.Spec PyProof.Rows L2 Ck
/-- all the facts of the top, and the law's own promise -/
theorem all_mk {P : Program} {w : World} {K : PySem.W.Frag} {h : Heap} {mg : Str → Option Value} {fa C : Addr} {tm tmMOST_BUDGET : Tok} (X : K.In h) (G : h.Ns mainGlobals mg) (hfa : mg "law" = some (.ref fa))
    {fd0 : Addr} {ocd0 kVd0 dcd0 pmd0 cdd0 ctd0 : Value} {odd0 and0 : Option Addr} {sld0 : Array (Option Value)}
    {fd1 : Addr} {ocd1 kVd1 dcd1 pmd1 cdd1 ctd1 : Value} {odd1 and1 : Option Addr} {sld1 : Array (Option Value)}
    {fd2 : Addr} {ocd2 kVd2 dcd2 pmd2 cdd2 ctd2 : Value} {odd2 and2 : Option Addr} {sld2 : Array (Option Value)}
    {fd3 : Addr} {ocd3 kVd3 dcd3 pmd3 cdd3 ctd3 : Value} {odd3 and3 : Option Addr} {sld3 : Array (Option Value)}
    {fd4 : Addr} {ocd4 kVd4 dcd4 pmd4 cdd4 ctd4 : Value} {odd4 and4 : Option Addr} {sld4 : Array (Option Value)}
    {fd5 : Addr} {ocd5 kVd5 dcd5 pmd5 cdd5 ctd5 : Value} {odd5 and5 : Option Addr} {sld5 : Array (Option Value)}
    {fd6 : Addr} {ocd6 kVd6 dcd6 pmd6 cdd6 ctd6 : Value} {odd6 and6 : Option Addr} {sld6 : Array (Option Value)}
    {fd7 : Addr} {ocd7 kVd7 dcd7 pmd7 cdd7 ctd7 : Value} {odd7 and7 : Option Addr} {sld7 : Array (Option Value)}
    {fd8 : Addr} {ocd8 kVd8 dcd8 pmd8 cdd8 ctd8 : Value} {odd8 and8 : Option Addr} {sld8 : Array (Option Value)}
    {fd9 : Addr} {ocd9 kVd9 dcd9 pmd9 cdd9 ctd9 : Value} {odd9 and9 : Option Addr} {sld9 : Array (Option Value)}
    {fd10 : Addr} {ocd10 kVd10 dcd10 pmd10 cdd10 ctd10 : Value} {odd10 and10 : Option Addr} {sld10 : Array (Option Value)}
    {fd11 : Addr} {ocd11 kVd11 dcd11 pmd11 cdd11 ctd11 : Value} {odd11 and11 : Option Addr} {sld11 : Array (Option Value)}
    {fd12 : Addr} {ocd12 kVd12 dcd12 pmd12 cdd12 ctd12 : Value} {odd12 and12 : Option Addr} {sld12 : Array (Option Value)}
    {fd13 : Addr} {ocd13 kVd13 dcd13 pmd13 cdd13 ctd13 : Value} {odd13 and13 : Option Addr} {sld13 : Array (Option Value)}
    {fd14 : Addr} {ocd14 kVd14 dcd14 pmd14 cdd14 ctd14 : Value} {odd14 and14 : Option Addr} {sld14 : Array (Option Value)}
    {fd15 : Addr} {ocd15 kVd15 dcd15 pmd15 cdd15 ctd15 : Value} {odd15 and15 : Option Addr} {sld15 : Array (Option Value)}
    {fd16 : Addr} {ocd16 kVd16 dcd16 pmd16 cdd16 ctd16 : Value} {odd16 and16 : Option Addr} {sld16 : Array (Option Value)}
    {fd17 : Addr} {ocd17 kVd17 dcd17 pmd17 cdd17 ctd17 : Value} {odd17 and17 : Option Addr} {sld17 : Array (Option Value)}
    {fd18 : Addr} {ocd18 kVd18 dcd18 pmd18 cdd18 ctd18 : Value} {odd18 and18 : Option Addr} {sld18 : Array (Option Value)}
    {fd19 : Addr} {ocd19 kVd19 dcd19 pmd19 cdd19 ctd19 : Value} {odd19 and19 : Option Addr} {sld19 : Array (Option Value)}
    {fd20 : Addr} {ocd20 kVd20 dcd20 pmd20 cdd20 ctd20 : Value} {odd20 and20 : Option Addr} {sld20 : Array (Option Value)}
    {fd21 : Addr} {ocd21 kVd21 dcd21 pmd21 cdd21 ctd21 : Value} {odd21 and21 : Option Addr} {sld21 : Array (Option Value)}
    {fd22 : Addr} {ocd22 kVd22 dcd22 pmd22 cdd22 ctd22 : Value} {odd22 and22 : Option Addr} {sld22 : Array (Option Value)}
    {fd23 : Addr} {ocd23 kVd23 dcd23 pmd23 cdd23 ctd23 : Value} {odd23 and23 : Option Addr} {sld23 : Array (Option Value)}
    {fd24 : Addr} {ocd24 kVd24 dcd24 pmd24 cdd24 ctd24 : Value} {odd24 and24 : Option Addr} {sld24 : Array (Option Value)}
    {fd25 : Addr} {ocd25 kVd25 dcd25 pmd25 cdd25 ctd25 : Value} {odd25 and25 : Option Addr} {sld25 : Array (Option Value)}
    {fd26 : Addr} {ocd26 kVd26 dcd26 pmd26 cdd26 ctd26 : Value} {odd26 and26 : Option Addr} {sld26 : Array (Option Value)}
    {fd27 : Addr} {ocd27 kVd27 dcd27 pmd27 cdd27 ctd27 : Value} {odd27 and27 : Option Addr} {sld27 : Array (Option Value)}
    {fd28 : Addr} {ocd28 kVd28 dcd28 pmd28 cdd28 ctd28 : Value} {odd28 and28 : Option Addr} {sld28 : Array (Option Value)}
    {fd29 : Addr} {ocd29 kVd29 dcd29 pmd29 cdd29 ctd29 : Value} {odd29 and29 : Option Addr} {sld29 : Array (Option Value)}
    {fd30 : Addr} {ocd30 kVd30 dcd30 pmd30 cdd30 ctd30 : Value} {odd30 and30 : Option Addr} {sld30 : Array (Option Value)}
    {fd31 : Addr} {ocd31 kVd31 dcd31 pmd31 cdd31 ctd31 : Value} {odd31 and31 : Option Addr} {sld31 : Array (Option Value)}
    {fd32 : Addr} {ocd32 kVd32 dcd32 pmd32 cdd32 ctd32 : Value} {odd32 and32 : Option Addr} {sld32 : Array (Option Value)}
    {fd33 : Addr} {ocd33 kVd33 dcd33 pmd33 cdd33 ctd33 : Value} {odd33 and33 : Option Addr} {sld33 : Array (Option Value)}
    {fd34 : Addr} {ocd34 kVd34 dcd34 pmd34 cdd34 ctd34 : Value} {odd34 and34 : Option Addr} {sld34 : Array (Option Value)}
    {fd35 : Addr} {ocd35 kVd35 dcd35 pmd35 cdd35 ctd35 : Value} {odd35 and35 : Option Addr} {sld35 : Array (Option Value)}
    {fW : Addr} {ocW kVW dcW pmW cdW ctW : Value} {odW anW : Option Addr} {slW : Array (Option Value)}
    {fN : Addr} {ocN kVN dcN pmN cdN ctN : Value} {odN anN : Option Addr} {slN : Array (Option Value)}
    {fE : Addr} {ocE kVE dcE pmE cdE ctE : Value} {odE anE : Option Addr} {slE : Array (Option Value)}
    (aC : PySem.W.nsIn K mainGlobals "Forest" = some (some (.ref C))) (pg : PySem.W.plainGet K C Str.empty = true) (hd : PySem.W.hasDictIn K C = true) (po : PySem.W.plainOver K C = true) (sa : PySem.W.findIn K (.ref C) "__setattr__" = some (some (.builtin "object.__setattr__")))
    (mk : PySem.W.makesIn K C = true) (kc : PySem.W.keepIn K (.ref C) = true) (nP : PySem.W.findIn K (.ref C) "parents" = some none) (nB : PySem.W.findIn K (.ref C) "bearing" = some none) (nA : PySem.W.findIn K (.ref C) "asking" = some none)
    (mM : PySem.W.nsIn K mainGlobals "MOST_PLACES" = some (some (.int 60 tm))) (mMOST_BUDGET : PySem.W.nsIn K mainGlobals "MOST_BUDGET" = some (some (.int 60 tmMOST_BUDGET)))
    (aN : PySem.W.findIn K (.ref C) "__init__" = some (some (.ref fN))) (iN : PySem.W.isFn K (.ref fN) = true) (lN : K.lookup fN = some ⟨ocN, odN, .func (PySem.W.fnOf "__init__" "Forest.__init__" (defArgs sInit) (defBody sInit) (defScope sInit) .none kVN dcN pmN anN cdN ctN), slN⟩) (oN : PySem.W.codeIn K cdN "Forest.__init__" = true) (kN : PySem.W.keepIn K (.ref fN) = true)
    (aE : PySem.W.findIn K (.ref C) "__eq__" = some (some (.ref fE))) (iE : PySem.W.isFn K (.ref fE) = true) (lE : K.lookup fE = some ⟨ocE, odE, .func (PySem.W.fnOf "__eq__" "Forest.__eq__" (defArgs sEqM) (defBody sEqM) (defScope sEqM) .none kVE dcE pmE anE cdE ctE), slE⟩) (oE : PySem.W.codeIn K cdE "Forest.__eq__" = true) (kE : PySem.W.keepIn K (.ref fE) = true)
    (y1 : PySem.W.findIn K (.ref C) "__class__" = some (some (.builtin "object.__class__"))) (y2 : PySem.W.specialIn K (.builtin "object.__class__") "__get__" = some (some (.builtin "getset_descriptor.__get__"))) (y3 : PySem.W.takesIn K (.builtin "object.__class__") = some true) (y4 : PySem.W.mroIn K C (.type "object") = some true)
    (ad0 : PySem.W.nsIn K mainGlobals "is_integer" = some (some (.ref fd0))) (ld0 : K.lookup fd0 = some ⟨ocd0, odd0, .func (PySem.W.fnOf "is_integer" "is_integer" (defArgs sIsInt) (defBody sIsInt) (defScope sIsInt) .none kVd0 dcd0 pmd0 and0 cdd0 ctd0), sld0⟩) (od0 : PySem.W.codeIn K cdd0 "is_integer" = true) (kd0 : PySem.W.keepIn K (.ref fd0) = true)
    (ad1 : PySem.W.nsIn K mainGlobals "is_between" = some (some (.ref fd1))) (ld1 : K.lookup fd1 = some ⟨ocd1, odd1, .func (PySem.W.fnOf "is_between" "is_between" (defArgs sIsBtw) (defBody sIsBtw) (defScope sIsBtw) .none kVd1 dcd1 pmd1 and1 cdd1 ctd1), sld1⟩) (od1 : PySem.W.codeIn K cdd1 "is_between" = true) (kd1 : PySem.W.keepIn K (.ref fd1) = true)
    (ad2 : PySem.W.nsIn K mainGlobals "is_lot" = some (some (.ref fd2))) (ld2 : K.lookup fd2 = some ⟨ocd2, odd2, .func (PySem.W.fnOf "is_lot" "is_lot" (defArgs sIsLot) (defBody sIsLot) (defScope sIsLot) .none kVd2 dcd2 pmd2 and2 cdd2 ctd2), sld2⟩) (od2 : PySem.W.codeIn K cdd2 "is_lot" = true) (kd2 : PySem.W.keepIn K (.ref fd2) = true)
    (ad3 : PySem.W.nsIn K mainGlobals "_is_lot_of_places" = some (some (.ref fd3))) (ld3 : K.lookup fd3 = some ⟨ocd3, odd3, .func (PySem.W.fnOf "_is_lot_of_places" "_is_lot_of_places" (defArgs sLotOf) (defBody sLotOf) (defScope sLotOf) .none kVd3 dcd3 pmd3 and3 cdd3 ctd3), sld3⟩) (od3 : PySem.W.codeIn K cdd3 "_is_lot_of_places" = true) (kd3 : PySem.W.keepIn K (.ref fd3) = true)
    (ad4 : PySem.W.nsIn K mainGlobals "is_place" = some (some (.ref fd4))) (ld4 : K.lookup fd4 = some ⟨ocd4, odd4, .func (PySem.W.fnOf "is_place" "is_place" (defArgs sIsPlace) (defBody sIsPlace) (defScope sIsPlace) .none kVd4 dcd4 pmd4 and4 cdd4 ctd4), sld4⟩) (od4 : PySem.W.codeIn K cdd4 "is_place" = true) (kd4 : PySem.W.keepIn K (.ref fd4) = true)
    (ad5 : PySem.W.nsIn K mainGlobals "way" = some (some (.ref fd5))) (ld5 : K.lookup fd5 = some ⟨ocd5, odd5, .func (PySem.W.fnOf "way" "way" (defArgs sWay) (defBody sWay) (defScope sWay) .none kVd5 dcd5 pmd5 and5 cdd5 ctd5), sld5⟩) (od5 : PySem.W.codeIn K cdd5 "way" = true) (kd5 : PySem.W.keepIn K (.ref fd5) = true)
    (ad6 : PySem.W.nsIn K mainGlobals "_is_cuts" = some (some (.ref fd6))) (ld6 : K.lookup fd6 = some ⟨ocd6, odd6, .func (PySem.W.fnOf "_is_cuts" "_is_cuts" (defArgs sIsCuts) (defBody sIsCuts) (defScope sIsCuts) .none kVd6 dcd6 pmd6 and6 cdd6 ctd6), sld6⟩) (od6 : PySem.W.codeIn K cdd6 "_is_cuts" = true) (kd6 : PySem.W.keepIn K (.ref fd6) = true)
    (ad7 : PySem.W.nsIn K mainGlobals "_level" = some (some (.ref fd7))) (ld7 : K.lookup fd7 = some ⟨ocd7, odd7, .func (PySem.W.fnOf "_level" "_level" (defArgs sLevel) (defBody sLevel) (defScope sLevel) .none kVd7 dcd7 pmd7 and7 cdd7 ctd7), sld7⟩) (od7 : PySem.W.codeIn K cdd7 "_level" = true) (kd7 : PySem.W.keepIn K (.ref fd7) = true)
    (ad8 : PySem.W.nsIn K mainGlobals "plan_of" = some (some (.ref fd8))) (ld8 : K.lookup fd8 = some ⟨ocd8, odd8, .func (PySem.W.fnOf "plan_of" "plan_of" (defArgs sPlanOf) (defBody sPlanOf) (defScope sPlanOf) .none kVd8 dcd8 pmd8 and8 cdd8 ctd8), sld8⟩) (od8 : PySem.W.codeIn K cdd8 "plan_of" = true) (kd8 : PySem.W.keepIn K (.ref fd8) = true)
    (ad9 : PySem.W.nsIn K mainGlobals "_law_hand" = some (some (.ref fd9))) (ld9 : K.lookup fd9 = some ⟨ocd9, odd9, .func (PySem.W.fnOf "_law_hand" "_law_hand" (defArgs sHand) (defBody sHand) (defScope sHand) .none kVd9 dcd9 pmd9 and9 cdd9 ctd9), sld9⟩) (od9 : PySem.W.codeIn K cdd9 "_law_hand" = true) (kd9 : PySem.W.keepIn K (.ref fd9) = true)
    (ad10 : PySem.W.nsIn K mainGlobals "_law_draw" = some (some (.ref fd10))) (ld10 : K.lookup fd10 = some ⟨ocd10, odd10, .func (PySem.W.fnOf "_law_draw" "_law_draw" (defArgs sDraw) (defBody sDraw) (defScope sDraw) .none kVd10 dcd10 pmd10 and10 cdd10 ctd10), sld10⟩) (od10 : PySem.W.codeIn K cdd10 "_law_draw" = true) (kd10 : PySem.W.keepIn K (.ref fd10) = true)
    (ad11 : PySem.W.nsIn K mainGlobals "_law_plans" = some (some (.ref fd11))) (ld11 : K.lookup fd11 = some ⟨ocd11, odd11, .func (PySem.W.fnOf "_law_plans" "_law_plans" (defArgs sPlans) (defBody sPlans) (defScope sPlans) .none kVd11 dcd11 pmd11 and11 cdd11 ctd11), sld11⟩) (od11 : PySem.W.codeIn K cdd11 "_law_plans" = true) (kd11 : PySem.W.keepIn K (.ref fd11) = true)
    (ad12 : PySem.W.nsIn K mainGlobals "under" = some (some (.ref fd12))) (ld12 : K.lookup fd12 = some ⟨ocd12, odd12, .func (PySem.W.fnOf "under" "under" (defArgs sUnder) (defBody sUnder) (defScope sUnder) .none kVd12 dcd12 pmd12 and12 cdd12 ctd12), sld12⟩) (od12 : PySem.W.codeIn K cdd12 "under" = true) (kd12 : PySem.W.keepIn K (.ref fd12) = true)
    (ad13 : PySem.W.nsIn K mainGlobals "is_numbers" = some (some (.ref fd13))) (ld13 : K.lookup fd13 = some ⟨ocd13, odd13, .func (PySem.W.fnOf "is_numbers" "is_numbers" (defArgs sIsNumbers) (defBody sIsNumbers) (defScope sIsNumbers) .none kVd13 dcd13 pmd13 and13 cdd13 ctd13), sld13⟩) (od13 : PySem.W.codeIn K cdd13 "is_numbers" = true) (kd13 : PySem.W.keepIn K (.ref fd13) = true)
    (ad14 : PySem.W.nsIn K mainGlobals "is_pair_of_numbers" = some (some (.ref fd14))) (ld14 : K.lookup fd14 = some ⟨ocd14, odd14, .func (PySem.W.fnOf "is_pair_of_numbers" "is_pair_of_numbers" (defArgs sIsPairN) (defBody sIsPairN) (defScope sIsPairN) .none kVd14 dcd14 pmd14 and14 cdd14 ctd14), sld14⟩) (od14 : PySem.W.codeIn K cdd14 "is_pair_of_numbers" = true) (kd14 : PySem.W.keepIn K (.ref fd14) = true)
    (ad15 : PySem.W.nsIn K mainGlobals "is_budgets" = some (some (.ref fd15))) (ld15 : K.lookup fd15 = some ⟨ocd15, odd15, .func (PySem.W.fnOf "is_budgets" "is_budgets" (defArgs sIsBudgets) (defBody sIsBudgets) (defScope sIsBudgets) .none kVd15 dcd15 pmd15 and15 cdd15 ctd15), sld15⟩) (od15 : PySem.W.codeIn K cdd15 "is_budgets" = true) (kd15 : PySem.W.keepIn K (.ref fd15) = true)
    (ad16 : PySem.W.nsIn K mainGlobals "row" = some (some (.ref fd16))) (ld16 : K.lookup fd16 = some ⟨ocd16, odd16, .func (PySem.W.fnOf "row" "row" (defArgs sRow) (defBody sRow) (defScope sRow) .none kVd16 dcd16 pmd16 and16 cdd16 ctd16), sld16⟩) (od16 : PySem.W.codeIn K cdd16 "row" = true) (kd16 : PySem.W.keepIn K (.ref fd16) = true)
    (ad17 : PySem.W.nsIn K mainGlobals "is_row" = some (some (.ref fd17))) (ld17 : K.lookup fd17 = some ⟨ocd17, odd17, .func (PySem.W.fnOf "is_row" "is_row" (defArgs sIsRow) (defBody sIsRow) (defScope sIsRow) .none kVd17 dcd17 pmd17 and17 cdd17 ctd17), sld17⟩) (od17 : PySem.W.codeIn K cdd17 "is_row" = true) (kd17 : PySem.W.keepIn K (.ref fd17) = true)
    (ad18 : PySem.W.nsIn K mainGlobals "_check_row_and_budgets" = some (some (.ref fd18))) (ld18 : K.lookup fd18 = some ⟨ocd18, odd18, .func (PySem.W.fnOf "_check_row_and_budgets" "_check_row_and_budgets" (defArgs sCheckRB) (defBody sCheckRB) (defScope sCheckRB) .none kVd18 dcd18 pmd18 and18 cdd18 ctd18), sld18⟩) (od18 : PySem.W.codeIn K cdd18 "_check_row_and_budgets" = true) (kd18 : PySem.W.keepIn K (.ref fd18) = true)
    (ad19 : PySem.W.nsIn K mainGlobals "_may_end" = some (some (.ref fd19))) (ld19 : K.lookup fd19 = some ⟨ocd19, odd19, .func (PySem.W.fnOf "_may_end" "_may_end" (defArgs sMayEnd) (defBody sMayEnd) (defScope sMayEnd) .none kVd19 dcd19 pmd19 and19 cdd19 ctd19), sld19⟩) (od19 : PySem.W.codeIn K cdd19 "_may_end" = true) (kd19 : PySem.W.keepIn K (.ref fd19) = true)
    (ad20 : PySem.W.nsIn K mainGlobals "_reach" = some (some (.ref fd20))) (ld20 : K.lookup fd20 = some ⟨ocd20, odd20, .func (PySem.W.fnOf "_reach" "_reach" (defArgs sReach) (defBody sReach) (defScope sReach) .none kVd20 dcd20 pmd20 and20 cdd20 ctd20), sld20⟩) (od20 : PySem.W.codeIn K cdd20 "_reach" = true) (kd20 : PySem.W.keepIn K (.ref fd20) = true)
    (ad21 : PySem.W.nsIn K mainGlobals "reaches" = some (some (.ref fd21))) (ld21 : K.lookup fd21 = some ⟨ocd21, odd21, .func (PySem.W.fnOf "reaches" "reaches" (defArgs sReaches) (defBody sReaches) (defScope sReaches) .none kVd21 dcd21 pmd21 and21 cdd21 ctd21), sld21⟩) (od21 : PySem.W.codeIn K cdd21 "reaches" = true) (kd21 : PySem.W.keepIn K (.ref fd21) = true)
    (ad22 : PySem.W.nsIn K mainGlobals "_is_borne_out" = some (some (.ref fd22))) (ld22 : K.lookup fd22 = some ⟨ocd22, odd22, .func (PySem.W.fnOf "_is_borne_out" "_is_borne_out" (defArgs sBorne) (defBody sBorne) (defScope sBorne) .none kVd22 dcd22 pmd22 and22 cdd22 ctd22), sld22⟩) (od22 : PySem.W.codeIn K cdd22 "_is_borne_out" = true) (kd22 : PySem.W.keepIn K (.ref fd22) = true)
    (ad23 : PySem.W.nsIn K mainGlobals "is_reaches" = some (some (.ref fd23))) (ld23 : K.lookup fd23 = some ⟨ocd23, odd23, .func (PySem.W.fnOf "is_reaches" "is_reaches" (defArgs sIsReaches) (defBody sIsReaches) (defScope sIsReaches) .none kVd23 dcd23 pmd23 and23 cdd23 ctd23), sld23⟩) (od23 : PySem.W.codeIn K cdd23 "is_reaches" = true) (kd23 : PySem.W.keepIn K (.ref fd23) = true)
    (ad24 : PySem.W.nsIn K mainGlobals "_row_cuts" = some (some (.ref fd24))) (ld24 : K.lookup fd24 = some ⟨ocd24, odd24, .func (PySem.W.fnOf "_row_cuts" "_row_cuts" (defArgs sRowCuts) (defBody sRowCuts) (defScope sRowCuts) .none kVd24 dcd24 pmd24 and24 cdd24 ctd24), sld24⟩) (od24 : PySem.W.codeIn K cdd24 "_row_cuts" = true) (kd24 : PySem.W.keepIn K (.ref fd24) = true)
    (ad25 : PySem.W.nsIn K mainGlobals "plan_within" = some (some (.ref fd25))) (ld25 : K.lookup fd25 = some ⟨ocd25, odd25, .func (PySem.W.fnOf "plan_within" "plan_within" (defArgs sPlanWithin) (defBody sPlanWithin) (defScope sPlanWithin) .none kVd25 dcd25 pmd25 and25 cdd25 ctd25), sld25⟩) (od25 : PySem.W.codeIn K cdd25 "plan_within" = true) (kd25 : PySem.W.keepIn K (.ref fd25) = true)
    (ad26 : PySem.W.nsIn K mainGlobals "_law_may_end" = some (some (.ref fd26))) (ld26 : K.lookup fd26 = some ⟨ocd26, odd26, .func (PySem.W.fnOf "_law_may_end" "_law_may_end" (defArgs sLMay) (defBody sLMay) (defScope sLMay) .none kVd26 dcd26 pmd26 and26 cdd26 ctd26), sld26⟩) (od26 : PySem.W.codeIn K cdd26 "_law_may_end" = true) (kd26 : PySem.W.keepIn K (.ref fd26) = true)
    (ad27 : PySem.W.nsIn K mainGlobals "_law_least" = some (some (.ref fd27))) (ld27 : K.lookup fd27 = some ⟨ocd27, odd27, .func (PySem.W.fnOf "_law_least" "_law_least" (defArgs sLLeast) (defBody sLLeast) (defScope sLLeast) .none kVd27 dcd27 pmd27 and27 cdd27 ctd27), sld27⟩) (od27 : PySem.W.codeIn K cdd27 "_law_least" = true) (kd27 : PySem.W.keepIn K (.ref fd27) = true)
    (ad28 : PySem.W.nsIn K mainGlobals "_law_is_enough" = some (some (.ref fd28))) (ld28 : K.lookup fd28 = some ⟨ocd28, odd28, .func (PySem.W.fnOf "_law_is_enough" "_law_is_enough" (defArgs sLEnough) (defBody sLEnough) (defScope sLEnough) .none kVd28 dcd28 pmd28 and28 cdd28 ctd28), sld28⟩) (od28 : PySem.W.codeIn K cdd28 "_law_is_enough" = true) (kd28 : PySem.W.keepIn K (.ref fd28) = true)
    (ad29 : PySem.W.nsIn K mainGlobals "_law_is_reaches" = some (some (.ref fd29))) (ld29 : K.lookup fd29 = some ⟨ocd29, odd29, .func (PySem.W.fnOf "_law_is_reaches" "_law_is_reaches" (defArgs sLIsReaches) (defBody sLIsReaches) (defScope sLIsReaches) .none kVd29 dcd29 pmd29 and29 cdd29 ctd29), sld29⟩) (od29 : PySem.W.codeIn K cdd29 "_law_is_reaches" = true) (kd29 : PySem.W.keepIn K (.ref fd29) = true)
    (ad30 : PySem.W.nsIn K mainGlobals "_law_row_plan" = some (some (.ref fd30))) (ld30 : K.lookup fd30 = some ⟨ocd30, odd30, .func (PySem.W.fnOf "_law_row_plan" "_law_row_plan" (defArgs sRowPlan) (defBody sRowPlan) (defScope sRowPlan) .none kVd30 dcd30 pmd30 and30 cdd30 ctd30), sld30⟩) (od30 : PySem.W.codeIn K cdd30 "_law_row_plan" = true) (kd30 : PySem.W.keepIn K (.ref fd30) = true)
    (ad31 : PySem.W.nsIn K mainGlobals "_law_row_point" = some (some (.ref fd31))) (ld31 : K.lookup fd31 = some ⟨ocd31, odd31, .func (PySem.W.fnOf "_law_row_point" "_law_row_point" (defArgs sRowPoint) (defBody sRowPoint) (defScope sRowPoint) .none kVd31 dcd31 pmd31 and31 cdd31 ctd31), sld31⟩) (od31 : PySem.W.codeIn K cdd31 "_law_row_point" = true) (kd31 : PySem.W.keepIn K (.ref fd31) = true)
    (ad32 : PySem.W.nsIn K mainGlobals "_law_budgets" = some (some (.ref fd32))) (ld32 : K.lookup fd32 = some ⟨ocd32, odd32, .func (PySem.W.fnOf "_law_budgets" "_law_budgets" (defArgs sLBudgets) (defBody sLBudgets) (defScope sLBudgets) .none kVd32 dcd32 pmd32 and32 cdd32 ctd32), sld32⟩) (od32 : PySem.W.codeIn K cdd32 "_law_budgets" = true) (kd32 : PySem.W.keepIn K (.ref fd32) = true)
    (ad33 : PySem.W.nsIn K mainGlobals "_law_small" = some (some (.ref fd33))) (ld33 : K.lookup fd33 = some ⟨ocd33, odd33, .func (PySem.W.fnOf "_law_small" "_law_small" (defArgs sLSmall) (defBody sLSmall) (defScope sLSmall) .none kVd33 dcd33 pmd33 and33 cdd33 ctd33), sld33⟩) (od33 : PySem.W.codeIn K cdd33 "_law_small" = true) (kd33 : PySem.W.keepIn K (.ref fd33) = true)
    (ad34 : PySem.W.nsIn K mainGlobals "_law_keeps" = some (some (.ref fd34))) (ld34 : K.lookup fd34 = some ⟨ocd34, odd34, .func (PySem.W.fnOf "_law_keeps" "_law_keeps" (defArgs sKeeps) (defBody sKeeps) (defScope sKeeps) .none kVd34 dcd34 pmd34 and34 cdd34 ctd34), sld34⟩) (od34 : PySem.W.codeIn K cdd34 "_law_keeps" = true) (kd34 : PySem.W.keepIn K (.ref fd34) = true)
    (ad35 : PySem.W.nsIn K mainGlobals "_law_is_plan" = some (some (.ref fd35))) (ld35 : K.lookup fd35 = some ⟨ocd35, odd35, .func (PySem.W.fnOf "_law_is_plan" "_law_is_plan" (defArgs sLIsPlan) (defBody sLIsPlan) (defScope sLIsPlan) .none kVd35 dcd35 pmd35 and35 cdd35 ctd35), sld35⟩) (od35 : PySem.W.codeIn K cdd35 "_law_is_plan" = true) (kd35 : PySem.W.keepIn K (.ref fd35) = true)
    (aW : PySem.W.nsIn K mainGlobals "law" = some (some (.ref fW))) (lW : K.lookup fW = some ⟨ocW, odW, .func (PySem.W.fnOf "law" "law" (defArgs sLaw) (defBody sLaw) (defScope sLaw) .none kVW dcW pmW anW cdW ctW), slW⟩) (oW : PySem.W.codeIn K cdW "law" = true) (kW : PySem.W.keepIn K (.ref fW) = true)
    (zisinstance : PySem.W.nsIn K mainGlobals "isinstance" = some none) (ztuple : PySem.W.nsIn K mainGlobals "tuple" = some none) (zlist : PySem.W.nsIn K mainGlobals "list" = some none) (zbool : PySem.W.nsIn K mainGlobals "bool" = some none) (zlen : PySem.W.nsIn K mainGlobals "len" = some none) (zall : PySem.W.nsIn K mainGlobals "all" = some none) (zzip : PySem.W.nsIn K mainGlobals "zip" = some none) (zint : PySem.W.nsIn K mainGlobals "int" = some none) (zabs : PySem.W.nsIn K mainGlobals "abs" = some none) (zrange : PySem.W.nsIn K mainGlobals "range" = some none) (zenumerate : PySem.W.nsIn K mainGlobals "enumerate" = some none) (zreversed : PySem.W.nsIn K mainGlobals "reversed" = some none) (zsorted : PySem.W.nsIn K mainGlobals "sorted" = some none) (zmin : PySem.W.nsIn K mainGlobals "min" = some none) (zany : PySem.W.nsIn K mainGlobals "any" = some none) (zmax : PySem.W.nsIn K mainGlobals "max" = some none) (zdict : PySem.W.nsIn K mainGlobals "dict" = some none)
    : ∃ fd : FuncData, (∀ (s : Shared) (v : Value), BindsTo s fd ⟨[v], []⟩ [("_law_script", v)]) ∧ ∀ base : Heap, K.In base → base.Ns mainGlobals mg → FnOk P w K mg base CX0 129 fa fd ["_law_script"] (spLaw K) := by
  have e := hfa.symm.trans (PySem.W.mg_of X G aW)
  cases e
  have IT : IsTxt mg := ⟨PySem.W.mg_none_of X G zisinstance, PySem.W.mg_none_of X G ztuple, PySem.W.mg_none_of X G zlist, PySem.W.mg_none_of X G zbool, PySem.W.mg_none_of X G zlen, PySem.W.mg_none_of X G zall, PySem.W.mg_none_of X G zzip⟩
  have NT : NamT mg := ⟨IT, PySem.W.mg_none_of X G zint, PySem.W.mg_none_of X G zabs, PySem.W.mg_none_of X G zrange, PySem.W.mg_none_of X G zenumerate, PySem.W.mg_none_of X G zreversed, PySem.W.mg_none_of X G zsorted, PySem.W.mg_none_of X G zmin⟩
  have Fd0 := fun_mk (st := sIsInt) ld0 od0 kd0
  have Dd0 : ∃ f fd, DefAt K mg "is_integer" sIsInt ["thing"] f fd := ⟨_, _, ⟨Fd0, Fd0.binds (ps := ["thing"]) fun _ _ _ _ _ _ us hl => match us, hl with | [_], _ => rfl, PySem.W.mg_of X G ad0⟩⟩
  have Fd1 := fun_mk (st := sIsBtw) ld1 od1 kd1
  have Dd1 : ∃ f fd, DefAt K mg "is_between" sIsBtw ["thing", "least", "most"] f fd := ⟨_, _, ⟨Fd1, Fd1.binds (ps := ["thing", "least", "most"]) fun _ _ _ _ _ _ us hl => match us, hl with | [_, _, _], _ => rfl, PySem.W.mg_of X G ad1⟩⟩
  have Fd2 := fun_mk (st := sIsLot) ld2 od2 kd2
  have Dd2 : ∃ f fd, DefAt K mg "is_lot" sIsLot ["thing"] f fd := ⟨_, _, ⟨Fd2, Fd2.binds (ps := ["thing"]) fun _ _ _ _ _ _ us hl => match us, hl with | [_], _ => rfl, PySem.W.mg_of X G ad2⟩⟩
  have Fd3 := fun_mk (st := sLotOf) ld3 od3 kd3
  have Dd3 : ∃ f fd, DefAt K mg "_is_lot_of_places" sLotOf ["thing", "many"] f fd := ⟨_, _, ⟨Fd3, Fd3.binds (ps := ["thing", "many"]) fun _ _ _ _ _ _ us hl => match us, hl with | [_, _], _ => rfl, PySem.W.mg_of X G ad3⟩⟩
  have Fd4 := fun_mk (st := sIsPlace) ld4 od4 kd4
  have Dd4 : ∃ f fd, DefAt K mg "is_place" sIsPlace ["forest", "thing"] f fd := ⟨_, _, ⟨Fd4, Fd4.binds (ps := ["forest", "thing"]) fun _ _ _ _ _ _ us hl => match us, hl with | [_, _], _ => rfl, PySem.W.mg_of X G ad4⟩⟩
  have Fd5 := fun_mk (st := sWay) ld5 od5 kd5
  have Dd5 : ∃ f fd, DefAt K mg "way" sWay ["forest", "place"] f fd := ⟨_, _, ⟨Fd5, Fd5.binds (ps := ["forest", "place"]) fun _ _ _ _ _ _ us hl => match us, hl with | [_, _], _ => rfl, PySem.W.mg_of X G ad5⟩⟩
  have Fd6 := fun_mk (st := sIsCuts) ld6 od6 kd6
  have Dd6 : ∃ f fd, DefAt K mg "_is_cuts" sIsCuts ["forest", "thing"] f fd := ⟨_, _, ⟨Fd6, Fd6.binds (ps := ["forest", "thing"]) fun _ _ _ _ _ _ us hl => match us, hl with | [_, _], _ => rfl, PySem.W.mg_of X G ad6⟩⟩
  have Fd7 := fun_mk (st := sLevel) ld7 od7 kd7
  have Dd7 : ∃ f fd, DefAt K mg "_level" sLevel ["forest", "cuts", "place"] f fd := ⟨_, _, ⟨Fd7, Fd7.binds (ps := ["forest", "cuts", "place"]) fun _ _ _ _ _ _ us hl => match us, hl with | [_, _, _], _ => rfl, PySem.W.mg_of X G ad7⟩⟩
  have Fd8 := fun_mk (st := sPlanOf) ld8 od8 kd8
  have Dd8 : ∃ f fd, DefAt K mg "plan_of" sPlanOf ["forest", "cuts"] f fd := ⟨_, _, ⟨Fd8, Fd8.binds (ps := ["forest", "cuts"]) fun _ _ _ _ _ _ us hl => match us, hl with | [_, _], _ => rfl, PySem.W.mg_of X G ad8⟩⟩
  have Fd9 := fun_mk (st := sHand) ld9 od9 kd9
  have Dd9 : ∃ f fd, DefAt K mg "_law_hand" sHand ["_law_script"] f fd := ⟨_, _, ⟨Fd9, Fd9.binds (ps := ["_law_script"]) fun _ _ _ _ _ _ us hl => match us, hl with | [_], _ => rfl, PySem.W.mg_of X G ad9⟩⟩
  have Fd10 := fun_mk (st := sDraw) ld10 od10 kd10
  have Dd10 : ∃ f fd, DefAt K mg "_law_draw" sDraw ["_law_hand_here", "_law_many"] f fd := ⟨_, _, ⟨Fd10, Fd10.binds (ps := ["_law_hand_here", "_law_many"]) fun _ _ _ _ _ _ us hl => match us, hl with | [_, _], _ => rfl, PySem.W.mg_of X G ad10⟩⟩
  have Fd11 := fun_mk (st := sPlans) ld11 od11 kd11
  have Dd11 : ∃ f fd, DefAt K mg "_law_plans" sPlans ["_law_places"] f fd := ⟨_, _, ⟨Fd11, Fd11.binds (ps := ["_law_places"]) fun _ _ _ _ _ _ us hl => match us, hl with | [_], _ => rfl, PySem.W.mg_of X G ad11⟩⟩
  have Fd12 := fun_mk (st := sUnder) ld12 od12 kd12
  have Dd12 : ∃ f fd, DefAt K mg "under" sUnder ["forest", "place"] f fd := ⟨_, _, ⟨Fd12, Fd12.binds (ps := ["forest", "place"]) fun _ _ _ _ _ _ us hl => match us, hl with | [_, _], _ => rfl, PySem.W.mg_of X G ad12⟩⟩
  have Fd13 := fun_mk (st := sIsNumbers) ld13 od13 kd13
  have Dd13 : ∃ f fd, DefAt K mg "is_numbers" sIsNumbers ["thing", "many"] f fd := ⟨_, _, ⟨Fd13, Fd13.binds (ps := ["thing", "many"]) fun _ _ _ _ _ _ us hl => match us, hl with | [_, _], _ => rfl, PySem.W.mg_of X G ad13⟩⟩
  have Fd14 := fun_mk (st := sIsPairN) ld14 od14 kd14
  have Dd14 : ∃ f fd, DefAt K mg "is_pair_of_numbers" sIsPairN ["thing", "many", "most"] f fd := ⟨_, _, ⟨Fd14, Fd14.binds (ps := ["thing", "many", "most"]) fun _ _ _ _ _ _ us hl => match us, hl with | [_, _, _], _ => rfl, PySem.W.mg_of X G ad14⟩⟩
  have Fd15 := fun_mk (st := sIsBudgets) ld15 od15 kd15
  have Dd15 : ∃ f fd, DefAt K mg "is_budgets" sIsBudgets ["forest", "thing"] f fd := ⟨_, _, ⟨Fd15, Fd15.binds (ps := ["forest", "thing"]) fun _ _ _ _ _ _ us hl => match us, hl with | [_, _], _ => rfl, PySem.W.mg_of X G ad15⟩⟩
  have Fd16 := fun_mk (st := sRow) ld16 od16 kd16
  have Dd16 : ∃ f fd, DefAt K mg "row" sRow ["places"] f fd := ⟨_, _, ⟨Fd16, Fd16.binds (ps := ["places"]) fun _ _ _ _ _ _ us hl => match us, hl with | [_], _ => rfl, PySem.W.mg_of X G ad16⟩⟩
  have Fd17 := fun_mk (st := sIsRow) ld17 od17 kd17
  have Dd17 : ∃ f fd, DefAt K mg "is_row" sIsRow ["thing"] f fd := ⟨_, _, ⟨Fd17, Fd17.binds (ps := ["thing"]) fun _ _ _ _ _ _ us hl => match us, hl with | [_], _ => rfl, PySem.W.mg_of X G ad17⟩⟩
  have Fd18 := fun_mk (st := sCheckRB) ld18 od18 kd18
  have Dd18 : ∃ f fd, DefAt K mg "_check_row_and_budgets" sCheckRB ["forest", "budgets"] f fd := ⟨_, _, ⟨Fd18, Fd18.binds (ps := ["forest", "budgets"]) fun _ _ _ _ _ _ us hl => match us, hl with | [_, _], _ => rfl, PySem.W.mg_of X G ad18⟩⟩
  have Fd19 := fun_mk (st := sMayEnd) ld19 od19 kd19
  have Dd19 : ∃ f fd, DefAt K mg "_may_end" sMayEnd ["budgets", "key"] f fd := ⟨_, _, ⟨Fd19, Fd19.binds (ps := ["budgets", "key"]) fun _ _ _ _ _ _ us hl => match us, hl with | [_, _], _ => rfl, PySem.W.mg_of X G ad19⟩⟩
  have Fd20 := fun_mk (st := sReach) ld20 od20 kd20
  have Dd20 : ∃ f fd, DefAt K mg "_reach" sReach ["budgets", "key", "found"] f fd := ⟨_, _, ⟨Fd20, Fd20.binds (ps := ["budgets", "key", "found"]) fun _ _ _ _ _ _ us hl => match us, hl with | [_, _, _], _ => rfl, PySem.W.mg_of X G ad20⟩⟩
  have Fd21 := fun_mk (st := sReaches) ld21 od21 kd21
  have Dd21 : ∃ f fd, DefAt K mg "reaches" sReaches ["forest", "budgets"] f fd := ⟨_, _, ⟨Fd21, Fd21.binds (ps := ["forest", "budgets"]) fun _ _ _ _ _ _ us hl => match us, hl with | [_, _], _ => rfl, PySem.W.mg_of X G ad21⟩⟩
  have Fd22 := fun_mk (st := sBorne) ld22 od22 kd22
  have Dd22 : ∃ f fd, DefAt K mg "_is_borne_out" sBorne ["budgets", "key", "told"] f fd := ⟨_, _, ⟨Fd22, Fd22.binds (ps := ["budgets", "key", "told"]) fun _ _ _ _ _ _ us hl => match us, hl with | [_, _, _], _ => rfl, PySem.W.mg_of X G ad22⟩⟩
  have Fd23 := fun_mk (st := sIsReaches) ld23 od23 kd23
  have Dd23 : ∃ f fd, DefAt K mg "is_reaches" sIsReaches ["forest", "budgets", "thing"] f fd := ⟨_, _, ⟨Fd23, Fd23.binds (ps := ["forest", "budgets", "thing"]) fun _ _ _ _ _ _ us hl => match us, hl with | [_, _, _], _ => rfl, PySem.W.mg_of X G ad23⟩⟩
  have Fd24 := fun_mk (st := sRowCuts) ld24 od24 kd24
  have Dd24 : ∃ f fd, DefAt K mg "_row_cuts" sRowCuts ["forest", "budgets"] f fd := ⟨_, _, ⟨Fd24, Fd24.binds (ps := ["forest", "budgets"]) fun _ _ _ _ _ _ us hl => match us, hl with | [_, _], _ => rfl, PySem.W.mg_of X G ad24⟩⟩
  have Fd25 := fun_mk (st := sPlanWithin) ld25 od25 kd25
  have Dd25 : ∃ f fd, DefAt K mg "plan_within" sPlanWithin ["forest", "budgets"] f fd := ⟨_, _, ⟨Fd25, Fd25.binds (ps := ["forest", "budgets"]) fun _ _ _ _ _ _ us hl => match us, hl with | [_, _], _ => rfl, PySem.W.mg_of X G ad25⟩⟩
  have Fd26 := fun_mk (st := sLMay) ld26 od26 kd26
  have Dd26 : ∃ f fd, DefAt K mg "_law_may_end" sLMay ["_law_budgets_here", "_law_key"] f fd := ⟨_, _, ⟨Fd26, Fd26.binds (ps := ["_law_budgets_here", "_law_key"]) fun _ _ _ _ _ _ us hl => match us, hl with | [_, _], _ => rfl, PySem.W.mg_of X G ad26⟩⟩
  have Fd27 := fun_mk (st := sLLeast) ld27 od27 kd27
  have Dd27 : ∃ f fd, DefAt K mg "_law_least" sLLeast ["_law_budgets_here", "_law_key", "_law_known"] f fd := ⟨_, _, ⟨Fd27, Fd27.binds (ps := ["_law_budgets_here", "_law_key", "_law_known"]) fun _ _ _ _ _ _ us hl => match us, hl with | [_, _, _], _ => rfl, PySem.W.mg_of X G ad27⟩⟩
  have Fd28 := fun_mk (st := sLEnough) ld28 od28 kd28
  have Dd28 : ∃ f fd, DefAt K mg "_law_is_enough" sLEnough ["_law_budgets_here", "_law_thing", "_law_key"] f fd := ⟨_, _, ⟨Fd28, Fd28.binds (ps := ["_law_budgets_here", "_law_thing", "_law_key"]) fun _ _ _ _ _ _ us hl => match us, hl with | [_, _, _], _ => rfl, PySem.W.mg_of X G ad28⟩⟩
  have Fd29 := fun_mk (st := sLIsReaches) ld29 od29 kd29
  have Dd29 : ∃ f fd, DefAt K mg "_law_is_reaches" sLIsReaches ["_law_budgets_here", "_law_thing"] f fd := ⟨_, _, ⟨Fd29, Fd29.binds (ps := ["_law_budgets_here", "_law_thing"]) fun _ _ _ _ _ _ us hl => match us, hl with | [_, _], _ => rfl, PySem.W.mg_of X G ad29⟩⟩
  have Fd30 := fun_mk (st := sRowPlan) ld30 od30 kd30
  have Dd30 : ∃ f fd, DefAt K mg "_law_row_plan" sRowPlan ["_law_hand_here", "_law_places"] f fd := ⟨_, _, ⟨Fd30, Fd30.binds (ps := ["_law_hand_here", "_law_places"]) fun _ _ _ _ _ _ us hl => match us, hl with | [_, _], _ => rfl, PySem.W.mg_of X G ad30⟩⟩
  have Fd31 := fun_mk (st := sRowPoint) ld31 od31 kd31
  have Dd31 : ∃ f fd, DefAt K mg "_law_row_point" sRowPoint ["_law_plan"] f fd := ⟨_, _, ⟨Fd31, Fd31.binds (ps := ["_law_plan"]) fun _ _ _ _ _ _ us hl => match us, hl with | [_], _ => rfl, PySem.W.mg_of X G ad31⟩⟩
  have Fd32 := fun_mk (st := sLBudgets) ld32 od32 kd32
  have Dd32 : ∃ f fd, DefAt K mg "_law_budgets" sLBudgets ["_law_hand_here", "_law_places", "_law_some"] f fd := ⟨_, _, ⟨Fd32, Fd32.binds (ps := ["_law_hand_here", "_law_places", "_law_some"]) fun _ _ _ _ _ _ us hl => match us, hl with | [_, _, _], _ => rfl, PySem.W.mg_of X G ad32⟩⟩
  have Fd33 := fun_mk (st := sLSmall) ld33 od33 kd33
  have Dd33 : ∃ f fd, DefAt K mg "_law_small" sLSmall ["_law_hand_here", "_law_places"] f fd := ⟨_, _, ⟨Fd33, Fd33.binds (ps := ["_law_hand_here", "_law_places"]) fun _ _ _ _ _ _ us hl => match us, hl with | [_, _], _ => rfl, PySem.W.mg_of X G ad33⟩⟩
  have Fd34 := fun_mk (st := sKeeps) ld34 od34 kd34
  have Dd34 : ∃ f fd, DefAt K mg "_law_keeps" sKeeps ["_law_told", "_law_budgets_here"] f fd := ⟨_, _, ⟨Fd34, Fd34.binds (ps := ["_law_told", "_law_budgets_here"]) fun _ _ _ _ _ _ us hl => match us, hl with | [_, _], _ => rfl, PySem.W.mg_of X G ad34⟩⟩
  have Fd35 := fun_mk (st := sLIsPlan) ld35 od35 kd35
  have Dd35 : ∃ f fd, DefAt K mg "_law_is_plan" sLIsPlan ["_law_told", "_law_places"] f fd := ⟨_, _, ⟨Fd35, Fd35.binds (ps := ["_law_told", "_law_places"]) fun _ _ _ _ _ _ us hl => match us, hl with | [_, _], _ => rfl, PySem.W.mg_of X G ad35⟩⟩
  have FW := fun_mk (st := sLaw) lW oW kW
  have FN := fun_mk (st := sInit) lN oN kN
  have bN := FN.binds (ps := ["self", "parents", "bearing", "asking"]) fun _ _ _ _ _ _ us hl => match us, hl with | [_, _, _, _], _ => rfl
  have FE := fun_mk (st := sEqM) lE oE kE
  have bE := FE.binds (ps := ["self", "other"]) fun _ _ _ _ _ _ us hl => match us, hl with | [_, _], _ => rfl
  have T : FoT K mg C := ⟨⟨pg, hd, po, sa⟩, nP, nB, nA, PySem.W.mg_of X G aC⟩
  have B : Defs K mg C := ⟨NT, T, ⟨tm, PySem.W.mg_of X G mM⟩, ⟨tmMOST_BUDGET, PySem.W.mg_of X G mMOST_BUDGET⟩, PySem.W.mg_none_of X G zany, PySem.W.mg_none_of X G zmax, PySem.W.mg_none_of X G zdict, ⟨_, _, FN, ⟨mk, aN, iN, kc⟩, bN⟩, ⟨_, _, FE, aE, iE, bE⟩, ⟨y1, y2, y3, y4⟩, Dd0, Dd1, Dd2, Dd3, Dd4, Dd5, Dd6, Dd7, Dd8, Dd9, Dd10, Dd11, Dd12, Dd13, Dd14, Dd15, Dd16, Dd17, Dd18, Dd19, Dd20, Dd21, Dd22, Dd23, Dd24, Dd25, Dd26, Dd27, Dd28, Dd29, Dd30, Dd31, Dd32, Dd33, Dd34, Dd35⟩
  exact ⟨PySem.W.fnOf "law" "law" (defArgs sLaw) (defBody sLaw) (defScope sLaw) .none kVW dcW pmW anW cdW ctW, fun s v => .of_eq rfl, fun base _ _ => ok_law FW B⟩
theorem walk {l : PySem.W.OpenLaw} {q : Program} {loose : List Str} {XP : (Str → Option Value) → Heap → Prop} {YP : World → Heap → Prop} {d : DefRec} {K : Params → PySem.W.Frag} (hn : l.most = some 63) (hdf : d.params.defaults = [])
    (hY : ∀ (w : World) (h : Heap), YP w h → (K w.params).In h)
    (F : ∀ (w : World) (mg : Str → Option Value) (fa : Addr) (h : Heap), (K w.params).In h → h.Ns mainGlobals mg → mg d.name = some (.ref fa) →
      ∃ fd : FuncData, (∀ (s : Shared) (u : Value), BindsTo s fd ⟨[u], []⟩ [("_law_script", u)]) ∧ ∀ base : Heap, (K w.params).In base → base.Ns mainGlobals mg → FnOk l.prog w (K w.params) mg base CX0 129 fa fd ["_law_script"] (spLaw (K w.params))) :
    PySem.W.WalkO q loose XP YP l.row.toRowW d [] (fun f vs => PySem.call f vs) :=
  L2.walk_of (n := 63) (k := 129) (x := "_law_script") (CX := fun _ => CX0) (sp := fun w => spLaw (K w.params)) hn (by decide) hdf ⟨rfl, by decide, by decide⟩ hY F (fun _ _ a ns hl _ hS => ⟨a, ns, rfl, hS, hl, fun _ => rfl⟩) fun _ _ _ _ _ z => z
end Cn
open PySem PySem.W PyProof.Rows
set_option maxRecDepth 100000 in
set_option maxHeartbeats 0 in
theorem PySem.Challenge.cw_cutnotes_k15_whole_long_rows_by_reaches_holds : PySem.Challenge.rw_cutnotes_k15_whole_long_rows_by_reaches.Holds := by
  w_on; o_law; k_head; (case hw => w_witness2)
  k_fill
  refine Cn.walk (l := PySem.Challenge.rw_cutnotes_k15_whole_long_rows_by_reaches) rfl rfl (fun w h Y => PySem.W.kIn_of Y) ?F
  case F =>
    intro w mg fa h KX G hmg
    refine' Cn.all_mk KX G hmg ?aC ?pg ?hd ?po ?sa ?mk ?kc ?nP ?nB ?nA ?mM ?mMOST_BUDGET ?aN ?iN ?lN ?oN ?kN ?aE ?iE ?lE ?oE ?kE ?y1 ?y2 ?y3 ?y4 ?a_d0 ?l_d0 ?o_d0 ?k_d0 ?a_d1 ?l_d1 ?o_d1 ?k_d1 ?a_d2 ?l_d2 ?o_d2 ?k_d2 ?a_d3 ?l_d3 ?o_d3 ?k_d3 ?a_d4 ?l_d4 ?o_d4 ?k_d4 ?a_d5 ?l_d5 ?o_d5 ?k_d5 ?a_d6 ?l_d6 ?o_d6 ?k_d6 ?a_d7 ?l_d7 ?o_d7 ?k_d7 ?a_d8 ?l_d8 ?o_d8 ?k_d8 ?a_d9 ?l_d9 ?o_d9 ?k_d9 ?a_d10 ?l_d10 ?o_d10 ?k_d10 ?a_d11 ?l_d11 ?o_d11 ?k_d11 ?a_d12 ?l_d12 ?o_d12 ?k_d12 ?a_d13 ?l_d13 ?o_d13 ?k_d13 ?a_d14 ?l_d14 ?o_d14 ?k_d14 ?a_d15 ?l_d15 ?o_d15 ?k_d15 ?a_d16 ?l_d16 ?o_d16 ?k_d16 ?a_d17 ?l_d17 ?o_d17 ?k_d17 ?a_d18 ?l_d18 ?o_d18 ?k_d18 ?a_d19 ?l_d19 ?o_d19 ?k_d19 ?a_d20 ?l_d20 ?o_d20 ?k_d20 ?a_d21 ?l_d21 ?o_d21 ?k_d21 ?a_d22 ?l_d22 ?o_d22 ?k_d22 ?a_d23 ?l_d23 ?o_d23 ?k_d23 ?a_d24 ?l_d24 ?o_d24 ?k_d24 ?a_d25 ?l_d25 ?o_d25 ?k_d25 ?a_d26 ?l_d26 ?o_d26 ?k_d26 ?a_d27 ?l_d27 ?o_d27 ?k_d27 ?a_d28 ?l_d28 ?o_d28 ?k_d28 ?a_d29 ?l_d29 ?o_d29 ?k_d29 ?a_d30 ?l_d30 ?o_d30 ?k_d30 ?a_d31 ?l_d31 ?o_d31 ?k_d31 ?a_d32 ?l_d32 ?o_d32 ?k_d32 ?a_d33 ?l_d33 ?o_d33 ?k_d33 ?a_d34 ?l_d34 ?o_d34 ?k_d34 ?a_d35 ?l_d35 ?o_d35 ?k_d35 ?a_W ?l_W ?o_W ?k_W ?z_isinstance ?z_tuple ?z_list ?z_bool ?z_len ?z_all ?z_zip ?z_int ?z_abs ?z_range ?z_enumerate ?z_reversed ?z_sorted ?z_min ?z_any ?z_max ?z_dict
    (case aC => k_is); (case pg => k_is); (case hd => k_is); (case po => k_is); (case sa => k_is); (case mk => k_is); (case kc => k_is); (case nP => k_is)
    (case nB => k_is); (case nA => k_is); (case mM => k_is); (case mMOST_BUDGET => k_is); (case aN => k_is); (case iN => k_is); (case lN => k_is); (case oN => k_is)
    (case kN => k_is); (case aE => k_is); (case iE => k_is); (case lE => k_is); (case oE => k_is); (case kE => k_is); (case y1 => k_is); (case y2 => k_is)
    (case y3 => k_is); (case y4 => k_is); (case a_d0 => k_is); (case l_d0 => k_is); (case o_d0 => k_is); (case k_d0 => k_is); (case a_d1 => k_is); (case l_d1 => k_is)
    (case o_d1 => k_is); (case k_d1 => k_is); (case a_d2 => k_is); (case l_d2 => k_is); (case o_d2 => k_is); (case k_d2 => k_is); (case a_d3 => k_is); (case l_d3 => k_is)
    (case o_d3 => k_is); (case k_d3 => k_is); (case a_d4 => k_is); (case l_d4 => k_is); (case o_d4 => k_is); (case k_d4 => k_is); (case a_d5 => k_is); (case l_d5 => k_is)
    (case o_d5 => k_is); (case k_d5 => k_is); (case a_d6 => k_is); (case l_d6 => k_is); (case o_d6 => k_is); (case k_d6 => k_is); (case a_d7 => k_is); (case l_d7 => k_is)
    (case o_d7 => k_is); (case k_d7 => k_is); (case a_d8 => k_is); (case l_d8 => k_is); (case o_d8 => k_is); (case k_d8 => k_is); (case a_d9 => k_is); (case l_d9 => k_is)
    (case o_d9 => k_is); (case k_d9 => k_is); (case a_d10 => k_is); (case l_d10 => k_is); (case o_d10 => k_is); (case k_d10 => k_is); (case a_d11 => k_is); (case l_d11 => k_is)
    (case o_d11 => k_is); (case k_d11 => k_is); (case a_d12 => k_is); (case l_d12 => k_is); (case o_d12 => k_is); (case k_d12 => k_is); (case a_d13 => k_is); (case l_d13 => k_is)
    (case o_d13 => k_is); (case k_d13 => k_is); (case a_d14 => k_is); (case l_d14 => k_is); (case o_d14 => k_is); (case k_d14 => k_is); (case a_d15 => k_is); (case l_d15 => k_is)
    (case o_d15 => k_is); (case k_d15 => k_is); (case a_d16 => k_is); (case l_d16 => k_is); (case o_d16 => k_is); (case k_d16 => k_is); (case a_d17 => k_is); (case l_d17 => k_is)
    (case o_d17 => k_is); (case k_d17 => k_is); (case a_d18 => k_is); (case l_d18 => k_is); (case o_d18 => k_is); (case k_d18 => k_is); (case a_d19 => k_is); (case l_d19 => k_is)
    (case o_d19 => k_is); (case k_d19 => k_is); (case a_d20 => k_is); (case l_d20 => k_is); (case o_d20 => k_is); (case k_d20 => k_is); (case a_d21 => k_is); (case l_d21 => k_is)
    (case o_d21 => k_is); (case k_d21 => k_is); (case a_d22 => k_is); (case l_d22 => k_is); (case o_d22 => k_is); (case k_d22 => k_is); (case a_d23 => k_is); (case l_d23 => k_is)
    (case o_d23 => k_is); (case k_d23 => k_is); (case a_d24 => k_is); (case l_d24 => k_is); (case o_d24 => k_is); (case k_d24 => k_is); (case a_d25 => k_is); (case l_d25 => k_is)
    (case o_d25 => k_is); (case k_d25 => k_is); (case a_d26 => k_is); (case l_d26 => k_is); (case o_d26 => k_is); (case k_d26 => k_is); (case a_d27 => k_is); (case l_d27 => k_is)
    (case o_d27 => k_is); (case k_d27 => k_is); (case a_d28 => k_is); (case l_d28 => k_is); (case o_d28 => k_is); (case k_d28 => k_is); (case a_d29 => k_is); (case l_d29 => k_is)
    (case o_d29 => k_is); (case k_d29 => k_is); (case a_d30 => k_is); (case l_d30 => k_is); (case o_d30 => k_is); (case k_d30 => k_is); (case a_d31 => k_is); (case l_d31 => k_is)
    (case o_d31 => k_is); (case k_d31 => k_is); (case a_d32 => k_is); (case l_d32 => k_is); (case o_d32 => k_is); (case k_d32 => k_is); (case a_d33 => k_is); (case l_d33 => k_is)
    (case o_d33 => k_is); (case k_d33 => k_is); (case a_d34 => k_is); (case l_d34 => k_is); (case o_d34 => k_is); (case k_d34 => k_is); (case a_d35 => k_is); (case l_d35 => k_is)
    (case o_d35 => k_is); (case k_d35 => k_is); (case a_W => k_is); (case l_W => k_is); (case o_W => k_is); (case k_W => k_is); (case z_isinstance => k_is); (case z_tuple => k_is)
    (case z_list => k_is); (case z_bool => k_is); (case z_len => k_is); (case z_all => k_is); (case z_zip => k_is); (case z_int => k_is); (case z_abs => k_is); (case z_range => k_is)
    (case z_enumerate => k_is); (case z_reversed => k_is); (case z_sorted => k_is); (case z_min => k_is); (case z_any => k_is); (case z_max => k_is); (case z_dict => k_is)
#print axioms PySem.Challenge.cw_cutnotes_k15_whole_long_rows_by_reaches_holds
