import PyProof.Rows.All
import Wide.All
import OpenK.AllK
import Wide.FinOn
import HandS.Base
import HandS.Call
import HandS.List
import HandS.Comp
import HandS.Ends
import HandS.Dict
import HandS.Iter
import HandS.Words
import HandS.WordsList
import PySem.Challenge.RW_cutnotes_k05_whole_all_levels_can_be_had
import HandS.Zip
import HandS.IsInst
import HandS.DeepEq
import HandS.Codes
import KE.GoesMore
import KE.GoesEnum
import PyProof.EnumMake
import PyProof.Draws
import HandS.TupAny
import HandS.Rev
import HandS.Conv
import HandS.Walk
import HandS.More
import HandS.Strs
import HandS.Flow
import HandS.Steps
import HandS.Style
import HandS.DictComp
import HandS.ForMost
set_option Elab.async false
set_option linter.all false
set_option maxRecDepth 100000
set_option maxHeartbeats 4000000
namespace Ck
def road (ps : List (Option Nat)) (i : Nat) : List Nat :=
  match ps[i]? with
  | some (some p) => if _h : p < i then road ps p ++ [i] else [i]
  | _ => [i]
termination_by i
def stk (ps : List (Option Nat)) (lv : List Nat) (i : Nat) : List Nat :=
  match ps[i]? with
  | some (some p) => if _h : p < i then (stk ps lv p).take (lv.getD i 0 - 1) ++ [i] else [i]
  | _ => [i]
termination_by i
def Ps (ps : List (Option Nat)) : Prop := ∀ (i p : Nat), ps[i]? = some (some p) → p < i
/-- the most that the level of i may be, by the levels ahead -/
def mostLv (lv : List Nat) : Option Nat → Nat
  | none => 1
  | some p => lv.getD p 0 + 1
def Lv (ps : List (Option Nat)) (lv : List Nat) : Prop := lv.length = ps.length ∧ ∀ (i l : Nat) (q : Option Nat), lv[i]? = some l → ps[i]? = some q → 1 ≤ l ∧ l ≤ mostLv lv q
section
variable {ps : List (Option Nat)} {lv : List Nat} {i p : Nat}
theorem road_none (h : ps[i]? = some none) : road ps i = [i] := by
  rw [road, h]
theorem road_some (hp : Ps ps) (h : ps[i]? = some (some p)) : road ps i = road ps p ++ [i] := by
  have hl := hp i p h
  rw [road, h]
  dsimp only
  rw [dif_pos hl]
theorem stk_none (h : ps[i]? = some none) : stk ps lv i = [i] := by
  rw [stk, h]
theorem stk_some (hp : Ps ps) (h : ps[i]? = some (some p)) : stk ps lv i = (stk ps lv p).take (lv.getD i 0 - 1) ++ [i] := by
  have hl := hp i p h
  rw [stk, h]
  dsimp only
  rw [dif_pos hl]
theorem opt_cases (hi : i < ps.length) : ps[i]? = some none ∨ ∃ p, ps[i]? = some (some p) := by
  rw [List.getElem?_eq_getElem hi]
  cases h : ps[i] with
  | none => exact .inl rfl
  | some p => exact .inr ⟨p, rfl⟩
theorem road_le (hp : Ps ps) : ∀ n, n < ps.length → ∀ x ∈ road ps n, x ≤ n := by
  intro n
  induction n using Nat.strongRecOn with
  | ind n ih =>
    intro hn x hx
    rcases opt_cases hn with h | ⟨p, h⟩
    · rw [road_none h] at hx
      exact Nat.le_of_eq (List.mem_singleton.mp hx)
    · rw [road_some hp h] at hx
      have hl := hp n p h
      rcases List.mem_append.mp hx with hx | hx
      · exact Nat.le_of_lt (Nat.lt_of_le_of_lt (ih p hl (Nat.lt_trans hl hn) x hx) hl)
      · exact Nat.le_of_eq (List.mem_singleton.mp hx)
theorem road_self (hp : Ps ps) (hi : i < ps.length) : i ∈ road ps i := by
  rcases opt_cases hi with h | ⟨p, h⟩
  · rw [road_none h]; exact List.mem_singleton.mpr rfl
  · rw [road_some hp h]; exact List.mem_append.mpr (.inr (List.mem_singleton.mpr rfl))
theorem road_ne (hp : Ps ps) (hi : i < ps.length) : road ps i ≠ [] := fun z => by
  have h := road_self hp hi
  rw [z] at h; cases h
theorem road_len (hp : Ps ps) : ∀ n, n < ps.length → (road ps n).length ≤ n + 1 := by
  intro n
  induction n using Nat.strongRecOn with
  | ind n ih =>
    intro hn
    rcases opt_cases hn with h | ⟨p, h⟩
    · rw [road_none h]; exact Nat.le_add_left _ _
    · have hl := hp n p h
      have := ih p hl (Nat.lt_trans hl hn)
      rw [road_some hp h, List.length_append, List.length_singleton]
      omega
theorem getD_of {xs : List Nat} {l : Nat} (h : xs[i]? = some l) : xs.getD i 0 = l := by
  rw [List.getD_eq_getElem?_getD, h]; rfl
theorem stk_len (hp : Ps ps) (hv : Lv ps lv) : ∀ n, n < ps.length → (stk ps lv n).length = lv.getD n 0 := by
  intro n
  induction n using Nat.strongRecOn with
  | ind n ih =>
    intro hn
    have hl : lv[n]? = some (lv.getD n 0) := by
      rw [List.getD_eq_getElem?_getD, List.getElem?_eq_getElem (by rw [hv.1]; exact hn)]; rfl
    rcases opt_cases hn with h | ⟨p, h⟩
    · have := hv.2 n _ _ hl h
      rw [stk_none h, List.length_singleton]
      have e : mostLv lv none = 1 := rfl
      omega
    · have hpn := hp n p h
      have := hv.2 n _ _ hl h
      have e := ih p hpn (Nat.lt_trans hpn hn)
      have e2 : mostLv lv (some p) = lv.getD p 0 + 1 := rfl
      rw [stk_some hp h, List.length_append, List.length_singleton, List.length_take, e]
      omega
theorem stk_sub (hp : Ps ps) : ∀ n, n < ps.length → ∀ x ∈ stk ps lv n, x ∈ road ps n := by
  intro n
  induction n using Nat.strongRecOn with
  | ind n ih =>
    intro hn x hx
    rcases opt_cases hn with h | ⟨p, h⟩
    · rw [stk_none h] at hx
      rw [road_none h]; exact hx
    · have hl := hp n p h
      rw [stk_some hp h] at hx
      rw [road_some hp h]
      rcases List.mem_append.mp hx with hx | hx
      · exact List.mem_append.mpr (.inl (ih p hl (Nat.lt_trans hl hn) x (List.mem_of_mem_take hx)))
      · exact List.mem_append.mpr (.inr hx)
end
/-! those of a list that rank below all behind them -/
def rlm (rk : Nat → Nat) : List Nat → List Nat
  | [] => []
  | x :: xs => if ∀ y ∈ xs, rk x < rk y then x :: rlm rk xs else rlm rk xs
section
variable {rk rk' : Nat → Nat}
theorem rlm_mem : ∀ {xs : List Nat} {x : Nat}, x ∈ rlm rk xs → x ∈ xs
  | [], _, h => by cases h
  | y :: ys, x, h => by
    unfold rlm at h
    split at h
    · rcases List.mem_cons.mp h with e | h
      · rw [e]; exact List.mem_cons_self
      · exact List.mem_cons_of_mem _ (rlm_mem h)
    · exact List.mem_cons_of_mem _ (rlm_mem h)
theorem rlm_sorted : ∀ xs : List Nat, (rlm rk xs).Pairwise (fun a b => rk a < rk b)
  | [] => .nil
  | y :: ys => by
    unfold rlm
    split
    · rename_i h
      exact .cons (fun z hz => h z (rlm_mem hz)) (rlm_sorted ys)
    · exact rlm_sorted ys
theorem rlm_congr : ∀ {xs : List Nat}, (∀ x ∈ xs, ∀ y ∈ xs, (rk x < rk y ↔ rk' x < rk' y)) → rlm rk xs = rlm rk' xs
  | [], _ => rfl
  | y :: ys, h => by
    have ih := rlm_congr (xs := ys) fun x hx z hz => h x (List.mem_cons_of_mem _ hx) z (List.mem_cons_of_mem _ hz)
    have e : (∀ z ∈ ys, rk y < rk z) ↔ (∀ z ∈ ys, rk' y < rk' z) := ⟨fun q z hz => (h y List.mem_cons_self z (List.mem_cons_of_mem _ hz)).mp (q z hz), fun q z hz => (h y List.mem_cons_self z (List.mem_cons_of_mem _ hz)).mpr (q z hz)⟩
    unfold rlm
    rw [ih]
    by_cases c : ∀ z ∈ ys, rk y < rk z
    · rw [if_pos c, if_pos (e.mp c)]
    · rw [if_neg c, if_neg (fun z => c (e.mpr z))]
theorem rlm_snoc (k : Nat) : ∀ xs : List Nat, rlm rk (xs ++ [k]) = (rlm rk xs).filter (fun x => decide (rk x < rk k)) ++ [k]
  | [] => by
    show (if ∀ y ∈ ([] : List Nat), rk k < rk y then k :: rlm rk [] else rlm rk []) = _
    rw [if_pos (fun y hy => by cases hy)]; rfl
  | y :: ys => by
    have ih := rlm_snoc k ys
    show (if ∀ z ∈ ys ++ [k], rk y < rk z then y :: rlm rk (ys ++ [k]) else rlm rk (ys ++ [k])) = (if ∀ z ∈ ys, rk y < rk z then y :: rlm rk ys else rlm rk ys).filter _ ++ [k]
    rw [ih]
    by_cases c : ∀ z ∈ ys, rk y < rk z
    · rw [if_pos c]
      by_cases d : rk y < rk k
      · rw [if_pos (fun z hz => by
          rcases List.mem_append.mp hz with hz | hz
          · exact c z hz
          · rw [List.mem_singleton.mp hz]; exact d), List.filter_cons_of_pos (by simpa using d)]
        rfl
      · rw [if_neg (fun q => d (q k (List.mem_append.mpr (.inr (List.mem_singleton.mpr rfl))))), List.filter_cons_of_neg (by simpa using d)]
    · rw [if_neg c, if_neg (fun q => c fun z hz => q z (List.mem_append.mpr (.inl hz)))]
end
theorem filter_take {f : Nat → Nat} : ∀ {L : List Nat} {m x : Nat}, L.Pairwise (fun a b => f a < f b) → L[m]? = some x → L.filter (fun y => decide (f y < f x)) = L.take m
  | [], m, x, _, h => by rw [List.getElem?_nil] at h; cases h
  | a :: L, 0, x, p, h => by
    cases h
    rw [List.take_zero, List.filter_eq_nil_iff]
    intro b hb
    rcases List.mem_cons.mp hb with e | hb
    · rw [e]; simp
    · have := (List.pairwise_cons.mp p).1 b hb
      simp; omega
  | a :: L, m + 1, x, p, h => by
    rw [List.getElem?_cons_succ] at h
    have hx : x ∈ L := List.mem_of_getElem? h
    have := (List.pairwise_cons.mp p).1 x hx
    rw [List.filter_cons_of_pos (by simpa using this), List.take_succ_cons, filter_take (List.pairwise_cons.mp p).2 h]
/-! one thing put into an order -/
theorem idx_ne {a x : Nat} {l : List Nat} (h : ¬ a = x) : (a :: l).idxOf x = l.idxOf x + 1 := by
  rw [List.idxOf_cons]
  have e : (a == x) = false := by simpa using h
  rw [e]; rfl
theorem getD_at {L : List Nat} {m : Nat} (h : m < L.length) : L[m]? = some (L.getD m 0) := by
  rw [List.getD_eq_getElem?_getD, List.getElem?_eq_getElem h]; rfl
def putAt (ord : List Nat) (j k : Nat) : List Nat := ord.take j ++ k :: ord.drop j
theorem putAt_new : ∀ {ord : List Nat} {j k : Nat}, k ∉ ord → j ≤ ord.length → (putAt ord j k).idxOf k = j
  | ord, 0, k, _, _ => by
    show (k :: ord.drop 0).idxOf k = 0
    rw [List.idxOf_cons_self]
  | [], j + 1, k, _, h => by cases h
  | a :: ord, j + 1, k, hk, hj => by
    have ne : ¬ a = k := fun e => hk (by rw [e]; exact List.mem_cons_self)
    show (a :: putAt ord j k).idxOf k = j + 1
    rw [idx_ne ne, putAt_new (fun h => hk (List.mem_cons_of_mem _ h)) (Nat.le_of_succ_le_succ hj)]
theorem putAt_old : ∀ {ord : List Nat} {j k x : Nat}, k ∉ ord → j ≤ ord.length → x ∈ ord → (putAt ord j k).idxOf x = if ord.idxOf x < j then ord.idxOf x else ord.idxOf x + 1
  | [], j, k, x, _, _, h => by cases h
  | a :: ord, 0, k, x, hk, _, hx => by
    have ne : ¬ k = x := fun e => hk (by rw [e]; exact hx)
    show (k :: a :: ord).idxOf x = _
    rw [idx_ne ne, if_neg (Nat.not_lt_zero _)]
  | a :: ord, j + 1, k, x, hk, hj, hx => by
    show (a :: putAt ord j k).idxOf x = _
    by_cases e : a = x
    · rw [e, List.idxOf_cons_self, List.idxOf_cons_self, if_pos (Nat.succ_pos _)]
    · have hx' : x ∈ ord := (List.mem_cons.mp hx).resolve_left fun z => e z.symm
      rw [idx_ne e, idx_ne e, putAt_old (fun h => hk (List.mem_cons_of_mem _ h)) (Nat.le_of_succ_le_succ hj) hx']
      by_cases c : ord.idxOf x < j
      · rw [if_pos c, if_pos (Nat.succ_lt_succ c)]
      · rw [if_neg c, if_neg fun z => c (Nat.lt_of_succ_lt_succ z)]
theorem putAt_mem {ord : List Nat} {j k x : Nat} : x ∈ putAt ord j k ↔ x = k ∨ x ∈ ord := by
  unfold putAt
  rw [List.mem_append, List.mem_cons]
  have h : x ∈ ord ↔ x ∈ ord.take j ∨ x ∈ ord.drop j := by
    rw [← List.mem_append, List.take_append_drop]
  rw [h]
  constructor
  · rintro (a | a | a)
    · exact .inr (.inl a)
    · exact .inl a
    · exact .inr (.inr a)
  · rintro (a | a | a)
    · exact .inr (.inl a)
    · exact .inl a
    · exact .inr (.inr a)
theorem putAt_nd {ord : List Nat} {j k : Nat} (h : ord.Nodup) (hk : k ∉ ord) : (putAt ord j k).Nodup := by
  unfold putAt
  have e : (ord.take j ++ ord.drop j).Nodup := by rw [List.take_append_drop]; exact h
  rw [List.nodup_append] at e ⊢
  refine ⟨e.1, List.nodup_cons.mpr ⟨fun z => hk (List.mem_of_mem_drop z), e.2.1⟩, fun a ha b hb => ?_⟩
  rcases List.mem_cons.mp hb with z | hb
  · intro q
    rw [q, z] at ha
    exact hk (List.mem_of_mem_take ha)
  · exact e.2.2 a ha b hb
theorem putAt_len {ord : List Nat} {j k : Nat} : (putAt ord j k).length = ord.length + 1 := by
  unfold putAt
  rw [List.length_append, List.length_cons, List.length_take, List.length_drop]
  omega
/-! the order that the levels tell -/
def above (ps : List (Option Nat)) (lv : List Nat) (i : Nat) : List Nat :=
  match ps[i]? with
  | some (some p) => stk ps lv p
  | _ => []
theorem above_none {ps : List (Option Nat)} {lv : List Nat} {i : Nat} (h : ps[i]? = some none) : above ps lv i = [] := by unfold above; rw [h]
theorem above_some {ps : List (Option Nat)} {lv : List Nat} {i p : Nat} (h : ps[i]? = some (some p)) : above ps lv i = stk ps lv p := by unfold above; rw [h]
def ordAt (ps : List (Option Nat)) (lv : List Nat) (ord : List Nat) (i : Nat) : Nat :=
  if lv.getD i 0 ≤ (above ps lv i).length then ord.idxOf ((above ps lv i).getD (lv.getD i 0 - 1) 0) else ord.length
def ordOf (ps : List (Option Nat)) (lv : List Nat) : Nat → List Nat
  | 0 => []
  | k + 1 => putAt (ordOf ps lv k) (ordAt ps lv (ordOf ps lv k) k) k
theorem ordAt_le {ps : List (Option Nat)} {lv ord : List Nat} {i : Nat} : ordAt ps lv ord i ≤ ord.length := by
  unfold ordAt
  split
  · exact List.idxOf_le_length
  · exact Nat.le_refl _
theorem ord_inv {ps : List (Option Nat)} {lv : List Nat} (hp : Ps ps) (hv : Lv ps lv) : ∀ k, k ≤ ps.length → (ordOf ps lv k).Nodup ∧ (∀ x, x ∈ ordOf ps lv k ↔ x < k) ∧ ∀ i, i < k → stk ps lv i = rlm (fun x => (ordOf ps lv k).idxOf x) (road ps i) := by
  intro k
  induction k with
  | zero => exact fun _ => ⟨List.nodup_nil, fun x => ⟨fun z => (by cases z), fun z => absurd z (Nat.not_lt_zero _)⟩, fun i z => absurd z (Nat.not_lt_zero _)⟩
  | succ k ih =>
    intro hk
    obtain ⟨nd, hm, hs⟩ := ih (Nat.le_of_succ_le hk)
    have kn : k ∉ ordOf ps lv k := fun z => Nat.lt_irrefl _ ((hm k).mp z)
    have jl := ordAt_le (ps := ps) (lv := lv) (ord := ordOf ps lv k) (i := k)
    show (putAt _ _ k).Nodup ∧ (∀ x, x ∈ putAt _ _ k ↔ x < k + 1) ∧ ∀ i, i < k + 1 → stk ps lv i = rlm (fun x => (putAt (ordOf ps lv k) (ordAt ps lv (ordOf ps lv k) k) k).idxOf x) (road ps i)
    have hj : ordAt ps lv (ordOf ps lv k) k = if lv.getD k 0 ≤ (above ps lv k).length then (ordOf ps lv k).idxOf ((above ps lv k).getD (lv.getD k 0 - 1) 0) else (ordOf ps lv k).length := rfl
    generalize ordOf ps lv k = ord at nd hm hs kn jl hj ⊢
    generalize ordAt ps lv ord k = j at jl hj ⊢
    have old : ∀ x, x < k → (putAt ord j k).idxOf x = if ord.idxOf x < j then ord.idxOf x else ord.idxOf x + 1 := fun x hx => putAt_old kn jl ((hm x).mpr hx)
    have cg : ∀ n, n < k → rlm (fun x => (putAt ord j k).idxOf x) (road ps n) = stk ps lv n := fun n hn => by
      rw [hs n hn]
      refine rlm_congr fun x hx y hy => ?_
      have h1 := Nat.lt_of_le_of_lt (road_le hp n (by omega) x hx) hn
      have h2 := Nat.lt_of_le_of_lt (road_le hp n (by omega) y hy) hn
      show (putAt ord j k).idxOf x < (putAt ord j k).idxOf y ↔ _
      rw [old x h1, old y h2]
      split <;> split <;> omega
    refine ⟨putAt_nd nd kn, fun x => ?_, fun i hi => ?_⟩
    · rw [putAt_mem, hm]
      omega
    · by_cases hik : i < k
      · exact (cg i hik).symm
      · have e : i = k := by omega
        subst e
        have hl : lv[i]? = some (lv.getD i 0) := by
          rw [List.getD_eq_getElem?_getD, List.getElem?_eq_getElem (by rw [hv.1]; omega)]; rfl
        rcases opt_cases (ps := ps) (i := i) (by omega) with h | ⟨p, h⟩
        · rw [stk_none h, road_none h]
          show _ = rlm _ ([] ++ [i])
          rw [rlm_snoc]; rfl
        · have hpi := hp i p h
          have hlv := hv.2 i _ _ hl h
          have hml : mostLv lv (some p) = lv.getD p 0 + 1 := rfl
          have ea : above ps lv i = stk ps lv p := by unfold above; rw [h]
          have hlen := stk_len hp hv p (by omega)
          rw [stk_some hp h, road_some hp h, rlm_snoc, cg p hpi, putAt_new kn jl]
          congr 1
          rw [ea] at hj
          have flt : ∀ x ∈ stk ps lv p, decide ((putAt ord j i).idxOf x < j) = decide (ord.idxOf x < j) := fun x hx => by
            have hx2 := Nat.lt_of_le_of_lt (road_le hp p (by omega) x (stk_sub hp p (by omega) x hx)) hpi
            rw [old x hx2]
            congr 1
            refine propext ⟨fun z => ?_, fun z => ?_⟩
            · split at z <;> omega
            · rw [if_pos z]; exact z
          rw [List.filter_congr flt]
          by_cases c : lv.getD i 0 ≤ (stk ps lv p).length
          · rw [if_pos c] at hj
            have hm2 : lv.getD i 0 - 1 < (stk ps lv p).length := by omega
            have hg := getD_at hm2
            rw [hj]
            refine (filter_take ?_ hg).symm
            rw [hs p hpi]
            exact rlm_sorted _
          · rw [if_neg c] at hj
            rw [List.take_of_length_le (by omega), List.filter_eq_self.mpr]
            intro x hx
            have hx2 := Nat.lt_of_le_of_lt (road_le hp p (by omega) x (stk_sub hp p (by omega) x hx)) hpi
            have := List.idxOf_lt_length_of_mem ((hm x).mpr hx2)
            rw [hj]
            exact decide_eq_true this
/-- what the order tells of each place: its level -/
theorem ord_lv {ps : List (Option Nat)} {lv : List Nat} (hp : Ps ps) (hv : Lv ps lv) {i : Nat} (hi : i < ps.length) : (rlm (fun x => (ordOf ps lv ps.length).idxOf x) (road ps i)).length = lv.getD i 0 := by
  rw [← (ord_inv hp hv ps.length (Nat.le_refl _)).2.2 i hi]
  exact stk_len hp hv i hi
theorem ord_len {ps : List (Option Nat)} {lv : List Nat} : ∀ k, (ordOf ps lv k).length = k
  | 0 => rfl
  | k + 1 => by
    show (putAt _ _ k).length = k + 1
    rw [putAt_len, ord_len k]
theorem above_sub {ps : List (Option Nat)} {lv : List Nat} {i x : Nat} (hp : Ps ps) (hi : i < ps.length) (hx : x ∈ above ps lv i) : x < i := by
  rcases opt_cases hi with h | ⟨p, h⟩
  · rw [above_none h] at hx; cases hx
  · rw [above_some h] at hx
    have hl := hp i p h
    exact Nat.lt_of_le_of_lt (road_le hp p (Nat.lt_trans hl hi) x (stk_sub hp p (Nat.lt_trans hl hi) x hx)) hl
theorem putAt_end {ord : List Nat} {k : Nat} : putAt ord ord.length k = ord ++ [k] := by
  unfold putAt
  rw [List.take_length, List.drop_length]
/-- how many are not above any behind them -/
def cntMin : List Nat → Nat
  | [] => 0
  | x :: xs => (if ∀ y ∈ xs, x ≤ y then 1 else 0) + cntMin xs
theorem cnt_rlm {rk : Nat → Nat} : ∀ {xs : List Nat}, xs.Nodup → (∀ x ∈ xs, ∀ y ∈ xs, x ≠ y → rk x ≠ rk y) → cntMin (xs.map rk) = (rlm rk xs).length
  | [], _, _ => rfl
  | x :: xs, nd, inj => by
    have ih := cnt_rlm (xs := xs) (List.nodup_cons.mp nd).2 fun a ha b hb => inj a (List.mem_cons_of_mem _ ha) b (List.mem_cons_of_mem _ hb)
    show (if ∀ y ∈ xs.map rk, rk x ≤ y then 1 else 0) + cntMin (xs.map rk) = (if ∀ y ∈ xs, rk x < rk y then x :: rlm rk xs else rlm rk xs).length
    have e : (∀ y ∈ xs.map rk, rk x ≤ y) ↔ ∀ y ∈ xs, rk x < rk y := by
      constructor
      · intro h y hy
        have h1 := h (rk y) (List.mem_map.mpr ⟨y, hy, rfl⟩)
        have h2 := inj x List.mem_cons_self y (List.mem_cons_of_mem _ hy) fun z => (List.nodup_cons.mp nd).1 (z ▸ hy)
        omega
      · intro h z hz
        obtain ⟨y, hy, rfl⟩ := List.mem_map.mp hz
        exact Nat.le_of_lt (h y hy)
    rw [ih]
    by_cases c : ∀ y ∈ xs, rk x < rk y
    · rw [if_pos (e.mpr c), if_pos c, List.length_cons]; omega
    · rw [if_neg (fun z => c (e.mp z)), if_neg c]; omega
theorem road_nd {ps : List (Option Nat)} (hp : Ps ps) : ∀ n, n < ps.length → (road ps n).Nodup := by
  intro n
  induction n using Nat.strongRecOn with
  | ind n ih =>
    intro hn
    rcases opt_cases hn with h | ⟨p, h⟩
    · rw [road_none h]; exact List.nodup_cons.mpr ⟨fun z => (by cases z), List.nodup_nil⟩
    · have hl := hp n p h
      rw [road_some hp h, List.nodup_append]
      refine ⟨ih p hl (Nat.lt_trans hl hn), List.nodup_cons.mpr ⟨fun z => (by cases z), List.nodup_nil⟩, fun a ha b hb => ?_⟩
      rw [List.mem_singleton.mp hb]
      have := road_le hp p (Nat.lt_trans hl hn) a ha
      omega
/-- one plan's levels under a place put for another's -/
def mixLv (ps : List (Option Nat)) (l1 l2 : List Nat) (i : Nat) (at_ : Nat) : Nat := if i ∈ road ps at_ then l2.getD at_ 0 else l1.getD at_ 0
theorem mix_ok {ps : List (Option Nat)} {l1 l2 : List Nat} {i : Nat} (hp : Ps ps) (h1 : Lv ps l1) (h2 : Lv ps l2) (hi : i < ps.length)
    (hc : ∀ p, ps[i]? = some (some p) → mixLv ps l1 l2 i i ≤ mixLv ps l1 l2 i p + 1) : Lv ps ((List.range ps.length).map (mixLv ps l1 l2 i)) := by
  refine ⟨by rw [List.length_map, List.length_range], fun j l q hl hq => ?_⟩
  have hj : j < ps.length := (List.getElem?_eq_some_iff.mp hq).1
  have hg : ∀ k, k < ps.length → ((List.range ps.length).map (mixLv ps l1 l2 i)).getD k 0 = mixLv ps l1 l2 i k := fun k hk => by
    rw [List.getD_eq_getElem?_getD, List.getElem?_map, List.getElem?_range hk]; rfl
  have el : l = mixLv ps l1 l2 i j := by rw [← hg j hj, getD_of hl]
  have a1 := h1.2 j _ q (getD_at (by rw [h1.1]; exact hj)) hq
  have a2 := h2.2 j _ q (getD_at (by rw [h2.1]; exact hj)) hq
  cases q with
  | none =>
    have e : ∀ lv, mostLv lv none = 1 := fun _ => rfl
    rw [e] at a1 a2 ⊢
    rw [el]
    unfold mixLv
    split <;> omega
  | some p =>
    have hpj := hp j p hq
    have e : ∀ lv, mostLv lv (some p) = lv.getD p 0 + 1 := fun _ => rfl
    rw [e] at a1 a2 ⊢
    rw [hg p (Nat.lt_trans hpj hj), el]
    by_cases ej : j = i
    · subst ej
      refine ⟨?_, hc p hq⟩
      unfold mixLv
      split <;> omega
    · have em : i ∈ road ps j ↔ i ∈ road ps p := by
        rw [road_some hp hq, List.mem_append]
        constructor
        · rintro (h | h)
          · exact h
          · exact absurd (List.mem_singleton.mp h).symm ej
        · exact fun h => .inl h
      unfold mixLv
      by_cases c : i ∈ road ps p
      · rw [if_pos (em.mpr c), if_pos c]; exact a2
      · rw [if_neg (fun z => c (em.mp z)), if_neg c]; exact a1
theorem cnt_cons_yes {x : Nat} {t : List Nat} (c : ∀ y ∈ t, x ≤ y) : cntMin (x :: t) = 1 + cntMin t := by
  show (if ∀ y ∈ t, x ≤ y then 1 else 0) + cntMin t = _
  rw [if_pos c]
theorem cnt_cons_no {x : Nat} {t : List Nat} (c : ¬ ∀ y ∈ t, x ≤ y) : cntMin (x :: t) = cntMin t := by
  show (if ∀ y ∈ t, x ≤ y then 1 else 0) + cntMin t = _
  rw [if_neg c, Nat.zero_add]
theorem cnt_yes {l : List Nat} {i x : Nat} (h : l[i]? = some x) (c : ∀ y ∈ l.drop (i + 1), x ≤ y) : cntMin (l.drop i) = 1 + cntMin (l.drop (i + 1)) := by
  obtain ⟨hi, e⟩ := List.getElem?_eq_some_iff.mp h
  rw [List.drop_eq_getElem_cons hi, e]
  exact cnt_cons_yes c
theorem cnt_no {l : List Nat} {i x : Nat} (h : l[i]? = some x) (c : ¬ ∀ y ∈ l.drop (i + 1), x ≤ y) : cntMin (l.drop i) = cntMin (l.drop (i + 1)) := by
  obtain ⟨hi, e⟩ := List.getElem?_eq_some_iff.mp h
  rw [List.drop_eq_getElem_cons hi, e]
  exact cnt_cons_no c
end Ck
namespace Cn
open PySem PySem.Spec PyProof.Rows L2
def topS (i : Nat) : Stmt := PySem.Challenge.pw_cutnotes_k05_whole_all_levels_can_be_had.main.body.getD i (.Pass ⟨0, 0, 0, 0⟩)
abbrev sIsInt : Stmt := topS 7
abbrev sIsBtw : Stmt := topS 8
abbrev sIsLot : Stmt := topS 9
abbrev sLotOf : Stmt := topS 13
abbrev sIsPlace : Stmt := topS 14
abbrev sWay : Stmt := topS 15
abbrev sIsPlan : Stmt := topS 17
abbrev sIsCuts : Stmt := topS 18
abbrev sLevel : Stmt := topS 20
abbrev sPlanOf : Stmt := topS 19
abbrev sStacks : Stmt := topS 22
abbrev sCutsOf : Stmt := topS 21
abbrev sAbove : Stmt := topS 23
abbrev sStack : Stmt := topS 24
abbrev sNoteAt : Stmt := topS 27
abbrev sByPlace : Stmt := topS 26
abbrev sNotesOf : Stmt := topS 25
abbrev sHand : Stmt := topS 29
abbrev sDraw : Stmt := topS 30
abbrev sIs : Stmt := topS 31
abbrev sParents : Stmt := topS 32
abbrev sLawLot : Stmt := topS 33
abbrev sLevels : Stmt := topS 38
abbrev sTold : Stmt := topS 39
abbrev sMade : Stmt := topS 40
abbrev sRoad : Stmt := topS 34
abbrev sLStacks : Stmt := topS 35
abbrev sLNotes : Stmt := topS 36
abbrev sPlans : Stmt := topS 37
abbrev sLLevel : Stmt := topS 42
abbrev sPut : Stmt := topS 44
abbrev sRight : Stmt := topS 43
abbrev sInit : Stmt := inClass (topS 12) 0
abbrev sEqM : Stmt := inClass (topS 12) 1
abbrev sLaw : Stmt := topS 45
/-! heaps -/
theorem smUpd {H : Hp} {p : Addr} {o : HO} (h : H p = none) : Same H (upd H p o) := fun b x e => by
  rw [upd_ne (ne_of_none e h)]
  exact e
theorem cutTake (xs : List V) (n : Nat) : cutV xs none (some (n : Int)) = xs.take n := by
  unfold cutV
  rw [HT.sIx_none, HT.sIx_nat]
  show (xs.drop 0).take (min n xs.length - 0) = xs.take n
  rw [List.drop_zero, Nat.sub_zero]
  by_cases h : n ≤ xs.length
  · rw [Nat.min_eq_left h]
  · rw [Nat.min_eq_right (by omega), List.take_length, List.take_of_length_le (by omega)]
theorem getMap {xs : List Int} {i : Nat} {v : V} (h : (xs.map V.int)[i]? = some v) : ∃ z, xs[i]? = some z ∧ v = .int z := by
  rw [List.getElem?_map] at h
  cases e : xs[i]? with
  | none => rw [e] at h; cases h
  | some z => rw [e] at h; exact ⟨z, rfl, (Option.some.inj h).symm⟩
/-! the hand that deals -/
abbrev handL (c : Addr) (i g m t : Int) : HO := .lst [.ref c, .int i, .int g, .int m, .int t]
structure HandIn (H : Hp) (p c : Addr) (cells : List Int) : Prop where
  ob : ∃ i g m t : Int, H p = some (handL c i g m t) ∧ 0 ≤ i
  ce : H c = some (.lst (cells.map V.int))
  ne : p ≠ c
def spHand (K : PySem.W.Frag) : Sp := fun vs H Q _ => ∃ (a : Addr) (ns : List Int), vs = [.ref a] ∧ SqL K H a (ns.map V.int) ∧ ns.length ≤ 63 ∧
  ∀ (H' : Hp) (p c : Addr) (cells : List Int), Same H H' → H p = none → H c = none → HandIn H' p c cells → Q (.ref p) H'
def nHand : List Str := ["_law_script", "_law_cells", "_law_cell"]
theorem scHand : FnScope nHand ["_law_script"] (defScope sHand) := ⟨rfl, rfl, rfl, by decide +kernel, rfl, by decide +kernel, by decide +kernel⟩
section
variable {P : Program} {w : World} {K : PySem.W.Frag} {mg : Str → Option Value} {base : Heap}
theorem ok_hand {f : Addr} {fd : FuncData} (F : Fun K "_law_hand" "_law_hand" sHand f fd) (mAbs : mg "abs" = none) (mInt : mg "int" = none) (mLen : mg "len" = none) : FnOk P w K mg base CX0 1 f fd ["_law_script"] (spHand K) := by
  refine F.ok scHand (fun vs H Q E h => ?_) (fun cdv A outer s H vs Q E hr h => ?_)
  · obtain ⟨a, ns, rfl, _⟩ := h
    rfl
  · obtain ⟨a, ns, rfl, hS, hlen, k⟩ := h
    refine ⟨_, pss_cons (ps_setLc (i := 1) (own := [("_law_cell", 2)]) (g := gName 2) (tt := tYes) rfl scHand.nd rfl rfl (sw_true rfl rfl rfl (by decide +kernel))
        (pi_list (pe_slice sl_list (pv 0) po_none (po_some pe_int))) (blkOk_by (N := nHand) (sc := defScope sHand) (by decide +kernel))
        (fun _ _ _ _ _ => pg_name (i := 2) scHand.nd rfl (Or.inl rfl)) (fun _ _ _ _ _ => pts_nil)
        (fun _ _ _ _ _ => pe_callB call_abs (by rfl) mAbs (by decide +kernel) (pa_cons (pe_callTy call_int1 (by rfl) mInt (by decide +kernel) (pa_cons (pv 2) pa_nil)) pa_nil)))
      (pss_one (ps_ret (pe_lst (pa_cons (pv 1) (pa_cons pe_int (pa_cons pe_int (pa_cons (pe_op op_add pe_int (pe_callB call_len_seq (by rfl) mLen PySem.boot_len (pa_cons (pv 1) pa_nil))) (pa_cons pe_int pa_nil)))))))), ?_⟩
    refine ⟨.ref a, rfl, 63, rfl, a, ns.map V.int, rfl, hS, fun q nq => ?_⟩
    have ex : cutV (ns.map V.int) none (some 63) = (ns.take 63).map V.int := by
      rw [show (some (63 : Int)) = some ((63 : Nat) : Int) from rfl, cutTake, List.map_take]
    rw [ex]
    have s1 : Same H (upd H q (.lst ((ns.take 63).map V.int))) := smUpd nq
    refine ⟨_, rfl, ⟨_, .inl (.inl upd_same)⟩, fun D nD => ?_⟩
    have nDq : D ≠ q := fun e => by rw [e, upd_same] at nD; cases nD
    refine lc_list (K := K) (a := q) (xs := (ns.take 63).map V.int) (fun i H' => Same (upd H q (.lst ((ns.take 63).map V.int))) H' ∧ ∃ cs : List Int, H' D = some (.lst (cs.map V.int)) ∧ cs.length = i) ?_ ?_ ?_ ?_
    · exact ⟨smUpd nD, [], upd_same, rfl⟩
    · rintro i H' _ ⟨sm, _⟩
      exact .inl (.inl (sm _ _ upd_same))
    · rintro i x H' hx ⟨sm, cs, hD, hl⟩
      obtain ⟨z, hz, rfl⟩ := getMap hx
      have hi : i < 63 := by
        have e := (List.getElem?_eq_some_iff.mp hz).1
        rw [List.length_take] at e
        omega
      refine ⟨rfl, ⟨_, rfl, .inl ⟨z, rfl, z, rfl, cs.map V.int, hD, ?_, fun b o e => ?_, cs ++ [if z < 0 then -z else z], ?_, ?_⟩⟩⟩
      · rw [List.length_map]; exact small1000 (by omega)
      · have nb : b ≠ D := fun e' => by rw [e', nD] at e; cases e
        rw [upd_ne nb]
        exact sm b o e
      · rw [upd_same, List.map_append]; rfl
      · rw [List.length_append, hl]; rfl
    · rintro H' ⟨sm, cs, hD, hl⟩
      refine ⟨_, rfl, .ref D, rfl, D, cs.map V.int, rfl, .inl (.inl (.inl hD)), 1, _, rfl, rfl, by show 5 ≤ sizeLine; decide, fun p np => ?_⟩
      have npD : p ≠ D := fun e => by rw [e, hD] at np; cases np
      refine k _ p D cs (fun b o e => ?_) ?_ ?_ ⟨⟨0, 0, _, 0, upd_same, by decide⟩, by rw [upd_ne npD.symm]; exact hD, npD⟩
      · have e1 := sm b o (s1 b o e)
        rw [upd_ne (ne_of_none e1 np)]
        exact e1
      · cases e : H p with
        | none => rfl
        | some o => rw [sm p o (s1 p o e)] at np; cases np
      · cases e : H D with
        | none => rfl
        | some o => rw [s1 D o e] at nD; cases nD
end
end Cn
namespace Cn
open PySem PySem.Spec PyProof.Rows L2
/-! a statement, then the rest, by a word of what stands between -/
def tMid (t u : TS) : TS := fun D σ H => ∃ R : L2.St → Hp → Prop, t { nx := R, rt := D.rt, bk := D.bk, ct := D.ct } σ H ∧ ∀ σ2 H2, R σ2 H2 → u D σ2 H2
theorem psMid {X : Cx} {st : Stmt} {rest : List Stmt} {t u : TS} (a : PS X st t) (b : PSs X rest u) : PSs X (st :: rest) (tMid t u) := by
  constructor
  intro pins s σ H D I h
  obtain ⟨R, h1, h2⟩ := h
  refine wpAny_execs_cons (thn (a.run pins s σ H _ I h1) fun fl s1 q => ?_)
  cases fl with
  | next =>
    obtain ⟨σ2, H2, I2, q2⟩ := q
    exact b.run pins s1 σ2 H2 D I2 (h2 σ2 H2 q2)
  | brk => exact q
  | cont => exact q
  | ret u => exact q
def spDraw : Sp := fun vs H Q _ => ∃ (p c : Addr) (cells : List Int) (k : Int), vs = [.ref p, .int k] ∧ HandIn H p c cells ∧ 0 < k ∧ k < 1073741824 ∧
  ∀ (d i g m t : Int), 0 ≤ d → d < k → 0 ≤ i → Q (.int d) (upd H p (handL c i g m t))
def nDraw : List Str := ["_law_hand_here", "_law_many", "_law_cell", "_law_digit", "_law_number"]
theorem scDraw : FnScope nDraw ["_law_hand_here", "_law_many"] (defScope sDraw) := ⟨rfl, rfl, rfl, by decide +kernel, rfl, by decide +kernel, by decide +kernel⟩
theorem fmB {a k : Int} (h : 0 < k) : 0 ≤ a.fmod k ∧ a.fmod k < k := ⟨Int.fmod_nonneg_of_pos a h, Int.fmod_lt_of_pos a h⟩
theorem atNat {cs : List Int} {i : Int} (h0 : 0 ≤ i) (h1 : i < ((cs.map V.int).length : Int)) : ∃ z, atI (cs.map V.int) i = some (.int z) := by
  obtain ⟨n, rfl⟩ := Int.eq_ofNat_of_zero_le h0
  rw [List.length_map] at h1
  have hn : n < cs.length := by omega
  refine ⟨cs[n], ?_⟩
  unfold atI ixN
  rw [if_pos (by omega), List.length_map, if_pos (by omega)]
  show (cs.map V.int)[((n : Nat) : Int).toNat]? = _
  rw [Int.toNat_natCast, List.getElem?_map, List.getElem?_eq_getElem hn]
  rfl
section
variable {P : Program} {w : World} {K : PySem.W.Frag} {mg : Str → Option Value} {base : Heap}
theorem ok_draw {f : Addr} {fd : FuncData} (F : Fun K "_law_draw" "_law_draw" sDraw f fd) (mInt : mg "int" = none) (mLen : mg "len" = none) : FnOk P w K mg base CX0 1 f fd ["_law_hand_here", "_law_many"] spDraw := by
  refine F.ok scDraw (fun vs H Q E h => ?_) (fun cdv A outer s H vs Q E hr h => ?_)
  · obtain ⟨p, c, cells, k, rfl, _⟩ := h
    rfl
  · obtain ⟨p, c, cells, k, rfl, hI, k0, k1, q⟩ := h
    refine ⟨_, psMid (ps_if (PW.pt (pw_and (pt_cmpR op_eq (pe_ix ix_list (pv 0) pe_int (fun _ _ => rfl)) pe_int (nomark _))
            (pw_and1 (pt_cmpR op_lt (pe_ix ix_list (pv 0) pe_int (fun _ _ => rfl)) (pe_callB call_len_seq (by rfl) mLen PySem.boot_len (pa_cons (pe_ix ix_list (pv 0) pe_int (fun _ _ => rfl)) pa_nil)) (nomark _)))))
        (pss_cons (ps_set (i := 2) scDraw.nd rfl (Or.inl rfl) (pe_ix ix_list (pe_ix ix_list (pv 0) pe_int (fun _ _ => rfl)) (pe_ix ix_list (pv 0) pe_int (fun _ _ => rfl)) (fun _ _ => rfl)))
        (pss_cons (ps_asg (pe_op op_add (pe_ix ix_list (pv 0) pe_int (fun _ _ => rfl)) pe_int) (pg_sub (pv 0) pe_int set_list))
        (pss_cons (ps_asg (pe_op op_modN (pe_callTy call_int1 (by rfl) mInt (by decide +kernel) (pa_cons (pe_op op_add (pe_op op_add (pe_op op_mul (pe_ix ix_list (pv 0) pe_int (fun _ _ => rfl)) pe_int) (pv 2)) pe_int) pa_nil)) pe_int) (pg_sub (pv 0) pe_int set_list))
        (pss_one (ps_if (pt_cmpR op_ge (pv 2) (pe_op op_pow pe_int pe_int) (nomark _)) (pss_one (ps_asg (pv 2) (pg_sub (pv 0) pe_int set_list))) pss_nil)))))
        pss_nil)
      (pss_cons (ps_if (pt_cmpR op_gt (pe_ix ix_list (pv 0) pe_int (fun _ _ => rfl)) pe_int (nomark _))
        (pss_cons (ps_set (i := 3) scDraw.nd rfl (Or.inl rfl) (pe_op op_modN (pe_callTy call_int1 (by rfl) mInt (by decide +kernel) (pa_cons (pe_ix ix_list (pv 0) pe_int (fun _ _ => rfl)) pa_nil)) (pv 1)))
        (pss_cons (ps_asg (pe_op op_fdivN (pe_ix ix_list (pv 0) pe_int (fun _ _ => rfl)) (pv 1)) (pg_sub (pv 0) pe_int set_list))
        (pss_one (ps_ret (pv 3))))) pss_nil)
      (pss_cons (ps_asg (pe_op op_add (pe_ix ix_list (pv 0) pe_int (fun _ _ => rfl)) pe_int) (pg_sub (pv 0) pe_int set_list))
      (pss_cons (ps_set (i := 4) scDraw.nd rfl (Or.inl rfl) (pe_op op_modN (pe_callTy call_int1 (by rfl) mInt (by decide +kernel) (pa_cons (pe_op op_mul (pe_callTy call_int1 (by rfl) mInt (by decide +kernel) (pa_cons (pe_op op_add (pe_ix ix_list (pv 0) pe_int (fun _ _ => rfl)) (pe_op op_mul pe_int (pe_ix ix_list (pv 0) pe_int (fun _ _ => rfl)))) pa_nil)) pe_int) pa_nil)) pe_int))
      (pss_cons (ps_set (i := 4) scDraw.nd rfl (Or.inl rfl) (pe_op op_modN (pe_callTy call_int1 (by rfl) mInt (by decide +kernel) (pa_cons (pe_op op_mul (pv 4) (pe_op op_add (pe_op op_fdivN (pv 4) pe_int) pe_int)) pa_nil)) pe_int))
      (pss_cons (ps_set (i := 4) scDraw.nd rfl (Or.inl rfl) (pe_op op_modN (pe_callTy call_int1 (by rfl) mInt (by decide +kernel) (pa_cons (pe_op op_mul (pv 4) (pe_op op_add (pe_op op_fdivN (pv 4) pe_int) pe_int)) pa_nil)) pe_int))
      (pss_one (ps_ret (pe_op op_modN (pe_callTy call_int1 (by rfl) mInt (by decide +kernel) (pa_cons (pe_op op_fdivN (pv 4) pe_int) pa_nil)) (pv 1))))))))), ?_⟩
    obtain ⟨⟨i, g, m, t, hp, hi⟩, hc, ne⟩ := hI
    have sq : ∀ {H' : Hp} {a : Addr} {xs : List V}, H' a = some (.lst xs) → SqL K H' a xs := fun h => .inl (.inl h)
    have kn : k ≠ 0 := by omega
    have kb : k.natAbs < 1073741824 := by omega
    refine ⟨fun σ2 H2 => ∃ (cl : Option V) (i g m t : Int), 0 ≤ i ∧ σ2 = [some (.ref p), some (.int k), cl, none, none] ∧ H2 = upd H p (handL c i g m t), ?_, ?_⟩
    · have same : upd H p (handL c i g m t) = H := by
        funext b
        by_cases e : b = p
        · rw [e, upd_same, hp]
        · rw [upd_ne e]
      refine ⟨_, rfl, p, _, 2, _, rfl, rfl, sq hp, rfl, rfl, _, rfl, ?_⟩
      refine ite2 (fun _ => ?_) (fun _ => ⟨none, i, g, m, t, hi, rfl, same.symm⟩)
      refine ⟨_, rfl, p, _, 1, _, rfl, rfl, sq hp, rfl, _, rfl, p, _, 0, _, rfl, rfl, sq hp, rfl, c, _, rfl, .inl (sq hc), i, _, rfl, rfl, _, rfl, ?_⟩
      refine ite2 (fun hlt => ?_) (fun _ => ⟨none, i, g, m, t, hi, rfl, same.symm⟩)
      obtain ⟨z, hz⟩ := atNat hi (of_decide_eq_true hlt)
      refine ⟨_, rfl, p, _, 0, _, rfl, rfl, sq hp, rfl, _, rfl, p, _, 1, _, rfl, rfl, sq hp, rfl, c, _, i, _, rfl, rfl, sq hc, hz, ?_⟩
      refine ⟨_, rfl, p, _, 1, _, rfl, rfl, sq hp, rfl, _, _, rfl, rfl, _, rfl, p, _, 1, 1, rfl, rfl, hp, rfl, ?_⟩
      have st : ∀ (j : Nat) (v : V) (i g m t : Int), upd (upd H p (handL c i g m t)) p (.lst (List.set [.ref c, .int i, .int g, .int m, .int t] j v)) = upd H p (.lst (List.set [.ref c, .int i, .int g, .int m, .int t] j v)) := fun _ _ _ _ _ _ => upd_upd
      have s1 : upd H p (.lst (List.set [.ref c, .int i, .int g, .int m, .int t] 1 (.int (i + 1)))) = upd H p (handL c (i + 1) g m t) := rfl
      rw [s1]
      refine ⟨_, rfl, p, _, 3, _, rfl, rfl, sq upd_same, rfl, _, _, rfl, rfl, .inr (by decide), _, rfl, _, _, rfl, rfl, _, _, rfl, rfl, .inl ⟨_, rfl, _, _, rfl, rfl, (show (2147483629 : Int) ≠ 0 by decide), _, rfl, p, _, 3, 3, rfl, rfl, upd_same, rfl, ?_⟩⟩
      rw [st]
      refine ⟨_, rfl, _, _, rfl, rfl, ⟨by decide, by decide, by decide⟩, _, _, rfl, rfl, _, rfl, ?_⟩
      refine ite2 (fun _ => ?_) (fun _ => ⟨_, i + 1, g, _, t, by omega, rfl, rfl⟩)
      refine ⟨_, rfl, _, rfl, p, _, 2, 2, rfl, rfl, upd_same, rfl, ?_⟩
      exact ⟨_, i + 1, z, _, t, by omega, rfl, upd_upd⟩
    · rintro σ2 H2 ⟨cl, i, g, m, t, hi, rfl, rfl⟩
      have hp : upd H p (handL c i g m t) p = some (handL c i g m t) := upd_same
      refine ⟨_, rfl, p, _, 2, _, rfl, rfl, sq hp, rfl, _, _, rfl, rfl, _, rfl, ?_⟩
      refine ite2 (fun _ => ?_) (fun _ => ?_)
      · refine ⟨_, rfl, p, _, 2, _, rfl, rfl, sq hp, rfl, .inl ⟨_, rfl, _, rfl, _, _, rfl, rfl, kn, ?_⟩⟩
        refine ⟨_, rfl, p, _, 2, _, rfl, rfl, sq hp, rfl, _, rfl, _, _, rfl, rfl, ⟨kn, kb⟩, _, rfl, p, _, 2, 2, rfl, rfl, hp, rfl, _, rfl, ?_⟩
        rw [upd_upd]
        exact q _ i _ m t (fmB k0).1 (fmB k0).2 hi
      · refine ⟨_, rfl, p, _, 4, _, rfl, rfl, sq hp, rfl, _, _, rfl, rfl, _, rfl, p, _, 4, 4, rfl, rfl, hp, rfl, ?_⟩
        rw [upd_upd]
        refine ⟨_, rfl, p, _, 3, _, rfl, rfl, sq upd_same, rfl, _, rfl, p, _, 4, _, rfl, rfl, sq upd_same, rfl, _, _, rfl, rfl, .inl (by decide), _, _, rfl, rfl, .inl ⟨_, rfl, _, _, rfl, rfl, .inr (by decide), .inl ⟨_, rfl, _, _, rfl, rfl, (show (2147483647 : Int) ≠ 0 by decide), ?_⟩⟩⟩
        have b1 := fmB (a := (m + 7919 * (t + 1)) * 48271) (k := 2147483647) (by decide)
        refine ⟨_, rfl, _, rfl, _, _, rfl, rfl, ⟨by decide, by decide⟩, _, _, rfl, rfl, _, _, rfl, rfl, .inl ⟨by omega, by omega⟩, .inl ⟨_, rfl, _, _, rfl, rfl, (show (2147483647 : Int) ≠ 0 by decide), ?_⟩⟩
        have b2 := fmB (a := ((m + 7919 * (t + 1)) * 48271).fmod 2147483647 * ((((m + 7919 * (t + 1)) * 48271).fmod 2147483647).fdiv 1009 + 69621)) (k := 2147483647) (by decide)
        refine ⟨_, rfl, _, rfl, _, _, rfl, rfl, ⟨by decide, by decide⟩, _, _, rfl, rfl, _, _, rfl, rfl, .inl ⟨by omega, by omega⟩, .inl ⟨_, rfl, _, _, rfl, rfl, (show (2147483399 : Int) ≠ 0 by decide), ?_⟩⟩
        refine ⟨_, rfl, _, _, rfl, rfl, ⟨by decide, by decide⟩, .inl ⟨_, rfl, _, rfl, _, _, rfl, rfl, kn, ?_⟩⟩
        exact q _ i g m (t + 1) (fmB k0).1 (fmB k0).2 hi
end
end Cn
namespace Cn
open PySem PySem.Spec PyProof.Rows L2
theorem small4000 {n : Nat} (h : n ≤ 4000) : n < sizeLine := Nat.lt_of_le_of_lt h (by decide)
theorem OpR.orr {X : Cx} {f : Value → Value → Sem Value} {r r2 : R2} (h : OpR X f r) (k : OpR X f r2) : OpR X f (fun x y H Q => r x y H Q ∨ r2 x y H Q) := by
  intro pins s σ H x y v u Q I rx ry q
  rcases q with q | q
  · exact h pins s σ H x y v u Q I rx ry q
  · exact k pins s σ H x y v u Q I rx ry q
/-! two things that are alike, of nesting at most n: flat ones and dicts are the same -/
def DictOk (H : Hp) (x : V) : Prop := ∃ a kvs, x = .ref a ∧ H a = some (.dK kvs) ∧ (kvs = [] ∨ ∃ k u, kvs = [(k, u)] ∧ (flatV u = true ∨ ∃ b, u = .ref b))
def EqG (H : Hp) : Nat → V → V → Prop
  | 0 => fun x y => x = y ∧ (flatV x = true ∨ DictOk H x)
  | n + 1 => fun x y => EqG H n x y ∨ ∃ a b xs ys, x = .ref a ∧ y = .ref b ∧ ((H a = some (.lst xs) ∧ H b = some (.lst ys)) ∨ (H a = some (.tup xs) ∧ H b = some (.tup ys))) ∧ xs.length ≤ 4000 ∧ Paired (EqG H n) xs ys
theorem pairedSelf {F : V → V → Prop} : ∀ {xs : List V}, (∀ x ∈ xs, F x x) → Paired F xs xs
  | [], _ => .nil
  | x :: xs, h => .cons (h x List.mem_cons_self) (pairedSelf fun y hy => h y (List.mem_cons_of_mem _ hy))
theorem eqG_same {H H' : Hp} (s : Same H H') : ∀ {n : Nat} {x y : V}, EqG H n x y → EqG H' n x y
  | 0, x, y, h => by
    obtain ⟨e, h | ⟨a, kvs, e2, ha, hk⟩⟩ := h
    · exact ⟨e, .inl h⟩
    · exact ⟨e, .inr ⟨a, kvs, e2, s _ _ ha, hk⟩⟩
  | n + 1, x, y, h => by
    rcases h with h | ⟨a, b, xs, ys, e1, e2, h, hl, hp⟩
    · exact .inl (eqG_same s h)
    · exact .inr ⟨a, b, xs, ys, e1, e2, h.imp (fun z => ⟨s _ _ z.1, s _ _ z.2⟩) (fun z => ⟨s _ _ z.1, s _ _ z.2⟩), hl, Paired.mapP hp fun _ _ z => eqG_same s z⟩
/-- told and due, alike: True comes out, new things apart nothing is changed -/
def spIs (n : Nat) : Sp := fun vs H Q _ => ∃ (x y : V), vs = [x, y] ∧ EqG H n x y ∧ ∀ H', Same H H' → Q (.bl true) H'
/-- all([..]) over two lists, or two tuples, of things alike -/
def tAllIs (n : Nat) : TE := fun σ H Q => ∃ a b xs ys, σ[0]? = some (some (.ref a)) ∧ σ[1]? = some (some (.ref b)) ∧ ((H a = some (.lst xs) ∧ H b = some (.lst ys)) ∨ (H a = some (.tup xs) ∧ H b = some (.tup ys))) ∧ xs.length ≤ 4000 ∧ Paired (EqG H n) xs ys ∧ ∀ H', Same H H' → Q (.bl true) H'
/-! types -/
theorem kit2 {K : PySem.W.Frag} {T : String} {b : Bool} (h : ((kitB T "tuple").bind fun a => if a then some true else kitB T "list") = some b) : PySem.W.kitAny K (.type T) [.type "tuple", .type "list"] = some b := by
  cases e : kitB T "tuple" with
  | none => rw [e] at h; cases h
  | some a =>
    rw [e] at h
    cases a with
    | true =>
      have hb : b = true := (Option.some.inj h).symm
      subst hb
      exact kitAny_cons (kit_ty e) (fun z => nomatch z) fun _ => rfl
    | false =>
      have h : kitB T "list" = some b := h
      refine kitAny_cons (kit_ty e) (fun _ => kitAny_cons (kit_ty h) (fun z => ?_) (fun z => z)) (fun z => nomatch z)
      rw [z]; exact kitAny_nil
/-- a thing that is no list and no tuple -/
theorem leafTy {K : PySem.W.Frag} {H : Hp} {x : V} (h : flatV x = true ∨ DictOk H x) : ∃ T b, TyX K H x (.type T) ∧ PySem.W.kitAny K (.type T) [.type "tuple", .type "list"] = some false ∧ PySem.W.kitOne K (.type T) (.type "bool") = some b := by
  rcases h with h | ⟨a, kvs, rfl, ha, _⟩
  · cases x with
    | non => exact ⟨"NoneType", false, .base .non, kit2 (by decide +kernel), kit_ty (by decide +kernel)⟩
    | bl b => exact ⟨"bool", true, .base (.bl b), kit2 (by decide +kernel), kit_ty (by decide +kernel)⟩
    | int i => exact ⟨"int", false, .base (.int i), kit2 (by decide +kernel), kit_ty (by decide +kernel)⟩
    | str z => exact ⟨"str", false, .base (.str z), kit2 (by decide +kernel), kit_ty (by decide +kernel)⟩
    | _ => cases h
  · exact ⟨"dict", false, .base (.dK ha), kit2 (by decide +kernel), kit_ty (by decide +kernel)⟩
theorem seqTy {K : PySem.W.Frag} {H : Hp} {a : Addr} {xs : List V} {tu : Bool} (h : if tu = true then H a = some (.tup xs) else H a = some (.lst xs)) : ∃ T, TyX K H (.ref a) (.type T) ∧ PySem.W.kitAny K (.type T) [.type "tuple", .type "list"] = some true ∧ PySem.W.kitOne K (.type T) (.type "tuple") = some tu := by
  cases tu with
  | true => exact ⟨"tuple", .base (.tup (by simpa using h)), kit2 (by decide +kernel), kit_ty (by decide +kernel)⟩
  | false => exact ⟨"list", .base (.lst (by simpa using h)), kit2 (by decide +kernel), kit_ty (by decide +kernel)⟩
end Cn
namespace Cn
open PySem PySem.Spec PyProof.Rows L2
/-! comprehensions over zip -/
section
variable {K : PySem.W.Frag} {a b D : Addr} {xs ys : List V} {g : TG} {tt : TT} {te : TE} {vs : List Nat} {σ : L2.St} {H1 : Hp} {Qd : Hp → Prop}
def ZipTurn (Pv : Nat → Hp → Prop) (D : Addr) (g : TG) (tt : TT) (te : TE) (vs : List Nat) (σ : L2.St) (i : Nat) (x y : V) : Prop := ∀ (T : Addr) (H : Hp), Pv i H → H T = none → g (.ref T) (wipe σ vs) (upd H T (.tup [x, y])) fun σ2 H2 => wipe σ2 vs = wipe σ vs ∧ tt σ2 H2 fun k H3 =>
  if k = true then te σ2 H3 fun z H4 => ∃ acc, H4 D = some (.lst acc) ∧ acc.length < sizeLine ∧ Pv (i + 1) (upd H4 D (.lst (acc ++ [z]))) else Pv (i + 1) H3
theorem lcZipL (hl : xs.length = ys.length) (Pv : Nat → Hp → Prop) (h0 : Pv 0 (upd H1 D (.lst []))) (hq : ∀ i H, Pv i H → SqL K H a xs ∧ SqL K H b ys) (hs : ∀ i x y, xs[i]? = some x → ys[i]? = some y → ZipTurn Pv D g tt te vs σ i x y) (hd : ∀ H, Pv xs.length H → Qd H) :
    ∃ W : Nat → Nat → Hp → Prop, (∃ m, W 0 m (upd H1 D (.lst []))) ∧ ∀ i m H, W i m H → ((Itz K a b).stop i H ∧ Qd H) ∨ ((Itz K a b).go i H ∧ ∃ Nx : Hp → Prop, (∀ H', Nx H' → ∃ m', m' < m ∧ W (i + 1) m' H') ∧ ∀ x H', (Itz K a b).yld i H x H' → g x (wipe σ vs) H' fun σ2 H2 => wipe σ2 vs = wipe σ vs ∧ tt σ2 H2 fun k H3 =>
      if k = true then te σ2 H3 fun z H4 => ∃ acc, H4 D = some (.lst acc) ∧ acc.length < sizeLine ∧ Nx (upd H4 D (.lst (acc ++ [z]))) else Nx H3) := by
  refine ⟨fun i m H => m = xs.length - i ∧ i ≤ xs.length ∧ Pv i H, ⟨_, rfl, Nat.zero_le _, h0⟩, ?_⟩
  rintro i m H ⟨rfl, hi, p⟩
  obtain ⟨qa, qb⟩ := hq i H p
  rcases Nat.lt_or_ge i xs.length with lt | ge
  · have ea : xs[i]? = some xs[i] := List.getElem?_eq_getElem lt
    have lt2 : i < ys.length := by omega
    have eb : ys[i]? = some ys[i] := List.getElem?_eq_getElem lt2
    refine .inr ⟨⟨xs, ys, _, _, qa, qb, ea, eb⟩, Pv (i + 1), fun H' p' => ⟨xs.length - (i + 1), by omega, rfl, lt, p'⟩, ?_⟩
    rintro v H' ⟨T, u, z, rfl, nT, rfl, k1, k2⟩
    exact hs i u z (k1 xs qa) (k2 ys qb) T H p nT
  · have e : i = xs.length := by omega
    subst e
    exact .inl ⟨⟨xs, ys, qa, qb, .inl (Nat.le_refl _)⟩, hd H p⟩
theorem lcZipT (hl : xs.length = ys.length) (Pv : Nat → Hp → Prop) (h0 : Pv 0 (upd H1 D (.lst []))) (hq : ∀ i H, Pv i H → SqT K H a xs ∧ SqT K H b ys) (hs : ∀ i x y, xs[i]? = some x → ys[i]? = some y → ZipTurn Pv D g tt te vs σ i x y) (hd : ∀ H, Pv xs.length H → Qd H) :
    ∃ W : Nat → Nat → Hp → Prop, (∃ m, W 0 m (upd H1 D (.lst []))) ∧ ∀ i m H, W i m H → ((RZ.ItzT K a b).stop i H ∧ Qd H) ∨ ((RZ.ItzT K a b).go i H ∧ ∃ Nx : Hp → Prop, (∀ H', Nx H' → ∃ m', m' < m ∧ W (i + 1) m' H') ∧ ∀ x H', (RZ.ItzT K a b).yld i H x H' → g x (wipe σ vs) H' fun σ2 H2 => wipe σ2 vs = wipe σ vs ∧ tt σ2 H2 fun k H3 =>
      if k = true then te σ2 H3 fun z H4 => ∃ acc, H4 D = some (.lst acc) ∧ acc.length < sizeLine ∧ Nx (upd H4 D (.lst (acc ++ [z]))) else Nx H3) := by
  refine ⟨fun i m H => m = xs.length - i ∧ i ≤ xs.length ∧ Pv i H, ⟨_, rfl, Nat.zero_le _, h0⟩, ?_⟩
  rintro i m H ⟨rfl, hi, p⟩
  obtain ⟨qa, qb⟩ := hq i H p
  rcases Nat.lt_or_ge i xs.length with lt | ge
  · have ea : xs[i]? = some xs[i] := List.getElem?_eq_getElem lt
    have lt2 : i < ys.length := by omega
    have eb : ys[i]? = some ys[i] := List.getElem?_eq_getElem lt2
    refine .inr ⟨⟨xs, ys, _, _, qa, qb, ea, eb⟩, Pv (i + 1), fun H' p' => ⟨xs.length - (i + 1), by omega, rfl, lt, p'⟩, ?_⟩
    rintro v H' ⟨T, u, z, rfl, nT, rfl, k1, k2⟩
    exact hs i u z (k1 xs qa) (k2 ys qb) T H p nT
  · have e : i = xs.length := by omega
    subst e
    exact .inl ⟨⟨xs, ys, qa, qb, .inl (Nat.le_refl _)⟩, hd H p⟩
end
theorem pairedAt {F : V → V → Prop} : ∀ {xs ys : List V}, Paired F xs ys → ∀ {i : Nat} {x y : V}, xs[i]? = some x → ys[i]? = some y → F x y
  | _, _, .nil, i, x, y, h, _ => by simp at h
  | _, _, .cons h t, 0, x, y, h1, h2 => by
    cases (Option.some.inj h1)
    cases (Option.some.inj h2)
    exact h
  | _, _, .cons _ t, i + 1, x, y, h1, h2 => pairedAt t (i := i) (by simpa using h1) (by simpa using h2)
section
variable {P : Program} {w : World} {K : PySem.W.Frag} {mg : Str → Option Value} {base : Heap}
structure IsTxt (mg : Str → Option Value) : Prop where
  inst : mg "isinstance" = none
  tup : mg "tuple" = none
  lst : mg "list" = none
  bool : mg "bool" = none
  len : mg "len" = none
  all : mg "all" = none
  zip : mg "zip" = none
/-- the turn of the comprehension, by the promise of the next depth -/
theorem isTurn {n : Nat} {K' : PySem.W.Frag} {D : Addr} {xs ys : List V} {H0 : Hp} {u0 u1 z2 z3 : Option V} (hp : Paired (EqG H0 n) xs ys) (hx : xs.length ≤ 4000) (nD : H0 D = none) (i : Nat) (x y : V) (h1 : xs[i]? = some x) (h2 : ys[i]? = some y) :
    ZipTurn (fun i H' => Same H0 H' ∧ H' D = some (.lst ((List.replicate i true).map V.bl))) D (gTup K' 2 (gCons (gName 2) (gCons (gName 3) gNil))) tYes (tCall (spIs n) [] (fun _ _ _ => False) (tCons (tVar 2) (tCons (tVar 3) tNil))) [2, 3] [u0, u1, z2, z3] i x y := by
  rintro T H ⟨sm, hD⟩ nT
  have hi : i < 4000 := Nat.lt_of_lt_of_le (List.getElem?_eq_some_iff.mp h1).1 hx
  have sT : Same H (upd H T (.tup [x, y])) := smUpd nT
  refine ⟨T, [x, y], rfl, .inl (.inl upd_same), rfl, x, [y], rfl, y, [], rfl, rfl, rfl, x, rfl, y, rfl, x, y, rfl, eqG_same (sm.trans sT) (pairedAt hp h1 h2), fun H' s' => ?_⟩
  have hD' : H' D = some (.lst ((List.replicate i true).map V.bl)) := s' _ _ (sT _ _ hD)
  refine ⟨_, hD', by rw [List.length_map, List.length_replicate]; exact small4000 (by omega), fun b o e => ?_, ?_⟩
  · have nb : b ≠ D := fun z => by rw [z, nD] at e; cases e
    rw [upd_ne nb]
    exact s' _ _ (sT _ _ (sm _ _ e))
  · rw [upd_same, show List.replicate (i + 1) true = List.replicate i true ++ [true] from List.replicate_succ', List.map_append]
    rfl
theorem allRep (n : Nat) : (List.replicate n true).all id = true := by
  induction n with
  | zero => rfl
  | succ n ih => rw [List.replicate_succ, List.all_cons, ih]; rfl
theorem sameT {K : PySem.W.Frag} {H H' : Hp} {a : Addr} {xs : List V} (s : Same H H') (h : SqT K H a xs) : SqT K H' a xs := h.imp (fun r => r.imp (s _ _) (fun ⟨o, e⟩ => ⟨o, s _ _ e⟩)) (fun z => z)
theorem eqG_up {H : Hp} {n m : Nat} {x y : V} (h : EqG H n x y) (hm : n ≤ m) : EqG H m x y := by
  induction m with
  | zero =>
    have e : n = 0 := by omega
    rw [← e]; exact h
  | succ m ih =>
    by_cases e : n = m + 1
    · rw [← e]; exact h
    · exact .inl (ih (by omega))
theorem eqG_cases {H : Hp} : ∀ {n : Nat} {x y : V}, EqG H n x y → (x = y ∧ (flatV x = true ∨ DictOk H x)) ∨ ∃ m, n = m + 1 ∧ ∃ a b xs ys, x = .ref a ∧ y = .ref b ∧ ((H a = some (.lst xs) ∧ H b = some (.lst ys)) ∨ (H a = some (.tup xs) ∧ H b = some (.tup ys))) ∧ xs.length ≤ 4000 ∧ Paired (EqG H m) xs ys
  | 0, x, y, h => .inl h
  | n + 1, x, y, h => by
    rcases h with h | ⟨a, b, xs, ys, h⟩
    · rcases eqG_cases h with z | ⟨m, e, a, b, xs, ys, e1, e2, e3, e4, e5⟩
      · exact .inl z
      · exact .inr ⟨n, rfl, a, b, xs, ys, e1, e2, e3, e4, Paired.mapP e5 fun _ _ q => eqG_up q (by omega)⟩
    · exact .inr ⟨n, rfl, a, b, xs, ys, h⟩
/-- by the depth: nothing at 0 -/
def spJ : Nat → Sp
  | 0 => fun _ _ _ _ => False
  | n + 1 => spIs n
/-- the same flat thing, the same dict, compared -/
theorem leafEq {K : PySem.W.Frag} {H : Hp} {x : V} {Q : VK} (h : flatV x = true ∨ DictOk H x) (k : Q (.bl true) H) : rEq x x H Q ∨ rEqV K x x H Q := by
  rcases h with h | ⟨a, kvs, rfl, ha, hk⟩
  · left
    refine ⟨?_, ?_⟩
    · cases x <;> first | rfl | cases h
    · rw [decide_eq_true rfl]; exact k
  · right
    refine ⟨1, by decide, .inr ⟨a, a, kvs, kvs, rfl, rfl, ha, ha, rfl, fun q hq => ?_⟩, k⟩
    rcases hk with rfl | ⟨kk, u, rfl, hu⟩
    · cases hq
    · obtain rfl := List.mem_singleton.mp hq
      refine ⟨u, ?_, ?_⟩
      · show valV [(kk, u)] kk = some u
        unfold valV
        simp
      · rcases hu with hu | ⟨b, rfl⟩
        · refine .inl ⟨rfl, ?_⟩
          cases u <;> first | rfl | cases hu
        · exact .inr (.inl ⟨b, rfl, rfl⟩)
end
end Cn
namespace Cn
open PySem PySem.Spec PyProof.Rows L2
def nIs : List Str := ["_law_told_here", "_law_due", "_law_one", "_law_two"]
theorem scIs : FnScope nIs ["_law_told_here", "_law_due"] (defScope sIs) := ⟨rfl, rfl, rfl, by decide +kernel, rfl, by decide +kernel, by decide +kernel⟩
section
variable {P : Program} {w : World} {K : PySem.W.Frag} {mg : Str → Option Value} {base : Heap}
theorem ok_is {f : Addr} {fd : FuncData} (F : Fun K "_law_is" "_law_is" sIs f fd) (T : IsTxt mg) (g : mg "_law_is" = some (.ref f)) (bI : Binds K fd ["_law_told_here", "_law_due"] []) : ∀ n : Nat, FnOk P w K mg base CX0 (n + 2) f fd ["_law_told_here", "_law_due"] (spJ n) := by
  intro n
  induction n with
  | zero => exact ⟨fun _ _ _ _ z => z.elim, fun _ _ _ _ _ _ _ _ _ _ _ _ _ z => z.elim⟩
  | succ n ih =>
    refine F.ok scIs (fun vs H Q E h => ?_) (fun cdv A outer s H vs Q E hr h => ?_)
    · obtain ⟨x, y, rfl, _⟩ := h
      rfl
    · obtain ⟨x, y, rfl, hE, k⟩ := h
      refine ⟨_, pss_cons (ps_if (pt_val (pe_callB call_isiT (by rfl) T.inst (by decide +kernel) (pa_cons (pv 1) (pa_cons (pe_tup (pa_cons (pe_bltn (v := .ty "tuple") (by rfl) T.tup (by decide +kernel) rfl) (pa_cons (pe_bltn (v := .ty "list") (by rfl) T.lst (by decide +kernel) rfl) pa_nil))) pa_nil))))
          (pss_cons (ps_if (PW.pt (pw_or (pt_cmpR op_ne (pe_callB call_isi (by rfl) T.inst (by decide +kernel) (pa_cons (pv 0) (pa_cons (pe_bltn (v := .ty "tuple") (by rfl) T.tup (by decide +kernel) rfl) pa_nil))) (pe_callB call_isi (by rfl) T.inst (by decide +kernel) (pa_cons (pv 1) (pa_cons (pe_bltn (v := .ty "tuple") (by rfl) T.tup (by decide +kernel) rfl) pa_nil))) (nomark _))
              (pw_or1 (pt_not (pt_val (pe_callB call_isiT (by rfl) T.inst (by decide +kernel) (pa_cons (pv 0) (pa_cons (pe_tup (pa_cons (pe_bltn (v := .ty "tuple") (by rfl) T.tup (by decide +kernel) rfl) (pa_cons (pe_bltn (v := .ty "list") (by rfl) T.lst (by decide +kernel) rfl) pa_nil))) pa_nil))))))))
            (pss_one (ps_ret pe_bl)) pss_nil)
          (pss_one (ps_ret (pe_and (pe_cmpR op_eq (pe_callB call_len_seq (by rfl) T.len PySem.boot_len (pa_cons (pv 0) pa_nil)) (pe_callB call_len_seq (by rfl) T.len PySem.boot_len (pa_cons (pv 1) pa_nil)) (nomark _)) (pe_one
            (pe_callB (cr_all rfl) (by rfl) T.all (by decide +kernel) (pa_cons (pe_lc (own := [("_law_one", 2), ("_law_two", 3)]) (g := gTup K 2 (gCons (gName 2) (gCons (gName 3) gNil))) (tt := tYes) rfl scIs.nd (RZ.pi_zipA (by rfl) T.zip (pa_cons (pv 0) (pa_cons (pv 1) pa_nil)))
              (blkOk_by (N := nIs) (sc := defScope sIs) (by decide +kernel)) (fun _ _ _ _ _ => pg_tup rfl (pgs_cons (pg_name (i := 2) scIs.nd rfl (Or.inl rfl)) (pgs_cons (pg_name (i := 3) scIs.nd rfl (Or.inl rfl)) pgs_nil))) (fun _ _ _ _ _ => pts_nil)
              (fun _ _ _ _ _ => pe_call ih hr (by rfl) g F.kp bI .nil pass0 (pa_cons (pv 2) (pa_cons (pv 3) pa_nil)))) pa_nil)))))))
          pss_nil)
        (pss_one (ps_ret (pe_and (pe_cmpR op_eq (pe_callB call_isi (by rfl) T.inst (by decide +kernel) (pa_cons (pv 0) (pa_cons (pe_bltn (v := .ty "bool") (by rfl) T.bool (by decide +kernel) rfl) pa_nil))) (pe_callB call_isi (by rfl) T.inst (by decide +kernel) (pa_cons (pv 1) (pa_cons (pe_bltn (v := .ty "bool") (by rfl) T.bool (by decide +kernel) rfl) pa_nil))) (nomark _))
          (pe_one (pe_cmpR (Cn.OpR.orr op_eq (op_eqV hr.units)) (pv 0) (pv 1) (nomark _)))))), ?_⟩
      have cls2 : Paired ClsV [.ty "tuple", .ty "list"] [.type "tuple", .type "list"] := .cons (.ty _) (.cons (.ty _) .nil)
      refine ⟨_, rfl, by show 2 ≤ sizeLine; decide, fun t1 m1 => ?_⟩
      have S1 := smUpd (o := .tup [.ty "tuple", .ty "list"]) m1
      rcases eqG_cases hE with ⟨rfl, hL⟩ | ⟨m, rfl, a, b, xs, ys, rfl, rfl, hk, hx, hp⟩
      · have hL1 : flatV x = true ∨ DictOk (upd H t1 (.tup [.ty "tuple", .ty "list"])) x := hL.imp (fun z => z) fun ⟨a, kvs, e, ha, q⟩ => ⟨a, kvs, e, S1 _ _ ha, q⟩
        obtain ⟨Ty, bb, ty, k2, k3⟩ := leafTy (K := K) hL1
        refine ⟨x, t1, _, _, _, false, rfl, upd_same, cls2, ty, k2, false, rfl, ?_⟩
        refine iteF ?_
        refine ⟨_, rfl, x, .ty "bool", _, _, bb, rfl, .ty _, ty, k3, _, rfl, x, .ty "bool", _, _, bb, rfl, .ty _, ty, k3, rfl, _, rfl, ?_⟩
        rw [if_pos (decide_eq_true rfl)]
        exact ⟨_, rfl, _, rfl, leafEq hL1 (k _ S1)⟩
      · obtain ⟨tu, ha, hb⟩ : ∃ tu : Bool, (if tu = true then H a = some (.tup xs) else H a = some (.lst xs)) ∧ (if tu = true then H b = some (.tup ys) else H b = some (.lst ys)) := by
          rcases hk with ⟨z1, z2⟩ | ⟨z1, z2⟩
          · exact ⟨false, by simpa using z1, by simpa using z2⟩
          · exact ⟨true, by simpa using z1, by simpa using z2⟩
        have keep : ∀ {H1 : Hp} {c : Addr} {zs : List V}, Same H H1 → (if tu = true then H c = some (.tup zs) else H c = some (.lst zs)) → (if tu = true then H1 c = some (.tup zs) else H1 c = some (.lst zs)) := fun {H1 c zs} sm z => by
          cases tu with
          | true => rw [if_pos rfl] at z ⊢; exact sm _ _ z
          | false => rw [if_neg Bool.false_ne_true] at z ⊢; exact sm _ _ z
        obtain ⟨Tb, ty, k2, k3⟩ := seqTy (K := K) (keep S1 hb)
        refine ⟨_, t1, _, _, _, true, rfl, upd_same, cls2, ty, k2, true, rfl, ?_⟩
        refine iteT ?_
        obtain ⟨Ta, ty2, k4, k5⟩ := seqTy (K := K) (keep S1 ha)
        refine ⟨_, rfl, _, .ty "tuple", _, _, tu, rfl, .ty _, ty2, k5, _, rfl, _, .ty "tuple", _, _, tu, rfl, .ty _, ty, k3, rfl, _, rfl, ?_⟩
        rw [show (!decide (V.bl tu = V.bl tu)) = false from by rw [decide_eq_true rfl]; rfl]
        refine iteF ?_
        refine ⟨_, rfl, by show 2 ≤ sizeLine; decide, fun t2 m2 => ?_⟩
        have S2 := S1.trans (smUpd (o := .tup [.ty "tuple", .ty "list"]) m2)
        obtain ⟨Tc, ty3, k6, k7⟩ := seqTy (K := K) (keep S2 ha)
        refine ⟨_, t2, _, _, _, true, rfl, upd_same, cls2, ty3, k6, true, rfl, ?_⟩
        refine iteF ?_
        have hl : xs.length = ys.length := Paired.length hp
        generalize upd (upd H t1 (.tup [.ty "tuple", .ty "list"])) t2 (.tup [.ty "tuple", .ty "list"]) = H2 at *
        have hk2 : (SqL K H2 a xs ∧ SqL K H2 b ys) ∨ (SqT K H2 a xs ∧ SqT K H2 b ys) := by
          rcases hk with ⟨z1, z2⟩ | ⟨z1, z2⟩
          · exact .inl ⟨.inl (.inl (S2 _ _ z1)), .inl (.inl (S2 _ _ z2))⟩
          · exact .inr ⟨.inl (.inl (S2 _ _ z1)), .inl (.inl (S2 _ _ z2))⟩
        have la : SqL K H2 a xs ∨ SqT K H2 a xs := hk2.imp And.left And.left
        have lb : SqL K H2 b ys ∨ SqT K H2 b ys := hk2.imp And.right And.right
        refine ⟨_, rfl, a, xs, rfl, la, _, rfl, b, ys, rfl, lb, rfl, _, rfl, ?_⟩
        rw [if_pos (decide_eq_true (by rw [hl]))]
        have hp2 : Paired (EqG H2 m) xs ys := Paired.mapP hp fun _ _ z => eqG_same S2 z
        refine ⟨_, rfl, _, rfl, a, b, xs, ys, rfl, ?_⟩
        have fin : ∀ {D : Addr} {H3 : Hp}, Same H2 H3 → H3 D = some (.lst ((List.replicate xs.length true).map V.bl)) → rAll K [.ref D] H3 Q := fun {D H3} s3 hD =>
          ⟨D, List.replicate xs.length true, rfl, .inl (.inl hD), by rw [allRep]; exact k _ (S2.trans s3)⟩
        rcases hk2 with ⟨qa, qb⟩ | ⟨qa, qb⟩
        · refine .inl ⟨qa, qb, fun D nD => ?_⟩
          refine lcZipL hl (fun i H' => Same H2 H' ∧ H' D = some (.lst ((List.replicate i true).map V.bl))) ⟨smUpd nD, upd_same⟩ (fun i H' z => ⟨z.1.seq qa, z.1.seq qb⟩) (fun i x y h1 h2 => isTurn hp2 hx nD i x y h1 h2) (fun H' z => ?_)
          exact fin z.1 z.2
        · refine .inr ⟨qa, qb, fun D nD => ?_⟩
          refine lcZipT hl (fun i H' => Same H2 H' ∧ H' D = some (.lst ((List.replicate i true).map V.bl))) ⟨smUpd nD, upd_same⟩ (fun i H' z => ⟨sameT z.1 qa, sameT z.1 qb⟩) (fun i x y h1 h2 => isTurn hp2 hx nD i x y h1 h2) (fun H' z => ?_)
          exact fin z.1 z.2
end
end Cn
namespace Cn
open PySem PySem.Spec PyProof.Rows L2
section
open AutoSeq1 (wpAny_loadPart')
theorem meets_enum_tup (l : Addr) (items : Array Value) (n : Nat) (dct : Option Addr) (sl : Array (Option Value)) :
    Meets (Builtin.«enumerate.__new__» ⟨[.type "enumerate", .ref l], []⟩) (fun _ R s => s.heap.get? l = some { cls := .type "tuple", dict := dct, data := .seq items n, slots := sl } ∧
      R (.ok (.ret (.ref (s.heap.push { cls := .type "tuple_iterator", data := .fields #[.ref l, .int 0 0] }).objs.size)))
        { s with heap := (s.heap.push { cls := .type "tuple_iterator", data := .fields #[.ref l, .int 0 0] }).push { cls := .type "enumerate", data := .fields #[.none, .bool false, .ref s.heap.objs.size, rawInt 0, .none, .none] } }) :=
  .of_wp fun prog w A R s h => by
    obtain ⟨hp, g, d, tk, os⟩ := s; obtain ⟨hl, h⟩ := h
    have hsub := sub_enumerate
    have hL : Heap.IsTuple (Shared.heap ⟨hp, g, d, tk, os⟩) l items := ⟨_, hl, rfl, n, rfl⟩
    wp_walk using wpAny_loadPart' hl
    refine wpAny_stack_any fun st => wpAny_pure ?_
    split
    · rename_i c _ _ _ _ _
      cases (c == Value.type "enumerate")
      · wp_walk using wpAny_loadPart' hl, wpAny_pyIter_tuple hL
        exact ⟨_, rfl, h⟩
      · wp_walk using wpAny_loadPart' hl, wpAny_pyIter_tuple hL
        exact ⟨_, rfl, h⟩
    · wp_walk using wpAny_loadPart' hl, wpAny_pyIter_tuple hL
      exact ⟨_, rfl, h⟩
end
section
variable {prog : Program} {w : World} {A : Around} {E : Value → Shared → Prop} {s : Shared}
theorem call_enum_tup {l : Addr} {items : Array Value} {Q : Value → Shared → Prop} (hL : s.heap.IsTuple l items)
    (h : ∀ h', IsEnum h' (s.heap.objs.size + 1) s.heap.objs.size 0 .none → h'.IsTupleIter s.heap.objs.size l 0 → h'.objs.size = s.heap.objs.size + 2 →
      (∀ b o, s.heap.get? b = some o → h'.get? b = some o) → Q (.ref (s.heap.objs.size + 1)) { s with heap := h' }) :
    wpAny (model prog w) A (call (.type "enumerate") [.ref l]) Q E s := by
  obtain ⟨⟨c, dct, dt, sl⟩, hl, hc, n, hd⟩ := hL
  replace hc : c = .type "tuple" := hc
  replace hd : dt = .seq items n := hd
  subst hc hd
  refine callType_new F.called_enumerate (by decide) (F.typeCall_enumerate_1 _) (F.newCall_enumerate_1 _) (fun obj => F.args_object_init_2 obj _) F.entry_enumerate_new
    (meets_enum_tup l items n dct sl) ⟨hl, ?_⟩
  have hz : (s.heap.push { cls := .type "tuple_iterator", data := .fields #[.ref l, .int 0 0] }).objs.size = s.heap.objs.size + 1 := Heap.size_push ..
  show _ ∧ _
  rw [hz]
  have he : IsEnum ((s.heap.push { cls := .type "tuple_iterator", data := .fields #[.ref l, .int 0 0] }).push { cls := .type "enumerate", data := .fields #[.none, .bool false, .ref s.heap.objs.size, rawInt 0, .none, .none] }) (s.heap.objs.size + 1) s.heap.objs.size 0 .none := by
    have := Heap.get?_push_size (s.heap.push { cls := .type "tuple_iterator", data := .fields #[.ref l, .int 0 0] }) (o := { cls := .type "enumerate", data := .fields #[.none, .bool false, .ref s.heap.objs.size, rawInt 0, .none, .none] }) rfl
    rw [hz] at this; exact this
  refine ⟨⟨_, he, rfl⟩, h _ he ⟨_, Heap.get?_push_of_some _ (Heap.get?_push_size _ rfl), rfl, rfl⟩ (by rw [Heap.size_push, hz]) fun b o x => Heap.get?_push_of_some _ (Heap.get?_push_of_some _ x)⟩
theorem enumEndT {e it l : Addr} {i : Nat} {c : Int} {items : Array Value} {old : Value} {Q : Option Value → Shared → Prop} (hh : A.handled = none) (he : IsEnum s.heap e it c old) (hit : s.heap.IsTupleIter it l i) (hl : s.heap.IsTuple l items) (hx : items[i]? = none)
    (hQ : ∀ h', Heap.ExtBut it s.heap h' → Q none { s with heap := h' }) : wpAny (model prog w) A (pyNext (.ref e)) Q E s := by
  have hT : s.TypeIs (.ref e) "enumerate" := ⟨_, he, rfl⟩
  unfold pyNext
  refine wpAny_bind (wpAny_attempt (wpAny_callSpecial?_slot (name := Str.ofString "__next__") hT F.slot_enumerate_next
    (wpAny_call_entry F.slot_enumerate_next hT F.entry_enumerate_next ?_ (F.args_enumerate_next_1 _))))
  show wpAny _ _ (field (.ref e) 2 >>= _) _ _ _
  refine wpAny_bind (wpAny_field he rfl (x := .ref it) rfl ?_)
  refine wpAny_bind (wpAny_nextOf_tuple_end (A := A.in1) hh hit hl hx fun h' x he' hx' => ?_)
  obtain ⟨o, ho, hc⟩ := hx'
  refine wpAny_bind (wpAny_isInstance (T := "StopIteration") (b := true) ⟨o, ho, hc⟩ isSubtype_stop ?_)
  exact wpAny_pure (hQ _ he')
end
/-- the tuple at a, each item in a new pair -/
def IteT (K : PySem.W.Frag) (a : Addr) : It :=
  ⟨fun i H => ∃ (xs : List V) (x : V), SqT K H a xs ∧ xs[i]? = some x, fun i H v H' => ∃ T x, v = .ref T ∧ H T = none ∧ H' = upd H T (.tup [.int (i : Nat), x]) ∧ ∀ xs, SqT K H a xs → xs[i]? = some x, fun i H => ∃ xs : List V, SqT K H a xs ∧ xs.length ≤ i⟩
theorem turn_enumT {P : Program} {w : World} {K : PySem.W.Frag} {elts : List Expr} {kk : Nat} {tpos : Pos} (a e it : Addr) :
    Turn P w K (.Tuple elts kk tpos) (IteT K a) [e, it] e (fun i h => (∃ old, IsEnum h e it ((i : Nat) : Int) old) ∧ h.IsTupleIter it a i ∧ e ≠ it ∧ a ≠ it ∧ a ≠ e) where
  mem := by simp
  obj := fun i h st b hb => by
    obtain ⟨⟨old, he⟩, ⟨o, ho, hc, hd⟩, _⟩ := st
    have e' : b = e ∨ b = it := by simpa using hb
    rcases e' with z | z
    · rw [z]; exact ⟨_, he, fun v q => nomatch q⟩
    · rw [z]; exact ⟨o, ho, fun v q => by rw [hd] at q; cases q⟩
  keep := fun i h h' st k => let ⟨⟨old, he⟩, hi, hne⟩ := st; ⟨⟨old, k e (by simp) _ he⟩, hi.at fun o q => k it (by simp) o q, hne⟩
  item := by
    intro X hP hw hK hc i pins s σ H E I hf st hg
    subst hP hw hK
    obtain ⟨⟨old, he⟩, hit, hne, hai, hae⟩ := st
    obtain ⟨xs, x, hq, hx⟩ := hg
    obtain ⟨its, rv, p, hz⟩ := I.tuple hq
    obtain ⟨u, hu, ru⟩ := rv.get hx
    have hel : e < s.heap.objs.size := Heap.lt_size he
    have hil : it < s.heap.objs.size := by obtain ⟨_, q, _⟩ := hit; exact Heap.lt_size q
    have hlt : i < its.toArray.size := by
      have := (List.getElem?_eq_some_iff.mp hu).1
      simpa using this
    refine wpAny_pyNext_enum_itemC (c := ((i : Nat) : Int)) (Draws.tuple (A := X.A.in1) (I.ok.hd hc) it a hai its.toArray) he ⟨hit, p⟩ hlt hne (by simp [hne, Ne.symm hae]) fun x' h' tk hP ho hs' hT hsz hk => ?_
    have ex : x' = u := by
      have e1 : its.toArray[i]? = some u := by simpa using hu
      rw [e1] at hP
      exact (Option.some.inj hP).symm
    subst ex
    refine ⟨_, rfl, wpAny_letOwnedTupleGo_enum (s := { s with heap := h', toks := tk + 1 }) ho fun h'' he' sb => ?_⟩
    have hT2 : h''.get? s.heap.objs.size = some { cls := .type "tuple", data := .seq #[.int i tk, x'] } := (sb.2 _ (Nat.ne_of_gt hel)).trans hT
    have new : ObjOk X.prog X.w (upd H s.heap.objs.size (.tup [.int (i : Nat), x])) h'' s.heap.objs.size (.tup [.int (i : Nat), x]) :=
      ⟨by show 2 ≤ sizeLine; decide, [.int i tk, x'], .cons ⟨_, rfl⟩ (.cons ru .nil), ⟨_, hT2, rfl, _, rfl⟩⟩
    have I1 : Inv X pins σ (upd H s.heap.objs.size (.tup [.int (i : Nat), x])) { s with heap := h'', toks := tk + 1 } :=
      I.turnedNew (ch := [e, it]) (fun b ob hb q => (sb.2 b (fun z => hb (by simp [z]))).trans (hk b ob (fun z => hb (by simp [z])) (fun z => hb (by simp [z])) q)) hf (Nat.le_refl _) new
    refine ⟨.ref s.heap.objs.size, _, I1, rfl, ⟨_, x, rfl, I.hok.fresh (Nat.le_refl _), rfl, fun ys hy => by rw [I.tuple_inj hy hq]; exact hx⟩, ⟨⟨x', ?_⟩, hs'.1.at fun o q => (sb.2 it (Ne.symm hne)).trans q, hne, hai, hae⟩, fun b hb => ?_⟩
    · have e1 : ((i + 1 : Nat) : Int) = (i : Int) + 1 := by omega
      rw [e1]; exact he'
    · have hb' : b < s.heap.objs.size := by
        have e' : b = e ∨ b = it := by simpa using hb
        rcases e' with z | z
        · rw [z]; exact hel
        · rw [z]; exact hil
      rw [upd_ne (Nat.ne_of_lt hb')]
      exact (hf b hb).1
  done := by
    intro X hP hw hK hc i pins s σ H E I hf st hg
    subst hP hw hK
    obtain ⟨⟨old, he⟩, hit, hne, hai, hae⟩ := st
    obtain ⟨xs, hq, hx⟩ := hg
    obtain ⟨its, rv, p, hz⟩ := I.tuple hq
    obtain ⟨f0, f1, f2, f3, f4, f5⟩ := hf it (by simp)
    have hl := rv.length
    refine enumEndT (I.ok.hd hc) he hit p (by simp; omega) fun h' eb => ⟨rfl, I.turned (t' := s.toks) (fun b o hb q => eb b o hb q) f0 f1 f3 f4 f5⟩
  self := fun A i s Q E st h => let ⟨⟨_, he⟩, _⟩ := st; wpAny_pyIter_enum he h
def iEnumT (K : PySem.W.Frag) (ta : TA) : TI := fun σ H R => ta σ H fun vs H1 => ∃ a xs, vs = [.ref a] ∧ SqT K H1 a xs ∧ R (IteT K a) H1
theorem pi_enumT {X : Cx} {e : Expr} {ta : TA} {p pos tpos : Pos} {elts : List Expr} {kk : Nat} (hg : Gl X "enumerate") (hm : X.mg "enumerate" = none) (ha : PA X [e] ta) (hs : starEach [e] X.env = [(false, eval e X.env)] := by rfl) :
    PI X (.Tuple elts kk tpos) (.Call (.Name "enumerate" p) [e] [] pos) (iEnumT X.K ta) := by
  refine ⟨fun pins s σ H R I h => ?_⟩
  refine Call_ (ld_blt I hg hm boot_enumerate (PyProof.Rows.callWith_type1 (thn (ha.run pos pins s σ H _ I h) fun us s1 ⟨vs, H1, I1, r1, q1⟩ => ?_) hs rfl))
  obtain ⟨a, xs, ex, hq, q⟩ := q1
  subst ex
  cases r1 with
  | cons r rr =>
    cases rr
    cases r
    obtain ⟨its, rv, p', hz⟩ := I1.tuple hq
    have hal : a < s1.heap.objs.size := by obtain ⟨_, q, _⟩ := p'; exact Heap.lt_size q
    refine call_enum_tup p' fun h' he hit hsz hk => wpAny_pyIter_enum he ?_
    have I2 : Inv X pins σ H1 { s1 with heap := h' } := I1.kept (t' := s1.toks) hk
    refine ⟨s1.heap.objs.size + 1, [s1.heap.objs.size + 1, s1.heap.objs.size], _, _, H1, rfl, I2, turn_enumT a (s1.heap.objs.size + 1) s1.heap.objs.size, ⟨⟨.none, he⟩, hit, Nat.succ_ne_self _, Nat.ne_of_lt hal, Nat.ne_of_lt (Nat.lt_succ_of_lt hal)⟩, fun b hb => ?_, q⟩
    have e' : b = s1.heap.objs.size + 1 ∨ b = s1.heap.objs.size := by simpa using hb
    have hle : s1.heap.objs.size ≤ b := by
      rcases e' with z | z
      · rw [z]; exact Nat.le_add_right _ _
      · rw [z]; exact Nat.le_refl _
    exact I1.fpOk hle (I1.hok.fresh hle)
theorem walk_enumT {K : PySem.W.Frag} {a : Addr} {xs : List V} : Walk (IteT K a) xs.length (fun H => SqT K H a xs) (YPair (fun i => some (.int (i : Nat))) (fun i => xs[i]?)) := by
  refine ⟨fun i _ hi q => ⟨xs, xs[i], q, by simp [hi]⟩, fun _ q => ⟨xs, q, Nat.le_refl _⟩, fun i H v H' _ q y => ?_⟩
  obtain ⟨T, x, h1, h2, h3, h4⟩ := y
  exact ⟨T, .int (i : Nat), x, h1, h2, h3, rfl, h4 xs q⟩
/-! t.index(y) -/
def rTidx (K : PySem.W.Frag) : V → List V → Hp → VK → Prop := fun x xs H Q => ∃ (a : Addr) (ys : List V) (y : V) (j : Nat) (z : V), x = V.ref a ∧ xs = [y] ∧ SqT K H a ys ∧ flatV y = true ∧ ys.all flatV = true ∧ ys[j]? = some z ∧ eqV z y = true ∧
  (∀ (m : Nat) (z' : V), m < j → ys[m]? = some z' → eqV z' y = false) ∧ Q (.int (j : Nat)) H
theorem mt_tidx {X : Cx} : MtR X "tuple.index" (rTidx X.K) := by
  intro pins s σ H x xs v us Q I rx rxs h
  obtain ⟨a, ys, y, j, z, rfl, rfl, hs, fy, fys, hz, hzj, hno, q⟩ := h
  cases rx
  cases rxs with
  | cons ry rt =>
    rename_i uy ut
    cases rt
    obtain ⟨its, rv, pl, hlen⟩ := I.tuple hs
    obtain ⟨⟨cls, dd, dt, sl⟩, ho, hc, n, hd⟩ := pl
    simp only at hc hd
    subst hc hd
    obtain ⟨u, hu, ru⟩ := rv.get hz
    obtain ⟨hjl, hje⟩ := List.getElem?_eq_some_iff.mp hu
    have hvl := rv.length
    have hj : j < its.toArray.size := by simpa using hjl
    refine call_meets PySem.F.slot_tuple_index ⟨_, ho, rfl⟩ PySem.F.entry_tuple_index (PySem.F.args_tuple_index_2 _ _) (TI.tuple_indexAt a its.toArray n dd sl uy (eqU y) j hj ?_ ?_)
      ⟨ho, fun u' hu' => mem_eqAt ry fy rv fys u' (by simpa using hu'), ⟨.int (j : Nat), H, I.tok _, ⟨_, rfl⟩, q⟩⟩
    · have e1 : its.toArray[j] = u := by simpa using hje
      rw [e1, eqU_of ru (flat_at fys hz)]
      exact hzj
    · intro m hm hmj
      have hml : m < its.length := by simpa using hm
      have hmy : m < ys.length := by omega
      have hy' : ys[m]? = some ys[m] := List.getElem?_eq_getElem hmy
      obtain ⟨u2, hu2, ru2⟩ := rv.get hy'
      obtain ⟨_, hme⟩ := List.getElem?_eq_some_iff.mp hu2
      have e1 : its.toArray[m] = u2 := by simpa using hme
      rw [e1, eqU_of ru2 (flat_at fys hy')]
      exact hno m _ hmj hy'
/-! sorted(t), whole numbers -/
section
variable {prog : Program} {w : World} {A : Around} {E : Value → Shared → Prop} {s : Shared}
theorem collect_tup {l : Addr} {vs : List Value} {Q : List Value → Shared → Prop} (hl : s.heap.IsTuple l vs.toArray)
    (h : Q vs { s with heap := (s.heap.push (seqObj "list" #[] 0)).update s.heap.objs.size (Obj.mapSeq (· ++ vs.toArray)) }) (hsz : vs.length ≤ sizeLine) :
    wpAny (model prog w) A (collect (.ref l)) Q E s := by
  obtain ⟨o, ho, hc, n, hd⟩ := id hl
  unfold collect
  refine wpAny_bind (wpAny_runValue (codeAny_builtin entry_proto_collect' ?_))
  show wpAny _ _ (do again (.builtin "list.__iadd__" ⟨[← newList [], .ref l], []⟩)) _ _ s
  refine wpAny_bind (wpAny_newList (wpAny_pure ⟨Code.quiet_builtin _ (by decide +kernel), codeAny_builtin entry_list_iadd' ?_⟩))
  show wpAny _ _ (Builtin.List.listExtendWith (.ref s.heap.objs.size) (.ref l) (.ref s.heap.objs.size)) _ _ { s with heap := s.heap.push (seqObj "list" #[] 0) }
  unfold Builtin.List.listExtendWith
  have ho' : (s.heap.push (seqObj "list" #[] 0)).get? l = some o := Heap.get?_push_of_some _ ho
  refine wpAny_bind (wpAny_typeOf (T := "tuple") ⟨o, ho', hc⟩ ?_)
  have ht : (Value.type "tuple" == Value.type "tuple") = true := by rfl
  rw [if_pos (by rw [ht]; simp)]
  refine wpAny_bind (listItems_at ho' hd ?_)
  refine wpAny_bind (listItems_at (xs := #[]) (n := 0) (Heap.get?_push_size _ rfl) rfl ?_)
  rw [if_neg (by simp)]
  refine wpAny_bind (listUpdate_at (xs := #[]) (n := 0) (Heap.get?_push_size _ rfl) rfl ?_ (Nat.zero_le _) (by show (#[] ++ vs.toArray).size ≤ sizeLine + 1; simp only [Array.size_append, List.size_toArray, List.length_nil]; omega))
  refine wpAny_pure ?_
  show wpAny (model prog w) A (do
      let o ← load s.heap.objs.size
      match o.data with
      | .seq xs _ => pure xs.toList
      | _ => unsupported "internal:collect") Q E { s with heap := (s.heap.push (seqObj "list" #[] 0)).update s.heap.objs.size (Obj.mapSeq (· ++ vs.toArray)) }
  refine wpAny_bind (wpAny_load (get?_update_seq (Heap.get?_push_size _ rfl) _) ?_)
  show wpAny _ _ (pure ((#[] : Array Value) ++ vs.toArray).toList) Q E _
  rw [show ((#[] : Array Value) ++ vs.toArray).toList = vs by simp]
  exact wpAny_pure h
theorem sorted_tupI {l : Addr} {vs : List Value} {ns : List Int} {Q : Value → Shared → Prop} (hl : s.heap.IsTuple l vs.toArray) (hI : IntsAre vs ns) (h64 : vs.length < 64)
    (h : ∀ (out : Array Value) (ns' : List Int), IntsAre out.toList ns' → ns'.Perm ns → ns'.Pairwise (· ≤ ·) → Q (.ref (s.heap.objs.size + 1)) { s with heap := sortedAll s.heap vs out }) :
    wpAny (model prog w) A (call (.builtin "sorted") [.ref l]) Q E s := by
  refine Calls.call_function_entry kind_sorted plain_sorted entry_sorted (args_sorted1 _) ?_
  unfold Builtin.«sorted»
  refine wpAny_bind (m := checkCount "sorted" 1 1 _) (wpAny_pure ?_)
  refine wpAny_bind (collect_tup hl ?_ (small64 h64))
  refine wpAny_bind (wpAny_newList ?_)
  have hsz : ((s.heap.push (seqObj "list" #[] 0)).update s.heap.objs.size (Obj.mapSeq (· ++ vs.toArray))).objs.size = s.heap.objs.size + 1 := by
    rw [Heap.size_update, size_push']
  have hoL : (((s.heap.push (seqObj "list" #[] 0)).update s.heap.objs.size (Obj.mapSeq (· ++ vs.toArray))).push (seqObj "list" vs.toArray 0)).get? (s.heap.objs.size + 1) = some (seqObj "list" vs.toArray 0) := by
    rw [← hsz]; exact Heap.get?_push_size _ rfl
  show wpAny _ _ _ _ _ { s with heap := ((s.heap.push (seqObj "list" #[] 0)).update s.heap.objs.size (Obj.mapSeq (· ++ vs.toArray))).push (seqObj "list" vs.toArray 0) }
  rw [hsz]
  refine wpAny_bind (wpAny_holding (wpAny_call_entry slot_list_sort ⟨_, hoL, rfl⟩ entry_list_sort (list_sort_tree hoL hI h64 fun out ns' a1 a2 a3 => ⟨_, rfl, ?_⟩) (args_list_sort _)))
  exact wpAny_pure ⟨_, rfl, h out ns' a1 a2 a3⟩
end
def rSortTup (K : PySem.W.Frag) : List V → Hp → VK → Prop := fun vs H Q => ∃ (a : Addr) (ns : List Int), vs = [V.ref a] ∧ SqT K H a (ns.map V.int) ∧ ns.length < 64 ∧
  ∀ (ns' : List Int) (p : Addr), ns'.Perm ns → ns'.Pairwise (· ≤ ·) → H p = none → Q (.ref p) (upd H p (.lst (ns'.map V.int)))
theorem cr_sortTup {X : Cx} : CallR X (.builtin "sorted") (rSortTup X.K) := by
  intro pins s σ H vs us Q I r h
  obtain ⟨a, ns, rfl, hs, h64, q⟩ := h
  obtain ⟨its, rv, hl, _⟩ := I.tuple hs
  rw [Vals.ref1 r]
  have hi := rv.ints
  refine sorted_tupI hl hi (by rw [hi.length]; exact h64) fun out ns' h1 h2 h3 => ?_
  obtain ⟨ep, he'⟩ := PyProof.Rows.sortedAll_at s.heap its out
  have hlen : (ns'.map V.int).length ≤ sizeLine := by rw [List.length_map, h2.length_eq]; exact small64 h64
  exact ⟨.ref _, upd H (s.heap.objs.size + 1) (.lst (ns'.map V.int)), I.laid (t' := s.toks) (fun _ _ => PyProof.Rows.sortedAll_old) (Nat.le_succ _) ⟨hlen, out.toList, ep, vals_of_ints h1, he'⟩, rfl, q ns' _ h2 h3 (I.hok.fresh (Nat.le_succ _))⟩
/-! tuples of which it is known that they have no dict of their own: t.index(y) -/
def TD (H : Hp) (a : Addr) (xs : List V) : Prop := ∃ o : Obj, o.dict = none ∧ H a = some (.frz o (.tup xs))
theorem tdT {K : PySem.W.Frag} {H : Hp} {a : Addr} {xs : List V} (h : TD H a xs) : SqT K H a xs := by
  obtain ⟨o, _, e⟩ := h
  exact .inl (.inr ⟨o, e⟩)
theorem tdTy {K : PySem.W.Frag} {H : Hp} {a : Addr} {xs : List V} (h : TD H a xs) : TyX K H (.ref a) (.type "tuple") := by
  obtain ⟨o, _, e⟩ := h
  exact .fTuple e
theorem tdSame {H H' : Hp} {a : Addr} {xs : List V} (s : Same H H') (h : TD H a xs) : TD H' a xs := by
  obtain ⟨o, d, e⟩ := h
  exact ⟨o, d, s _ _ e⟩
abbrev tupO (its : List Value) : Obj := { cls := .type "tuple", data := .seq its.toArray }
theorem tdNew {H : Hp} {a : Addr} {its : List Value} {xs : List V} : TD (upd H a (.frz (tupO its) (.tup xs))) a xs := ⟨tupO its, rfl, upd_same⟩
/-- a new tuple, its dict known to be none -/
theorem laidTD {X : Cx} {pins : List (Addr × Obj)} {σ : L2.St} {H : Hp} {s : Shared} {h' : Heap} {tk : Nat} {xs : List V} {its : List Value} (I : Inv X pins σ H { s with heap := h', toks := tk }) (r : Vals xs its) (hz : xs.length ≤ sizeLine) :
    Inv X pins σ (upd H h'.objs.size (.frz (tupO its) (.tup xs))) { s with heap := h'.push (tupO its), toks := tk } := by
  have g : (h'.push (tupO its)).get? h'.objs.size = some (tupO its) := Heap.get?_push_size _ rfl
  exact I.laid (t' := tk) (fun b o e => Heap.get?_push_of_some _ e) (Nat.le_refl _) ⟨g, hz, its, r, ⟨_, g, rfl, 0, rfl⟩⟩
section
variable {X : Cx}
def rTupD (K : PySem.W.Frag) : List V → Hp → VK → Prop := fun xs H Q => ∃ p ys, xs = [.ref p] ∧ SqL K H p ys ∧ ∀ l H', Same H H' → TD H' l ys → Q (.ref l) H'
/-- tuple(a list) -/
theorem call_tupD : CallR X (.type "tuple") (rTupD X.K) := by
  intro pins s σ H xs us Q I r h
  obtain ⟨p, ys, rfl, hq, q⟩ := h
  obtain ⟨u, rfl, rx⟩ := vals1 r
  cases rx
  obtain ⟨its, r', pl, hz⟩ := I.list hq
  have hlen := r'.length
  refine call_tuple_list pl.isList (fun h' kp => ?_) (by simp only [List.size_toArray] <;> omega)
  have I1 : Inv X pins σ H { s with heap := h', toks := s.toks } := I.kept (t' := s.toks) kp
  have hn : H h'.objs.size = none := I1.hok.fresh (Nat.le_refl _)
  exact ⟨.ref h'.objs.size, _, laidTD I1 r' hz, rfl, q _ _ (smUpd hn) tdNew⟩
def tTupRevD (K : PySem.W.Frag) (te : TE) : TE := fun σ H Q => te σ H fun v H1 => ∃ (a : Addr) (xs : List V), v = .ref a ∧ SqL K H1 a xs ∧ ∀ l H', Same H1 H' → TD H' l xs.reverse → Q (.ref l) H'
/-- tuple(reversed(a list)) -/
theorem pe_tupRevD {e : Expr} {te : TE} {p p2 pos pos2 : Pos} (hc : X.calm = true) (hg : Gl X "tuple") (hm : X.mg "tuple" = none) (hg2 : Gl X "reversed") (hm2 : X.mg "reversed" = none) (he : PE X e te)
    (hs : starEach [e] X.env = (false, eval e X.env) :: starEach [] X.env := by rfl)
    (hs2 : starEach [.Call (.Name "reversed" p2) [e] [] pos2] X.env = (false, eval (.Call (.Name "reversed" p2) [e] [] pos2) X.env) :: starEach [] X.env := by rfl) :
    PE X (.Call (.Name "tuple" p) [.Call (.Name "reversed" p2) [e] [] pos2] [] pos) (tTupRevD X.K te) := by
  refine ⟨fun pins s σ H Q I h => ?_⟩
  refine Call_ (ld_blt I hg hm boot_tuple (callWith_type1 (args_cons (Call_ (ld_blt I hg2 hm2 boot_reversed (callWith_type1 (args_cons (thn (he.run pins s σ H _ I h) fun u s1 ⟨v, H1, I1, r1, q1⟩ => args_nil ?_) hs) hs rfl))) hs2) hs2 rfl))
  obtain ⟨l, ys, rfl, hl, q⟩ := q1
  cases (show u = Value.ref l from r1)
  obtain ⟨its, rv, pl, hz⟩ := I1.list hl
  refine call_reversed_list pl.isList (args_nil ?_)
  have I2 : Inv X pins σ H1 { s1 with heap := s1.heap.push (PySem.revObj l ((its.toArray.size : Int) - 1)) } := I1.kept (t' := s1.toks) fun b o z => Heap.get?_push_of_some _ z
  have hfr : H1 s1.heap.objs.size = none := I1.hok.fresh (Nat.le_refl _)
  obtain ⟨f0, f1, _, f3, f4, f5⟩ := I1.fpOk (H' := H1) (b := s1.heap.objs.size) (Nat.le_refl _) hfr
  have hne : l ≠ s1.heap.objs.size := by
    obtain ⟨_, z, _⟩ := pl.isList
    exact Nat.ne_of_lt (Heap.lt_size z)
  refine RT.call_tuple_rev (s := { s1 with heap := s1.heap.push (PySem.revObj l ((its.toArray.size : Int) - 1)) }) (I1.ok.hd hc) ⟨_, Heap.get?_push_size _ rfl, rfl, rfl⟩ (pl.isList.push _) hne (by rw [List.size_toArray, ← rv.length]; exact hz) fun h' tk acc hk hi => ?_
  have I3 : Inv X pins σ H1 { s1 with heap := h', toks := tk } := I2.turned (t' := tk) (fun b o hb z => hk b o hb z) f0 f1 f3 f4 f5
  have hn : H1 h'.objs.size = none := I3.hok.fresh (Nat.le_refl _)
  have I4 := laidTD I3 (RT.vals_rev rv hi) (by rw [List.length_reverse]; exact hz)
  refine ⟨.ref h'.objs.size, upd H1 h'.objs.size (.frz (tupO acc.toList) (.tup ys.reverse)), ?_, rfl, q _ _ (smUpd hn) tdNew⟩
  have ea : acc.toList.toArray = acc := Array.toArray_toList
  rw [← ea]
  exact I4
/-- t.m(..), t such a tuple -/
def tBT (r : V → List V → Hp → VK → Prop) (to : TE) (t : TA) : TE := fun σ H Q => to σ H fun x H1 => (∃ a xs, x = .ref a ∧ TD H1 a xs) ∧ t σ H1 fun xs H2 => r x xs H2 Q
variable {o e : Expr} {es : List Expr} {to : TE} {t : TA} {name : Str} {apos cpos : Pos} {id : String} {r : V → List V → Hp → VK → Prop}
theorem pe_bt (slot : Slot "tuple" name id) (hty : typeOf (.builtin id) = pure (.type "method_descriptor")) (hm : MtR X id r) (ho : PE X o to) (ha : PA X (e :: es) t)
    (hbase : attributeBase o name X.env (eval o X.env) = eval o X.env := by rfl)
    (hfew : ((backTo cpos (starEach (e :: es) X.env)).all (fun x => !x.1) && (backToKw cpos (keywordEach [] X.env)).all (fun x => x.1.isSome)
      && decide ((e :: es).length + ([] : List Keyword).length + (if ([] : List Keyword).isEmpty then 0 else 1) < 30)) = true := by rfl)
    (hline : (apos.endLine == cpos.line) = true := by rfl) (hs : starEach (e :: es) X.env = (false, eval e X.env) :: starEach es X.env := by rfl) (hplain : (backTo cpos (starEach es X.env)).any (·.1) = false := by rfl) :
    PE X (.Call (.Attribute o name apos) (e :: es) [] cpos) (tBT r to t) := by
  refine ⟨fun pins s σ H Q I h => ?_⟩
  refine wpAny_Call_method_late hbase hfew hline rfl (thn (ho.run pins s σ H _ I h) fun v s1 ⟨x, H1, I1, r1, ty, q1⟩ => ?_)
  obtain ⟨a, xs, rfl, ob, hd, hx⟩ := ty
  cases (show v = Value.ref a from r1)
  obtain ⟨g, _, its, _, hit⟩ := I1.hok a _ hx
  have hT : s1.TypeIs (.ref a) "tuple" := by
    obtain ⟨o', g', c, _⟩ := hit
    exact ⟨o', g', c⟩
  refine ⟨"tuple", id, PySem.F.plainAttrs_tuple, slot, hty, hT, fun b z => (by cases z; exact ⟨ob, g, hd⟩), ?_⟩
  have hA := ha.run cpos pins s1 σ H1 _ I1 q1
  rw [hs] at hA ⊢
  refine Calls.callWith_builtin (by show (false || (backTo cpos (starEach es X.env)).any (·.1)) = false; rw [hplain] <;> rfl) (Calls.evalArgs_plain ?_)
  exact thn hA fun us s2 ⟨vs, H2, I2, r2, q2⟩ => hm pins s2 σ H2 (.ref a) vs (.ref a) us Q I2 rfl r2 q2
end
end Cn
namespace Cn
open PySem PySem.Spec PyProof.Rows L2 Ck
abbrev vn (n : Nat) : V := .int ((n : Nat) : Int)
def vp : Option Nat → V
  | none => .non
  | some n => vn n
def TN (H : Hp) (a : Addr) (ns : List Nat) : Prop := H a = some (.tup (ns.map vn))
def TP (H : Hp) (a : Addr) (ps : List (Option Nat)) : Prop := H a = some (.tup (ps.map vp))
def TDn (H : Hp) (a : Addr) (ns : List Nat) : Prop := TD H a (ns.map vn)
theorem tdL {K : PySem.W.Frag} {H : Hp} {a : Addr} {ns : List Nat} (h : TDn H a ns) : SqT K H a (ns.map vn) := tdT h
theorem tnL {K : PySem.W.Frag} {H : Hp} {a : Addr} {ns : List Nat} (h : TN H a ns) : SqT K H a (ns.map vn) := .inl (.inl h)
theorem tpL {K : PySem.W.Frag} {H : Hp} {a : Addr} {ps : List (Option Nat)} (h : TP H a ps) : SqT K H a (ps.map vp) := .inl (.inl h)
theorem vn_flat (ns : List Nat) : (ns.map vn).all flatV = true := by
  rw [List.all_eq_true]
  intro x hx
  obtain ⟨n, _, rfl⟩ := List.mem_map.mp hx
  rfl
theorem vn_at {ns : List Nat} {i n : Nat} (h : ns[i]? = some n) : (ns.map vn)[i]? = some (vn n) := by rw [List.getElem?_map, h]; rfl
theorem vp_at {ps : List (Option Nat)} {i : Nat} {q : Option Nat} (h : ps[i]? = some q) : (ps.map vp)[i]? = some (vp q) := by rw [List.getElem?_map, h]; rfl
theorem vn_ix {ns : List Nat} {i n : Nat} (h : ns[i]? = some n) : atI (ns.map vn) ((i : Nat) : Int) = some (vn n) := atI_nat (vn_at h)
theorem vp_ix {ps : List (Option Nat)} {i : Nat} {q : Option Nat} (h : ps[i]? = some q) : atI (ps.map vp) ((i : Nat) : Int) = some (vp q) := atI_nat (vp_at h)
theorem vn_get {ns : List Nat} {i : Nat} {x : V} (h : (ns.map vn)[i]? = some x) : ∃ n, ns[i]? = some n ∧ x = vn n := by
  rw [List.getElem?_map] at h
  obtain ⟨n, hn, e⟩ := Option.map_eq_some_iff.mp h
  exact ⟨n, hn, e.symm⟩
theorem vp_get {ps : List (Option Nat)} {i : Nat} {x : V} (h : (ps.map vp)[i]? = some x) : ∃ q, ps[i]? = some q ∧ x = vp q := by
  rw [List.getElem?_map] at h
  obtain ⟨n, hn, e⟩ := Option.map_eq_some_iff.mp h
  exact ⟨n, hn, e.symm⟩
theorem vn_inj {a b : Nat} : eqV (vn a) (vn b) = decide (a = b) := by
  show (((a : Nat) : Int) == ((b : Nat) : Int)) = decide (a = b)
  rw [Bool.eq_iff_iff, beq_iff_eq, decide_eq_true_iff]
  omega
/-- the first place of n -/
theorem vn_idx {ns : List Nat} {n : Nat} (h : n ∈ ns) : (ns.map vn)[ns.idxOf n]? = some (vn n) ∧ ∀ (m : Nat) (z : V), m < ns.idxOf n → (ns.map vn)[m]? = some z → eqV z (vn n) = false := by
  refine ⟨vn_at ?_, fun m z hm hz => ?_⟩
  · have hl := List.idxOf_lt_length_of_mem h
    rw [List.getElem?_eq_getElem hl, List.getElem_idxOf hl]
  · rw [List.getElem?_map] at hz
    obtain ⟨k, hk, rfl⟩ := Option.map_eq_some_iff.mp hz
    rw [vn_inj]
    refine decide_eq_false fun e => ?_
    subst e
    obtain ⟨hml, hme⟩ := List.getElem?_eq_some_iff.mp hk
    have := List.not_of_lt_findIdx (p := (· == k)) (xs := ns) (i := m) hm
    rw [hme] at this
    simp at this
theorem inV_vn {ns : List Nat} {n : Nat} : inV (vn n) (ns.map vn) = decide (n ∈ ns) := by
  unfold inV
  rw [Bool.eq_iff_iff, decide_eq_true_iff, List.any_eq_true]
  constructor
  · rintro ⟨x, hx, h⟩
    obtain ⟨m, hm, rfl⟩ := List.mem_map.mp hx
    rw [vn_inj, decide_eq_true_iff] at h
    rw [← h]; exact hm
  · intro h
    exact ⟨vn n, List.mem_map.mpr ⟨n, h, rfl⟩, by rw [vn_inj]; exact decide_eq_true rfl⟩
/-! the forest -/
def fields3 (ap ab aa : Addr) : List (Str × V) := [("parents", .ref ap), ("bearing", .ref ab), ("asking", .ref aa)]
structure Fo where
  ps : List (Option Nat)
  be : List Nat
  as : List Nat
/-- what a forest's data keep to -/
structure FoOk (f : Fo) : Prop where
  ps : Ps f.ps
  l0 : 1 ≤ f.ps.length
  l1 : f.ps.length ≤ 60
  be : f.be.Pairwise (· < ·)
  bl : ∀ x ∈ f.be, x < f.ps.length
  as : f.as.Pairwise (· < ·)
  al : ∀ x ∈ f.as, x < f.ps.length
def FoAt (C : Addr) (H : Hp) (a : Addr) (f : Fo) : Prop := ∃ dx ap ab aa, H a = some (.ins C dx (fields3 ap ab aa)) ∧ TP H ap f.ps ∧ TN H ab f.be ∧ TN H aa f.as
theorem foAt_same {C : Addr} {H H' : Hp} {a : Addr} {f : Fo} (s : Same H H') (h : FoAt C H a f) : FoAt C H' a f := by
  obtain ⟨dx, ap, ab, aa, h1, h2, h3, h4⟩ := h
  exact ⟨dx, ap, ab, aa, s _ _ h1, s _ _ h2, s _ _ h3, s _ _ h4⟩
structure FoT (K : PySem.W.Frag) (mg : Str → Option Value) (C : Addr) : Prop where
  cl : Cls K C
  nP : NoAttr K C "parents"
  nB : NoAttr K C "bearing"
  nA : NoAttr K C "asking"
  mgC : mg "Forest" = some (.ref C)
theorem fP {ap ab aa : Addr} : (fields3 ap ab aa).lookup ("parents" : Str) = some (.ref ap) := rfl
theorem fB {ap ab aa : Addr} : (fields3 ap ab aa).lookup ("bearing" : Str) = some (.ref ab) := rfl
theorem fA {ap ab aa : Addr} : (fields3 ap ab aa).lookup ("asking" : Str) = some (.ref aa) := rfl
/-- the builtins that the texts call -/
structure NamT (mg : Str → Option Value) : Prop where
  is : IsTxt mg
  int : mg "int" = none
  abs : mg "abs" = none
  range : mg "range" = none
  enum : mg "enumerate" = none
  rev : mg "reversed" = none
  sorted : mg "sorted" = none
  min : mg "min" = none
/-- a def and its name in the module -/
structure DefAt (K : PySem.W.Frag) (mg : Str → Option Value) (x : Str) (st : Stmt) (ps : List Str) (f : Addr) (fd : FuncData) : Prop where
  F : Fun K x x st f fd
  b : Binds K fd ps []
  g : mg x = some (.ref f)
theorem ifT {c : Prop} {_ : Decidable c} {a b : Prop} (h : c) (x : a) : if c then a else b := by rw [if_pos h]; exact x
theorem ifF {c : Prop} {_ : Decidable c} {a b : Prop} (h : ¬ c) (x : b) : if c then a else b := by rw [if_neg h]; exact x
/-! kinds -/
section
variable {P : Program} {w : World} {K : PySem.W.Frag} {mg : Str → Option Value} {base : Heap}
theorem intTy {H : Hp} {n : Int} : TyX K H (.int n) (.type "int") := .base (.int n)
def spIsInt : Sp := fun vs H Q _ => ∃ n : Int, vs = [.int n] ∧ Q (.bl true) H
theorem scIsInt : FnScope ["thing"] ["thing"] (defScope sIsInt) := ⟨rfl, rfl, rfl, by decide +kernel, rfl, by decide +kernel, by decide +kernel⟩
theorem ok_isInt {f : Addr} {fd : FuncData} (F : Fun K "is_integer" "is_integer" sIsInt f fd) (N : NamT mg) : FnOk P w K mg base CX0 1 f fd ["thing"] spIsInt := by
  refine F.ok scIsInt (fun vs H Q E h => ?_) (fun cdv A outer s H vs Q E hr h => ?_)
  · obtain ⟨n, rfl, _⟩ := h
    rfl
  · obtain ⟨n, rfl, k⟩ := h
    refine ⟨_, pss_one (ps_ret (pe_and (pe_callB call_isi (by rfl) N.is.inst (by decide +kernel) (pa_cons (pv 0) (pa_cons (pe_bltn (v := .ty "int") (by rfl) N.int (by decide +kernel) rfl) pa_nil))) (pe_one (pe_not (pe_callB call_isi (by rfl) N.is.inst (by decide +kernel) (pa_cons (pv 0) (pa_cons (pe_bltn (v := .ty "bool") (by rfl) N.is.bool (by decide +kernel) rfl) pa_nil))))))), ?_⟩
    refine ⟨_, rfl, _, .ty "int", _, _, true, rfl, .ty _, intTy, kit_ty (by decide +kernel), true, rfl, ?_⟩
    refine ifT rfl ?_
    exact ⟨_, rfl, _, .ty "bool", _, _, false, rfl, .ty _, intTy, kit_ty (by decide +kernel), false, rfl, k⟩
def spIsBtw : Sp := fun vs H Q _ => ∃ n a b : Int, vs = [.int n, .int a, .int b] ∧ Q (.bl (decide (a ≤ n ∧ n ≤ b))) H
theorem scIsBtw : FnScope ["thing", "least", "most"] ["thing", "least", "most"] (defScope sIsBtw) := ⟨rfl, rfl, rfl, by decide +kernel, rfl, by decide +kernel, by decide +kernel⟩
theorem ok_isBtw {f fI : Addr} {fd fdI : FuncData} (F : Fun K "is_between" "is_between" sIsBtw f fd) (N : NamT mg) (DI : DefAt K mg "is_integer" sIsInt ["thing"] fI fdI) : FnOk P w K mg base CX0 2 f fd ["thing", "least", "most"] spIsBtw := by
  have GI : FnOk P w K mg base CX0 1 fI fdI ["thing"] spIsInt := ok_isInt DI.F N
  refine F.ok scIsBtw (fun vs H Q E h => ?_) (fun cdv A outer s H vs Q E hr h => ?_)
  · obtain ⟨n, a, b, rfl, _⟩ := h
    rfl
  · obtain ⟨n, a, b, rfl, k⟩ := h
    refine ⟨_, pss_one (ps_ret (pe_and (pe_call GI hr (by rfl) DI.g DI.F.kp DI.b .nil pass0 (pa_cons (pv 0) pa_nil)) (pe_one (pe_chain op_le op_le (pv 1) (pv 0) (pv 2))))), ?_⟩
    refine ⟨_, rfl, n, rfl, true, rfl, ?_⟩
    refine ifT rfl ?_
    refine ⟨_, rfl, _, rfl, _, _, rfl, rfl, _, rfl, ?_⟩
    by_cases h1 : a ≤ n
    · refine ifT (decide_eq_true h1) ?_
      refine ⟨_, rfl, _, _, rfl, rfl, ?_⟩
      rw [show decide (a ≤ n ∧ n ≤ b) = decide (n ≤ b) from by simp [h1]] at k
      exact k
    · refine ifF (by rw [decide_eq_false h1]; exact Bool.false_ne_true) ?_
      rw [show decide (a ≤ n ∧ n ≤ b) = false from by simp [h1]] at k
      exact k
end
end Cn
namespace Cn
open PySem PySem.Spec PyProof.Rows L2 Ck
/-- the defs, as the text has them -/
structure Defs (K : PySem.W.Frag) (mg : Str → Option Value) (C : Addr) : Prop where
  N : NamT mg
  T : FoT K mg C
  mM : ∃ tm, mg "MOST_PLACES" = some (.int 60 tm)
  ini : ∃ f fd, Fun K "__init__" "Forest.__init__" sInit f fd ∧ Mk K C f ∧ Binds K fd ["self", "parents", "bearing", "asking"] []
  I : ∃ f fd, DefAt K mg "is_integer" sIsInt ["thing"] f fd
  B : ∃ f fd, DefAt K mg "is_between" sIsBtw ["thing", "least", "most"] f fd
  L : ∃ f fd, DefAt K mg "is_lot" sIsLot ["thing"] f fd
  O : ∃ f fd, DefAt K mg "_is_lot_of_places" sLotOf ["thing", "many"] f fd
  Pl : ∃ f fd, DefAt K mg "is_place" sIsPlace ["forest", "thing"] f fd
  W : ∃ f fd, DefAt K mg "way" sWay ["forest", "place"] f fd
  pl : ∃ f fd, DefAt K mg "is_plan" sIsPlan ["forest", "thing"] f fd
  cu : ∃ f fd, DefAt K mg "_is_cuts" sIsCuts ["forest", "thing"] f fd
  lv : ∃ f fd, DefAt K mg "_level" sLevel ["forest", "cuts", "place"] f fd
  po : ∃ f fd, DefAt K mg "plan_of" sPlanOf ["forest", "cuts"] f fd
  ss : ∃ f fd, DefAt K mg "_stacks" sStacks ["forest", "plan"] f fd
  co : ∃ f fd, DefAt K mg "cuts_of" sCutsOf ["forest", "plan"] f fd
  ab : ∃ f fd, DefAt K mg "_stacks_above" sAbove ["forest", "plan"] f fd
  st : ∃ f fd, DefAt K mg "stack" sStack ["forest", "plan", "place"] f fd
  na : ∃ f fd, DefAt K mg "_note_at" sNoteAt ["forest", "found", "place"] f fd
  nbp : ∃ f fd, DefAt K mg "notes_by_place" sByPlace ["forest", "plan"] f fd
  no : ∃ f fd, DefAt K mg "notes_of" sNotesOf ["forest", "plan"] f fd
  ha : ∃ f fd, DefAt K mg "_law_hand" sHand ["_law_script"] f fd
  dr : ∃ f fd, DefAt K mg "_law_draw" sDraw ["_law_hand_here", "_law_many"] f fd
  is : ∃ f fd, DefAt K mg "_law_is" sIs ["_law_told_here", "_law_due"] f fd
  pa : ∃ f fd, DefAt K mg "_law_parents" sParents ["_law_hand_here", "_law_places"] f fd
  lo : ∃ f fd, DefAt K mg "_law_lot" sLawLot ["_law_hand_here", "_law_places", "_law_share"] f fd
  le : ∃ f fd, DefAt K mg "_law_levels" sLevels ["_law_hand_here", "_law_parents_here"] f fd
  to : ∃ f fd, DefAt K mg "_law_told" sTold ["_law_hand_here", "_law_most"] f fd
  ma : ∃ f fd, DefAt K mg "_law_made" sMade ["_law_told_here"] f fd
  ro : ∃ f fd, DefAt K mg "_law_road" sRoad ["_law_parents_here", "_law_place"] f fd
  ls : ∃ f fd, DefAt K mg "_law_stacks" sLStacks ["_law_parents_here", "_law_levels_here"] f fd
  ln : ∃ f fd, DefAt K mg "_law_notes" sLNotes ["_law_parents_here", "_law_bearing", "_law_asking", "_law_levels_here"] f fd
  plans : ∃ f fd, DefAt K mg "_law_plans" sPlans ["_law_parents_here"] f fd
  lvl : ∃ f fd, DefAt K mg "_law_level" sLLevel ["_law_parents_here", "_law_ranks", "_law_place"] f fd
  put : ∃ f fd, DefAt K mg "_law_put" sPut ["_law_parents_here", "_law_one", "_law_other", "_law_place"] f fd
  ri : ∃ f fd, DefAt K mg "_law_plan_right" sRight ["_law_told_here", "_law_made_here", "_law_levels_here"] f fd
end Cn
namespace Cn
open PySem PySem.Spec PyProof.Rows L2 Ck
/-! readings that leave all as it is, apart from new things -/
theorem cutDrop (xs : List V) (n : Nat) : cutV xs (some (n : Int)) none = xs.drop n := by
  unfold cutV
  rw [HT.sIx_none, HT.sIx_nat]
  by_cases h : n ≤ xs.length
  · rw [Nat.min_eq_left h]
    exact List.take_of_length_le (by rw [List.length_drop]; omega)
  · rw [Nat.min_eq_right (by omega), Nat.sub_self, List.take_zero, List.drop_of_length_le (by omega)]
theorem cutWhole {xs : List V} {lo hi : Option Int} (h : HT.sIx xs.length 0 lo = 0 ∧ HT.sIx xs.length xs.length hi = xs.length) : cutV xs lo hi = xs := by
  unfold cutV
  rw [h.1, h.2, List.drop_zero, Nat.sub_zero, List.take_length]
theorem slA {K : PySem.W.Frag} {H : Hp} {a : Addr} {xs : List V} {lo hi : Option Int} {Q : VK} (ha : H a = some (.tup xs)) (k : ∀ b H', Same H H' → H' b = some (.tup (cutV xs lo hi)) → Q (.ref b) H') : rSlA K (.ref a) lo hi H Q := by
  refine ⟨a, xs, rfl, .inl (.inl ha), fun h => k a H (Same.refl _) (by rw [cutWhole h]; exact ha), fun _ p np => k p _ (smUpd np) upd_same⟩
theorem slN {K : PySem.W.Frag} {σ : L2.St} {H : Hp} {a : Addr} {xs : List V} {lo : Option Int} {Q : VK} (ha : H a = some (.tup xs)) (k : ∀ b H', Same H H' → H' b = some (.tup (cutV xs lo none)) → Q (.ref b) H') : tNoPart σ H (fun u H3 => rSlA K (.ref a) lo u H3 Q) := slA (hi := none) ha k
theorem catA {K : PySem.W.Frag} {H : Hp} {a b : Addr} {xs ys : List V} {Q : VK} (ha : H a = some (.tup xs)) (hb : H b = some (.tup ys)) (hl : xs.length + ys.length ≤ 1000) (k : ∀ c H', Same H H' → H' c = some (.tup (xs ++ ys)) → Q (.ref c) H') : rCatA K (.ref a) (.ref b) H Q := by
  refine ⟨a, b, xs, ys, rfl, rfl, .inl (.inl ha), .inl (.inl hb), Nat.le_of_lt (small1000 hl), fun h => ?_, fun _ h => ?_, fun _ _ p np => k p _ (smUpd np) upd_same⟩
  · subst h
    exact k b H (Same.refl _) hb
  · subst h
    exact k a H (Same.refl _) (by rw [List.append_nil]; exact ha)
theorem walk_zipT {K : PySem.W.Frag} {a b : Addr} {xs ys : List V} {n : Nat} (hn : n = min xs.length ys.length) : Walk (RZ.ItzT K a b) n (fun H => SqT K H a xs ∧ SqT K H b ys) (YPair (fun i => xs[i]?) (fun i => ys[i]?)) := by
  subst hn
  refine ⟨fun i _ hi q => ?_, fun _ q => ⟨xs, ys, q.1, q.2, by omega⟩, fun i H v H' _ q y => ?_⟩
  · have h1 : i < xs.length := by omega
    have h2 : i < ys.length := by omega
    exact ⟨xs, ys, xs[i], ys[i], q.1, q.2, by simp [h1], by simp [h2]⟩
  · obtain ⟨T, x, z, h1, h2, h3, h4, h5⟩ := y
    exact ⟨T, x, z, h1, h2, h3, h4 xs q.1, h5 ys q.2⟩
section
variable {P : Program} {w : World} {K : PySem.W.Frag} {mg : Str → Option Value} {base : Heap}
theorem tupTy {H : Hp} {a : Addr} {xs : List V} (h : H a = some (.tup xs)) : TyX K H (.ref a) (.type "tuple") := .base (.tup h)
def spIsLot : Sp := fun vs H Q _ => ∃ (a : Addr) (ns : List Nat), vs = [.ref a] ∧ TN H a ns ∧ ns.Pairwise (· < ·) ∧ ns.length ≤ 1000 ∧ ∀ H', Same H H' → Q (.bl true) H'
def nLot : List Str := ["thing", "item", "one", "following"]
theorem scIsLot : FnScope nLot ["thing"] (defScope sIsLot) := ⟨rfl, rfl, rfl, by decide +kernel, rfl, by decide +kernel, by decide +kernel⟩
theorem ok_isLot {f fI : Addr} {fd fdI : FuncData} (F : Fun K "is_lot" "is_lot" sIsLot f fd) (N : NamT mg) (DI : DefAt K mg "is_integer" sIsInt ["thing"] fI fdI) : FnOk P w K mg base CX0 2 f fd ["thing"] spIsLot := by
  have GI : FnOk P w K mg base CX0 1 fI fdI ["thing"] spIsInt := ok_isInt DI.F N
  refine F.ok scIsLot (fun vs H Q E h => ?_) (fun cdv A outer s H vs Q E hr h => ?_)
  · obtain ⟨a, ns, rfl, _⟩ := h
    rfl
  · obtain ⟨a, ns, rfl, ha, hp, hl, k⟩ := h
    refine ⟨_, pss_cons (ps_if (pt_not (pt_val (pe_callB call_isi (by rfl) N.is.inst (by decide +kernel) (pa_cons (pv 0) (pa_cons (pe_bltn (v := .ty "tuple") (by rfl) N.is.tup (by decide +kernel) rfl) pa_nil))))) (pss_one ps_never) pss_nil)
      (pss_cons (ps_for PassesOwn.never rfl (pi_tup (pv 0)) (pg_name (i := 1) scIsLot.nd rfl (Or.inl rfl)) (pss_one (ps_if (pt_not (pt_val (pe_call GI hr (by rfl) DI.g DI.F.kp DI.b .nil pass0 (pa_cons (pv 1) pa_nil)))) (pss_one ps_never) pss_nil)))
      (pss_cons (ps_for PassesOwn.never rfl (RZ.pi_zipA (by rfl) N.is.zip (pa_cons (pv 0) (pa_cons (pe_slice sl_tupA (pv 0) (po_some pe_int) po_none) pa_nil))) (pg_tup rfl (pgs_cons (pg_name (i := 2) scIsLot.nd rfl (Or.inl rfl)) (pgs_cons (pg_name (i := 3) scIsLot.nd rfl (Or.inl rfl)) pgs_nil)))
        (pss_one (ps_if (pt_cmpR op_ge (pv 2) (pv 3) (nomark _)) (pss_one ps_never) pss_nil)))
      (pss_one (ps_ret pe_bl)))), ?_⟩
    refine ⟨_, rfl, _, .ty "tuple", _, _, true, rfl, .ty _, tupTy ha, kit_ty (by decide +kernel), true, rfl, ?_⟩
    refine ifF (by decide) ?_
    refine ⟨_, rfl, a, rfl, ⟨_, tnL ha⟩, ?_⟩
    refine for_it (walk_tup (xs := ns.map vn)) (fun _ σ H' => H' = H ∧ ∃ t1, σ = [some (.ref a), t1, none, none]) ⟨rfl, _, rfl⟩ (fun i σ H' _ z => by rw [z.1]; exact tnL ha) ?_ ?_
    · rintro i x σ H' H2 hi ⟨rfl, t1, rfl⟩ ⟨rfl, hx⟩
      rw [List.getElem?_map] at hx
      obtain ⟨n, _, rfl⟩ := Option.map_eq_some_iff.mp hx
      refine ⟨_, rfl, (n : Int), rfl, true, rfl, ?_⟩
      refine ifF (by decide) ?_
      exact ⟨rfl, _, rfl⟩
    · rintro σ H' ⟨rfl, t1, rfl⟩
      refine ⟨_, rfl, _, rfl, 1, rfl, ?_⟩
      refine slN ha fun b H1 s1 hb => ?_
      rw [show (some (1 : Int)) = some ((1 : Nat) : Int) from rfl, cutDrop] at hb
      have ha1 : TN H1 a ns := s1 _ _ ha
      refine ⟨a, b, ns.map vn, (ns.map vn).drop 1, rfl, .inr ⟨tnL ha1, .inl (.inl hb), ?_⟩⟩
      refine for_it (walk_zipT (xs := ns.map vn) (ys := (ns.map vn).drop 1) rfl) (fun _ σ H' => Same H1 H' ∧ ∃ t1 t2 t3, σ = [some (.ref a), t1, t2, t3]) ⟨Same.refl _, _, _, _, rfl⟩ (fun i σ H' _ z => ⟨tnL (z.1 _ _ ha1), .inl (.inl (z.1 _ _ hb))⟩) ?_ ?_
      · rintro i x σ H' H2 hi ⟨sm, t1, t2, t3, rfl⟩ ⟨T, x1, y1, rfl, nT, rfl, e1, e2⟩
        obtain ⟨n, hn, rfl⟩ := vn_get (i := i) e1
        have e2 : ((ns.map vn).drop 1)[i]? = some y1 := e2
        rw [List.getElem?_drop] at e2
        obtain ⟨m, hm, rfl⟩ := vn_get e2
        refine ⟨T, _, rfl, .inl (.inl upd_same), rfl, _, _, rfl, _, _, rfl, rfl, ?_⟩
        refine ⟨_, rfl, _, rfl, _, _, rfl, rfl, _, rfl, ?_⟩
        obtain ⟨q1, q2⟩ := List.getElem?_eq_some_iff.mp hn
        obtain ⟨q3, q4⟩ := List.getElem?_eq_some_iff.mp hm
        have := List.pairwise_iff_getElem.mp hp i (1 + i) q1 q3 (by omega)
        rw [q2, q4] at this
        refine ifF (by rw [decide_eq_true_iff]; show ¬ ((m : Int) ≤ (n : Int)); omega) ?_
        exact ⟨sm.trans (smUpd nT), _, _, _, rfl⟩
      · rintro σ H' ⟨sm, _⟩
        exact k _ (s1.trans sm)
end
end Cn
namespace Cn
open PySem PySem.Spec PyProof.Rows L2 Ck
theorem vn_last {ns : List Nat} {n : Nat} (h : ns ≠ []) (hn : ns.getLast h = n) : atI (ns.map vn) (-1) = some (vn n) := by
  rw [← hn, show ns.map vn = ns.dropLast.map vn ++ [vn (ns.getLast h)] from by rw [← List.map_singleton (f := vn), ← List.map_append, List.dropLast_concat_getLast]]
  exact atI_last _ _
theorem vp_ne {m : Nat} : decide (vp (some m) = V.non) = false := decide_eq_false fun z => nomatch (show vn m = V.non from z)
section
variable {P : Program} {w : World} {K : PySem.W.Frag} {mg : Str → Option Value} {base : Heap} {C : Addr}
def spLotOf : Sp := fun vs H Q _ => ∃ (a : Addr) (ns : List Nat) (n : Nat), vs = [.ref a, vn n] ∧ TN H a ns ∧ ns.Pairwise (· < ·) ∧ (∀ x ∈ ns, x < n) ∧ ns.length ≤ 1000 ∧ ∀ H', Same H H' → Q (.bl true) H'
theorem scLotOf : FnScope ["thing", "many"] ["thing", "many"] (defScope sLotOf) := ⟨rfl, rfl, rfl, by decide +kernel, rfl, by decide +kernel, by decide +kernel⟩
theorem ok_lotOf {f fI fL : Addr} {fd fdI fdL : FuncData} (F : Fun K "_is_lot_of_places" "_is_lot_of_places" sLotOf f fd) (N : NamT mg) (DI : DefAt K mg "is_integer" sIsInt ["thing"] fI fdI) (DL : DefAt K mg "is_lot" sIsLot ["thing"] fL fdL) : FnOk P w K mg base CX0 3 f fd ["thing", "many"] spLotOf := by
  have GL : FnOk P w K mg base CX0 2 fL fdL ["thing"] spIsLot := ok_isLot DL.F N DI
  refine F.ok scLotOf (fun vs H Q E h => ?_) (fun cdv A outer s H vs Q E hr h => ?_)
  · obtain ⟨a, ns, n, rfl, _⟩ := h
    rfl
  · obtain ⟨a, ns, n, rfl, ha, hp, hx, hl, k⟩ := h
    refine ⟨_, pss_one (ps_ret (pe_and (pe_call GL hr (by rfl) DL.g DL.F.kp DL.b .nil pass0 (pa_cons (pv 0) pa_nil)) (pe_one (pe_or (pe_notT (pv 0)) (pe_one (pe_and (pe_cmpR op_le pe_int (pe_ix ix_tup (pv 0) pe_int (fun _ _ => rfl)) (nomark _)) (pe_one (pe_cmpR op_lt (pe_ix ix_tup (pv 0) (pe_un un_neg pe_int) (fun _ _ => rfl)) (pv 1) (nomark _))))))))), ?_⟩
    refine ⟨_, rfl, a, ns, rfl, ha, hp, hl, fun H1 s1 => ⟨true, rfl, ?_⟩⟩
    refine ifT rfl ?_
    have ha1 : TN H1 a ns := s1 _ _ ha
    refine ⟨_, rfl, _, .inr (.inl ⟨_, tnL ha1, rfl⟩), _, rfl, ?_⟩
    by_cases hne : ns = []
    · refine ifT (by rw [hne]; rfl) ?_
      exact k H1 s1
    · obtain ⟨m, h0⟩ : ∃ m, ns[0]? = some m := ⟨_, List.getElem?_eq_getElem (List.length_pos_iff.mpr hne)⟩
      have hem : (ns.map vn).isEmpty = false := by
        cases ns with
        | nil => exact absurd rfl hne
        | cons _ _ => rfl
      refine ifF (by rw [hem]; decide) ?_
      refine ⟨_, rfl, a, _, (0 : Int), _, rfl, rfl, tnL ha1, vn_ix (i := 0) h0, _, _, rfl, rfl, _, rfl, ?_⟩
      refine ifT (by rw [decide_eq_true_iff]; show (0 : Int) ≤ ((m : Nat) : Int); omega) ?_
      have hg := hx _ (List.getLast_mem hne)
      have el := vn_last hne rfl
      refine ⟨_, rfl, _, rfl, a, _, _, _, rfl, rfl, tnL ha1, el, _, rfl, _, _, rfl, rfl, ?_⟩
      have hlt : (((ns.getLast hne : Nat) : Int)) < (n : Int) := by omega
      show Q (V.bl (decide ((((ns.getLast hne : Nat) : Int)) < (n : Int)))) H1
      rw [decide_eq_true hlt]
      exact k H1 s1
/-! Forest(parents, bearing, asking) -/
def spInit (C : Addr) : Sp := fun vs H Q _ => ∃ (p dx ap ab aa : Addr) (f : Fo), vs = [.ref p, .ref ap, .ref ab, .ref aa] ∧ H p = some (.ins C dx []) ∧ TP H ap f.ps ∧ TN H ab f.be ∧ TN H aa f.as ∧ FoOk f ∧
  ∀ H', FoAt C H' p f → (∀ b o, b ≠ p → H b = some o → H' b = some o) → Q .non H'
def nInit : List Str := ["self", "parents", "bearing", "asking", "place", "parent"]
theorem scInit : FnScope nInit ["self", "parents", "bearing", "asking"] (defScope sInit) := ⟨rfl, rfl, rfl, by decide +kernel, rfl, by decide +kernel, by decide +kernel⟩
theorem put3 {ap ab aa : Addr} : putF "asking" (.ref aa) (putF "bearing" (.ref ab) (putF "parents" (.ref ap) [])) = fields3 ap ab aa := rfl
theorem lotLen {ns : List Nat} {n : Nat} (hp : ns.Pairwise (· < ·)) (hx : ∀ x ∈ ns, x < n) : ns.length ≤ n := by
  have h : ∀ (k : Nat) (xs : List Nat), xs.Pairwise (· < ·) → (∀ x ∈ xs, k ≤ x ∧ x < n) → k ≤ n → xs.length + k ≤ n := by
    intro k xs
    induction xs generalizing k with
    | nil => intro _ _ h; rw [List.length_nil]; omega
    | cons y ys ih =>
      intro p q hk
      have hy := q y List.mem_cons_self
      have := ih (y + 1) (List.pairwise_cons.mp p).2 (fun x hx => ⟨(List.pairwise_cons.mp p).1 x hx, (q x (List.mem_cons_of_mem _ hx)).2⟩) hy.2
      rw [List.length_cons]
      omega
  have := h 0 ns hp (fun x hx' => ⟨Nat.zero_le _, hx x hx'⟩) (Nat.zero_le _)
  omega
theorem ok_init {f fI fL fB fO : Addr} {fd fdI fdL fdB fdO : FuncData} {tm : Tok} (F : Fun K "__init__" "Forest.__init__" sInit f fd) (N : NamT mg) (T : FoT K mg C) (mM : mg "MOST_PLACES" = some (.int 60 tm)) (DI : DefAt K mg "is_integer" sIsInt ["thing"] fI fdI) (DL : DefAt K mg "is_lot" sIsLot ["thing"] fL fdL)
    (DB : DefAt K mg "is_between" sIsBtw ["thing", "least", "most"] fB fdB) (DO : DefAt K mg "_is_lot_of_places" sLotOf ["thing", "many"] fO fdO) : FnOk P w K mg base CX0 4 f fd ["self", "parents", "bearing", "asking"] (spInit C) := by
  have GB : FnOk P w K mg base CX0 2 fB fdB ["thing", "least", "most"] spIsBtw := ok_isBtw DB.F N DI
  have GO : FnOk P w K mg base CX0 3 fO fdO ["thing", "many"] spLotOf := ok_lotOf DO.F N DI DL
  refine F.ok scInit (fun vs H Q E h => ?_) (fun cdv A outer s H vs Q E hr h => ?_)
  · obtain ⟨p, dx, ap, ab, aa, f, rfl, _⟩ := h
    rfl
  · obtain ⟨p, dx, ap, ab, aa, fo, rfl, hp, h1, h2, h3, ok, k⟩ := h
    have hr2 : Room 2 (A.deeper (envOfC "Forest.__init__" (defScope sInit) s.heap.objs.size f cdv)) := Room.mono hr (by decide)
    refine ⟨_, pss_cons (ps_if (PW.pt (pw_or (pt_not (pt_val (pe_callB call_isi (by rfl) N.is.inst (by decide +kernel) (pa_cons (pv 1) (pa_cons (pe_bltn (v := .ty "tuple") (by rfl) N.is.tup (by decide +kernel) rfl) pa_nil)))))
          (pw_or1 (pt_not (pt_chain op_le op_le pe_int (pe_callB call_len_seq (by rfl) N.is.len PySem.boot_len (pa_cons (pv 1) pa_nil)) (pe_glob (v := .int 60) (by rfl) mM ⟨_, rfl⟩)))))) (pss_one ps_never) pss_nil)
      (pss_cons (ps_for PassesOwn.never rfl (pi_enumT (by rfl) N.enum (pa_cons (pv 1) pa_nil)) (pg_tup rfl (pgs_cons (pg_name (i := 4) scInit.nd rfl (Or.inl rfl)) (pgs_cons (pg_name (i := 5) scInit.nd rfl (Or.inl rfl)) pgs_nil)))
        (pss_one (ps_if (PW.pt (pw_and (pt_cmpR op_notN (pv 5) pe_non (nomark _)) (pw_and1 (pt_not (pt_val (pe_call GB hr2 (by rfl) DB.g DB.F.kp DB.b .nil pass0 (pa_cons (pv 5) (pa_cons pe_int (pa_cons (pe_op op_sub (pv 4) pe_int) pa_nil))))))))) (pss_one ps_never) pss_nil)))
      (pss_cons (ps_if (pt_not (pt_val (pe_call GO hr (by rfl) DO.g DO.F.kp DO.b .nil pass0 (pa_cons (pv 2) (pa_cons (pe_callB call_len_seq (by rfl) N.is.len PySem.boot_len (pa_cons (pv 1) pa_nil)) pa_nil))))) (pss_one ps_never) pss_nil)
      (pss_cons (ps_if (pt_not (pt_val (pe_call GO hr (by rfl) DO.g DO.F.kp DO.b .nil pass0 (pa_cons (pv 3) (pa_cons (pe_callB call_len_seq (by rfl) N.is.len PySem.boot_len (pa_cons (pv 1) pa_nil)) pa_nil))))) (pss_one ps_never) pss_nil)
      (pss_cons (ps_fld (pv 0) (pv 1) rfl) (pss_cons (ps_fld (pv 0) (pv 2) rfl) (pss_one (ps_fld (pv 0) (pv 3) rfl))))))), ?_⟩
    have l1 : ((fo.ps.map vp).length : Int) ≤ 60 := by have := ok.l1; rw [List.length_map]; omega
    have l0 : (1 : Int) ≤ ((fo.ps.map vp).length : Int) := by have := ok.l0; rw [List.length_map]; omega
    refine ⟨_, rfl, _, .ty "tuple", _, _, true, rfl, .ty _, tupTy h1, kit_ty (by decide +kernel), true, rfl, ?_⟩
    refine ifF (by decide) ?_
    refine ⟨_, rfl, ap, _, rfl, .inr (tpL h1), _, _, rfl, rfl, _, rfl, ?_⟩
    refine ifT (decide_eq_true l0) ?_
    refine ⟨_, _, rfl, rfl, _, rfl, ?_⟩
    refine ifF (by rw [decide_eq_true l1]; decide) ?_
    refine ⟨_, rfl, ap, _, rfl, tpL h1, ?_⟩
    refine for_it (walk_enumT (xs := fo.ps.map vp)) (fun _ σ H' => Same H H' ∧ ∃ t4 t5, σ = [some (.ref p), some (.ref ap), some (.ref ab), some (.ref aa), t4, t5]) ⟨Same.refl _, _, _, rfl⟩ (fun i σ H' _ z => tpL (z.1 _ _ h1)) ?_ ?_
    · rintro i x σ H' H2 hi ⟨sm, t4, t5, rfl⟩ ⟨T, x1, y1, rfl, nT, rfl, e1, e2⟩
      cases e1
      obtain ⟨q, hq, rfl⟩ := vp_get (i := i) e2
      refine ⟨T, _, rfl, .inl (.inl upd_same), rfl, _, _, rfl, _, _, rfl, rfl, ?_⟩
      cases q with
      | none =>
        refine ⟨_, rfl, rfl, _, rfl, ?_⟩
        refine ifF (by decide) ?_
        exact ⟨sm.trans (smUpd nT), _, _, rfl⟩
      | some m =>
        refine ⟨_, rfl, rfl, _, rfl, ?_⟩
        refine ifT (by rw [vp_ne]; rfl) ?_
        refine ⟨_, rfl, _, rfl, _, _, rfl, rfl, (m : Int), 0, (i : Int) - 1, rfl, _, rfl, ?_⟩
        have := ok.ps i m hq
        refine ifF (by rw [decide_eq_true (by omega)]; decide) ?_
        exact ⟨sm.trans (smUpd nT), _, _, rfl⟩
    · rintro σ H' ⟨sm, t4, t5, rfl⟩
      refine ⟨_, rfl, _, rfl, ap, _, rfl, .inr (tpL (sm _ _ h1)), ab, fo.be, fo.ps.length, by rw [List.length_map]; rfl, sm _ _ h2, ok.be, ok.bl, Nat.le_trans (lotLen ok.be ok.bl) (by have := ok.l1; omega), fun H1 s1 => ⟨true, rfl, ?_⟩⟩
      refine ifF (by decide) ?_
      refine ⟨_, rfl, _, rfl, ap, _, rfl, .inr (tpL (s1 _ _ (sm _ _ h1))), aa, fo.as, fo.ps.length, by rw [List.length_map]; rfl, s1 _ _ (sm _ _ h3), ok.as, ok.al, Nat.le_trans (lotLen ok.as ok.al) (by have := ok.l1; omega), fun H3 s3 => ⟨true, rfl, ?_⟩⟩
      refine ifF (by decide) ?_
      have sm3 := (sm.trans s1).trans s3
      refine ⟨_, rfl, _, rfl, p, C, dx, [], rfl, sm3 _ _ hp, T.cl, T.nP, (by show 0 < 1000; decide), ?_⟩
      refine ⟨_, rfl, _, rfl, p, C, dx, _, rfl, upd_same, T.cl, T.nB, (by show 1 < 1000; decide), ?_⟩
      refine ⟨_, rfl, _, rfl, p, C, dx, _, rfl, upd_same, T.cl, T.nA, (by show 2 < 1000; decide), ?_⟩
      have kp : ∀ b o, b ≠ p → H b = some o → (upd (upd (upd H3 p (.ins C dx (putF "parents" (.ref ap) []))) p (.ins C dx (putF "bearing" (.ref ab) (putF "parents" (.ref ap) [])))) p (.ins C dx (fields3 ap ab aa))) b = some o := fun b o ne e => by
        rw [upd_ne ne, upd_ne ne, upd_ne ne]
        exact sm3 _ _ e
      have nt : ∀ {a : Addr} {xs : List V}, H a = some (.tup xs) → a ≠ p := fun {a xs} e z => by rw [z, hp] at e; cases e
      exact k _ ⟨dx, ap, ab, aa, upd_same, kp _ _ (nt h1) h1, kp _ _ (nt h2) h2, kp _ _ (nt h3) h3⟩ kp
end
end Cn
namespace Cn
open PySem PySem.Spec PyProof.Rows L2 Ck
section
variable {P : Program} {w : World} {K : PySem.W.Frag} {mg : Str → Option Value} {base : Heap} {C : Addr}
/-- a def at its level -/
def Def (P : Program) (w : World) (K : PySem.W.Frag) (mg : Str → Option Value) (base : Heap) (x : Str) (k : Nat) (ps : List Str) (sp : Sp) : Prop :=
  ∃ f fd, FnOk P w K mg base CX0 k f fd ps sp ∧ mg x = some (.ref f) ∧ PySem.W.keepIn K (.ref f) = true ∧ Binds K fd ps []
theorem def_of {x : Str} {st : Stmt} {ps : List Str} {k : Nat} {sp : Sp} (h : ∃ f fd, DefAt K mg x st ps f fd) (g : ∀ f fd, Fun K x x st f fd → FnOk P w K mg base CX0 k f fd ps sp) : Def P w K mg base x k ps sp := by
  obtain ⟨f, fd, D⟩ := h
  exact ⟨f, fd, g f fd D.F, D.g, D.F.kp, D.b⟩
theorem dBtw (B : Defs K mg C) : Def P w K mg base "is_between" 2 ["thing", "least", "most"] spIsBtw := by
  obtain ⟨fI, fdI, DI⟩ := B.I
  exact def_of B.B fun f fd F => ok_isBtw F B.N DI
/-! is_place -/
def spPlace (C : Addr) : Sp := fun vs H Q _ => ∃ (a : Addr) (f : Fo) (i : Nat), vs = [.ref a, vn i] ∧ FoAt C H a f ∧ i < f.ps.length ∧ Q (.bl true) H
theorem scIsPlace : FnScope ["forest", "thing"] ["forest", "thing"] (defScope sIsPlace) := ⟨rfl, rfl, rfl, by decide +kernel, rfl, by decide +kernel, by decide +kernel⟩
theorem dPlace (B : Defs K mg C) : Def P w K mg base "is_place" 3 ["forest", "thing"] (spPlace C) := by
  obtain ⟨fB, fdB, GB, gB, kB, bB⟩ := dBtw (P := P) (w := w) (base := base) B
  refine def_of B.Pl fun f fd F => ?_
  refine F.ok scIsPlace (fun vs H Q E h => ?_) (fun cdv A outer s H vs Q E hr h => ?_)
  · obtain ⟨a, f, i, rfl, _⟩ := h
    rfl
  · obtain ⟨a, fo, i, rfl, ⟨dx, ap, ab, aa, h0, h1, h2, h3⟩, hi, k⟩ := h
    refine ⟨_, pss_one (ps_ret (pe_call GB hr (by rfl) gB kB bB .nil pass0 (pa_cons (pv 1) (pa_cons pe_int (pa_cons (pe_op op_sub (pe_callB call_len_seq (by rfl) B.N.is.len PySem.boot_len (pa_cons (pe_fld (pv 0) rfl) pa_nil)) pe_int) pa_nil))))), ?_⟩
    refine ⟨_, rfl, _, rfl, a, C, dx, _, _, rfl, h0, B.T.cl, B.T.nP, fP, ap, _, rfl, .inr (tpL h1), _, _, rfl, rfl, (i : Int), 0, _, rfl, ?_⟩
    rw [List.length_map, decide_eq_true (by omega)]
    exact k
/-! way -/
def spWay (C : Addr) : Sp := fun vs H Q _ => ∃ (a : Addr) (f : Fo) (i : Nat), vs = [.ref a, vn i] ∧ FoAt C H a f ∧ Ps f.ps ∧ f.ps.length ≤ 60 ∧ i < f.ps.length ∧ ∀ b H', Same H H' → TDn H' b (road f.ps i) → Q (.ref b) H'
def nWay : List Str := ["forest", "place", "upward", "parent"]
theorem scWay : FnScope nWay ["forest", "place"] (defScope sWay) := ⟨rfl, rfl, rfl, by decide +kernel, rfl, by decide +kernel, by decide +kernel⟩
theorem ps_at {ps : List (Option Nat)} {i : Nat} (hi : i < ps.length) : ∃ q, ps[i]? = some q := ⟨_, List.getElem?_eq_getElem hi⟩
/-- where the walk upward stands -/
def UpAt (ps : List (Option Nat)) (i : Nat) (up : List Nat) : Option Nat → Prop
  | none => road ps i = up.reverse
  | some p => p < i ∧ road ps i = road ps p ++ up.reverse
theorem upStart {ps : List (Option Nat)} {i : Nat} {q : Option Nat} (hp : Ps ps) (h : ps[i]? = some q) : UpAt ps i [i] q := by
  cases q with
  | none => exact road_none h
  | some p => exact ⟨hp i p h, road_some hp h⟩
theorem upNext {ps : List (Option Nat)} {i p : Nat} {up : List Nat} {q : Option Nat} (hp : Ps ps) (h : UpAt ps i up (some p)) (hq : ps[p]? = some q) : UpAt ps i (up ++ [p]) q := by
  obtain ⟨hl, e⟩ := h
  cases q with
  | none =>
    show road ps i = (up ++ [p]).reverse
    rw [e, road_none hq, List.reverse_append]; rfl
  | some r =>
    refine ⟨Nat.lt_trans (hp p r hq) hl, ?_⟩
    rw [e, road_some hp hq, List.reverse_append, List.append_assoc]; rfl
def meas : L2.St → Nat := fun σ => match σ[3]? with
  | some (some (V.int n)) => n.toNat + 1
  | _ => 0
theorem dWay (B : Defs K mg C) : Def P w K mg base "way" 4 ["forest", "place"] (spWay C) := by
  obtain ⟨fB, fdB, GB, gB, kB, bB⟩ := dPlace (P := P) (w := w) (base := base) B
  refine def_of B.W fun f fd F => ?_
  refine F.ok scWay (fun vs H Q E h => ?_) (fun cdv A outer s H vs Q E hr h => ?_)
  · obtain ⟨a, f, i, rfl, _⟩ := h
    rfl
  · obtain ⟨a, fo, i, rfl, hF, hp, hl, hi, k⟩ := h
    refine ⟨_, pss_cons (ps_if (pt_not (pt_val (pe_call GB hr (by rfl) gB kB bB .nil pass0 (pa_cons (pv 0) (pa_cons (pv 1) pa_nil))))) (pss_one ps_never) pss_nil)
      (pss_cons (ps_set (i := 2) scWay.nd rfl (Or.inl rfl) (pe_lst (pa_cons (pv 1) pa_nil)))
      (pss_cons (ps_set (i := 3) scWay.nd rfl (Or.inl rfl) (pe_ix ix_tup (pe_fld (pv 0) rfl) (pv 1) (fun _ _ => rfl)))
      (pss_cons (ps_while PassesOwn.never (pt_cmpR op_notN (pv 3) pe_non (nomark _))
        (pss_cons (ps_expr (pe_bm PySem.F.plainAttrs_list PySem.F.slot_list_append PySem.F.type_list_append mt_append (pv 2) (pa_cons (pv 3) pa_nil)))
        (pss_one (ps_set (i := 3) scWay.nd rfl (Or.inl rfl) (pe_ix ix_tup (pe_fld (pv 0) rfl) (pv 3) (fun _ _ => rfl))))))
      (pss_one (ps_ret (pe_tupRevD rfl (by rfl) B.N.is.tup (by rfl) B.N.rev (pv 2))))))), ?_⟩
    refine ⟨_, rfl, _, rfl, a, fo, i, rfl, hF, hi, true, rfl, ?_⟩
    refine ifF (by decide) ?_
    obtain ⟨dx, ap, ab, aa, h0, h1, h2, h3⟩ := hF
    refine ⟨_, rfl, by show 1 ≤ sizeLine; decide, fun u nu => ?_⟩
    have S1 := smUpd (o := .lst [vn i]) nu
    obtain ⟨q, hq⟩ := ps_at hi
    refine ⟨_, rfl, a, C, dx, _, _, rfl, S1 _ _ h0, B.T.cl, B.T.nP, fP, _, rfl, ap, _, (i : Int), _, rfl, rfl, tpL (S1 _ _ h1), vp_ix hq, ?_⟩
    refine while_by (fun σ H' => ∃ (up : List Nat) (q : Option Nat), σ = [some (.ref a), some (vn i), some (.ref u), some (vp q)] ∧ Same H H' ∧ H' u = some (.lst (up.map vn)) ∧ UpAt fo.ps i up q ∧ up.length ≤ i + 1) (fun σ _ => meas σ) ⟨[i], q, rfl, S1, upd_same, upStart hp hq, by show 1 ≤ i + 1; omega⟩ ?_ ?_
    · rintro σ H' ⟨up, q, rfl, sm, hu, hup, hul⟩
      refine ⟨_, rfl, rfl, _, rfl, ?_⟩
      cases q with
      | none =>
        refine ifF (by decide) ?_
        refine ⟨_, rfl, u, _, rfl, .inl (.inl hu), fun r H2 s2 hr => ?_⟩
        rw [← List.map_reverse] at hr
        have e : road fo.ps i = up.reverse := hup
        refine k r _ (sm.trans s2) ?_
        rw [e]
        exact hr
      | some p =>
        refine ifT (by rw [vp_ne]; rfl) ?_
        obtain ⟨hpi, _⟩ := id hup
        have hpl : p < fo.ps.length := Nat.lt_trans hpi hi
        obtain ⟨r, hr⟩ := ps_at hpl
        refine ⟨_, rfl, .inl ⟨rfl, _, .inl (.inl hu)⟩, _, rfl, u, _, _, rfl, rfl, hu, ?_, ?_⟩
        · rw [List.length_map]; exact small1000 (by omega)
        have nub : ∀ b o, H b = some o → b ≠ u := fun b o e z => by rw [z, nu] at e; cases e
        have sm2 : Same H (upd H' u (.lst (up.map vn ++ [vp (some p)]))) := fun b o e => by rw [upd_ne (nub b o e)]; exact sm b o e
        refine ⟨_, rfl, a, C, dx, _, _, rfl, sm2 _ _ h0, B.T.cl, B.T.nP, fP, _, rfl, ap, _, (p : Int), _, rfl, rfl, tpL (sm2 _ _ h1), vp_ix hr, ?_⟩
        refine ⟨⟨up ++ [p], r, rfl, sm2, ?_, upNext hp hup hr, ?_⟩, ?_⟩
        · rw [upd_same, List.map_append]; rfl
        · have e := road_len hp i hi
          obtain ⟨_, e2⟩ := hup
          have := List.length_pos_iff.mpr (road_ne hp hpl)
          rw [e2, List.length_append, List.length_reverse] at e
          rw [List.length_append, List.length_singleton]
          omega
        · cases r with
          | none => show 0 < (p : Int).toNat + 1; omega
          | some r =>
            have := hp p r hr
            show (r : Int).toNat + 1 < (p : Int).toNat + 1
            omega
    · rintro σ H' Q1 Q2 hq12 ⟨v, hv, e, kk, hk, qq⟩
      exact ⟨v, hv, e, kk, hk, hq12 _ _ qq⟩
end
end Cn
namespace Cn
open PySem PySem.Spec PyProof.Rows L2 Ck
/-! way, as a plain new tuple -/
section
variable {P : Program} {w : World} {K : PySem.W.Frag} {mg : Str → Option Value} {base : Heap} {C : Addr}
def spWayN (C : Addr) : Sp := fun vs H Q _ => ∃ (a : Addr) (f : Fo) (i : Nat), vs = [.ref a, vn i] ∧ FoAt C H a f ∧ Ps f.ps ∧ f.ps.length ≤ 60 ∧ i < f.ps.length ∧ ∀ b H', Same H H' → TN H' b (road f.ps i) → Q (.ref b) H'
theorem dWayN (B : Defs K mg C) : Def P w K mg base "way" 4 ["forest", "place"] (spWayN C) := by
  obtain ⟨fB, fdB, GB, gB, kB, bB⟩ := dPlace (P := P) (w := w) (base := base) B
  refine def_of B.W fun f fd F => ?_
  refine F.ok scWay (fun vs H Q E h => ?_) (fun cdv A outer s H vs Q E hr h => ?_)
  · obtain ⟨a, f, i, rfl, _⟩ := h
    rfl
  · obtain ⟨a, fo, i, rfl, hF, hp, hl, hi, k⟩ := h
    refine ⟨_, pss_cons (ps_if (pt_not (pt_val (pe_call GB hr (by rfl) gB kB bB .nil pass0 (pa_cons (pv 0) (pa_cons (pv 1) pa_nil))))) (pss_one ps_never) pss_nil)
      (pss_cons (ps_set (i := 2) scWay.nd rfl (Or.inl rfl) (pe_lst (pa_cons (pv 1) pa_nil)))
      (pss_cons (ps_set (i := 3) scWay.nd rfl (Or.inl rfl) (pe_ix ix_tup (pe_fld (pv 0) rfl) (pv 1) (fun _ _ => rfl)))
      (pss_cons (ps_while PassesOwn.never (pt_cmpR op_notN (pv 3) pe_non (nomark _))
        (pss_cons (ps_expr (pe_bm PySem.F.plainAttrs_list PySem.F.slot_list_append PySem.F.type_list_append mt_append (pv 2) (pa_cons (pv 3) pa_nil)))
        (pss_one (ps_set (i := 3) scWay.nd rfl (Or.inl rfl) (pe_ix ix_tup (pe_fld (pv 0) rfl) (pv 3) (fun _ _ => rfl))))))
      (pss_one (ps_ret (RT.pe_tupRev rfl (by rfl) B.N.is.tup (by rfl) B.N.rev (pv 2))))))), ?_⟩
    refine ⟨_, rfl, _, rfl, a, fo, i, rfl, hF, hi, true, rfl, ?_⟩
    refine ifF (by decide) ?_
    obtain ⟨dx, ap, ab, aa, h0, h1, h2, h3⟩ := hF
    refine ⟨_, rfl, by show 1 ≤ sizeLine; decide, fun u nu => ?_⟩
    have S1 := smUpd (o := .lst [vn i]) nu
    obtain ⟨q, hq⟩ := ps_at hi
    refine ⟨_, rfl, a, C, dx, _, _, rfl, S1 _ _ h0, B.T.cl, B.T.nP, fP, _, rfl, ap, _, (i : Int), _, rfl, rfl, tpL (S1 _ _ h1), vp_ix hq, ?_⟩
    refine while_by (fun σ H' => ∃ (up : List Nat) (q : Option Nat), σ = [some (.ref a), some (vn i), some (.ref u), some (vp q)] ∧ Same H H' ∧ H' u = some (.lst (up.map vn)) ∧ UpAt fo.ps i up q ∧ up.length ≤ i + 1) (fun σ _ => meas σ) ⟨[i], q, rfl, S1, upd_same, upStart hp hq, by show 1 ≤ i + 1; omega⟩ ?_ ?_
    · rintro σ H' ⟨up, q, rfl, sm, hu, hup, hul⟩
      refine ⟨_, rfl, rfl, _, rfl, ?_⟩
      cases q with
      | none =>
        refine ifF (by decide) ?_
        refine ⟨_, rfl, u, _, rfl, .inl (.inl hu), fun r nr => ?_⟩
        rw [← List.map_reverse]
        have e : road fo.ps i = up.reverse := hup
        refine k r _ (sm.trans (smUpd nr)) ?_
        rw [e]
        exact upd_same
      | some p =>
        refine ifT (by rw [vp_ne]; rfl) ?_
        obtain ⟨hpi, _⟩ := id hup
        have hpl : p < fo.ps.length := Nat.lt_trans hpi hi
        obtain ⟨r, hr⟩ := ps_at hpl
        refine ⟨_, rfl, .inl ⟨rfl, _, .inl (.inl hu)⟩, _, rfl, u, _, _, rfl, rfl, hu, ?_, ?_⟩
        · rw [List.length_map]; exact small1000 (by omega)
        have nub : ∀ b o, H b = some o → b ≠ u := fun b o e z => by rw [z, nu] at e; cases e
        have sm2 : Same H (upd H' u (.lst (up.map vn ++ [vp (some p)]))) := fun b o e => by rw [upd_ne (nub b o e)]; exact sm b o e
        refine ⟨_, rfl, a, C, dx, _, _, rfl, sm2 _ _ h0, B.T.cl, B.T.nP, fP, _, rfl, ap, _, (p : Int), _, rfl, rfl, tpL (sm2 _ _ h1), vp_ix hr, ?_⟩
        refine ⟨⟨up ++ [p], r, rfl, sm2, ?_, upNext hp hup hr, ?_⟩, ?_⟩
        · rw [upd_same, List.map_append]; rfl
        · have e := road_len hp i hi
          obtain ⟨_, e2⟩ := hup
          have := List.length_pos_iff.mpr (road_ne hp hpl)
          rw [e2, List.length_append, List.length_reverse] at e
          rw [List.length_append, List.length_singleton]
          omega
        · cases r with
          | none => show 0 < (p : Int).toNat + 1; omega
          | some r =>
            have := hp p r hr
            show (r : Int).toNat + 1 < (p : Int).toNat + 1
            omega
    · rintro σ H' Q1 Q2 hq12 ⟨v, hv, e, kk, hk, qq⟩
      exact ⟨v, hv, e, kk, hk, hq12 _ _ qq⟩
end
end Cn
namespace Cn
open PySem PySem.Spec PyProof.Rows L2 Ck
/-! data of whole numbers -/
def dn (ns : List Nat) : List PyData := ns.map fun n => PyData.int ((n : Nat) : Int)
theorem dpN {K : PySem.W.Frag} {H : Hp} : ∀ ns : List Nat, DpAll K H (ns.map vn) (dn ns)
  | [] => .nil
  | n :: ns => .cons (.int _) (dpN ns)
theorem dnLay : ∀ ns : List Nat, PyData.canLayAll0 (dn ns) = true
  | [] => rfl
  | n :: ns => by
    show (PyData.canLay0 (.int _) && PyData.canLayAll0 (dn ns)) = true
    rw [dnLay ns]; rfl
theorem dnDepth : ∀ ns : List Nat, PyData.depthAll (dn ns) = 0
  | [] => rfl
  | n :: ns => by
    show max (PyData.depth (.int _)) (PyData.depthAll (dn ns)) = 0
    rw [dnDepth ns]; rfl
theorem dnShL (ns : List Nat) : SeqAt.shaped (.list (dn ns)) = true := by
  show (PyData.canLayAll0 (dn ns) && decide (PyData.depthAll (dn ns) + 1 ≤ 64)) = true
  rw [dnLay, dnDepth]; rfl
theorem dnShT (ns : List Nat) : SeqAt.shaped (.tuple (dn ns)) = true := by
  show (PyData.canLayAll0 (dn ns) && decide (PyData.depthAll (dn ns) + 1 ≤ 64)) = true
  rw [dnLay, dnDepth]; rfl
theorem dnEqL (ns : List Nat) : PyData.eqv (.list (dn ns)) (.list (dn ns)) = true := SeqAt.eqv_refl (.list (dn ns)) (dnLay ns)
theorem dnEqT (ns : List Nat) : PyData.eqv (.tuple (dn ns)) (.tuple (dn ns)) = true := SeqAt.eqv_refl (.tuple (dn ns)) (dnLay ns)
/-- what is sorted and has just the numbers below n, each once -/
theorem sortedRange {ns : List Nat} {n : Nat} {zs : List Int} (nd : ns.Nodup) (hm : ∀ x, x ∈ ns ↔ x < n) (hp : zs.Perm (ns.map fun k => ((k : Nat) : Int))) (hs : zs.Pairwise (· ≤ ·)) : zs = (List.range n).map fun k => ((k : Nat) : Int) := by
  have h1 : ns.Perm (List.range n) := (List.perm_ext_iff_of_nodup nd List.nodup_range).mpr fun x => by rw [hm, List.mem_range]
  refine List.Perm.eq_of_pairwise (le := (· ≤ ·)) (fun a b _ _ p q => Int.le_antisymm p q) hs ?_ (hp.trans (h1.map _))
  rw [List.pairwise_map]
  exact List.pairwise_lt_range.imp fun h => by omega
theorem rgN (n : Nat) : rgV 0 (n : Int) = (List.range n).map vn := by
  unfold rgV
  rw [Int.sub_zero, Int.toNat_natCast]
  refine List.map_congr_left fun i _ => ?_
  show V.int (0 + (i : Int)) = V.int (i : Int)
  rw [Int.zero_add]
theorem mapIV (ns : List Nat) : (ns.map fun k => ((k : Nat) : Int)).map V.int = ns.map vn := by rw [List.map_map]; rfl
/-- cuts: all places, each once -/
structure CutsOk (n : Nat) (cs : List Nat) : Prop where
  len : cs.length = n
  nd : cs.Nodup
  mem : ∀ x, x ∈ cs ↔ x < n
section
variable {P : Program} {w : World} {K : PySem.W.Frag} {mg : Str → Option Value} {base : Heap} {C : Addr}
theorem dInt (B : Defs K mg C) : Def P w K mg base "is_integer" 1 ["thing"] spIsInt := def_of B.I fun f fd F => ok_isInt F B.N
end
end Cn

namespace Cn
open PySem PySem.Spec PyProof.Rows L2 Ck
section
variable {P : Program} {w : World} {K : PySem.W.Frag} {mg : Str → Option Value} {base : Heap} {C : Addr}
/-! is_plan -/
def spIsPlan (C : Addr) : Sp := fun vs H Q _ => ∃ (a b : Addr) (f : Fo) (lv : List Nat), vs = [.ref a, .ref b] ∧ FoAt C H a f ∧ TN H b lv ∧ Ps f.ps ∧ Lv f.ps lv ∧ ∀ H', Same H H' → Q (.bl true) H'
def nIsPlan : List Str := ["forest", "thing", "place", "parent", "most"]
theorem scIsPlan : FnScope nIsPlan ["forest", "thing"] (defScope sIsPlan) := ⟨rfl, rfl, rfl, by decide +kernel, rfl, by decide +kernel, by decide +kernel⟩
theorem dIsPlan (B : Defs K mg C) : Def P w K mg base "is_plan" 3 ["forest", "thing"] (spIsPlan C) := by
  obtain ⟨fB, fdB, GB, gB, kB, bB⟩ := dBtw (P := P) (w := w) (base := base) B
  have N := B.N
  have T := B.T
  refine def_of B.pl fun f fd F => ?_
  refine F.ok scIsPlan (fun vs H Q E h => ?_) (fun cdv A outer s H vs Q E hr h => ?_)
  · obtain ⟨a, b, f, lv, rfl, _⟩ := h
    rfl
  · obtain ⟨a, b, fo, lv, rfl, ⟨dx, ap, ab, aa, h0, h1, h2, h3⟩, hb, hp, hv, k⟩ := h
    refine ⟨_, pss_cons (ps_if (PW.pt (pw_or (pt_not (pt_val (pe_callB call_isi (by rfl) N.is.inst (by decide +kernel) (pa_cons (pv 1) (pa_cons (pe_bltn (v := .ty "tuple") (by rfl) N.is.tup (by decide +kernel) rfl) pa_nil)))))
          (pw_or1 (pt_cmpR op_ne (pe_callB call_len_seq (by rfl) N.is.len PySem.boot_len (pa_cons (pv 1) pa_nil)) (pe_callB call_len_seq (by rfl) N.is.len PySem.boot_len (pa_cons (pe_fld (pv 0) rfl) pa_nil)) (nomark _))))) (pss_one ps_never) pss_nil)
      (pss_cons (ps_for PassesOwn.never rfl (pi_enumT (by rfl) N.enum (pa_cons (pe_fld (pv 0) rfl) pa_nil)) (pg_tup rfl (pgs_cons (pg_name (i := 2) scIsPlan.nd rfl (Or.inl rfl)) (pgs_cons (pg_name (i := 3) scIsPlan.nd rfl (Or.inl rfl)) pgs_nil)))
        (pss_cons (ps_set (i := 4) scIsPlan.nd rfl (Or.inl rfl) (pe_ifExp (pt_cmpR op_isN (pv 3) pe_non (nomark _)) pe_int (pe_op op_add (pe_ix ix_tup (pv 1) (pv 3) (fun _ _ => rfl)) pe_int)))
        (pss_one (ps_if (pt_not (pt_val (pe_call GB hr (by rfl) gB kB bB .nil pass0 (pa_cons (pe_ix ix_tup (pv 1) (pv 2) (fun _ _ => rfl)) (pa_cons pe_int (pa_cons (pv 4) pa_nil)))))) (pss_one ps_never) pss_nil))))
      (pss_one (ps_ret pe_bl))), ?_⟩
    refine ⟨_, rfl, _, .ty "tuple", _, _, true, rfl, .ty _, tupTy hb, kit_ty (by decide +kernel), true, rfl, ?_⟩
    refine ifF (by decide) ?_
    refine ⟨_, rfl, b, _, rfl, .inr (tnL hb), _, rfl, a, C, dx, _, _, rfl, h0, T.cl, T.nP, fP, ap, _, rfl, .inr (tpL h1), rfl, _, rfl, ?_⟩
    refine ifF (by rw [List.length_map, List.length_map, hv.1, decide_eq_true rfl]; decide) ?_
    refine ⟨_, rfl, a, C, dx, _, _, rfl, h0, T.cl, T.nP, fP, ap, _, rfl, tpL h1, ?_⟩
    refine for_it (walk_enumT (xs := fo.ps.map vp)) (fun _ σ H' => Same H H' ∧ ∃ t2 t3 t4, σ = [some (.ref a), some (.ref b), t2, t3, t4]) ⟨Same.refl _, _, _, _, rfl⟩ (fun i σ H' _ z => tpL (z.1 _ _ h1)) ?_ ?_
    · rintro i x σ H' H2 hi ⟨sm, t2, t3, t4, rfl⟩ ⟨T1, x1, y1, rfl, nT, rfl, e1, e2⟩
      cases e1
      obtain ⟨q, hq, rfl⟩ := vp_get (i := i) e2
      refine ⟨T1, _, rfl, .inl (.inl upd_same), rfl, _, _, rfl, _, _, rfl, rfl, ?_⟩
      have sm2 := sm.trans (smUpd (o := .tup [.int (i : Nat), vp q]) nT)
      generalize upd H' T1 (.tup [.int (i : Nat), vp q]) = H2 at sm2 ⊢
      have hb2 := sm2 _ _ hb
      have hil : i < lv.length := by rw [hv.1]; exact (List.getElem?_eq_some_iff.mp hq).1
      have hl := getD_at hil
      have hlv := hv.2 i _ q hl hq
      refine ⟨_, rfl, rfl, _, rfl, ?_⟩
      cases q with
      | none =>
        refine ifT (by decide) ?_
        refine ⟨_, rfl, _, rfl, b, _, (i : Int), _, rfl, rfl, tnL hb2, vn_ix hl, _, rfl, _, _, _, rfl, _, rfl, ?_⟩
        have e : mostLv lv none = 1 := rfl
        refine ifF (by rw [decide_eq_true (by omega)]; decide) ?_
        exact ⟨sm2, _, _, _, rfl⟩
      | some p =>
        refine ifF (by rw [vp_ne]; decide) ?_
        have hpl : p < lv.length := Nat.lt_trans (hp i p hq) hil
        refine ⟨_, rfl, _, rfl, b, _, (p : Int), _, rfl, rfl, tnL hb2, vn_ix (getD_at hpl), _, _, rfl, rfl, ?_⟩
        refine ⟨_, rfl, _, rfl, b, _, (i : Int), _, rfl, rfl, tnL hb2, vn_ix hl, _, rfl, _, _, _, rfl, _, rfl, ?_⟩
        have e : mostLv lv (some p) = lv.getD p 0 + 1 := rfl
        refine ifF (by rw [decide_eq_true (by omega)]; decide) ?_
        exact ⟨sm2, _, _, _, rfl⟩
    · rintro σ H' ⟨sm, _⟩
      exact k _ sm
end
end Cn

namespace Cn
open PySem PySem.Spec PyProof.Rows L2 Ck
section
variable {P : Program} {w : World} {K : PySem.W.Frag} {mg : Str → Option Value} {base : Heap} {C : Addr}
/-! _is_cuts -/
def spIsCuts (C : Addr) : Sp := fun vs H Q _ => ∃ (a b : Addr) (f : Fo) (cs : List Nat), vs = [.ref a, .ref b] ∧ FoAt C H a f ∧ TDn H b cs ∧ f.ps.length ≤ 60 ∧ CutsOk f.ps.length cs ∧ ∀ H', Same H H' → Q (.bl true) H'
def nIsCuts : List Str := ["forest", "thing", "item"]
theorem scIsCuts : FnScope nIsCuts ["forest", "thing"] (defScope sIsCuts) := ⟨rfl, rfl, rfl, by decide +kernel, rfl, by decide +kernel, by decide +kernel⟩
theorem dIsCuts (B : Defs K mg C) : Def P w K mg base "_is_cuts" 2 ["forest", "thing"] (spIsCuts C) := by
  obtain ⟨fI, fdI, GI, gI, kI, bI⟩ := dInt (P := P) (w := w) (base := base) B
  have N := B.N
  have T := B.T
  refine def_of B.cu fun f fd F => ?_
  refine F.ok scIsCuts (fun vs H Q E h => ?_) (fun cdv A outer s H vs Q E hr h => ?_)
  · obtain ⟨a, b, f, lv, rfl, _⟩ := h
    rfl
  · obtain ⟨a, b, fo, cs, rfl, ⟨dx, ap, ab, aa, h0, h1, h2, h3⟩, hb, hl, hc, k⟩ := h
    refine ⟨_, pss_cons (ps_if (PW.pt (pw_or (pt_not (pt_val (pe_callB call_isi (by rfl) N.is.inst (by decide +kernel) (pa_cons (pv 1) (pa_cons (pe_bltn (v := .ty "tuple") (by rfl) N.is.tup (by decide +kernel) rfl) pa_nil)))))
          (pw_or1 (pt_cmpR op_ne (pe_callB call_len_seq (by rfl) N.is.len PySem.boot_len (pa_cons (pv 1) pa_nil)) (pe_callB call_len_seq (by rfl) N.is.len PySem.boot_len (pa_cons (pe_fld (pv 0) rfl) pa_nil)) (nomark _))))) (pss_one ps_never) pss_nil)
      (pss_cons (ps_for PassesOwn.never rfl (pi_tup (pv 1)) (pg_name (i := 2) scIsCuts.nd rfl (Or.inl rfl)) (pss_one (ps_if (pt_not (pt_val (pe_call GI hr (by rfl) gI kI bI .nil pass0 (pa_cons (pv 2) pa_nil)))) (pss_one ps_never) pss_nil)))
      (pss_one (ps_ret (pe_cmpR (op_eqD hr.units) (pe_callB cr_sortTup (by rfl) N.sorted (by decide +kernel) (pa_cons (pv 1) pa_nil)) (pe_listRg rfl (by rfl) N.is.lst (prg_1 (by rfl) N.range (pe_callB call_len_seq (by rfl) N.is.len PySem.boot_len (pa_cons (pv 1) pa_nil)))) (nomark _))))), ?_⟩
    refine ⟨_, rfl, _, .ty "tuple", _, _, true, rfl, .ty _, tdTy hb, kit_ty (by decide +kernel), true, rfl, ?_⟩
    refine ifF (by decide) ?_
    refine ⟨_, rfl, b, _, rfl, .inr (tdL hb), _, rfl, a, C, dx, _, _, rfl, h0, T.cl, T.nP, fP, ap, _, rfl, .inr (tpL h1), rfl, _, rfl, ?_⟩
    refine ifF (by rw [List.length_map, List.length_map, hc.len, decide_eq_true rfl]; decide) ?_
    refine ⟨_, rfl, b, rfl, ⟨_, tdL hb⟩, ?_⟩
    refine for_it (walk_tup (xs := cs.map vn)) (fun _ σ H' => H' = H ∧ ∃ t1, σ = [some (.ref a), some (.ref b), t1]) ⟨rfl, _, rfl⟩ (fun i σ H' _ z => by rw [z.1]; exact tdL hb) ?_ ?_
    · rintro i x σ H' H2 hi ⟨rfl, t1, rfl⟩ ⟨rfl, hx⟩
      obtain ⟨n, _, rfl⟩ := vn_get hx
      refine ⟨_, rfl, (n : Int), rfl, true, rfl, ?_⟩
      refine ifF (by decide) ?_
      exact ⟨rfl, _, rfl⟩
    · rintro σ H' ⟨rfl, t1, rfl⟩
      refine ⟨_, rfl, b, cs.map (fun k => ((k : Nat) : Int)), rfl, by rw [mapIV]; exact tdL hb, by rw [List.length_map, hc.len]; omega, fun zs p hz hs np => ?_⟩
      rw [sortedRange hc.nd hc.mem hz hs, mapIV]
      have S1 := smUpd (o := .lst ((List.range fo.ps.length).map vn)) np
      have hp1 : upd H' p (.lst ((List.range fo.ps.length).map vn)) p = _ := upd_same
      generalize upd H' p (.lst ((List.range fo.ps.length).map vn)) = H1 at S1 hp1 ⊢
      have e : ((cs.map vn).length : Int) = ((fo.ps.length : Nat) : Int) := by rw [List.length_map, hc.len]
      refine ⟨_, rfl, b, _, rfl, .inr (tdL (tdSame S1 hb)), _, rfl, ?_, fun q nq => ?_⟩
      · rw [e]
        exact RgOk.of_le (by decide) (by omega) (by decide) (by omega)
      rw [e, rgN]
      have S2 := smUpd (o := .lst ((List.range fo.ps.length).map vn)) nq
      refine ⟨.list (dn (List.range fo.ps.length)), .list (dn (List.range fo.ps.length)), .lst (.inl (.inl (S2 _ _ hp1))) (dpN _), .lst (.inl (.inl upd_same)) (dpN _), dnShL _, dnShL _, ?_⟩
      rw [dnEqL]
      exact k _ (S1.trans S2)
end
end Cn

namespace Cn
open PySem PySem.Spec PyProof.Rows L2 Ck
section
variable {P : Program} {w : World} {K : PySem.W.Frag} {mg : Str → Option Value} {base : Heap} {C : Addr}
/-! _level -/
/-- r is below all of xs, and of the number of all -/
def Below1 (rk : Nat → Nat) (n : Nat) (xs : List Nat) (e : Nat) : Prop := ∀ r, r < e ↔ r < n ∧ ∀ y ∈ xs, r < rk y
theorem below0 (rk : Nat → Nat) (n : Nat) : Below1 rk n [] n := fun r => ⟨fun h => ⟨h, fun y hy => by cases hy⟩, fun h => h.1⟩
theorem belowYes {rk : Nat → Nat} {n : Nat} {xs : List Nat} {e x : Nat} (h : Below1 rk n xs e) (hx : rk x < e) : Below1 rk n (x :: xs) (rk x) ∧ rlm rk (x :: xs) = x :: rlm rk xs := by
  have hh := (h _).mp hx
  refine ⟨fun r => ⟨fun hr => ⟨Nat.lt_trans hr hh.1, fun y hy => ?_⟩, fun hr => hr.2 x List.mem_cons_self⟩, ?_⟩
  · rcases List.mem_cons.mp hy with e | hy
    · rw [e]; exact hr
    · exact Nat.lt_trans hr (hh.2 y hy)
  · show (if ∀ y ∈ xs, rk x < rk y then x :: rlm rk xs else rlm rk xs) = _
    rw [if_pos hh.2]
theorem belowNo {rk : Nat → Nat} {n : Nat} {xs : List Nat} {e x : Nat} (h : Below1 rk n xs e) (hn : rk x < n) (hx : ¬ rk x < e) : Below1 rk n (x :: xs) e ∧ rlm rk (x :: xs) = rlm rk xs := by
  refine ⟨fun r => ⟨fun hr => ⟨((h r).mp hr).1, fun y hy => ?_⟩, fun hr => (h r).mpr ⟨hr.1, fun y hy => hr.2 y (List.mem_cons_of_mem _ hy)⟩⟩, ?_⟩
  · rcases List.mem_cons.mp hy with e2 | hy
    · rw [e2]; omega
    · exact ((h r).mp hr).2 y hy
  · show (if ∀ y ∈ xs, rk x < rk y then x :: rlm rk xs else rlm rk xs) = _
    rw [if_neg fun q => hx ((h _).mpr ⟨hn, q⟩)]
def spLevel (C : Addr) : Sp := fun vs H Q _ => ∃ (a b : Addr) (f : Fo) (cs : List Nat) (i : Nat), vs = [.ref a, .ref b, vn i] ∧ FoAt C H a f ∧ TDn H b cs ∧ Ps f.ps ∧ f.ps.length ≤ 60 ∧ CutsOk f.ps.length cs ∧ i < f.ps.length ∧ ∀ H', Same H H' → Q (vn (rlm (fun x => cs.idxOf x) (road f.ps i)).length) H'
def nLevel : List Str := ["forest", "cuts", "place", "level", "earliest", "over", "turn"]
theorem scLevel : FnScope nLevel ["forest", "cuts", "place"] (defScope sLevel) := ⟨rfl, rfl, rfl, by decide +kernel, rfl, by decide +kernel, by decide +kernel⟩
theorem drop_prev {α : Type} {xs : List α} {j : Nat} {x : α} (hj : j < xs.length) (hx : xs[xs.length - 1 - j]? = some x) : xs.drop (xs.length - (j + 1)) = x :: xs.drop (xs.length - j) := by
  have e : xs.length - (j + 1) = xs.length - 1 - j := by omega
  have e2 : xs.length - j = xs.length - 1 - j + 1 := by omega
  obtain ⟨hl, hx⟩ := List.getElem?_eq_some_iff.mp hx
  rw [e, e2, List.drop_eq_getElem_cons hl, hx]
theorem dLevel (B : Defs K mg C) : Def P w K mg base "_level" 5 ["forest", "cuts", "place"] (spLevel C) := by
  obtain ⟨fW, fdW, GW, gW, kW, bW⟩ := dWay (P := P) (w := w) (base := base) B
  have N := B.N
  have T := B.T
  refine def_of B.lv fun f fd F => ?_
  refine F.ok scLevel (fun vs H Q E h => ?_) (fun cdv A outer s H vs Q E hr h => ?_)
  · obtain ⟨a, b, f, cs, i, rfl, _⟩ := h
    rfl
  · obtain ⟨a, b, fo, cs, i, rfl, hF, hb, hp, hl, hc, hi, k⟩ := h
    refine ⟨_, pss_cons (ps_set (i := 3) scLevel.nd rfl (Or.inl rfl) pe_int)
      (pss_cons (ps_set (i := 4) scLevel.nd rfl (Or.inl rfl) (pe_callB call_len_seq (by rfl) N.is.len PySem.boot_len (pa_cons (pv 1) pa_nil)))
      (pss_cons (ps_for PassesOwn.never rfl (RT.pi_revA (by rfl) N.rev (pe_call GW hr (by rfl) gW kW bW .nil pass0 (pa_cons (pv 0) (pa_cons (pv 2) pa_nil)))) (pg_name (i := 5) scLevel.nd rfl (Or.inl rfl))
        (pss_cons (ps_set (i := 6) scLevel.nd rfl (Or.inl rfl) (pe_bt PySem.F.slot_tuple_index PySem.F.type_tuple_index mt_tidx (pv 1) (pa_cons (pv 5) pa_nil)))
        (pss_one (ps_if (pt_cmpR op_lt (pv 6) (pv 4) (nomark _)) (pss_cons (ps_set (i := 4) scLevel.nd rfl (Or.inl rfl) (pv 6)) (pss_one (ps_aug (i := 3) scLevel.nd rfl (.inl rfl) pe_int ip_add))) pss_nil))))
      (pss_one (ps_ret (pv 3))))), ?_⟩
    refine ⟨_, rfl, b, _, rfl, .inr (tdL hb), ?_⟩
    rw [List.length_map]
    refine ⟨_, rfl, _, rfl, a, fo, i, rfl, hF, hp, hl, hi, fun r H1 s1 hr1 => ⟨r, _, rfl, .inr ⟨tdL hr1, ?_⟩⟩⟩
    have hb1 : TDn H1 b cs := tdSame s1 hb
    refine RT.for_ItvT (xs := (road fo.ps i).map vn) (fun j σ H' => H' = H1 ∧ ∃ (e : Nat) (t5 t6 : Option V), σ = [some (.ref a), some (.ref b), some (vn i), some (vn (rlm (fun x => cs.idxOf x) ((road fo.ps i).drop ((road fo.ps i).length - j))).length), some (vn e), t5, t6] ∧
      Below1 (fun x => cs.idxOf x) cs.length ((road fo.ps i).drop ((road fo.ps i).length - j)) e) ?_ (fun i σ H' z => by rw [z.1]; exact tdL hr1) ?_ ?_
    · refine ⟨rfl, cs.length, none, none, ?_, ?_⟩
      · rw [Nat.sub_zero, List.drop_length]; rfl
      · rw [Nat.sub_zero, List.drop_length]; exact below0 _ _
    · rintro j x σ H' hj hx ⟨rfl, e, t5, t6, rfl, hbl⟩
      rw [List.length_map] at hj hx
      obtain ⟨m, hm, rfl⟩ := vn_get hx
      have hmr : m ∈ road fo.ps i := List.mem_of_getElem? hm
      have hmc : m ∈ cs := (hc.mem m).mpr (Nat.lt_of_le_of_lt (road_le hp i hi m hmr) hi)
      obtain ⟨i1, i2⟩ := vn_idx hmc
      refine ⟨_, rfl, ⟨b, _, rfl, hb1⟩, _, rfl, b, _, _, cs.idxOf m, _, rfl, rfl, tdL hb1, rfl, vn_flat _, i1, by rw [vn_inj]; exact decide_eq_true rfl, i2, ?_⟩
      refine ⟨_, rfl, _, rfl, _, _, rfl, rfl, _, rfl, ?_⟩
      have hd := drop_prev hj hm
      have hlt := List.idxOf_lt_length_of_mem hmc
      by_cases c : cs.idxOf m < e
      · refine ifT (by rw [decide_eq_true_iff]; omega) ?_
        obtain ⟨b1, b2⟩ := belowYes hbl c
        refine ⟨_, rfl, _, rfl, _, _, rfl, rfl, rfl, cs.idxOf m, some (vn m), some (vn (cs.idxOf m)), ?_, by rw [hd]; exact b1⟩
        rw [hd, b2]
        rfl
      · refine ifF (by rw [decide_eq_true_iff]; omega) ?_
        obtain ⟨b1, b2⟩ := belowNo hbl hlt c
        refine ⟨rfl, e, some (vn m), some (vn (cs.idxOf m)), ?_, by rw [hd]; exact b1⟩
        rw [hd, b2]
        rfl
    · rintro σ H' ⟨rfl, e, t5, t6, rfl, _⟩
      rw [List.length_map, Nat.sub_self, List.drop_zero]
      exact ⟨_, rfl, k _ s1⟩
end
end Cn
namespace Cn
open PySem PySem.Spec PyProof.Rows L2 Ck
theorem smOver {H1 H4 : Hp} {D : Addr} {o : HO} (nD : H1 D = none) (sm : Same H1 H4) : Same H1 (upd H4 D o) := fun b u e => by
  have nb : b ≠ D := fun z => by rw [z, nD] at e; cases e
  rw [upd_ne nb]
  exact sm b u e
end Cn
namespace Cn
open PySem PySem.Spec PyProof.Rows L2 Ck
def dPar (ps : List (Option Nat)) : List PyData := ps.map fun q => match q with | none => PyData.none | some n => PyData.int ((n : Nat) : Int)
theorem dpPar {K : PySem.W.Frag} {H : Hp} : ∀ ps : List (Option Nat), DpAll K H (ps.map vp) (dPar ps)
  | [] => .nil
  | none :: ps => .cons .non (dpPar ps)
  | some n :: ps => .cons (.int _) (dpPar ps)
theorem dParLay : ∀ ps : List (Option Nat), PyData.canLayAll0 (dPar ps) = true
  | [] => rfl
  | none :: ps => by
    show (PyData.canLay0 .none && PyData.canLayAll0 (dPar ps)) = true
    rw [dParLay ps]; rfl
  | some n :: ps => by
    show (PyData.canLay0 (.int _) && PyData.canLayAll0 (dPar ps)) = true
    rw [dParLay ps]; rfl
theorem dParDepth : ∀ ps : List (Option Nat), PyData.depthAll (dPar ps) = 0
  | [] => rfl
  | none :: ps => by
    show max (PyData.depth .none) (PyData.depthAll (dPar ps)) = 0
    rw [dParDepth ps]; rfl
  | some n :: ps => by
    show max (PyData.depth (.int _)) (PyData.depthAll (dPar ps)) = 0
    rw [dParDepth ps]; rfl
theorem dParSh (ps : List (Option Nat)) : SeqAt.shaped (.tuple (dPar ps)) = true := by
  show (PyData.canLayAll0 (dPar ps) && decide (PyData.depthAll (dPar ps) + 1 ≤ 64)) = true
  rw [dParLay, dParDepth]; rfl
theorem dParEq : ∀ {ps qs : List (Option Nat)}, PyData.eqvAll (dPar ps) (dPar qs) = true → ps = qs
  | [], [], _ => rfl
  | [], q :: qs, h => by cases q <;> simp [dPar, PyData.eqvAll] at h
  | p :: ps, [], h => by cases p <;> simp [dPar, PyData.eqvAll] at h
  | none :: ps, none :: qs, h => by
    have h2 : PyData.eqvAll (dPar ps) (dPar qs) = true := by
      have h1 : PyData.eqvAll (PyData.none :: dPar ps) (PyData.none :: dPar qs) = true := h
      simp only [PyData.eqvAll, Bool.and_eq_true] at h1
      exact h1.2
    rw [dParEq h2]
  | some p :: ps, some q :: qs, h => by
    have h1 : PyData.eqvAll (PyData.int ((p : Nat) : Int) :: dPar ps) (PyData.int ((q : Nat) : Int) :: dPar qs) = true := h
    simp only [PyData.eqvAll, PyData.eqv, Bool.and_eq_true, beq_iff_eq] at h1
    rw [dParEq h1.2, show p = q from by omega]
  | none :: ps, some q :: qs, h => by
    have h1 : PyData.eqvAll (PyData.none :: dPar ps) (PyData.int ((q : Nat) : Int) :: dPar qs) = true := h
    simp [PyData.eqvAll, PyData.eqv] at h1
  | some p :: ps, none :: qs, h => by
    have h1 : PyData.eqvAll (PyData.int ((p : Nat) : Int) :: dPar ps) (PyData.none :: dPar qs) = true := h
    simp [PyData.eqvAll, PyData.eqv] at h1
theorem dParEqT {ps qs : List (Option Nat)} (h : PyData.eqv (.tuple (dPar ps)) (.tuple (dPar qs)) = true) : ps = qs := dParEq (by simpa only [PyData.eqv] using h)
end Cn
namespace Cn
open PySem PySem.Spec PyProof.Rows L2 Ck
def rLenQ (K : PySem.W.Frag) : List V → Hp → VK → Prop := fun xs H Q => ∃ p ys, xs = [.ref p] ∧ (SqL K H p ys ∨ SqT K H p ys) ∧ Q (.int ys.length) H
theorem len_q {X : Cx} : CallR X (.builtin "len") (rLenQ X.K) := call_len_seq
/-- either a list or a tuple, in slot i -/
def iSeq (K : PySem.W.Frag) (i : Nat) : TI := fun σ H R => iList K (tVar i) σ H R ∨ iTup K (tVar i) σ H R
theorem lenZero {n : Nat} : decide (V.int (n : Int) = V.int 0) = decide (n = 0) := by
  rw [Bool.eq_iff_iff, decide_eq_true_iff, decide_eq_true_iff]
  exact ⟨fun z => by have := V.int.inj z; omega, fun z => by rw [z]; rfl⟩
end Cn
namespace Cn
open PySem PySem.Spec PyProof.Rows L2 Ck
/-- a list of tuples of numbers -/
def Rows (H : Hp) (g : Nat → List Nat) (n : Nat) (us : List V) : Prop := us.length = n ∧ ∀ i, i < n → ∃ t, us[i]? = some (.ref t) ∧ TN H t (g i)
theorem rows0 {H : Hp} {g : Nat → List Nat} : Rows H g 0 [] := ⟨rfl, fun i h => absurd h (Nat.not_lt_zero _)⟩
theorem rowsSame {H H' : Hp} {g : Nat → List Nat} {n : Nat} {us : List V} (s : Same H H') (h : Rows H g n us) : Rows H' g n us := ⟨h.1, fun i hi => by
  obtain ⟨t, e, ht⟩ := h.2 i hi
  exact ⟨t, e, s _ _ ht⟩⟩
theorem rowsAdd {H : Hp} {g : Nat → List Nat} {n : Nat} {us : List V} {t : Addr} (h : Rows H g n us) (ht : TN H t (g n)) : Rows H g (n + 1) (us ++ [.ref t]) := by
  refine ⟨by rw [List.length_append, h.1]; rfl, fun i hi => ?_⟩
  by_cases e : i < n
  · obtain ⟨t', e', ht'⟩ := h.2 i e
    exact ⟨t', by rw [List.getElem?_append_left (by rw [h.1]; exact e)]; exact e', ht'⟩
  · have : i = n := by omega
    subst this
    exact ⟨t, by rw [List.getElem?_append_right (by rw [h.1]; exact Nat.le_refl _), h.1, Nat.sub_self]; rfl, ht⟩
/-- what is written at D, elsewhere nothing -/
theorem rowsUpd {H0 H' : Hp} {g : Nat → List Nat} {n : Nat} {us : List V} {D : Addr} {o : HO} {xs : List V} (h : Rows H' g n us) (hD : H' D = some (.lst xs)) : Rows (upd H' D o) g n us := ⟨h.1, fun i hi => by
  obtain ⟨t, e, ht⟩ := h.2 i hi
  have ne : t ≠ D := fun z => by
    have ht : H' t = _ := ht
    rw [z, hD] at ht; cases ht
  refine ⟨t, e, ?_⟩
  show upd H' D o t = _
  rw [upd_ne ne]; exact ht⟩
theorem lvLe {ps : List (Option Nat)} {lv : List Nat} (hp : Ps ps) (hv : Lv ps lv) : ∀ i, i < ps.length → lv.getD i 0 ≤ i + 1 := by
  intro i
  induction i using Nat.strongRecOn with
  | ind i ih =>
    intro hi
    have hil : i < lv.length := by rw [hv.1]; exact hi
    rcases opt_cases hi with h | ⟨p, h⟩
    · have h2 := hv.2 i _ _ (getD_at hil) h
      have e : mostLv lv none = 1 := rfl
      omega
    · have h2 := hv.2 i _ _ (getD_at hil) h
      have e : mostLv lv (some p) = lv.getD p 0 + 1 := rfl
      have hl := hp i p h
      have := ih p hl (Nat.lt_trans hl hi)
      omega
theorem stkLe {ps : List (Option Nat)} {lv : List Nat} {i : Nat} (hp : Ps ps) (hv : Lv ps lv) (hl : ps.length ≤ 60) (hi : i < ps.length) : (stk ps lv i).length ≤ 60 := by
  rw [stk_len hp hv i hi]
  have := lvLe hp hv i hi
  omega
theorem tnAt {H : Hp} {a : Addr} {xs : List V} {ns : List Nat} (h : H a = some (.tup xs)) (e : xs = ns.map vn) : TN H a ns := by
  show H a = some (.tup (ns.map vn))
  rw [← e]; exact h
end Cn
namespace Cn
open PySem PySem.Spec PyProof.Rows L2 Ck
/-! a note, notes as the heap has them -/
def NoteR (H : Hp) (v : V) (p : List Nat × List Nat) : Prop := ∃ t x y, v = .ref t ∧ H t = some (.tup [.ref x, .ref y]) ∧ TN H x p.1 ∧ TN H y p.2
theorem noteSame {H H' : Hp} (s : Same H H') {v : V} {p : List Nat × List Nat} (h : NoteR H v p) : NoteR H' v p := by
  obtain ⟨t, x, y, e, h1, h2, h3⟩ := h
  exact ⟨t, x, y, e, s _ _ h1, s _ _ h2, s _ _ h3⟩
def NotesR (H : Hp) (us : List V) (ps : List (List Nat × List Nat)) : Prop := Paired (NoteR H) us ps
theorem notesSame {H H' : Hp} (s : Same H H') {us : List V} {ps : List (List Nat × List Nat)} (h : NotesR H us ps) : NotesR H' us ps := Paired.mapP h fun _ _ z => noteSame s z
theorem notesUpd {H' : Hp} {D : Addr} {o : HO} {xs us : List V} {ps : List (List Nat × List Nat)} (hD : H' D = some (.lst xs)) (h : NotesR H' us ps) : NotesR (upd H' D o) us ps := Paired.mapP h fun v p z => by
  obtain ⟨t, x, y, e, h1, h2, h3⟩ := z
  have ne : ∀ {a : Addr} {ys : List V}, H' a = some (.tup ys) → upd H' D o a = some (.tup ys) := fun {a ys} e2 => by
    have q : a ≠ D := fun z => by rw [z, hD] at e2; cases e2
    rw [upd_ne q]; exact e2
  exact ⟨t, x, y, e, ne h1, ne h2, ne h3⟩
theorem paired_snoc {α β : Type} {F : α → β → Prop} : ∀ {xs : List α} {ys : List β} {x : α} {y : β}, Paired F xs ys → F x y → Paired F (xs ++ [x]) (ys ++ [y])
  | _, _, _, _, .nil, h => .cons h .nil
  | _, _, _, _, .cons a t, h => .cons a (paired_snoc t h)
end Cn
namespace Cn
open PySem PySem.Spec PyProof.Rows L2 Ck
theorem slS {K : PySem.W.Frag} {H : Hp} {a : Addr} {xs : List V} {lo hi : Option Int} {Q : VK} (ha : SqT K H a xs) (k : ∀ b H', Same H H' → SqT K H' b (cutV xs lo hi) → Q (.ref b) H') : rSlA K (.ref a) lo hi H Q :=
  ⟨a, xs, rfl, ha, fun h => k a H (Same.refl _) (by rw [cutWhole h]; exact ha), fun _ p np => k p _ (smUpd np) (.inl (.inl upd_same))⟩
theorem slSN {K : PySem.W.Frag} {σ : L2.St} {H : Hp} {a : Addr} {xs : List V} {lo : Option Int} {Q : VK} (ha : SqT K H a xs) (k : ∀ b H', Same H H' → SqT K H' b (cutV xs lo none) → Q (.ref b) H') : tNoPart σ H (fun u H3 => rSlA K (.ref a) lo u H3 Q) := slS (hi := none) ha k
theorem cutInit (xs : List V) : cutV xs none (some (-1)) = xs.dropLast := by
  unfold cutV
  rw [HT.sIx_none]
  show (xs.drop 0).take (HT.sIx xs.length xs.length (some (-1)) - 0) = xs.dropLast
  have e : HT.sIx xs.length xs.length (some (-1)) = xs.length - 1 := by
    show (if (-1 : Int) < 0 then ((-1 : Int) + (xs.length : Int)).toNat else min (-1 : Int).toNat xs.length) = xs.length - 1
    rw [if_pos (by decide)]
    omega
  rw [e, List.drop_zero, Nat.sub_zero, List.dropLast_eq_take]
/-! the notes of a plan -/
def heldAt (ps : List (Option Nat)) (lv : List Nat) (i : Nat) : List Nat :=
  match (stk ps lv i).dropLast.getLast? with
  | none => road ps i
  | some x => (road ps i).drop ((road ps i).idxOf x + 1)
def noteAt (ps : List (Option Nat)) (be as lv : List Nat) (i : Nat) : List Nat × List Nat :=
  ((heldAt ps lv i).filter fun x => decide (x ∈ be), as.filter fun j => decide (i ∈ stk ps lv j))
def notesOf (ps : List (Option Nat)) (be as lv : List Nat) (n : Nat) : List (List Nat × List Nat) :=
  ((List.range n).map (noteAt ps be as lv)).filter fun p => !p.1.isEmpty && !p.2.isEmpty
theorem takeLe {α : Type} (xs : List α) (m : Nat) : (xs.take m).length ≤ xs.length := by rw [List.length_take]; omega
theorem heldLen {f : Fo} {lv : List Nat} {i : Nat} (ok : FoOk f) (hi : i < f.ps.length) : (heldAt f.ps lv i).length ≤ 1000 := by
  have h1 := road_len ok.ps i hi
  have h2 := ok.l1
  unfold heldAt
  split
  · omega
  · rw [List.length_drop]; omega
theorem lastDrop {xs : List Nat} (h : xs ≠ []) : xs.getLast? = some (xs.getLast h) := List.getLast?_eq_some_getLast h
end Cn
namespace Cn
open PySem PySem.Spec PyProof.Rows L2 Ck
theorem pairedGet {α β : Type} {F : α → β → Prop} : ∀ {xs : List α} {ys : List β} {i : Nat} {x : α}, Paired F xs ys → xs[i]? = some x → ∃ y, ys[i]? = some y ∧ F x y
  | _, _, i, x, .nil, h => by rw [List.getElem?_nil] at h; cases h
  | _, _, 0, x, .cons a t, h => by cases h; exact ⟨_, rfl, a⟩
  | _, _, i + 1, x, .cons a t, h => by
    rw [List.getElem?_cons_succ] at h
    obtain ⟨y, h1, h2⟩ := pairedGet t h
    exact ⟨y, by rw [List.getElem?_cons_succ]; exact h1, h2⟩
def kept2 (p : List Nat × List Nat) : Bool := !p.1.isEmpty && !p.2.isEmpty
theorem vnEmpty (ns : List Nat) : (ns.map vn).isEmpty = ns.isEmpty := by cases ns <;> rfl
theorem noteUpdN {H' : Hp} {D : Addr} {o : HO} (hD : ∀ ys, H' D ≠ some (.tup ys)) {v : V} {p : List Nat × List Nat} (h : NoteR H' v p) : NoteR (upd H' D o) v p := by
  obtain ⟨t, x, y, e, h1, h2, h3⟩ := h
  have ne : ∀ {a : Addr} {ys : List V}, H' a = some (.tup ys) → upd H' D o a = some (.tup ys) := fun {a ys} e2 => by
    have q : a ≠ D := fun z => hD ys (by rw [← z]; exact e2)
    rw [upd_ne q]
    exact e2
  exact ⟨t, x, y, e, ne h1, ne h2, ne h3⟩
end Cn

namespace Cn
open PySem PySem.Spec PyProof.Rows L2 Ck
section
variable {P : Program} {w : World} {K : PySem.W.Frag} {mg : Str → Option Value} {base : Heap} {C : Addr}
/-- the levels that cuts give, by their ranks -/
def lvOf (ps : List (Option Nat)) (cs : List Nat) (i : Nat) : Nat := (rlm (fun x => cs.idxOf x) (road ps i)).length
def spPlanOf (C : Addr) : Sp := fun vs H Q _ => ∃ (a b : Addr) (f : Fo) (cs : List Nat), vs = [.ref a, .ref b] ∧ FoAt C H a f ∧ TDn H b cs ∧ Ps f.ps ∧ f.ps.length ≤ 60 ∧ CutsOk f.ps.length cs ∧
  ∀ r H', Same H H' → TN H' r ((List.range f.ps.length).map (lvOf f.ps cs)) → Q (.ref r) H'
def nPlanOf : List Str := ["forest", "cuts", "place"]
theorem scPlanOf : FnScope nPlanOf ["forest", "cuts"] (defScope sPlanOf) := ⟨rfl, rfl, rfl, by decide +kernel, rfl, by decide +kernel, by decide +kernel⟩
theorem dPlanOf (B : Defs K mg C) : Def P w K mg base "plan_of" 6 ["forest", "cuts"] (spPlanOf C) := by
  obtain ⟨fC, fdC, GC, gC, kC, bC⟩ := dIsCuts (P := P) (w := w) (base := base) B
  obtain ⟨fL, fdL, GL, gL, kL, bL⟩ := dLevel (P := P) (w := w) (base := base) B
  have N := B.N
  refine def_of B.po fun f fd F => ?_
  refine F.ok scPlanOf (fun vs H Q E h => ?_) (fun cdv A outer s H vs Q E hr h => ?_)
  · obtain ⟨a, b, f, cs, rfl, _⟩ := h
    rfl
  · obtain ⟨a, b, fo, cs, rfl, hF, hb, hp, hl, hc, k⟩ := h
    have hr2 : Room 2 (A.deeper (envOfC "plan_of" (defScope sPlanOf) s.heap.objs.size f cdv)) := Room.mono hr (by decide)
    refine ⟨_, pss_cons (ps_if (pt_not (pt_val (pe_call GC hr2 (by rfl) gC kC bC .nil pass0 (pa_cons (pv 0) (pa_cons (pv 1) pa_nil))))) (pss_one ps_never) pss_nil)
      (pss_one (ps_ret (pe_callTy call_tuple_of (by rfl) N.is.tup (by decide +kernel) (pa_cons (pe_lc (own := [("place", 2)]) (g := gName 2) (tt := tYes) rfl scPlanOf.nd (pi_range1 (by rfl) N.range (pa_cons (pe_callB call_len_seq (by rfl) N.is.len PySem.boot_len (pa_cons (pv 1) pa_nil)) pa_nil))
        (blkOk_by (N := nPlanOf) (sc := defScope sPlanOf) (by decide +kernel)) (fun _ _ _ _ _ => pg_name (i := 2) scPlanOf.nd rfl (Or.inl rfl)) (fun _ _ _ _ _ => pts_nil)
        (fun _ _ _ _ _ => pe_call GL hr (by rfl) gL kL bL .nil pass0 (pa_cons (pv 0) (pa_cons (pv 1) (pa_cons (pv 2) pa_nil))))) pa_nil)))), ?_⟩
    refine ⟨_, rfl, _, rfl, a, b, fo, cs, rfl, hF, hb, hl, hc, fun H1 s1 => ⟨true, rfl, ?_⟩⟩
    refine ifF (by decide) ?_
    have hb1 := tdSame s1 hb
    refine ⟨_, rfl, b, _, rfl, .inr (tdL hb1), ((cs.map vn).length : Int), rfl, by omega, by rw [List.length_map, hc.len]; omega, fun D nD => ?_⟩
    rw [List.length_map, hc.len, Int.toNat_natCast]
    refine lc_range (lo := 0) (n := fo.ps.length) (fun i H' => Same H1 H' ∧ H' D = some (.lst (((List.range i).map (lvOf fo.ps cs)).map vn))) ⟨smUpd nD, upd_same⟩ ?_ ?_
    · rintro i H' hi ⟨sm, hD⟩
      have hb2 := tdSame sm hb1
      refine ⟨rfl, _, rfl, _, rfl, _, rfl, a, b, fo, cs, i, ?_, foAt_same (s1.trans sm) hF, hb2, hp, hl, hc, hi, fun H2 s2 => ?_⟩
      · show [V.ref a, V.ref b, V.int (0 + (i : Int))] = [V.ref a, V.ref b, V.int (i : Int)]
        rw [Int.zero_add]
      refine ⟨_, s2 _ _ hD, by rw [List.length_map, List.length_map, List.length_range]; exact small1000 (by omega), smOver nD (sm.trans s2), ?_⟩
      rw [upd_same, List.range_succ, List.map_append, List.map_append]
      rfl
    · rintro H' ⟨sm, hD⟩
      refine ⟨D, _, rfl, .inl ⟨.inl (.inl hD), fun r nr => ?_⟩⟩
      exact k r _ ((s1.trans sm).trans (smUpd nr)) upd_same
end
end Cn
namespace Cn
open PySem PySem.Spec PyProof.Rows L2 Ck
section
variable {P : Program} {w : World} {K : PySem.W.Frag} {mg : Str → Option Value} {base : Heap} {C : Addr}
def spStacks (C : Addr) : Sp := fun vs H Q _ => ∃ (a b : Addr) (f : Fo) (lv : List Nat), vs = [.ref a, .ref b] ∧ FoAt C H a f ∧ TN H b lv ∧ Ps f.ps ∧ f.ps.length ≤ 60 ∧ Lv f.ps lv ∧
  ∀ r us H', Same H H' → H' r = some (.lst us) → Rows H' (stk f.ps lv) f.ps.length us → Q (.ref r) H'
def nStacks : List Str := ["forest", "plan", "found", "place", "parent", "above"]
theorem scStacks : FnScope nStacks ["forest", "plan"] (defScope sStacks) := ⟨rfl, rfl, rfl, by decide +kernel, rfl, by decide +kernel, by decide +kernel⟩
theorem dStacks (B : Defs K mg C) : Def P w K mg base "_stacks" 1 ["forest", "plan"] (spStacks C) := by
  have N := B.N
  have T := B.T
  refine def_of B.ss fun f fd F => ?_
  refine F.ok scStacks (fun vs H Q E h => ?_) (fun cdv A outer s H vs Q E hr h => ?_)
  · obtain ⟨a, b, f, lv, rfl, _⟩ := h
    rfl
  · obtain ⟨a, b, fo, lv, rfl, hF, hb, hp, hl, hv, k⟩ := h
    refine ⟨_, pss_cons (ps_set (i := 2) scStacks.nd rfl (Or.inl rfl) (pe_lst pa_nil))
      (pss_cons (ps_for PassesOwn.never rfl (pi_enumT (by rfl) N.enum (pa_cons (pe_fld (pv 0) rfl) pa_nil)) (pg_tup rfl (pgs_cons (pg_name (i := 3) scStacks.nd rfl (Or.inl rfl)) (pgs_cons (pg_name (i := 4) scStacks.nd rfl (Or.inl rfl)) pgs_nil)))
        (pss_cons (ps_set (i := 5) scStacks.nd rfl (Or.inl rfl) (pe_ifExp (pt_cmpR op_isN (pv 4) pe_non (nomark _)) (pe_tup pa_nil) (pe_ix ix_list (pv 2) (pv 4) (fun _ _ => rfl))))
        (pss_one (ps_expr (pe_bm PySem.F.plainAttrs_list PySem.F.slot_list_append PySem.F.type_list_append mt_append (pv 2) (pa_cons (pe_op op_catA (pe_slice sl_tupA (pv 5) po_none (po_some (pe_op op_sub (pe_ix ix_tup (pv 1) (pv 3) (fun _ _ => rfl)) pe_int))) (pe_tup (pa_cons (pv 3) pa_nil))) pa_nil))))))
      (pss_one (ps_ret (pv 2)))), ?_⟩
    refine ⟨by show 0 ≤ sizeLine; decide, fun D nD => ?_⟩
    have S1 := smUpd (o := .lst []) nD
    obtain ⟨dx, ap, ab, aa, h0, h1, h2, h3⟩ := hF
    refine ⟨_, rfl, a, C, dx, _, _, rfl, S1 _ _ h0, T.cl, T.nP, fP, ap, _, rfl, tpL (S1 _ _ h1), ?_⟩
    refine for_it (walk_enumT (xs := fo.ps.map vp)) (fun i σ H' => Same H H' ∧ ∃ (us : List V) (t3 t4 t5 : Option V), σ = [some (.ref a), some (.ref b), some (.ref D), t3, t4, t5] ∧ H' D = some (.lst us) ∧ Rows H' (stk fo.ps lv) i us) ⟨S1, [], _, _, _, rfl, upd_same, rows0⟩ (fun i σ H' _ z => tpL (z.1 _ _ h1)) ?_ ?_
    · rintro i x σ H' H2 hi ⟨sm, us, t3, t4, t5, rfl, hD, hR⟩ ⟨T1, x1, y1, rfl, nT, rfl, e1, e2⟩
      cases e1
      obtain ⟨q, hq, rfl⟩ := vp_get (i := i) e2
      rw [List.length_map] at hi
      refine ⟨T1, _, rfl, .inl (.inl upd_same), rfl, _, _, rfl, _, _, rfl, rfl, ?_⟩
      have S2 := smUpd (o := .tup [.int (i : Nat), vp q]) nT
      have sm2 := sm.trans S2
      have hD2 := S2 _ _ hD
      have hR2 := rowsSame S2 hR
      generalize upd H' T1 (.tup [.int (i : Nat), vp q]) = H2 at sm2 hD2 hR2 ⊢
      have hil : i < lv.length := by rw [hv.1]; exact hi
      have hlv := hv.2 i _ q (getD_at hil) hq
      refine ⟨_, rfl, rfl, _, rfl, ?_⟩
      cases q with
      | none =>
        refine ifT (by decide) ?_
        refine ⟨by show 0 ≤ sizeLine; decide, fun t nt => ?_⟩
        have s3 := smUpd (o := .tup []) nt
        have ht : TN (upd H2 t (.tup [])) t [] := upd_same
        generalize upd H2 t (.tup []) = H3 at s3 ht ⊢
        have hz : ([] : List Nat).take (lv.getD i 0 - 1) ++ [i] = stk fo.ps lv i := by rw [stk_none hq, List.take_nil]; rfl
        have hzl : ([] : List Nat).length ≤ 60 := Nat.zero_le _
        have hD3 := s3 _ _ hD2
        have hb3 : TN H3 b lv := s3 _ _ (sm2 _ _ hb)
        refine ⟨_, rfl, .inl ⟨rfl, _, .inl (.inl hD3)⟩, _, rfl, _, rfl, _, rfl, b, _, (i : Int), _, rfl, rfl, tnL hb3, vn_ix (getD_at hil), _, _, rfl, rfl, _, rfl, ?_⟩
        refine slA ht fun c H4 s4 hc => ?_
        have e1 : ((lv.getD i 0 : Nat) : Int) - 1 = ((lv.getD i 0 - 1 : Nat) : Int) := by omega
        rw [e1, cutTake] at hc
        refine ⟨_, rfl, by show 1 ≤ sizeLine; decide, fun t2 n2 => ?_⟩
        have S5 := smUpd (o := .tup [vn i]) n2
        refine catA (S5 _ _ hc) upd_same (by rw [List.length_take, List.length_map]; show min _ _ + 1 ≤ 1000; omega) fun e H6 s6 he => ?_
        have s26 := s3.trans (s4.trans (S5.trans s6))
        have hD6 := s26 _ _ hD2
        refine ⟨D, us, _, rfl, rfl, hD6, by rw [hR2.1]; exact small1000 (by omega), ?_⟩
        have he2 : TN H6 e (stk fo.ps lv i) := tnAt he (by rw [← hz, List.map_append, List.map_take]; rfl)
        exact ⟨smOver nD (sm2.trans s26), _, _, _, _, rfl, upd_same, rowsUpd (H0 := H) (rowsAdd (rowsSame s26 hR2) he2) hD6⟩
      | some p =>
        refine ifF (by rw [vp_ne]; decide) ?_
        obtain ⟨t, hut, ht⟩ := hR2.2 p (hp i p hq)
        have s3 := Same.refl H2
        refine ⟨_, rfl, _, rfl, D, us, (p : Int), _, rfl, rfl, .inl (.inl hD2), atI_nat hut, ?_⟩
        have hz : (stk fo.ps lv p).take (lv.getD i 0 - 1) ++ [i] = stk fo.ps lv i := (stk_some hp hq).symm
        have hpl : p < fo.ps.length := Nat.lt_trans (hp i p hq) hi
        have hzl : (stk fo.ps lv p).length ≤ 60 := stkLe hp hv hl hpl
        have hD3 := s3 _ _ hD2
        have hb3 : TN H2 b lv := s3 _ _ (sm2 _ _ hb)
        refine ⟨_, rfl, .inl ⟨rfl, _, .inl (.inl hD3)⟩, _, rfl, _, rfl, _, rfl, b, _, (i : Int), _, rfl, rfl, tnL hb3, vn_ix (getD_at hil), _, _, rfl, rfl, _, rfl, ?_⟩
        refine slA ht fun c H4 s4 hc => ?_
        have e1 : ((lv.getD i 0 : Nat) : Int) - 1 = ((lv.getD i 0 - 1 : Nat) : Int) := by omega
        rw [e1, cutTake] at hc
        refine ⟨_, rfl, by show 1 ≤ sizeLine; decide, fun t2 n2 => ?_⟩
        have S5 := smUpd (o := .tup [vn i]) n2
        refine catA (S5 _ _ hc) upd_same (by rw [List.length_take, List.length_map]; show min _ _ + 1 ≤ 1000; omega) fun e H6 s6 he => ?_
        have s26 := s3.trans (s4.trans (S5.trans s6))
        have hD6 := s26 _ _ hD2
        refine ⟨D, us, _, rfl, rfl, hD6, by rw [hR2.1]; exact small1000 (by omega), ?_⟩
        have he2 : TN H6 e (stk fo.ps lv i) := tnAt he (by rw [← hz, List.map_append, List.map_take]; rfl)
        exact ⟨smOver nD (sm2.trans s26), _, _, _, _, rfl, upd_same, rowsUpd (H0 := H) (rowsAdd (rowsSame s26 hR2) he2) hD6⟩
    · rintro σ H' ⟨sm, us, t3, t4, t5, rfl, hD, hR⟩
      rw [List.length_map] at hR
      exact ⟨_, rfl, k D us H' sm hD hR⟩
end
end Cn
namespace Cn
open PySem PySem.Spec PyProof.Rows L2 Ck
section
variable {P : Program} {w : World} {K : PySem.W.Frag} {mg : Str → Option Value} {base : Heap} {C : Addr}
def spAbove (C : Addr) : Sp := fun vs H Q _ => ∃ (a b : Addr) (f : Fo) (lv : List Nat), vs = [.ref a, .ref b] ∧ FoAt C H a f ∧ TN H b lv ∧ Ps f.ps ∧ f.ps.length ≤ 60 ∧ Lv f.ps lv ∧
  ∀ r us H', Same H H' → H' r = some (.lst us) → Rows H' (above f.ps lv) f.ps.length us → Q (.ref r) H'
def nAbove : List Str := ["forest", "plan", "found", "parent"]
theorem scAbove : FnScope nAbove ["forest", "plan"] (defScope sAbove) := ⟨rfl, rfl, rfl, by decide +kernel, rfl, by decide +kernel, by decide +kernel⟩
theorem dAbove (B : Defs K mg C) : Def P w K mg base "_stacks_above" 2 ["forest", "plan"] (spAbove C) := by
  obtain ⟨fS, fdS, GS, gS, kS, bS⟩ := dStacks (P := P) (w := w) (base := base) B
  have N := B.N
  have T := B.T
  refine def_of B.ab fun f fd F => ?_
  refine F.ok scAbove (fun vs H Q E h => ?_) (fun cdv A outer s H vs Q E hr h => ?_)
  · obtain ⟨a, b, f, lv, rfl, _⟩ := h
    rfl
  · obtain ⟨a, b, fo, lv, rfl, hF, hb, hp, hl, hv, k⟩ := h
    refine ⟨_, pss_cons (ps_set (i := 2) scAbove.nd rfl (Or.inr rfl) (pe_call GS hr (by rfl) gS kS bS .nil pass0 (pa_cons (pv 0) (pa_cons (pv 1) pa_nil))))
      (pss_one (ps_ret (pe_lc (own := [("parent", 3)]) (g := gName 3) (tt := tYes) rfl scAbove.nd (pi_tup (pe_fld (pv 0) rfl))
        (blkOk_by (N := nAbove) (sc := defScope sAbove) (by decide +kernel)) (fun _ _ _ _ _ => pg_name (i := 3) scAbove.nd rfl (Or.inl rfl)) (fun _ _ _ _ _ => pts_nil)
        (fun _ _ _ _ _ => pe_ifExp (pt_cmpR op_isN (pv 3) pe_non (nomark _)) (pe_tup pa_nil) (pe_ix (r := rIxL K) ix_list (pv 2) (pv 3) (fun _ _ => rfl)))))), ?_⟩
    refine ⟨_, rfl, _, rfl, a, b, fo, lv, rfl, hF, hb, hp, hl, hv, fun r us H1 s1 hr1 hR => ?_⟩
    obtain ⟨dx, ap, ab, aa, h0, h1, h2, h3⟩ := foAt_same s1 hF
    refine ⟨_, rfl, a, C, dx, _, _, rfl, h0, T.cl, T.nP, fP, ap, rfl, ⟨_, tpL h1⟩, fun D nD => ?_⟩
    refine lc_tup (xs := fo.ps.map vp) (fun i H' => Same H1 H' ∧ ∃ ws, H' D = some (.lst ws) ∧ Rows H' (above fo.ps lv) i ws) ⟨smUpd nD, [], upd_same, rows0⟩ (fun i H' _ z => tpL (z.1 _ _ h1)) ?_ ?_
    · rintro i x H' hx ⟨sm, ws, hD, hW⟩
      obtain ⟨q, hq, rfl⟩ := vp_get hx
      have hi : i < fo.ps.length := (List.getElem?_eq_some_iff.mp hq).1
      refine ⟨rfl, _, rfl, rfl, _, rfl, ?_⟩
      cases q with
      | none =>
        refine ifT (by decide) ?_
        refine ⟨by show 0 ≤ sizeLine; decide, fun t nt => ?_⟩
        have S3 := smUpd (o := .tup []) nt
        have ht : TN (upd H' t (.tup [])) t (above fo.ps lv i) := by rw [above_none hq]; exact upd_same
        have hD3 := S3 _ _ hD
        refine ⟨ws, hD3, by rw [hW.1]; exact small1000 (by omega), smOver nD (sm.trans S3), _, upd_same, rowsUpd (H0 := H1) (rowsAdd (rowsSame S3 hW) ht) hD3⟩
      | some p =>
        refine ifF (by rw [vp_ne]; decide) ?_
        have hR2 := rowsSame sm hR
        obtain ⟨t, hut, ht⟩ := hR2.2 p (Nat.lt_trans (hp i p hq) hi)
        refine ⟨_, rfl, _, rfl, r, us, (p : Int), _, rfl, rfl, .inl (.inl (sm _ _ hr1)), atI_nat hut, ?_⟩
        exact ⟨ws, hD, by rw [hW.1]; exact small1000 (by omega), smOver nD sm, _, upd_same, rowsUpd (H0 := H1) (rowsAdd hW (by rw [above_some hq]; exact ht)) hD⟩
    · rintro H' ⟨sm, ws, hD, hW⟩
      rw [List.length_map] at hW
      exact k D ws H' (s1.trans sm) hD hW
/-! cuts_of -/
def spCutsOf (C : Addr) : Sp := fun vs H Q _ => ∃ (a b : Addr) (f : Fo) (lv : List Nat), vs = [.ref a, .ref b] ∧ FoAt C H a f ∧ TN H b lv ∧ Ps f.ps ∧ f.ps.length ≤ 60 ∧ Lv f.ps lv ∧
  ∀ r H', Same H H' → TDn H' r (ordOf f.ps lv f.ps.length) → Q (.ref r) H'
def nCutsOf : List Str := ["forest", "plan", "above", "order", "place", "level"]
theorem scCutsOf : FnScope nCutsOf ["forest", "plan"] (defScope sCutsOf) := ⟨rfl, rfl, rfl, by decide +kernel, rfl, by decide +kernel, by decide +kernel⟩
theorem dCutsOf (B : Defs K mg C) : Def P w K mg base "cuts_of" 4 ["forest", "plan"] (spCutsOf C) := by
  obtain ⟨fI, fdI, GI, gI, kI, bI⟩ := dIsPlan (P := P) (w := w) (base := base) B
  obtain ⟨fA, fdA, GA, gA, kA, bA⟩ := dAbove (P := P) (w := w) (base := base) B
  have N := B.N
  refine def_of B.co fun f fd F => ?_
  refine F.ok scCutsOf (fun vs H Q E h => ?_) (fun cdv A outer s H vs Q E hr h => ?_)
  · obtain ⟨a, b, f, lv, rfl, _⟩ := h
    rfl
  · obtain ⟨a, b, fo, lv, rfl, hF, hb, hp, hl, hv, k⟩ := h
    have hr2 : Room 2 (A.deeper (envOfC "cuts_of" (defScope sCutsOf) s.heap.objs.size f cdv)) := Room.mono hr (by decide)
    refine ⟨_, pss_cons (ps_if (pt_not (pt_val (pe_call GI hr (by rfl) gI kI bI .nil pass0 (pa_cons (pv 0) (pa_cons (pv 1) pa_nil))))) (pss_one ps_never) pss_nil)
      (pss_cons (ps_set (i := 2) scCutsOf.nd rfl (Or.inl rfl) (pe_call GA hr2 (by rfl) gA kA bA .nil pass0 (pa_cons (pv 0) (pa_cons (pv 1) pa_nil))))
      (pss_cons (ps_set (i := 3) scCutsOf.nd rfl (Or.inl rfl) (pe_lst pa_nil))
      (pss_cons (ps_for PassesOwn.never rfl (pi_enumT (by rfl) N.enum (pa_cons (pv 1) pa_nil)) (pg_tup rfl (pgs_cons (pg_name (i := 4) scCutsOf.nd rfl (Or.inl rfl)) (pgs_cons (pg_name (i := 5) scCutsOf.nd rfl (Or.inl rfl)) pgs_nil)))
        (pss_one (ps_if (pt_cmpR op_le (pv 5) (pe_callB call_len_seq (by rfl) N.is.len PySem.boot_len (pa_cons (pe_ix ix_list (pv 2) (pv 4) (fun _ _ => rfl)) pa_nil)) (nomark _))
          (pss_one (ps_expr (pe_bm PySem.F.plainAttrs_list PySem.F.slot_list_insert PySem.F.type_list_insert mt_insert (pv 3) (pa_cons (pe_bm PySem.F.plainAttrs_list PySem.F.slot_list_index PySem.F.type_list_index mt_index (pv 3) (pa_cons (pe_ix ix_tup (pe_ix ix_list (pv 2) (pv 4) (fun _ _ => rfl)) (pe_op op_sub (pv 5) pe_int) (fun _ _ => rfl)) pa_nil)) (pa_cons (pv 4) pa_nil)))))
          (pss_one (ps_expr (pe_bm PySem.F.plainAttrs_list PySem.F.slot_list_append PySem.F.type_list_append mt_append (pv 3) (pa_cons (pv 4) pa_nil)))))))
      (pss_one (ps_ret (pe_callTy call_tupD (by rfl) N.is.tup (by decide +kernel) (pa_cons (pv 3) pa_nil))))))), ?_⟩
    refine ⟨_, rfl, _, rfl, a, b, fo, lv, rfl, hF, hb, hp, hv, fun H1 s1 => ⟨true, rfl, ?_⟩⟩
    refine ifF (by decide) ?_
    refine ⟨_, rfl, _, rfl, a, b, fo, lv, rfl, foAt_same s1 hF, s1 _ _ hb, hp, hl, hv, fun r us H2 s2 hr2 hR => ?_⟩
    refine ⟨by show 0 ≤ sizeLine; decide, fun D nD => ?_⟩
    have hb2 : TN H2 b lv := s2 _ _ (s1 _ _ hb)
    have S3 := smUpd (o := .lst []) nD
    refine ⟨_, rfl, b, _, rfl, tnL (S3 _ _ hb2), ?_⟩
    refine for_it (walk_enumT (xs := lv.map vn)) (fun i σ H' => Same H2 H' ∧ H' D = some (.lst ((ordOf fo.ps lv i).map vn)) ∧ ∃ (t4 t5 : Option V), σ = [some (.ref a), some (.ref b), some (.ref r), some (.ref D), t4, t5]) ⟨S3, upd_same, _, _, rfl⟩ (fun i σ H' _ z => tnL (z.1 _ _ hb2)) ?_ ?_
    · rintro i x σ H' H3 hi ⟨sm, hD, t4, t5, rfl⟩ ⟨T1, x1, y1, rfl, nT, rfl, e1, e2⟩
      cases e1
      obtain ⟨l, hl2, rfl⟩ := vn_get (i := i) e2
      rw [List.length_map, hv.1] at hi
      refine ⟨T1, _, rfl, .inl (.inl upd_same), rfl, _, _, rfl, _, _, rfl, rfl, ?_⟩
      have S4 := smUpd (o := .tup [.int (i : Nat), vn l]) nT
      have sm4 := sm.trans S4
      have hD4 := S4 _ _ hD
      generalize upd H' T1 (.tup [.int (i : Nat), vn l]) = H4 at sm4 hD4 ⊢
      have hR4 := rowsSame sm4 hR
      obtain ⟨t, hut, ht⟩ := hR4.2 i hi
      have hlv : lv.getD i 0 = l := getD_of hl2
      have hq := ps_at hi
      obtain ⟨q, hq⟩ := hq
      have hl1 := (hv.2 i l q hl2 hq).1
      have olen := ord_len (ps := fo.ps) (lv := lv) i
      have inv := ord_inv hp hv i (Nat.le_of_lt hi)
      refine ⟨_, rfl, _, rfl, _, rfl, r, us, (i : Int), _, rfl, rfl, .inl (.inl (sm4 _ _ hr2)), atI_nat hut, t, _, rfl, .inr (tnL ht), _, _, rfl, rfl, _, rfl, ?_⟩
      rw [List.length_map]
      by_cases c : l ≤ (above fo.ps lv i).length
      · refine ifT (by rw [decide_eq_true_iff]; omega) ?_
        have hm : l - 1 < (above fo.ps lv i).length := by omega
        have hg := getD_at hm
        have hmem : (above fo.ps lv i).getD (l - 1) 0 ∈ ordOf fo.ps lv i := (inv.2.1 _).mpr (above_sub hp hi (List.mem_of_getElem? hg))
        obtain ⟨i1, i2⟩ := vn_idx hmem
        have hil := List.idxOf_lt_length_of_mem hmem
        have e1 : ((l : Nat) : Int) - 1 = ((l - 1 : Nat) : Int) := by omega
        refine ⟨_, rfl, .inl ⟨rfl, _, .inl (.inl hD4)⟩, _, rfl, .inl ⟨rfl, _, .inl (.inl hD4)⟩, _, rfl, _, rfl, r, us, (i : Int), _, rfl, rfl, .inl (.inl (sm4 _ _ hr2)), atI_nat hut, _, rfl, _, _, rfl, rfl, t, _, _, _, rfl, rfl, tnL ht, (by rw [e1]; exact vn_ix hg), ?_⟩
        refine ⟨D, _, _, (ordOf fo.ps lv i).idxOf ((above fo.ps lv i).getD (l - 1) 0), _, rfl, rfl, .inl (.inl hD4), rfl, vn_flat _, i1, by rw [vn_inj]; exact decide_eq_true rfl, i2, ?_⟩
        refine ⟨_, rfl, D, _, _, _, rfl, rfl, hD4, by rw [List.length_map, olen]; exact small1000 (by omega), by omega, by omega, ?_⟩
        refine ⟨smOver nD sm4, ?_, _, _, rfl⟩
        rw [upd_same, Int.toNat_natCast]
        show _ = some (HO.lst ((Ck.putAt (ordOf fo.ps lv i) (ordAt fo.ps lv (ordOf fo.ps lv i) i) i).map vn))
        have ea : ordAt fo.ps lv (ordOf fo.ps lv i) i = (ordOf fo.ps lv i).idxOf ((above fo.ps lv i).getD (l - 1) 0) := by
          unfold ordAt
          rw [hlv, if_pos c]
        rw [ea]
        unfold Ck.putAt
        rw [List.map_append, List.map_cons, List.map_take, List.map_drop, List.append_assoc]
        rfl
      · refine ifF (by rw [decide_eq_true_iff]; omega) ?_
        refine ⟨_, rfl, .inl ⟨rfl, _, .inl (.inl hD4)⟩, _, rfl, D, _, _, rfl, rfl, hD4, by rw [List.length_map, olen]; exact small1000 (by omega), ?_⟩
        refine ⟨smOver nD sm4, ?_, _, _, rfl⟩
        rw [upd_same]
        show _ = some (HO.lst ((Ck.putAt (ordOf fo.ps lv i) (ordAt fo.ps lv (ordOf fo.ps lv i) i) i).map vn))
        have ea : ordAt fo.ps lv (ordOf fo.ps lv i) i = (ordOf fo.ps lv i).length := by
          unfold ordAt
          rw [hlv, if_neg c]
        rw [ea, putAt_end, List.map_append]
        rfl
    · rintro σ H' ⟨sm, hD, t4, t5, rfl⟩
      rw [List.length_map, hv.1] at hD
      refine ⟨_, rfl, D, _, rfl, .inl (.inl hD), fun l H3 s3 hl3 => ?_⟩
      exact k l H3 ((s1.trans (s2.trans sm)).trans s3) hl3
end
end Cn
namespace Cn
open PySem PySem.Spec PyProof.Rows L2 Ck
section
variable {P : Program} {w : World} {K : PySem.W.Frag} {mg : Str → Option Value} {base : Heap} {C : Addr}
/-! stack -/
def spStack (C : Addr) : Sp := fun vs H Q _ => ∃ (a b : Addr) (f : Fo) (lv : List Nat) (i : Nat), vs = [.ref a, .ref b, vn i] ∧ FoAt C H a f ∧ TN H b lv ∧ Ps f.ps ∧ f.ps.length ≤ 60 ∧ Lv f.ps lv ∧ i < f.ps.length ∧
  ∀ r H', Same H H' → TN H' r (stk f.ps lv i) → Q (.ref r) H'
theorem scStack : FnScope ["forest", "plan", "place"] ["forest", "plan", "place"] (defScope sStack) := ⟨rfl, rfl, rfl, by decide +kernel, rfl, by decide +kernel, by decide +kernel⟩
theorem dStack (B : Defs K mg C) : Def P w K mg base "stack" 4 ["forest", "plan", "place"] (spStack C) := by
  obtain ⟨fI, fdI, GI, gI, kI, bI⟩ := dIsPlan (P := P) (w := w) (base := base) B
  obtain ⟨fP, fdP, GP, gP, kP, bP⟩ := dPlace (P := P) (w := w) (base := base) B
  obtain ⟨fS, fdS, GS, gS, kS, bS⟩ := dStacks (P := P) (w := w) (base := base) B
  refine def_of B.st fun f fd F => ?_
  refine F.ok scStack (fun vs H Q E h => ?_) (fun cdv A outer s H vs Q E hr h => ?_)
  · obtain ⟨a, b, f, lv, i, rfl, _⟩ := h
    rfl
  · obtain ⟨a, b, fo, lv, i, rfl, hF, hb, hp, hl, hv, hi, k⟩ := h
    have hr1 : Room 1 (A.deeper (envOfC "stack" (defScope sStack) s.heap.objs.size f cdv)) := Room.mono hr (by decide)
    refine ⟨_, pss_cons (ps_if (pt_not (pt_val (pe_call GI hr (by rfl) gI kI bI .nil pass0 (pa_cons (pv 0) (pa_cons (pv 1) pa_nil))))) (pss_one ps_never) pss_nil)
      (pss_cons (ps_if (pt_not (pt_val (pe_call GP hr (by rfl) gP kP bP .nil pass0 (pa_cons (pv 0) (pa_cons (pv 2) pa_nil))))) (pss_one ps_never) pss_nil)
      (pss_one (ps_ret (pe_ix ix_list (pe_call GS hr1 (by rfl) gS kS bS .nil pass0 (pa_cons (pv 0) (pa_cons (pv 1) pa_nil))) (pv 2) (fun _ _ => rfl))))), ?_⟩
    refine ⟨_, rfl, _, rfl, a, b, fo, lv, rfl, hF, hb, hp, hv, fun H1 s1 => ⟨true, rfl, ?_⟩⟩
    refine ifF (by decide) ?_
    have hF1 := foAt_same s1 hF
    refine ⟨_, rfl, _, rfl, a, fo, i, rfl, hF1, hi, true, rfl, ?_⟩
    refine ifF (by decide) ?_
    refine ⟨_, rfl, _, rfl, a, b, fo, lv, rfl, hF1, s1 _ _ hb, hp, hl, hv, fun r us H2 s2 hr2 hR => ?_⟩
    obtain ⟨t, hut, ht⟩ := hR.2 i hi
    exact ⟨_, rfl, r, us, (i : Int), _, rfl, rfl, .inl (.inl hr2), atI_nat hut, k t H2 (s1.trans s2) ht⟩
/-! _note_at -/
def spNoteAt (C : Addr) : Sp := fun vs H Q _ => ∃ (a r : Addr) (f : Fo) (lv : List Nat) (us : List V) (i : Nat), vs = [.ref a, .ref r, vn i] ∧ FoAt C H a f ∧ FoOk f ∧ Lv f.ps lv ∧ H r = some (.lst us) ∧ Rows H (stk f.ps lv) f.ps.length us ∧ i < f.ps.length ∧
  ∀ v H', Same H H' → NoteR H' v (noteAt f.ps f.be f.as lv i) → Q v H'
def nNoteAt : List Str := ["forest", "found", "place", "held", "ahead", "places", "asks", "i", "j"]
theorem scNoteAt : FnScope nNoteAt ["forest", "found", "place"] (defScope sNoteAt) := ⟨rfl, rfl, rfl, by decide +kernel, rfl, by decide +kernel, by decide +kernel⟩
theorem dNoteAt (B : Defs K mg C) : Def P w K mg base "_note_at" 5 ["forest", "found", "place"] (spNoteAt C) := by
  obtain ⟨fW, fdW, GW, gW, kW, bW⟩ := dWay (P := P) (w := w) (base := base) B
  have N := B.N
  have T := B.T
  refine def_of B.na fun f fd F => ?_
  refine F.ok scNoteAt (fun vs H Q E h => ?_) (fun cdv A outer s H vs Q E hr h => ?_)
  · obtain ⟨a, r, f, lv, us, i, rfl, _⟩ := h
    rfl
  · obtain ⟨a, r, fo, lv, us, i, rfl, hF, ok, hv, hr0, hR, hi, k⟩ := h
    refine ⟨_, pss_cons (ps_set (i := 3) scNoteAt.nd rfl (Or.inl rfl) (pe_call GW hr (by rfl) gW kW bW .nil pass0 (pa_cons (pv 0) (pa_cons (pv 2) pa_nil))))
      (pss_cons (ps_set (i := 4) scNoteAt.nd rfl (Or.inl rfl) (pe_slice sl_tupA (pe_ix ix_list (pv 1) (pv 2) (fun _ _ => rfl)) po_none (po_some (pe_un un_neg pe_int))))
      (pss_cons (ps_if (pt_truth (pv 4) (by intro _; rfl)) (pss_one (ps_set (i := 3) scNoteAt.nd rfl (Or.inl rfl) (pe_slice sl_tupA (pv 3) (po_some (pe_op op_add (pe_bt PySem.F.slot_tuple_index PySem.F.type_tuple_index mt_tidx (pv 3) (pa_cons (pe_ix ix_tup (pv 4) (pe_un un_neg pe_int) (fun _ _ => rfl)) pa_nil)) pe_int)) po_none))) pss_nil)
      (pss_cons (ps_set (i := 5) scNoteAt.nd rfl (Or.inl rfl) (pe_callTy call_tuple_of (by rfl) N.is.tup (by decide +kernel) (pa_cons (pe_lc (own := [("i", 7)]) (g := gName 7) (tt := tTest (tOp (rIn K false) (tVar 7) (tFld K (tVar 0) "bearing"))) rfl scNoteAt.nd (pi_tup (pv 3))
        (blkOk_by (N := nNoteAt) (sc := defScope sNoteAt) (by decide +kernel)) (fun _ _ _ _ _ => pg_name (i := 7) scNoteAt.nd rfl (Or.inl rfl)) (fun _ _ _ _ _ => pts_one (pt_cmpR op_in_seq (pv 7) (pe_fld (pv 0) rfl) (by rfl))) (fun _ _ _ _ _ => pv 7)) pa_nil)))
      (pss_cons (ps_set (i := 6) scNoteAt.nd rfl (Or.inl rfl) (pe_callTy call_tuple_of (by rfl) N.is.tup (by decide +kernel) (pa_cons (pe_lc (own := [("j", 8)]) (g := gName 8) (tt := tTest (tOp (rIn K false) (tVar 2) (tOp (rIxL K) (tVar 1) (tVar 8)))) rfl scNoteAt.nd (pi_tup (pe_fld (pv 0) rfl))
        (blkOk_by (N := nNoteAt) (sc := defScope sNoteAt) (by decide +kernel)) (fun _ _ _ _ _ => pg_name (i := 8) scNoteAt.nd rfl (Or.inl rfl)) (fun _ _ _ _ _ => pts_one (pt_cmpR op_in_seq (pv 2) (pe_ix (r := rIxL K) ix_list (pv 1) (pv 8) (fun _ _ => rfl)) (by rfl))) (fun _ _ _ _ _ => pv 8)) pa_nil)))
      (pss_one (ps_ret (pe_tup (pa_cons (pv 5) (pa_cons (pv 6) pa_nil))))))))), ?_⟩
    refine ⟨_, rfl, _, rfl, a, fo, i, rfl, hF, ok.ps, ok.l1, hi, fun h H1 s1 hh => ?_⟩
    obtain ⟨t, hut, ht⟩ := (rowsSame s1 hR).2 i hi
    refine ⟨_, rfl, _, rfl, r, us, (i : Int), _, rfl, rfl, .inl (.inl (s1 _ _ hr0)), atI_nat hut, _, rfl, _, rfl, ?_⟩
    refine slS (tnL ht) fun b2 H2 s2 hc => ?_
    have hc : SqT K H2 b2 ((stk fo.ps lv i).dropLast.map vn) := by rw [List.map_dropLast, ← cutInit]; exact hc
    refine ⟨_, rfl, _, .inr (.inl ⟨_, hc, rfl⟩), ?_⟩
    have hh2 : TDn H2 h (road fo.ps i) := tdSame s2 hh
    by_cases hne : (stk fo.ps lv i).dropLast = []
    · refine ifF (by rw [hne]; decide) ?_
      have hheld : heldAt fo.ps lv i = road fo.ps i := by unfold heldAt; rw [hne]; rfl
      have hq : SqT K H2 h ((heldAt fo.ps lv i).map vn) := by rw [hheld]; exact tdL hh2
      have S := s1.trans s2
      refine ⟨_, rfl, h, rfl, ⟨_, hq⟩, fun D nD => ?_⟩
      refine lc_tup (xs := (heldAt fo.ps lv i).map vn) (fun m H' => Same H2 H' ∧ H' D = some (.lst ((((heldAt fo.ps lv i).take m).filter fun x => decide (x ∈ fo.be)).map vn))) ⟨smUpd nD, upd_same⟩ (fun m H' _ z => sameT z.1 hq) ?_ ?_
      · rintro m x H' hx ⟨sm, hD⟩
        obtain ⟨n, hn, rfl⟩ := vn_get hx
        obtain ⟨dx, ap, ab, aa, h0, h1, h2, h3⟩ := foAt_same (S.trans sm) hF
        refine ⟨rfl, _, rfl, _, rfl, a, C, dx, _, _, rfl, h0, T.cl, T.nB, fB, ab, _, rfl, .inr (tnL h2), rfl, vn_flat _, _, rfl, ?_⟩
        have et : (heldAt fo.ps lv i).take (m + 1) = (heldAt fo.ps lv i).take m ++ [n] := by rw [List.take_add_one, hn]; rfl
        by_cases c : n ∈ fo.be
        · refine ifT (by show inV (vn n) (fo.be.map vn) = true; rw [inV_vn]; exact decide_eq_true c) ?_
          refine ⟨_, rfl, _, hD, small1000 (by rw [List.length_map]; exact Nat.le_trans (List.length_filter_le _ _) (Nat.le_trans (takeLe _ _) (heldLen ok hi))), smOver nD sm, ?_⟩
          rw [upd_same, et, List.filter_append, List.map_append, List.filter_cons_of_pos (by simpa using c)]
          rfl
        · refine ifF (by show ¬ inV (vn n) (fo.be.map vn) = true; rw [inV_vn]; simpa using c) ?_
          refine ⟨sm, ?_⟩
          rw [et, List.filter_append, List.filter_cons_of_neg (by simpa using c)]
          show _ = some (HO.lst ((_ ++ []).map vn))
          rw [List.append_nil]
          exact hD
      · rintro H5 ⟨sm5, hD5⟩
        rw [List.length_map, List.take_length] at hD5
        refine ⟨D, _, rfl, .inl ⟨.inl (.inl hD5), fun q nq => ?_⟩⟩
        have S6 := (S.trans sm5).trans (smUpd (o := .tup (((heldAt fo.ps lv i).filter fun x => decide (x ∈ fo.be)).map vn)) nq)
        have hq6 : TN (upd H5 q (.tup (((heldAt fo.ps lv i).filter fun x => decide (x ∈ fo.be)).map vn))) q (noteAt fo.ps fo.be fo.as lv i).1 := upd_same
        generalize upd H5 q (.tup (((heldAt fo.ps lv i).filter fun x => decide (x ∈ fo.be)).map vn)) = H6 at S6 hq6 ⊢
        obtain ⟨dx, ap, ab, aa, h0, h1, h2, h3⟩ := foAt_same S6 hF
        refine ⟨_, rfl, a, C, dx, _, _, rfl, h0, T.cl, T.nA, fA, aa, rfl, ⟨_, tnL h3⟩, fun D2 nD2 => ?_⟩
        refine lc_tup (xs := fo.as.map vn) (fun m H' => Same H6 H' ∧ H' D2 = some (.lst (((fo.as.take m).filter fun j => decide (i ∈ stk fo.ps lv j)).map vn))) ⟨smUpd nD2, upd_same⟩ (fun m H' _ z => tnL (z.1 _ _ h3)) ?_ ?_
        · rintro m x H' hx ⟨sm, hD⟩
          obtain ⟨n, hn, rfl⟩ := vn_get hx
          have hnl := ok.al n (List.mem_of_getElem? hn)
          obtain ⟨t, hut, ht⟩ := (rowsSame (S6.trans sm) hR).2 n hnl
          refine ⟨rfl, _, rfl, _, rfl, _, rfl, r, us, (n : Int), _, rfl, rfl, .inl (.inl ((S6.trans sm) _ _ hr0)), atI_nat hut, t, _, rfl, .inr (tnL ht), rfl, vn_flat _, _, rfl, ?_⟩
          have et : fo.as.take (m + 1) = fo.as.take m ++ [n] := by rw [List.take_add_one, hn]; rfl
          by_cases c : i ∈ stk fo.ps lv n
          · refine ifT (by show inV (vn i) ((stk fo.ps lv n).map vn) = true; rw [inV_vn]; exact decide_eq_true c) ?_
            refine ⟨_, rfl, _, hD, small1000 (by rw [List.length_map]; exact Nat.le_trans (List.length_filter_le _ _) (Nat.le_trans (takeLe _ _) (by have := lotLen ok.as ok.al; have := ok.l1; omega))), smOver nD2 sm, ?_⟩
            rw [upd_same, et, List.filter_append, List.map_append, List.filter_cons_of_pos (by simpa using c)]
            rfl
          · refine ifF (by show ¬ inV (vn i) ((stk fo.ps lv n).map vn) = true; rw [inV_vn]; simpa using c) ?_
            refine ⟨sm, ?_⟩
            rw [et, List.filter_append, List.filter_cons_of_neg (by simpa using c)]
            show _ = some (HO.lst ((_ ++ []).map vn))
            rw [List.append_nil]
            exact hD
        · rintro H7 ⟨sm7, hD7⟩
          rw [List.length_map, List.take_length] at hD7
          refine ⟨D2, _, rfl, .inl ⟨.inl (.inl hD7), fun q2 nq2 => ?_⟩⟩
          have S8 := smUpd (o := .tup ((fo.as.filter fun j => decide (i ∈ stk fo.ps lv j)).map vn)) nq2
          refine ⟨_, rfl, _, rfl, by show 2 ≤ sizeLine; decide, fun t nt => ?_⟩
          have S9 := smUpd (o := .tup [.ref q, .ref q2]) nt
          exact k _ _ ((S6.trans sm7).trans (S8.trans S9)) ⟨t, q, q2, rfl, upd_same, S9 _ _ (S8 _ _ (sm7 _ _ hq6)), S9 _ _ upd_same⟩
    · have hem : ((stk fo.ps lv i).dropLast.map vn).isEmpty = false := by
        cases hz : (stk fo.ps lv i).dropLast with
        | nil => exact absurd hz hne
        | cons _ _ => rfl
      refine ifT (by rw [hem]; rfl) ?_
      have hx : (stk fo.ps lv i).dropLast.getLast hne ∈ road fo.ps i := stk_sub ok.ps i hi _ (List.dropLast_subset _ (List.getLast_mem hne))
      have hheld : heldAt fo.ps lv i = (road fo.ps i).drop ((road fo.ps i).idxOf ((stk fo.ps lv i).dropLast.getLast hne) + 1) := by unfold heldAt; rw [lastDrop hne]
      generalize hxx : (stk fo.ps lv i).dropLast.getLast hne = x at hx hheld
      obtain ⟨i1, i2⟩ := vn_idx hx
      refine ⟨_, rfl, _, rfl, ⟨h, _, rfl, hh2⟩, _, rfl, _, rfl, b2, _, (-1 : Int), _, rfl, rfl, hc, vn_last hne hxx, h, _, _, (road fo.ps i).idxOf x, _, rfl, rfl, tdL hh2, rfl, vn_flat _, i1, by rw [vn_inj]; exact decide_eq_true rfl, i2, _, _, rfl, rfl, _, rfl, ?_⟩
      refine slSN (tdL hh2) fun hb0 H4 s4 hq => ?_
      have e1 : (((road fo.ps i).idxOf x : Nat) : Int) + 1 = (((road fo.ps i).idxOf x + 1 : Nat) : Int) := by omega
      have hq : SqT K H4 hb0 ((heldAt fo.ps lv i).map vn) := by
        rw [hheld, List.map_drop, ← cutDrop, ← e1]
        exact hq
      have S := (s1.trans s2).trans s4
      refine ⟨_, rfl, hb0, rfl, ⟨_, hq⟩, fun D nD => ?_⟩
      refine lc_tup (xs := (heldAt fo.ps lv i).map vn) (fun m H' => Same H4 H' ∧ H' D = some (.lst ((((heldAt fo.ps lv i).take m).filter fun x => decide (x ∈ fo.be)).map vn))) ⟨smUpd nD, upd_same⟩ (fun m H' _ z => sameT z.1 hq) ?_ ?_
      · rintro m x H' hx ⟨sm, hD⟩
        obtain ⟨n, hn, rfl⟩ := vn_get hx
        obtain ⟨dx, ap, ab, aa, h0, h1, h2, h3⟩ := foAt_same (S.trans sm) hF
        refine ⟨rfl, _, rfl, _, rfl, a, C, dx, _, _, rfl, h0, T.cl, T.nB, fB, ab, _, rfl, .inr (tnL h2), rfl, vn_flat _, _, rfl, ?_⟩
        have et : (heldAt fo.ps lv i).take (m + 1) = (heldAt fo.ps lv i).take m ++ [n] := by rw [List.take_add_one, hn]; rfl
        by_cases c : n ∈ fo.be
        · refine ifT (by show inV (vn n) (fo.be.map vn) = true; rw [inV_vn]; exact decide_eq_true c) ?_
          refine ⟨_, rfl, _, hD, small1000 (by rw [List.length_map]; exact Nat.le_trans (List.length_filter_le _ _) (Nat.le_trans (takeLe _ _) (heldLen ok hi))), smOver nD sm, ?_⟩
          rw [upd_same, et, List.filter_append, List.map_append, List.filter_cons_of_pos (by simpa using c)]
          rfl
        · refine ifF (by show ¬ inV (vn n) (fo.be.map vn) = true; rw [inV_vn]; simpa using c) ?_
          refine ⟨sm, ?_⟩
          rw [et, List.filter_append, List.filter_cons_of_neg (by simpa using c)]
          show _ = some (HO.lst ((_ ++ []).map vn))
          rw [List.append_nil]
          exact hD
      · rintro H5 ⟨sm5, hD5⟩
        rw [List.length_map, List.take_length] at hD5
        refine ⟨D, _, rfl, .inl ⟨.inl (.inl hD5), fun q nq => ?_⟩⟩
        have S6 := (S.trans sm5).trans (smUpd (o := .tup (((heldAt fo.ps lv i).filter fun x => decide (x ∈ fo.be)).map vn)) nq)
        have hq6 : TN (upd H5 q (.tup (((heldAt fo.ps lv i).filter fun x => decide (x ∈ fo.be)).map vn))) q (noteAt fo.ps fo.be fo.as lv i).1 := upd_same
        generalize upd H5 q (.tup (((heldAt fo.ps lv i).filter fun x => decide (x ∈ fo.be)).map vn)) = H6 at S6 hq6 ⊢
        obtain ⟨dx, ap, ab, aa, h0, h1, h2, h3⟩ := foAt_same S6 hF
        refine ⟨_, rfl, a, C, dx, _, _, rfl, h0, T.cl, T.nA, fA, aa, rfl, ⟨_, tnL h3⟩, fun D2 nD2 => ?_⟩
        refine lc_tup (xs := fo.as.map vn) (fun m H' => Same H6 H' ∧ H' D2 = some (.lst (((fo.as.take m).filter fun j => decide (i ∈ stk fo.ps lv j)).map vn))) ⟨smUpd nD2, upd_same⟩ (fun m H' _ z => tnL (z.1 _ _ h3)) ?_ ?_
        · rintro m x H' hx ⟨sm, hD⟩
          obtain ⟨n, hn, rfl⟩ := vn_get hx
          have hnl := ok.al n (List.mem_of_getElem? hn)
          obtain ⟨t, hut, ht⟩ := (rowsSame (S6.trans sm) hR).2 n hnl
          refine ⟨rfl, _, rfl, _, rfl, _, rfl, r, us, (n : Int), _, rfl, rfl, .inl (.inl ((S6.trans sm) _ _ hr0)), atI_nat hut, t, _, rfl, .inr (tnL ht), rfl, vn_flat _, _, rfl, ?_⟩
          have et : fo.as.take (m + 1) = fo.as.take m ++ [n] := by rw [List.take_add_one, hn]; rfl
          by_cases c : i ∈ stk fo.ps lv n
          · refine ifT (by show inV (vn i) ((stk fo.ps lv n).map vn) = true; rw [inV_vn]; exact decide_eq_true c) ?_
            refine ⟨_, rfl, _, hD, small1000 (by rw [List.length_map]; exact Nat.le_trans (List.length_filter_le _ _) (Nat.le_trans (takeLe _ _) (by have := lotLen ok.as ok.al; have := ok.l1; omega))), smOver nD2 sm, ?_⟩
            rw [upd_same, et, List.filter_append, List.map_append, List.filter_cons_of_pos (by simpa using c)]
            rfl
          · refine ifF (by show ¬ inV (vn i) ((stk fo.ps lv n).map vn) = true; rw [inV_vn]; simpa using c) ?_
            refine ⟨sm, ?_⟩
            rw [et, List.filter_append, List.filter_cons_of_neg (by simpa using c)]
            show _ = some (HO.lst ((_ ++ []).map vn))
            rw [List.append_nil]
            exact hD
        · rintro H7 ⟨sm7, hD7⟩
          rw [List.length_map, List.take_length] at hD7
          refine ⟨D2, _, rfl, .inl ⟨.inl (.inl hD7), fun q2 nq2 => ?_⟩⟩
          have S8 := smUpd (o := .tup ((fo.as.filter fun j => decide (i ∈ stk fo.ps lv j)).map vn)) nq2
          refine ⟨_, rfl, _, rfl, by show 2 ≤ sizeLine; decide, fun t nt => ?_⟩
          have S9 := smUpd (o := .tup [.ref q, .ref q2]) nt
          exact k _ _ ((S6.trans sm7).trans (S8.trans S9)) ⟨t, q, q2, rfl, upd_same, S9 _ _ (S8 _ _ (sm7 _ _ hq6)), S9 _ _ upd_same⟩
end
end Cn
namespace Cn
open PySem PySem.Spec PyProof.Rows L2 Ck
theorem rowsUpdN {H' : Hp} {D : Addr} {o : HO} (hD : ∀ ys, H' D ≠ some (.tup ys)) {g : Nat → List Nat} {n : Nat} {us : List V} (h : Rows H' g n us) : Rows (upd H' D o) g n us := by
  refine ⟨h.1, fun i hi => ?_⟩
  obtain ⟨t, h1, h2⟩ := h.2 i hi
  refine ⟨t, h1, ?_⟩
  have q : t ≠ D := fun z => hD _ (by rw [← z]; exact h2)
  show upd H' D o t = _
  rw [upd_ne q]
  exact h2
/-- the notes by the places at which they are, as the dict of them holds them -/
def heldNotes (ps : List (Option Nat)) (be as lv : List Nat) (n : Nat) : List (Nat × (List Nat × List Nat)) := ((List.range n).map fun s => (s, noteAt ps be as lv s)).filter fun e => kept2 e.2
theorem heldNotes_snd {ps : List (Option Nat)} {be as lv : List Nat} {n : Nat} : (heldNotes ps be as lv n).map (·.2) = notesOf ps be as lv n := by
  unfold heldNotes notesOf
  generalize List.range n = xs
  induction xs with
  | nil => rfl
  | cons x xs ih =>
    rw [List.map_cons, List.map_cons, List.filter_cons, List.filter_cons]
    by_cases c : kept2 (noteAt ps be as lv x) = true
    · rw [if_pos c, if_pos (show (!(noteAt ps be as lv x).1.isEmpty && !(noteAt ps be as lv x).2.isEmpty) = true from c), List.map_cons, ih]
    · rw [if_neg c, if_neg (show ¬ (!(noteAt ps be as lv x).1.isEmpty && !(noteAt ps be as lv x).2.isEmpty) = true from c), ih]
theorem heldNotes_succ {ps : List (Option Nat)} {be as lv : List Nat} {n : Nat} : heldNotes ps be as lv (n + 1) = heldNotes ps be as lv n ++ if kept2 (noteAt ps be as lv n) = true then [(n, noteAt ps be as lv n)] else [] := by
  unfold heldNotes
  rw [List.range_succ, List.map_append, List.filter_append]
  show _ ++ List.filter _ [(n, noteAt ps be as lv n)] = _
  rw [List.filter_cons]
  rfl
theorem heldNotes_len {ps : List (Option Nat)} {be as lv : List Nat} {n : Nat} : (heldNotes ps be as lv n).length ≤ n := by
  unfold heldNotes
  refine Nat.le_trans (List.length_filter_le _ _) ?_
  rw [List.length_map, List.length_range]
  exact Nat.le_refl _
theorem heldNotes_lt {ps : List (Option Nat)} {be as lv : List Nat} {n : Nat} {e : Nat × (List Nat × List Nat)} (h : e ∈ heldNotes ps be as lv n) : e.1 < n := by
  obtain ⟨h1, _⟩ := List.mem_filter.mp h
  obtain ⟨s, h2, rfl⟩ := List.mem_map.mp h1
  exact List.mem_range.mp h2
def ByPlace (H : Hp) (kvs : List (L2.Key × V)) (l : List (Nat × (List Nat × List Nat))) : Prop := Paired (fun kv e => kv.1 = (Sum.inl ((e.1 : Nat) : Int) : L2.Key) ∧ NoteR H kv.2 e.2) kvs l
theorem byPlaceSame {H H' : Hp} {kvs : List (L2.Key × V)} {l : List (Nat × (List Nat × List Nat))} (s : Same H H') (h : ByPlace H kvs l) : ByPlace H' kvs l := Paired.mapP h fun _ _ z => ⟨z.1, noteSame s z.2⟩
theorem byPlaceUpd {H' : Hp} {D : Addr} {o : HO} (hD : ∀ ys, H' D ≠ some (.tup ys)) {kvs : List (L2.Key × V)} {l : List (Nat × (List Nat × List Nat))} (h : ByPlace H' kvs l) : ByPlace (upd H' D o) kvs l := Paired.mapP h fun _ _ z => ⟨z.1, noteUpdN hD z.2⟩
theorem byPlaceAbs {H : Hp} {k : Nat} : ∀ {kvs : List (L2.Key × V)} {l : List (Nat × (List Nat × List Nat))}, ByPlace H kvs l → (∀ e ∈ l, e.1 ≠ k) → valV kvs (Sum.inl ((k : Nat) : Int) : L2.Key) = none
  | _, _, .nil, _ => rfl
  | _, _, .cons a t, h => by
    rw [valV_neg (by rw [a.1]; intro z; exact h _ List.mem_cons_self (Int.ofNat.inj (Sum.inl.inj z)))]
    exact byPlaceAbs t fun e he => h e (List.mem_cons_of_mem _ he)
theorem byPlaceGet {H : Hp} : ∀ {kvs : List (L2.Key × V)} {l : List (Nat × (List Nat × List Nat))} {i : Nat} {k : L2.Key} {v : V}, ByPlace H kvs l → (l.map (·.1)).Nodup → kvs[i]? = some (k, v) → valV kvs k = some v
  | _, _, i, k, v, .nil, _, h => by rw [List.getElem?_nil] at h; cases h
  | _, _, 0, k, v, .cons a t, _, h => by cases h; rw [valV_pos rfl]
  | _, _, i + 1, k, v, .cons (a := a0) (b := b0) a t, nd, h => by
    rw [List.getElem?_cons_succ] at h
    rw [List.map_cons, List.nodup_cons] at nd
    have ht := byPlaceGet t nd.2 h
    obtain ⟨y, hy, hk, _⟩ := pairedGet t h
    rw [valV_neg (by
      rw [a.1]
      intro z
      have z2 : (Sum.inl ((b0.1 : Nat) : Int) : L2.Key) = Sum.inl ((y.1 : Nat) : Int) := z.trans hk
      have z3 : b0.1 = y.1 := Int.ofNat.inj (Sum.inl.inj z2)
      exact nd.1 (by rw [z3]; exact List.mem_map_of_mem (List.mem_of_getElem? hy)))]
    exact ht
theorem heldNotes_nodup {ps : List (Option Nat)} {be as lv : List Nat} {n : Nat} : ((heldNotes ps be as lv n).map (·.1)).Nodup := by
  induction n with
  | zero => exact List.nodup_nil
  | succ n ih =>
    rw [heldNotes_succ]
    split
    · rw [List.map_append, List.nodup_append]
      refine ⟨ih, List.nodup_cons.mpr ⟨fun z => (by cases z), List.nodup_nil⟩, ?_⟩
      rintro x hx y hy rfl
      obtain ⟨e, he, rfl⟩ := List.mem_map.mp hx
      have := heldNotes_lt he
      have hy2 : e.1 = n := by simpa using hy
      omega
    · rw [List.append_nil]; exact ih
theorem byPlaceVals {H : Hp} : ∀ {kvs : List (L2.Key × V)} {l : List (Nat × (List Nat × List Nat))}, ByPlace H kvs l → NotesR H (kvs.map (·.2)) (l.map (·.2))
  | _, _, .nil => .nil
  | _, _, .cons a t => .cons a.2 (byPlaceVals t)
section
variable {P : Program} {w : World} {K : PySem.W.Frag} {mg : Str → Option Value} {base : Heap} {C : Addr}
def spByPlace (C : Addr) : Sp := fun vs H Q _ => ∃ (a b : Addr) (f : Fo) (lv : List Nat), vs = [.ref a, .ref b] ∧ FoAt C H a f ∧ TN H b lv ∧ FoOk f ∧ Lv f.ps lv ∧
  ∀ D kvs H', Same H H' → H D = none → H' D = some (.dK kvs) → ByPlace H' kvs (heldNotes f.ps f.be f.as lv f.ps.length) → Q (.ref D) H'
def nByPlace : List Str := ["forest", "plan", "found", "held", "s", "places", "asks"]
theorem scByPlace : FnScope nByPlace ["forest", "plan"] (defScope sByPlace) := ⟨rfl, rfl, rfl, by decide +kernel, rfl, by decide +kernel, by decide +kernel⟩
theorem dByPlace (B : Defs K mg C) : Def P w K mg base "notes_by_place" 6 ["forest", "plan"] (spByPlace C) := by
  obtain ⟨fS, fdS, GS, gS, kS, bS⟩ := dStacks (P := P) (w := w) (base := base) B
  obtain ⟨fN, fdN, GN, gN, kN, bN⟩ := dNoteAt (P := P) (w := w) (base := base) B
  have N := B.N
  have nd := scByPlace.nd
  refine def_of B.nbp fun f fd F => ?_
  refine F.ok scByPlace (fun vs H Q E h => ?_) (fun cdv A outer s H vs Q E hr h => ?_)
  · obtain ⟨a, b, f, lv, rfl, _⟩ := h
    rfl
  · obtain ⟨a, b, fo, lv, rfl, hF, hb, ok, hv, k⟩ := h
    have hu : (A.deeper (envOfC "notes_by_place" (defScope sByPlace) s.heap.objs.size f cdv)).units + 1 < cLine := by have := hr.units; omega
    have hr1 : Room 1 (A.deeper (envOfC "notes_by_place" (defScope sByPlace) s.heap.objs.size f cdv)) := Room.mono hr (by decide)
    refine ⟨_, pss_cons (ps_set (i := 2) nd rfl (Or.inl rfl) (pe_call GS hr1 (by rfl) gS kS bS .nil pass0 (pa_cons (pv 0) (pa_cons (pv 1) pa_nil))))
      (pss_cons (ps_set (i := 3) nd rfl (Or.inl rfl) pe_dnewK)
      (pss_cons (ps_for PassesOwn.never rfl (pi_range1 (by rfl) N.range (pa_cons (pe_callB call_len_seq (by rfl) N.is.len PySem.boot_len (pa_cons (pv 1) pa_nil)) pa_nil)) (pg_name (i := 4) nd rfl (Or.inl rfl))
        (pss_cons (ps_asg (pe_call GN hr (by rfl) gN kN bN .nil pass0 (pa_cons (pv 0) (pa_cons (pv 2) (pa_cons (pv 4) pa_nil)))) (pg_tup rfl (pgs_cons (pg_name (i := 5) nd rfl (Or.inl rfl)) (pgs_cons (pg_name (i := 6) nd rfl (Or.inl rfl)) pgs_nil))))
        (pss_one (ps_if (PW.pt (pw_and (pt_truth (pv 5) (by intro _; rfl)) (pw_and1 (pt_truth (pv 6) (by intro _; rfl)))))
          (pss_one (ps_dput hu (pv 3) (pv 4) (pe_tup (pa_cons (pv 5) (pa_cons (pv 6) pa_nil))) rfl)) pss_nil))))
      (pss_one (ps_ret (pv 3))))), ?_⟩
    have l60 := ok.l1
    refine ⟨_, rfl, _, rfl, a, b, fo, lv, rfl, hF, hb, ok.ps, l60, hv, fun r us H1 s1 hr2 hR => ?_⟩
    intro D nD
    have S2 := smUpd (o := .dK []) nD
    have hD0 : H D = none := by
      cases e : H D with
      | none => rfl
      | some o => rw [s1 _ _ e] at nD; cases nD
    have hb2 : TN (upd H1 D (.dK [])) b lv := S2 _ _ (s1 _ _ hb)
    have hF2 := foAt_same (s1.trans S2) hF
    have hr3 := S2 _ _ hr2
    have hR2 := rowsSame S2 hR
    have hD2 : upd H1 D (.dK []) D = some (.dK []) := upd_same
    have SS := s1.trans S2
    generalize upd H1 D (.dK []) = H2 at hb2 hF2 hr3 hR2 hD2 SS ⊢
    refine ⟨_, rfl, b, _, rfl, .inr (tnL hb2), ((lv.map vn).length : Int), rfl, by omega, by rw [List.length_map, hv.1]; omega, ?_⟩
    rw [List.length_map, hv.1, Int.toNat_natCast]
    refine for_range (lo := 0) (n := fo.ps.length) (fun i σ H' => Same H H' ∧ FoAt C H' a fo ∧ TN H' b lv ∧ H' r = some (.lst us) ∧ Rows H' (stk fo.ps lv) fo.ps.length us ∧ (∃ kvs, H' D = some (.dK kvs) ∧ ByPlace H' kvs (heldNotes fo.ps fo.be fo.as lv i)) ∧ ∃ t4 t5 t6 : Option V, σ = [some (.ref a), some (.ref b), some (.ref r), some (.ref D), t4, t5, t6])
      ⟨SS, hF2, hb2, hr3, hR2, ⟨[], hD2, .nil⟩, none, none, none, rfl⟩ ?_ ?_
    · rintro i σ H3 hi ⟨s3, hF3, hb3, hr4, hR3, ⟨kvs, hD3, hK⟩, t4, t5, t6, rfl⟩
      rw [Int.zero_add]
      refine ⟨_, rfl, _, rfl, _, rfl, a, r, fo, lv, us, i, rfl, hF3, ok, hv, hr4, hR3, hi, fun v H4 s4 hv4 => ?_⟩
      obtain ⟨t, x1, y1, rfl, ht, hx1, hy1⟩ := hv4
      have hD4 := s4 _ _ hD3
      have S4 := s3.trans s4
      have hK4 := byPlaceSame s4 hK
      refine ⟨t, _, rfl, .inl (.inl ht), rfl, _, _, rfl, _, _, rfl, rfl, ?_⟩
      refine ⟨_, rfl, _, .inr (.inl ⟨_, tnL hx1, rfl⟩), ?_⟩
      rw [vnEmpty]
      have hno : kept2 (noteAt fo.ps fo.be fo.as lv i) = false → ByPlace H4 kvs (heldNotes fo.ps fo.be fo.as lv (i + 1)) := fun c => by
        rw [heldNotes_succ, c, if_neg Bool.false_ne_true, List.append_nil]
        exact hK4
      cases e1 : (noteAt fo.ps fo.be fo.as lv i).1.isEmpty with
      | true =>
        refine ifF (by decide) ?_
        refine ifF (by decide) ?_
        exact ⟨S4, foAt_same s4 hF3, s4 _ _ hb3, s4 _ _ hr4, rowsSame s4 hR3, ⟨kvs, hD4, hno (by unfold kept2; rw [e1]; rfl)⟩, _, _, _, rfl⟩
      | false =>
        refine ifT (by decide) ?_
        refine ⟨_, rfl, _, .inr (.inl ⟨_, tnL hy1, rfl⟩), ?_⟩
        rw [vnEmpty]
        cases e2 : (noteAt fo.ps fo.be fo.as lv i).2.isEmpty with
        | true =>
          refine ifF (by decide) ?_
          exact ⟨S4, foAt_same s4 hF3, s4 _ _ hb3, s4 _ _ hr4, rowsSame s4 hR3, ⟨kvs, hD4, hno (by unfold kept2; rw [e1, e2]; rfl)⟩, _, _, _, rfl⟩
        | false =>
          refine ifT (by decide) ?_
          refine ⟨_, rfl, _, rfl, by show 2 ≤ sizeLine; decide, fun t2 n2 => ?_⟩
          have S5 := smUpd (o := .tup [.ref x1, .ref y1]) n2
          have hD5 := S5 _ _ hD4
          have hn5 : NoteR (upd H4 t2 (.tup [.ref x1, .ref y1])) (.ref t2) (noteAt fo.ps fo.be fo.as lv i) := ⟨t2, x1, y1, rfl, upd_same, S5 _ _ hx1, S5 _ _ hy1⟩
          have S45 := S4.trans S5
          have s45 := s4.trans S5
          have hK5 := byPlaceSame S5 hK4
          generalize upd H4 t2 (.tup [.ref x1, .ref y1]) = H5 at hD5 hn5 S45 s45 hK5 ⊢
          have hl : kvs.length ≤ i := by rw [Paired.length hK5]; exact heldNotes_len
          refine ⟨_, rfl, _, rfl, D, _, rfl, DPut.k (k := Sum.inl ((i : Nat) : Int)) hD5 (small1000 (by omega)), ?_⟩
          have hab : valV kvs (Sum.inl ((i : Nat) : Int) : L2.Key) = none := byPlaceAbs hK5 fun e he z => by
            have := heldNotes_lt he
            omega
          rw [putK_new _ hab]
          have nt : ∀ ys, H5 D ≠ some (.tup ys) := fun ys z => by rw [hD5] at z; cases z
          have So : Same H (upd H5 D (.dK (kvs ++ [(Sum.inl ((i : Nat) : Int), .ref t2)]))) := smOver hD0 S45
          have So2 : ∀ {a : Addr} {o : HO}, H3 a = some o → a ≠ D → upd H5 D (.dK (kvs ++ [(Sum.inl ((i : Nat) : Int), .ref t2)])) a = some o := fun {a o} h1 h2 => by
            rw [upd_ne h2]; exact s45 _ _ h1
          have bD : b ≠ D := fun z => by rw [z] at hb3; rw [show H3 D = _ from hb3] at hD3; cases hD3
          have rD : r ≠ D := fun z => by rw [z, hD3] at hr4; cases hr4
          refine ⟨So, foAt_same So hF, So2 hb3 bD, So2 hr4 rD, ?_, ⟨_, upd_same, ?_⟩, _, _, _, rfl⟩
          · exact rowsUpdN nt (rowsSame s45 hR3)
          · rw [heldNotes_succ, if_pos (by unfold kept2; rw [e1, e2]; rfl)]
            exact paired_snoc (byPlaceUpd nt hK5) ⟨rfl, noteUpdN nt hn5⟩
    · rintro σ H3 ⟨s3, hF3, hb3, hr4, hR3, ⟨kvs, hD3, hK⟩, t4, t5, t6, rfl⟩
      exact ⟨_, rfl, k D kvs H3 s3 hD0 hD3 hK⟩
end
section
variable {P : Program} {w : World} {K : PySem.W.Frag} {mg : Str → Option Value} {base : Heap} {C : Addr}
def spNotesOf (C : Addr) : Sp := fun vs H Q _ => ∃ (a b : Addr) (f : Fo) (lv : List Nat), vs = [.ref a, .ref b] ∧ FoAt C H a f ∧ TN H b lv ∧ FoOk f ∧ Lv f.ps lv ∧
  ∀ r us H', Same H H' → H' r = some (.tup us) → NotesR H' us (notesOf f.ps f.be f.as lv f.ps.length) → Q (.ref r) H'
def nNotesOf : List Str := ["forest", "plan", "held", "s"]
theorem scNotesOf : FnScope nNotesOf ["forest", "plan"] (defScope sNotesOf) := ⟨rfl, rfl, rfl, by decide +kernel, rfl, by decide +kernel, by decide +kernel⟩
theorem dNotesOf (B : Defs K mg C) : Def P w K mg base "notes_of" 7 ["forest", "plan"] (spNotesOf C) := by
  obtain ⟨fI, fdI, GI, gI, kI, bI⟩ := dIsPlan (P := P) (w := w) (base := base) B
  obtain ⟨fB, fdB, GB, gB, kB, bB⟩ := dByPlace (P := P) (w := w) (base := base) B
  have N := B.N
  have nd := scNotesOf.nd
  refine def_of B.no fun f fd F => ?_
  refine F.ok scNotesOf (fun vs H Q E h => ?_) (fun cdv A outer s H vs Q E hr h => ?_)
  · obtain ⟨a, b, f, lv, rfl, _⟩ := h
    rfl
  · obtain ⟨a, b, fo, lv, rfl, hF, hb, ok, hv, k⟩ := h
    have hu : (A.deeper (envOfC "notes_of" (defScope sNotesOf) s.heap.objs.size f cdv)).units + 1 < cLine := by have := hr.units; omega
    have hr3 : Room 3 (A.deeper (envOfC "notes_of" (defScope sNotesOf) s.heap.objs.size f cdv)) := Room.mono hr (by decide)
    refine ⟨_, pss_cons (ps_if (pt_not (pt_val (pe_call GI hr3 (by rfl) gI kI bI .nil pass0 (pa_cons (pv 0) (pa_cons (pv 1) pa_nil))))) (pss_one ps_never) pss_nil)
      (pss_cons (ps_set (i := 2) nd rfl (Or.inr rfl) (pe_call GB hr (by rfl) gB kB bB .nil pass0 (pa_cons (pv 0) (pa_cons (pv 1) pa_nil))))
      (pss_one (ps_ret (pe_callTy call_tuple_of (by rfl) N.is.tup (by decide +kernel) (pa_cons (pe_lock (pe_lc (own := [("s", 3)]) (g := gName 3) (tt := tYes) rfl nd (pi_keys (pv 2))
        (blkOk_by (N := nNotesOf) (sc := defScope sNotesOf) (by decide +kernel)) (fun _ _ _ _ _ => pg_name (i := 3) nd rfl (Or.inl rfl)) (fun _ _ _ _ _ => pts_nil)
        (fun _ _ _ _ _ => pe_dget hu (pv 2) (pv 3) (fun _ _ => rfl)))) pa_nil))))), ?_⟩
    refine ⟨_, rfl, _, rfl, a, b, fo, lv, rfl, hF, hb, ok.ps, hv, fun H1 s1 => ⟨true, rfl, ?_⟩⟩
    refine ifF (by decide) ?_
    refine ⟨_, rfl, _, rfl, a, b, fo, lv, rfl, foAt_same s1 hF, s1 _ _ hb, ok, hv, fun D kvs H2 s2 nD hD hK => ?_⟩
    refine ⟨D, _, hD, trivial, fun od => ?_⟩
    have hL : upd H2 D (.frz od (.dK kvs)) D = some (.frz od (.dK kvs)) := upd_same
    have nt : ∀ ys, H2 D ≠ some (.tup ys) := fun ys z => by rw [hD] at z; cases z
    have hKL := byPlaceUpd (o := .frz od (.dK kvs)) nt hK
    have nD0 : H D = none := by
      cases e : H D with
      | none => rfl
      | some o => rw [s1 _ _ e] at nD; cases nD
    have SL : Same H (upd H2 D (.frz od (.dK kvs))) := smOver nD0 (s1.trans s2)
    generalize upd H2 D (.frz od (.dK kvs)) = HL at hL hKL SL ⊢
    have hlen : kvs.length ≤ fo.ps.length := by rw [Paired.length hK]; exact heldNotes_len
    have l60 := ok.l1
    refine ⟨_, rfl, D, od, rfl, .inl ⟨_, hL, fun D2 nD2 => ?_⟩⟩
    refine lc_it walk_keys (fun m H' => Same HL H' ∧ H' D2 = some (.lst ((kvs.take m).map (·.2)))) ⟨smUpd nD2, upd_same⟩ (fun m H' _ z => z.1 _ _ hL) ?_ ?_
    · rintro m x H0 H' hm ⟨sm, hW⟩ ⟨rfl, kk, v, hkv, rfl⟩
      have hget : DGet H' D (kV kk) (some v) := .inl ⟨kvs, kk, .inr ⟨od, sm _ _ hL⟩, rfl, (byPlaceGet hK heldNotes_nodup hkv).symm⟩
      refine ⟨rfl, _, rfl, _, rfl, D, _, rfl, hget, ?_⟩
      have hl : ((kvs.take m).map (·.2)).length ≤ m := by rw [List.length_map, List.length_take]; omega
      refine ⟨_, hW, small1000 (by omega), smOver nD2 sm, ?_⟩
      rw [upd_same, List.take_add_one, hkv, List.map_append]
      rfl
    · rintro H3 ⟨sm3, hW⟩
      rw [List.take_length] at hW
      have hD3 := sm3 _ _ hL
      have ne : D2 ≠ D := fun z => by rw [z, hL] at nD2; cases nD2
      refine ⟨hD3, D2, _, rfl, .inl ⟨.inl (.inl (by rw [upd_ne ne]; exact hW)), fun q nq => ?_⟩⟩
      have S4 : Same H (upd H3 D (.dK kvs)) := smOver nD0 (SL.trans sm3)
      have nt3 : ∀ ys, H3 D ≠ some (.tup ys) := fun ys z => by rw [hD3] at z; cases z
      have hN := byPlaceVals (byPlaceUpd (o := .dK kvs) nt3 (byPlaceSame sm3 hKL))
      rw [heldNotes_snd] at hN
      have S5 := smUpd (o := .tup (kvs.map (·.2))) nq
      exact k q _ _ (S4.trans S5) upd_same (notesSame S5 hN)
end
end Cn
namespace Cn
open PySem PySem.Spec PyProof.Rows L2 Ck
/-! the hand, turned -/
def Kept (p : Addr) (H H' : Hp) : Prop := ∀ b o, b ≠ p → H b = some o → H' b = some o
theorem kept_same {p : Addr} {H H' : Hp} (h : Same H H') : Kept p H H' := fun b o _ e => h b o e
theorem kept_trans {p : Addr} {H H1 H2 : Hp} (h : Kept p H H1) (k : Kept p H1 H2) : Kept p H H2 := fun b o ne e => k b o ne (h b o ne e)
theorem kept_hand {p : Addr} {H : Hp} {o : HO} : Kept p H (upd H p o) := fun b u ne e => by rw [upd_ne ne]; exact e
theorem kept_over {p D : Addr} {H1 H4 : Hp} {o : HO} (nD : H1 D = none) (k : Kept p H1 H4) : Kept p H1 (upd H4 D o) := fun b u ne e => by
  have nb : b ≠ D := fun z => by rw [z, nD] at e; cases e
  rw [upd_ne nb]
  exact k b u ne e
theorem handIn_upd {H : Hp} {p c : Addr} {cells : List Int} (h : HandIn H p c cells) {i g m t : Int} (hi : 0 ≤ i) : HandIn (upd H p (handL c i g m t)) p c cells :=
  ⟨⟨i, g, m, t, upd_same, hi⟩, by rw [upd_ne h.ne.symm]; exact h.ce, h.ne⟩
theorem handIn_keep {H H' : Hp} {p c : Addr} {cells : List Int} (h : HandIn H p c cells) (k : Same H H') : HandIn H' p c cells := by
  obtain ⟨⟨i, g, m, t, hp, hi⟩, hc, ne⟩ := h
  exact ⟨⟨i, g, m, t, k _ _ hp, hi⟩, k _ _ hc, ne⟩
/-- written at D, which is neither the hand nor its cells -/
theorem handIn_write {H0 H : Hp} {p c D : Addr} {cells cells0 : List Int} {o : HO} (h0 : HandIn H0 p c cells0) (nD : H0 D = none) (h : HandIn H p c cells) : HandIn (upd H D o) p c cells := by
  obtain ⟨⟨i, g, m, t, hp, hi⟩, hc, ne⟩ := h
  have n1 : p ≠ D := fun z => by
    obtain ⟨_, _, _, _, e, _⟩ := h0.ob
    rw [z, nD] at e; cases e
  have n2 : c ≠ D := fun z => by
    have e := h0.ce
    rw [z, nD] at e; cases e
  exact ⟨⟨i, g, m, t, by rw [upd_ne n1]; exact hp, hi⟩, by rw [upd_ne n2]; exact hc, ne⟩
theorem hand_ne {H : Hp} {p c a : Addr} {cells : List Int} (h : HandIn H p c cells) (na : H a = none) : a ≠ p := fun z => by
  obtain ⟨_, _, _, _, e, _⟩ := h.ob
  rw [← z, na] at e; cases e
/-- what is no list is not the hand -/
theorem tup_ne {H : Hp} {p c a : Addr} {cells : List Int} {xs : List V} (h : HandIn H p c cells) (ha : H a = some (.tup xs)) : a ≠ p := fun z => by
  obtain ⟨_, _, _, _, e, _⟩ := h.ob
  rw [← z, ha] at e; cases e
theorem atMem {xs : List V} {d : Int} (h0 : 0 ≤ d) (h1 : d < (xs.length : Int)) : ∃ v, atI xs d = some v ∧ v ∈ xs := by
  obtain ⟨n, rfl⟩ := Int.eq_ofNat_of_zero_le h0
  have hn : n < xs.length := by omega
  exact ⟨xs[n], atI_nat (List.getElem?_eq_getElem hn), List.getElem_mem hn⟩
theorem glCons {R : V → Prop} {x : V} {xs : List V} (h : R x) (t : ∀ v ∈ xs, R v) : ∀ v ∈ x :: xs, R v := fun v hm => by
  rcases List.mem_cons.mp hm with e | hm
  · rw [e]; exact h
  · exact t v hm
theorem glNil {R : V → Prop} : ∀ v ∈ ([] : List V), R v := fun v hm => by cases hm
section
variable {P : Program} {w : World} {K : PySem.W.Frag} {mg : Str → Option Value} {base : Heap} {C : Addr}
theorem nOf (B : Defs K mg C) : NamT mg := B.N
theorem dDraw (B : Defs K mg C) : Def P w K mg base "_law_draw" 1 ["_law_hand_here", "_law_many"] spDraw := def_of B.dr fun f fd F => ok_draw F (nOf B).int (nOf B).is.len
end
end Cn
namespace Cn
open PySem PySem.Spec PyProof.Rows L2 Ck
section
variable {P : Program} {w : World} {K : PySem.W.Frag} {mg : Str → Option Value} {base : Heap} {C : Addr}
/-- a parent that may stand at place n -/
def ParOk (n : Nat) (v : V) : Prop := ∃ q, v = vp q ∧ ∀ m, q = some m → m < n
def spParents : Sp := fun vs H Q _ => ∃ (p c : Addr) (cells : List Int) (n : Nat), vs = [.ref p, vn n] ∧ HandIn H p c cells ∧ 1 ≤ n ∧ n ≤ 60 ∧
  ∀ r ps H', Ps ps → ps.length = n → HandIn H' p c cells → Kept p H H' → TP H' r ps → Q (.ref r) H'
def nParents : List Str := ["_law_hand_here", "_law_places", "_law_found", "_law_place", "_law_some_here"]
theorem scParents : FnScope nParents ["_law_hand_here", "_law_places"] (defScope sParents) := ⟨rfl, rfl, rfl, by decide +kernel, rfl, by decide +kernel, by decide +kernel⟩
theorem psSnoc {ps : List (Option Nat)} {q : Option Nat} (hp : Ps ps) (hq : ∀ m, q = some m → m < ps.length) : Ps (ps ++ [q]) := fun i m h => by
  by_cases c : i < ps.length
  · rw [List.getElem?_append_left c] at h
    exact hp i m h
  · rw [List.getElem?_append_right (by omega)] at h
    have e : i = ps.length := by
      have := (List.getElem?_eq_some_iff.mp h).1
      simp at this
      omega
    subst e
    rw [Nat.sub_self] at h
    exact hq m (Option.some.inj h)
theorem dParents (B : Defs K mg C) : Def P w K mg base "_law_parents" 2 ["_law_hand_here", "_law_places"] spParents := by
  obtain ⟨fD, fdD, GD, gD, kD, bD⟩ := dDraw (P := P) (w := w) (base := base) B
  have N := nOf B
  refine def_of B.pa fun f fd F => ?_
  refine F.ok scParents (fun vs H Q E h => ?_) (fun cdv A outer s H vs Q E hr h => ?_)
  · obtain ⟨p, c, cells, n, rfl, _⟩ := h
    rfl
  · obtain ⟨p, c, cells, n, rfl, hI, h1, h60, k⟩ := h
    refine ⟨_, pss_cons (ps_set (i := 2) scParents.nd rfl (Or.inl rfl) (pe_lst (pa_cons pe_non pa_nil)))
      (pss_cons (ps_for PassesOwn.never rfl (pi_range2 (by rfl) N.range (pa_cons pe_int (pa_cons (pv 1) pa_nil))) (pg_name (i := 3) scParents.nd rfl (Or.inl rfl))
        (pss_cons (ps_set (i := 4) scParents.nd rfl (Or.inl rfl) (pe_lst (pa_cons pe_non (pa_cons (pe_op op_sub (pv 3) pe_int) (pa_cons (pe_op op_sub (pv 3) pe_int) (pa_cons (pe_op op_sub (pv 3) pe_int)
            (pa_cons (pe_call GD hr (by rfl) gD kD bD .nil pass0 (pa_cons (pv 0) (pa_cons (pv 3) pa_nil))) (pa_cons (pe_call GD hr (by rfl) gD kD bD .nil pass0 (pa_cons (pv 0) (pa_cons (pv 3) pa_nil))) pa_nil))))))))
        (pss_one (ps_expr (pe_bm PySem.F.plainAttrs_list PySem.F.slot_list_append PySem.F.type_list_append mt_append (pv 2) (pa_cons (pe_ix ix_list (pv 4) (pe_call GD hr (by rfl) gD kD bD .nil pass0 (pa_cons (pv 0) (pa_cons pe_int pa_nil))) (fun _ _ => rfl)) pa_nil))))))
      (pss_one (ps_ret (pe_callTy call_tuple_of (by rfl) N.is.tup (by decide +kernel) (pa_cons (pv 2) pa_nil))))), ?_⟩
    refine ⟨by show 1 ≤ sizeLine; decide, fun D nD => ?_⟩
    have nDp := hand_ne hI nD
    refine ⟨_, rfl, 1, (n : Int), rfl, ⟨by decide, by decide, by omega, by omega⟩, ?_⟩
    refine for_range (lo := 1) (n := ((n : Int) - 1).toNat) (fun i σ H' => ∃ (ps : List (Option Nat)) (t3 t4 : Option V), σ = [some (.ref p), some (vn n), some (.ref D), t3, t4] ∧ HandIn H' p c cells ∧ Kept p H H' ∧ H' D = some (.lst (ps.map vp)) ∧ ps.length = i + 1 ∧ Ps ps) ?_ ?_ ?_
    · refine ⟨[none], none, none, rfl, handIn_keep hI (smUpd nD), kept_same (smUpd nD), upd_same, rfl, fun i m h => ?_⟩
      cases i with
      | zero => cases h
      | succ i => cases h
    · rintro i σ H1 hi ⟨ps, t3, t4, rfl, hI1, k1, hD1, hl, hp⟩
      have e1 : (1 : Int) + (i : Int) = ((i + 1 : Nat) : Int) := by omega
      rw [e1]
      have e2 : (((i + 1 : Nat) : Int)) - 1 = ((i : Nat) : Int) := by omega
      refine ⟨_, rfl, _, _, rfl, rfl, _, rfl, _, _, rfl, rfl, _, rfl, _, _, rfl, rfl, ?_⟩
      refine ⟨_, rfl, _, rfl, p, c, cells, ((i + 1 : Nat) : Int), rfl, hI1, by omega, by omega, fun d1 a1 a2 a3 a4 d10 d11 a10 => ?_⟩
      refine ⟨_, rfl, _, rfl, p, c, cells, ((i + 1 : Nat) : Int), rfl, handIn_upd hI1 a10, by omega, by omega, fun d2 b1 b2 b3 b4 d20 d21 b10 => ?_⟩
      have hI3 := handIn_upd (i := b1) (g := b2) (m := b3) (t := b4) (handIn_upd (i := a1) (g := a2) (m := a3) (t := a4) hI1 a10) b10
      have k3 : Kept p H1 (upd (upd H1 p (handL c a1 a2 a3 a4)) p (handL c b1 b2 b3 b4)) := kept_trans kept_hand kept_hand
      have hD3 : (upd (upd H1 p (handL c a1 a2 a3 a4)) p (handL c b1 b2 b3 b4)) D = some (.lst (ps.map vp)) := k3 _ _ nDp hD1
      generalize upd (upd H1 p (handL c a1 a2 a3 a4)) p (handL c b1 b2 b3 b4) = H3 at hI3 k3 hD3 ⊢
      refine ⟨by show 6 ≤ sizeLine; decide, fun l nl => ?_⟩
      have S4 := smUpd (o := .lst [.non, .int (((i + 1 : Nat) : Int) - 1), .int (((i + 1 : Nat) : Int) - 1), .int (((i + 1 : Nat) : Int) - 1), .int d1, .int d2]) nl
      have nlp := hand_ne hI3 nl
      have hI4 := handIn_keep hI3 S4
      have hD4 := S4 _ _ hD3
      have hl4 : upd H3 l (.lst [.non, .int (((i + 1 : Nat) : Int) - 1), .int (((i + 1 : Nat) : Int) - 1), .int (((i + 1 : Nat) : Int) - 1), .int d1, .int d2]) l = some (.lst [.non, .int (((i + 1 : Nat) : Int) - 1), .int (((i + 1 : Nat) : Int) - 1), .int (((i + 1 : Nat) : Int) - 1), .int d1, .int d2]) := upd_same
      have k4 := kept_trans k3 (kept_same (p := p) S4)
      have okAll : ∀ v ∈ [V.non, .int (((i + 1 : Nat) : Int) - 1), .int (((i + 1 : Nat) : Int) - 1), .int (((i + 1 : Nat) : Int) - 1), .int d1, .int d2], ParOk (i + 1) v := by
        have a : ParOk (i + 1) (.int (((i + 1 : Nat) : Int) - 1)) := ⟨some i, by rw [e2]; rfl, fun m e => by cases e; omega⟩
        have b : ∀ d : Int, 0 ≤ d → d < ((i + 1 : Nat) : Int) → ParOk (i + 1) (.int d) := fun d h0 h1 => by
          obtain ⟨m, rfl⟩ := Int.eq_ofNat_of_zero_le h0
          exact ⟨some m, rfl, fun m' e => by cases e; omega⟩
        exact glCons ⟨none, rfl, fun m e => by cases e⟩ (glCons a (glCons a (glCons a (glCons (b d1 d10 d11) (glCons (b d2 d20 d21) glNil)))))
      generalize upd H3 l (.lst [.non, .int (((i + 1 : Nat) : Int) - 1), .int (((i + 1 : Nat) : Int) - 1), .int (((i + 1 : Nat) : Int) - 1), .int d1, .int d2]) = H4 at S4 hI4 hD4 hl4 k4 ⊢
      refine ⟨_, rfl, .inl ⟨rfl, _, .inl (.inl hD4)⟩, _, rfl, _, rfl, p, c, cells, 6, rfl, hI4, by decide, by decide, fun d3 c1 c2 c3 c4 d30 d31 c10 => ?_⟩
      have hI5 := handIn_upd (i := c1) (g := c2) (m := c3) (t := c4) hI4 c10
      have hD5 : (upd H4 p (handL c c1 c2 c3 c4)) D = some (.lst (ps.map vp)) := by rw [upd_ne nDp]; exact hD4
      have hl5 := (show upd H4 p (handL c c1 c2 c3 c4) l = H4 l from upd_ne nlp).trans hl4
      have k5 := kept_trans k4 (kept_hand (p := p) (o := handL c c1 c2 c3 c4))
      generalize upd H4 p (handL c c1 c2 c3 c4) = H5 at hI5 hD5 hl5 k5 ⊢
      obtain ⟨v, hv, hm⟩ := atMem (xs := [V.non, .int (((i + 1 : Nat) : Int) - 1), .int (((i + 1 : Nat) : Int) - 1), .int (((i + 1 : Nat) : Int) - 1), .int d1, .int d2]) d30 d31
      obtain ⟨q, rfl, hq⟩ := okAll v hm
      refine ⟨l, _, d3, _, rfl, rfl, .inl (.inl hl5), hv, D, _, _, rfl, rfl, hD5, small1000 (by rw [List.length_map]; omega), ?_⟩
      refine ⟨ps ++ [q], _, _, rfl, handIn_write hI nD hI5, kept_over nD (kept_trans k1 k5), ?_, by rw [List.length_append, hl]; rfl, psSnoc hp (fun m e => by rw [hl]; exact hq m e)⟩
      rw [upd_same, List.map_append]
      rfl
    · rintro σ H1 ⟨ps, t3, t4, rfl, hI1, k1, hD1, hl, hp⟩
      refine ⟨_, rfl, D, _, rfl, .inl ⟨.inl (.inl hD1), fun r nr => ?_⟩⟩
      exact k r ps _ hp (by omega) (handIn_keep hI1 (smUpd nr)) (kept_trans k1 (kept_same (smUpd nr))) upd_same
/-! a drawn lot -/
def spLawLot : Sp := fun vs H Q _ => ∃ (p c : Addr) (cells : List Int) (n sh : Nat), vs = [.ref p, vn n, vn sh] ∧ HandIn H p c cells ∧ n ≤ 60 ∧
  ∀ r ns H', ns.Pairwise (· < ·) → (∀ x ∈ ns, x < n) → HandIn H' p c cells → Kept p H H' → TN H' r ns → Q (.ref r) H'
def nLawLot : List Str := ["_law_hand_here", "_law_places", "_law_share", "_law_place"]
theorem scLawLot : FnScope nLawLot ["_law_hand_here", "_law_places", "_law_share"] (defScope sLawLot) := ⟨rfl, rfl, rfl, by decide +kernel, rfl, by decide +kernel, by decide +kernel⟩
theorem dLawLot (B : Defs K mg C) : Def P w K mg base "_law_lot" 2 ["_law_hand_here", "_law_places", "_law_share"] spLawLot := by
  obtain ⟨fD, fdD, GD, gD, kD, bD⟩ := dDraw (P := P) (w := w) (base := base) B
  have N := nOf B
  refine def_of B.lo fun f fd F => ?_
  refine F.ok scLawLot (fun vs H Q E h => ?_) (fun cdv A outer s H vs Q E hr h => ?_)
  · obtain ⟨p, c, cells, n, sh, rfl, _⟩ := h
    rfl
  · obtain ⟨p, c, cells, n, sh, rfl, hI, h60, k⟩ := h
    refine ⟨_, pss_one (ps_ret (pe_callTy call_tuple_of (by rfl) N.is.tup (by decide +kernel) (pa_cons (pe_lc (own := [("_law_place", 3)]) (g := gName 3) rfl scLawLot.nd (pi_range1 (by rfl) N.range (pa_cons (pv 1) pa_nil))
        (blkOk_by (N := nLawLot) (sc := defScope sLawLot) (by decide +kernel)) (fun _ _ _ _ _ => pg_name (i := 3) scLawLot.nd rfl (Or.inl rfl)) (fun _ _ _ _ _ => pts_one (pt_cmpR op_lt (pe_call GD hr (by rfl) gD kD bD .nil pass0 (pa_cons (pv 0) (pa_cons pe_int pa_nil))) (pv 2) (nomark _))) (fun _ _ _ _ _ => pv 3)) pa_nil))), ?_⟩
    refine ⟨_, rfl, (n : Int), rfl, by omega, by omega, fun D nD => ?_⟩
    rw [Int.toNat_natCast]
    have nDp := hand_ne hI nD
    refine lc_range (lo := 0) (n := n) (fun i H' => HandIn H' p c cells ∧ Kept p H H' ∧ ∃ ns : List Nat, H' D = some (.lst (ns.map vn)) ∧ ns.length ≤ i ∧ ns.Pairwise (· < ·) ∧ ∀ x ∈ ns, x < i) ⟨handIn_keep hI (smUpd nD), kept_same (smUpd nD), [], upd_same, Nat.zero_le _, .nil, fun x hx => by cases hx⟩ ?_ ?_
    · rintro i H1 hi ⟨hI1, k1, ns, hD, hl, hp, hx⟩
      refine ⟨rfl, _, rfl, p, c, cells, 6, rfl, hI1, by decide, by decide, fun d a1 a2 a3 a4 d0 d1 a10 => ?_⟩
      have hI2 := handIn_upd (i := a1) (g := a2) (m := a3) (t := a4) hI1 a10
      have k2 := kept_trans k1 (kept_hand (p := p) (o := handL c a1 a2 a3 a4))
      have hD2 : (upd H1 p (handL c a1 a2 a3 a4)) D = some (.lst (ns.map vn)) := by rw [upd_ne nDp]; exact hD
      generalize upd H1 p (handL c a1 a2 a3 a4) = H2 at hI2 k2 hD2 ⊢
      refine ⟨_, rfl, _, _, rfl, rfl, _, rfl, ?_⟩
      refine ite2 (fun _ => ?_) (fun _ => ⟨hI2, k2, ns, hD2, by omega, hp, fun x h => Nat.lt_succ_of_lt (hx x h)⟩)
      refine ⟨_, rfl, _, hD2, small1000 (by rw [List.length_map]; omega), handIn_write hI nD hI2, kept_over nD k2, ns ++ [i], ?_, by rw [List.length_append]; show ns.length + 1 ≤ i + 1; omega, ?_, fun x h => ?_⟩
      · rw [upd_same, List.map_append]
        show some (HO.lst (ns.map vn ++ [V.int (0 + (i : Int))])) = some (HO.lst (ns.map vn ++ [V.int (i : Int)]))
        rw [Int.zero_add]
      · rw [List.pairwise_append]
        exact ⟨hp, List.pairwise_singleton _ _, fun x h y hy => by rw [List.mem_singleton.mp hy]; exact hx x h⟩
      · rcases List.mem_append.mp h with h | h
        · exact Nat.lt_succ_of_lt (hx x h)
        · rw [List.mem_singleton.mp h]; exact Nat.lt_succ_self _
    · rintro H1 ⟨hI1, k1, ns, hD, hl, hp, hx⟩
      refine ⟨D, _, rfl, .inl ⟨.inl (.inl hD), fun r nr => ?_⟩⟩
      exact k r ns _ hp hx (handIn_keep hI1 (smUpd nr)) (kept_trans k1 (kept_same (smUpd nr))) upd_same
end
end Cn

namespace Cn
open PySem PySem.Spec PyProof.Rows L2 Ck
section
variable {P : Program} {w : World} {K : PySem.W.Frag} {mg : Str → Option Value} {base : Heap} {C : Addr}
/-! drawn levels -/
def LvTo (ps : List (Option Nat)) (lv : List Nat) : Prop := ∀ (j l : Nat) (q : Option Nat), lv[j]? = some l → ps[j]? = some q → 1 ≤ l ∧ l ≤ mostLv lv q
theorem lvTo_le {ps : List (Option Nat)} {lv : List Nat} (hp : Ps ps) (hv : LvTo ps lv) (hl : lv.length ≤ ps.length) : ∀ i l, lv[i]? = some l → l ≤ i + 1 := by
  intro i
  induction i using Nat.strongRecOn with
  | ind i ih =>
    intro l hl2
    have hi : i < lv.length := (List.getElem?_eq_some_iff.mp hl2).1
    rcases opt_cases (ps := ps) (i := i) (by omega) with h | ⟨p, h⟩
    · have h2 := hv i l _ hl2 h
      have e : mostLv lv none = 1 := rfl
      omega
    · have h2 := hv i l _ hl2 h
      have e : mostLv lv (some p) = lv.getD p 0 + 1 := rfl
      have hpi := hp i p h
      have := ih p hpi _ (getD_at (Nat.lt_trans hpi hi))
      omega
theorem mostSnoc {lv : List Nat} {l : Nat} {q : Option Nat} (hq : ∀ m, q = some m → m < lv.length) : mostLv (lv ++ [l]) q = mostLv lv q := by
  cases q with
  | none => rfl
  | some m =>
    show (lv ++ [l]).getD m 0 + 1 = lv.getD m 0 + 1
    rw [List.getD_eq_getElem?_getD, List.getD_eq_getElem?_getD, List.getElem?_append_left (hq m rfl)]
theorem lvSnoc {ps : List (Option Nat)} {lv : List Nat} {l : Nat} {q : Option Nat} (hp : Ps ps) (hv : LvTo ps lv) (hq : ps[lv.length]? = some q) (h1 : 1 ≤ l) (h2 : l ≤ mostLv lv q) : LvTo ps (lv ++ [l]) := fun j m r hm hr => by
  by_cases c : j < lv.length
  · rw [List.getElem?_append_left c] at hm
    rw [mostSnoc fun x e => Nat.lt_trans (hp j x (by rw [hr, e])) c]
    exact hv j m r hm hr
  · rw [List.getElem?_append_right (by omega)] at hm
    have e : j = lv.length := by
      have := (List.getElem?_eq_some_iff.mp hm).1
      simp at this
      omega
    subst e
    rw [Nat.sub_self] at hm
    cases (Option.some.inj hm)
    rw [hq] at hr
    cases (Option.some.inj hr)
    rw [mostSnoc fun x e => hp lv.length x (by rw [hq, e])]
    exact ⟨h1, h2⟩
def spLevels : Sp := fun vs H Q _ => ∃ (p c b : Addr) (cells : List Int) (ps : List (Option Nat)), vs = [.ref p, .ref b] ∧ HandIn H p c cells ∧ TP H b ps ∧ Ps ps ∧ ps.length ≤ 60 ∧
  ∀ r lv H', Lv ps lv → HandIn H' p c cells → Kept p H H' → TN H' r lv → Q (.ref r) H'
def nLevels : List Str := ["_law_hand_here", "_law_parents_here", "_law_found", "_law_parent", "_law_most"]
theorem scLevels : FnScope nLevels ["_law_hand_here", "_law_parents_here"] (defScope sLevels) := ⟨rfl, rfl, rfl, by decide +kernel, rfl, by decide +kernel, by decide +kernel⟩
theorem dLevels (B : Defs K mg C) : Def P w K mg base "_law_levels" 2 ["_law_hand_here", "_law_parents_here"] spLevels := by
  obtain ⟨fD, fdD, GD, gD, kD, bD⟩ := dDraw (P := P) (w := w) (base := base) B
  have N := nOf B
  refine def_of B.le fun f fd F => ?_
  refine F.ok scLevels (fun vs H Q E h => ?_) (fun cdv A outer s H vs Q E hr h => ?_)
  · obtain ⟨p, c, b, cells, ps, rfl, _⟩ := h
    rfl
  · obtain ⟨p, c, b, cells, ps, rfl, hI, hb, hp, h60, k⟩ := h
    refine ⟨_, pss_cons (ps_set (i := 2) scLevels.nd rfl (Or.inl rfl) (pe_tup pa_nil))
      (pss_cons (ps_for PassesOwn.never rfl (pi_tup (pv 1)) (pg_name (i := 3) scLevels.nd rfl (Or.inl rfl))
        (pss_cons (ps_set (i := 4) scLevels.nd rfl (Or.inl rfl) (pe_ifExp (pt_cmpR op_isN (pv 3) pe_non (nomark _)) pe_int (pe_op op_add (pe_ix ix_tup (pv 2) (pv 3) (fun _ _ => rfl)) pe_int)))
        (pss_one (ps_set (i := 2) scLevels.nd rfl (Or.inl rfl) (pe_op op_catA (pv 2) (pe_tup (pa_cons (pe_op op_add pe_int (pe_call GD hr (by rfl) gD kD bD .nil pass0 (pa_cons (pv 0) (pa_cons (pv 4) pa_nil)))) pa_nil)))))))
      (pss_one (ps_ret (pv 2)))), ?_⟩
    refine ⟨by show 0 ≤ sizeLine; decide, fun t nt => ?_⟩
    have S1 := smUpd (o := .tup []) nt
    refine ⟨_, rfl, b, rfl, ⟨_, tpL (S1 _ _ hb)⟩, ?_⟩
    have nbp := tup_ne hI hb
    refine for_it (walk_tup (xs := ps.map vp)) (fun i σ H' => HandIn H' p c cells ∧ Kept p H H' ∧ ∃ (t : Addr) (lv : List Nat) (t3 t4 : Option V), σ = [some (.ref p), some (.ref b), some (.ref t), t3, t4] ∧ TN H' t lv ∧ lv.length = i ∧ LvTo ps lv) ⟨handIn_keep hI S1, kept_same S1, t, [], none, none, rfl, upd_same, rfl, fun j l q h => by rw [List.getElem?_nil] at h; cases h⟩ (fun i σ H' _ z => tpL (z.2.1 _ _ nbp hb)) ?_ ?_
    · rintro i x σ H1 H2 hi ⟨hI1, k1, t, lv, t3, t4, rfl, ht, hl, hv⟩ ⟨rfl, hx⟩
      obtain ⟨q, hq, rfl⟩ := vp_get hx
      rw [List.length_map] at hi
      have hq2 : ps[lv.length]? = some q := by rw [hl]; exact hq
      -- the draw, then the tuple
      have most : ∀ m : Nat, 1 ≤ m → m ≤ 61 → m = mostLv lv q → ∀ D : Ends, (∀ σ H', (HandIn H' p c cells ∧ Kept p H H' ∧ ∃ (t : Addr) (lv : List Nat) (t3 t4 : Option V), σ = [some (.ref p), some (.ref b), some (.ref t), t3, t4] ∧ TN H' t lv ∧ lv.length = i + 1 ∧ LvTo ps lv) → D.nx σ H') →
          tAsg (tOp (rCatA K) (tVar 2) (tTup (tCons (tOp (rI0 fun i j => V.int (i + j)) (tC (.int 1)) (tCall spDraw [] (fun _ _ _ => False) (tCons (tVar 0) (tCons (tVar 4) tNil)))) tNil))) (gName 2) D [some (.ref p), some (.ref b), some (.ref t), some (vp q), some (vn m)] H2 := by
        intro m m1 m61 me D kD
        refine ⟨_, rfl, _, rfl, _, rfl, p, c, cells, (m : Int), rfl, hI1, by omega, by omega, fun d a1 a2 a3 a4 d0 d1 a10 => ?_⟩
        obtain ⟨dn, rfl⟩ := Int.eq_ofNat_of_zero_le d0
        have hI3 := handIn_upd (i := a1) (g := a2) (m := a3) (t := a4) hI1 a10
        have k3 := kept_trans k1 (kept_hand (p := p) (o := handL c a1 a2 a3 a4))
        have ht3 : TN (upd H2 p (handL c a1 a2 a3 a4)) t lv := kept_hand (p := p) _ _ (tup_ne hI1 ht) ht
        generalize upd H2 p (handL c a1 a2 a3 a4) = H3 at hI3 k3 ht3 ⊢
        refine ⟨_, _, rfl, rfl, by show 1 ≤ sizeLine; decide, fun u nu => ?_⟩
        have S4 := smUpd (o := .tup [.int (1 + (dn : Int))]) nu
        refine catA (S4 _ _ ht3) upd_same (by rw [List.length_map, hl]; show i + 1 ≤ 1000; omega) fun e H5 s5 he => ?_
        refine kD _ _ ⟨handIn_keep (handIn_keep hI3 S4) s5, kept_trans k3 (kept_same (S4.trans s5)), e, lv ++ [1 + dn], _, _, rfl, tnAt he ?_, by rw [List.length_append, hl]; rfl, lvSnoc hp hv hq2 (by omega) (by omega)⟩
        rw [List.map_append]
        show _ ++ [V.int (1 + (dn : Int))] = _ ++ [V.int (((1 + dn : Nat)) : Int)]
        rw [show (((1 + dn : Nat)) : Int) = 1 + (dn : Int) from by omega]
      refine ⟨_, rfl, rfl, _, rfl, ?_⟩
      cases q with
      | none =>
        refine ifT (by decide) ?_
        exact most 1 (Nat.le_refl _) (by omega) rfl _ fun σ H' z => z
      | some m =>
        refine ifF (by rw [vp_ne]; decide) ?_
        have hm : m < lv.length := by rw [hl]; exact hp i m hq
        have hle := lvTo_le hp hv (by omega) m _ (getD_at hm)
        refine ⟨_, rfl, _, rfl, t, _, (m : Int), _, rfl, rfl, tnL ht, vn_ix (getD_at hm), _, _, rfl, rfl, ?_⟩
        exact most (lv.getD m 0 + 1) (by omega) (by omega) rfl _ fun σ H' z => z
    · rintro σ H1 ⟨hI1, k1, t, lv, t3, t4, rfl, ht, hl, hv⟩
      rw [List.length_map] at hl
      exact ⟨_, rfl, k t lv H1 ⟨hl, hv⟩ hI1 k1 ht⟩
end
end Cn
namespace Cn
open PySem PySem.Spec PyProof.Rows L2 Ck
def TolR (H : Hp) (r : Addr) (f : Fo) : Prop := ∃ ap ab aa, H r = some (.tup [.ref ap, .ref ab, .ref aa]) ∧ TP H ap f.ps ∧ TN H ab f.be ∧ TN H aa f.as
theorem tolSame {H H' : Hp} {r : Addr} {f : Fo} (s : Same H H') (h : TolR H r f) : TolR H' r f := by
  obtain ⟨ap, ab, aa, h1, h2, h3, h4⟩ := h
  exact ⟨ap, ab, aa, s _ _ h1, s _ _ h2, s _ _ h3, s _ _ h4⟩
theorem tolKept {H H' : Hp} {p c r : Addr} {cells : List Int} {f : Fo} (hI : HandIn H p c cells) (k : Kept p H H') (h : TolR H r f) : TolR H' r f := by
  obtain ⟨ap, ab, aa, h1, h2, h3, h4⟩ := h
  exact ⟨ap, ab, aa, k _ _ (tup_ne hI h1) h1, k _ _ (tup_ne hI h2) h2, k _ _ (tup_ne hI h3) h3, k _ _ (tup_ne hI h4) h4⟩
section
variable {P : Program} {w : World} {K : PySem.W.Frag} {mg : Str → Option Value} {base : Heap} {C : Addr}
def spTold : Sp := fun vs H Q _ => ∃ (p c : Addr) (cells : List Int) (n : Nat), vs = [.ref p, vn n] ∧ HandIn H p c cells ∧ 1 ≤ n ∧ n ≤ 60 ∧
  ∀ r f H', FoOk f → f.ps.length ≤ n → HandIn H' p c cells → Kept p H H' → TolR H' r f → Q (.ref r) H'
def nTold : List Str := ["_law_hand_here", "_law_most", "_law_many", "_law_parents_here", "_law_shares"]
theorem scTold : FnScope nTold ["_law_hand_here", "_law_most"] (defScope sTold) := ⟨rfl, rfl, rfl, by decide +kernel, rfl, by decide +kernel, by decide +kernel⟩
def isSh (v : V) : Prop := ∃ s : Nat, v = vn s
theorem dTold (B : Defs K mg C) : Def P w K mg base "_law_told" 3 ["_law_hand_here", "_law_most"] spTold := by
  obtain ⟨fD, fdD, GD, gD, kD, bD⟩ := dDraw (P := P) (w := w) (base := base) B
  obtain ⟨fP, fdP, GP, gP, kP, bP⟩ := dParents (P := P) (w := w) (base := base) B
  obtain ⟨fL, fdL, GL, gL, kL, bL⟩ := dLawLot (P := P) (w := w) (base := base) B
  have N := nOf B
  refine def_of B.to fun f fd F => ?_
  refine F.ok scTold (fun vs H Q E h => ?_) (fun cdv A outer s H vs Q E hr h => ?_)
  · obtain ⟨p, c, cells, n, rfl, _⟩ := h
    rfl
  · obtain ⟨p, c, cells, n, rfl, hI, h1, h60, k⟩ := h
    have hr1 : Room 1 (A.deeper (envOfC "_law_told" (defScope sTold) s.heap.objs.size f cdv)) := Room.mono hr (by decide)
    refine ⟨_, pss_cons (ps_set (i := 2) scTold.nd rfl (Or.inl rfl) (pe_op op_add pe_int (pe_call GD hr1 (by rfl) gD kD bD .nil pass0 (pa_cons (pv 0) (pa_cons (pv 1) pa_nil)))))
      (pss_cons (ps_set (i := 3) scTold.nd rfl (Or.inl rfl) (pe_call GP hr (by rfl) gP kP bP .nil pass0 (pa_cons (pv 0) (pa_cons (pv 2) pa_nil))))
      (pss_cons (ps_set (i := 4) scTold.nd rfl (Or.inl rfl) (pe_tup (pa_cons (pe_ix ix_list (pe_lst (pa_cons pe_int (pa_cons pe_int (pa_cons pe_int (pa_cons pe_int pa_nil))))) (pe_call GD hr1 (by rfl) gD kD bD .nil pass0 (pa_cons (pv 0) (pa_cons pe_int pa_nil))) (fun _ _ => rfl))
        (pa_cons (pe_ix ix_list (pe_lst (pa_cons pe_int (pa_cons pe_int (pa_cons pe_int (pa_cons pe_int pa_nil))))) (pe_call GD hr1 (by rfl) gD kD bD .nil pass0 (pa_cons (pv 0) (pa_cons pe_int pa_nil))) (fun _ _ => rfl)) pa_nil))))
      (pss_one (ps_ret (pe_tup (pa_cons (pv 3) (pa_cons (pe_call GL hr (by rfl) gL kL bL .nil pass0 (pa_cons (pv 0) (pa_cons (pv 2) (pa_cons (pe_ix ix_tup (pv 4) pe_int (fun _ _ => rfl)) pa_nil))))
        (pa_cons (pe_call GL hr (by rfl) gL kL bL .nil pass0 (pa_cons (pv 0) (pa_cons (pv 2) (pa_cons (pe_ix ix_tup (pv 4) pe_int (fun _ _ => rfl)) pa_nil)))) pa_nil)))))))), ?_⟩
    refine ⟨_, rfl, _, rfl, p, c, cells, (n : Int), rfl, hI, by omega, by omega, fun d a1 a2 a3 a4 d0 d1 a10 => ?_⟩
    obtain ⟨m, rfl⟩ := Int.eq_ofNat_of_zero_le d0
    have hI1 := handIn_upd (i := a1) (g := a2) (m := a3) (t := a4) hI a10
    have k1 : Kept p H (upd H p (handL c a1 a2 a3 a4)) := kept_hand
    generalize upd H p (handL c a1 a2 a3 a4) = H1 at hI1 k1 ⊢
    have em : (1 : Int) + (m : Int) = ((m + 1 : Nat) : Int) := by omega
    have emV : V.int (1 + (m : Int)) = vn (m + 1) := congrArg V.int em
    refine ⟨_, _, rfl, rfl, _, rfl, _, rfl, p, c, cells, m + 1, congrArg (fun z => [V.ref p, z]) emV, hI1, by omega, by omega, fun r ps H2 hp hpl hI2 k2 hr2 => ?_⟩
    -- shares
    have share : ∀ {H : Hp}, HandIn H p c cells → ∀ (Q : VK), (∀ (s : Nat) H', HandIn H' p c cells → Kept p H H' → Q (vn s) H') →
        tOp (rIxL K) (tLst (tCons (tC (.int 6)) (tCons (tC (.int 6)) (tCons (tC (.int 4)) (tCons (tC (.int 3)) tNil))))) (tCall spDraw [] (fun _ _ _ => False) (tCons (tVar 0) (tCons (tC (.int 4)) tNil))) [some (.ref p), some (vn n), some (.int (1 + (m : Int))), some (.ref r), none] H Q := by
      intro H hI Q k
      refine ⟨by show 4 ≤ sizeLine; decide, fun l nl => ?_⟩
      have S := smUpd (o := .lst [.int 6, .int 6, .int 4, .int 3]) nl
      have nlp := hand_ne hI nl
      have hI' := handIn_keep hI S
      have hl : upd H l (.lst [.int 6, .int 6, .int 4, .int 3]) l = some (.lst [.int 6, .int 6, .int 4, .int 3]) := upd_same
      generalize upd H l (.lst [.int 6, .int 6, .int 4, .int 3]) = H' at S hI' hl ⊢
      refine ⟨_, rfl, p, c, cells, 4, rfl, hI', by decide, by decide, fun e b1 b2 b3 b4 e0 e1 b10 => ?_⟩
      obtain ⟨v, hv, hm⟩ := atMem (xs := [.int 6, .int 6, .int 4, .int 3]) e0 e1
      have hl2 : (upd H' p (handL c b1 b2 b3 b4)) l = some (.lst [.int 6, .int 6, .int 4, .int 3]) := by rw [upd_ne nlp]; exact hl
      have sv : ∃ s : Nat, v = vn s := by
        have : ∀ v ∈ [V.int 6, .int 6, .int 4, .int 3], ∃ s : Nat, v = vn s := glCons ⟨6, rfl⟩ (glCons ⟨6, rfl⟩ (glCons ⟨4, rfl⟩ (glCons ⟨3, rfl⟩ glNil)))
        exact this v hm
      obtain ⟨s, rfl⟩ := sv
      exact ⟨l, _, e, _, rfl, rfl, .inl (.inl hl2), hv, k s _ (handIn_upd hI' b10) (kept_trans (kept_same S) kept_hand)⟩
    refine share hI2 _ fun sh1 H3 hI3 k3 => ?_
    refine share hI3 _ fun sh2 H4 hI4 k4 => ?_
    refine ⟨by show 2 ≤ sizeLine; decide, fun t nt => ?_⟩
    have S5 := smUpd (o := .tup [vn sh1, vn sh2]) nt
    have ht5 : upd H4 t (.tup [vn sh1, vn sh2]) t = some (.tup [vn sh1, vn sh2]) := upd_same
    have hI5 := handIn_keep hI4 S5
    have k5 := kept_trans k4 (kept_same (p := p) S5)
    generalize upd H4 t (.tup [vn sh1, vn sh2]) = H5 at ht5 hI5 k5 ⊢
    have hp5 := kept_trans k3 k5 _ _ (tup_ne hI2 hr2) hr2
    refine ⟨_, rfl, _, rfl, _, rfl, _, rfl, t, _, (0 : Int), _, rfl, rfl, .inl (.inl ht5), rfl, p, c, cells, m + 1, sh1, congrArg (fun z => [V.ref p, z, vn sh1]) emV, hI5, by omega, fun q1 be H6 hb1 hb2 hI6 k6 hq1 => ?_⟩
    have ht6 := k6 _ _ (tup_ne hI5 ht5) ht5
    refine ⟨_, rfl, _, rfl, _, rfl, t, _, (1 : Int), _, rfl, rfl, .inl (.inl ht6), rfl, p, c, cells, m + 1, sh2, congrArg (fun z => [V.ref p, z, vn sh2]) emV, hI6, by omega, fun q2 as H7 ha1 ha2 hI7 k7 hq2 => ?_⟩
    refine ⟨by show 3 ≤ sizeLine; decide, fun u nu => ?_⟩
    have S8 := smUpd (o := .tup [.ref r, .ref q1, .ref q2]) nu
    have kk := kept_trans k6 (kept_trans k7 (kept_same (p := p) S8))
    have hp8 := kk _ _ (tup_ne hI5 hp5) hp5
    have hq8 := kept_trans k7 (kept_same (p := p) S8) _ _ (tup_ne hI6 hq1) hq1
    exact k u ⟨ps, be, as⟩ _ ⟨hp, by show 1 ≤ ps.length; omega, by show ps.length ≤ 60; omega, hb1, by rw [hpl]; exact hb2, ha1, by rw [hpl]; exact ha2⟩ (by show ps.length ≤ n; omega) (handIn_keep hI7 S8)
      (kept_trans k1 (kept_trans k2 (kept_trans k3 (kept_trans k5 kk)))) ⟨r, q1, q2, upd_same, hp8, hq8, S8 _ _ hq2⟩
/-! the forest made -/
def spMade (C : Addr) : Sp := fun vs H Q _ => ∃ (r : Addr) (f : Fo), vs = [.ref r] ∧ TolR H r f ∧ FoOk f ∧ ∀ a H', Same H H' → FoAt C H' a f → Q (.ref a) H'
theorem scMade : FnScope ["_law_told_here"] ["_law_told_here"] (defScope sMade) := ⟨rfl, rfl, rfl, by decide +kernel, rfl, by decide +kernel, by decide +kernel⟩
theorem dMade (B : Defs K mg C) : Def P w K mg base "_law_made" 6 ["_law_told_here"] (spMade C) := by
  obtain ⟨fN, fdN, FN, MN, bN⟩ := B.ini
  obtain ⟨tm, mM⟩ := B.mM
  obtain ⟨fI, fdI, DI⟩ := B.I
  obtain ⟨fL, fdL, DL⟩ := B.L
  obtain ⟨fB, fdB, DB⟩ := B.B
  obtain ⟨fO, fdO, DO⟩ := B.O
  have GN : FnOk P w K mg base CX0 4 fN fdN ["self", "parents", "bearing", "asking"] (spInit C) := ok_init FN B.N B.T mM DI DL DB DO
  refine def_of B.ma fun f fd F => ?_
  refine F.ok scMade (fun vs H Q E h => ?_) (fun cdv A outer s H vs Q E hr h => ?_)
  · obtain ⟨r, fo, rfl, _⟩ := h
    rfl
  · obtain ⟨r, fo, rfl, ⟨ap, ab, aa, h0, h1, h2, h3⟩, ok, k⟩ := h
    refine ⟨_, pss_one (ps_ret (pe_make MN GN hr (by rfl) B.T.mgC bN .nil pass0 (pa_cons (pe_ix ix_tup (pv 0) pe_int (fun _ _ => rfl)) (pa_cons (pe_ix ix_tup (pv 0) pe_int (fun _ _ => rfl)) (pa_cons (pe_ix ix_tup (pv 0) pe_int (fun _ _ => rfl)) pa_nil))))), ?_⟩
    refine ⟨_, rfl, r, _, (0 : Int), _, rfl, rfl, .inl (.inl h0), rfl, _, rfl, r, _, (1 : Int), _, rfl, rfl, .inl (.inl h0), rfl, _, rfl, r, _, (2 : Int), _, rfl, rfl, .inl (.inl h0), rfl, fun x dx nx ndx ne => ?_⟩
    have S1 := smUpd (o := .own x) ndx
    have nx1 : (upd H dx (.own x)) x = none := by rw [upd_ne (Ne.symm ne)]; exact nx
    have S2 := S1.trans (smUpd (o := .ins C dx []) nx1)
    refine ⟨x, dx, ap, ab, aa, fo, rfl, upd_same, S2 _ _ h1, S2 _ _ h2, S2 _ _ h3, ok, fun H' hF kp => ⟨rfl, k x H' (fun b o e => kp b o (fun z => by rw [z, nx] at e; cases e) (S2 _ _ e)) hF⟩⟩
end
end Cn
namespace Cn
open PySem PySem.Spec PyProof.Rows L2 Ck
section
variable {P : Program} {w : World} {K : PySem.W.Frag} {mg : Str → Option Value} {base : Heap} {C : Addr}
/-! the law's own road -/
def spRoad : Sp := fun vs H Q _ => ∃ (b : Addr) (ps : List (Option Nat)) (i : Nat), vs = [.ref b, vn i] ∧ TP H b ps ∧ Ps ps ∧ ps.length ≤ 60 ∧ i < ps.length ∧ ∀ r H', Same H H' → TN H' r (road ps i) → Q (.ref r) H'
def nRoad : List Str := ["_law_parents_here", "_law_place", "_law_found"]
theorem scRoad : FnScope nRoad ["_law_parents_here", "_law_place"] (defScope sRoad) := ⟨rfl, rfl, rfl, by decide +kernel, rfl, by decide +kernel, by decide +kernel⟩
def measR : L2.St → Hp → Nat := fun σ H => match σ[2]? with
  | some (some (V.ref D)) => (match H D with
    | some (.lst (V.int n :: _)) => n.toNat
    | _ => 0)
  | _ => 0
theorem dRoad (B : Defs K mg C) : Def P w K mg base "_law_road" 1 ["_law_parents_here", "_law_place"] spRoad := by
  have N := nOf B
  refine def_of B.ro fun f fd F => ?_
  refine F.ok scRoad (fun vs H Q E h => ?_) (fun cdv A outer s H vs Q E hr h => ?_)
  · obtain ⟨b, ps, i, rfl, _⟩ := h
    rfl
  · obtain ⟨b, ps, i, rfl, hb, hp, h60, hi, k⟩ := h
    refine ⟨_, pss_cons (ps_set (i := 2) scRoad.nd rfl (Or.inl rfl) (pe_lst (pa_cons (pv 1) pa_nil)))
      (pss_cons (ps_while PassesOwn.never (pt_cmpR op_notN (pe_ix ix_tup (pv 0) (pe_ix ix_list (pv 2) pe_int (fun _ _ => rfl)) (fun _ _ => rfl)) pe_non (nomark _))
        (pss_one (ps_set (i := 2) scRoad.nd rfl (Or.inl rfl) (pe_op op_cat (pe_lst (pa_cons (pe_ix ix_tup (pv 0) (pe_ix ix_list (pv 2) pe_int (fun _ _ => rfl)) (fun _ _ => rfl)) pa_nil)) (pv 2)))))
      (pss_one (ps_ret (pe_callTy call_tuple_of (by rfl) N.is.tup (by decide +kernel) (pa_cons (pv 2) pa_nil))))), ?_⟩
    refine ⟨_, rfl, by show 1 ≤ sizeLine; decide, fun D nD => ?_⟩
    refine while_by (fun σ H' => ∃ (D : Addr) (x : Nat) (rest : List Nat), σ = [some (.ref b), some (vn i), some (.ref D)] ∧ Same H H' ∧ H' D = some (.lst ((x :: rest).map vn)) ∧ x < ps.length ∧ road ps i = road ps x ++ rest) measR ⟨D, i, [], rfl, smUpd nD, upd_same, hi, (List.append_nil _).symm⟩ ?_ ?_
    · rintro σ H1 ⟨D, x, rest, rfl, sm, hD, hx, hr1⟩
      have hb1 := sm _ _ hb
      obtain ⟨q, hq⟩ := ps_at hx
      refine ⟨_, rfl, _, rfl, D, _, (0 : Int), _, rfl, rfl, .inl (.inl hD), vn_ix (i := 0) (ns := x :: rest) rfl, b, _, (x : Int), _, rfl, rfl, tpL hb1, vp_ix hq, rfl, _, rfl, ?_⟩
      cases q with
      | none =>
        refine ifF (by decide) ?_
        refine ⟨_, rfl, D, _, rfl, .inl ⟨.inl (.inl hD), fun r nr => ?_⟩⟩
        refine k r _ (sm.trans (smUpd nr)) ?_
        rw [hr1, road_none hq]
        exact upd_same
      | some p =>
        refine ifT (by rw [vp_ne]; rfl) ?_
        have hpx := hp x p hq
        refine ⟨_, rfl, _, rfl, D, _, (0 : Int), _, rfl, rfl, .inl (.inl hD), vn_ix (i := 0) (ns := x :: rest) rfl, b, _, (x : Int), _, rfl, rfl, tpL hb1, vp_ix hq, by show 1 ≤ sizeLine; decide, fun l nl => ?_⟩
        have S2 := smUpd (o := .lst [vp (some p)]) nl
        have hl2 : upd H1 l (.lst [vp (some p)]) l = some (.lst [vp (some p)]) := upd_same
        generalize upd H1 l (.lst [vp (some p)]) = H2 at S2 hl2 ⊢
        have hlen := road_len hp i hi
        have hxl := List.length_pos_iff.mpr (road_ne hp hx)
        rw [hr1, List.length_append] at hlen
        refine ⟨_, rfl, l, D, _, _, rfl, rfl, hl2, S2 _ _ hD, Nat.le_of_lt (small1000 (by rw [List.length_map]; show 1 + (rest.length + 1) ≤ 1000; omega)), fun e ne => ?_⟩
        refine ⟨⟨e, p, x :: rest, rfl, sm.trans (S2.trans (smUpd ne)), upd_same, Nat.lt_trans hpx hx, ?_⟩, ?_⟩
        · rw [hr1, road_some hp hq, List.append_assoc]; rfl
        · have m1 : measR [some (.ref b), some (vn i), some (.ref D)] H1 = x := by
            show (match H1 D with | some (.lst (V.int n :: _)) => n.toNat | _ => 0) = x
            rw [hD]
            exact Int.toNat_natCast x
          have m2 : measR [some (.ref b), some (vn i), some (.ref e)] (upd H2 e (.lst ([vp (some p)] ++ (x :: rest).map vn))) = p := by
            show (match upd H2 e (.lst ([vp (some p)] ++ (x :: rest).map vn)) e with | some (.lst (V.int n :: _)) => n.toNat | _ => 0) = p
            rw [upd_same]
            exact Int.toNat_natCast p
          show measR [some (.ref b), some (vn i), some (.ref e)] (upd H2 e (.lst ([vp (some p)] ++ (x :: rest).map vn))) < measR [some (.ref b), some (vn i), some (.ref D)] H1
          rw [m1, m2]
          exact hpx
    · rintro σ H' Q1 Q2 hq ⟨v, hv, u, hu, l, ys, j, z, e1, e2, e3, e4, p, xs, i, y, f1, f2, f3, f4, e5, kk, hk, qq⟩
      exact ⟨v, hv, u, hu, l, ys, j, z, e1, e2, e3, e4, p, xs, i, y, f1, f2, f3, f4, e5, kk, hk, hq _ _ qq⟩
end
end Cn

namespace Cn
open PySem PySem.Spec PyProof.Rows L2 Ck
section
variable {P : Program} {w : World} {K : PySem.W.Frag} {mg : Str → Option Value} {base : Heap} {C : Addr}
/-! the law's own stacks -/
def spLStacks : Sp := fun vs H Q _ => ∃ (b l : Addr) (ps : List (Option Nat)) (lv : List Nat), vs = [.ref b, .ref l] ∧ TP H b ps ∧ TN H l lv ∧ Ps ps ∧ ps.length ≤ 60 ∧ Lv ps lv ∧
  ∀ r us H', Same H H' → H' r = some (.lst us) → Rows H' (stk ps lv) ps.length us → Q (.ref r) H'
def nLStacks : List Str := ["_law_parents_here", "_law_levels_here", "_law_found", "_law_place", "_law_parent", "_law_ahead"]
theorem scLStacks : FnScope nLStacks ["_law_parents_here", "_law_levels_here"] (defScope sLStacks) := ⟨rfl, rfl, rfl, by decide +kernel, rfl, by decide +kernel, by decide +kernel⟩
theorem dLStacks (B : Defs K mg C) : Def P w K mg base "_law_stacks" 1 ["_law_parents_here", "_law_levels_here"] spLStacks := by
  have N := nOf B
  refine def_of B.ls fun f fd F => ?_
  refine F.ok scLStacks (fun vs H Q E h => ?_) (fun cdv A outer s H vs Q E hr h => ?_)
  · obtain ⟨b, l, ps, lv, rfl, _⟩ := h
    rfl
  · obtain ⟨b, l, ps, lv, rfl, hb, hlv, hp, h60, hv, k⟩ := h
    refine ⟨_, pss_cons (ps_set (i := 2) scLStacks.nd rfl (Or.inl rfl) (pe_lst pa_nil))
      (pss_cons (ps_for PassesOwn.never rfl (pi_enumT (by rfl) N.enum (pa_cons (pv 0) pa_nil)) (pg_tup rfl (pgs_cons (pg_name (i := 3) scLStacks.nd rfl (Or.inl rfl)) (pgs_cons (pg_name (i := 4) scLStacks.nd rfl (Or.inl rfl)) pgs_nil)))
        (pss_cons (ps_set (i := 5) scLStacks.nd rfl (Or.inl rfl) (pe_ifExp (pt_cmpR op_notN (pv 4) pe_non (nomark _)) (pe_slice sl_tupA (pe_ix ix_list (pv 2) (pv 4) (fun _ _ => rfl)) po_none (po_some (pe_op op_sub (pe_ix ix_tup (pv 1) (pv 3) (fun _ _ => rfl)) pe_int))) (pe_tup pa_nil)))
        (pss_one (ps_expr (pe_bm PySem.F.plainAttrs_list PySem.F.slot_list_append PySem.F.type_list_append mt_append (pv 2) (pa_cons (pe_op op_catA (pv 5) (pe_tup (pa_cons (pv 3) pa_nil))) pa_nil))))))
      (pss_one (ps_ret (pv 2)))), ?_⟩
    refine ⟨by show 0 ≤ sizeLine; decide, fun D nD => ?_⟩
    have S1 := smUpd (o := .lst []) nD
    refine ⟨_, rfl, b, _, rfl, tpL (S1 _ _ hb), ?_⟩
    refine for_it (walk_enumT (xs := ps.map vp)) (fun i σ H' => Same H H' ∧ ∃ (us : List V) (t3 t4 t5 : Option V), σ = [some (.ref b), some (.ref l), some (.ref D), t3, t4, t5] ∧ H' D = some (.lst us) ∧ Rows H' (stk ps lv) i us) ⟨S1, [], _, _, _, rfl, upd_same, rows0⟩ (fun i σ H' _ z => tpL (z.1 _ _ hb)) ?_ ?_
    · rintro i x σ H' H2 hi ⟨sm, us, t3, t4, t5, rfl, hD, hR⟩ ⟨T1, x1, y1, rfl, nT, rfl, e1, e2⟩
      cases e1
      obtain ⟨q, hq, rfl⟩ := vp_get (i := i) e2
      rw [List.length_map] at hi
      refine ⟨T1, _, rfl, .inl (.inl upd_same), rfl, _, _, rfl, _, _, rfl, rfl, ?_⟩
      have S2 := smUpd (o := .tup [.int (i : Nat), vp q]) nT
      have sm2 := sm.trans S2
      have hD2 := S2 _ _ hD
      have hR2 := rowsSame S2 hR
      generalize upd H' T1 (.tup [.int (i : Nat), vp q]) = H2 at sm2 hD2 hR2 ⊢
      have hil : i < lv.length := by rw [hv.1]; exact hi
      have hlv1 := hv.2 i _ q (getD_at hil) hq
      -- the append, by what stands ahead
      have rest : ∀ (D2 : Ends) (t : Addr) (H3 : Hp) (zs : List Nat), Same H2 H3 → H3 t = some (.tup (zs.map vn)) → zs ++ [i] = stk ps lv i → zs.length ≤ 60 → (∀ σ H', (Same H H' ∧ ∃ (us : List V) (t3 t4 t5 : Option V), σ = [some (.ref b), some (.ref l), some (.ref D), t3, t4, t5] ∧ H' D = some (.lst us) ∧ Rows H' (stk ps lv) (i + 1) us) → D2.nx σ H') →
          tDrop (tBM K "list" rAppend (tVar 2) (tCons (tOp (rCatA K) (tVar 5) (tTup (tCons (tVar 3) tNil))) tNil)) D2 [some (.ref b), some (.ref l), some (.ref D), some (vn i), some (vp q), some (.ref t)] H3 := by
        intro D2 t H3 zs s3 ht hz hzl kD
        have hD3 := s3 _ _ hD2
        refine ⟨_, rfl, .inl ⟨rfl, _, .inl (.inl hD3)⟩, _, rfl, _, rfl, by show 1 ≤ sizeLine; decide, fun t2 n2 => ?_⟩
        have S5 := smUpd (o := .tup [vn i]) n2
        refine catA (S5 _ _ ht) upd_same (by rw [List.length_map]; show zs.length + 1 ≤ 1000; omega) fun e H6 s6 he => ?_
        have s26 := s3.trans (S5.trans s6)
        have hD6 := s26 _ _ hD2
        refine ⟨D, us, _, rfl, rfl, hD6, by rw [hR2.1]; exact small1000 (by omega), ?_⟩
        have he2 : TN H6 e (stk ps lv i) := tnAt he (by rw [← hz, List.map_append]; rfl)
        exact kD _ _ ⟨smOver nD (sm2.trans s26), _, _, _, _, rfl, upd_same, rowsUpd (H0 := H) (rowsAdd (rowsSame s26 hR2) he2) hD6⟩
      refine ⟨_, rfl, rfl, _, rfl, ?_⟩
      cases q with
      | none =>
        refine ifF (by decide) ?_
        refine ⟨by show 0 ≤ sizeLine; decide, fun t nt => ?_⟩
        exact rest _ t _ [] (smUpd nt) upd_same (by rw [stk_none hq]; rfl) (Nat.zero_le _) fun σ H' z => z
      | some p =>
        refine ifT (by rw [vp_ne]; rfl) ?_
        obtain ⟨t, hut, ht⟩ := hR2.2 p (hp i p hq)
        refine ⟨_, rfl, _, rfl, D, us, (p : Int), _, rfl, rfl, .inl (.inl hD2), atI_nat hut, _, rfl, _, rfl, l, _, (i : Int), _, rfl, rfl, tnL (sm2 _ _ hlv), vn_ix (getD_at hil), _, _, rfl, rfl, _, rfl, ?_⟩
        refine slA ht fun c H3 s3 hc => ?_
        have e1 : ((lv.getD i 0 : Nat) : Int) - 1 = ((lv.getD i 0 - 1 : Nat) : Int) := by omega
        rw [e1, cutTake, ← List.map_take] at hc
        have hpl : p < ps.length := Nat.lt_trans (hp i p hq) hi
        have hzl : (stk ps lv p).length ≤ 60 := stkLe hp hv h60 hpl
        exact rest _ c H3 _ s3 hc (stk_some hp hq).symm (Nat.le_trans (takeLe _ _) hzl) fun σ H' z => z
    · rintro σ H' ⟨sm, us, t3, t4, t5, rfl, hD, hR⟩
      rw [List.length_map] at hR
      exact ⟨_, rfl, k D us H' sm hD hR⟩
end
end Cn
namespace Cn
open PySem PySem.Spec PyProof.Rows L2 Ck
section
variable {P : Program} {w : World} {K : PySem.W.Frag} {mg : Str → Option Value} {base : Heap} {C : Addr}
def spLNotes : Sp := fun vs H Q _ => ∃ (ap ab aa l : Addr) (f : Fo) (lv : List Nat), vs = [.ref ap, .ref ab, .ref aa, .ref l] ∧ TP H ap f.ps ∧ TN H ab f.be ∧ TN H aa f.as ∧ TN H l lv ∧ FoOk f ∧ Lv f.ps lv ∧
  ∀ r us H', Same H H' → H' r = some (.tup us) → NotesR H' us (notesOf f.ps f.be f.as lv f.ps.length) → Q (.ref r) H'
def nLNotes : List Str := ["_law_parents_here", "_law_bearing", "_law_asking", "_law_levels_here", "_law_stacks_here", "_law_found", "_law_place", "_law_road_here", "_law_ahead", "_law_begin", "_law_over", "_law_asks", "_law_one"]
theorem scLNotes : FnScope nLNotes ["_law_parents_here", "_law_bearing", "_law_asking", "_law_levels_here"] (defScope sLNotes) := ⟨rfl, rfl, rfl, by decide +kernel, rfl, by decide +kernel, by decide +kernel⟩
theorem notes_len {ps : List (Option Nat)} {be as lv : List Nat} {n : Nat} : (notesOf ps be as lv n).length ≤ n := by
  unfold notesOf
  refine Nat.le_trans (List.length_filter_le _ _) ?_
  rw [List.length_map, List.length_range]
  exact Nat.le_refl _
theorem notes_snoc {ps : List (Option Nat)} {be as lv : List Nat} {n : Nat} : notesOf ps be as lv (n + 1) = notesOf ps be as lv n ++ (if kept2 (noteAt ps be as lv n) = true then [noteAt ps be as lv n] else []) := by
  unfold notesOf
  rw [List.range_succ, List.map_append, List.filter_append]
  congr 1
  show List.filter kept2 [noteAt ps be as lv n] = _
  rw [List.filter_cons, List.filter_nil]
theorem keptYes {p : List Nat × List Nat} (h1 : 0 < p.1.length) (h2 : 0 < p.2.length) : kept2 p = true := by
  unfold kept2
  cases e1 : p.1 with
  | nil => rw [e1] at h1; cases h1
  | cons _ _ =>
    cases e2 : p.2 with
    | nil => rw [e2] at h2; cases h2
    | cons _ _ => rfl
theorem keptOf {p : List Nat × List Nat} (h : kept2 p = true) : 0 < p.1.length ∧ 0 < p.2.length := by
  unfold kept2 at h
  rw [Bool.and_eq_true] at h
  constructor
  · cases e : p.1 with
    | nil => rw [e] at h; cases h.1
    | cons _ _ => exact Nat.succ_pos _
  · cases e : p.2 with
    | nil => rw [e] at h; cases h.2
    | cons _ _ => exact Nat.succ_pos _
theorem dLNotes (B : Defs K mg C) : Def P w K mg base "_law_notes" 2 ["_law_parents_here", "_law_bearing", "_law_asking", "_law_levels_here"] spLNotes := by
  obtain ⟨fS, fdS, GS, gS, kS, bS⟩ := dLStacks (P := P) (w := w) (base := base) B
  obtain ⟨fR, fdR, GR, gR, kR, bR⟩ := dRoad (P := P) (w := w) (base := base) B
  have N := nOf B
  refine def_of B.ln fun f fd F => ?_
  refine F.ok scLNotes (fun vs H Q E h => ?_) (fun cdv A outer s H vs Q E hr h => ?_)
  · obtain ⟨ap, ab, aa, l, fo, lv, rfl, _⟩ := h
    rfl
  · obtain ⟨ap, ab, aa, l, fo, lv, rfl, h1, h2, h3, h4, ok, hv, k⟩ := h
    refine ⟨_, pss_cons (ps_set (i := 4) scLNotes.nd rfl (Or.inr rfl) (pe_call GS hr (by rfl) gS kS bS .nil pass0 (pa_cons (pv 0) (pa_cons (pv 3) pa_nil))))
      (pss_cons (ps_set (i := 5) scLNotes.nd rfl (Or.inl rfl) (pe_lst pa_nil))
      (pss_cons (ps_for PassesOwn.never rfl (pi_range1 (by rfl) N.range (pa_cons (pe_callB call_len_seq (by rfl) N.is.len PySem.boot_len (pa_cons (pv 0) pa_nil)) pa_nil)) (pg_name (i := 6) scLNotes.nd rfl (Or.inr rfl))
        (pss_cons (ps_set (i := 7) scLNotes.nd rfl (Or.inl rfl) (pe_callTy call_list_of (by rfl) N.is.lst (by decide +kernel) (pa_cons (pe_call GR hr (by rfl) gR kR bR .nil pass0 (pa_cons (pv 0) (pa_cons (pv 6) pa_nil))) pa_nil)))
        (pss_cons (ps_set (i := 8) scLNotes.nd rfl (Or.inl rfl) (pe_slice sl_tupA (pe_ix ix_list (pv 4) (pv 6) (fun _ _ => rfl)) po_none (po_some (pe_un un_neg pe_int))))
        (pss_cons (ps_set (i := 9) scLNotes.nd rfl (Or.inl rfl) (pe_ifExp (pt_cmpR op_gt (pe_callB call_len_seq (by rfl) N.is.len PySem.boot_len (pa_cons (pv 8) pa_nil)) pe_int (nomark _)) (pe_op op_add (pe_bm PySem.F.plainAttrs_list PySem.F.slot_list_index PySem.F.type_list_index mt_index (pv 7) (pa_cons (pe_ix ix_tup (pv 8) (pe_un un_neg pe_int) (fun _ _ => rfl)) pa_nil)) pe_int) pe_int))
        (pss_cons (ps_set (i := 10) scLNotes.nd rfl (Or.inl rfl) (pe_callTy call_tuple_of (by rfl) N.is.tup (by decide +kernel) (pa_cons (pe_lc (own := [("_law_one", 12)]) (g := gName 12) (tt := tTest (tOp (rIn K false) (tVar 12) (tVar 1))) rfl scLNotes.nd (pi_list (pe_slice sl_list (pv 7) (po_some (pv 9)) po_none))
          (blkOk_by (N := nLNotes) (sc := defScope sLNotes) (by decide +kernel)) (fun _ _ _ _ _ => pg_name (i := 12) scLNotes.nd rfl (Or.inl rfl)) (fun _ _ _ _ _ => pts_one (pt_cmpR op_in_seq (pv 12) (pv 1) (by rfl))) (fun _ _ _ _ _ => pv 12)) pa_nil)))
        (pss_cons (ps_set (i := 11) scLNotes.nd rfl (Or.inl rfl) (pe_callTy call_tuple_of (by rfl) N.is.tup (by decide +kernel) (pa_cons (pe_lc (own := [("_law_one", 12)]) (g := gName 12) (tt := tTest (tOp (rIn K false) (tVar 6) (tOp (rIxL K) (tVar 4) (tVar 12)))) rfl scLNotes.nd (pi_tup (pv 2))
          (blkOk_by (N := nLNotes) (sc := defScope sLNotes) (by decide +kernel)) (fun _ _ _ _ _ => pg_name (i := 12) scLNotes.nd rfl (Or.inl rfl)) (fun _ _ _ _ _ => pts_one (pt_cmpR op_in_seq (pv 6) (pe_ix (r := rIxL K) ix_list (pv 4) (pv 12) (fun _ _ => rfl)) (by rfl))) (fun _ _ _ _ _ => pv 12)) pa_nil)))
        (pss_one (ps_if (PW.pt (pw_and (pt_cmpR op_gt (pe_callB call_len_seq (by rfl) N.is.len PySem.boot_len (pa_cons (pv 10) pa_nil)) pe_int (nomark _)) (pw_and1 (pt_cmpR op_gt (pe_callB call_len_seq (by rfl) N.is.len PySem.boot_len (pa_cons (pv 11) pa_nil)) pe_int (nomark _)))))
          (pss_one (ps_expr (pe_bm PySem.F.plainAttrs_list PySem.F.slot_list_append PySem.F.type_list_append mt_append (pv 5) (pa_cons (pe_tup (pa_cons (pv 10) (pa_cons (pv 11) pa_nil))) pa_nil)))) pss_nil))))))))
      (pss_one (ps_ret (pe_callTy call_tuple_of (by rfl) N.is.tup (by decide +kernel) (pa_cons (pv 5) pa_nil)))))), ?_⟩
    refine ⟨_, rfl, _, rfl, ap, l, fo.ps, lv, rfl, h1, h4, ok.ps, ok.l1, hv, fun st us H1 s1 hst hR => ?_⟩
    refine ⟨by show 0 ≤ sizeLine; decide, fun D nD => ?_⟩
    have SD := smUpd (o := .lst []) nD
    have l60 := ok.l1
    refine ⟨_, rfl, ap, _, rfl, .inr (tpL (SD _ _ (s1 _ _ h1))), ((fo.ps.map vp).length : Int), rfl, by omega, by rw [List.length_map]; omega, ?_⟩
    rw [List.length_map, Int.toNat_natCast]
    refine for_range (lo := 0) (n := fo.ps.length) (fun i σ H' => Same H1 H' ∧ ∃ (ns : List V) (t6 t7 t8 t9 t10 t11 t12 : Option V), σ = [some (.ref ap), some (.ref ab), some (.ref aa), some (.ref l), some (.ref st), some (.ref D), t6, t7, t8, t9, t10, t11, t12] ∧ H' D = some (.lst ns) ∧ NotesR H' ns (notesOf fo.ps fo.be fo.as lv i)) ⟨SD, [], _, _, _, _, _, _, _, rfl, upd_same, .nil⟩ ?_ ?_
    · rintro i σ H2 hi ⟨s12, ns, t6, t7, t8, t9, t10, t11, t12, rfl, hD2, hN2⟩
      rw [show (0 : Int) + ((i : Nat) : Int) = ((i : Nat) : Int) from Int.zero_add _]
      have sm2 := s1.trans s12
      refine ⟨_, rfl, _, rfl, ap, fo.ps, i, rfl, sm2 _ _ h1, ok.ps, ok.l1, hi, fun rt H3 s3 hrt => ?_⟩
      refine ⟨rt, _, rfl, .inr (tnL hrt), fun rd nrd => ?_⟩
      have S4 := smUpd (o := .lst ((road fo.ps i).map vn)) nrd
      have hrd : upd H3 rd (.lst ((road fo.ps i).map vn)) rd = some (.lst ((road fo.ps i).map vn)) := upd_same
      have sm3 := sm2.trans (s3.trans S4)
      have s23 := s3.trans S4
      generalize upd H3 rd (.lst ((road fo.ps i).map vn)) = H3 at hrd sm3 s23 ⊢
      have hst3 := s23 _ _ (s12 _ _ hst)
      obtain ⟨t, hut, ht⟩ := (rowsSame (s12.trans s23) hR).2 i hi
      refine ⟨_, rfl, _, rfl, st, us, (i : Int), _, rfl, rfl, .inl (.inl hst3), atI_nat hut, _, rfl, _, rfl, ?_⟩
      refine slS (tnL ht) fun b2 H4 s34 hc => ?_
      have hc : SqT K H4 b2 ((stk fo.ps lv i).dropLast.map vn) := by rw [List.map_dropLast, ← cutInit]; exact hc
      have hrd4 := s34 _ _ hrd
      have sm4 := sm3.trans s34
      have s24 := s23.trans s34
      have hD4 := s24 _ _ hD2
      have hN4 := notesSame s24 hN2
      have hst4 := s24 _ _ (s12 _ _ hst)
      have hR4 := rowsSame (s12.trans s24) hR
      have nD4 : ∀ {H' : Hp} {o : HO}, Same H1 H' → Same H1 (upd H' D o) := fun sm => smOver nD sm
      refine ⟨_, rfl, b2, _, rfl, .inr hc, _, _, rfl, rfl, _, rfl, ?_⟩
      by_cases hne : (stk fo.ps lv i).dropLast = []
      · refine ifF (by rw [hne]; decide) ?_
        have hbeg : heldAt fo.ps lv i = (road fo.ps i).drop 0 := by unfold heldAt; rw [hne]; rfl
        -- over
        refine ⟨_, rfl, _, rfl, ((0 : Nat) : Int), rfl, rd, _, rfl, .inl (.inl hrd4), fun p1 np1 => ?_⟩
        rw [cutDrop, ← List.map_drop, ← hbeg]
        have S5 := smUpd (o := .lst ((heldAt fo.ps lv i).map vn)) np1
        have hp5 : upd H4 p1 (.lst ((heldAt fo.ps lv i).map vn)) p1 = some (.lst ((heldAt fo.ps lv i).map vn)) := upd_same
        have sm5 := sm4.trans S5
        have s45 := S5
        generalize upd H4 p1 (.lst ((heldAt fo.ps lv i).map vn)) = H5 at hp5 sm5 s45 ⊢
        refine ⟨p1, rfl, ⟨_, .inl (.inl hp5)⟩, fun D1 nD1 => ?_⟩
        refine lc_list (K := K) (a := p1) (xs := (heldAt fo.ps lv i).map vn) (fun m H' => Same H5 H' ∧ H' D1 = some (.lst ((((heldAt fo.ps lv i).take m).filter fun x => decide (x ∈ fo.be)).map vn))) ⟨smUpd nD1, upd_same⟩ (fun m H' _ z => .inl (.inl (z.1 _ _ hp5))) ?_ ?_
        · rintro m x H' hx ⟨sm, hD⟩
          obtain ⟨n, hn, rfl⟩ := vn_get hx
          have h2' : TN H' ab fo.be := sm _ _ (sm5 _ _ h2)
          refine ⟨rfl, _, rfl, _, rfl, ab, _, rfl, .inr (tnL h2'), rfl, vn_flat _, _, rfl, ?_⟩
          have et : (heldAt fo.ps lv i).take (m + 1) = (heldAt fo.ps lv i).take m ++ [n] := by rw [List.take_add_one, hn]; rfl
          by_cases c : n ∈ fo.be
          · refine ifT (by show inV (vn n) (fo.be.map vn) = true; rw [inV_vn]; exact decide_eq_true c) ?_
            refine ⟨_, rfl, _, hD, small1000 (by rw [List.length_map]; exact Nat.le_trans (List.length_filter_le _ _) (Nat.le_trans (takeLe _ _) (heldLen ok hi))), smOver nD1 sm, ?_⟩
            rw [upd_same, et, List.filter_append, List.map_append, List.filter_cons_of_pos (by simpa using c)]
            rfl
          · refine ifF (by show ¬ inV (vn n) (fo.be.map vn) = true; rw [inV_vn]; simpa using c) ?_
            refine ⟨sm, ?_⟩
            rw [et, List.filter_append, List.filter_cons_of_neg (by simpa using c)]
            show _ = some (HO.lst ((_ ++ []).map vn))
            rw [List.append_nil]
            exact hD
        rintro H6 ⟨s56, hD6⟩
        rw [List.length_map, List.take_length] at hD6
        refine ⟨D1, _, rfl, .inl ⟨.inl (.inl hD6), fun q1 nq1 => ?_⟩⟩
        have S7 := (sm5.trans s56).trans (smUpd (o := .tup (((heldAt fo.ps lv i).filter fun x => decide (x ∈ fo.be)).map vn)) nq1)
        have s47 := (s45.trans s56).trans (smUpd (o := .tup (((heldAt fo.ps lv i).filter fun x => decide (x ∈ fo.be)).map vn)) nq1)
        have hq7 : TN (upd H6 q1 (.tup (((heldAt fo.ps lv i).filter fun x => decide (x ∈ fo.be)).map vn))) q1 (noteAt fo.ps fo.be fo.as lv i).1 := upd_same
        generalize upd H6 q1 (.tup (((heldAt fo.ps lv i).filter fun x => decide (x ∈ fo.be)).map vn)) = H7 at S7 s47 hq7 ⊢
        -- asks
        have h37 : TN H7 aa fo.as := S7 _ _ h3
        refine ⟨_, rfl, aa, rfl, ⟨_, tnL h37⟩, fun D2 nD2 => ?_⟩
        refine lc_tup (xs := fo.as.map vn) (fun m H' => Same H7 H' ∧ H' D2 = some (.lst (((fo.as.take m).filter fun j => decide (i ∈ stk fo.ps lv j)).map vn))) ⟨smUpd nD2, upd_same⟩ (fun m H' _ z => tnL (z.1 _ _ h37)) ?_ ?_
        · rintro m x H' hx ⟨sm, hD⟩
          obtain ⟨n, hn, rfl⟩ := vn_get hx
          have hnl := ok.al n (List.mem_of_getElem? hn)
          obtain ⟨t', hut', ht'⟩ := (rowsSame (s47.trans sm) hR4).2 n hnl
          refine ⟨rfl, _, rfl, _, rfl, _, rfl, st, us, (n : Int), _, rfl, rfl, .inl (.inl ((s47.trans sm) _ _ hst4)), atI_nat hut', t', _, rfl, .inr (tnL ht'), rfl, vn_flat _, _, rfl, ?_⟩
          have et : fo.as.take (m + 1) = fo.as.take m ++ [n] := by rw [List.take_add_one, hn]; rfl
          by_cases c : i ∈ stk fo.ps lv n
          · refine ifT (by show inV (vn i) ((stk fo.ps lv n).map vn) = true; rw [inV_vn]; exact decide_eq_true c) ?_
            refine ⟨_, rfl, _, hD, small1000 (by rw [List.length_map]; exact Nat.le_trans (List.length_filter_le _ _) (Nat.le_trans (takeLe _ _) (by have := lotLen ok.as ok.al; have := ok.l1; omega))), smOver nD2 sm, ?_⟩
            rw [upd_same, et, List.filter_append, List.map_append, List.filter_cons_of_pos (by simpa using c)]
            rfl
          · refine ifF (by show ¬ inV (vn i) ((stk fo.ps lv n).map vn) = true; rw [inV_vn]; simpa using c) ?_
            refine ⟨sm, ?_⟩
            rw [et, List.filter_append, List.filter_cons_of_neg (by simpa using c)]
            show _ = some (HO.lst ((_ ++ []).map vn))
            rw [List.append_nil]
            exact hD

        rintro H8 ⟨s78, hD8⟩
        rw [List.length_map, List.take_length] at hD8
        refine ⟨D2, _, rfl, .inl ⟨.inl (.inl hD8), fun q2 nq2 => ?_⟩⟩
        have S9 := smUpd (o := .tup ((fo.as.filter fun j => decide (i ∈ stk fo.ps lv j)).map vn)) nq2
        have hq9 : TN (upd H8 q2 (.tup ((fo.as.filter fun j => decide (i ∈ stk fo.ps lv j)).map vn))) q2 (noteAt fo.ps fo.be fo.as lv i).2 := upd_same
        have s49 : Same H4 (upd H8 q2 (.tup ((fo.as.filter fun j => decide (i ∈ stk fo.ps lv j)).map vn))) := s47.trans (s78.trans S9)
        have hq19 := S9 _ _ (s78 _ _ hq7)
        generalize upd H8 q2 (.tup ((fo.as.filter fun j => decide (i ∈ stk fo.ps lv j)).map vn)) = H9 at hq9 s49 hq19 ⊢
        have hD9 := s49 _ _ hD4
        have hN9 := notesSame s49 hN4
        have s19 := s12.trans (s24.trans s49)
        have hnl : ns.length ≤ i := by rw [Paired.length hN2]; exact notes_len
        refine ⟨_, rfl, q1, _, rfl, .inr (tnL hq19), _, _, rfl, rfl, _, rfl, ?_⟩
        rw [List.length_map]
        by_cases c1 : 0 < (noteAt fo.ps fo.be fo.as lv i).1.length
        · refine ifT (by rw [decide_eq_true_iff]; omega) ?_
          refine ⟨_, rfl, q2, _, rfl, .inr (tnL hq9), _, _, rfl, rfl, _, rfl, ?_⟩
          rw [List.length_map]
          by_cases c2 : 0 < (noteAt fo.ps fo.be fo.as lv i).2.length
          · refine ifT (by rw [decide_eq_true_iff]; omega) ?_
            refine ⟨_, rfl, .inl ⟨rfl, _, .inl (.inl hD9)⟩, _, rfl, _, rfl, by show 2 ≤ sizeLine; decide, fun tt nt => ?_⟩
            have S10 := smUpd (o := .tup [.ref q1, .ref q2]) nt
            have hD10 := S10 _ _ hD9
            have hn10 : NoteR (upd H9 tt (.tup [.ref q1, .ref q2])) (.ref tt) (noteAt fo.ps fo.be fo.as lv i) := ⟨tt, q1, q2, rfl, upd_same, S10 _ _ hq19, S10 _ _ hq9⟩
            refine ⟨D, ns, _, rfl, rfl, hD10, small1000 (by omega), nD4 (s19.trans S10), _, _, _, _, _, _, _, _, rfl, upd_same, ?_⟩
            rw [notes_snoc, if_pos (keptYes c1 c2)]
            exact notesUpd hD10 (paired_snoc (notesSame S10 hN9) hn10)
          · refine ifF (by rw [decide_eq_true_iff]; omega) ?_
            refine ⟨s19, ns, _, _, _, _, _, _, _, rfl, hD9, ?_⟩
            rw [notes_snoc, if_neg (fun z => c2 (keptOf z).2), List.append_nil]
            exact hN9
        · refine ifF (by rw [decide_eq_true_iff]; omega) ?_
          refine ifF (by decide) ?_
          refine ⟨s19, ns, _, _, _, _, _, _, _, rfl, hD9, ?_⟩
          rw [notes_snoc, if_neg (fun z => c1 (keptOf z).1), List.append_nil]
          exact hN9
      · refine ifT (by rw [decide_eq_true_iff, List.length_map]; have := List.length_pos_iff.mpr hne; omega) ?_
        have hx : (stk fo.ps lv i).dropLast.getLast hne ∈ road fo.ps i := stk_sub ok.ps i hi _ (List.dropLast_subset _ (List.getLast_mem hne))
        have hheld : heldAt fo.ps lv i = (road fo.ps i).drop ((road fo.ps i).idxOf ((stk fo.ps lv i).dropLast.getLast hne) + 1) := by unfold heldAt; rw [lastDrop hne]
        generalize hxx : (stk fo.ps lv i).dropLast.getLast hne = x at hx hheld
        obtain ⟨i1, i2⟩ := vn_idx hx
        have hbeg := hheld
        refine ⟨_, rfl, .inl ⟨rfl, _, .inl (.inl hrd4)⟩, _, rfl, _, rfl, b2, _, (-1 : Int), _, rfl, rfl, hc, vn_last hne hxx, rd, _, _, (road fo.ps i).idxOf x, _, rfl, rfl, .inl (.inl hrd4), rfl, vn_flat _, i1, by rw [vn_inj]; exact decide_eq_true rfl, i2, _, _, rfl, rfl, ?_⟩
        -- over
        refine ⟨_, rfl, _, rfl, (((road fo.ps i).idxOf x + 1 : Nat) : Int), rfl, rd, _, rfl, .inl (.inl hrd4), fun p1 np1 => ?_⟩
        rw [cutDrop, ← List.map_drop, ← hbeg]
        have S5 := smUpd (o := .lst ((heldAt fo.ps lv i).map vn)) np1
        have hp5 : upd H4 p1 (.lst ((heldAt fo.ps lv i).map vn)) p1 = some (.lst ((heldAt fo.ps lv i).map vn)) := upd_same
        have sm5 := sm4.trans S5
        have s45 := S5
        generalize upd H4 p1 (.lst ((heldAt fo.ps lv i).map vn)) = H5 at hp5 sm5 s45 ⊢
        refine ⟨p1, rfl, ⟨_, .inl (.inl hp5)⟩, fun D1 nD1 => ?_⟩
        refine lc_list (K := K) (a := p1) (xs := (heldAt fo.ps lv i).map vn) (fun m H' => Same H5 H' ∧ H' D1 = some (.lst ((((heldAt fo.ps lv i).take m).filter fun x => decide (x ∈ fo.be)).map vn))) ⟨smUpd nD1, upd_same⟩ (fun m H' _ z => .inl (.inl (z.1 _ _ hp5))) ?_ ?_
        · rintro m x H' hx ⟨sm, hD⟩
          obtain ⟨n, hn, rfl⟩ := vn_get hx
          have h2' : TN H' ab fo.be := sm _ _ (sm5 _ _ h2)
          refine ⟨rfl, _, rfl, _, rfl, ab, _, rfl, .inr (tnL h2'), rfl, vn_flat _, _, rfl, ?_⟩
          have et : (heldAt fo.ps lv i).take (m + 1) = (heldAt fo.ps lv i).take m ++ [n] := by rw [List.take_add_one, hn]; rfl
          by_cases c : n ∈ fo.be
          · refine ifT (by show inV (vn n) (fo.be.map vn) = true; rw [inV_vn]; exact decide_eq_true c) ?_
            refine ⟨_, rfl, _, hD, small1000 (by rw [List.length_map]; exact Nat.le_trans (List.length_filter_le _ _) (Nat.le_trans (takeLe _ _) (heldLen ok hi))), smOver nD1 sm, ?_⟩
            rw [upd_same, et, List.filter_append, List.map_append, List.filter_cons_of_pos (by simpa using c)]
            rfl
          · refine ifF (by show ¬ inV (vn n) (fo.be.map vn) = true; rw [inV_vn]; simpa using c) ?_
            refine ⟨sm, ?_⟩
            rw [et, List.filter_append, List.filter_cons_of_neg (by simpa using c)]
            show _ = some (HO.lst ((_ ++ []).map vn))
            rw [List.append_nil]
            exact hD
        rintro H6 ⟨s56, hD6⟩
        rw [List.length_map, List.take_length] at hD6
        refine ⟨D1, _, rfl, .inl ⟨.inl (.inl hD6), fun q1 nq1 => ?_⟩⟩
        have S7 := (sm5.trans s56).trans (smUpd (o := .tup (((heldAt fo.ps lv i).filter fun x => decide (x ∈ fo.be)).map vn)) nq1)
        have s47 := (s45.trans s56).trans (smUpd (o := .tup (((heldAt fo.ps lv i).filter fun x => decide (x ∈ fo.be)).map vn)) nq1)
        have hq7 : TN (upd H6 q1 (.tup (((heldAt fo.ps lv i).filter fun x => decide (x ∈ fo.be)).map vn))) q1 (noteAt fo.ps fo.be fo.as lv i).1 := upd_same
        generalize upd H6 q1 (.tup (((heldAt fo.ps lv i).filter fun x => decide (x ∈ fo.be)).map vn)) = H7 at S7 s47 hq7 ⊢
        -- asks
        have h37 : TN H7 aa fo.as := S7 _ _ h3
        refine ⟨_, rfl, aa, rfl, ⟨_, tnL h37⟩, fun D2 nD2 => ?_⟩
        refine lc_tup (xs := fo.as.map vn) (fun m H' => Same H7 H' ∧ H' D2 = some (.lst (((fo.as.take m).filter fun j => decide (i ∈ stk fo.ps lv j)).map vn))) ⟨smUpd nD2, upd_same⟩ (fun m H' _ z => tnL (z.1 _ _ h37)) ?_ ?_
        · rintro m x H' hx ⟨sm, hD⟩
          obtain ⟨n, hn, rfl⟩ := vn_get hx
          have hnl := ok.al n (List.mem_of_getElem? hn)
          obtain ⟨t', hut', ht'⟩ := (rowsSame (s47.trans sm) hR4).2 n hnl
          refine ⟨rfl, _, rfl, _, rfl, _, rfl, st, us, (n : Int), _, rfl, rfl, .inl (.inl ((s47.trans sm) _ _ hst4)), atI_nat hut', t', _, rfl, .inr (tnL ht'), rfl, vn_flat _, _, rfl, ?_⟩
          have et : fo.as.take (m + 1) = fo.as.take m ++ [n] := by rw [List.take_add_one, hn]; rfl
          by_cases c : i ∈ stk fo.ps lv n
          · refine ifT (by show inV (vn i) ((stk fo.ps lv n).map vn) = true; rw [inV_vn]; exact decide_eq_true c) ?_
            refine ⟨_, rfl, _, hD, small1000 (by rw [List.length_map]; exact Nat.le_trans (List.length_filter_le _ _) (Nat.le_trans (takeLe _ _) (by have := lotLen ok.as ok.al; have := ok.l1; omega))), smOver nD2 sm, ?_⟩
            rw [upd_same, et, List.filter_append, List.map_append, List.filter_cons_of_pos (by simpa using c)]
            rfl
          · refine ifF (by show ¬ inV (vn i) ((stk fo.ps lv n).map vn) = true; rw [inV_vn]; simpa using c) ?_
            refine ⟨sm, ?_⟩
            rw [et, List.filter_append, List.filter_cons_of_neg (by simpa using c)]
            show _ = some (HO.lst ((_ ++ []).map vn))
            rw [List.append_nil]
            exact hD

        rintro H8 ⟨s78, hD8⟩
        rw [List.length_map, List.take_length] at hD8
        refine ⟨D2, _, rfl, .inl ⟨.inl (.inl hD8), fun q2 nq2 => ?_⟩⟩
        have S9 := smUpd (o := .tup ((fo.as.filter fun j => decide (i ∈ stk fo.ps lv j)).map vn)) nq2
        have hq9 : TN (upd H8 q2 (.tup ((fo.as.filter fun j => decide (i ∈ stk fo.ps lv j)).map vn))) q2 (noteAt fo.ps fo.be fo.as lv i).2 := upd_same
        have s49 : Same H4 (upd H8 q2 (.tup ((fo.as.filter fun j => decide (i ∈ stk fo.ps lv j)).map vn))) := s47.trans (s78.trans S9)
        have hq19 := S9 _ _ (s78 _ _ hq7)
        generalize upd H8 q2 (.tup ((fo.as.filter fun j => decide (i ∈ stk fo.ps lv j)).map vn)) = H9 at hq9 s49 hq19 ⊢
        have hD9 := s49 _ _ hD4
        have hN9 := notesSame s49 hN4
        have s19 := s12.trans (s24.trans s49)
        have hnl : ns.length ≤ i := by rw [Paired.length hN2]; exact notes_len
        refine ⟨_, rfl, q1, _, rfl, .inr (tnL hq19), _, _, rfl, rfl, _, rfl, ?_⟩
        rw [List.length_map]
        by_cases c1 : 0 < (noteAt fo.ps fo.be fo.as lv i).1.length
        · refine ifT (by rw [decide_eq_true_iff]; omega) ?_
          refine ⟨_, rfl, q2, _, rfl, .inr (tnL hq9), _, _, rfl, rfl, _, rfl, ?_⟩
          rw [List.length_map]
          by_cases c2 : 0 < (noteAt fo.ps fo.be fo.as lv i).2.length
          · refine ifT (by rw [decide_eq_true_iff]; omega) ?_
            refine ⟨_, rfl, .inl ⟨rfl, _, .inl (.inl hD9)⟩, _, rfl, _, rfl, by show 2 ≤ sizeLine; decide, fun tt nt => ?_⟩
            have S10 := smUpd (o := .tup [.ref q1, .ref q2]) nt
            have hD10 := S10 _ _ hD9
            have hn10 : NoteR (upd H9 tt (.tup [.ref q1, .ref q2])) (.ref tt) (noteAt fo.ps fo.be fo.as lv i) := ⟨tt, q1, q2, rfl, upd_same, S10 _ _ hq19, S10 _ _ hq9⟩
            refine ⟨D, ns, _, rfl, rfl, hD10, small1000 (by omega), nD4 (s19.trans S10), _, _, _, _, _, _, _, _, rfl, upd_same, ?_⟩
            rw [notes_snoc, if_pos (keptYes c1 c2)]
            exact notesUpd hD10 (paired_snoc (notesSame S10 hN9) hn10)
          · refine ifF (by rw [decide_eq_true_iff]; omega) ?_
            refine ⟨s19, ns, _, _, _, _, _, _, _, rfl, hD9, ?_⟩
            rw [notes_snoc, if_neg (fun z => c2 (keptOf z).2), List.append_nil]
            exact hN9
        · refine ifF (by rw [decide_eq_true_iff]; omega) ?_
          refine ifF (by decide) ?_
          refine ⟨s19, ns, _, _, _, _, _, _, _, rfl, hD9, ?_⟩
          rw [notes_snoc, if_neg (fun z => c1 (keptOf z).1), List.append_nil]
          exact hN9
    · rintro σ H2 ⟨s12, ns, t6, t7, t8, t9, t10, t11, t12, rfl, hD2, hN2⟩
      refine ⟨_, rfl, D, _, rfl, .inl ⟨.inl (.inl hD2), fun r nr => ?_⟩⟩
      have S3 := smUpd (o := .tup ns) nr
      exact k r ns _ ((s1.trans s12).trans S3) upd_same (notesSame S3 hN2)
end
end Cn
namespace Cn
open PySem PySem.Spec PyProof.Rows L2 Ck
def PlanV (H : Hp) (ps : List (Option Nat)) (i : Nat) (u : V) : Prop := ∃ t lv, u = .ref t ∧ TN H t lv ∧ lv.length = i ∧ LvTo ps lv
theorem planSame {H H' : Hp} {ps : List (Option Nat)} {i : Nat} {u : V} (s : Same H H') (h : PlanV H ps i u) : PlanV H' ps i u := by
  obtain ⟨t, lv, e, ht, r⟩ := h
  exact ⟨t, lv, e, s _ _ ht, r⟩
theorem planUpd {H : Hp} {ps : List (Option Nat)} {i : Nat} {u : V} {D : Addr} {o : HO} {xs : List V} (hD : H D = some (.lst xs)) (h : PlanV H ps i u) : PlanV (upd H D o) ps i u := by
  obtain ⟨t, lv, e, ht, r⟩ := h
  have ne : t ≠ D := fun z => by
    have ht : H t = _ := ht
    rw [z, hD] at ht; cases ht
  exact ⟨t, lv, e, (show upd H D o t = _ by rw [upd_ne ne]; exact ht), r⟩
theorem bigLine {n : Nat} (h : n ≤ 16000) : n < sizeLine := Nat.lt_of_le_of_lt h (by decide)
theorem pow5 {i : Nat} (h : i ≤ 5) : 5 ^ i ≤ 3125 := Nat.pow_le_pow_right (n := 5) (by decide) h
section
variable {P : Program} {w : World} {K : PySem.W.Frag} {mg : Str → Option Value} {base : Heap} {C : Addr}
def spPlans : Sp := fun vs H Q _ => ∃ (b : Addr) (ps : List (Option Nat)), vs = [.ref b] ∧ TP H b ps ∧ Ps ps ∧ ps.length ≤ 5 ∧
  ∀ r us H', Same H H' → H' r = some (.lst us) → (∀ u ∈ us, PlanV H' ps ps.length u) → us.length ≤ 3125 → Q (.ref r) H'
def nPlans : List Str := ["_law_parents_here", "_law_found", "_law_parent", "_law_later", "_law_levels_here", "_law_most", "_law_level_here"]
theorem scPlans : FnScope nPlans ["_law_parents_here"] (defScope sPlans) := ⟨rfl, rfl, rfl, by decide +kernel, rfl, by decide +kernel, by decide +kernel⟩
theorem dPlans (B : Defs K mg C) : Def P w K mg base "_law_plans" 1 ["_law_parents_here"] spPlans := by
  have N := nOf B
  refine def_of B.plans fun f fd F => ?_
  refine F.ok scPlans (fun vs H Q E h => ?_) (fun cdv A outer s H vs Q E hr h => ?_)
  · obtain ⟨b, ps, rfl, _⟩ := h
    rfl
  · obtain ⟨b, ps, rfl, hb, hp, h5, k⟩ := h
    refine ⟨_, pss_cons (ps_set (i := 1) scPlans.nd rfl (Or.inl rfl) (pe_lst (pa_cons (pe_tup pa_nil) pa_nil)))
      (pss_cons (ps_for PassesOwn.never rfl (pi_tup (pv 0)) (pg_name (i := 2) scPlans.nd rfl (Or.inl rfl))
        (pss_cons (ps_set (i := 3) scPlans.nd rfl (Or.inl rfl) (pe_lst pa_nil))
        (pss_cons (ps_for PassesOwn.never rfl (pi_list (pv 1)) (pg_name (i := 4) scPlans.nd rfl (Or.inr rfl))
          (pss_cons (ps_set (i := 5) scPlans.nd rfl (Or.inl rfl) (pe_ifExp (pt_cmpR op_isN (pv 2) pe_non (nomark _)) pe_int (pe_op op_add (pe_ix ix_tup (pv 4) (pv 2) (fun _ _ => rfl)) pe_int)))
          (pss_one (ps_expr (pe_bm PySem.F.plainAttrs_list PySem.F.slot_list_extend PySem.F.type_list_extend mt_extend (pv 3) (pa_cons (pe_lc (own := [("_law_level_here", 6)]) (g := gName 6) (tt := tYes) (te := tOp (rCatA K) (tVar 4) (tTup (tCons (tVar 6) tNil))) rfl scPlans.nd (pi_range2 (by rfl) N.range (pa_cons pe_int (pa_cons (pe_op op_add (pv 5) pe_int) pa_nil)))
            (blkOk_by (N := nPlans) (sc := defScope sPlans) (by decide +kernel)) (fun _ _ _ _ _ => pg_name (i := 6) scPlans.nd rfl (Or.inl rfl)) (fun _ _ _ _ _ => pts_nil) (fun _ _ _ _ _ => pe_op (r := rCatA K) op_catA (pv 4) (pe_tup (pa_cons (pv 6) pa_nil)))) pa_nil))))))
        (pss_one (ps_set (i := 1) scPlans.nd rfl (Or.inl rfl) (pv 3))))))
      (pss_one (ps_ret (pv 1)))), ?_⟩
    refine ⟨by show 0 ≤ sizeLine; decide, fun t0 nt0 => ⟨by show 1 ≤ sizeLine; decide, fun D0 nD0 => ?_⟩⟩
    have S0 := smUpd (o := .tup []) nt0
    have S1 := smUpd (o := .lst [.ref t0]) nD0
    refine ⟨_, rfl, b, rfl, ⟨_, tpL (S1 _ _ (S0 _ _ hb))⟩, ?_⟩
    refine for_it (walk_tup (xs := ps.map vp)) (fun i σ H' => Same H H' ∧ ∃ (D : Addr) (us : List V) (t2 t3 t4 t5 t6 : Option V), σ = [some (.ref b), some (.ref D), t2, t3, t4, t5, t6] ∧ H' D = some (.lst us) ∧ us.length ≤ 5 ^ i ∧ ∀ u ∈ us, PlanV H' ps i u) ⟨S0.trans S1, D0, _, _, _, _, _, _, rfl, upd_same, Nat.le_refl _, ?_⟩ (fun i σ H' _ z => tpL (z.1 _ _ hb)) ?_ ?_
    · refine glCons ⟨t0, [], rfl, S1 _ _ upd_same, rfl, fun j l q h => ?_⟩ glNil
      rw [List.getElem?_nil] at h; cases h
    · rintro i x σ H1 H2 hi ⟨sm, D, us, t2, t3, t4, t5, t6, rfl, hD, hul, hU⟩ ⟨rfl, hx⟩
      obtain ⟨q, hq, rfl⟩ := vp_get hx
      rw [List.length_map] at hi
      refine ⟨by show 0 ≤ sizeLine; decide, fun L nL => ?_⟩
      have SL := smUpd (o := .lst []) nL
      have h3125 := pow5 (i := i) (by omega)
      refine ⟨_, rfl, D, rfl, ⟨_, .inl (.inl (SL _ _ hD))⟩, ?_⟩
      refine for_it (walk_list (K := K) (xs := us)) (fun j σ H' => Same H2 H' ∧ ∃ (ws : List V) (t4 t5 t6 : Option V), σ = [some (.ref b), some (.ref D), some (vp q), some (.ref L), t4, t5, t6] ∧ H' L = some (.lst ws) ∧ ws.length ≤ 5 * j ∧ ∀ w ∈ ws, PlanV H' ps (i + 1) w) ⟨SL, [], _, _, _, rfl, upd_same, Nat.zero_le _, glNil⟩ (fun j σ H' _ z => .inl (.inl (z.1 _ _ hD))) ?_ ?_
      · rintro j x σ H3 H4 hj ⟨sm3, ws, t4, t5, t6, rfl, hL, hwl, hW⟩ ⟨rfl, hx⟩
        obtain ⟨t, lv, rfl, ht, hl, hv⟩ := planSame sm3 (hU x (List.mem_of_getElem? hx))
        have hq2 : ps[lv.length]? = some q := by rw [hl]; exact hq
        -- the display, by the most
        have most : ∀ m : Nat, 1 ≤ m → m ≤ 5 → m = mostLv lv q → ∀ D2 : Ends, (∀ σ H', (Same H2 H' ∧ ∃ (ws : List V) (t4 t5 t6 : Option V), σ = [some (.ref b), some (.ref D), some (vp q), some (.ref L), t4, t5, t6] ∧ H' L = some (.lst ws) ∧ ws.length ≤ 5 * (j + 1) ∧ ∀ w ∈ ws, PlanV H' ps (i + 1) w) → D2.nx σ H') →
            tDrop (tBM K "list" rExtend (tVar 3) (tCons (tLc (iRng2 (tCons (tC (.int 1)) (tCons (tOp (rI0 fun i j => V.int (i + j)) (tVar 5) (tC (.int 1))) tNil))) (gName 6) tYes (tOp (rCatA K) (tVar 4) (tTup (tCons (tVar 6) tNil))) [6]) tNil)) D2 [some (.ref b), some (.ref D), some (vp q), some (.ref L), some (.ref t), some (vn m), t6] H4 := by
          intro m m1 m5 me D2 kD
          refine ⟨_, rfl, .inl ⟨rfl, _, .inl (.inl hL)⟩, _, rfl, _, _, rfl, rfl, 1, (m : Int) + 1, rfl, ⟨by decide, by decide, by omega, by omega⟩, fun E nE => ?_⟩
          have em : (((m : Int) + 1) - 1).toNat = m := by omega
          rw [em]
          refine lc_range (lo := 1) (n := m) (fun a H' => Same H4 H' ∧ ∃ zs, H' E = some (.lst zs) ∧ zs.length = a ∧ ∀ z ∈ zs, PlanV H' ps (i + 1) z) ⟨smUpd nE, [], upd_same, rfl, glNil⟩ ?_ ?_
          · rintro a H5 ha ⟨s5, zs, hE, hzl, hZ⟩
            refine ⟨rfl, _, rfl, _, rfl, by show 1 ≤ sizeLine; decide, fun u nu => ?_⟩
            have S6 := smUpd (o := .tup [.int (1 + (a : Int))]) nu
            refine catA (S6 _ _ (s5 _ _ ht)) upd_same (by rw [List.length_map, hl]; show i + 1 ≤ 1000; omega) fun e H7 s7 he => ?_
            have s57 := S6.trans s7
            have hE7 := s57 _ _ hE
            have hpv : PlanV H7 ps (i + 1) (.ref e) := ⟨e, lv ++ [1 + a], rfl, tnAt he (by
              rw [List.map_append]
              show _ ++ [V.int (1 + (a : Int))] = _ ++ [V.int (((1 + a : Nat)) : Int)]
              rw [show (((1 + a : Nat)) : Int) = 1 + (a : Int) from by omega]), by rw [List.length_append, hl]; rfl, lvSnoc hp hv hq2 (by omega) (by omega)⟩
            refine ⟨zs, hE7, small1000 (by omega), smOver nE (s5.trans s57), _, upd_same, by rw [List.length_append, hzl]; rfl, fun z hz => planUpd hE7 ?_⟩
            rcases List.mem_append.mp hz with hz | hz
            · exact planSame s57 (hZ z hz)
            · rw [List.mem_singleton.mp hz]; exact hpv
          · rintro H5 ⟨s5, zs, hE, hzl, hZ⟩
            have hL5 := s5 _ _ hL
            refine ⟨L, E, ws, zs, rfl, rfl, hL5, hE, Nat.le_of_lt (bigLine (by omega)), ?_⟩
            refine kD _ _ ⟨smOver nL (sm3.trans s5), ws ++ zs, _, _, _, rfl, upd_same, by rw [List.length_append]; omega, fun w hw => planUpd hL5 ?_⟩
            rcases List.mem_append.mp hw with hw | hw
            · exact planSame s5 (hW w hw)
            · exact hZ w hw
        refine ⟨_, rfl, rfl, _, rfl, ?_⟩
        cases q with
        | none =>
          refine ifT (by decide) ?_
          exact most 1 (Nat.le_refl _) (by omega) rfl _ fun σ H' z => z
        | some m =>
          refine ifF (by rw [vp_ne]; decide) ?_
          have hm : m < lv.length := by rw [hl]; exact hp i m hq
          have hle := lvTo_le hp hv (by omega) m _ (getD_at hm)
          refine ⟨_, rfl, _, rfl, t, _, (m : Int), _, rfl, rfl, tnL ht, vn_ix (getD_at hm), _, _, rfl, rfl, ?_⟩
          exact most (lv.getD m 0 + 1) (by omega) (by omega) rfl _ fun σ H' z => z
      · rintro σ H3 ⟨sm3, ws, t4, t5, t6, rfl, hL, hwl, hW⟩
        refine ⟨_, rfl, sm.trans sm3, L, ws, _, _, _, _, _, rfl, hL, ?_, hW⟩
        rw [Nat.pow_succ]
        omega
    · rintro σ H1 ⟨sm, D, us, t2, t3, t4, t5, t6, rfl, hD, hul, hU⟩
      rw [List.length_map] at hul hU
      exact ⟨_, rfl, k D us H1 sm hD hU (Nat.le_trans hul (pow5 h5))⟩
end
end Cn
namespace Cn
open PySem PySem.Spec PyProof.Rows L2 Ck
section
variable {P : Program} {w : World} {K : PySem.W.Frag} {mg : Str → Option Value} {base : Heap} {C : Addr}
def spLLevel : Sp := fun vs H Q _ => ∃ (b rk : Addr) (ps : List (Option Nat)) (rks : List Nat) (i : Nat), vs = [.ref b, .ref rk, vn i] ∧ TP H b ps ∧ H rk = some (.lst (rks.map vn)) ∧ rks.length = ps.length ∧ Ps ps ∧ ps.length ≤ 60 ∧ i < ps.length ∧
  ∀ H', Same H H' → Q (vn (cntMin ((road ps i).map fun x => rks.getD x 0))) H'
def nLLevel : List Str := ["_law_parents_here", "_law_ranks", "_law_place", "_law_some_here", "_law_one", "_law_at"]
theorem scLLevel : FnScope nLLevel ["_law_parents_here", "_law_ranks", "_law_place"] (defScope sLLevel) := ⟨rfl, rfl, rfl, by decide +kernel, rfl, by decide +kernel, by decide +kernel⟩
theorem dLLevel (B : Defs K mg C) : Def P w K mg base "_law_level" 2 ["_law_parents_here", "_law_ranks", "_law_place"] spLLevel := by
  obtain ⟨fR, fdR, GR, gR, kR, bR⟩ := dRoad (P := P) (w := w) (base := base) B
  have N := nOf B
  refine def_of B.lvl fun f fd F => ?_
  refine F.ok scLLevel (fun vs H Q E h => ?_) (fun cdv A outer s H vs Q E hr h => ?_)
  · obtain ⟨b, rk, ps, rks, i, rfl, _⟩ := h
    rfl
  · obtain ⟨b, rk, ps, rks, i, rfl, hb, hrk, hrl, hp, h60, hi, k⟩ := h
    refine ⟨_, pss_cons (ps_set (i := 3) scLLevel.nd rfl (Or.inr rfl) (pe_lc (own := [("_law_one", 4)]) (g := gName 4) (tt := tYes) (te := tOp (rIxL K) (tVar 1) (tVar 4)) rfl scLLevel.nd (pi_tup (pe_call GR hr (by rfl) gR kR bR .nil pass0 (pa_cons (pv 0) (pa_cons (pv 2) pa_nil))))
        (blkOk_by (N := nLLevel) (sc := defScope sLLevel) (by decide +kernel)) (fun _ _ _ _ _ => pg_name (i := 4) scLLevel.nd rfl (Or.inl rfl)) (fun _ _ _ _ _ => pts_nil) (fun _ _ _ _ _ => pe_ix (r := rIxL K) ix_list (pv 1) (pv 4) (fun _ _ => rfl))))
      (pss_one (ps_ret (pe_callB call_len_seq (by rfl) N.is.len PySem.boot_len (pa_cons (pe_lc (own := [("_law_at", 5)]) (g := gName 5) (tt := tTest (tOp rEq (tOp (rIxL K) (tVar 3) (tVar 5)) (tCB (rMin K) (tCons (tSl (rSlL K) (tVar 3) (tPart (tVar 5)) tNoPart) tNil)))) (te := tVar 5) rfl scLLevel.nd (pi_range1 (by rfl) N.range (pa_cons (pe_callB call_len_seq (by rfl) N.is.len PySem.boot_len (pa_cons (pv 3) pa_nil)) pa_nil))
        (blkOk_by (N := nLLevel) (sc := defScope sLLevel) (by decide +kernel)) (fun _ _ _ _ _ => pg_name (i := 5) scLLevel.nd rfl (Or.inl rfl)) (fun _ _ _ _ _ => pts_one (pt_cmpR op_eq (pe_ix (r := rIxL K) ix_list (pv 3) (pv 5) (fun _ _ => rfl)) (pe_callB (r := rMin K) (cr_min rfl) (by rfl) N.min (by decide +kernel) (pa_cons (pe_slice (r := rSlL K) sl_list (pv 3) (po_some (pv 5)) po_none) pa_nil)) (nomark _))) (fun _ _ _ _ _ => pv 5)) pa_nil)))), ?_⟩
    refine ⟨_, rfl, _, rfl, b, ps, i, rfl, hb, hp, h60, hi, fun rt H1 s1 hrt => ⟨rt, rfl, ⟨_, tnL hrt⟩, fun D nD => ?_⟩⟩
    have hlen := road_len hp i hi
    refine lc_tup (xs := (road ps i).map vn) (fun m H' => Same H1 H' ∧ H' D = some (.lst ((((road ps i).take m).map fun x => rks.getD x 0).map vn))) ⟨smUpd nD, upd_same⟩ (fun m H' _ z => tnL (z.1 _ _ hrt)) ?_ ?_
    · rintro m x H' hx ⟨sm, hD⟩
      obtain ⟨n, hn, rfl⟩ := vn_get hx
      have hnl : n < rks.length := by rw [hrl]; exact Nat.lt_of_le_of_lt (road_le hp i hi n (List.mem_of_getElem? hn)) hi
      refine ⟨rfl, _, rfl, _, rfl, rk, _, (n : Int), _, rfl, rfl, .inl (.inl (sm _ _ (s1 _ _ hrk))), vn_ix (getD_at hnl), _, hD, small1000 (by rw [List.length_map, List.length_map]; exact Nat.le_trans (takeLe _ _) (by omega)), smOver nD sm, ?_⟩
      have et : (road ps i).take (m + 1) = (road ps i).take m ++ [n] := by rw [List.take_add_one, hn]; rfl
      rw [upd_same, et, List.map_append, List.map_append]
      rfl
    rintro H2 ⟨s12, hD⟩
    rw [List.length_map, List.take_length] at hD
    generalize hL : (road ps i).map (fun x => rks.getD x 0) = L at hD k
    have hLl : L.length ≤ 1000 := by rw [← hL, List.length_map]; omega
    refine ⟨_, rfl, D, _, rfl, .inl (.inl (.inl hD)), ((L.map vn).length : Int), rfl, by omega, by rw [List.length_map]; omega, fun E nE => ?_⟩
    rw [List.length_map, Int.toNat_natCast]
    refine lc_range (lo := 0) (n := L.length) (fun m H' => Same H2 H' ∧ ∃ zs : List V, H' E = some (.lst zs) ∧ zs.length ≤ m ∧ zs.length + cntMin (L.drop m) = cntMin L) ⟨smUpd nE, [], upd_same, Nat.zero_le _, by rw [List.drop_zero]; exact Nat.zero_add _⟩ ?_ ?_
    · rintro m H' hm ⟨sm, zs, hE, hzl, hz⟩
      rw [show (0 : Int) + ((m : Nat) : Int) = ((m : Nat) : Int) from Int.zero_add _]
      have hg := getD_at hm
      have hD' := sm _ _ hD
      refine ⟨rfl, _, rfl, _, rfl, D, _, (m : Int), _, rfl, rfl, .inl (.inl hD'), vn_ix hg, _, rfl, _, rfl, (m : Int), rfl, D, _, rfl, .inl (.inl hD'), fun p np => ?_⟩
      rw [cutDrop, ← List.map_drop, ← mapIV]
      have S3 := smUpd (o := .lst (((L.drop m).map fun k => ((k : Nat) : Int)).map V.int)) np
      have hE3 := S3 _ _ hE
      refine ⟨p, _, rfl, .inl (.inl upd_same), by rw [List.length_map, List.length_drop]; omega, fun a ha hle => ⟨rfl, _, rfl, ?_⟩⟩
      have hd : L.drop m = L.getD m 0 :: L.drop (m + 1) := by
        rw [List.drop_eq_getElem_cons hm]
        congr 1
        rw [List.getD_eq_getElem?_getD, List.getElem?_eq_getElem hm]; rfl
      have iff1 : V.int ((L.getD m 0 : Nat) : Int) = V.int a ↔ ∀ y ∈ L.drop (m + 1), L.getD m 0 ≤ y := by
        constructor
        · intro e y hy
          have e : ((L.getD m 0 : Nat) : Int) = a := V.int.inj e
          have := hle ((y : Nat) : Int) (List.mem_map.mpr ⟨y, by rw [hd]; exact List.mem_cons_of_mem _ hy, rfl⟩)
          omega
        · intro h
          obtain ⟨y, hy, rfl⟩ := List.mem_map.mp ha
          have h1 := hle ((L.getD m 0 : Nat) : Int) (List.mem_map.mpr ⟨_, by rw [hd]; exact List.mem_cons_self, rfl⟩)
          rw [hd] at hy
          rcases List.mem_cons.mp hy with e | hy
          · rw [e]
          · have := h y hy
            have e : L.getD m 0 = y := by omega
            rw [e]
      by_cases c : ∀ y ∈ L.drop (m + 1), L.getD m 0 ≤ y
      · refine ifT (decide_eq_true (iff1.mpr c)) ?_
        refine ⟨_, rfl, zs, hE3, small1000 (by omega), smOver nE (sm.trans S3), _, upd_same, by rw [List.length_append]; show zs.length + 1 ≤ m + 1; omega, ?_⟩
        rw [cnt_yes hg c] at hz
        rw [List.length_append]
        show zs.length + 1 + cntMin (L.drop (m + 1)) = cntMin L
        omega
      · refine ifF (by rw [decide_eq_true_iff]; exact fun z => c (iff1.mp z)) ?_
        rw [cnt_no hg c] at hz
        exact ⟨sm.trans S3, zs, hE3, by omega, by omega⟩
    · rintro H' ⟨sm, zs, hE, hzl, hz⟩
      rw [List.drop_length] at hz
      have e : zs.length = cntMin L := by rw [← hz]; rfl
      refine ⟨E, zs, rfl, .inl (.inl (.inl hE)), ?_⟩
      rw [e]
      exact k _ (s1.trans (s12.trans sm))
/-! one plan's levels put for another's -/
def PlV (ps : List (Option Nat)) (H : Hp) (v : V) : Prop := v = .non ∨ ∃ t lv, v = .ref t ∧ Lv ps lv ∧ TN H t lv
theorem plSame {ps : List (Option Nat)} {H H' : Hp} {v : V} (s : Same H H') (h : PlV ps H v) : PlV ps H' v := h.imp (fun z => z) fun ⟨t, lv, e, hv, ht⟩ => ⟨t, lv, e, hv, s _ _ ht⟩
def spPut : Sp := fun vs H Q _ => ∃ (b t1 t2 : Addr) (ps : List (Option Nat)) (l1 l2 : List Nat) (i : Nat), vs = [.ref b, .ref t1, .ref t2, vn i] ∧ TP H b ps ∧ TN H t1 l1 ∧ TN H t2 l2 ∧ Ps ps ∧ ps.length ≤ 60 ∧ Lv ps l1 ∧ Lv ps l2 ∧ i < ps.length ∧
  ∀ v H', Same H H' → PlV ps H' v → Q v H'
def nPut : List Str := ["_law_parents_here", "_law_one", "_law_other", "_law_place", "_law_found", "_law_at", "_law_parent"]
theorem scPut : FnScope nPut ["_law_parents_here", "_law_one", "_law_other", "_law_place"] (defScope sPut) := ⟨rfl, rfl, rfl, by decide +kernel, rfl, by decide +kernel, by decide +kernel⟩
theorem dPut (B : Defs K mg C) : Def P w K mg base "_law_put" 2 ["_law_parents_here", "_law_one", "_law_other", "_law_place"] spPut := by
  obtain ⟨fR, fdR, GR, gR, kR, bR⟩ := dRoad (P := P) (w := w) (base := base) B
  have N := nOf B
  refine def_of B.put fun f fd F => ?_
  refine F.ok scPut (fun vs H Q E h => ?_) (fun cdv A outer s H vs Q E hr h => ?_)
  · obtain ⟨b, t1, t2, ps, l1, l2, i, rfl, _⟩ := h
    rfl
  · obtain ⟨b, t1, t2, ps, l1, l2, i, rfl, hb, h1, h2, hp, h60, v1, v2, hi, kk⟩ := h
    have k0 : ∀ H', Same H H' → Q .non H' := fun H' s => kk _ H' s (.inl rfl)
    have k : ∀ r lv H', Same H H' → Lv ps lv → TN H' r lv → Q (.ref r) H' := fun r lv H' s hv ht => kk _ H' s (.inr ⟨r, lv, rfl, hv, ht⟩)
    refine ⟨_, pss_cons (ps_set (i := 4) scPut.nd rfl (Or.inl rfl) (pe_lst pa_nil))
      (pss_cons (ps_for PassesOwn.never rfl (pi_range1 (by rfl) N.range (pa_cons (pe_callB call_len_seq (by rfl) N.is.len PySem.boot_len (pa_cons (pv 0) pa_nil)) pa_nil)) (pg_name (i := 5) scPut.nd rfl (Or.inl rfl))
        (pss_one (ps_expr (pe_bm PySem.F.plainAttrs_list PySem.F.slot_list_append PySem.F.type_list_append mt_append (pv 4) (pa_cons (pe_ifExp (pt_cmpR op_in_seq (pv 3) (pe_call GR hr (by rfl) gR kR bR .nil pass0 (pa_cons (pv 0) (pa_cons (pv 5) pa_nil))) (by rfl)) (pe_ix ix_tup (pv 2) (pv 5) (fun _ _ => rfl)) (pe_ix ix_tup (pv 1) (pv 5) (fun _ _ => rfl))) pa_nil)))))
      (pss_cons (ps_set (i := 6) scPut.nd rfl (Or.inl rfl) (pe_ix ix_tup (pv 0) (pv 3) (fun _ _ => rfl)))
      (pss_cons (ps_if (PW.pt (pw_and (pt_cmpR op_notN (pv 6) pe_non (nomark _)) (pw_and1 (pt_cmpR op_gt (pe_ix ix_list (pv 4) (pv 3) (fun _ _ => rfl)) (pe_op op_add (pe_ix ix_list (pv 4) (pv 6) (fun _ _ => rfl)) pe_int) (nomark _))))) (pss_one (ps_ret pe_non)) pss_nil)
      (pss_one (ps_ret (pe_callTy call_tuple_of (by rfl) N.is.tup (by decide +kernel) (pa_cons (pv 4) pa_nil))))))), ?_⟩
    refine ⟨by show 0 ≤ sizeLine; decide, fun D nD => ?_⟩
    have SD := smUpd (o := .lst []) nD
    refine ⟨_, rfl, b, _, rfl, .inr (tpL (SD _ _ hb)), ((ps.map vp).length : Int), rfl, by omega, by rw [List.length_map]; omega, ?_⟩
    rw [List.length_map, Int.toNat_natCast]
    refine for_range (lo := 0) (n := ps.length) (fun m σ H' => Same H H' ∧ H' D = some (.lst (((List.range m).map (mixLv ps l1 l2 i)).map vn)) ∧ ∃ t5 t6 : Option V, σ = [some (.ref b), some (.ref t1), some (.ref t2), some (vn i), some (.ref D), t5, t6]) ⟨SD, upd_same, _, _, rfl⟩ ?_ ?_
    · rintro m σ H1 hm ⟨sm, hD, t5, t6, rfl⟩
      rw [show (0 : Int) + ((m : Nat) : Int) = ((m : Nat) : Int) from Int.zero_add _]
      refine ⟨_, rfl, .inl ⟨rfl, _, .inl (.inl hD)⟩, _, rfl, _, rfl, _, rfl, b, ps, m, rfl, sm _ _ hb, hp, h60, hm, fun rt H2 s2 hrt => ?_⟩
      have sm2 := sm.trans s2
      have hD2 := s2 _ _ hD
      have g1 : l1[m]? = some (l1.getD m 0) := getD_at (by rw [v1.1]; exact hm)
      have g2 : l2[m]? = some (l2.getD m 0) := getD_at (by rw [v2.1]; exact hm)
      have fin : ∀ y : Nat, y = mixLv ps l1 l2 i m → Same H (upd H2 D (.lst (((List.range m).map (mixLv ps l1 l2 i)).map vn ++ [vn y]))) ∧ (upd H2 D (.lst (((List.range m).map (mixLv ps l1 l2 i)).map vn ++ [vn y]))) D = some (.lst (((List.range (m + 1)).map (mixLv ps l1 l2 i)).map vn)) := fun y e => by
        refine ⟨smOver nD sm2, ?_⟩
        rw [upd_same, List.range_succ, List.map_append, List.map_append, e]
        rfl
      refine ⟨rt, _, rfl, .inr (tnL hrt), rfl, vn_flat _, _, rfl, ?_⟩
      by_cases c : i ∈ road ps m
      · refine ifT (by show inV (vn i) ((road ps m).map vn) = true; rw [inV_vn]; exact decide_eq_true c) ?_
        obtain ⟨f1, f2⟩ := fin _ (show l2.getD m 0 = mixLv ps l1 l2 i m from by unfold mixLv; rw [if_pos c])
        exact ⟨_, rfl, _, rfl, t2, _, (m : Int), _, rfl, rfl, tnL (sm2 _ _ h2), vn_ix g2, D, _, _, rfl, rfl, hD2, small1000 (by rw [List.length_map, List.length_map, List.length_range]; omega), f1, f2, _, _, rfl⟩
      · refine ifF (by show ¬ inV (vn i) ((road ps m).map vn) = true; rw [inV_vn]; simpa using c) ?_
        obtain ⟨f1, f2⟩ := fin _ (show l1.getD m 0 = mixLv ps l1 l2 i m from by unfold mixLv; rw [if_neg c])
        exact ⟨_, rfl, _, rfl, t1, _, (m : Int), _, rfl, rfl, tnL (sm2 _ _ h1), vn_ix g1, D, _, _, rfl, rfl, hD2, small1000 (by rw [List.length_map, List.length_map, List.length_range]; omega), f1, f2, _, _, rfl⟩
    · rintro σ H1 ⟨sm, hD, t5, t6, rfl⟩
      obtain ⟨q, hq⟩ := ps_at hi
      have hg : ∀ m, m < ps.length → ((List.range ps.length).map (mixLv ps l1 l2 i))[m]? = some (mixLv ps l1 l2 i m) := fun m hm => by rw [List.getElem?_map, List.getElem?_range hm]; rfl
      refine ⟨_, rfl, _, rfl, b, _, (i : Int), _, rfl, rfl, tpL (sm _ _ hb), vp_ix hq, ?_⟩
      have good : Lv ps ((List.range ps.length).map (mixLv ps l1 l2 i)) → ∀ r, H1 r = none → Q (.ref r) (upd H1 r (.tup (((List.range ps.length).map (mixLv ps l1 l2 i)).map vn))) := fun hv r nr => k r _ _ (sm.trans (smUpd nr)) hv upd_same
      refine ⟨_, rfl, rfl, _, rfl, ?_⟩
      cases q with
      | none =>
        refine ifF (by decide) ?_
        refine ifF (by decide) ?_
        exact ⟨_, rfl, D, _, rfl, .inl ⟨.inl (.inl hD), good (mix_ok hp v1 v2 hi fun p e => by rw [hq] at e; cases e)⟩⟩
      | some p =>
        refine ifT (by rw [vp_ne]; rfl) ?_
        have hpi := hp i p hq
        refine ⟨_, rfl, _, rfl, D, _, (i : Int), _, rfl, rfl, .inl (.inl hD), vn_ix (hg i hi), _, rfl, _, rfl, D, _, (p : Int), _, rfl, rfl, .inl (.inl hD), vn_ix (hg p (Nat.lt_trans hpi hi)), _, _, rfl, rfl, _, _, rfl, rfl, _, rfl, ?_⟩
        by_cases c : mixLv ps l1 l2 i i ≤ mixLv ps l1 l2 i p + 1
        · refine ifF (by rw [decide_eq_true_iff]; omega) ?_
          exact ⟨_, rfl, D, _, rfl, .inl ⟨.inl (.inl hD), good (mix_ok hp v1 v2 hi fun p' e => by rw [hq] at e; cases e; exact c)⟩⟩
        · refine ifT (by rw [decide_eq_true_iff]; omega) ?_
          exact k0 _ sm
end
end Cn
namespace Cn
open PySem PySem.Spec PyProof.Rows L2 Ck
/-! alike -/
theorem eqN {H : Hp} {a b : Addr} {ns : List Nat} (ha : TN H a ns) (hb : TN H b ns) (hl : ns.length ≤ 1000) : EqG H 1 (.ref a) (.ref b) :=
  .inr ⟨a, b, _, _, rfl, rfl, .inr ⟨ha, hb⟩, by rw [List.length_map]; exact Nat.le_trans hl (by decide), pairedSelf fun x hx => by
    obtain ⟨n, _, rfl⟩ := List.mem_map.mp hx
    exact ⟨rfl, .inl rfl⟩⟩
theorem eqL {H : Hp} {a b : Addr} {ns : List Nat} (ha : H a = some (.lst (ns.map vn))) (hb : H b = some (.lst (ns.map vn))) (hl : ns.length ≤ 1000) : EqG H 1 (.ref a) (.ref b) :=
  .inr ⟨a, b, _, _, rfl, rfl, .inl ⟨ha, hb⟩, by rw [List.length_map]; exact Nat.le_trans hl (by decide), pairedSelf fun x hx => by
    obtain ⟨n, _, rfl⟩ := List.mem_map.mp hx
    exact ⟨rfl, .inl rfl⟩⟩
theorem eqNote {H : Hp} {v u : V} {p : List Nat × List Nat} (h1 : p.1.length ≤ 1000) (h2 : p.2.length ≤ 1000) (hv : NoteR H v p) (hu : NoteR H u p) : EqG H 2 v u := by
  obtain ⟨t, x, y, rfl, e1, e2, e3⟩ := hv
  obtain ⟨t', x', y', rfl, f1, f2, f3⟩ := hu
  exact .inr ⟨t, t', _, _, rfl, rfl, .inr ⟨e1, f1⟩, by show 2 ≤ 4000; decide, .cons (eqN e2 f2 h1) (.cons (eqN e3 f3 h2) .nil)⟩
theorem eqNotes {H : Hp} : ∀ {us ws : List V} {ps : List (List Nat × List Nat)}, (∀ p ∈ ps, p.1.length ≤ 1000 ∧ p.2.length ≤ 1000) → NotesR H us ps → NotesR H ws ps → Paired (EqG H 2) us ws
  | _, _, _, _, .nil, .nil => .nil
  | _, _, _, b, .cons h1 t1, .cons h2 t2 => .cons (eqNote (b _ List.mem_cons_self).1 (b _ List.mem_cons_self).2 h1 h2) (eqNotes (fun p hp => b p (List.mem_cons_of_mem _ hp)) t1 t2)
section
variable {P : Program} {w : World} {K : PySem.W.Frag} {mg : Str → Option Value} {base : Heap} {C : Addr}
theorem dIs (B : Defs K mg C) : Def P w K mg base "_law_is" 6 ["_law_told_here", "_law_due"] (spJ 4) := by
  obtain ⟨f, fd, D⟩ := B.is
  exact ⟨f, fd, ok_is D.F (nOf B).is D.g D.b 4, D.g, D.F.kp, D.b⟩
end
end Cn
namespace Cn
open PySem PySem.Spec PyProof.Rows L2 Ck
theorem noteB {f : Fo} {lv : List Nat} (ok : FoOk f) : ∀ p ∈ notesOf f.ps f.be f.as lv f.ps.length, p.1.length ≤ 1000 ∧ p.2.length ≤ 1000 := by
  intro p hp
  unfold notesOf at hp
  obtain ⟨i, hi, rfl⟩ := List.mem_map.mp (List.mem_filter.mp hp).1
  have hi := List.mem_range.mp hi
  refine ⟨Nat.le_trans (List.length_filter_le _ _) (heldLen ok hi), Nat.le_trans (List.length_filter_le _ _) ?_⟩
  have := lotLen ok.as ok.al
  have := ok.l1
  omega
/-! the order's numbers -/
theorem mapGet {n : Nat} {g : Nat → Nat} {i : Nat} (h : i < n) : ((List.range n).map g).getD i 0 = g i := by
  rw [List.getD_eq_getElem?_getD, List.getElem?_map, List.getElem?_range h]; rfl
theorem lvMap {lv : List Nat} {g : Nat → Nat} {n : Nat} (hl : lv.length = n) (h : ∀ i, i < n → g i = lv.getD i 0) : (List.range n).map g = lv := by
  apply List.ext_getElem?
  intro i
  by_cases c : i < n
  · rw [List.getElem?_map, List.getElem?_range c, getD_at (by rw [hl]; exact c), ← h i c]; rfl
  · rw [List.getElem?_eq_none (by rw [List.length_map, List.length_range]; omega), List.getElem?_eq_none (by omega)]
theorem cutsOf_ok {ps : List (Option Nat)} {lv : List Nat} (hp : Ps ps) (hv : Lv ps lv) : CutsOk ps.length (ordOf ps lv ps.length) := by
  obtain ⟨h1, h2, _⟩ := ord_inv hp hv ps.length (Nat.le_refl _)
  exact ⟨ord_len _, h1, h2⟩
theorem idx_inj {cs : List Nat} {x y : Nat} (hx : x ∈ cs) (hy : y ∈ cs) (h : cs.idxOf x = cs.idxOf y) : x = y := by
  have h1 := List.getElem_idxOf (List.idxOf_lt_length_of_mem hx)
  have h2 := List.getElem_idxOf (List.idxOf_lt_length_of_mem hy)
  rw [← h1, ← h2]
  congr 1
theorem cnt_lv {ps : List (Option Nat)} {lv : List Nat} (hp : Ps ps) (hv : Lv ps lv) {i : Nat} (hi : i < ps.length) :
    cntMin ((road ps i).map fun x => ((List.range ps.length).map fun k => (ordOf ps lv ps.length).idxOf k).getD x 0) = lv.getD i 0 := by
  have hb : ∀ x ∈ road ps i, x < ps.length := fun x hx => Nat.lt_of_le_of_lt (road_le hp i hi x hx) hi
  have e : ((road ps i).map fun x => ((List.range ps.length).map fun k => (ordOf ps lv ps.length).idxOf k).getD x 0) = (road ps i).map fun x => (ordOf ps lv ps.length).idxOf x :=
    List.map_congr_left fun x hx => mapGet (hb x hx)
  rw [e, cnt_rlm (road_nd hp i hi) fun x hx y hy ne z => ne (idx_inj (((cutsOf_ok hp hv).mem x).mpr (hb x hx)) (((cutsOf_ok hp hv).mem y).mpr (hb y hy)) z)]
  exact ord_lv hp hv hi
section
variable {P : Program} {w : World} {K : PySem.W.Frag} {mg : Str → Option Value} {base : Heap} {C : Addr}
def spRight (C : Addr) : Sp := fun vs H Q _ => ∃ (r a t : Addr) (f : Fo) (lv : List Nat), vs = [.ref r, .ref a, .ref t] ∧ TolR H r f ∧ FoAt C H a f ∧ TN H t lv ∧ FoOk f ∧ Lv f.ps lv ∧ ∀ H', Same H H' → Q (.bl true) H'
def nRight : List Str := ["_law_told_here", "_law_made_here", "_law_levels_here", "_law_parents_here", "_law_places", "_law_cuts", "_law_ranks", "_law_place", "_law_stacks_here"]
theorem scRight : FnScope nRight ["_law_told_here", "_law_made_here", "_law_levels_here"] (defScope sRight) := ⟨rfl, rfl, rfl, by decide +kernel, rfl, by decide +kernel, by decide +kernel⟩
theorem dRight (B : Defs K mg C) : Def P w K mg base "_law_plan_right" 8 ["_law_told_here", "_law_made_here", "_law_levels_here"] (spRight C) := by
  obtain ⟨fI, fdI, GI, gI, kI, bI⟩ := dIsPlan (P := P) (w := w) (base := base) B
  obtain ⟨fC, fdC, GC, gC, kC, bC⟩ := dCutsOf (P := P) (w := w) (base := base) B
  obtain ⟨fJ, fdJ, GJ, gJ, kJ, bJ⟩ := dIs (P := P) (w := w) (base := base) B
  obtain ⟨fL, fdL, GL, gL, kL, bL⟩ := dLLevel (P := P) (w := w) (base := base) B
  obtain ⟨fO, fdO, GO, gO, kO, bO⟩ := dPlanOf (P := P) (w := w) (base := base) B
  obtain ⟨fT, fdT, GT, gT, kT, bT⟩ := dLStacks (P := P) (w := w) (base := base) B
  obtain ⟨fS, fdS, GS, gS, kS, bS⟩ := dStack (P := P) (w := w) (base := base) B
  obtain ⟨fN, fdN, GN, gN, kN, bN⟩ := dNotesOf (P := P) (w := w) (base := base) B
  obtain ⟨fM, fdM, GM, gM, kM, bM⟩ := dLNotes (P := P) (w := w) (base := base) B
  have N := nOf B
  refine def_of B.ri fun f fd F => ?_
  refine F.ok scRight (fun vs H Q E h => ?_) (fun cdv A outer s H vs Q E hr h => ?_)
  · obtain ⟨r, a, t, f, lv, rfl, _⟩ := h
    rfl
  · obtain ⟨r, a, t, fo, lv, rfl, hT, hF, ht, ok, hv, k⟩ := h
    have h1 : Room 1 (A.deeper (envOfC "_law_plan_right" (defScope sRight) s.heap.objs.size f cdv)) := Room.mono hr (by decide)
    have h2 : Room 2 (A.deeper (envOfC "_law_plan_right" (defScope sRight) s.heap.objs.size f cdv)) := Room.mono hr (by decide)
    have h3 : Room 3 (A.deeper (envOfC "_law_plan_right" (defScope sRight) s.heap.objs.size f cdv)) := Room.mono hr (by decide)
    have h4 : Room 4 (A.deeper (envOfC "_law_plan_right" (defScope sRight) s.heap.objs.size f cdv)) := Room.mono hr (by decide)
    have hr6 : Room 6 (A.deeper (envOfC "_law_plan_right" (defScope sRight) s.heap.objs.size f cdv)) := Room.mono hr (by decide)
    refine ⟨_, pss_cons (ps_set (i := 3) scRight.nd rfl (Or.inr rfl) (pe_ix ix_tup (pv 0) pe_int (fun _ _ => rfl)))
      (pss_cons (ps_set (i := 4) scRight.nd rfl (Or.inl rfl) (pe_callB call_len_seq (by rfl) N.is.len PySem.boot_len (pa_cons (pv 3) pa_nil)))
      (pss_cons (ps_if (pt_cmpR op_notBl (pe_call GI h3 (by rfl) gI kI bI .nil pass0 (pa_cons (pv 1) (pa_cons (pv 2) pa_nil))) pe_bl (nomark _)) (pss_one ps_never) pss_nil)
      (pss_cons (ps_set (i := 5) scRight.nd rfl (Or.inr rfl) (pe_call GC h4 (by rfl) gC kC bC .nil pass0 (pa_cons (pv 1) (pa_cons (pv 2) pa_nil))))
      (pss_cons (ps_if (PW.pt (pw_or (pt_not (pt_val (pe_callB call_isi (by rfl) N.is.inst (by decide +kernel) (pa_cons (pv 5) (pa_cons (pe_bltn (v := .ty "tuple") (by rfl) N.is.tup (by decide +kernel) rfl) pa_nil)))))
          (pw_or1 (pt_not (pt_val (pe_call GJ hr6 (by rfl) gJ kJ bJ .nil pass0 (pa_cons (pe_callB cr_sortTup (by rfl) N.sorted (by decide +kernel) (pa_cons (pv 5) pa_nil)) (pa_cons (pe_listRg rfl (by rfl) N.is.lst (prg_1 (by rfl) N.range (pv 4))) pa_nil))))))))
        (pss_one ps_never) pss_nil)
      (pss_cons (ps_set (i := 6) scRight.nd rfl (Or.inr rfl) (pe_lc (own := [("_law_place", 7)]) (g := gName 7) (tt := tYes) rfl scRight.nd (pi_range1 (by rfl) N.range (pa_cons (pv 4) pa_nil))
        (blkOk_by (N := nRight) (sc := defScope sRight) (by decide +kernel)) (fun _ _ _ _ _ => pg_name (i := 7) scRight.nd rfl (Or.inl rfl)) (fun _ _ _ _ _ => pts_nil) (fun _ _ _ _ _ => pe_bt (r := rTidx K) PySem.F.slot_tuple_index PySem.F.type_tuple_index mt_tidx (pv 5) (pa_cons (pv 7) pa_nil))))
      (pss_cons (ps_if (pt_cmpR (op_neD hr.units) (pe_callTy call_tuple_of (by rfl) N.is.tup (by decide +kernel) (pa_cons (pe_lc (own := [("_law_place", 7)]) (g := gName 7) (tt := tYes) rfl scRight.nd (pi_range1 (by rfl) N.range (pa_cons (pv 4) pa_nil))
        (blkOk_by (N := nRight) (sc := defScope sRight) (by decide +kernel)) (fun _ _ _ _ _ => pg_name (i := 7) scRight.nd rfl (Or.inl rfl)) (fun _ _ _ _ _ => pts_nil) (fun _ _ _ _ _ => pe_call GL h2 (by rfl) gL kL bL .nil pass0 (pa_cons (pv 3) (pa_cons (pv 6) (pa_cons (pv 7) pa_nil))))) pa_nil)) (pv 2) (nomark _)) (pss_one ps_never) pss_nil)
      (pss_cons (ps_if (pt_not (pt_val (pe_call GJ hr6 (by rfl) gJ kJ bJ .nil pass0 (pa_cons (pe_call GO hr6 (by rfl) gO kO bO .nil pass0 (pa_cons (pv 1) (pa_cons (pv 5) pa_nil))) (pa_cons (pv 2) pa_nil))))) (pss_one ps_never) pss_nil)
      (pss_cons (ps_set (i := 8) scRight.nd rfl (Or.inl rfl) (pe_call GT h1 (by rfl) gT kT bT .nil pass0 (pa_cons (pv 3) (pa_cons (pv 2) pa_nil))))
      (pss_cons (ps_for PassesOwn.never rfl (pi_range1 (by rfl) N.range (pa_cons (pv 4) pa_nil)) (pg_name (i := 7) scRight.nd rfl (Or.inl rfl))
        (pss_one (ps_if (pt_not (pt_val (pe_call GJ hr6 (by rfl) gJ kJ bJ .nil pass0 (pa_cons (pe_call GS h4 (by rfl) gS kS bS .nil pass0 (pa_cons (pv 1) (pa_cons (pv 2) (pa_cons (pv 7) pa_nil)))) (pa_cons (pe_ix ix_list (pv 8) (pv 7) (fun _ _ => rfl)) pa_nil))))) (pss_one ps_never) pss_nil)))
      (pss_one (ps_ret (pe_call GJ hr6 (by rfl) gJ kJ bJ .nil pass0 (pa_cons (pe_call GN hr (by rfl) gN kN bN .nil pass0 (pa_cons (pv 1) (pa_cons (pv 2) pa_nil))) (pa_cons (pe_call GM h2 (by rfl) gM kM bM .nil pass0 (pa_cons (pv 3) (pa_cons (pe_ix ix_tup (pv 0) pe_int (fun _ _ => rfl)) (pa_cons (pe_ix ix_tup (pv 0) pe_int (fun _ _ => rfl)) (pa_cons (pv 2) pa_nil))))) pa_nil)))))))))))))), ?_⟩
    obtain ⟨ap, ab, aa, e0, e1, e2, e3⟩ := hT
    have l60 := ok.l1
    have hlv : lv.length ≤ 1000 := by rw [hv.1]; omega
    refine ⟨_, rfl, r, _, (0 : Int), _, rfl, rfl, .inl (.inl e0), rfl, _, rfl, ap, _, rfl, .inr (tpL e1), ?_⟩
    rw [List.length_map]
    refine ⟨_, rfl, _, rfl, a, t, fo, lv, rfl, hF, ht, ok.ps, hv, fun H1 s1 => ⟨true, true, rfl, rfl, _, rfl, ?_⟩⟩
    refine ifF (by decide) ?_
    refine ⟨_, rfl, _, rfl, a, t, fo, lv, rfl, foAt_same s1 hF, s1 _ _ ht, ok.ps, ok.l1, hv, fun c H2 s12 hc => ?_⟩
    have s2 := s1.trans s12
    have co := cutsOf_ok ok.ps hv
    have hcl := cnt_lv ok.ps hv (i := 0)
    have cnt := fun i (hi : i < fo.ps.length) => cnt_lv ok.ps hv hi
    have olv := fun i (hi : i < fo.ps.length) => ord_lv ok.ps hv hi
    generalize ordOf fo.ps lv fo.ps.length = cs at hc co cnt olv
    refine ⟨_, rfl, _, .ty "tuple", _, _, true, rfl, .ty _, tdTy hc, kit_ty (by decide +kernel), true, rfl, ?_⟩
    refine ifF (by decide) ?_
    refine ⟨_, rfl, c, cs.map (fun k => ((k : Nat) : Int)), rfl, by rw [mapIV]; exact tdL hc, by rw [List.length_map, co.len]; omega, fun zs p hz hs np => ?_⟩
    rw [sortedRange co.nd co.mem hz hs, mapIV]
    have S3 := smUpd (o := .lst ((List.range fo.ps.length).map vn)) np
    have hp3 : upd H2 p (.lst ((List.range fo.ps.length).map vn)) p = some (.lst ((List.range fo.ps.length).map vn)) := upd_same
    generalize upd H2 p (.lst ((List.range fo.ps.length).map vn)) = H3 at S3 hp3 ⊢
    refine ⟨_, rfl, _, rfl, RgOk.of_le (by decide) (by omega) (by decide) (by omega), fun q nq => ?_⟩
    rw [rgN]
    have S4 := smUpd (o := .lst ((List.range fo.ps.length).map vn)) nq
    refine ⟨_, _, rfl, eqG_up (n := 1) (eqL (S4 _ _ hp3) upd_same (by rw [List.length_range]; omega)) (by decide), fun H5 s45 => ⟨true, rfl, ?_⟩⟩
    refine ifF (by decide) ?_
    have s25 := S3.trans (S4.trans s45)
    have s5 := s2.trans s25
    have hc5 := tdSame s25 hc
    -- ranks
    refine ⟨_, rfl, (fo.ps.length : Int), rfl, by omega, by omega, fun D nD => ?_⟩
    rw [Int.toNat_natCast]
    refine lc_range (lo := 0) (n := fo.ps.length) (fun i H' => Same H5 H' ∧ H' D = some (.lst (((List.range i).map fun k => cs.idxOf k).map vn))) ⟨smUpd nD, upd_same⟩ ?_ ?_
    · rintro i H' hi ⟨sm, hD⟩
      rw [show (0 : Int) + ((i : Nat) : Int) = ((i : Nat) : Int) from Int.zero_add _]
      have hc' := tdSame sm hc5
      obtain ⟨i1, i2⟩ := vn_idx ((co.mem i).mpr hi)
      refine ⟨rfl, _, rfl, ⟨c, _, rfl, hc'⟩, _, rfl, c, _, _, cs.idxOf i, _, rfl, rfl, tdL hc', rfl, vn_flat _, i1, by rw [vn_inj]; exact decide_eq_true rfl, i2, ?_⟩
      refine ⟨_, hD, small1000 (by rw [List.length_map, List.length_map, List.length_range]; omega), smOver nD sm, ?_⟩
      rw [upd_same, List.range_succ, List.map_append, List.map_append]
      rfl
    rintro H6 ⟨s56, hD⟩
    have s6 := s5.trans s56
    have hc6 := tdSame s56 hc5
    -- the levels by the ranks
    refine ⟨_, rfl, (fo.ps.length : Int), rfl, by omega, by omega, fun E nE => ?_⟩
    rw [Int.toNat_natCast]
    refine lc_range (lo := 0) (n := fo.ps.length) (fun i H' => Same H6 H' ∧ H' E = some (.lst (((List.range i).map fun k => lv.getD k 0).map vn))) ⟨smUpd nE, upd_same⟩ ?_ ?_
    · rintro i H' hi ⟨sm, hE⟩
      rw [show (0 : Int) + ((i : Nat) : Int) = ((i : Nat) : Int) from Int.zero_add _]
      refine ⟨rfl, _, rfl, _, rfl, _, rfl, ap, D, fo.ps, _, i, rfl, (s6.trans sm) _ _ e1, sm _ _ hD, by rw [List.length_map, List.length_range], ok.ps, ok.l1, hi, fun H7 s7 => ?_⟩
      rw [cnt i hi]
      refine ⟨_, s7 _ _ hE, small1000 (by rw [List.length_map, List.length_map, List.length_range]; omega), smOver nE (sm.trans s7), ?_⟩
      rw [upd_same, List.range_succ, List.map_append, List.map_append]
      rfl
    rintro H7 ⟨s67, hE⟩
    rw [lvMap hv.1 fun i _ => rfl] at hE
    refine ⟨E, _, rfl, .inl ⟨.inl (.inl hE), fun u nu => ?_⟩⟩
    have S8 := smUpd (o := .tup (lv.map vn)) nu
    have s8 := (s6.trans s67).trans S8
    have hc8 := tdSame (s67.trans S8) hc6
    have hu8 : TN (upd H7 u (.tup (lv.map vn))) u lv := upd_same
    generalize upd H7 u (.tup (lv.map vn)) = H8 at s8 hc8 hu8 ⊢
    refine ⟨_, rfl, .tuple (dn lv), .tuple (dn lv), .tup (tnL hu8) (dpN _), .tup (tnL (s8 _ _ ht)) (dpN _), dnShT _, dnShT _, _, rfl, ?_⟩
    refine ifF (by rw [dnEqT]; decide) ?_
    -- plan_of
    refine ⟨_, rfl, _, rfl, a, c, fo, cs, rfl, foAt_same s8 hF, hc8, ok.ps, ok.l1, co, fun o H9 s89 ho => ?_⟩
    rw [lvMap (g := lvOf fo.ps cs) hv.1 fun i hi => olv i hi] at ho
    have s9 := s8.trans s89
    refine ⟨_, rfl, _, _, rfl, eqG_up (n := 1) (eqN ho (s9 _ _ ht) hlv) (by decide), fun H10 s910 => ⟨true, rfl, ?_⟩⟩
    refine ifF (by decide) ?_
    have s10 := s9.trans s910
    -- stacks
    refine ⟨_, rfl, _, rfl, ap, t, fo.ps, lv, rfl, s10 _ _ e1, s10 _ _ ht, ok.ps, ok.l1, hv, fun st us H11 s1011 hst hR => ?_⟩
    have s11 := s10.trans s1011
    refine ⟨_, rfl, (fo.ps.length : Int), rfl, by omega, by omega, ?_⟩
    rw [Int.toNat_natCast]
    refine for_range (lo := 0) (n := fo.ps.length) (fun i σ H' => Same H11 H' ∧ ∃ t7 : Option V, σ = [some (.ref r), some (.ref a), some (.ref t), some (.ref ap), some (.int (fo.ps.length : Nat)), some (.ref c), some (.ref D), t7, some (.ref st)]) ⟨Same.refl _, _, rfl⟩ ?_ ?_
    · rintro i σ H' hi ⟨sm, t7, rfl⟩
      rw [show (0 : Int) + ((i : Nat) : Int) = ((i : Nat) : Int) from Int.zero_add _]
      have s' := s11.trans sm
      refine ⟨_, rfl, _, rfl, _, rfl, a, t, fo, lv, i, rfl, foAt_same s' hF, s' _ _ ht, ok.ps, ok.l1, hv, hi, fun v H12 s12' hv12 => ?_⟩
      obtain ⟨w', hw, hw2⟩ := (rowsSame (sm.trans s12') hR).2 i hi
      refine ⟨_, rfl, _, rfl, st, us, (i : Int), _, rfl, rfl, .inl (.inl ((sm.trans s12') _ _ hst)), atI_nat hw, ?_⟩
      refine ⟨_, _, rfl, eqG_up (n := 1) (eqN hv12 hw2 (Nat.le_trans (stkLe ok.ps hv ok.l1 hi) (by decide))) (by decide), fun H13 s13 => ⟨true, rfl, ?_⟩⟩
      refine ifF (by decide) ?_
      exact ⟨sm.trans (s12'.trans s13), _, rfl⟩
    · rintro σ H' ⟨sm, t7, rfl⟩
      have s' := s11.trans sm
      refine ⟨_, rfl, _, rfl, a, t, fo, lv, rfl, foAt_same s' hF, s' _ _ ht, ok, hv, fun n1 us1 H12 s12' hn1 hN1 => ?_⟩
      have s'' := s'.trans s12'
      refine ⟨_, rfl, _, rfl, r, _, (1 : Int), _, rfl, rfl, .inl (.inl (s'' _ _ e0)), rfl, _, rfl, r, _, (2 : Int), _, rfl, rfl, .inl (.inl (s'' _ _ e0)), rfl, _, rfl, ap, ab, aa, t, fo, lv, rfl, s'' _ _ e1, s'' _ _ e2, s'' _ _ e3, s'' _ _ ht, ok, hv, fun n2 us2 H13 s13 hn2 hN2 => ?_⟩
      have hl1 : us1.length ≤ 1000 := by rw [Paired.length hN1]; exact Nat.le_trans notes_len (by omega)
      exact ⟨_, _, rfl, .inr ⟨n1, n2, us1, us2, rfl, rfl, .inr ⟨s13 _ _ hn1, hn2⟩, Nat.le_trans hl1 (by decide), eqNotes (noteB ok) (notesSame s13 hN1) hN2⟩, fun H14 s14 => k H14 (s''.trans (s13.trans s14))⟩
end
end Cn
namespace Cn
open PySem PySem.Spec PyProof.Rows L2 Ck
/-! a dict made by a comprehension, its keys of any kind that a dict of the hand layer has (o0: the empty dict of that kind) -/
section
variable {X : Cx}
/-- stored by the comprehension -/
theorem putIn {pins : List (Addr × Obj)} {σ : L2.St} {H H' : Hp} {s : Shared} {E : Value → Shared → Prop} {D : Addr} {y z : V} {u r : Value} {Q : Unit → Shared → Prop} (hu : X.A.units + 1 < cLine) (I : Inv X pins σ H s) (put : DPut H D y z H') (ry : RelV y u) (rz : RelV z r) (k : ∀ s', Inv X pins σ H' s' → Q () s') : wpAny (model X.prog X.w) X.A (dictSet D u r) Q E s := by
  rcases put with ⟨kvs, q, hD, rfl, hl, rfl⟩ | ⟨kvs, q, b, hD, rfl, hb, hl, rfl⟩
  · exact L2.d_dictSet I hD hl ry rz k
  · cases (show u = Value.ref b from ry)
    obtain ⟨c1, c2, xs, rel, dd⟩ := dt_of I.hok hD
    have c3 : xs.length ≤ sizeLine := Paired.length rel ▸ c1
    have c4 : (putK kvs q z).length ≤ sizeLine := Nat.le_trans (length_putK kvs q z) hl
    refine wpAny_dictSet_heap (hsz := c3) (Nat.lt_of_succ_lt hu) (key_of I.hok hb) dd (fun g ⟨o, es, ep, e1, e2, e3, e4, _, e5⟩ same => k _ ?_)
    have kept : ∀ (c : Addr) (ys : List V), H c = some (.tup ys) → upd H D (.dT (putK kvs q z)) c = some (.tup ys) := fun c ys hc => (upd_ne (L2.ne_of hc hD nofun)).trans hc
    exact d_write I (hD ▸ True.intro) same ⟨o, e1⟩ ⟨c4, c2, _, (rel.put q hb rz).keeps fun c ys hc => kept c ys hc, o, es, ep, e1, e2, e3, e4, e5⟩
/-- a turn's word and the walk's, as for a list -/
def tDcP (o0 : HO) (wi : TI) (g : TG) (tt : TT) (tk tv : TE) (vs : List Nat) : TE := fun σ H Q => wi σ H fun J H1 => ∀ D, H1 D = none → ∃ W : Nat → Nat → Hp → Prop, (∃ m, W 0 m (upd H1 D o0)) ∧ ∀ i m G, W i m G → (J.stop i G ∧ Q (.ref D) G) ∨
  (J.go i G ∧ ∃ Nx : Hp → Prop, (∀ G', Nx G' → ∃ m', m' < m ∧ W (i + 1) m' G') ∧ ∀ x G', J.yld i G x G' → g x (wipe σ vs) G' fun τ G2 => wipe τ vs = wipe σ vs ∧ tt τ G2 fun b G3 => if b = true then tk τ G3 fun y G4 => tv τ G4 fun z G5 => ∃ G6, DPut G5 D y z G6 ∧ Nx G6 else Nx G3)
theorem dcP_core {pins : List (Addr × Obj)} {s : Shared} {σ : L2.St} {H : Hp} {Q : VK} {o0 : HO} {kx vx tg iter : Expr} {ifs : List Expr} {sc : Scope} {own : List (Str × Nat)} {pos ipos : Pos} {wi : TI} {g : TG} {tt : TT} {tk tv : TE} {use : Option (Value → Sem Unit)} {Qf : Value → Shared → Prop} (I : Inv X pins σ H s) (h0 : o0 = .dK [] ∨ o0 = .dT []) (hc : X.calm = true) (hu : X.A.units + 1 < cLine) (hN : X.N.Nodup) (hi : PI X tg iter wi) (ok : BlkOk X.N X.env.scope sc own)
    (hg : ∀ s H C cl fp, PG (X.blk s H sc (compEnvC sc cl C X.env) fp) tg g) (ht : ∀ s H C cl fp, PTs (X.blk s H sc (compEnvC sc cl C X.env) fp) ifs tt) (hk : ∀ s H C cl fp, PE (X.blk s H sc (compEnvC sc cl C X.env) fp) kx tk) (hv : ∀ s H C cl fp, PE (X.blk s H sc (compEnvC sc cl C X.env) fp) vx tv)
    (hs : ∀ x, foldedSetIterable iter X.env x = pure x) (hw : tDcP o0 wi g tt tk tv (own.map (·.2)) σ H Q)
    (last : ∀ D C t m G, Inv X pins σ G t → Q (.ref D) G → t.heap.Ns C m → FpOk X pins G C → compPost (model X.prog X.w) X.A X.xe use Qf (.ref D) C (.ok .next) t) :
    wpAny (model X.prog X.w) X.A (comprehension (.DictComp kx vx [⟨tg, iter, ifs, 0⟩] sc pos) sc X.env ipos newDict false (eval iter X.env) use) Qf X.xe s := by
  have cells : ∀ y ∈ sc.names, y.2 = .free → ∃ c, X.env.cells.lookup y.1 = some c := fun y hy e => (ok.free y hy e).elim (fun z => I.ok.has _ (.inl z)) (fun z => I.ok.has _ (.inr z))
  refine wpAny_comprehension_free (use := use) rfl hs (closure_ok cells) ok.kind (fun y hy e => (ok.uniq y hy).trans (congrArg some e)) ?_
  refine thn (hi.run pins s σ H _ I hw) fun _ sa wa => thn wa fun _ sb ⟨it, fp, tn, J, Ha, e, Ia, T, stA, okA, qq⟩ => ?_
  subst e
  refine wpAny_newObj_type (newEnv_comp ?_)
  obtain ⟨D, hD⟩ : ∃ D, sb.heap.objs.size = D := ⟨_, rfl⟩
  have fresh : Ha D = none := Ia.hok.fresh (Nat.le_of_eq hD)
  obtain ⟨W, ⟨m0, w0⟩, turn⟩ := qq D fresh
  obtain ⟨sd, ed⟩ : ∃ sd : Shared, ({ sb with heap := sb.heap.push { cls := .type "dict", data := .dict #[] } } : Shared) = sd := ⟨_, rfl⟩
  have heq : sd.heap = sb.heap.push { cls := .type "dict", data := .dict #[] } := ed ▸ rfl
  have Ib : Inv X pins σ (upd Ha D o0) sd := by
    subst ed hD
    refine Ia.laid (t' := sb.toks) (fun b o e => Heap.get?_push_of_some _ e) (Nat.le_refl _) ?_
    rcases h0 with rfl | rfl
    · exact dk_empty sb.heap Ia.big
    · exact dt_empty sb.heap Ia.big
  have below : ∀ b ∈ fp, b < sb.heap.objs.size := fun b hb => let ⟨_, e, _⟩ := T.obj _ _ stA b hb; Heap.lt_size e
  have okB : ∀ b ∈ fp, FpOk X pins (upd Ha D o0) b ∧ b < sd.heap.objs.size := fun b hb => by
    have lt := below b hb
    exact ⟨⟨(upd_ne (hD ▸ Nat.ne_of_lt lt)).trans (okA b hb).1, (okA b hb).2⟩, by rw [heq, Heap.size_push]; exact Nat.lt_succ_of_lt lt⟩
  have stB : tn 0 sd.heap := T.keep _ _ _ stA fun b _ o e => heq ▸ Heap.get?_push_of_some _ e
  have Ic := block_start Ib ok hN okB
  obtain ⟨C, hC⟩ : ∃ C, sd.heap.objs.size = C := ⟨_, rfl⟩
  rw [hC] at Ic
  obtain ⟨cl, hcl⟩ : ∃ cl, cellsFrom (C + 1) sc.names (cloFrom X.env.cells sc.names []) = cl := ⟨_, rfl⟩
  rw [hcl] at Ic
  obtain ⟨G, hG⟩ : ∃ G, upd Ha D o0 = G := ⟨_, rfl⟩
  rw [hG] at Ib Ic okB w0
  have rg := hg sd G C cl fp
  have rt := ht sd G C cl fp
  have rk := hk sd G C cl fp
  have rv := hv sd G C cl fp
  obtain ⟨ce, hce⟩ : ∃ ce, compEnvC sc cl C X.env = ce := ⟨_, rfl⟩
  have ceL : ce.locals = C := hce ▸ rfl
  rw [hce] at Ic rg rt rk rv
  obtain ⟨se, hse⟩ : ∃ se : Shared, ({ sd with heap := pushCells (sd.heap.push { cls := .type "dict", data := .dict #[] }) sc.names } : Shared) = se := ⟨_, rfl⟩
  rw [hse] at Ic
  have stC : tn 0 se.heap := T.keep _ _ _ stB fun b _ o e => hse ▸ pushCells_keeps _ _ _ _ (Heap.get?_push_of_some _ e)
  have none0 : ∀ b ∈ fp, G b = none := fun b hb => (okB b hb).1.1
  have looks : ∀ {σ' : L2.St} {H' : Hp} {s' : Shared}, Inv (X.blk sd G sc ce fp) [] σ' H' s' → (∀ b ∈ fp, H' b = none) → ∀ b ∈ fp, FpOk (X.blk sd G sc ce fp) [] H' b := fun I' z b hb =>
    ⟨z b hb, (I'.ok.exf b hb).1, I'.ok.exfs b hb, .inl hb, fun x c e => (I'.ok.exf b hb).2 x c e, fun p hp => nomatch (show p ∈ ([] : List (Addr × Obj)) from hp)⟩
  have whole : codeAny (model X.prog X.w) X.A (.compLoop (.DictComp kx vx [⟨tg, iter, ifs, 0⟩] sc pos) 0 (.ref it) (.ref D) ce) (compPost (model X.prog X.w) X.A X.xe use Qf (.ref D) C) se := by
    refine compLoop_anyD (fun n s' => ∃ i H', Inv (X.blk sd G sc ce fp) [] (wipe σ (own.map (·.2))) H' s' ∧ tn i s'.heap ∧ (∀ b ∈ fp, H' b = none) ∧ W i n H') ?_ m0 ⟨0, G, Ic, stC, none0, w0⟩
    rintro n t ⟨i, Ht, It, stT, noneT, wT⟩
    rcases turn i n Ht wT with ⟨stop, out⟩ | ⟨go, Nx, less, step⟩
    · refine thnF (T.done (X.blk sd G sc ce fp) rfl rfl rfl hc i [] t _ Ht (fun _ _ => False) It (looks It noneT) stT stop) fun r t' ⟨hr, Iu⟩ => ?_
      subst hr
      have back : Inv X pins σ Ht t' := Ib.call' (ch := fp) Iu.os Iu.base Iu.hok Iu.bare fun b hb => let z := (okB b hb).1.2; ⟨z.2.2.1, z.1, z.2.2.2.1, z.2.2.2.2⟩
      have gone : Ht C = none := ceL ▸ Iu.free
      obtain ⟨m, hm, _⟩ := Iu.loc
      have hm : t'.heap.Ns C m := ceL ▸ hm
      exact last D C t' m Ht back out hm (Ib.fpOk (Nat.le_of_eq hC) gone)
    · refine thnF (T.item (X.blk sd G sc ce fp) rfl rfl rfl hc i [] t _ Ht (fun _ _ => False) It (looks It noneT) stT go) fun r t1 ⟨u, hr, hh⟩ => ?_
      subst hr
      refine thnF hh fun _ t2 ⟨x, Hu, Iu, rx, yx, stU, noneU⟩ => ?_
      have Iw := Iu.pinned (looks Iu noneU) (T.obj _ _ stU)
      refine thnF (rg.run _ t2 _ Hu x u _ Iw rx (step x Hu yx)) fun _ t3 ⟨τ, Hv, Iv, wip, qv⟩ => ?_
      refine thnF (rt.run _ t3 τ Hv _ Iv qv) fun b t4 ⟨Hw, Ix, qw⟩ => ?_
      have onward : ∀ (t' : Shared) (H' : Hp), Inv (X.blk sd G sc ce fp) ([] ++ pinsAt fp t2.heap) τ H' t' → Nx H' → ∃ m, m < n ∧ ∃ i H', Inv (X.blk sd G sc ce fp) [] (wipe σ (own.map (·.2))) H' t' ∧ tn i t'.heap ∧ (∀ b ∈ fp, H' b = none) ∧ W i m H' := by
        intro t' H' I' nx
        obtain ⟨m, lt, wm⟩ := less H' nx
        have held : ∀ b ∈ fp, ∀ o, t2.heap.get? b = some o → t'.heap.get? b = some o ∧ H' b = none := fun b hb o e =>
          have z := I'.pin (b, o) (List.mem_append_right _ (List.mem_append_right _ (mem_pinsAt hb e)))
          ⟨z.1, z.2.1⟩
        refine ⟨m, lt, i + 1, H', (I'.unpinned (pins := [])).weak (by rw [← wip, wipe_length]) (fun j v e => (wipe_some (wip ▸ e : (wipe τ (own.map (·.2)))[j]? = some (some v))).1), T.keep _ _ _ stU fun b hb o e => (held b hb o e).1, fun b hb => ?_, wm⟩
        exact let ⟨o, e, _⟩ := T.obj _ _ stU b hb; (held b hb o e).2
      cases b with
      | false =>
        rw [if_neg Bool.false_ne_true] at qw
        rw [if_neg Bool.false_ne_true]
        exact onward t4 Hw Ix qw
      | true =>
        rw [if_pos rfl] at qw
        rw [if_pos rfl]
        refine thnF (rk.run _ t4 τ Hw _ Ix qw) fun z1 t5 ⟨y, Hy, Iy, ry, qy⟩ => ?_
        refine thnF (rv.run _ t5 τ Hy _ Iy qy) fun z2 t6 ⟨z, Hz, Iz, rz, He, put, nx⟩ => ?_
        exact putIn (X := X.blk sd G sc ce fp) hu Iz put ry rz fun t7 I7 => onward t7 He I7 nx
  have start := codeAny_compStart_dict whole (T.self X.A 0 _ _ _ stC whole)
  rw [← hC] at hcl
  subst hcl hce ed hse
  show codeAny _ _ _ _ _
  rw [hC] at start ⊢
  exact hD ▸ start
/-- as a value -/
theorem pe_dcP {o0 : HO} {kx vx tg iter : Expr} {ifs : List Expr} {sc : Scope} {own : List (Str × Nat)} {pos : Pos} {wi : TI} {g : TG} {tt : TT} {tk tv : TE} (h0 : o0 = .dK [] ∨ o0 = .dT []) (hc : X.calm = true) (hu : X.A.units + 1 < cLine) (hN : X.N.Nodup) (hi : PI X tg iter wi) (ok : BlkOk X.N X.env.scope sc own)
    (hg : ∀ s H C cl fp, PG (X.blk s H sc (compEnvC sc cl C X.env) fp) tg g) (ht : ∀ s H C cl fp, PTs (X.blk s H sc (compEnvC sc cl C X.env) fp) ifs tt) (hk : ∀ s H C cl fp, PE (X.blk s H sc (compEnvC sc cl C X.env) fp) kx tk) (hv : ∀ s H C cl fp, PE (X.blk s H sc (compEnvC sc cl C X.env) fp) vx tv)
    (hs : ∀ x, foldedSetIterable iter X.env x = pure x := by intro _; rfl) : PE X (.DictComp kx vx [⟨tg, iter, ifs, 0⟩] sc pos) (tDcP o0 wi g tt tk tv (own.map (·.2))) := by
  refine ⟨fun pins s σ H Q I hw => ?_⟩
  rw [arm_eval_DictComp]
  refine dcP_core I h0 hc hu hN hi ok hg ht hk hv hs hw fun D C t m G It q hm ⟨f0, f1, _, f3, f4, f5⟩ => ⟨m, hm, fun g' same => ?_⟩
  exact ⟨.ref D, G, It.turned (t' := t.toks) (fun b o hb e => (same.2 b hb).trans e) f0 f1 f3 f4 f5, rfl, q⟩
/-- stored under a name on its own row -/
theorem ps_setDcP {i : Nat} {y : Str} {py spos : Pos} {o0 : HO} {kx vx tg iter : Expr} {ifs : List Expr} {sc : Scope} {own : List (Str × Nat)} {pos : Pos} {wi : TI} {g : TG} {tt : TT} {tk tv : TE} (h0 : o0 = .dK [] ∨ o0 = .dT []) (hc : X.calm = true) (hu : X.A.units + 1 < cLine) (hN : X.N.Nodup) (hy : X.N[i]? = some y) (hl : X.env.scope.names.lookup y = some .local)
    (sw : swapsWith (.DictComp kx vx [⟨tg, iter, ifs, 0⟩] sc pos) (some (.Name y py)) spos.line X.env = pure true) (hi : PI X tg iter wi) (ok : BlkOk X.N X.env.scope sc own)
    (hg : ∀ s H C cl fp, PG (X.blk s H sc (compEnvC sc cl C X.env) fp) tg g) (ht : ∀ s H C cl fp, PTs (X.blk s H sc (compEnvC sc cl C X.env) fp) ifs tt) (hk : ∀ s H C cl fp, PE (X.blk s H sc (compEnvC sc cl C X.env) fp) kx tk) (hv : ∀ s H C cl fp, PE (X.blk s H sc (compEnvC sc cl C X.env) fp) vx tv)
    (hs : ∀ x, foldedSetIterable iter X.env x = pure x := by intro _; rfl) :
    PS X (.Assign [.Name y py] (.DictComp kx vx [⟨tg, iter, ifs, 0⟩] sc pos) spos) (tAsg (tDcP o0 wi g tt tk tv (own.map (·.2))) (gName i)) := by
  refine ⟨fun pins s σ H D I hw => ?_⟩
  rw [exec_Assign_Name_used _ _ _ _ sw]
  have hw : tDcP o0 wi g tt tk tv (own.map (·.2)) σ H (fun x G => gName i x σ G D.nx) := hw
  have go := dcP_core (pos := pos) (ipos := firstIterPos [⟨tg, iter, ifs, 0⟩] pos) (use := some (assign (.Name y py) X.env)) (Qf := fun _ s' => SP X pins D .next s') I h0 hc hu hN hi ok hg ht hk hv hs hw fun L C t m G It q hm f => by
    refine wpAny_assign_Name (store_ok2 (v := V.ref L) It hN hy (.inl hl) rfl (fun t2 I2 ⟨a, sb, ha⟩ => ?_) (.inr hl))
    have ne : C ≠ a := ha.elim (fun z => z ▸ f.2.1) (fun z e => f.2.2.2.2.1 y a z e.symm)
    exact ⟨m, hm.sameBut sb ne, fun g' same => ⟨_, G, I2.turned (t' := t2.toks) (fun b o hb e => (same.2 b hb).trans e) f.1 f.2.1 f.2.2.2.1 f.2.2.2.2.1 f.2.2.2.2.2, q⟩⟩
  exact wpAny_bind (wpAny_standAt (wpAny_bind (wpAny_bind (thn go fun _ _ z => wpAny_pure (wpAny_pure z)))))
theorem sw_dict {kx vx : Expr} {gs : List Comprehension} {sc : Scope} {pos py : Pos} {y : Str} {l : Nat} {env : Env} (hk : env.scope.kind = .function) (hy : env.scope.names.lookup y = some .local) (hl : (py.line == pos.line) = true) (ha : (sc.names.any fun q => q.1 == y && (q.2 == .local || q.2 == .cell)) = false) :
    swapsWith (.DictComp kx vx gs sc pos) (some (.Name y py)) l env = pure true := by
  have e1 : env.kindOf y = some .local := hy
  have e2 : env.blockKind = .function := by unfold Env.blockKind; rw [hk]; rfl
  show (pure (env.blockKind == ScopeKind.function && env.kindOf y == some NameKind.local && py.line == pos.line && !(sc.names.any fun q => q.1 == y && (q.2 == .local || q.2 == .cell))) : Sem Bool) = pure true
  rw [e1, e2, hl, ha]
  rfl
end
end Cn
namespace Cn
open PySem PySem.Spec PyProof.Rows L2 Ck
theorem ixNat {n i : Nat} (h : i < n) : ixN n (i : Int) = some i := by
  unfold ixN
  rw [if_pos (Int.natCast_nonneg _), if_pos (by omega), Int.toNat_natCast]
theorem noneBack {H H1 : Hp} {D : Addr} (s : Same H H1) (h : H1 D = none) : H D = none := by
  cases e : H D with
  | none => rfl
  | some o => rw [s _ _ e] at h; cases h
end Cn
namespace Cn
/-! notes held, counted twice -/
theorem countP_or {α : Type} {f g : α → Bool} : ∀ {l : List α}, (∀ x ∈ l, ¬ (f x = true ∧ g x = true)) → (l.countP fun x => f x || g x) = l.countP f + l.countP g
  | [], _ => rfl
  | x :: l, h => by
    have ih := countP_or (f := f) (g := g) (l := l) fun y hy => h y (List.mem_cons_of_mem _ hy)
    have hx := h x List.mem_cons_self
    rw [List.countP_cons, List.countP_cons, List.countP_cons, ih]
    cases a : f x <;> cases b : g x <;> simp_all <;> omega
theorem countP_one {p : Nat × Nat} : ∀ {l : List (Nat × Nat)}, l.Nodup → p ∈ l → (l.countP fun q => decide (q = p)) = 1
  | x :: l, nd, h => by
    obtain ⟨n1, n2⟩ := List.nodup_cons.mp nd
    rw [List.countP_cons]
    by_cases e : x = p
    · subst e
      rw [List.countP_eq_zero.mpr fun q hq => by simp only [decide_eq_true_eq]; exact fun z => n1 (z ▸ hq)]
      simp
    · rw [countP_one n2 ((List.mem_cons.mp h).resolve_left fun z => e z.symm)]
      simp [e]
theorem countRow {i : Nat} {prs : List (Nat × Nat)} (nd : prs.Nodup) : ∀ {js : List Nat}, js.Nodup → (∀ j ∈ js, (i, j) ∈ prs) → (prs.countP fun q => decide (q.1 = i) && decide (q.2 ∈ js)) = js.length
  | [], _, _ => List.countP_eq_zero.mpr fun q _ => by simp
  | j :: js, h, m => by
    obtain ⟨n1, n2⟩ := List.nodup_cons.mp h
    have ih := countRow (js := js) nd n2 fun k hk => m k (List.mem_cons_of_mem _ hk)
    have e : (prs.countP fun q => decide (q.1 = i) && decide (q.2 ∈ j :: js)) = prs.countP fun q => decide (q = (i, j)) || (decide (q.1 = i) && decide (q.2 ∈ js)) := by
      refine List.countP_congr fun q _ => ?_
      simp only [Bool.and_eq_true, Bool.or_eq_true, decide_eq_true_eq, List.mem_cons]
      constructor
      · rintro ⟨a, b | b⟩
        · exact .inl (Prod.ext a b)
        · exact .inr ⟨a, b⟩
      · rintro (z | ⟨a, b⟩)
        · rw [z]; exact ⟨rfl, .inl rfl⟩
        · exact ⟨a, .inr b⟩
    rw [e, countP_or fun q _ => ?_, countP_one nd (m j List.mem_cons_self), ih, List.length_cons, Nat.add_comm]
    rintro ⟨a, b⟩
    simp only [Bool.and_eq_true, decide_eq_true_eq] at a b
    rw [a] at b
    exact n1 b.2
theorem countBox {prs : List (Nat × Nat)} {js : List Nat} (nd : prs.Nodup) (hj : js.Nodup) : ∀ {is : List Nat}, is.Nodup → (∀ i ∈ is, ∀ j ∈ js, (i, j) ∈ prs) → (prs.countP fun q => decide (q.1 ∈ is) && decide (q.2 ∈ js)) = is.length * js.length
  | [], _, _ => by rw [List.length_nil, Nat.zero_mul]; exact List.countP_eq_zero.mpr fun q _ => by simp
  | i :: is, h, m => by
    obtain ⟨n1, n2⟩ := List.nodup_cons.mp h
    have ih := countBox (is := is) nd hj n2 fun k hk => m k (List.mem_cons_of_mem _ hk)
    have e : (prs.countP fun q => decide (q.1 ∈ i :: is) && decide (q.2 ∈ js)) = prs.countP fun q => (decide (q.1 = i) && decide (q.2 ∈ js)) || (decide (q.1 ∈ is) && decide (q.2 ∈ js)) := by
      refine List.countP_congr fun q _ => ?_
      simp only [Bool.and_eq_true, Bool.or_eq_true, decide_eq_true_eq, List.mem_cons]
      constructor
      · rintro ⟨a | a, b⟩
        · exact .inl ⟨a, b⟩
        · exact .inr ⟨a, b⟩
      · rintro (⟨a, b⟩ | ⟨a, b⟩)
        · exact ⟨.inl a, b⟩
        · exact ⟨.inr a, b⟩
    rw [e, countP_or fun q _ => ?_, countRow nd hj (m i List.mem_cons_self), ih, List.length_cons, Nat.add_mul, Nat.one_mul, Nat.add_comm]
    rintro ⟨a, b⟩
    simp only [Bool.and_eq_true, decide_eq_true_eq] at a b
    rw [a.1] at b
    exact n1 b.1
theorem sumAdd {α : Type} {f g : α → Nat} : ∀ {l : List α}, (l.map fun x => f x + g x).sum = (l.map f).sum + (l.map g).sum
  | [] => rfl
  | x :: l => by
    have := sumAdd (f := f) (g := g) (l := l)
    simp only [List.map_cons, List.sum_cons]
    omega
theorem sumCount {α : Type} {c : α → Bool} : ∀ {l : List α}, (l.map fun x => if c x = true then 1 else 0).sum = l.countP c
  | [] => rfl
  | x :: l => by
    have := sumCount (c := c) (l := l)
    simp only [List.map_cons, List.sum_cons, List.countP_cons]
    omega
theorem sumLe {α : Type} {f : α → Nat} : ∀ {l : List α}, (∀ x ∈ l, 1 ≤ f x) → l.length ≤ (l.map f).sum ∧ ((l.map f).sum = l.length ↔ ∀ x ∈ l, f x ≤ 1)
  | [], _ => ⟨Nat.le_refl _, by simp⟩
  | x :: l, h => by
    obtain ⟨h1, h2⟩ := sumLe (l := l) fun y hy => h y (List.mem_cons_of_mem _ hy)
    have hx := h x List.mem_cons_self
    simp only [List.map_cons, List.sum_cons, List.length_cons, List.forall_mem_cons]
    refine ⟨by omega, fun e => ⟨by omega, h2.mp (by omega)⟩, fun ⟨a, b⟩ => ?_⟩
    have := h2.mpr b
    omega
end Cn
namespace Ck
/-! over and under, once more -/
section
variable {ps : List (Option Nat)}
theorem rd_cases (hp : Ps ps) {x y : Nat} (hy : y < ps.length) (h : x ∈ road ps y) : x = y ∨ ∃ p, ps[y]? = some (some p) ∧ p < y ∧ x ∈ road ps p := by
  rcases opt_cases hy with e | ⟨p, e⟩
  · rw [road_none e] at h
    exact .inl (List.mem_singleton.mp h)
  · rw [road_some hp e] at h
    rcases List.mem_append.mp h with h | h
    · exact .inr ⟨p, e, hp y p e, h⟩
    · exact .inl (List.mem_singleton.mp h)
theorem rd_up (hp : Ps ps) {x y p : Nat} (e : ps[y]? = some (some p)) (h : x ∈ road ps p) : x ∈ road ps y := by
  rw [road_some hp e]
  exact List.mem_append_left _ h
theorem rd_trans (hp : Ps ps) {x y : Nat} : ∀ z, z < ps.length → x ∈ road ps y → y ∈ road ps z → x ∈ road ps z := by
  intro z
  induction z using Nat.strongRecOn with
  | ind z ih =>
    intro hz hxy hyz
    rcases rd_cases hp hz hyz with rfl | ⟨p, e, hpz, h⟩
    · exact hxy
    · exact rd_up hp e (ih p hpz (Nat.lt_trans hpz hz) hxy h)
theorem rd_lin (hp : Ps ps) {x y : Nat} : ∀ z, z < ps.length → x ∈ road ps z → y ∈ road ps z → x ∈ road ps y ∨ y ∈ road ps x := by
  intro z
  induction z using Nat.strongRecOn with
  | ind z ih =>
    intro hz hx hy
    rcases rd_cases hp hz hx with rfl | ⟨p, e, hpz, h⟩
    · exact .inr hy
    · rcases rd_cases hp hz hy with rfl | ⟨p', e', _, h'⟩
      · exact .inl hx
      · rw [e] at e'
        cases e'
        exact ih p hpz (Nat.lt_trans hpz hz) h h'
theorem rd_anti (hp : Ps ps) {x y : Nat} (hx : x < ps.length) (hy : y < ps.length) (h : x ∈ road ps y) (k : y ∈ road ps x) : x = y := by
  have := road_le hp y hy x h
  have := road_le hp x hx y k
  omega
theorem rd_lt (hp : Ps ps) {x y : Nat} (hy : y < ps.length) (h : x ∈ road ps y) : x < ps.length := Nat.lt_of_le_of_lt (road_le hp y hy x h) hy
theorem road_asc (hp : Ps ps) : ∀ z, z < ps.length → (road ps z).Pairwise (· < ·) := by
  intro z
  induction z using Nat.strongRecOn with
  | ind z ih =>
    intro hz
    rcases opt_cases hz with e | ⟨p, e⟩
    · rw [road_none e]; exact List.pairwise_singleton _ _
    · have hl := hp z p e
      rw [road_some hp e, List.pairwise_append]
      refine ⟨ih p hl (Nat.lt_trans hl hz), List.pairwise_singleton _ _, fun a ha b hb => ?_⟩
      rw [List.mem_singleton.mp hb]
      exact Nat.lt_of_le_of_lt (road_le hp p (Nat.lt_trans hl hz) a ha) hl
end
/-! the topmost place up to which none is cut -/
def top (ps : List (Option Nat)) (cut : List Nat) (i : Nat) : Nat :=
  match ps[i]? with
  | some (some p) => if _h : p < i then (if p ∈ cut then i else top ps cut p) else i
  | _ => i
termination_by i
section
variable {ps : List (Option Nat)} {cut : List Nat}
theorem top_none {i : Nat} (h : ps[i]? = some none) : top ps cut i = i := by rw [top, h]
theorem top_cut {i p : Nat} (hp : Ps ps) (h : ps[i]? = some (some p)) (c : p ∈ cut) : top ps cut i = i := by
  rw [top, h]
  dsimp only
  rw [dif_pos (hp i p h), if_pos c]
theorem top_up {i p : Nat} (hp : Ps ps) (h : ps[i]? = some (some p)) (c : p ∉ cut) : top ps cut i = top ps cut p := by
  rw [top, h]
  dsimp only
  rw [dif_pos (hp i p h), if_neg c]
theorem top_road (hp : Ps ps) : ∀ x, x < ps.length → top ps cut x ∈ road ps x := by
  intro x
  induction x using Nat.strongRecOn with
  | ind x ih =>
    intro hx
    rcases opt_cases hx with e | ⟨p, e⟩
    · rw [top_none e]; exact road_self hp hx
    · by_cases c : p ∈ cut
      · rw [top_cut hp e c]; exact road_self hp hx
      · rw [top_up hp e c]
        exact rd_up hp e (ih p (hp x p e) (Nat.lt_trans (hp x p e) hx))
theorem top_free (hp : Ps ps) : ∀ x, x < ps.length → x ∉ cut → top ps cut x ∉ cut := by
  intro x
  induction x using Nat.strongRecOn with
  | ind x ih =>
    intro hx nx
    rcases opt_cases hx with e | ⟨p, e⟩
    · rw [top_none e]; exact nx
    · by_cases c : p ∈ cut
      · rw [top_cut hp e c]; exact nx
      · rw [top_up hp e c]
        exact ih p (hp x p e) (Nat.lt_trans (hp x p e) hx) c
/-- all from the topmost one down are alike -/
theorem top_seg (hp : Ps ps) {z : Nat} : ∀ x, x < ps.length → x ∉ cut → z ∈ road ps x → top ps cut x ∈ road ps z → z ∉ cut ∧ top ps cut z = top ps cut x := by
  intro x
  induction x using Nat.strongRecOn with
  | ind x ih =>
    intro hx nx hz ht
    rcases rd_cases hp hx hz with rfl | ⟨p, e, hpx, h⟩
    · exact ⟨nx, rfl⟩
    · by_cases c : p ∈ cut
      · rw [top_cut hp e c] at ht
        have h1 := road_le hp p (Nat.lt_trans hpx hx) z h
        have h2 := road_le hp z (Nat.lt_of_le_of_lt h1 (Nat.lt_trans hpx hx)) x ht
        omega
      · rw [top_up hp e c] at ht ⊢
        exact ih p hpx (Nat.lt_trans hpx hx) c h ht
theorem top_same (hp : Ps ps) {y : Nat} : ∀ x, x < ps.length → y ∈ road ps x → (∀ z ∈ road ps x, y ∈ road ps z → z ≠ x → z ∉ cut) → top ps cut x = top ps cut y := by
  intro x
  induction x using Nat.strongRecOn with
  | ind x ih =>
    intro hx hy hf
    rcases rd_cases hp hx hy with rfl | ⟨p, e, hpx, h⟩
    · rfl
    · have hpl := Nat.lt_trans hpx hx
      have c : p ∉ cut := hf p (rd_up hp e (road_self hp hpl)) h (Nat.ne_of_lt hpx)
      rw [top_up hp e c]
      refine ih p hpx hpl h fun z hz hyz _ => hf z (rd_up hp e hz) hyz fun e2 => ?_
      have := road_le hp p hpl z hz
      omega
/-- joined with a place over it just if none between is cut -/
theorem join_iff (hp : Ps ps) {x y : Nat} (hx : x < ps.length) (hy : y ∈ road ps x) : (x ∉ cut ∧ top ps cut x = top ps cut y) ↔ ∀ z ∈ road ps x, y ∈ road ps z → z ∉ cut := by
  have hyl := rd_lt hp hx hy
  constructor
  · rintro ⟨nx, e⟩ z hz hyz
    have hzl := rd_lt hp hx hz
    exact (top_seg hp x hx nx hz (e ▸ rd_trans hp z hzl (top_road hp y hyl) hyz)).1
  · intro h
    exact ⟨h x (road_self hp hx) hy, top_same hp x hx hy fun z hz hyz _ => h z hz hyz⟩
/-! one place more cut -/
theorem cut_far (hp : Ps ps) {x : Nat} : ∀ y, y < ps.length → ¬ (x ∈ road ps y ∧ top ps cut y = top ps cut x) → top ps (x :: cut) y = top ps cut y := by
  intro y
  induction y using Nat.strongRecOn with
  | ind y ih =>
    intro hy hn
    rcases opt_cases hy with e | ⟨p, e⟩
    · rw [top_none e, top_none e]
    · by_cases c : p ∈ cut
      · rw [top_cut hp e c, top_cut hp e (List.mem_cons_of_mem _ c)]
      · have hpy := hp y p e
        have hpl := Nat.lt_trans hpy hy
        have nx : p ≠ x := fun z => by
          subst z
          exact hn ⟨rd_up hp e (road_self hp hpl), top_up hp e c⟩
        rw [top_up hp e c, top_up hp e (fun z => (List.mem_cons.mp z).elim nx c)]
        exact ih p hpy hpl fun z => hn ⟨rd_up hp e z.1, by rw [top_up hp e c]; exact z.2⟩
theorem cut_near (hp : Ps ps) {x : Nat} : ∀ y, y < ps.length → y ∉ cut → y ≠ x → x ∈ road ps y → top ps cut y = top ps cut x → ps[top ps (x :: cut) y]? = some (some x) ∧ top ps (x :: cut) y ∈ road ps y ∧ ∀ c, ps[c]? = some (some x) → c ∈ road ps y → top ps (x :: cut) y = c := by
  intro y
  induction y using Nat.strongRecOn with
  | ind y ih =>
    intro hy ny ne hx ht
    rcases rd_cases hp hy hx with z | ⟨p, e, hpy, h⟩
    · exact absurd z.symm ne
    · have hpl := Nat.lt_trans hpy hy
      by_cases px : p = x
      · subst px
        have et : top ps (p :: cut) y = y := top_cut hp e List.mem_cons_self
        rw [et]
        refine ⟨e, road_self hp hy, fun c hc hcy => ?_⟩
        rcases rd_cases hp hy hcy with z | ⟨p', e', _, h'⟩
        · exact z.symm
        · rw [e] at e'
          cases e'
          have := road_le hp p hpl c h'
          have := hp c p hc
          omega
      · have c : p ∉ cut := fun c => by
          rw [top_cut hp e c] at ht
          have hxl := rd_lt hp hy hx
          have h1 := road_le hp x hxl _ (top_road (cut := cut) hp x hxl)
          have h2 := road_le hp p hpl x h
          omega
        have et : top ps (x :: cut) y = top ps (x :: cut) p := top_up hp e fun z => (List.mem_cons.mp z).elim px c
        rw [top_up hp e c] at ht
        obtain ⟨i1, i2, i3⟩ := ih p hpy hpl c px h ht
        rw [et]
        refine ⟨i1, rd_up hp e i2, fun c' hc hcy => ?_⟩
        rcases rd_cases hp hy hcy with z | ⟨p', e', _, h'⟩
        · subst z
          rw [e] at hc
          cases hc
          exact absurd rfl px
        · rw [e] at e'
          cases e'
          exact i3 c' hc h'
/-! the pieces -/
def comp (ps : List (Option Nat)) (cut : List Nat) (r : Nat) : List Nat := (List.range ps.length).filter fun y => decide (y ∉ cut) && decide (top ps cut y = r)
theorem comp_mem {r y : Nat} : y ∈ comp ps cut r ↔ y < ps.length ∧ y ∉ cut ∧ top ps cut y = r := by
  unfold comp
  rw [List.mem_filter, List.mem_range, Bool.and_eq_true, decide_eq_true_iff, decide_eq_true_iff]
/-- as the law cuts a piece at a place -/
def cutL (ps : List (Option Nat)) (pc : List Nat) (x : Nat) : List (List Nat) :=
  ((pc.filter fun y => !decide (y ∈ pc.filter fun y => decide (x ∈ road ps y))) ::
    ((pc.filter fun y => decide (x ∈ road ps y)).filter fun c => decide (ps[c]? = some (some x))).map fun c => (pc.filter fun y => decide (x ∈ road ps y)).filter fun y => decide (c ∈ road ps y)).filter fun l => !l.isEmpty
structure Tops (ps : List (Option Nat)) (cut : List Nat) (rs : List Nat) : Prop where
  nd : rs.Nodup
  mem : ∀ r, r ∈ rs ↔ r < ps.length ∧ r ∉ cut ∧ top ps cut r = r
theorem filter_eq {α : Type} {f g : α → Bool} {xs : List α} (h : ∀ x ∈ xs, f x = g x) : xs.filter f = xs.filter g := List.filter_congr h
/-- the piece of a place, cut at it -/
theorem cut_parts (hp : Ps ps) {x : Nat} (hx : x < ps.length) (nx : x ∉ cut) : cutL ps (comp ps cut (top ps cut x)) x = ((if top ps cut x = x then [] else [top ps cut x]) ++ (List.range ps.length).filter fun c => decide (c ∉ cut) && decide (ps[c]? = some (some x))).map (comp ps (x :: cut)) := by
  have hr := top_road (cut := cut) hp x hx
  have hrl := rd_lt hp hx hr
  have hrx := road_le hp x hx _ hr
  -- those under it
  have eu : ((comp ps cut (top ps cut x)).filter fun y => decide (x ∈ road ps y)).filter (fun c => decide (ps[c]? = some (some x))) = (List.range ps.length).filter fun c => decide (c ∉ cut) && decide (ps[c]? = some (some x)) := by
    unfold comp
    rw [List.filter_filter, List.filter_filter]
    refine List.filter_congr fun c hc => ?_
    have hcl := List.mem_range.mp hc
    rw [Bool.eq_iff_iff]
    simp only [Bool.and_eq_true, decide_eq_true_eq]
    constructor
    · rintro ⟨⟨a, b⟩, d, e⟩
      exact ⟨d, a⟩
    · rintro ⟨d, a⟩
      exact ⟨⟨a, rd_up hp a (road_self hp hx)⟩, d, top_up hp a nx⟩
  have ec : ∀ c, c < ps.length → c ∉ cut → ps[c]? = some (some x) → ((comp ps cut (top ps cut x)).filter fun y => decide (x ∈ road ps y)).filter (fun y => decide (c ∈ road ps y)) = comp ps (x :: cut) c := by
    intro c hc nc e
    have hxc := hp c x e
    unfold comp
    rw [List.filter_filter, List.filter_filter]
    refine List.filter_congr fun y hy => ?_
    have hyl := List.mem_range.mp hy
    rw [Bool.eq_iff_iff]
    simp only [Bool.and_eq_true, decide_eq_true_eq]
    constructor
    · rintro ⟨⟨a, b⟩, d, t⟩
      have ne : y ≠ x := fun z => by
        subst z
        have := road_le hp y hyl c a
        omega
      exact ⟨fun z => (List.mem_cons.mp z).elim ne d, (cut_near hp y hyl d ne b t).2.2 c e a⟩
    · rintro ⟨d, t⟩
      have dc : y ∉ cut := fun z => d (List.mem_cons_of_mem _ z)
      have hcy : c ∈ road ps y := t ▸ top_road hp y hyl
      have hxy : x ∈ road ps y := rd_trans hp y hyl (rd_up hp e (road_self hp hx)) hcy
      by_cases j : x ∈ road ps y ∧ top ps cut y = top ps cut x
      · exact ⟨⟨hcy, hxy⟩, dc, j.2⟩
      · have := cut_far hp y hyl j
        rw [t] at this
        have h2 := top_seg hp y hyl dc hcy (this ▸ road_self hp hc)
        rw [← h2.2, top_up hp e nx] at this
        exact absurd ⟨hxy, by rw [← h2.2, top_up hp e nx]⟩ j
  have er : ((comp ps cut (top ps cut x)).filter fun y => !decide (y ∈ (comp ps cut (top ps cut x)).filter fun y => decide (x ∈ road ps y))) = if top ps cut x = x then [] else comp ps (x :: cut) (top ps cut x) := by
    have e1 : ((comp ps cut (top ps cut x)).filter fun y => !decide (y ∈ (comp ps cut (top ps cut x)).filter fun y => decide (x ∈ road ps y))) = (comp ps cut (top ps cut x)).filter fun y => !decide (x ∈ road ps y) := by
      refine List.filter_congr fun y hy => ?_
      congr 1
      rw [Bool.eq_iff_iff, decide_eq_true_iff, decide_eq_true_iff, List.mem_filter, decide_eq_true_iff]
      exact ⟨fun z => z.2, fun z => ⟨hy, z⟩⟩
    rw [e1]
    by_cases c : top ps cut x = x
    · rw [if_pos c, List.filter_eq_nil_iff]
      intro y hy
      obtain ⟨hyl, _, t⟩ := comp_mem.mp hy
      have := top_road (cut := cut) hp y hyl
      rw [t, c] at this
      simpa using this
    · rw [if_neg c]
      have nr : x ∉ road ps (top ps cut x) := fun z => c (rd_anti hp hrl hx hr z)
      unfold comp
      rw [List.filter_filter]
      refine List.filter_congr fun y hy => ?_
      have hyl := List.mem_range.mp hy
      rw [Bool.eq_iff_iff]
      simp only [Bool.and_eq_true, decide_eq_true_eq, Bool.not_eq_true', decide_eq_false_iff_not]
      constructor
      · rintro ⟨a, d, t⟩
        refine ⟨fun z => (List.mem_cons.mp z).elim (fun z => a (by rw [← z]; exact road_self hp hyl)) d, ?_⟩
        rw [cut_far hp y hyl (fun z => a z.1)]
        exact t
      · rintro ⟨d, t⟩
        have dc : y ∉ cut := fun z => d (List.mem_cons_of_mem _ z)
        have ne : y ≠ x := fun z => d (z ▸ List.mem_cons_self)
        have j : ¬ (x ∈ road ps y ∧ top ps cut y = top ps cut x) := fun j => by
          have h1 := (cut_near hp y hyl dc ne j.1 j.2).1
          rw [t] at h1
          have := hp _ _ h1
          omega
        have e2 := cut_far hp y hyl j
        rw [t] at e2
        exact ⟨fun z => j ⟨z, e2.symm⟩, dc, e2.symm⟩
  unfold cutL
  rw [er, eu]
  have em : (((List.range ps.length).filter fun c => decide (c ∉ cut) && decide (ps[c]? = some (some x))).map fun c => ((comp ps cut (top ps cut x)).filter fun y => decide (x ∈ road ps y)).filter fun y => decide (c ∈ road ps y)) = ((List.range ps.length).filter fun c => decide (c ∉ cut) && decide (ps[c]? = some (some x))).map (comp ps (x :: cut)) := by
    refine List.map_congr_left fun c hc => ?_
    obtain ⟨h1, h2⟩ := List.mem_filter.mp hc
    simp only [Bool.and_eq_true, decide_eq_true_eq] at h2
    exact ec c (List.mem_range.mp h1) h2.1 h2.2
  rw [em]
  have ne : ∀ r, r < ps.length → r ∉ cut → r ≠ x → top ps (x :: cut) r = r → (!(comp ps (x :: cut) r).isEmpty) = true := fun r hr n1 n2 t => by
    have : r ∈ comp ps (x :: cut) r := comp_mem.mpr ⟨hr, fun z => (List.mem_cons.mp z).elim n2 n1, t⟩
    cases h : comp ps (x :: cut) r with
    | nil => rw [h] at this; cases this
    | cons _ _ => rfl
  have hch : (((List.range ps.length).filter fun c => decide (c ∉ cut) && decide (ps[c]? = some (some x))).map (comp ps (x :: cut))).filter (fun l => !l.isEmpty) = ((List.range ps.length).filter fun c => decide (c ∉ cut) && decide (ps[c]? = some (some x))).map (comp ps (x :: cut)) := by
    rw [List.filter_eq_self]
    intro l hl
    obtain ⟨c, hc, rfl⟩ := List.mem_map.mp hl
    obtain ⟨h1, h2⟩ := List.mem_filter.mp hc
    simp only [Bool.and_eq_true, decide_eq_true_eq] at h2
    have := hp c x h2.2
    exact ne c (List.mem_range.mp h1) h2.1 (by omega) (top_cut hp h2.2 List.mem_cons_self)
  by_cases c : top ps cut x = x
  · rw [if_pos c, if_pos c, List.filter_cons_of_neg (by simp), hch]
    rfl
  · rw [if_neg c, if_neg c, List.filter_cons_of_pos, hch]
    · rfl
    · have nr : x ∉ road ps (top ps cut x) := fun z => c (rd_anti hp hrl hx hr z)
      have tt : top ps cut (top ps cut x) = top ps cut x := (top_seg hp x hx nx hr (road_self hp hrl)).2
      exact ne _ hrl (top_free hp x hx nx) c (by rw [cut_far hp _ hrl (fun z => nr z.1)]; exact tt)
/-- the tops behind a cut -/
theorem tops_next (hp : Ps ps) {rs : List Nat} {x at_ : Nat} (T : Tops ps cut rs) (hx : x < ps.length) (nx : x ∉ cut) (ha : rs[at_]? = some (top ps cut x)) :
    ∃ rs', Tops ps (x :: cut) rs' ∧ (rs.map (comp ps cut)).take at_ ++ cutL ps (comp ps cut (top ps cut x)) x ++ (rs.map (comp ps cut)).drop (at_ + 1) = rs'.map (comp ps (x :: cut)) := by
  have hr := top_road (cut := cut) hp x hx
  have hrl := rd_lt hp hx hr
  have hrx := road_le hp x hx _ hr
  have hal := (List.getElem?_eq_some_iff.mp ha).1
  have hae := (List.getElem?_eq_some_iff.mp ha).2
  have split : rs = rs.take at_ ++ top ps cut x :: rs.drop (at_ + 1) := by
    rw [← hae, ← List.drop_eq_getElem_cons hal, List.take_append_drop]
  have nd := T.nd
  rw [split] at nd
  obtain ⟨nd1, nd2, nd3⟩ := List.nodup_append.mp nd
  obtain ⟨nd4, nd5⟩ := List.nodup_cons.mp nd2
  -- the others
  have far : ∀ r ∈ rs, r ≠ top ps cut x → comp ps cut r = comp ps (x :: cut) r ∧ r ≠ x ∧ top ps (x :: cut) r = r := by
    intro r hr' ne
    obtain ⟨h1, h2, h3⟩ := (T.mem r).mp hr'
    have rx : r ≠ x := fun z => ne (by rw [← z]; exact h3.symm)
    refine ⟨?_, rx, by rw [cut_far hp r h1 (fun z => ne (by rw [← z.2]; exact h3.symm))]; exact h3⟩
    unfold comp
    refine List.filter_congr fun y hy => ?_
    have hyl := List.mem_range.mp hy
    rw [Bool.eq_iff_iff]
    simp only [Bool.and_eq_true, decide_eq_true_eq]
    constructor
    · rintro ⟨d, t⟩
      have yx : y ≠ x := fun z => ne (by rw [← t, z])
      exact ⟨fun z => (List.mem_cons.mp z).elim yx d, by rw [cut_far hp y hyl (fun z => ne (by rw [← t]; exact z.2))]; exact t⟩
    · rintro ⟨d, t⟩
      have dc : y ∉ cut := fun z => d (List.mem_cons_of_mem _ z)
      have yx : y ≠ x := fun z => d (z ▸ List.mem_cons_self)
      by_cases j : x ∈ road ps y ∧ top ps cut y = top ps cut x
      · have h4 := (cut_near hp y hyl dc yx j.1 j.2).1
        rw [t] at h4
        have h5 := top_up (cut := cut) hp h4 nx
        rw [h3] at h5
        exact absurd h5 ne
      · have := cut_far hp y hyl j
        rw [t] at this
        exact ⟨dc, this.symm⟩
  have inT : ∀ r ∈ rs.take at_, r ∈ rs ∧ r ≠ top ps cut x := fun r h => ⟨List.mem_of_mem_take h, nd3 r h _ List.mem_cons_self⟩
  have inD : ∀ r ∈ rs.drop (at_ + 1), r ∈ rs ∧ r ≠ top ps cut x := fun r h => ⟨List.mem_of_mem_drop h, fun z => nd4 (z ▸ h)⟩
  refine ⟨rs.take at_ ++ (((if top ps cut x = x then [] else [top ps cut x]) ++ (List.range ps.length).filter fun c => decide (c ∉ cut) && decide (ps[c]? = some (some x))) ++ rs.drop (at_ + 1)), ⟨?_, fun r => ?_⟩, ?_⟩
  · have chn : ∀ c ∈ (List.range ps.length).filter (fun c => decide (c ∉ cut) && decide (ps[c]? = some (some x))), c ∉ rs ∧ c ≠ top ps cut x := fun c hc => by
      obtain ⟨h1, h2⟩ := List.mem_filter.mp hc
      simp only [Bool.and_eq_true, decide_eq_true_eq] at h2
      have h3 := hp c x h2.2
      have h4 := top_up (cut := cut) hp h2.2 nx
      exact ⟨fun z => by have := ((T.mem c).mp z).2.2; omega, by omega⟩
    rw [List.nodup_append, List.nodup_append, List.nodup_append]
    refine ⟨nd1, ⟨⟨?_, List.nodup_range.filter _, fun a ha b hb z => ?_⟩, nd5, fun a ha b hb z => ?_⟩, fun a ha b hb z => ?_⟩
    · split
      · exact List.nodup_nil
      · exact List.nodup_cons.mpr ⟨List.not_mem_nil, List.nodup_nil⟩
    · subst z
      split at ha
      · cases ha
      · exact (chn a hb).2 (List.mem_singleton.mp ha)
    · subst z
      rcases List.mem_append.mp ha with ha | ha
      · split at ha
        · cases ha
        · exact (inD a hb).2 (List.mem_singleton.mp ha)
      · exact (chn a ha).1 (inD a hb).1
    · subst z
      rcases List.mem_append.mp hb with hb | hb
      · rcases List.mem_append.mp hb with hb | hb
        · split at hb
          · cases hb
          · exact (inT a ha).2 (List.mem_singleton.mp hb)
        · exact (chn a hb).1 (inT a ha).1
      · exact nd3 a ha a (List.mem_cons_of_mem _ hb) rfl
  · rw [List.mem_append, List.mem_append, List.mem_append]
    constructor
    · rintro (h | (h | h) | h)
      · obtain ⟨a, b⟩ := inT r h
        obtain ⟨h1, h2, h3⟩ := (T.mem r).mp a
        obtain ⟨_, f2, f3⟩ := far r a b
        exact ⟨h1, fun z => (List.mem_cons.mp z).elim f2 h2, f3⟩
      · split at h
        · cases h
        · rename_i c
          rw [List.mem_singleton.mp h]
          have nr : x ∉ road ps (top ps cut x) := fun z => c (rd_anti hp hrl hx hr z)
          have tt : top ps cut (top ps cut x) = top ps cut x := (top_seg hp x hx nx hr (road_self hp hrl)).2
          exact ⟨hrl, fun z => (List.mem_cons.mp z).elim c (top_free hp x hx nx), by rw [cut_far hp _ hrl (fun z => nr z.1)]; exact tt⟩
      · obtain ⟨h1, h2⟩ := List.mem_filter.mp h
        simp only [Bool.and_eq_true, decide_eq_true_eq] at h2
        have h3 := hp r x h2.2
        exact ⟨List.mem_range.mp h1, fun z => (List.mem_cons.mp z).elim (by omega) h2.1, top_cut hp h2.2 List.mem_cons_self⟩
      · obtain ⟨a, b⟩ := inD r h
        obtain ⟨h1, h2, h3⟩ := (T.mem r).mp a
        obtain ⟨_, f2, f3⟩ := far r a b
        exact ⟨h1, fun z => (List.mem_cons.mp z).elim f2 h2, f3⟩
    · rintro ⟨h1, h2, h3⟩
      have dc : r ∉ cut := fun z => h2 (List.mem_cons_of_mem _ z)
      have rx : r ≠ x := fun z => h2 (z ▸ List.mem_cons_self)
      by_cases j : x ∈ road ps r ∧ top ps cut r = top ps cut x
      · have h4 := (cut_near hp r h1 dc rx j.1 j.2).1
        rw [h3] at h4
        exact .inr (.inl (.inr (List.mem_filter.mpr ⟨List.mem_range.mpr h1, by simp only [Bool.and_eq_true, decide_eq_true_eq]; exact ⟨dc, h4⟩⟩)))
      · have h4 := cut_far hp r h1 j
        rw [h3] at h4
        have hrs := (T.mem r).mpr ⟨h1, dc, h4.symm⟩
        by_cases e : r = top ps cut x
        · refine .inr (.inl (.inl ?_))
          rw [if_neg (fun z => rx (e.trans z))]
          exact List.mem_singleton.mpr e
        · rw [split] at hrs
          rcases List.mem_append.mp hrs with h | h
          · exact .inl h
          · exact .inr (.inr ((List.mem_cons.mp h).resolve_left e))
  · rw [cut_parts hp hx nx, ← List.map_take, ← List.map_drop]
    generalize ((if top ps cut x = x then [] else [top ps cut x]) ++ (List.range ps.length).filter fun c => decide (c ∉ cut) && decide (ps[c]? = some (some x))) = Y
    rw [List.map_append, List.map_append, List.append_assoc]
    congr 1
    · exact List.map_congr_left fun r h => (far r (inT r h).1 (inT r h).2).1
    · congr 1
      exact List.map_congr_left fun r h => (far r (inD r h).1 (inD r h).2).1
end
end Ck
namespace Cn
open PySem PySem.Spec PyProof.Rows L2 Ck
theorem foKept {C : Addr} {H H' : Hp} {p c a : Addr} {cells : List Int} {f : Fo} (hI : HandIn H p c cells) (k : Kept p H H') (h : FoAt C H a f) : FoAt C H' a f := by
  obtain ⟨dx, ap, ab, aa, h1, h2, h3, h4⟩ := h
  have ne : a ≠ p := fun z => by
    obtain ⟨_, _, _, _, e, _⟩ := hI.ob
    rw [← z, h1] at e; cases e
  exact ⟨dx, ap, ab, aa, k _ _ ne h1, k _ _ (tup_ne hI h2) h2, k _ _ (tup_ne hI h3) h3, k _ _ (tup_ne hI h4) h4⟩
/-- one of two numbers -/
theorem pickN {c : Prop} {_ : Decidable c} {σ : L2.St} {H : Hp} {Q : VK} {a b : Nat} (k : ∀ n : Nat, n = a ∨ n = b → Q (vn n) H) : if c then tC (.int (a : Int)) σ H Q else tC (.int (b : Int)) σ H Q := by
  by_cases h : c
  · rw [if_pos h]; exact k a (.inl rfl)
  · rw [if_neg h]; exact k b (.inr rfl)
def dNote (q : List Nat × List Nat) : PyData := .tuple [.tuple (dn q.1), .tuple (dn q.2)]
theorem dpNotes {K : PySem.W.Frag} {H : Hp} : ∀ {us : List V} {ns : List (List Nat × List Nat)}, NotesR H us ns → DpAll K H us (ns.map dNote)
  | _, _, .nil => .nil
  | _, _, .cons h t => by
    obtain ⟨a, x, y, rfl, h1, h2, h3⟩ := h
    exact .cons (.tup (.inl (.inl h1)) (.cons (.tup (tnL h2) (dpN _)) (.cons (.tup (tnL h3) (dpN _)) .nil))) (dpNotes t)
theorem dNoteLay : ∀ ns : List (List Nat × List Nat), PyData.canLayAll0 (ns.map dNote) = true
  | [] => rfl
  | q :: ns => by
    show ((PyData.canLayAll0 (dn q.1) && (PyData.canLayAll0 (dn q.2) && true)) && PyData.canLayAll0 (ns.map dNote)) = true
    rw [dNoteLay ns, dnLay, dnLay]; rfl
theorem dNoteDepth : ∀ ns : List (List Nat × List Nat), PyData.depthAll (ns.map dNote) ≤ 2
  | [] => by simp [PyData.depthAll]
  | q :: ns => by
    have h1 := dNoteDepth ns
    show max (max (PyData.depthAll (dn q.1) + 1) (max (PyData.depthAll (dn q.2) + 1) 0) + 1) (PyData.depthAll (ns.map dNote)) ≤ 2
    rw [dnDepth, dnDepth]
    omega
theorem dNoteSh (ns : List (List Nat × List Nat)) : SeqAt.shaped (.tuple (ns.map dNote)) = true := by
  show (PyData.canLayAll0 (ns.map dNote) && decide (PyData.depthAll (ns.map dNote) + 1 ≤ 64)) = true
  have := dNoteDepth ns
  rw [dNoteLay, decide_eq_true (by omega)]; rfl
theorem dNoteEq (ns : List (List Nat × List Nat)) : PyData.eqv (.tuple (ns.map dNote)) (.tuple (ns.map dNote)) = true := SeqAt.eqv_refl (.tuple (ns.map dNote)) (dNoteLay ns)
section
variable {P : Program} {w : World} {K : PySem.W.Frag} {mg : Str → Option Value} {base : Heap} {C : Addr}
theorem dHand (B : Defs K mg C) : Def P w K mg base "_law_hand" 1 ["_law_script"] (spHand K) := def_of B.ha fun f fd F => ok_hand F (nOf B).abs (nOf B).int (nOf B).is.len
def spLaw (K : PySem.W.Frag) : Sp := fun vs H Q _ => ∃ (a : Addr) (ns : List Int), vs = [.ref a] ∧ SqL K H a (ns.map V.int) ∧ ns.length ≤ 63 ∧ ∀ H', Q (.bl true) H'
end
end Cn
namespace Cn
open PySem PySem.Spec PyProof.Rows L2 Ck
theorem pick2 {c : Prop} {_ : Decidable c} {σ : L2.St} {H : Hp} {Q : VK} (k : ∀ n : Nat, 1 ≤ n → n ≤ 60 → Q (vn n) H) : if c then tC (.int 60) σ H Q else tC (.int 12) σ H Q := by
  by_cases h : c
  · rw [if_pos h]; exact k 60 (by decide) (by decide)
  · rw [if_neg h]; exact k 12 (by decide) (by decide)
section
variable {P : Program} {w : World} {K : PySem.W.Frag} {mg : Str → Option Value} {base : Heap} {C : Addr}
def nLaw : List Str := ["_law_script", "_law_hand_here", "_law_turn", "_law_told_here", "_law_made_here", "_law_one", "_law_other", "_law_both", "_law_levels_here"]
theorem scLaw : FnScope nLaw ["_law_script"] (defScope sLaw) := ⟨rfl, rfl, rfl, by decide +kernel, rfl, by decide +kernel, by decide +kernel⟩
theorem ok_law {f : Addr} {fd : FuncData} (F : Fun K "law" "law" sLaw f fd) (B : Defs K mg C) : FnOk P w K mg base CX0 9 f fd ["_law_script"] (spLaw K) := by
  obtain ⟨fH, fdH, GH, gH, kH, bH⟩ := dHand (P := P) (w := w) (base := base) B
  obtain ⟨fD, fdD, GD, gD, kD, bD⟩ := dDraw (P := P) (w := w) (base := base) B
  obtain ⟨fT, fdT, GT, gT, kT, bT⟩ := dTold (P := P) (w := w) (base := base) B
  obtain ⟨fM, fdM, GM, gM, kM, bM⟩ := dMade (P := P) (w := w) (base := base) B
  obtain ⟨fL, fdL, GL, gL, kL, bL⟩ := dLevels (P := P) (w := w) (base := base) B
  obtain ⟨fU, fdU, GU, gU, kU, bU⟩ := dPut (P := P) (w := w) (base := base) B
  obtain ⟨fR, fdR, GR, gR, kR, bR⟩ := dRight (P := P) (w := w) (base := base) B
  obtain ⟨fP, fdP, GP, gP, kP, bP⟩ := dPlans (P := P) (w := w) (base := base) B
  have N := nOf B
  refine F.ok scLaw (fun vs H Q E h => ?_) (fun cdv A outer s H vs Q E hr h => ?_)
  · obtain ⟨a, ns, rfl, _⟩ := h
    rfl
  · obtain ⟨a, ns, rfl, hs, hl, k⟩ := h
    have h1 : Room 1 (A.deeper (envOfC "law" (defScope sLaw) s.heap.objs.size f cdv)) := Room.mono hr (by decide)
    have h2 : Room 2 (A.deeper (envOfC "law" (defScope sLaw) s.heap.objs.size f cdv)) := Room.mono hr (by decide)
    have h3 : Room 3 (A.deeper (envOfC "law" (defScope sLaw) s.heap.objs.size f cdv)) := Room.mono hr (by decide)
    have h6 : Room 6 (A.deeper (envOfC "law" (defScope sLaw) s.heap.objs.size f cdv)) := Room.mono hr (by decide)
    refine ⟨_, pss_cons (ps_set (i := 1) scLaw.nd rfl (Or.inl rfl) (pe_call GH h1 (by rfl) gH kH bH .nil pass0 (pa_cons (pv 0) pa_nil)))
      (pss_cons (ps_for PassesOwn.never rfl (pi_range1 (by rfl) N.range (pa_cons pe_int pa_nil)) (pg_name (i := 2) scLaw.nd rfl (Or.inl rfl))
        (pss_cons (ps_set (i := 3) scLaw.nd rfl (Or.inr rfl) (pe_call GT h3 (by rfl) gT kT bT .nil pass0 (pa_cons (pv 1) (pa_cons (pe_ifExp (pt_cmpR op_eq (pe_call GD h1 (by rfl) gD kD bD .nil pass0 (pa_cons (pv 1) (pa_cons pe_int pa_nil))) pe_int (nomark _)) pe_int pe_int) pa_nil))))
        (pss_cons (ps_set (i := 4) scLaw.nd rfl (Or.inl rfl) (pe_call GM h6 (by rfl) gM kM bM .nil pass0 (pa_cons (pv 3) pa_nil)))
        (pss_cons (ps_set (i := 5) scLaw.nd rfl (Or.inl rfl) (pe_call GL h2 (by rfl) gL kL bL .nil pass0 (pa_cons (pv 1) (pa_cons (pe_ix ix_tup (pv 3) pe_int (fun _ _ => rfl)) pa_nil))))
        (pss_cons (ps_set (i := 6) scLaw.nd rfl (Or.inl rfl) (pe_call GL h2 (by rfl) gL kL bL .nil pass0 (pa_cons (pv 1) (pa_cons (pe_ix ix_tup (pv 3) pe_int (fun _ _ => rfl)) pa_nil))))
        (pss_cons (ps_set (i := 7) scLaw.nd rfl (Or.inl rfl) (pe_call GU h2 (by rfl) gU kU bU .nil pass0 (pa_cons (pe_ix ix_tup (pv 3) pe_int (fun _ _ => rfl)) (pa_cons (pv 5) (pa_cons (pv 6) (pa_cons (pe_call GD h1 (by rfl) gD kD bD .nil pass0 (pa_cons (pv 1) (pa_cons (pe_callB call_len_seq (by rfl) N.is.len PySem.boot_len (pa_cons (pe_ix ix_tup (pv 3) pe_int (fun _ _ => rfl)) pa_nil)) pa_nil))) pa_nil))))))
        (pss_one (ps_for PassesOwn.never rfl (pi_list (pe_lst (pa_cons (pv 5) (pa_cons (pv 7) pa_nil)))) (pg_name (i := 8) scLaw.nd rfl (Or.inl rfl))
          (pss_one (ps_if (PW.pt (pw_and (pt_cmpR op_notN (pv 8) pe_non (nomark _)) (pw_and1 (pt_not (pt_val (pe_call GR hr (by rfl) gR kR bR .nil pass0 (pa_cons (pv 3) (pa_cons (pv 4) (pa_cons (pv 8) pa_nil))))))))) (pss_one ps_never) pss_nil))))))))))
      (pss_cons (ps_set (i := 3) scLaw.nd rfl (Or.inr rfl) (pe_call GT h3 (by rfl) gT kT bT .nil pass0 (pa_cons (pv 1) (pa_cons pe_int pa_nil))))
      (pss_one (ps_ret (pe_callB (cr_all rfl) (by rfl) N.is.all (by decide +kernel) (pa_cons (pe_lc (own := [("_law_levels_here", 8)]) (g := gName 8) (tt := tYes) rfl scLaw.nd (pi_list (pe_call GP h1 (by rfl) gP kP bP .nil pass0 (pa_cons (pe_ix ix_tup (pv 3) pe_int (fun _ _ => rfl)) pa_nil)))
        (blkOk_by (N := nLaw) (sc := defScope sLaw) (by decide +kernel)) (fun _ _ _ _ _ => pg_name (i := 8) scLaw.nd rfl (Or.inl rfl)) (fun _ _ _ _ _ => pts_nil)
        (fun _ _ _ _ _ => pe_call GR hr (by rfl) gR kR bR .nil pass0 (pa_cons (pv 3) (pa_cons (pe_call GM h6 (by rfl) gM kM bM .nil pass0 (pa_cons (pv 3) pa_nil)) (pa_cons (pv 8) pa_nil))))) pa_nil)))))), ?_⟩
    refine ⟨_, rfl, a, ns, rfl, hs, hl, fun H1 p c cells s1 np nc hI => ⟨3, rfl, by decide, by decide, ?_⟩⟩
    refine for_range (lo := 0) (n := 3) (fun _ σ H' => HandIn H' p c cells ∧ ∃ t2 t3 t4 t5 t6 t7 t8 : Option V, σ = [some (.ref a), some (.ref p), t2, t3, t4, t5, t6, t7, t8]) ⟨hI, _, _, _, _, _, _, _, rfl⟩ ?_ ?_
    · rintro j σ H2 hj ⟨hI2, t2, t3, t4, t5, t6, t7, t8, rfl⟩
      refine ⟨_, rfl, _, rfl, p, c, cells, 24, rfl, hI2, by decide, by decide, fun d a1 a2 a3 a4 d0 d1 a10 => ⟨rfl, _, rfl, ?_⟩⟩
      have hI3 := handIn_upd (i := a1) (g := a2) (m := a3) (t := a4) hI2 a10
      generalize upd H2 p (handL c a1 a2 a3 a4) = H3 at hI3 ⊢
      refine pick2 fun n n1 n60 => ?_
      refine ⟨p, c, cells, n, rfl, hI3, n1, n60, fun r fo H4 ok hlen hI4 k4 hT4 => ?_⟩
      refine ⟨_, rfl, r, fo, rfl, hT4, ok, fun m H5 s5 hF5 => ?_⟩
      have hI5 := handIn_keep hI4 s5
      have hT5 := tolSame s5 hT4
      obtain ⟨ap, ab, aa, e0, e1, e2, e3⟩ := id hT5
      refine ⟨_, rfl, _, rfl, r, _, (0 : Int), _, rfl, rfl, .inl (.inl e0), rfl, p, c, ap, cells, fo.ps, rfl, hI5, e1, ok.ps, ok.l1, fun o1 l1 H6 v1 hI6 k6 ho1 => ?_⟩
      have hT6 := tolKept hI5 k6 hT5
      have hF6 := foKept hI5 k6 hF5
      have e06 := k6 _ _ (tup_ne hI5 e0) e0
      have e16 : TP H6 ap fo.ps := k6 _ _ (tup_ne hI5 e1) e1
      refine ⟨_, rfl, _, rfl, r, _, (0 : Int), _, rfl, rfl, .inl (.inl e06), rfl, p, c, ap, cells, fo.ps, rfl, hI6, e16, ok.ps, ok.l1, fun o2 l2 H7 v2 hI7 k7 ho2 => ?_⟩
      have hT7 := tolKept hI6 k7 hT6
      have hF7 := foKept hI6 k7 hF6
      have e07 := k7 _ _ (tup_ne hI6 e06) e06
      have e17 : TP H7 ap fo.ps := k7 _ _ (tup_ne hI6 e16) e16
      have ho17 : TN H7 o1 l1 := k7 _ _ (tup_ne hI6 ho1) ho1
      refine ⟨_, rfl, r, _, (0 : Int), _, rfl, rfl, .inl (.inl e07), rfl, _, rfl, _, rfl, _, rfl, _, rfl, r, _, (0 : Int), _, rfl, rfl, .inl (.inl e07), rfl, ap, _, rfl, .inr (tpL e17), p, c, cells, ((fo.ps.map vp).length : Int), rfl, hI7, ?_, ?_, fun dd b1 b2 b3 b4 dd0 dd1 b10 => ?_⟩
      · rw [List.length_map]; have := ok.l0; omega
      · rw [List.length_map]; have := ok.l1; omega
      obtain ⟨di, rfl⟩ := Int.eq_ofNat_of_zero_le dd0
      rw [List.length_map] at dd1
      have hI8 := handIn_upd (i := b1) (g := b2) (m := b3) (t := b4) hI7 b10
      have k8 : Kept p H7 (upd H7 p (handL c b1 b2 b3 b4)) := kept_hand
      generalize upd H7 p (handL c b1 b2 b3 b4) = H8 at hI8 k8 ⊢
      have hT8 := tolKept hI7 k8 hT7
      have hF8 := foKept hI7 k8 hF7
      have e18 : TP H8 ap fo.ps := k8 _ _ (tup_ne hI7 e17) e17
      have ho18 : TN H8 o1 l1 := k8 _ _ (tup_ne hI7 ho17) ho17
      have ho28 : TN H8 o2 l2 := k8 _ _ (tup_ne hI7 ho2) ho2
      refine ⟨ap, o1, o2, fo.ps, l1, l2, di, rfl, e18, ho18, ho28, ok.ps, ok.l1, v1, v2, by omega, fun bv H9 s9 hb => ?_⟩
      refine ⟨_, rfl, _, rfl, by show 2 ≤ sizeLine; decide, fun l nl => ⟨l, rfl, ⟨_, .inl (.inl upd_same)⟩, ?_⟩⟩
      have S10 := smUpd (o := .lst [.ref o1, bv]) nl
      have hl10 : upd H9 l (.lst [.ref o1, bv]) l = some (.lst [.ref o1, bv]) := upd_same
      have s10 := s9.trans S10
      have all : ∀ x ∈ [V.ref o1, bv], PlV fo.ps (upd H9 l (.lst [.ref o1, bv])) x := glCons (.inr ⟨o1, l1, rfl, v1, s10 _ _ ho18⟩) (glCons (plSame S10 hb) glNil)
      generalize upd H9 l (.lst [.ref o1, bv]) = H10 at hl10 s10 all ⊢
      refine for_it (walk_list (K := K) (xs := [.ref o1, bv])) (fun i σ H' => Same H10 H' ∧ ∃ t8 : Option V, σ = [some (.ref a), some (.ref p), some (.int (0 + (j : Nat))), some (.ref r), some (.ref m), some (.ref o1), some (.ref o2), some bv, t8]) ⟨Same.refl _, _, rfl⟩ (fun i σ H' _ z => .inl (.inl (z.1 _ _ hl10))) ?_ ?_
      · rintro i x σ H11 H12 hi ⟨sm, t8, rfl⟩ ⟨rfl, hx⟩
        have s11 := s10.trans sm
        rcases plSame sm (all x (List.mem_of_getElem? hx)) with rfl | ⟨t, lv, rfl, hv, ht⟩
        · refine ⟨_, rfl, rfl, _, rfl, ?_⟩
          refine ifF (by decide) ?_
          refine ifF (by decide) ?_
          exact ⟨sm, _, rfl⟩
        · refine ⟨_, rfl, rfl, _, rfl, ?_⟩
          refine ifT (by rw [decide_eq_false (fun z => nomatch z)]; rfl) ?_
          refine ⟨_, rfl, _, rfl, _, rfl, r, m, t, fo, lv, rfl, tolSame s11 hT8, foAt_same s11 hF8, ht, ok, hv, fun H13 s13 => ⟨true, rfl, ?_⟩⟩
          refine ifF (by decide) ?_
          exact ⟨sm.trans s13, _, rfl⟩
      · rintro σ H11 ⟨sm, t8, rfl⟩
        exact ⟨handIn_keep hI8 (s10.trans sm), _, _, _, _, _, _, _, rfl⟩
    · rintro σ H2 ⟨hI2, t2, t3, t4, t5, t6, t7, t8, rfl⟩
      refine ⟨_, rfl, p, c, cells, 5, rfl, hI2, by decide, by decide, fun r fo H4 ok hlen hI4 k4 hT4 => ?_⟩
      obtain ⟨ap, ab, aa, e0, e1, e2, e3⟩ := id hT4
      refine ⟨_, rfl, r, _, (0 : Int), _, rfl, rfl, .inl (.inl e0), rfl, ap, fo.ps, rfl, e1, ok.ps, hlen, fun D us H5 s5 hD hU hul => ⟨D, rfl, ⟨_, .inl (.inl hD)⟩, fun E nE => ?_⟩⟩
      refine lc_list (K := K) (a := D) (xs := us) (fun i H' => Same H5 H' ∧ H' E = some (.lst ((List.replicate i true).map V.bl))) ⟨smUpd nE, upd_same⟩ (fun i H' _ z => .inl (.inl (z.1 _ _ hD))) ?_ ?_
      · rintro i x H6 hx ⟨sm, hE⟩
        have hi : i < us.length := (List.getElem?_eq_some_iff.mp hx).1
        obtain ⟨t, lv, rfl, ht, hll, hv⟩ := planSame sm (hU x (List.mem_of_getElem? hx))
        have hT6 := tolSame (s5.trans sm) hT4
        refine ⟨rfl, _, rfl, _, rfl, r, fo, rfl, hT6, ok, fun m H7 s7 hF7 => ⟨_, rfl, r, m, t, fo, lv, rfl, tolSame s7 hT6, hF7, s7 _ _ ht, ok, ⟨hll, hv⟩, fun H8 s8 => ?_⟩⟩
        refine ⟨_, (s7.trans s8) _ _ hE, bigLine (by rw [List.length_map, List.length_replicate]; omega), smOver nE (sm.trans (s7.trans s8)), ?_⟩
        rw [upd_same, show List.replicate (i + 1) true = List.replicate i true ++ [true] from List.replicate_succ', List.map_append]
        rfl
      · rintro H6 ⟨sm, hE⟩
        refine ⟨E, List.replicate us.length true, rfl, .inl (.inl hE), ?_⟩
        rw [allRep]
        exact k H6
end
end Cn
namespace Cn
open PySem PySem.Spec PyProof.Rows L2 Ck
/-- all the facts of the top, and the law's own promise -/
theorem all_mk {P : Program} {w : World} {K : PySem.W.Frag} {h : Heap} {mg : Str → Option Value} {fa C : Addr} {tm : Tok} (X : K.In h) (G : h.Ns mainGlobals mg) (hfa : mg "law" = some (.ref fa))
    {fd0 : Addr} {ocd0 kVd0 dcd0 pmd0 cdd0 ctd0 : Value} {odd0 and0 : Option Addr} {sld0 : Array (Option Value)}
    {fd1 : Addr} {ocd1 kVd1 dcd1 pmd1 cdd1 ctd1 : Value} {odd1 and1 : Option Addr} {sld1 : Array (Option Value)}
    {fd2 : Addr} {ocd2 kVd2 dcd2 pmd2 cdd2 ctd2 : Value} {odd2 and2 : Option Addr} {sld2 : Array (Option Value)}
    {fd3 : Addr} {ocd3 kVd3 dcd3 pmd3 cdd3 ctd3 : Value} {odd3 and3 : Option Addr} {sld3 : Array (Option Value)}
    {fd4 : Addr} {ocd4 kVd4 dcd4 pmd4 cdd4 ctd4 : Value} {odd4 and4 : Option Addr} {sld4 : Array (Option Value)}
    {fd5 : Addr} {ocd5 kVd5 dcd5 pmd5 cdd5 ctd5 : Value} {odd5 and5 : Option Addr} {sld5 : Array (Option Value)}
    {fd6 : Addr} {ocd6 kVd6 dcd6 pmd6 cdd6 ctd6 : Value} {odd6 and6 : Option Addr} {sld6 : Array (Option Value)}
    {fd7 : Addr} {ocd7 kVd7 dcd7 pmd7 cdd7 ctd7 : Value} {odd7 and7 : Option Addr} {sld7 : Array (Option Value)}
    {fd8 : Addr} {ocd8 kVd8 dcd8 pmd8 cdd8 ctd8 : Value} {odd8 and8 : Option Addr} {sld8 : Array (Option Value)}
    {fd9 : Addr} {ocd9 kVd9 dcd9 pmd9 cdd9 ctd9 : Value} {odd9 and9 : Option Addr} {sld9 : Array (Option Value)}
    {fd10 : Addr} {ocd10 kVd10 dcd10 pmd10 cdd10 ctd10 : Value} {odd10 and10 : Option Addr} {sld10 : Array (Option Value)}
    {fd11 : Addr} {ocd11 kVd11 dcd11 pmd11 cdd11 ctd11 : Value} {odd11 and11 : Option Addr} {sld11 : Array (Option Value)}
    {fd12 : Addr} {ocd12 kVd12 dcd12 pmd12 cdd12 ctd12 : Value} {odd12 and12 : Option Addr} {sld12 : Array (Option Value)}
    {fd13 : Addr} {ocd13 kVd13 dcd13 pmd13 cdd13 ctd13 : Value} {odd13 and13 : Option Addr} {sld13 : Array (Option Value)}
    {fd14 : Addr} {ocd14 kVd14 dcd14 pmd14 cdd14 ctd14 : Value} {odd14 and14 : Option Addr} {sld14 : Array (Option Value)}
    {fd15 : Addr} {ocd15 kVd15 dcd15 pmd15 cdd15 ctd15 : Value} {odd15 and15 : Option Addr} {sld15 : Array (Option Value)}
    {fd16 : Addr} {ocd16 kVd16 dcd16 pmd16 cdd16 ctd16 : Value} {odd16 and16 : Option Addr} {sld16 : Array (Option Value)}
    {fd17 : Addr} {ocd17 kVd17 dcd17 pmd17 cdd17 ctd17 : Value} {odd17 and17 : Option Addr} {sld17 : Array (Option Value)}
    {fd18 : Addr} {ocd18 kVd18 dcd18 pmd18 cdd18 ctd18 : Value} {odd18 and18 : Option Addr} {sld18 : Array (Option Value)}
    {fd19 : Addr} {ocd19 kVd19 dcd19 pmd19 cdd19 ctd19 : Value} {odd19 and19 : Option Addr} {sld19 : Array (Option Value)}
    {fd20 : Addr} {ocd20 kVd20 dcd20 pmd20 cdd20 ctd20 : Value} {odd20 and20 : Option Addr} {sld20 : Array (Option Value)}
    {fd21 : Addr} {ocd21 kVd21 dcd21 pmd21 cdd21 ctd21 : Value} {odd21 and21 : Option Addr} {sld21 : Array (Option Value)}
    {fd22 : Addr} {ocd22 kVd22 dcd22 pmd22 cdd22 ctd22 : Value} {odd22 and22 : Option Addr} {sld22 : Array (Option Value)}
    {fd23 : Addr} {ocd23 kVd23 dcd23 pmd23 cdd23 ctd23 : Value} {odd23 and23 : Option Addr} {sld23 : Array (Option Value)}
    {fd24 : Addr} {ocd24 kVd24 dcd24 pmd24 cdd24 ctd24 : Value} {odd24 and24 : Option Addr} {sld24 : Array (Option Value)}
    {fd25 : Addr} {ocd25 kVd25 dcd25 pmd25 cdd25 ctd25 : Value} {odd25 and25 : Option Addr} {sld25 : Array (Option Value)}
    {fd26 : Addr} {ocd26 kVd26 dcd26 pmd26 cdd26 ctd26 : Value} {odd26 and26 : Option Addr} {sld26 : Array (Option Value)}
    {fd27 : Addr} {ocd27 kVd27 dcd27 pmd27 cdd27 ctd27 : Value} {odd27 and27 : Option Addr} {sld27 : Array (Option Value)}
    {fd28 : Addr} {ocd28 kVd28 dcd28 pmd28 cdd28 ctd28 : Value} {odd28 and28 : Option Addr} {sld28 : Array (Option Value)}
    {fd29 : Addr} {ocd29 kVd29 dcd29 pmd29 cdd29 ctd29 : Value} {odd29 and29 : Option Addr} {sld29 : Array (Option Value)}
    {fd30 : Addr} {ocd30 kVd30 dcd30 pmd30 cdd30 ctd30 : Value} {odd30 and30 : Option Addr} {sld30 : Array (Option Value)}
    {fd31 : Addr} {ocd31 kVd31 dcd31 pmd31 cdd31 ctd31 : Value} {odd31 and31 : Option Addr} {sld31 : Array (Option Value)}
    {fW : Addr} {ocW kVW dcW pmW cdW ctW : Value} {odW anW : Option Addr} {slW : Array (Option Value)}
    {fN : Addr} {ocN kVN dcN pmN cdN ctN : Value} {odN anN : Option Addr} {slN : Array (Option Value)}
    (aC : PySem.W.nsIn K mainGlobals "Forest" = some (some (.ref C))) (pg : PySem.W.plainGet K C Str.empty = true) (hd : PySem.W.hasDictIn K C = true) (po : PySem.W.plainOver K C = true) (sa : PySem.W.findIn K (.ref C) "__setattr__" = some (some (.builtin "object.__setattr__")))
    (mk : PySem.W.makesIn K C = true) (kc : PySem.W.keepIn K (.ref C) = true) (nP : PySem.W.findIn K (.ref C) "parents" = some none) (nB : PySem.W.findIn K (.ref C) "bearing" = some none) (nA : PySem.W.findIn K (.ref C) "asking" = some none)
    (mM : PySem.W.nsIn K mainGlobals "MOST_PLACES" = some (some (.int 60 tm)))
    (aN : PySem.W.findIn K (.ref C) "__init__" = some (some (.ref fN))) (iN : PySem.W.isFn K (.ref fN) = true) (lN : K.lookup fN = some ⟨ocN, odN, .func (PySem.W.fnOf "__init__" "Forest.__init__" (defArgs sInit) (defBody sInit) (defScope sInit) .none kVN dcN pmN anN cdN ctN), slN⟩) (oN : PySem.W.codeIn K cdN "Forest.__init__" = true) (kN : PySem.W.keepIn K (.ref fN) = true)
    (ad0 : PySem.W.nsIn K mainGlobals "is_integer" = some (some (.ref fd0))) (ld0 : K.lookup fd0 = some ⟨ocd0, odd0, .func (PySem.W.fnOf "is_integer" "is_integer" (defArgs sIsInt) (defBody sIsInt) (defScope sIsInt) .none kVd0 dcd0 pmd0 and0 cdd0 ctd0), sld0⟩) (od0 : PySem.W.codeIn K cdd0 "is_integer" = true) (kd0 : PySem.W.keepIn K (.ref fd0) = true)
    (ad1 : PySem.W.nsIn K mainGlobals "is_between" = some (some (.ref fd1))) (ld1 : K.lookup fd1 = some ⟨ocd1, odd1, .func (PySem.W.fnOf "is_between" "is_between" (defArgs sIsBtw) (defBody sIsBtw) (defScope sIsBtw) .none kVd1 dcd1 pmd1 and1 cdd1 ctd1), sld1⟩) (od1 : PySem.W.codeIn K cdd1 "is_between" = true) (kd1 : PySem.W.keepIn K (.ref fd1) = true)
    (ad2 : PySem.W.nsIn K mainGlobals "is_lot" = some (some (.ref fd2))) (ld2 : K.lookup fd2 = some ⟨ocd2, odd2, .func (PySem.W.fnOf "is_lot" "is_lot" (defArgs sIsLot) (defBody sIsLot) (defScope sIsLot) .none kVd2 dcd2 pmd2 and2 cdd2 ctd2), sld2⟩) (od2 : PySem.W.codeIn K cdd2 "is_lot" = true) (kd2 : PySem.W.keepIn K (.ref fd2) = true)
    (ad3 : PySem.W.nsIn K mainGlobals "_is_lot_of_places" = some (some (.ref fd3))) (ld3 : K.lookup fd3 = some ⟨ocd3, odd3, .func (PySem.W.fnOf "_is_lot_of_places" "_is_lot_of_places" (defArgs sLotOf) (defBody sLotOf) (defScope sLotOf) .none kVd3 dcd3 pmd3 and3 cdd3 ctd3), sld3⟩) (od3 : PySem.W.codeIn K cdd3 "_is_lot_of_places" = true) (kd3 : PySem.W.keepIn K (.ref fd3) = true)
    (ad4 : PySem.W.nsIn K mainGlobals "is_place" = some (some (.ref fd4))) (ld4 : K.lookup fd4 = some ⟨ocd4, odd4, .func (PySem.W.fnOf "is_place" "is_place" (defArgs sIsPlace) (defBody sIsPlace) (defScope sIsPlace) .none kVd4 dcd4 pmd4 and4 cdd4 ctd4), sld4⟩) (od4 : PySem.W.codeIn K cdd4 "is_place" = true) (kd4 : PySem.W.keepIn K (.ref fd4) = true)
    (ad5 : PySem.W.nsIn K mainGlobals "way" = some (some (.ref fd5))) (ld5 : K.lookup fd5 = some ⟨ocd5, odd5, .func (PySem.W.fnOf "way" "way" (defArgs sWay) (defBody sWay) (defScope sWay) .none kVd5 dcd5 pmd5 and5 cdd5 ctd5), sld5⟩) (od5 : PySem.W.codeIn K cdd5 "way" = true) (kd5 : PySem.W.keepIn K (.ref fd5) = true)
    (ad6 : PySem.W.nsIn K mainGlobals "is_plan" = some (some (.ref fd6))) (ld6 : K.lookup fd6 = some ⟨ocd6, odd6, .func (PySem.W.fnOf "is_plan" "is_plan" (defArgs sIsPlan) (defBody sIsPlan) (defScope sIsPlan) .none kVd6 dcd6 pmd6 and6 cdd6 ctd6), sld6⟩) (od6 : PySem.W.codeIn K cdd6 "is_plan" = true) (kd6 : PySem.W.keepIn K (.ref fd6) = true)
    (ad7 : PySem.W.nsIn K mainGlobals "_is_cuts" = some (some (.ref fd7))) (ld7 : K.lookup fd7 = some ⟨ocd7, odd7, .func (PySem.W.fnOf "_is_cuts" "_is_cuts" (defArgs sIsCuts) (defBody sIsCuts) (defScope sIsCuts) .none kVd7 dcd7 pmd7 and7 cdd7 ctd7), sld7⟩) (od7 : PySem.W.codeIn K cdd7 "_is_cuts" = true) (kd7 : PySem.W.keepIn K (.ref fd7) = true)
    (ad8 : PySem.W.nsIn K mainGlobals "_level" = some (some (.ref fd8))) (ld8 : K.lookup fd8 = some ⟨ocd8, odd8, .func (PySem.W.fnOf "_level" "_level" (defArgs sLevel) (defBody sLevel) (defScope sLevel) .none kVd8 dcd8 pmd8 and8 cdd8 ctd8), sld8⟩) (od8 : PySem.W.codeIn K cdd8 "_level" = true) (kd8 : PySem.W.keepIn K (.ref fd8) = true)
    (ad9 : PySem.W.nsIn K mainGlobals "plan_of" = some (some (.ref fd9))) (ld9 : K.lookup fd9 = some ⟨ocd9, odd9, .func (PySem.W.fnOf "plan_of" "plan_of" (defArgs sPlanOf) (defBody sPlanOf) (defScope sPlanOf) .none kVd9 dcd9 pmd9 and9 cdd9 ctd9), sld9⟩) (od9 : PySem.W.codeIn K cdd9 "plan_of" = true) (kd9 : PySem.W.keepIn K (.ref fd9) = true)
    (ad10 : PySem.W.nsIn K mainGlobals "_stacks" = some (some (.ref fd10))) (ld10 : K.lookup fd10 = some ⟨ocd10, odd10, .func (PySem.W.fnOf "_stacks" "_stacks" (defArgs sStacks) (defBody sStacks) (defScope sStacks) .none kVd10 dcd10 pmd10 and10 cdd10 ctd10), sld10⟩) (od10 : PySem.W.codeIn K cdd10 "_stacks" = true) (kd10 : PySem.W.keepIn K (.ref fd10) = true)
    (ad11 : PySem.W.nsIn K mainGlobals "cuts_of" = some (some (.ref fd11))) (ld11 : K.lookup fd11 = some ⟨ocd11, odd11, .func (PySem.W.fnOf "cuts_of" "cuts_of" (defArgs sCutsOf) (defBody sCutsOf) (defScope sCutsOf) .none kVd11 dcd11 pmd11 and11 cdd11 ctd11), sld11⟩) (od11 : PySem.W.codeIn K cdd11 "cuts_of" = true) (kd11 : PySem.W.keepIn K (.ref fd11) = true)
    (ad12 : PySem.W.nsIn K mainGlobals "_stacks_above" = some (some (.ref fd12))) (ld12 : K.lookup fd12 = some ⟨ocd12, odd12, .func (PySem.W.fnOf "_stacks_above" "_stacks_above" (defArgs sAbove) (defBody sAbove) (defScope sAbove) .none kVd12 dcd12 pmd12 and12 cdd12 ctd12), sld12⟩) (od12 : PySem.W.codeIn K cdd12 "_stacks_above" = true) (kd12 : PySem.W.keepIn K (.ref fd12) = true)
    (ad13 : PySem.W.nsIn K mainGlobals "stack" = some (some (.ref fd13))) (ld13 : K.lookup fd13 = some ⟨ocd13, odd13, .func (PySem.W.fnOf "stack" "stack" (defArgs sStack) (defBody sStack) (defScope sStack) .none kVd13 dcd13 pmd13 and13 cdd13 ctd13), sld13⟩) (od13 : PySem.W.codeIn K cdd13 "stack" = true) (kd13 : PySem.W.keepIn K (.ref fd13) = true)
    (ad14 : PySem.W.nsIn K mainGlobals "_note_at" = some (some (.ref fd14))) (ld14 : K.lookup fd14 = some ⟨ocd14, odd14, .func (PySem.W.fnOf "_note_at" "_note_at" (defArgs sNoteAt) (defBody sNoteAt) (defScope sNoteAt) .none kVd14 dcd14 pmd14 and14 cdd14 ctd14), sld14⟩) (od14 : PySem.W.codeIn K cdd14 "_note_at" = true) (kd14 : PySem.W.keepIn K (.ref fd14) = true)
    (ad15 : PySem.W.nsIn K mainGlobals "notes_by_place" = some (some (.ref fd15))) (ld15 : K.lookup fd15 = some ⟨ocd15, odd15, .func (PySem.W.fnOf "notes_by_place" "notes_by_place" (defArgs sByPlace) (defBody sByPlace) (defScope sByPlace) .none kVd15 dcd15 pmd15 and15 cdd15 ctd15), sld15⟩) (od15 : PySem.W.codeIn K cdd15 "notes_by_place" = true) (kd15 : PySem.W.keepIn K (.ref fd15) = true)
    (ad16 : PySem.W.nsIn K mainGlobals "notes_of" = some (some (.ref fd16))) (ld16 : K.lookup fd16 = some ⟨ocd16, odd16, .func (PySem.W.fnOf "notes_of" "notes_of" (defArgs sNotesOf) (defBody sNotesOf) (defScope sNotesOf) .none kVd16 dcd16 pmd16 and16 cdd16 ctd16), sld16⟩) (od16 : PySem.W.codeIn K cdd16 "notes_of" = true) (kd16 : PySem.W.keepIn K (.ref fd16) = true)
    (ad17 : PySem.W.nsIn K mainGlobals "_law_hand" = some (some (.ref fd17))) (ld17 : K.lookup fd17 = some ⟨ocd17, odd17, .func (PySem.W.fnOf "_law_hand" "_law_hand" (defArgs sHand) (defBody sHand) (defScope sHand) .none kVd17 dcd17 pmd17 and17 cdd17 ctd17), sld17⟩) (od17 : PySem.W.codeIn K cdd17 "_law_hand" = true) (kd17 : PySem.W.keepIn K (.ref fd17) = true)
    (ad18 : PySem.W.nsIn K mainGlobals "_law_draw" = some (some (.ref fd18))) (ld18 : K.lookup fd18 = some ⟨ocd18, odd18, .func (PySem.W.fnOf "_law_draw" "_law_draw" (defArgs sDraw) (defBody sDraw) (defScope sDraw) .none kVd18 dcd18 pmd18 and18 cdd18 ctd18), sld18⟩) (od18 : PySem.W.codeIn K cdd18 "_law_draw" = true) (kd18 : PySem.W.keepIn K (.ref fd18) = true)
    (ad19 : PySem.W.nsIn K mainGlobals "_law_is" = some (some (.ref fd19))) (ld19 : K.lookup fd19 = some ⟨ocd19, odd19, .func (PySem.W.fnOf "_law_is" "_law_is" (defArgs sIs) (defBody sIs) (defScope sIs) .none kVd19 dcd19 pmd19 and19 cdd19 ctd19), sld19⟩) (od19 : PySem.W.codeIn K cdd19 "_law_is" = true) (kd19 : PySem.W.keepIn K (.ref fd19) = true)
    (ad20 : PySem.W.nsIn K mainGlobals "_law_parents" = some (some (.ref fd20))) (ld20 : K.lookup fd20 = some ⟨ocd20, odd20, .func (PySem.W.fnOf "_law_parents" "_law_parents" (defArgs sParents) (defBody sParents) (defScope sParents) .none kVd20 dcd20 pmd20 and20 cdd20 ctd20), sld20⟩) (od20 : PySem.W.codeIn K cdd20 "_law_parents" = true) (kd20 : PySem.W.keepIn K (.ref fd20) = true)
    (ad21 : PySem.W.nsIn K mainGlobals "_law_lot" = some (some (.ref fd21))) (ld21 : K.lookup fd21 = some ⟨ocd21, odd21, .func (PySem.W.fnOf "_law_lot" "_law_lot" (defArgs sLawLot) (defBody sLawLot) (defScope sLawLot) .none kVd21 dcd21 pmd21 and21 cdd21 ctd21), sld21⟩) (od21 : PySem.W.codeIn K cdd21 "_law_lot" = true) (kd21 : PySem.W.keepIn K (.ref fd21) = true)
    (ad22 : PySem.W.nsIn K mainGlobals "_law_levels" = some (some (.ref fd22))) (ld22 : K.lookup fd22 = some ⟨ocd22, odd22, .func (PySem.W.fnOf "_law_levels" "_law_levels" (defArgs sLevels) (defBody sLevels) (defScope sLevels) .none kVd22 dcd22 pmd22 and22 cdd22 ctd22), sld22⟩) (od22 : PySem.W.codeIn K cdd22 "_law_levels" = true) (kd22 : PySem.W.keepIn K (.ref fd22) = true)
    (ad23 : PySem.W.nsIn K mainGlobals "_law_told" = some (some (.ref fd23))) (ld23 : K.lookup fd23 = some ⟨ocd23, odd23, .func (PySem.W.fnOf "_law_told" "_law_told" (defArgs sTold) (defBody sTold) (defScope sTold) .none kVd23 dcd23 pmd23 and23 cdd23 ctd23), sld23⟩) (od23 : PySem.W.codeIn K cdd23 "_law_told" = true) (kd23 : PySem.W.keepIn K (.ref fd23) = true)
    (ad24 : PySem.W.nsIn K mainGlobals "_law_made" = some (some (.ref fd24))) (ld24 : K.lookup fd24 = some ⟨ocd24, odd24, .func (PySem.W.fnOf "_law_made" "_law_made" (defArgs sMade) (defBody sMade) (defScope sMade) .none kVd24 dcd24 pmd24 and24 cdd24 ctd24), sld24⟩) (od24 : PySem.W.codeIn K cdd24 "_law_made" = true) (kd24 : PySem.W.keepIn K (.ref fd24) = true)
    (ad25 : PySem.W.nsIn K mainGlobals "_law_road" = some (some (.ref fd25))) (ld25 : K.lookup fd25 = some ⟨ocd25, odd25, .func (PySem.W.fnOf "_law_road" "_law_road" (defArgs sRoad) (defBody sRoad) (defScope sRoad) .none kVd25 dcd25 pmd25 and25 cdd25 ctd25), sld25⟩) (od25 : PySem.W.codeIn K cdd25 "_law_road" = true) (kd25 : PySem.W.keepIn K (.ref fd25) = true)
    (ad26 : PySem.W.nsIn K mainGlobals "_law_stacks" = some (some (.ref fd26))) (ld26 : K.lookup fd26 = some ⟨ocd26, odd26, .func (PySem.W.fnOf "_law_stacks" "_law_stacks" (defArgs sLStacks) (defBody sLStacks) (defScope sLStacks) .none kVd26 dcd26 pmd26 and26 cdd26 ctd26), sld26⟩) (od26 : PySem.W.codeIn K cdd26 "_law_stacks" = true) (kd26 : PySem.W.keepIn K (.ref fd26) = true)
    (ad27 : PySem.W.nsIn K mainGlobals "_law_notes" = some (some (.ref fd27))) (ld27 : K.lookup fd27 = some ⟨ocd27, odd27, .func (PySem.W.fnOf "_law_notes" "_law_notes" (defArgs sLNotes) (defBody sLNotes) (defScope sLNotes) .none kVd27 dcd27 pmd27 and27 cdd27 ctd27), sld27⟩) (od27 : PySem.W.codeIn K cdd27 "_law_notes" = true) (kd27 : PySem.W.keepIn K (.ref fd27) = true)
    (ad28 : PySem.W.nsIn K mainGlobals "_law_plans" = some (some (.ref fd28))) (ld28 : K.lookup fd28 = some ⟨ocd28, odd28, .func (PySem.W.fnOf "_law_plans" "_law_plans" (defArgs sPlans) (defBody sPlans) (defScope sPlans) .none kVd28 dcd28 pmd28 and28 cdd28 ctd28), sld28⟩) (od28 : PySem.W.codeIn K cdd28 "_law_plans" = true) (kd28 : PySem.W.keepIn K (.ref fd28) = true)
    (ad29 : PySem.W.nsIn K mainGlobals "_law_level" = some (some (.ref fd29))) (ld29 : K.lookup fd29 = some ⟨ocd29, odd29, .func (PySem.W.fnOf "_law_level" "_law_level" (defArgs sLLevel) (defBody sLLevel) (defScope sLLevel) .none kVd29 dcd29 pmd29 and29 cdd29 ctd29), sld29⟩) (od29 : PySem.W.codeIn K cdd29 "_law_level" = true) (kd29 : PySem.W.keepIn K (.ref fd29) = true)
    (ad30 : PySem.W.nsIn K mainGlobals "_law_put" = some (some (.ref fd30))) (ld30 : K.lookup fd30 = some ⟨ocd30, odd30, .func (PySem.W.fnOf "_law_put" "_law_put" (defArgs sPut) (defBody sPut) (defScope sPut) .none kVd30 dcd30 pmd30 and30 cdd30 ctd30), sld30⟩) (od30 : PySem.W.codeIn K cdd30 "_law_put" = true) (kd30 : PySem.W.keepIn K (.ref fd30) = true)
    (ad31 : PySem.W.nsIn K mainGlobals "_law_plan_right" = some (some (.ref fd31))) (ld31 : K.lookup fd31 = some ⟨ocd31, odd31, .func (PySem.W.fnOf "_law_plan_right" "_law_plan_right" (defArgs sRight) (defBody sRight) (defScope sRight) .none kVd31 dcd31 pmd31 and31 cdd31 ctd31), sld31⟩) (od31 : PySem.W.codeIn K cdd31 "_law_plan_right" = true) (kd31 : PySem.W.keepIn K (.ref fd31) = true)
    (aW : PySem.W.nsIn K mainGlobals "law" = some (some (.ref fW))) (lW : K.lookup fW = some ⟨ocW, odW, .func (PySem.W.fnOf "law" "law" (defArgs sLaw) (defBody sLaw) (defScope sLaw) .none kVW dcW pmW anW cdW ctW), slW⟩) (oW : PySem.W.codeIn K cdW "law" = true) (kW : PySem.W.keepIn K (.ref fW) = true)
    (zisinstance : PySem.W.nsIn K mainGlobals "isinstance" = some none) (ztuple : PySem.W.nsIn K mainGlobals "tuple" = some none) (zlist : PySem.W.nsIn K mainGlobals "list" = some none) (zbool : PySem.W.nsIn K mainGlobals "bool" = some none) (zlen : PySem.W.nsIn K mainGlobals "len" = some none) (zall : PySem.W.nsIn K mainGlobals "all" = some none) (zzip : PySem.W.nsIn K mainGlobals "zip" = some none) (zint : PySem.W.nsIn K mainGlobals "int" = some none) (zabs : PySem.W.nsIn K mainGlobals "abs" = some none) (zrange : PySem.W.nsIn K mainGlobals "range" = some none) (zenumerate : PySem.W.nsIn K mainGlobals "enumerate" = some none) (zreversed : PySem.W.nsIn K mainGlobals "reversed" = some none) (zsorted : PySem.W.nsIn K mainGlobals "sorted" = some none) (zmin : PySem.W.nsIn K mainGlobals "min" = some none)
    : ∃ fd : FuncData, (∀ (s : Shared) (v : Value), BindsTo s fd ⟨[v], []⟩ [("_law_script", v)]) ∧ ∀ base : Heap, K.In base → base.Ns mainGlobals mg → FnOk P w K mg base CX0 9 fa fd ["_law_script"] (spLaw K) := by
  have e := hfa.symm.trans (PySem.W.mg_of X G aW)
  cases e
  have IT : IsTxt mg := ⟨PySem.W.mg_none_of X G zisinstance, PySem.W.mg_none_of X G ztuple, PySem.W.mg_none_of X G zlist, PySem.W.mg_none_of X G zbool, PySem.W.mg_none_of X G zlen, PySem.W.mg_none_of X G zall, PySem.W.mg_none_of X G zzip⟩
  have NT : NamT mg := ⟨IT, PySem.W.mg_none_of X G zint, PySem.W.mg_none_of X G zabs, PySem.W.mg_none_of X G zrange, PySem.W.mg_none_of X G zenumerate, PySem.W.mg_none_of X G zreversed, PySem.W.mg_none_of X G zsorted, PySem.W.mg_none_of X G zmin⟩
  have Fd0 := fun_mk (st := sIsInt) ld0 od0 kd0
  have Dd0 : ∃ f fd, DefAt K mg "is_integer" sIsInt ["thing"] f fd := ⟨_, _, ⟨Fd0, Fd0.binds (ps := ["thing"]) fun _ _ _ _ _ _ us hl => match us, hl with | [_], _ => rfl, PySem.W.mg_of X G ad0⟩⟩
  have Fd1 := fun_mk (st := sIsBtw) ld1 od1 kd1
  have Dd1 : ∃ f fd, DefAt K mg "is_between" sIsBtw ["thing", "least", "most"] f fd := ⟨_, _, ⟨Fd1, Fd1.binds (ps := ["thing", "least", "most"]) fun _ _ _ _ _ _ us hl => match us, hl with | [_, _, _], _ => rfl, PySem.W.mg_of X G ad1⟩⟩
  have Fd2 := fun_mk (st := sIsLot) ld2 od2 kd2
  have Dd2 : ∃ f fd, DefAt K mg "is_lot" sIsLot ["thing"] f fd := ⟨_, _, ⟨Fd2, Fd2.binds (ps := ["thing"]) fun _ _ _ _ _ _ us hl => match us, hl with | [_], _ => rfl, PySem.W.mg_of X G ad2⟩⟩
  have Fd3 := fun_mk (st := sLotOf) ld3 od3 kd3
  have Dd3 : ∃ f fd, DefAt K mg "_is_lot_of_places" sLotOf ["thing", "many"] f fd := ⟨_, _, ⟨Fd3, Fd3.binds (ps := ["thing", "many"]) fun _ _ _ _ _ _ us hl => match us, hl with | [_, _], _ => rfl, PySem.W.mg_of X G ad3⟩⟩
  have Fd4 := fun_mk (st := sIsPlace) ld4 od4 kd4
  have Dd4 : ∃ f fd, DefAt K mg "is_place" sIsPlace ["forest", "thing"] f fd := ⟨_, _, ⟨Fd4, Fd4.binds (ps := ["forest", "thing"]) fun _ _ _ _ _ _ us hl => match us, hl with | [_, _], _ => rfl, PySem.W.mg_of X G ad4⟩⟩
  have Fd5 := fun_mk (st := sWay) ld5 od5 kd5
  have Dd5 : ∃ f fd, DefAt K mg "way" sWay ["forest", "place"] f fd := ⟨_, _, ⟨Fd5, Fd5.binds (ps := ["forest", "place"]) fun _ _ _ _ _ _ us hl => match us, hl with | [_, _], _ => rfl, PySem.W.mg_of X G ad5⟩⟩
  have Fd6 := fun_mk (st := sIsPlan) ld6 od6 kd6
  have Dd6 : ∃ f fd, DefAt K mg "is_plan" sIsPlan ["forest", "thing"] f fd := ⟨_, _, ⟨Fd6, Fd6.binds (ps := ["forest", "thing"]) fun _ _ _ _ _ _ us hl => match us, hl with | [_, _], _ => rfl, PySem.W.mg_of X G ad6⟩⟩
  have Fd7 := fun_mk (st := sIsCuts) ld7 od7 kd7
  have Dd7 : ∃ f fd, DefAt K mg "_is_cuts" sIsCuts ["forest", "thing"] f fd := ⟨_, _, ⟨Fd7, Fd7.binds (ps := ["forest", "thing"]) fun _ _ _ _ _ _ us hl => match us, hl with | [_, _], _ => rfl, PySem.W.mg_of X G ad7⟩⟩
  have Fd8 := fun_mk (st := sLevel) ld8 od8 kd8
  have Dd8 : ∃ f fd, DefAt K mg "_level" sLevel ["forest", "cuts", "place"] f fd := ⟨_, _, ⟨Fd8, Fd8.binds (ps := ["forest", "cuts", "place"]) fun _ _ _ _ _ _ us hl => match us, hl with | [_, _, _], _ => rfl, PySem.W.mg_of X G ad8⟩⟩
  have Fd9 := fun_mk (st := sPlanOf) ld9 od9 kd9
  have Dd9 : ∃ f fd, DefAt K mg "plan_of" sPlanOf ["forest", "cuts"] f fd := ⟨_, _, ⟨Fd9, Fd9.binds (ps := ["forest", "cuts"]) fun _ _ _ _ _ _ us hl => match us, hl with | [_, _], _ => rfl, PySem.W.mg_of X G ad9⟩⟩
  have Fd10 := fun_mk (st := sStacks) ld10 od10 kd10
  have Dd10 : ∃ f fd, DefAt K mg "_stacks" sStacks ["forest", "plan"] f fd := ⟨_, _, ⟨Fd10, Fd10.binds (ps := ["forest", "plan"]) fun _ _ _ _ _ _ us hl => match us, hl with | [_, _], _ => rfl, PySem.W.mg_of X G ad10⟩⟩
  have Fd11 := fun_mk (st := sCutsOf) ld11 od11 kd11
  have Dd11 : ∃ f fd, DefAt K mg "cuts_of" sCutsOf ["forest", "plan"] f fd := ⟨_, _, ⟨Fd11, Fd11.binds (ps := ["forest", "plan"]) fun _ _ _ _ _ _ us hl => match us, hl with | [_, _], _ => rfl, PySem.W.mg_of X G ad11⟩⟩
  have Fd12 := fun_mk (st := sAbove) ld12 od12 kd12
  have Dd12 : ∃ f fd, DefAt K mg "_stacks_above" sAbove ["forest", "plan"] f fd := ⟨_, _, ⟨Fd12, Fd12.binds (ps := ["forest", "plan"]) fun _ _ _ _ _ _ us hl => match us, hl with | [_, _], _ => rfl, PySem.W.mg_of X G ad12⟩⟩
  have Fd13 := fun_mk (st := sStack) ld13 od13 kd13
  have Dd13 : ∃ f fd, DefAt K mg "stack" sStack ["forest", "plan", "place"] f fd := ⟨_, _, ⟨Fd13, Fd13.binds (ps := ["forest", "plan", "place"]) fun _ _ _ _ _ _ us hl => match us, hl with | [_, _, _], _ => rfl, PySem.W.mg_of X G ad13⟩⟩
  have Fd14 := fun_mk (st := sNoteAt) ld14 od14 kd14
  have Dd14 : ∃ f fd, DefAt K mg "_note_at" sNoteAt ["forest", "found", "place"] f fd := ⟨_, _, ⟨Fd14, Fd14.binds (ps := ["forest", "found", "place"]) fun _ _ _ _ _ _ us hl => match us, hl with | [_, _, _], _ => rfl, PySem.W.mg_of X G ad14⟩⟩
  have Fd15 := fun_mk (st := sByPlace) ld15 od15 kd15
  have Dd15 : ∃ f fd, DefAt K mg "notes_by_place" sByPlace ["forest", "plan"] f fd := ⟨_, _, ⟨Fd15, Fd15.binds (ps := ["forest", "plan"]) fun _ _ _ _ _ _ us hl => match us, hl with | [_, _], _ => rfl, PySem.W.mg_of X G ad15⟩⟩
  have Fd16 := fun_mk (st := sNotesOf) ld16 od16 kd16
  have Dd16 : ∃ f fd, DefAt K mg "notes_of" sNotesOf ["forest", "plan"] f fd := ⟨_, _, ⟨Fd16, Fd16.binds (ps := ["forest", "plan"]) fun _ _ _ _ _ _ us hl => match us, hl with | [_, _], _ => rfl, PySem.W.mg_of X G ad16⟩⟩
  have Fd17 := fun_mk (st := sHand) ld17 od17 kd17
  have Dd17 : ∃ f fd, DefAt K mg "_law_hand" sHand ["_law_script"] f fd := ⟨_, _, ⟨Fd17, Fd17.binds (ps := ["_law_script"]) fun _ _ _ _ _ _ us hl => match us, hl with | [_], _ => rfl, PySem.W.mg_of X G ad17⟩⟩
  have Fd18 := fun_mk (st := sDraw) ld18 od18 kd18
  have Dd18 : ∃ f fd, DefAt K mg "_law_draw" sDraw ["_law_hand_here", "_law_many"] f fd := ⟨_, _, ⟨Fd18, Fd18.binds (ps := ["_law_hand_here", "_law_many"]) fun _ _ _ _ _ _ us hl => match us, hl with | [_, _], _ => rfl, PySem.W.mg_of X G ad18⟩⟩
  have Fd19 := fun_mk (st := sIs) ld19 od19 kd19
  have Dd19 : ∃ f fd, DefAt K mg "_law_is" sIs ["_law_told_here", "_law_due"] f fd := ⟨_, _, ⟨Fd19, Fd19.binds (ps := ["_law_told_here", "_law_due"]) fun _ _ _ _ _ _ us hl => match us, hl with | [_, _], _ => rfl, PySem.W.mg_of X G ad19⟩⟩
  have Fd20 := fun_mk (st := sParents) ld20 od20 kd20
  have Dd20 : ∃ f fd, DefAt K mg "_law_parents" sParents ["_law_hand_here", "_law_places"] f fd := ⟨_, _, ⟨Fd20, Fd20.binds (ps := ["_law_hand_here", "_law_places"]) fun _ _ _ _ _ _ us hl => match us, hl with | [_, _], _ => rfl, PySem.W.mg_of X G ad20⟩⟩
  have Fd21 := fun_mk (st := sLawLot) ld21 od21 kd21
  have Dd21 : ∃ f fd, DefAt K mg "_law_lot" sLawLot ["_law_hand_here", "_law_places", "_law_share"] f fd := ⟨_, _, ⟨Fd21, Fd21.binds (ps := ["_law_hand_here", "_law_places", "_law_share"]) fun _ _ _ _ _ _ us hl => match us, hl with | [_, _, _], _ => rfl, PySem.W.mg_of X G ad21⟩⟩
  have Fd22 := fun_mk (st := sLevels) ld22 od22 kd22
  have Dd22 : ∃ f fd, DefAt K mg "_law_levels" sLevels ["_law_hand_here", "_law_parents_here"] f fd := ⟨_, _, ⟨Fd22, Fd22.binds (ps := ["_law_hand_here", "_law_parents_here"]) fun _ _ _ _ _ _ us hl => match us, hl with | [_, _], _ => rfl, PySem.W.mg_of X G ad22⟩⟩
  have Fd23 := fun_mk (st := sTold) ld23 od23 kd23
  have Dd23 : ∃ f fd, DefAt K mg "_law_told" sTold ["_law_hand_here", "_law_most"] f fd := ⟨_, _, ⟨Fd23, Fd23.binds (ps := ["_law_hand_here", "_law_most"]) fun _ _ _ _ _ _ us hl => match us, hl with | [_, _], _ => rfl, PySem.W.mg_of X G ad23⟩⟩
  have Fd24 := fun_mk (st := sMade) ld24 od24 kd24
  have Dd24 : ∃ f fd, DefAt K mg "_law_made" sMade ["_law_told_here"] f fd := ⟨_, _, ⟨Fd24, Fd24.binds (ps := ["_law_told_here"]) fun _ _ _ _ _ _ us hl => match us, hl with | [_], _ => rfl, PySem.W.mg_of X G ad24⟩⟩
  have Fd25 := fun_mk (st := sRoad) ld25 od25 kd25
  have Dd25 : ∃ f fd, DefAt K mg "_law_road" sRoad ["_law_parents_here", "_law_place"] f fd := ⟨_, _, ⟨Fd25, Fd25.binds (ps := ["_law_parents_here", "_law_place"]) fun _ _ _ _ _ _ us hl => match us, hl with | [_, _], _ => rfl, PySem.W.mg_of X G ad25⟩⟩
  have Fd26 := fun_mk (st := sLStacks) ld26 od26 kd26
  have Dd26 : ∃ f fd, DefAt K mg "_law_stacks" sLStacks ["_law_parents_here", "_law_levels_here"] f fd := ⟨_, _, ⟨Fd26, Fd26.binds (ps := ["_law_parents_here", "_law_levels_here"]) fun _ _ _ _ _ _ us hl => match us, hl with | [_, _], _ => rfl, PySem.W.mg_of X G ad26⟩⟩
  have Fd27 := fun_mk (st := sLNotes) ld27 od27 kd27
  have Dd27 : ∃ f fd, DefAt K mg "_law_notes" sLNotes ["_law_parents_here", "_law_bearing", "_law_asking", "_law_levels_here"] f fd := ⟨_, _, ⟨Fd27, Fd27.binds (ps := ["_law_parents_here", "_law_bearing", "_law_asking", "_law_levels_here"]) fun _ _ _ _ _ _ us hl => match us, hl with | [_, _, _, _], _ => rfl, PySem.W.mg_of X G ad27⟩⟩
  have Fd28 := fun_mk (st := sPlans) ld28 od28 kd28
  have Dd28 : ∃ f fd, DefAt K mg "_law_plans" sPlans ["_law_parents_here"] f fd := ⟨_, _, ⟨Fd28, Fd28.binds (ps := ["_law_parents_here"]) fun _ _ _ _ _ _ us hl => match us, hl with | [_], _ => rfl, PySem.W.mg_of X G ad28⟩⟩
  have Fd29 := fun_mk (st := sLLevel) ld29 od29 kd29
  have Dd29 : ∃ f fd, DefAt K mg "_law_level" sLLevel ["_law_parents_here", "_law_ranks", "_law_place"] f fd := ⟨_, _, ⟨Fd29, Fd29.binds (ps := ["_law_parents_here", "_law_ranks", "_law_place"]) fun _ _ _ _ _ _ us hl => match us, hl with | [_, _, _], _ => rfl, PySem.W.mg_of X G ad29⟩⟩
  have Fd30 := fun_mk (st := sPut) ld30 od30 kd30
  have Dd30 : ∃ f fd, DefAt K mg "_law_put" sPut ["_law_parents_here", "_law_one", "_law_other", "_law_place"] f fd := ⟨_, _, ⟨Fd30, Fd30.binds (ps := ["_law_parents_here", "_law_one", "_law_other", "_law_place"]) fun _ _ _ _ _ _ us hl => match us, hl with | [_, _, _, _], _ => rfl, PySem.W.mg_of X G ad30⟩⟩
  have Fd31 := fun_mk (st := sRight) ld31 od31 kd31
  have Dd31 : ∃ f fd, DefAt K mg "_law_plan_right" sRight ["_law_told_here", "_law_made_here", "_law_levels_here"] f fd := ⟨_, _, ⟨Fd31, Fd31.binds (ps := ["_law_told_here", "_law_made_here", "_law_levels_here"]) fun _ _ _ _ _ _ us hl => match us, hl with | [_, _, _], _ => rfl, PySem.W.mg_of X G ad31⟩⟩
  have FW := fun_mk (st := sLaw) lW oW kW
  have FN := fun_mk (st := sInit) lN oN kN
  have bN := FN.binds (ps := ["self", "parents", "bearing", "asking"]) fun _ _ _ _ _ _ us hl => match us, hl with | [_, _, _, _], _ => rfl
  have T : FoT K mg C := ⟨⟨pg, hd, po, sa⟩, nP, nB, nA, PySem.W.mg_of X G aC⟩
  have B : Defs K mg C := ⟨NT, T, ⟨tm, PySem.W.mg_of X G mM⟩, ⟨_, _, FN, ⟨mk, aN, iN, kc⟩, bN⟩, Dd0, Dd1, Dd2, Dd3, Dd4, Dd5, Dd6, Dd7, Dd8, Dd9, Dd10, Dd11, Dd12, Dd13, Dd14, Dd15, Dd16, Dd17, Dd18, Dd19, Dd20, Dd21, Dd22, Dd23, Dd24, Dd25, Dd26, Dd27, Dd28, Dd29, Dd30, Dd31⟩
  exact ⟨PySem.W.fnOf "law" "law" (defArgs sLaw) (defBody sLaw) (defScope sLaw) .none kVW dcW pmW anW cdW ctW, fun s v => .of_eq rfl, fun base _ _ => ok_law FW B⟩
theorem walk {l : PySem.W.OpenLaw} {q : Program} {loose : List Str} {XP : (Str → Option Value) → Heap → Prop} {YP : World → Heap → Prop} {d : DefRec} {K : Params → PySem.W.Frag} (hn : l.most = some 63) (hdf : d.params.defaults = [])
    (hY : ∀ (w : World) (h : Heap), YP w h → (K w.params).In h)
    (F : ∀ (w : World) (mg : Str → Option Value) (fa : Addr) (h : Heap), (K w.params).In h → h.Ns mainGlobals mg → mg d.name = some (.ref fa) →
      ∃ fd : FuncData, (∀ (s : Shared) (u : Value), BindsTo s fd ⟨[u], []⟩ [("_law_script", u)]) ∧ ∀ base : Heap, (K w.params).In base → base.Ns mainGlobals mg → FnOk l.prog w (K w.params) mg base CX0 9 fa fd ["_law_script"] (spLaw (K w.params))) :
    PySem.W.WalkO q loose XP YP l.row.toRowW d [] (fun f vs => PySem.call f vs) :=
  L2.walk_of (n := 63) (k := 9) (x := "_law_script") (CX := fun _ => CX0) (sp := fun w => spLaw (K w.params)) hn (by decide) hdf ⟨rfl, by decide, by decide⟩ hY F (fun _ _ a ns hl _ hS => ⟨a, ns, rfl, hS, hl, fun _ => rfl⟩) fun _ _ _ _ _ z => z
end Cn
open PySem PySem.W PyProof.Rows
set_option maxRecDepth 100000 in
set_option maxHeartbeats 0 in
theorem PySem.Challenge.cw_cutnotes_k05_whole_all_levels_can_be_had_holds : PySem.Challenge.rw_cutnotes_k05_whole_all_levels_can_be_had.Holds := by
  w_on; o_law; k_head; (case hw => w_witness2)
  k_fill
  refine Cn.walk (l := PySem.Challenge.rw_cutnotes_k05_whole_all_levels_can_be_had) rfl rfl (fun w h Y => PySem.W.kIn_of Y) ?F
  case F =>
    intro w mg fa h KX G hmg
    refine' Cn.all_mk KX G hmg ?aC ?pg ?hd ?po ?sa ?mk ?kc ?nP ?nB ?nA ?mM ?aN ?iN ?lN ?oN ?kN ?a_d0 ?l_d0 ?o_d0 ?k_d0 ?a_d1 ?l_d1 ?o_d1 ?k_d1 ?a_d2 ?l_d2 ?o_d2 ?k_d2 ?a_d3 ?l_d3 ?o_d3 ?k_d3 ?a_d4 ?l_d4 ?o_d4 ?k_d4 ?a_d5 ?l_d5 ?o_d5 ?k_d5 ?a_d6 ?l_d6 ?o_d6 ?k_d6 ?a_d7 ?l_d7 ?o_d7 ?k_d7 ?a_d8 ?l_d8 ?o_d8 ?k_d8 ?a_d9 ?l_d9 ?o_d9 ?k_d9 ?a_d10 ?l_d10 ?o_d10 ?k_d10 ?a_d11 ?l_d11 ?o_d11 ?k_d11 ?a_d12 ?l_d12 ?o_d12 ?k_d12 ?a_d13 ?l_d13 ?o_d13 ?k_d13 ?a_d14 ?l_d14 ?o_d14 ?k_d14 ?a_d15 ?l_d15 ?o_d15 ?k_d15 ?a_d16 ?l_d16 ?o_d16 ?k_d16 ?a_d17 ?l_d17 ?o_d17 ?k_d17 ?a_d18 ?l_d18 ?o_d18 ?k_d18 ?a_d19 ?l_d19 ?o_d19 ?k_d19 ?a_d20 ?l_d20 ?o_d20 ?k_d20 ?a_d21 ?l_d21 ?o_d21 ?k_d21 ?a_d22 ?l_d22 ?o_d22 ?k_d22 ?a_d23 ?l_d23 ?o_d23 ?k_d23 ?a_d24 ?l_d24 ?o_d24 ?k_d24 ?a_d25 ?l_d25 ?o_d25 ?k_d25 ?a_d26 ?l_d26 ?o_d26 ?k_d26 ?a_d27 ?l_d27 ?o_d27 ?k_d27 ?a_d28 ?l_d28 ?o_d28 ?k_d28 ?a_d29 ?l_d29 ?o_d29 ?k_d29 ?a_d30 ?l_d30 ?o_d30 ?k_d30 ?a_d31 ?l_d31 ?o_d31 ?k_d31 ?a_W ?l_W ?o_W ?k_W ?z_isinstance ?z_tuple ?z_list ?z_bool ?z_len ?z_all ?z_zip ?z_int ?z_abs ?z_range ?z_enumerate ?z_reversed ?z_sorted ?z_min
    (case aC => k_is); (case pg => k_is); (case hd => k_is); (case po => k_is); (case sa => k_is); (case mk => k_is); (case kc => k_is); (case nP => k_is)
    (case nB => k_is); (case nA => k_is); (case mM => k_is); (case aN => k_is); (case iN => k_is); (case lN => k_is); (case oN => k_is); (case kN => k_is)
    (case a_d0 => k_is); (case l_d0 => k_is); (case o_d0 => k_is); (case k_d0 => k_is); (case a_d1 => k_is); (case l_d1 => k_is); (case o_d1 => k_is); (case k_d1 => k_is)
    (case a_d2 => k_is); (case l_d2 => k_is); (case o_d2 => k_is); (case k_d2 => k_is); (case a_d3 => k_is); (case l_d3 => k_is); (case o_d3 => k_is); (case k_d3 => k_is)
    (case a_d4 => k_is); (case l_d4 => k_is); (case o_d4 => k_is); (case k_d4 => k_is); (case a_d5 => k_is); (case l_d5 => k_is); (case o_d5 => k_is); (case k_d5 => k_is)
    (case a_d6 => k_is); (case l_d6 => k_is); (case o_d6 => k_is); (case k_d6 => k_is); (case a_d7 => k_is); (case l_d7 => k_is); (case o_d7 => k_is); (case k_d7 => k_is)
    (case a_d8 => k_is); (case l_d8 => k_is); (case o_d8 => k_is); (case k_d8 => k_is); (case a_d9 => k_is); (case l_d9 => k_is); (case o_d9 => k_is); (case k_d9 => k_is)
    (case a_d10 => k_is); (case l_d10 => k_is); (case o_d10 => k_is); (case k_d10 => k_is); (case a_d11 => k_is); (case l_d11 => k_is); (case o_d11 => k_is); (case k_d11 => k_is)
    (case a_d12 => k_is); (case l_d12 => k_is); (case o_d12 => k_is); (case k_d12 => k_is); (case a_d13 => k_is); (case l_d13 => k_is); (case o_d13 => k_is); (case k_d13 => k_is)
    (case a_d14 => k_is); (case l_d14 => k_is); (case o_d14 => k_is); (case k_d14 => k_is); (case a_d15 => k_is); (case l_d15 => k_is); (case o_d15 => k_is); (case k_d15 => k_is)
    (case a_d16 => k_is); (case l_d16 => k_is); (case o_d16 => k_is); (case k_d16 => k_is); (case a_d17 => k_is); (case l_d17 => k_is); (case o_d17 => k_is); (case k_d17 => k_is)
    (case a_d18 => k_is); (case l_d18 => k_is); (case o_d18 => k_is); (case k_d18 => k_is); (case a_d19 => k_is); (case l_d19 => k_is); (case o_d19 => k_is); (case k_d19 => k_is)
    (case a_d20 => k_is); (case l_d20 => k_is); (case o_d20 => k_is); (case k_d20 => k_is); (case a_d21 => k_is); (case l_d21 => k_is); (case o_d21 => k_is); (case k_d21 => k_is)
    (case a_d22 => k_is); (case l_d22 => k_is); (case o_d22 => k_is); (case k_d22 => k_is); (case a_d23 => k_is); (case l_d23 => k_is); (case o_d23 => k_is); (case k_d23 => k_is)
    (case a_d24 => k_is); (case l_d24 => k_is); (case o_d24 => k_is); (case k_d24 => k_is); (case a_d25 => k_is); (case l_d25 => k_is); (case o_d25 => k_is); (case k_d25 => k_is)
    (case a_d26 => k_is); (case l_d26 => k_is); (case o_d26 => k_is); (case k_d26 => k_is); (case a_d27 => k_is); (case l_d27 => k_is); (case o_d27 => k_is); (case k_d27 => k_is)
    (case a_d28 => k_is); (case l_d28 => k_is); (case o_d28 => k_is); (case k_d28 => k_is); (case a_d29 => k_is); (case l_d29 => k_is); (case o_d29 => k_is); (case k_d29 => k_is)
    (case a_d30 => k_is); (case l_d30 => k_is); (case o_d30 => k_is); (case k_d30 => k_is); (case a_d31 => k_is); (case l_d31 => k_is); (case o_d31 => k_is); (case k_d31 => k_is)
    (case a_W => k_is); (case l_W => k_is); (case o_W => k_is); (case k_W => k_is); (case z_isinstance => k_is); (case z_tuple => k_is); (case z_list => k_is); (case z_bool => k_is)
    (case z_len => k_is); (case z_all => k_is); (case z_zip => k_is); (case z_int => k_is); (case z_abs => k_is); (case z_range => k_is); (case z_enumerate => k_is); (case z_reversed => k_is)
    (case z_sorted => k_is); (case z_min => k_is)
#print axioms PySem.Challenge.cw_cutnotes_k05_whole_all_levels_can_be_had_holds
