import PyProof.Rows.All
import Wide.All
import OpenK.AllK
import Wide.FinOn
import HandS.Base
import HandS.Call
import HandS.List
import HandS.Comp
import HandS.Ends
import HandS.Dict
import HandS.Iter
import HandS.Words
import HandS.WordsList
import PySem.Challenge.RW_cutnotes_k04_whole_plans_by_cutting_piec
import HandS.Zip
import HandS.IsInst
import HandS.DeepEq
import HandS.Codes
import KE.GoesMore
import KE.GoesEnum
import PyProof.EnumMake
import PyProof.Draws
import HandS.TupAny
import HandS.Rev
import HandS.Conv
import HandS.Walk
import HandS.More
import HandS.Strs
import HandS.Flow
import HandS.Steps
import HandS.Style
import HandS.DictComp
import HandS.SortKw
import KE.DataMinMax
import KE.KStateDown
import HandS.ForMost
set_option Elab.async false
set_option linter.all false
set_option maxRecDepth 100000
set_option maxHeartbeats 4000000
namespace Ck
def road (ps : List (Option Nat)) (i : Nat) : List Nat :=
  match ps[i]? with
  | some (some p) => if _h : p < i then road ps p ++ [i] else [i]
  | _ => [i]
termination_by i
def stk (ps : List (Option Nat)) (lv : List Nat) (i : Nat) : List Nat :=
  match ps[i]? with
  | some (some p) => if _h : p < i then (stk ps lv p).take (lv.getD i 0 - 1) ++ [i] else [i]
  | _ => [i]
termination_by i
def Ps (ps : List (Option Nat)) : Prop := ∀ (i p : Nat), ps[i]? = some (some p) → p < i
/-- the most that the level of i may be, by the levels ahead -/
def mostLv (lv : List Nat) : Option Nat → Nat
  | none => 1
  | some p => lv.getD p 0 + 1
def Lv (ps : List (Option Nat)) (lv : List Nat) : Prop := lv.length = ps.length ∧ ∀ (i l : Nat) (q : Option Nat), lv[i]? = some l → ps[i]? = some q → 1 ≤ l ∧ l ≤ mostLv lv q
section
variable {ps : List (Option Nat)} {lv : List Nat} {i p : Nat}
theorem road_none (h : ps[i]? = some none) : road ps i = [i] := by
  rw [road, h]
theorem road_some (hp : Ps ps) (h : ps[i]? = some (some p)) : road ps i = road ps p ++ [i] := by
  have hl := hp i p h
  rw [road, h]
  dsimp only
  rw [dif_pos hl]
theorem stk_none (h : ps[i]? = some none) : stk ps lv i = [i] := by
  rw [stk, h]
theorem stk_some (hp : Ps ps) (h : ps[i]? = some (some p)) : stk ps lv i = (stk ps lv p).take (lv.getD i 0 - 1) ++ [i] := by
  have hl := hp i p h
  rw [stk, h]
  dsimp only
  rw [dif_pos hl]
theorem opt_cases (hi : i < ps.length) : ps[i]? = some none ∨ ∃ p, ps[i]? = some (some p) := by
  rw [List.getElem?_eq_getElem hi]
  cases h : ps[i] with
  | none => exact .inl rfl
  | some p => exact .inr ⟨p, rfl⟩
theorem road_le (hp : Ps ps) : ∀ n, n < ps.length → ∀ x ∈ road ps n, x ≤ n := by
  intro n
  induction n using Nat.strongRecOn with
  | ind n ih =>
    intro hn x hx
    rcases opt_cases hn with h | ⟨p, h⟩
    · rw [road_none h] at hx
      exact Nat.le_of_eq (List.mem_singleton.mp hx)
    · rw [road_some hp h] at hx
      have hl := hp n p h
      rcases List.mem_append.mp hx with hx | hx
      · exact Nat.le_of_lt (Nat.lt_of_le_of_lt (ih p hl (Nat.lt_trans hl hn) x hx) hl)
      · exact Nat.le_of_eq (List.mem_singleton.mp hx)
theorem road_self (hp : Ps ps) (hi : i < ps.length) : i ∈ road ps i := by
  rcases opt_cases hi with h | ⟨p, h⟩
  · rw [road_none h]; exact List.mem_singleton.mpr rfl
  · rw [road_some hp h]; exact List.mem_append.mpr (.inr (List.mem_singleton.mpr rfl))
theorem road_ne (hp : Ps ps) (hi : i < ps.length) : road ps i ≠ [] := fun z => by
  have h := road_self hp hi
  rw [z] at h; cases h
theorem road_len (hp : Ps ps) : ∀ n, n < ps.length → (road ps n).length ≤ n + 1 := by
  intro n
  induction n using Nat.strongRecOn with
  | ind n ih =>
    intro hn
    rcases opt_cases hn with h | ⟨p, h⟩
    · rw [road_none h]; exact Nat.le_add_left _ _
    · have hl := hp n p h
      have := ih p hl (Nat.lt_trans hl hn)
      rw [road_some hp h, List.length_append, List.length_singleton]
      omega
theorem getD_of {xs : List Nat} {l : Nat} (h : xs[i]? = some l) : xs.getD i 0 = l := by
  rw [List.getD_eq_getElem?_getD, h]; rfl
theorem stk_len (hp : Ps ps) (hv : Lv ps lv) : ∀ n, n < ps.length → (stk ps lv n).length = lv.getD n 0 := by
  intro n
  induction n using Nat.strongRecOn with
  | ind n ih =>
    intro hn
    have hl : lv[n]? = some (lv.getD n 0) := by
      rw [List.getD_eq_getElem?_getD, List.getElem?_eq_getElem (by rw [hv.1]; exact hn)]; rfl
    rcases opt_cases hn with h | ⟨p, h⟩
    · have := hv.2 n _ _ hl h
      rw [stk_none h, List.length_singleton]
      have e : mostLv lv none = 1 := rfl
      omega
    · have hpn := hp n p h
      have := hv.2 n _ _ hl h
      have e := ih p hpn (Nat.lt_trans hpn hn)
      have e2 : mostLv lv (some p) = lv.getD p 0 + 1 := rfl
      rw [stk_some hp h, List.length_append, List.length_singleton, List.length_take, e]
      omega
theorem stk_sub (hp : Ps ps) : ∀ n, n < ps.length → ∀ x ∈ stk ps lv n, x ∈ road ps n := by
  intro n
  induction n using Nat.strongRecOn with
  | ind n ih =>
    intro hn x hx
    rcases opt_cases hn with h | ⟨p, h⟩
    · rw [stk_none h] at hx
      rw [road_none h]; exact hx
    · have hl := hp n p h
      rw [stk_some hp h] at hx
      rw [road_some hp h]
      rcases List.mem_append.mp hx with hx | hx
      · exact List.mem_append.mpr (.inl (ih p hl (Nat.lt_trans hl hn) x (List.mem_of_mem_take hx)))
      · exact List.mem_append.mpr (.inr hx)
end
/-! those of a list that rank below all behind them -/
def rlm (rk : Nat → Nat) : List Nat → List Nat
  | [] => []
  | x :: xs => if ∀ y ∈ xs, rk x < rk y then x :: rlm rk xs else rlm rk xs
section
variable {rk rk' : Nat → Nat}
theorem rlm_mem : ∀ {xs : List Nat} {x : Nat}, x ∈ rlm rk xs → x ∈ xs
  | [], _, h => by cases h
  | y :: ys, x, h => by
    unfold rlm at h
    split at h
    · rcases List.mem_cons.mp h with e | h
      · rw [e]; exact List.mem_cons_self
      · exact List.mem_cons_of_mem _ (rlm_mem h)
    · exact List.mem_cons_of_mem _ (rlm_mem h)
theorem rlm_sorted : ∀ xs : List Nat, (rlm rk xs).Pairwise (fun a b => rk a < rk b)
  | [] => .nil
  | y :: ys => by
    unfold rlm
    split
    · rename_i h
      exact .cons (fun z hz => h z (rlm_mem hz)) (rlm_sorted ys)
    · exact rlm_sorted ys
theorem rlm_congr : ∀ {xs : List Nat}, (∀ x ∈ xs, ∀ y ∈ xs, (rk x < rk y ↔ rk' x < rk' y)) → rlm rk xs = rlm rk' xs
  | [], _ => rfl
  | y :: ys, h => by
    have ih := rlm_congr (xs := ys) fun x hx z hz => h x (List.mem_cons_of_mem _ hx) z (List.mem_cons_of_mem _ hz)
    have e : (∀ z ∈ ys, rk y < rk z) ↔ (∀ z ∈ ys, rk' y < rk' z) := ⟨fun q z hz => (h y List.mem_cons_self z (List.mem_cons_of_mem _ hz)).mp (q z hz), fun q z hz => (h y List.mem_cons_self z (List.mem_cons_of_mem _ hz)).mpr (q z hz)⟩
    unfold rlm
    rw [ih]
    by_cases c : ∀ z ∈ ys, rk y < rk z
    · rw [if_pos c, if_pos (e.mp c)]
    · rw [if_neg c, if_neg (fun z => c (e.mpr z))]
theorem rlm_snoc (k : Nat) : ∀ xs : List Nat, rlm rk (xs ++ [k]) = (rlm rk xs).filter (fun x => decide (rk x < rk k)) ++ [k]
  | [] => by
    show (if ∀ y ∈ ([] : List Nat), rk k < rk y then k :: rlm rk [] else rlm rk []) = _
    rw [if_pos (fun y hy => by cases hy)]; rfl
  | y :: ys => by
    have ih := rlm_snoc k ys
    show (if ∀ z ∈ ys ++ [k], rk y < rk z then y :: rlm rk (ys ++ [k]) else rlm rk (ys ++ [k])) = (if ∀ z ∈ ys, rk y < rk z then y :: rlm rk ys else rlm rk ys).filter _ ++ [k]
    rw [ih]
    by_cases c : ∀ z ∈ ys, rk y < rk z
    · rw [if_pos c]
      by_cases d : rk y < rk k
      · rw [if_pos (fun z hz => by
          rcases List.mem_append.mp hz with hz | hz
          · exact c z hz
          · rw [List.mem_singleton.mp hz]; exact d), List.filter_cons_of_pos (by simpa using d)]
        rfl
      · rw [if_neg (fun q => d (q k (List.mem_append.mpr (.inr (List.mem_singleton.mpr rfl))))), List.filter_cons_of_neg (by simpa using d)]
    · rw [if_neg c, if_neg (fun q => c fun z hz => q z (List.mem_append.mpr (.inl hz)))]
end
theorem filter_take {f : Nat → Nat} : ∀ {L : List Nat} {m x : Nat}, L.Pairwise (fun a b => f a < f b) → L[m]? = some x → L.filter (fun y => decide (f y < f x)) = L.take m
  | [], m, x, _, h => by rw [List.getElem?_nil] at h; cases h
  | a :: L, 0, x, p, h => by
    cases h
    rw [List.take_zero, List.filter_eq_nil_iff]
    intro b hb
    rcases List.mem_cons.mp hb with e | hb
    · rw [e]; simp
    · have := (List.pairwise_cons.mp p).1 b hb
      simp; omega
  | a :: L, m + 1, x, p, h => by
    rw [List.getElem?_cons_succ] at h
    have hx : x ∈ L := List.mem_of_getElem? h
    have := (List.pairwise_cons.mp p).1 x hx
    rw [List.filter_cons_of_pos (by simpa using this), List.take_succ_cons, filter_take (List.pairwise_cons.mp p).2 h]
/-! one thing put into an order -/
theorem idx_ne {a x : Nat} {l : List Nat} (h : ¬ a = x) : (a :: l).idxOf x = l.idxOf x + 1 := by
  rw [List.idxOf_cons]
  have e : (a == x) = false := by simpa using h
  rw [e]; rfl
theorem getD_at {L : List Nat} {m : Nat} (h : m < L.length) : L[m]? = some (L.getD m 0) := by
  rw [List.getD_eq_getElem?_getD, List.getElem?_eq_getElem h]; rfl
def putAt (ord : List Nat) (j k : Nat) : List Nat := ord.take j ++ k :: ord.drop j
theorem putAt_new : ∀ {ord : List Nat} {j k : Nat}, k ∉ ord → j ≤ ord.length → (putAt ord j k).idxOf k = j
  | ord, 0, k, _, _ => by
    show (k :: ord.drop 0).idxOf k = 0
    rw [List.idxOf_cons_self]
  | [], j + 1, k, _, h => by cases h
  | a :: ord, j + 1, k, hk, hj => by
    have ne : ¬ a = k := fun e => hk (by rw [e]; exact List.mem_cons_self)
    show (a :: putAt ord j k).idxOf k = j + 1
    rw [idx_ne ne, putAt_new (fun h => hk (List.mem_cons_of_mem _ h)) (Nat.le_of_succ_le_succ hj)]
theorem putAt_old : ∀ {ord : List Nat} {j k x : Nat}, k ∉ ord → j ≤ ord.length → x ∈ ord → (putAt ord j k).idxOf x = if ord.idxOf x < j then ord.idxOf x else ord.idxOf x + 1
  | [], j, k, x, _, _, h => by cases h
  | a :: ord, 0, k, x, hk, _, hx => by
    have ne : ¬ k = x := fun e => hk (by rw [e]; exact hx)
    show (k :: a :: ord).idxOf x = _
    rw [idx_ne ne, if_neg (Nat.not_lt_zero _)]
  | a :: ord, j + 1, k, x, hk, hj, hx => by
    show (a :: putAt ord j k).idxOf x = _
    by_cases e : a = x
    · rw [e, List.idxOf_cons_self, List.idxOf_cons_self, if_pos (Nat.succ_pos _)]
    · have hx' : x ∈ ord := (List.mem_cons.mp hx).resolve_left fun z => e z.symm
      rw [idx_ne e, idx_ne e, putAt_old (fun h => hk (List.mem_cons_of_mem _ h)) (Nat.le_of_succ_le_succ hj) hx']
      by_cases c : ord.idxOf x < j
      · rw [if_pos c, if_pos (Nat.succ_lt_succ c)]
      · rw [if_neg c, if_neg fun z => c (Nat.lt_of_succ_lt_succ z)]
theorem putAt_mem {ord : List Nat} {j k x : Nat} : x ∈ putAt ord j k ↔ x = k ∨ x ∈ ord := by
  unfold putAt
  rw [List.mem_append, List.mem_cons]
  have h : x ∈ ord ↔ x ∈ ord.take j ∨ x ∈ ord.drop j := by
    rw [← List.mem_append, List.take_append_drop]
  rw [h]
  constructor
  · rintro (a | a | a)
    · exact .inr (.inl a)
    · exact .inl a
    · exact .inr (.inr a)
  · rintro (a | a | a)
    · exact .inr (.inl a)
    · exact .inl a
    · exact .inr (.inr a)
theorem putAt_nd {ord : List Nat} {j k : Nat} (h : ord.Nodup) (hk : k ∉ ord) : (putAt ord j k).Nodup := by
  unfold putAt
  have e : (ord.take j ++ ord.drop j).Nodup := by rw [List.take_append_drop]; exact h
  rw [List.nodup_append] at e ⊢
  refine ⟨e.1, List.nodup_cons.mpr ⟨fun z => hk (List.mem_of_mem_drop z), e.2.1⟩, fun a ha b hb => ?_⟩
  rcases List.mem_cons.mp hb with z | hb
  · intro q
    rw [q, z] at ha
    exact hk (List.mem_of_mem_take ha)
  · exact e.2.2 a ha b hb
theorem putAt_len {ord : List Nat} {j k : Nat} : (putAt ord j k).length = ord.length + 1 := by
  unfold putAt
  rw [List.length_append, List.length_cons, List.length_take, List.length_drop]
  omega
/-! the order that the levels tell -/
def above (ps : List (Option Nat)) (lv : List Nat) (i : Nat) : List Nat :=
  match ps[i]? with
  | some (some p) => stk ps lv p
  | _ => []
theorem above_none {ps : List (Option Nat)} {lv : List Nat} {i : Nat} (h : ps[i]? = some none) : above ps lv i = [] := by unfold above; rw [h]
theorem above_some {ps : List (Option Nat)} {lv : List Nat} {i p : Nat} (h : ps[i]? = some (some p)) : above ps lv i = stk ps lv p := by unfold above; rw [h]
def ordAt (ps : List (Option Nat)) (lv : List Nat) (ord : List Nat) (i : Nat) : Nat :=
  if lv.getD i 0 ≤ (above ps lv i).length then ord.idxOf ((above ps lv i).getD (lv.getD i 0 - 1) 0) else ord.length
def ordOf (ps : List (Option Nat)) (lv : List Nat) : Nat → List Nat
  | 0 => []
  | k + 1 => putAt (ordOf ps lv k) (ordAt ps lv (ordOf ps lv k) k) k
theorem ordAt_le {ps : List (Option Nat)} {lv ord : List Nat} {i : Nat} : ordAt ps lv ord i ≤ ord.length := by
  unfold ordAt
  split
  · exact List.idxOf_le_length
  · exact Nat.le_refl _
theorem ord_inv {ps : List (Option Nat)} {lv : List Nat} (hp : Ps ps) (hv : Lv ps lv) : ∀ k, k ≤ ps.length → (ordOf ps lv k).Nodup ∧ (∀ x, x ∈ ordOf ps lv k ↔ x < k) ∧ ∀ i, i < k → stk ps lv i = rlm (fun x => (ordOf ps lv k).idxOf x) (road ps i) := by
  intro k
  induction k with
  | zero => exact fun _ => ⟨List.nodup_nil, fun x => ⟨fun z => (by cases z), fun z => absurd z (Nat.not_lt_zero _)⟩, fun i z => absurd z (Nat.not_lt_zero _)⟩
  | succ k ih =>
    intro hk
    obtain ⟨nd, hm, hs⟩ := ih (Nat.le_of_succ_le hk)
    have kn : k ∉ ordOf ps lv k := fun z => Nat.lt_irrefl _ ((hm k).mp z)
    have jl := ordAt_le (ps := ps) (lv := lv) (ord := ordOf ps lv k) (i := k)
    show (putAt _ _ k).Nodup ∧ (∀ x, x ∈ putAt _ _ k ↔ x < k + 1) ∧ ∀ i, i < k + 1 → stk ps lv i = rlm (fun x => (putAt (ordOf ps lv k) (ordAt ps lv (ordOf ps lv k) k) k).idxOf x) (road ps i)
    have hj : ordAt ps lv (ordOf ps lv k) k = if lv.getD k 0 ≤ (above ps lv k).length then (ordOf ps lv k).idxOf ((above ps lv k).getD (lv.getD k 0 - 1) 0) else (ordOf ps lv k).length := rfl
    generalize ordOf ps lv k = ord at nd hm hs kn jl hj ⊢
    generalize ordAt ps lv ord k = j at jl hj ⊢
    have old : ∀ x, x < k → (putAt ord j k).idxOf x = if ord.idxOf x < j then ord.idxOf x else ord.idxOf x + 1 := fun x hx => putAt_old kn jl ((hm x).mpr hx)
    have cg : ∀ n, n < k → rlm (fun x => (putAt ord j k).idxOf x) (road ps n) = stk ps lv n := fun n hn => by
      rw [hs n hn]
      refine rlm_congr fun x hx y hy => ?_
      have h1 := Nat.lt_of_le_of_lt (road_le hp n (by omega) x hx) hn
      have h2 := Nat.lt_of_le_of_lt (road_le hp n (by omega) y hy) hn
      show (putAt ord j k).idxOf x < (putAt ord j k).idxOf y ↔ _
      rw [old x h1, old y h2]
      split <;> split <;> omega
    refine ⟨putAt_nd nd kn, fun x => ?_, fun i hi => ?_⟩
    · rw [putAt_mem, hm]
      omega
    · by_cases hik : i < k
      · exact (cg i hik).symm
      · have e : i = k := by omega
        subst e
        have hl : lv[i]? = some (lv.getD i 0) := by
          rw [List.getD_eq_getElem?_getD, List.getElem?_eq_getElem (by rw [hv.1]; omega)]; rfl
        rcases opt_cases (ps := ps) (i := i) (by omega) with h | ⟨p, h⟩
        · rw [stk_none h, road_none h]
          show _ = rlm _ ([] ++ [i])
          rw [rlm_snoc]; rfl
        · have hpi := hp i p h
          have hlv := hv.2 i _ _ hl h
          have hml : mostLv lv (some p) = lv.getD p 0 + 1 := rfl
          have ea : above ps lv i = stk ps lv p := by unfold above; rw [h]
          have hlen := stk_len hp hv p (by omega)
          rw [stk_some hp h, road_some hp h, rlm_snoc, cg p hpi, putAt_new kn jl]
          congr 1
          rw [ea] at hj
          have flt : ∀ x ∈ stk ps lv p, decide ((putAt ord j i).idxOf x < j) = decide (ord.idxOf x < j) := fun x hx => by
            have hx2 := Nat.lt_of_le_of_lt (road_le hp p (by omega) x (stk_sub hp p (by omega) x hx)) hpi
            rw [old x hx2]
            congr 1
            refine propext ⟨fun z => ?_, fun z => ?_⟩
            · split at z <;> omega
            · rw [if_pos z]; exact z
          rw [List.filter_congr flt]
          by_cases c : lv.getD i 0 ≤ (stk ps lv p).length
          · rw [if_pos c] at hj
            have hm2 : lv.getD i 0 - 1 < (stk ps lv p).length := by omega
            have hg := getD_at hm2
            rw [hj]
            refine (filter_take ?_ hg).symm
            rw [hs p hpi]
            exact rlm_sorted _
          · rw [if_neg c] at hj
            rw [List.take_of_length_le (by omega), List.filter_eq_self.mpr]
            intro x hx
            have hx2 := Nat.lt_of_le_of_lt (road_le hp p (by omega) x (stk_sub hp p (by omega) x hx)) hpi
            have := List.idxOf_lt_length_of_mem ((hm x).mpr hx2)
            rw [hj]
            exact decide_eq_true this
/-- what the order tells of each place: its level -/
theorem ord_lv {ps : List (Option Nat)} {lv : List Nat} (hp : Ps ps) (hv : Lv ps lv) {i : Nat} (hi : i < ps.length) : (rlm (fun x => (ordOf ps lv ps.length).idxOf x) (road ps i)).length = lv.getD i 0 := by
  rw [← (ord_inv hp hv ps.length (Nat.le_refl _)).2.2 i hi]
  exact stk_len hp hv i hi
theorem ord_len {ps : List (Option Nat)} {lv : List Nat} : ∀ k, (ordOf ps lv k).length = k
  | 0 => rfl
  | k + 1 => by
    show (putAt _ _ k).length = k + 1
    rw [putAt_len, ord_len k]
theorem above_sub {ps : List (Option Nat)} {lv : List Nat} {i x : Nat} (hp : Ps ps) (hi : i < ps.length) (hx : x ∈ above ps lv i) : x < i := by
  rcases opt_cases hi with h | ⟨p, h⟩
  · rw [above_none h] at hx; cases hx
  · rw [above_some h] at hx
    have hl := hp i p h
    exact Nat.lt_of_le_of_lt (road_le hp p (Nat.lt_trans hl hi) x (stk_sub hp p (Nat.lt_trans hl hi) x hx)) hl
theorem putAt_end {ord : List Nat} {k : Nat} : putAt ord ord.length k = ord ++ [k] := by
  unfold putAt
  rw [List.take_length, List.drop_length]
/-- how many are not above any behind them -/
def cntMin : List Nat → Nat
  | [] => 0
  | x :: xs => (if ∀ y ∈ xs, x ≤ y then 1 else 0) + cntMin xs
theorem cnt_rlm {rk : Nat → Nat} : ∀ {xs : List Nat}, xs.Nodup → (∀ x ∈ xs, ∀ y ∈ xs, x ≠ y → rk x ≠ rk y) → cntMin (xs.map rk) = (rlm rk xs).length
  | [], _, _ => rfl
  | x :: xs, nd, inj => by
    have ih := cnt_rlm (xs := xs) (List.nodup_cons.mp nd).2 fun a ha b hb => inj a (List.mem_cons_of_mem _ ha) b (List.mem_cons_of_mem _ hb)
    show (if ∀ y ∈ xs.map rk, rk x ≤ y then 1 else 0) + cntMin (xs.map rk) = (if ∀ y ∈ xs, rk x < rk y then x :: rlm rk xs else rlm rk xs).length
    have e : (∀ y ∈ xs.map rk, rk x ≤ y) ↔ ∀ y ∈ xs, rk x < rk y := by
      constructor
      · intro h y hy
        have h1 := h (rk y) (List.mem_map.mpr ⟨y, hy, rfl⟩)
        have h2 := inj x List.mem_cons_self y (List.mem_cons_of_mem _ hy) fun z => (List.nodup_cons.mp nd).1 (z ▸ hy)
        omega
      · intro h z hz
        obtain ⟨y, hy, rfl⟩ := List.mem_map.mp hz
        exact Nat.le_of_lt (h y hy)
    rw [ih]
    by_cases c : ∀ y ∈ xs, rk x < rk y
    · rw [if_pos (e.mpr c), if_pos c, List.length_cons]; omega
    · rw [if_neg (fun z => c (e.mp z)), if_neg c]; omega
theorem road_nd {ps : List (Option Nat)} (hp : Ps ps) : ∀ n, n < ps.length → (road ps n).Nodup := by
  intro n
  induction n using Nat.strongRecOn with
  | ind n ih =>
    intro hn
    rcases opt_cases hn with h | ⟨p, h⟩
    · rw [road_none h]; exact List.nodup_cons.mpr ⟨fun z => (by cases z), List.nodup_nil⟩
    · have hl := hp n p h
      rw [road_some hp h, List.nodup_append]
      refine ⟨ih p hl (Nat.lt_trans hl hn), List.nodup_cons.mpr ⟨fun z => (by cases z), List.nodup_nil⟩, fun a ha b hb => ?_⟩
      rw [List.mem_singleton.mp hb]
      have := road_le hp p (Nat.lt_trans hl hn) a ha
      omega
/-- one plan's levels under a place put for another's -/
def mixLv (ps : List (Option Nat)) (l1 l2 : List Nat) (i : Nat) (at_ : Nat) : Nat := if i ∈ road ps at_ then l2.getD at_ 0 else l1.getD at_ 0
theorem mix_ok {ps : List (Option Nat)} {l1 l2 : List Nat} {i : Nat} (hp : Ps ps) (h1 : Lv ps l1) (h2 : Lv ps l2) (hi : i < ps.length)
    (hc : ∀ p, ps[i]? = some (some p) → mixLv ps l1 l2 i i ≤ mixLv ps l1 l2 i p + 1) : Lv ps ((List.range ps.length).map (mixLv ps l1 l2 i)) := by
  refine ⟨by rw [List.length_map, List.length_range], fun j l q hl hq => ?_⟩
  have hj : j < ps.length := (List.getElem?_eq_some_iff.mp hq).1
  have hg : ∀ k, k < ps.length → ((List.range ps.length).map (mixLv ps l1 l2 i)).getD k 0 = mixLv ps l1 l2 i k := fun k hk => by
    rw [List.getD_eq_getElem?_getD, List.getElem?_map, List.getElem?_range hk]; rfl
  have el : l = mixLv ps l1 l2 i j := by rw [← hg j hj, getD_of hl]
  have a1 := h1.2 j _ q (getD_at (by rw [h1.1]; exact hj)) hq
  have a2 := h2.2 j _ q (getD_at (by rw [h2.1]; exact hj)) hq
  cases q with
  | none =>
    have e : ∀ lv, mostLv lv none = 1 := fun _ => rfl
    rw [e] at a1 a2 ⊢
    rw [el]
    unfold mixLv
    split <;> omega
  | some p =>
    have hpj := hp j p hq
    have e : ∀ lv, mostLv lv (some p) = lv.getD p 0 + 1 := fun _ => rfl
    rw [e] at a1 a2 ⊢
    rw [hg p (Nat.lt_trans hpj hj), el]
    by_cases ej : j = i
    · subst ej
      refine ⟨?_, hc p hq⟩
      unfold mixLv
      split <;> omega
    · have em : i ∈ road ps j ↔ i ∈ road ps p := by
        rw [road_some hp hq, List.mem_append]
        constructor
        · rintro (h | h)
          · exact h
          · exact absurd (List.mem_singleton.mp h).symm ej
        · exact fun h => .inl h
      unfold mixLv
      by_cases c : i ∈ road ps p
      · rw [if_pos (em.mpr c), if_pos c]; exact a2
      · rw [if_neg (fun z => c (em.mp z)), if_neg c]; exact a1
theorem cnt_cons_yes {x : Nat} {t : List Nat} (c : ∀ y ∈ t, x ≤ y) : cntMin (x :: t) = 1 + cntMin t := by
  show (if ∀ y ∈ t, x ≤ y then 1 else 0) + cntMin t = _
  rw [if_pos c]
theorem cnt_cons_no {x : Nat} {t : List Nat} (c : ¬ ∀ y ∈ t, x ≤ y) : cntMin (x :: t) = cntMin t := by
  show (if ∀ y ∈ t, x ≤ y then 1 else 0) + cntMin t = _
  rw [if_neg c, Nat.zero_add]
theorem cnt_yes {l : List Nat} {i x : Nat} (h : l[i]? = some x) (c : ∀ y ∈ l.drop (i + 1), x ≤ y) : cntMin (l.drop i) = 1 + cntMin (l.drop (i + 1)) := by
  obtain ⟨hi, e⟩ := List.getElem?_eq_some_iff.mp h
  rw [List.drop_eq_getElem_cons hi, e]
  exact cnt_cons_yes c
theorem cnt_no {l : List Nat} {i x : Nat} (h : l[i]? = some x) (c : ¬ ∀ y ∈ l.drop (i + 1), x ≤ y) : cntMin (l.drop i) = cntMin (l.drop (i + 1)) := by
  obtain ⟨hi, e⟩ := List.getElem?_eq_some_iff.mp h
  rw [List.drop_eq_getElem_cons hi, e]
  exact cnt_cons_no c
end Ck
namespace Cn
open PySem PySem.Spec PyProof.Rows L2
def topS (i : Nat) : Stmt := PySem.Challenge.pw_cutnotes_k04_whole_plans_by_cutting_piec.main.body.getD i (.Pass ⟨0, 0, 0, 0⟩)
abbrev sIsInt : Stmt := topS 7
abbrev sIsBtw : Stmt := topS 8
abbrev sIsLot : Stmt := topS 9
abbrev sLotOf : Stmt := topS 13
abbrev sIsPlace : Stmt := topS 14
abbrev sWay : Stmt := topS 15
abbrev sIsPlan : Stmt := topS 19
abbrev sIsCuts : Stmt := topS 20
abbrev sLevel : Stmt := topS 22
abbrev sPlanOf : Stmt := topS 21
abbrev sStacks : Stmt := topS 23
abbrev sStack : Stmt := topS 24
abbrev sNoteAt : Stmt := topS 27
abbrev sByPlace : Stmt := topS 26
abbrev sNotesOf : Stmt := topS 25
abbrev sHand : Stmt := topS 38
abbrev sDraw : Stmt := topS 39
abbrev sIs : Stmt := topS 40
abbrev sParents : Stmt := topS 41
abbrev sLawLot : Stmt := topS 42
abbrev sTold : Stmt := topS 44
abbrev sMade : Stmt := topS 45
abbrev sRoad : Stmt := topS 43
abbrev sUnder : Stmt := topS 16
abbrev sPairs : Stmt := topS 17
abbrev sIsNotes : Stmt := topS 30
abbrev sIsNote : Stmt := topS 31
abbrev sCounted : Stmt := topS 32
abbrev sLacking0 : Stmt := topS 33
abbrev sTwice0 : Stmt := topS 34
abbrev sIsKeeper : Stmt := topS 35
abbrev sIsSingle : Stmt := topS 36
abbrev sMixed : Stmt := topS 47
abbrev sIsOver : Stmt := topS 48
abbrev sCut : Stmt := topS 49
abbrev sCutting : Stmt := topS 50
abbrev sFirsts : Stmt := topS 51
abbrev sAlike : Stmt := topS 52
abbrev sOrder : Stmt := topS 53
abbrev sInit : Stmt := inClass (topS 12) 0
abbrev sEqM : Stmt := inClass (topS 12) 1
abbrev sLaw : Stmt := topS 54
/-! heaps -/
theorem smUpd {H : Hp} {p : Addr} {o : HO} (h : H p = none) : Same H (upd H p o) := fun b x e => by
  rw [upd_ne (ne_of_none e h)]
  exact e
theorem cutTake (xs : List V) (n : Nat) : cutV xs none (some (n : Int)) = xs.take n := by
  unfold cutV
  rw [HT.sIx_none, HT.sIx_nat]
  show (xs.drop 0).take (min n xs.length - 0) = xs.take n
  rw [List.drop_zero, Nat.sub_zero]
  by_cases h : n ≤ xs.length
  · rw [Nat.min_eq_left h]
  · rw [Nat.min_eq_right (by omega), List.take_length, List.take_of_length_le (by omega)]
theorem getMap {xs : List Int} {i : Nat} {v : V} (h : (xs.map V.int)[i]? = some v) : ∃ z, xs[i]? = some z ∧ v = .int z := by
  rw [List.getElem?_map] at h
  cases e : xs[i]? with
  | none => rw [e] at h; cases h
  | some z => rw [e] at h; exact ⟨z, rfl, (Option.some.inj h).symm⟩
/-! the hand that deals -/
abbrev handL (c : Addr) (i g m t : Int) : HO := .lst [.ref c, .int i, .int g, .int m, .int t]
structure HandIn (H : Hp) (p c : Addr) (cells : List Int) : Prop where
  ob : ∃ i g m t : Int, H p = some (handL c i g m t) ∧ 0 ≤ i
  ce : H c = some (.lst (cells.map V.int))
  ne : p ≠ c
def spHand (K : PySem.W.Frag) : Sp := fun vs H Q _ => ∃ (a : Addr) (ns : List Int), vs = [.ref a] ∧ SqL K H a (ns.map V.int) ∧ ns.length ≤ 63 ∧
  ∀ (H' : Hp) (p c : Addr) (cells : List Int), Same H H' → H p = none → H c = none → HandIn H' p c cells → Q (.ref p) H'
def nHand : List Str := ["_law_script", "_law_cells", "_law_cell"]
theorem scHand : FnScope nHand ["_law_script"] (defScope sHand) := ⟨rfl, rfl, rfl, by decide +kernel, rfl, by decide +kernel, by decide +kernel⟩
section
variable {P : Program} {w : World} {K : PySem.W.Frag} {mg : Str → Option Value} {base : Heap}
theorem ok_hand {f : Addr} {fd : FuncData} (F : Fun K "_law_hand" "_law_hand" sHand f fd) (mAbs : mg "abs" = none) (mInt : mg "int" = none) (mLen : mg "len" = none) : FnOk P w K mg base CX0 1 f fd ["_law_script"] (spHand K) := by
  refine F.ok scHand (fun vs H Q E h => ?_) (fun cdv A outer s H vs Q E hr h => ?_)
  · obtain ⟨a, ns, rfl, _⟩ := h
    rfl
  · obtain ⟨a, ns, rfl, hS, hlen, k⟩ := h
    refine ⟨_, pss_cons (ps_setLc (i := 1) (own := [("_law_cell", 2)]) (g := gName 2) (tt := tYes) rfl scHand.nd rfl rfl (sw_true rfl rfl rfl (by decide +kernel))
        (pi_list (pe_slice sl_list (pv 0) po_none (po_some pe_int))) (blkOk_by (N := nHand) (sc := defScope sHand) (by decide +kernel))
        (fun _ _ _ _ _ => pg_name (i := 2) scHand.nd rfl (Or.inl rfl)) (fun _ _ _ _ _ => pts_nil)
        (fun _ _ _ _ _ => pe_callB call_abs (by rfl) mAbs (by decide +kernel) (pa_cons (pe_callTy call_int1 (by rfl) mInt (by decide +kernel) (pa_cons (pv 2) pa_nil)) pa_nil)))
      (pss_one (ps_ret (pe_lst (pa_cons (pv 1) (pa_cons pe_int (pa_cons pe_int (pa_cons (pe_op op_add pe_int (pe_callB call_len_seq (by rfl) mLen PySem.boot_len (pa_cons (pv 1) pa_nil))) (pa_cons pe_int pa_nil)))))))), ?_⟩
    refine ⟨.ref a, rfl, 63, rfl, a, ns.map V.int, rfl, hS, fun q nq => ?_⟩
    have ex : cutV (ns.map V.int) none (some 63) = (ns.take 63).map V.int := by
      rw [show (some (63 : Int)) = some ((63 : Nat) : Int) from rfl, cutTake, List.map_take]
    rw [ex]
    have s1 : Same H (upd H q (.lst ((ns.take 63).map V.int))) := smUpd nq
    refine ⟨_, rfl, ⟨_, .inl (.inl upd_same)⟩, fun D nD => ?_⟩
    have nDq : D ≠ q := fun e => by rw [e, upd_same] at nD; cases nD
    refine lc_list (K := K) (a := q) (xs := (ns.take 63).map V.int) (fun i H' => Same (upd H q (.lst ((ns.take 63).map V.int))) H' ∧ ∃ cs : List Int, H' D = some (.lst (cs.map V.int)) ∧ cs.length = i) ?_ ?_ ?_ ?_
    · exact ⟨smUpd nD, [], upd_same, rfl⟩
    · rintro i H' _ ⟨sm, _⟩
      exact .inl (.inl (sm _ _ upd_same))
    · rintro i x H' hx ⟨sm, cs, hD, hl⟩
      obtain ⟨z, hz, rfl⟩ := getMap hx
      have hi : i < 63 := by
        have e := (List.getElem?_eq_some_iff.mp hz).1
        rw [List.length_take] at e
        omega
      refine ⟨rfl, ⟨_, rfl, .inl ⟨z, rfl, z, rfl, cs.map V.int, hD, ?_, fun b o e => ?_, cs ++ [if z < 0 then -z else z], ?_, ?_⟩⟩⟩
      · rw [List.length_map]; exact small1000 (by omega)
      · have nb : b ≠ D := fun e' => by rw [e', nD] at e; cases e
        rw [upd_ne nb]
        exact sm b o e
      · rw [upd_same, List.map_append]; rfl
      · rw [List.length_append, hl]; rfl
    · rintro H' ⟨sm, cs, hD, hl⟩
      refine ⟨_, rfl, .ref D, rfl, D, cs.map V.int, rfl, .inl (.inl (.inl hD)), 1, _, rfl, rfl, by show 5 ≤ sizeLine; decide, fun p np => ?_⟩
      have npD : p ≠ D := fun e => by rw [e, hD] at np; cases np
      refine k _ p D cs (fun b o e => ?_) ?_ ?_ ⟨⟨0, 0, _, 0, upd_same, by decide⟩, by rw [upd_ne npD.symm]; exact hD, npD⟩
      · have e1 := sm b o (s1 b o e)
        rw [upd_ne (ne_of_none e1 np)]
        exact e1
      · cases e : H p with
        | none => rfl
        | some o => rw [sm p o (s1 p o e)] at np; cases np
      · cases e : H D with
        | none => rfl
        | some o => rw [s1 D o e] at nD; cases nD
end
end Cn
namespace Cn
open PySem PySem.Spec PyProof.Rows L2
/-! a statement, then the rest, by a word of what stands between -/
def tMid (t u : TS) : TS := fun D σ H => ∃ R : L2.St → Hp → Prop, t { nx := R, rt := D.rt, bk := D.bk, ct := D.ct } σ H ∧ ∀ σ2 H2, R σ2 H2 → u D σ2 H2
theorem psMid {X : Cx} {st : Stmt} {rest : List Stmt} {t u : TS} (a : PS X st t) (b : PSs X rest u) : PSs X (st :: rest) (tMid t u) := by
  constructor
  intro pins s σ H D I h
  obtain ⟨R, h1, h2⟩ := h
  refine wpAny_execs_cons (thn (a.run pins s σ H _ I h1) fun fl s1 q => ?_)
  cases fl with
  | next =>
    obtain ⟨σ2, H2, I2, q2⟩ := q
    exact b.run pins s1 σ2 H2 D I2 (h2 σ2 H2 q2)
  | brk => exact q
  | cont => exact q
  | ret u => exact q
def spDraw : Sp := fun vs H Q _ => ∃ (p c : Addr) (cells : List Int) (k : Int), vs = [.ref p, .int k] ∧ HandIn H p c cells ∧ 0 < k ∧ k < 1073741824 ∧
  ∀ (d i g m t : Int), 0 ≤ d → d < k → 0 ≤ i → Q (.int d) (upd H p (handL c i g m t))
def nDraw : List Str := ["_law_hand_here", "_law_many", "_law_cell", "_law_digit", "_law_number"]
theorem scDraw : FnScope nDraw ["_law_hand_here", "_law_many"] (defScope sDraw) := ⟨rfl, rfl, rfl, by decide +kernel, rfl, by decide +kernel, by decide +kernel⟩
theorem fmB {a k : Int} (h : 0 < k) : 0 ≤ a.fmod k ∧ a.fmod k < k := ⟨Int.fmod_nonneg_of_pos a h, Int.fmod_lt_of_pos a h⟩
theorem atNat {cs : List Int} {i : Int} (h0 : 0 ≤ i) (h1 : i < ((cs.map V.int).length : Int)) : ∃ z, atI (cs.map V.int) i = some (.int z) := by
  obtain ⟨n, rfl⟩ := Int.eq_ofNat_of_zero_le h0
  rw [List.length_map] at h1
  have hn : n < cs.length := by omega
  refine ⟨cs[n], ?_⟩
  unfold atI ixN
  rw [if_pos (by omega), List.length_map, if_pos (by omega)]
  show (cs.map V.int)[((n : Nat) : Int).toNat]? = _
  rw [Int.toNat_natCast, List.getElem?_map, List.getElem?_eq_getElem hn]
  rfl
section
variable {P : Program} {w : World} {K : PySem.W.Frag} {mg : Str → Option Value} {base : Heap}
theorem ok_draw {f : Addr} {fd : FuncData} (F : Fun K "_law_draw" "_law_draw" sDraw f fd) (mInt : mg "int" = none) (mLen : mg "len" = none) : FnOk P w K mg base CX0 1 f fd ["_law_hand_here", "_law_many"] spDraw := by
  refine F.ok scDraw (fun vs H Q E h => ?_) (fun cdv A outer s H vs Q E hr h => ?_)
  · obtain ⟨p, c, cells, k, rfl, _⟩ := h
    rfl
  · obtain ⟨p, c, cells, k, rfl, hI, k0, k1, q⟩ := h
    refine ⟨_, psMid (ps_if (PW.pt (pw_and (pt_cmpR op_eq (pe_ix ix_list (pv 0) pe_int (fun _ _ => rfl)) pe_int (nomark _))
            (pw_and1 (pt_cmpR op_lt (pe_ix ix_list (pv 0) pe_int (fun _ _ => rfl)) (pe_callB call_len_seq (by rfl) mLen PySem.boot_len (pa_cons (pe_ix ix_list (pv 0) pe_int (fun _ _ => rfl)) pa_nil)) (nomark _)))))
        (pss_cons (ps_set (i := 2) scDraw.nd rfl (Or.inl rfl) (pe_ix ix_list (pe_ix ix_list (pv 0) pe_int (fun _ _ => rfl)) (pe_ix ix_list (pv 0) pe_int (fun _ _ => rfl)) (fun _ _ => rfl)))
        (pss_cons (ps_asg (pe_op op_add (pe_ix ix_list (pv 0) pe_int (fun _ _ => rfl)) pe_int) (pg_sub (pv 0) pe_int set_list))
        (pss_cons (ps_asg (pe_op op_modN (pe_callTy call_int1 (by rfl) mInt (by decide +kernel) (pa_cons (pe_op op_add (pe_op op_add (pe_op op_mul (pe_ix ix_list (pv 0) pe_int (fun _ _ => rfl)) pe_int) (pv 2)) pe_int) pa_nil)) pe_int) (pg_sub (pv 0) pe_int set_list))
        (pss_one (ps_if (pt_cmpR op_ge (pv 2) (pe_op op_pow pe_int pe_int) (nomark _)) (pss_one (ps_asg (pv 2) (pg_sub (pv 0) pe_int set_list))) pss_nil)))))
        pss_nil)
      (pss_cons (ps_if (pt_cmpR op_gt (pe_ix ix_list (pv 0) pe_int (fun _ _ => rfl)) pe_int (nomark _))
        (pss_cons (ps_set (i := 3) scDraw.nd rfl (Or.inl rfl) (pe_op op_modN (pe_callTy call_int1 (by rfl) mInt (by decide +kernel) (pa_cons (pe_ix ix_list (pv 0) pe_int (fun _ _ => rfl)) pa_nil)) (pv 1)))
        (pss_cons (ps_asg (pe_op op_fdivN (pe_ix ix_list (pv 0) pe_int (fun _ _ => rfl)) (pv 1)) (pg_sub (pv 0) pe_int set_list))
        (pss_one (ps_ret (pv 3))))) pss_nil)
      (pss_cons (ps_asg (pe_op op_add (pe_ix ix_list (pv 0) pe_int (fun _ _ => rfl)) pe_int) (pg_sub (pv 0) pe_int set_list))
      (pss_cons (ps_set (i := 4) scDraw.nd rfl (Or.inl rfl) (pe_op op_modN (pe_callTy call_int1 (by rfl) mInt (by decide +kernel) (pa_cons (pe_op op_mul (pe_callTy call_int1 (by rfl) mInt (by decide +kernel) (pa_cons (pe_op op_add (pe_ix ix_list (pv 0) pe_int (fun _ _ => rfl)) (pe_op op_mul pe_int (pe_ix ix_list (pv 0) pe_int (fun _ _ => rfl)))) pa_nil)) pe_int) pa_nil)) pe_int))
      (pss_cons (ps_set (i := 4) scDraw.nd rfl (Or.inl rfl) (pe_op op_modN (pe_callTy call_int1 (by rfl) mInt (by decide +kernel) (pa_cons (pe_op op_mul (pv 4) (pe_op op_add (pe_op op_fdivN (pv 4) pe_int) pe_int)) pa_nil)) pe_int))
      (pss_cons (ps_set (i := 4) scDraw.nd rfl (Or.inl rfl) (pe_op op_modN (pe_callTy call_int1 (by rfl) mInt (by decide +kernel) (pa_cons (pe_op op_mul (pv 4) (pe_op op_add (pe_op op_fdivN (pv 4) pe_int) pe_int)) pa_nil)) pe_int))
      (pss_one (ps_ret (pe_op op_modN (pe_callTy call_int1 (by rfl) mInt (by decide +kernel) (pa_cons (pe_op op_fdivN (pv 4) pe_int) pa_nil)) (pv 1))))))))), ?_⟩
    obtain ⟨⟨i, g, m, t, hp, hi⟩, hc, ne⟩ := hI
    have sq : ∀ {H' : Hp} {a : Addr} {xs : List V}, H' a = some (.lst xs) → SqL K H' a xs := fun h => .inl (.inl h)
    have kn : k ≠ 0 := by omega
    have kb : k.natAbs < 1073741824 := by omega
    refine ⟨fun σ2 H2 => ∃ (cl : Option V) (i g m t : Int), 0 ≤ i ∧ σ2 = [some (.ref p), some (.int k), cl, none, none] ∧ H2 = upd H p (handL c i g m t), ?_, ?_⟩
    · have same : upd H p (handL c i g m t) = H := by
        funext b
        by_cases e : b = p
        · rw [e, upd_same, hp]
        · rw [upd_ne e]
      refine ⟨_, rfl, p, _, 2, _, rfl, rfl, sq hp, rfl, rfl, _, rfl, ?_⟩
      refine ite2 (fun _ => ?_) (fun _ => ⟨none, i, g, m, t, hi, rfl, same.symm⟩)
      refine ⟨_, rfl, p, _, 1, _, rfl, rfl, sq hp, rfl, _, rfl, p, _, 0, _, rfl, rfl, sq hp, rfl, c, _, rfl, .inl (sq hc), i, _, rfl, rfl, _, rfl, ?_⟩
      refine ite2 (fun hlt => ?_) (fun _ => ⟨none, i, g, m, t, hi, rfl, same.symm⟩)
      obtain ⟨z, hz⟩ := atNat hi (of_decide_eq_true hlt)
      refine ⟨_, rfl, p, _, 0, _, rfl, rfl, sq hp, rfl, _, rfl, p, _, 1, _, rfl, rfl, sq hp, rfl, c, _, i, _, rfl, rfl, sq hc, hz, ?_⟩
      refine ⟨_, rfl, p, _, 1, _, rfl, rfl, sq hp, rfl, _, _, rfl, rfl, _, rfl, p, _, 1, 1, rfl, rfl, hp, rfl, ?_⟩
      have st : ∀ (j : Nat) (v : V) (i g m t : Int), upd (upd H p (handL c i g m t)) p (.lst (List.set [.ref c, .int i, .int g, .int m, .int t] j v)) = upd H p (.lst (List.set [.ref c, .int i, .int g, .int m, .int t] j v)) := fun _ _ _ _ _ _ => upd_upd
      have s1 : upd H p (.lst (List.set [.ref c, .int i, .int g, .int m, .int t] 1 (.int (i + 1)))) = upd H p (handL c (i + 1) g m t) := rfl
      rw [s1]
      refine ⟨_, rfl, p, _, 3, _, rfl, rfl, sq upd_same, rfl, _, _, rfl, rfl, .inr (by decide), _, rfl, _, _, rfl, rfl, _, _, rfl, rfl, .inl ⟨_, rfl, _, _, rfl, rfl, (show (2147483629 : Int) ≠ 0 by decide), _, rfl, p, _, 3, 3, rfl, rfl, upd_same, rfl, ?_⟩⟩
      rw [st]
      refine ⟨_, rfl, _, _, rfl, rfl, ⟨by decide, by decide, by decide⟩, _, _, rfl, rfl, _, rfl, ?_⟩
      refine ite2 (fun _ => ?_) (fun _ => ⟨_, i + 1, g, _, t, by omega, rfl, rfl⟩)
      refine ⟨_, rfl, _, rfl, p, _, 2, 2, rfl, rfl, upd_same, rfl, ?_⟩
      exact ⟨_, i + 1, z, _, t, by omega, rfl, upd_upd⟩
    · rintro σ2 H2 ⟨cl, i, g, m, t, hi, rfl, rfl⟩
      have hp : upd H p (handL c i g m t) p = some (handL c i g m t) := upd_same
      refine ⟨_, rfl, p, _, 2, _, rfl, rfl, sq hp, rfl, _, _, rfl, rfl, _, rfl, ?_⟩
      refine ite2 (fun _ => ?_) (fun _ => ?_)
      · refine ⟨_, rfl, p, _, 2, _, rfl, rfl, sq hp, rfl, .inl ⟨_, rfl, _, rfl, _, _, rfl, rfl, kn, ?_⟩⟩
        refine ⟨_, rfl, p, _, 2, _, rfl, rfl, sq hp, rfl, _, rfl, _, _, rfl, rfl, ⟨kn, kb⟩, _, rfl, p, _, 2, 2, rfl, rfl, hp, rfl, _, rfl, ?_⟩
        rw [upd_upd]
        exact q _ i _ m t (fmB k0).1 (fmB k0).2 hi
      · refine ⟨_, rfl, p, _, 4, _, rfl, rfl, sq hp, rfl, _, _, rfl, rfl, _, rfl, p, _, 4, 4, rfl, rfl, hp, rfl, ?_⟩
        rw [upd_upd]
        refine ⟨_, rfl, p, _, 3, _, rfl, rfl, sq upd_same, rfl, _, rfl, p, _, 4, _, rfl, rfl, sq upd_same, rfl, _, _, rfl, rfl, .inl (by decide), _, _, rfl, rfl, .inl ⟨_, rfl, _, _, rfl, rfl, .inr (by decide), .inl ⟨_, rfl, _, _, rfl, rfl, (show (2147483647 : Int) ≠ 0 by decide), ?_⟩⟩⟩
        have b1 := fmB (a := (m + 7919 * (t + 1)) * 48271) (k := 2147483647) (by decide)
        refine ⟨_, rfl, _, rfl, _, _, rfl, rfl, ⟨by decide, by decide⟩, _, _, rfl, rfl, _, _, rfl, rfl, .inl ⟨by omega, by omega⟩, .inl ⟨_, rfl, _, _, rfl, rfl, (show (2147483647 : Int) ≠ 0 by decide), ?_⟩⟩
        have b2 := fmB (a := ((m + 7919 * (t + 1)) * 48271).fmod 2147483647 * ((((m + 7919 * (t + 1)) * 48271).fmod 2147483647).fdiv 1009 + 69621)) (k := 2147483647) (by decide)
        refine ⟨_, rfl, _, rfl, _, _, rfl, rfl, ⟨by decide, by decide⟩, _, _, rfl, rfl, _, _, rfl, rfl, .inl ⟨by omega, by omega⟩, .inl ⟨_, rfl, _, _, rfl, rfl, (show (2147483399 : Int) ≠ 0 by decide), ?_⟩⟩
        refine ⟨_, rfl, _, _, rfl, rfl, ⟨by decide, by decide⟩, .inl ⟨_, rfl, _, rfl, _, _, rfl, rfl, kn, ?_⟩⟩
        exact q _ i g m (t + 1) (fmB k0).1 (fmB k0).2 hi
end
end Cn
namespace Cn
open PySem PySem.Spec PyProof.Rows L2
theorem small4000 {n : Nat} (h : n ≤ 4000) : n < sizeLine := Nat.lt_of_le_of_lt h (by decide)
theorem OpR.orr {X : Cx} {f : Value → Value → Sem Value} {r r2 : R2} (h : OpR X f r) (k : OpR X f r2) : OpR X f (fun x y H Q => r x y H Q ∨ r2 x y H Q) := by
  intro pins s σ H x y v u Q I rx ry q
  rcases q with q | q
  · exact h pins s σ H x y v u Q I rx ry q
  · exact k pins s σ H x y v u Q I rx ry q
/-! two things that are alike, of nesting at most n: flat ones and dicts are the same -/
def DictOk (H : Hp) (x : V) : Prop := ∃ a kvs, x = .ref a ∧ H a = some (.dK kvs) ∧ (kvs = [] ∨ ∃ k u, kvs = [(k, u)] ∧ (flatV u = true ∨ ∃ b, u = .ref b))
def EqG (H : Hp) : Nat → V → V → Prop
  | 0 => fun x y => x = y ∧ (flatV x = true ∨ DictOk H x)
  | n + 1 => fun x y => EqG H n x y ∨ ∃ a b xs ys, x = .ref a ∧ y = .ref b ∧ ((H a = some (.lst xs) ∧ H b = some (.lst ys)) ∨ (H a = some (.tup xs) ∧ H b = some (.tup ys))) ∧ xs.length ≤ 4000 ∧ Paired (EqG H n) xs ys
theorem pairedSelf {F : V → V → Prop} : ∀ {xs : List V}, (∀ x ∈ xs, F x x) → Paired F xs xs
  | [], _ => .nil
  | x :: xs, h => .cons (h x List.mem_cons_self) (pairedSelf fun y hy => h y (List.mem_cons_of_mem _ hy))
theorem eqG_same {H H' : Hp} (s : Same H H') : ∀ {n : Nat} {x y : V}, EqG H n x y → EqG H' n x y
  | 0, x, y, h => by
    obtain ⟨e, h | ⟨a, kvs, e2, ha, hk⟩⟩ := h
    · exact ⟨e, .inl h⟩
    · exact ⟨e, .inr ⟨a, kvs, e2, s _ _ ha, hk⟩⟩
  | n + 1, x, y, h => by
    rcases h with h | ⟨a, b, xs, ys, e1, e2, h, hl, hp⟩
    · exact .inl (eqG_same s h)
    · exact .inr ⟨a, b, xs, ys, e1, e2, h.imp (fun z => ⟨s _ _ z.1, s _ _ z.2⟩) (fun z => ⟨s _ _ z.1, s _ _ z.2⟩), hl, Paired.mapP hp fun _ _ z => eqG_same s z⟩
/-- told and due, alike: True comes out, new things apart nothing is changed -/
def spIs (n : Nat) : Sp := fun vs H Q _ => ∃ (x y : V), vs = [x, y] ∧ EqG H n x y ∧ ∀ H', Same H H' → Q (.bl true) H'
/-- all([..]) over two lists, or two tuples, of things alike -/
def tAllIs (n : Nat) : TE := fun σ H Q => ∃ a b xs ys, σ[0]? = some (some (.ref a)) ∧ σ[1]? = some (some (.ref b)) ∧ ((H a = some (.lst xs) ∧ H b = some (.lst ys)) ∨ (H a = some (.tup xs) ∧ H b = some (.tup ys))) ∧ xs.length ≤ 4000 ∧ Paired (EqG H n) xs ys ∧ ∀ H', Same H H' → Q (.bl true) H'
/-! types -/
theorem kit2 {K : PySem.W.Frag} {T : String} {b : Bool} (h : ((kitB T "tuple").bind fun a => if a then some true else kitB T "list") = some b) : PySem.W.kitAny K (.type T) [.type "tuple", .type "list"] = some b := by
  cases e : kitB T "tuple" with
  | none => rw [e] at h; cases h
  | some a =>
    rw [e] at h
    cases a with
    | true =>
      have hb : b = true := (Option.some.inj h).symm
      subst hb
      exact kitAny_cons (kit_ty e) (fun z => nomatch z) fun _ => rfl
    | false =>
      have h : kitB T "list" = some b := h
      refine kitAny_cons (kit_ty e) (fun _ => kitAny_cons (kit_ty h) (fun z => ?_) (fun z => z)) (fun z => nomatch z)
      rw [z]; exact kitAny_nil
/-- a thing that is no list and no tuple -/
theorem leafTy {K : PySem.W.Frag} {H : Hp} {x : V} (h : flatV x = true ∨ DictOk H x) : ∃ T b, TyX K H x (.type T) ∧ PySem.W.kitAny K (.type T) [.type "tuple", .type "list"] = some false ∧ PySem.W.kitOne K (.type T) (.type "bool") = some b := by
  rcases h with h | ⟨a, kvs, rfl, ha, _⟩
  · cases x with
    | non => exact ⟨"NoneType", false, .base .non, kit2 (by decide +kernel), kit_ty (by decide +kernel)⟩
    | bl b => exact ⟨"bool", true, .base (.bl b), kit2 (by decide +kernel), kit_ty (by decide +kernel)⟩
    | int i => exact ⟨"int", false, .base (.int i), kit2 (by decide +kernel), kit_ty (by decide +kernel)⟩
    | str z => exact ⟨"str", false, .base (.str z), kit2 (by decide +kernel), kit_ty (by decide +kernel)⟩
    | _ => cases h
  · exact ⟨"dict", false, .base (.dK ha), kit2 (by decide +kernel), kit_ty (by decide +kernel)⟩
theorem seqTy {K : PySem.W.Frag} {H : Hp} {a : Addr} {xs : List V} {tu : Bool} (h : if tu = true then H a = some (.tup xs) else H a = some (.lst xs)) : ∃ T, TyX K H (.ref a) (.type T) ∧ PySem.W.kitAny K (.type T) [.type "tuple", .type "list"] = some true ∧ PySem.W.kitOne K (.type T) (.type "tuple") = some tu := by
  cases tu with
  | true => exact ⟨"tuple", .base (.tup (by simpa using h)), kit2 (by decide +kernel), kit_ty (by decide +kernel)⟩
  | false => exact ⟨"list", .base (.lst (by simpa using h)), kit2 (by decide +kernel), kit_ty (by decide +kernel)⟩
end Cn
namespace Cn
open PySem PySem.Spec PyProof.Rows L2
/-! comprehensions over zip -/
section
variable {K : PySem.W.Frag} {a b D : Addr} {xs ys : List V} {g : TG} {tt : TT} {te : TE} {vs : List Nat} {σ : L2.St} {H1 : Hp} {Qd : Hp → Prop}
def ZipTurn (Pv : Nat → Hp → Prop) (D : Addr) (g : TG) (tt : TT) (te : TE) (vs : List Nat) (σ : L2.St) (i : Nat) (x y : V) : Prop := ∀ (T : Addr) (H : Hp), Pv i H → H T = none → g (.ref T) (wipe σ vs) (upd H T (.tup [x, y])) fun σ2 H2 => wipe σ2 vs = wipe σ vs ∧ tt σ2 H2 fun k H3 =>
  if k = true then te σ2 H3 fun z H4 => ∃ acc, H4 D = some (.lst acc) ∧ acc.length < sizeLine ∧ Pv (i + 1) (upd H4 D (.lst (acc ++ [z]))) else Pv (i + 1) H3
theorem lcZipL (hl : xs.length = ys.length) (Pv : Nat → Hp → Prop) (h0 : Pv 0 (upd H1 D (.lst []))) (hq : ∀ i H, Pv i H → SqL K H a xs ∧ SqL K H b ys) (hs : ∀ i x y, xs[i]? = some x → ys[i]? = some y → ZipTurn Pv D g tt te vs σ i x y) (hd : ∀ H, Pv xs.length H → Qd H) :
    ∃ W : Nat → Nat → Hp → Prop, (∃ m, W 0 m (upd H1 D (.lst []))) ∧ ∀ i m H, W i m H → ((Itz K a b).stop i H ∧ Qd H) ∨ ((Itz K a b).go i H ∧ ∃ Nx : Hp → Prop, (∀ H', Nx H' → ∃ m', m' < m ∧ W (i + 1) m' H') ∧ ∀ x H', (Itz K a b).yld i H x H' → g x (wipe σ vs) H' fun σ2 H2 => wipe σ2 vs = wipe σ vs ∧ tt σ2 H2 fun k H3 =>
      if k = true then te σ2 H3 fun z H4 => ∃ acc, H4 D = some (.lst acc) ∧ acc.length < sizeLine ∧ Nx (upd H4 D (.lst (acc ++ [z]))) else Nx H3) := by
  refine ⟨fun i m H => m = xs.length - i ∧ i ≤ xs.length ∧ Pv i H, ⟨_, rfl, Nat.zero_le _, h0⟩, ?_⟩
  rintro i m H ⟨rfl, hi, p⟩
  obtain ⟨qa, qb⟩ := hq i H p
  rcases Nat.lt_or_ge i xs.length with lt | ge
  · have ea : xs[i]? = some xs[i] := List.getElem?_eq_getElem lt
    have lt2 : i < ys.length := by omega
    have eb : ys[i]? = some ys[i] := List.getElem?_eq_getElem lt2
    refine .inr ⟨⟨xs, ys, _, _, qa, qb, ea, eb⟩, Pv (i + 1), fun H' p' => ⟨xs.length - (i + 1), by omega, rfl, lt, p'⟩, ?_⟩
    rintro v H' ⟨T, u, z, rfl, nT, rfl, k1, k2⟩
    exact hs i u z (k1 xs qa) (k2 ys qb) T H p nT
  · have e : i = xs.length := by omega
    subst e
    exact .inl ⟨⟨xs, ys, qa, qb, .inl (Nat.le_refl _)⟩, hd H p⟩
theorem lcZipT (hl : xs.length = ys.length) (Pv : Nat → Hp → Prop) (h0 : Pv 0 (upd H1 D (.lst []))) (hq : ∀ i H, Pv i H → SqT K H a xs ∧ SqT K H b ys) (hs : ∀ i x y, xs[i]? = some x → ys[i]? = some y → ZipTurn Pv D g tt te vs σ i x y) (hd : ∀ H, Pv xs.length H → Qd H) :
    ∃ W : Nat → Nat → Hp → Prop, (∃ m, W 0 m (upd H1 D (.lst []))) ∧ ∀ i m H, W i m H → ((RZ.ItzT K a b).stop i H ∧ Qd H) ∨ ((RZ.ItzT K a b).go i H ∧ ∃ Nx : Hp → Prop, (∀ H', Nx H' → ∃ m', m' < m ∧ W (i + 1) m' H') ∧ ∀ x H', (RZ.ItzT K a b).yld i H x H' → g x (wipe σ vs) H' fun σ2 H2 => wipe σ2 vs = wipe σ vs ∧ tt σ2 H2 fun k H3 =>
      if k = true then te σ2 H3 fun z H4 => ∃ acc, H4 D = some (.lst acc) ∧ acc.length < sizeLine ∧ Nx (upd H4 D (.lst (acc ++ [z]))) else Nx H3) := by
  refine ⟨fun i m H => m = xs.length - i ∧ i ≤ xs.length ∧ Pv i H, ⟨_, rfl, Nat.zero_le _, h0⟩, ?_⟩
  rintro i m H ⟨rfl, hi, p⟩
  obtain ⟨qa, qb⟩ := hq i H p
  rcases Nat.lt_or_ge i xs.length with lt | ge
  · have ea : xs[i]? = some xs[i] := List.getElem?_eq_getElem lt
    have lt2 : i < ys.length := by omega
    have eb : ys[i]? = some ys[i] := List.getElem?_eq_getElem lt2
    refine .inr ⟨⟨xs, ys, _, _, qa, qb, ea, eb⟩, Pv (i + 1), fun H' p' => ⟨xs.length - (i + 1), by omega, rfl, lt, p'⟩, ?_⟩
    rintro v H' ⟨T, u, z, rfl, nT, rfl, k1, k2⟩
    exact hs i u z (k1 xs qa) (k2 ys qb) T H p nT
  · have e : i = xs.length := by omega
    subst e
    exact .inl ⟨⟨xs, ys, qa, qb, .inl (Nat.le_refl _)⟩, hd H p⟩
end
theorem pairedAt {F : V → V → Prop} : ∀ {xs ys : List V}, Paired F xs ys → ∀ {i : Nat} {x y : V}, xs[i]? = some x → ys[i]? = some y → F x y
  | _, _, .nil, i, x, y, h, _ => by simp at h
  | _, _, .cons h t, 0, x, y, h1, h2 => by
    cases (Option.some.inj h1)
    cases (Option.some.inj h2)
    exact h
  | _, _, .cons _ t, i + 1, x, y, h1, h2 => pairedAt t (i := i) (by simpa using h1) (by simpa using h2)
section
variable {P : Program} {w : World} {K : PySem.W.Frag} {mg : Str → Option Value} {base : Heap}
structure IsTxt (mg : Str → Option Value) : Prop where
  inst : mg "isinstance" = none
  tup : mg "tuple" = none
  lst : mg "list" = none
  bool : mg "bool" = none
  len : mg "len" = none
  all : mg "all" = none
  zip : mg "zip" = none
/-- the turn of the comprehension, by the promise of the next depth -/
theorem isTurn {n : Nat} {K' : PySem.W.Frag} {D : Addr} {xs ys : List V} {H0 : Hp} {u0 u1 z2 z3 : Option V} (hp : Paired (EqG H0 n) xs ys) (hx : xs.length ≤ 4000) (nD : H0 D = none) (i : Nat) (x y : V) (h1 : xs[i]? = some x) (h2 : ys[i]? = some y) :
    ZipTurn (fun i H' => Same H0 H' ∧ H' D = some (.lst ((List.replicate i true).map V.bl))) D (gTup K' 2 (gCons (gName 2) (gCons (gName 3) gNil))) tYes (tCall (spIs n) [] (fun _ _ _ => False) (tCons (tVar 2) (tCons (tVar 3) tNil))) [2, 3] [u0, u1, z2, z3] i x y := by
  rintro T H ⟨sm, hD⟩ nT
  have hi : i < 4000 := Nat.lt_of_lt_of_le (List.getElem?_eq_some_iff.mp h1).1 hx
  have sT : Same H (upd H T (.tup [x, y])) := smUpd nT
  refine ⟨T, [x, y], rfl, .inl (.inl upd_same), rfl, x, [y], rfl, y, [], rfl, rfl, rfl, x, rfl, y, rfl, x, y, rfl, eqG_same (sm.trans sT) (pairedAt hp h1 h2), fun H' s' => ?_⟩
  have hD' : H' D = some (.lst ((List.replicate i true).map V.bl)) := s' _ _ (sT _ _ hD)
  refine ⟨_, hD', by rw [List.length_map, List.length_replicate]; exact small4000 (by omega), fun b o e => ?_, ?_⟩
  · have nb : b ≠ D := fun z => by rw [z, nD] at e; cases e
    rw [upd_ne nb]
    exact s' _ _ (sT _ _ (sm _ _ e))
  · rw [upd_same, show List.replicate (i + 1) true = List.replicate i true ++ [true] from List.replicate_succ', List.map_append]
    rfl
theorem allRep (n : Nat) : (List.replicate n true).all id = true := by
  induction n with
  | zero => rfl
  | succ n ih => rw [List.replicate_succ, List.all_cons, ih]; rfl
theorem sameT {K : PySem.W.Frag} {H H' : Hp} {a : Addr} {xs : List V} (s : Same H H') (h : SqT K H a xs) : SqT K H' a xs := h.imp (fun r => r.imp (s _ _) (fun ⟨o, e⟩ => ⟨o, s _ _ e⟩)) (fun z => z)
theorem eqG_up {H : Hp} {n m : Nat} {x y : V} (h : EqG H n x y) (hm : n ≤ m) : EqG H m x y := by
  induction m with
  | zero =>
    have e : n = 0 := by omega
    rw [← e]; exact h
  | succ m ih =>
    by_cases e : n = m + 1
    · rw [← e]; exact h
    · exact .inl (ih (by omega))
theorem eqG_cases {H : Hp} : ∀ {n : Nat} {x y : V}, EqG H n x y → (x = y ∧ (flatV x = true ∨ DictOk H x)) ∨ ∃ m, n = m + 1 ∧ ∃ a b xs ys, x = .ref a ∧ y = .ref b ∧ ((H a = some (.lst xs) ∧ H b = some (.lst ys)) ∨ (H a = some (.tup xs) ∧ H b = some (.tup ys))) ∧ xs.length ≤ 4000 ∧ Paired (EqG H m) xs ys
  | 0, x, y, h => .inl h
  | n + 1, x, y, h => by
    rcases h with h | ⟨a, b, xs, ys, h⟩
    · rcases eqG_cases h with z | ⟨m, e, a, b, xs, ys, e1, e2, e3, e4, e5⟩
      · exact .inl z
      · exact .inr ⟨n, rfl, a, b, xs, ys, e1, e2, e3, e4, Paired.mapP e5 fun _ _ q => eqG_up q (by omega)⟩
    · exact .inr ⟨n, rfl, a, b, xs, ys, h⟩
/-- by the depth: nothing at 0 -/
def spJ : Nat → Sp
  | 0 => fun _ _ _ _ => False
  | n + 1 => spIs n
/-- the same flat thing, the same dict, compared -/
theorem leafEq {K : PySem.W.Frag} {H : Hp} {x : V} {Q : VK} (h : flatV x = true ∨ DictOk H x) (k : Q (.bl true) H) : rEq x x H Q ∨ rEqV K x x H Q := by
  rcases h with h | ⟨a, kvs, rfl, ha, hk⟩
  · left
    refine ⟨?_, ?_⟩
    · cases x <;> first | rfl | cases h
    · rw [decide_eq_true rfl]; exact k
  · right
    refine ⟨1, by decide, .inr ⟨a, a, kvs, kvs, rfl, rfl, ha, ha, rfl, fun q hq => ?_⟩, k⟩
    rcases hk with rfl | ⟨kk, u, rfl, hu⟩
    · cases hq
    · obtain rfl := List.mem_singleton.mp hq
      refine ⟨u, ?_, ?_⟩
      · show valV [(kk, u)] kk = some u
        unfold valV
        simp
      · rcases hu with hu | ⟨b, rfl⟩
        · refine .inl ⟨rfl, ?_⟩
          cases u <;> first | rfl | cases hu
        · exact .inr (.inl ⟨b, rfl, rfl⟩)
end
end Cn
namespace Cn
open PySem PySem.Spec PyProof.Rows L2
def nIs : List Str := ["_law_told_here", "_law_due", "_law_one", "_law_two"]
theorem scIs : FnScope nIs ["_law_told_here", "_law_due"] (defScope sIs) := ⟨rfl, rfl, rfl, by decide +kernel, rfl, by decide +kernel, by decide +kernel⟩
section
variable {P : Program} {w : World} {K : PySem.W.Frag} {mg : Str → Option Value} {base : Heap}
theorem ok_is {f : Addr} {fd : FuncData} (F : Fun K "_law_is" "_law_is" sIs f fd) (T : IsTxt mg) (g : mg "_law_is" = some (.ref f)) (bI : Binds K fd ["_law_told_here", "_law_due"] []) : ∀ n : Nat, FnOk P w K mg base CX0 (n + 2) f fd ["_law_told_here", "_law_due"] (spJ n) := by
  intro n
  induction n with
  | zero => exact ⟨fun _ _ _ _ z => z.elim, fun _ _ _ _ _ _ _ _ _ _ _ _ _ z => z.elim⟩
  | succ n ih =>
    refine F.ok scIs (fun vs H Q E h => ?_) (fun cdv A outer s H vs Q E hr h => ?_)
    · obtain ⟨x, y, rfl, _⟩ := h
      rfl
    · obtain ⟨x, y, rfl, hE, k⟩ := h
      refine ⟨_, pss_cons (ps_if (pt_val (pe_callB call_isiT (by rfl) T.inst (by decide +kernel) (pa_cons (pv 1) (pa_cons (pe_tup (pa_cons (pe_bltn (v := .ty "tuple") (by rfl) T.tup (by decide +kernel) rfl) (pa_cons (pe_bltn (v := .ty "list") (by rfl) T.lst (by decide +kernel) rfl) pa_nil))) pa_nil))))
          (pss_cons (ps_if (PW.pt (pw_or (pt_cmpR op_ne (pe_callB call_isi (by rfl) T.inst (by decide +kernel) (pa_cons (pv 0) (pa_cons (pe_bltn (v := .ty "tuple") (by rfl) T.tup (by decide +kernel) rfl) pa_nil))) (pe_callB call_isi (by rfl) T.inst (by decide +kernel) (pa_cons (pv 1) (pa_cons (pe_bltn (v := .ty "tuple") (by rfl) T.tup (by decide +kernel) rfl) pa_nil))) (nomark _))
              (pw_or1 (pt_not (pt_val (pe_callB call_isiT (by rfl) T.inst (by decide +kernel) (pa_cons (pv 0) (pa_cons (pe_tup (pa_cons (pe_bltn (v := .ty "tuple") (by rfl) T.tup (by decide +kernel) rfl) (pa_cons (pe_bltn (v := .ty "list") (by rfl) T.lst (by decide +kernel) rfl) pa_nil))) pa_nil))))))))
            (pss_one (ps_ret pe_bl)) pss_nil)
          (pss_one (ps_ret (pe_and (pe_cmpR op_eq (pe_callB call_len_seq (by rfl) T.len PySem.boot_len (pa_cons (pv 0) pa_nil)) (pe_callB call_len_seq (by rfl) T.len PySem.boot_len (pa_cons (pv 1) pa_nil)) (nomark _)) (pe_one
            (pe_callB (cr_all rfl) (by rfl) T.all (by decide +kernel) (pa_cons (pe_lc (own := [("_law_one", 2), ("_law_two", 3)]) (g := gTup K 2 (gCons (gName 2) (gCons (gName 3) gNil))) (tt := tYes) rfl scIs.nd (RZ.pi_zipA (by rfl) T.zip (pa_cons (pv 0) (pa_cons (pv 1) pa_nil)))
              (blkOk_by (N := nIs) (sc := defScope sIs) (by decide +kernel)) (fun _ _ _ _ _ => pg_tup rfl (pgs_cons (pg_name (i := 2) scIs.nd rfl (Or.inl rfl)) (pgs_cons (pg_name (i := 3) scIs.nd rfl (Or.inl rfl)) pgs_nil))) (fun _ _ _ _ _ => pts_nil)
              (fun _ _ _ _ _ => pe_call ih hr (by rfl) g F.kp bI .nil pass0 (pa_cons (pv 2) (pa_cons (pv 3) pa_nil)))) pa_nil)))))))
          pss_nil)
        (pss_one (ps_ret (pe_and (pe_cmpR op_eq (pe_callB call_isi (by rfl) T.inst (by decide +kernel) (pa_cons (pv 0) (pa_cons (pe_bltn (v := .ty "bool") (by rfl) T.bool (by decide +kernel) rfl) pa_nil))) (pe_callB call_isi (by rfl) T.inst (by decide +kernel) (pa_cons (pv 1) (pa_cons (pe_bltn (v := .ty "bool") (by rfl) T.bool (by decide +kernel) rfl) pa_nil))) (nomark _))
          (pe_one (pe_cmpR (Cn.OpR.orr op_eq (op_eqV hr.units)) (pv 0) (pv 1) (nomark _)))))), ?_⟩
      have cls2 : Paired ClsV [.ty "tuple", .ty "list"] [.type "tuple", .type "list"] := .cons (.ty _) (.cons (.ty _) .nil)
      refine ⟨_, rfl, by show 2 ≤ sizeLine; decide, fun t1 m1 => ?_⟩
      have S1 := smUpd (o := .tup [.ty "tuple", .ty "list"]) m1
      rcases eqG_cases hE with ⟨rfl, hL⟩ | ⟨m, rfl, a, b, xs, ys, rfl, rfl, hk, hx, hp⟩
      · have hL1 : flatV x = true ∨ DictOk (upd H t1 (.tup [.ty "tuple", .ty "list"])) x := hL.imp (fun z => z) fun ⟨a, kvs, e, ha, q⟩ => ⟨a, kvs, e, S1 _ _ ha, q⟩
        obtain ⟨Ty, bb, ty, k2, k3⟩ := leafTy (K := K) hL1
        refine ⟨x, t1, _, _, _, false, rfl, upd_same, cls2, ty, k2, false, rfl, ?_⟩
        refine iteF ?_
        refine ⟨_, rfl, x, .ty "bool", _, _, bb, rfl, .ty _, ty, k3, _, rfl, x, .ty "bool", _, _, bb, rfl, .ty _, ty, k3, rfl, _, rfl, ?_⟩
        rw [if_pos (decide_eq_true rfl)]
        exact ⟨_, rfl, _, rfl, leafEq hL1 (k _ S1)⟩
      · obtain ⟨tu, ha, hb⟩ : ∃ tu : Bool, (if tu = true then H a = some (.tup xs) else H a = some (.lst xs)) ∧ (if tu = true then H b = some (.tup ys) else H b = some (.lst ys)) := by
          rcases hk with ⟨z1, z2⟩ | ⟨z1, z2⟩
          · exact ⟨false, by simpa using z1, by simpa using z2⟩
          · exact ⟨true, by simpa using z1, by simpa using z2⟩
        have keep : ∀ {H1 : Hp} {c : Addr} {zs : List V}, Same H H1 → (if tu = true then H c = some (.tup zs) else H c = some (.lst zs)) → (if tu = true then H1 c = some (.tup zs) else H1 c = some (.lst zs)) := fun {H1 c zs} sm z => by
          cases tu with
          | true => rw [if_pos rfl] at z ⊢; exact sm _ _ z
          | false => rw [if_neg Bool.false_ne_true] at z ⊢; exact sm _ _ z
        obtain ⟨Tb, ty, k2, k3⟩ := seqTy (K := K) (keep S1 hb)
        refine ⟨_, t1, _, _, _, true, rfl, upd_same, cls2, ty, k2, true, rfl, ?_⟩
        refine iteT ?_
        obtain ⟨Ta, ty2, k4, k5⟩ := seqTy (K := K) (keep S1 ha)
        refine ⟨_, rfl, _, .ty "tuple", _, _, tu, rfl, .ty _, ty2, k5, _, rfl, _, .ty "tuple", _, _, tu, rfl, .ty _, ty, k3, rfl, _, rfl, ?_⟩
        rw [show (!decide (V.bl tu = V.bl tu)) = false from by rw [decide_eq_true rfl]; rfl]
        refine iteF ?_
        refine ⟨_, rfl, by show 2 ≤ sizeLine; decide, fun t2 m2 => ?_⟩
        have S2 := S1.trans (smUpd (o := .tup [.ty "tuple", .ty "list"]) m2)
        obtain ⟨Tc, ty3, k6, k7⟩ := seqTy (K := K) (keep S2 ha)
        refine ⟨_, t2, _, _, _, true, rfl, upd_same, cls2, ty3, k6, true, rfl, ?_⟩
        refine iteF ?_
        have hl : xs.length = ys.length := Paired.length hp
        generalize upd (upd H t1 (.tup [.ty "tuple", .ty "list"])) t2 (.tup [.ty "tuple", .ty "list"]) = H2 at *
        have hk2 : (SqL K H2 a xs ∧ SqL K H2 b ys) ∨ (SqT K H2 a xs ∧ SqT K H2 b ys) := by
          rcases hk with ⟨z1, z2⟩ | ⟨z1, z2⟩
          · exact .inl ⟨.inl (.inl (S2 _ _ z1)), .inl (.inl (S2 _ _ z2))⟩
          · exact .inr ⟨.inl (.inl (S2 _ _ z1)), .inl (.inl (S2 _ _ z2))⟩
        have la : SqL K H2 a xs ∨ SqT K H2 a xs := hk2.imp And.left And.left
        have lb : SqL K H2 b ys ∨ SqT K H2 b ys := hk2.imp And.right And.right
        refine ⟨_, rfl, a, xs, rfl, la, _, rfl, b, ys, rfl, lb, rfl, _, rfl, ?_⟩
        rw [if_pos (decide_eq_true (by rw [hl]))]
        have hp2 : Paired (EqG H2 m) xs ys := Paired.mapP hp fun _ _ z => eqG_same S2 z
        refine ⟨_, rfl, _, rfl, a, b, xs, ys, rfl, ?_⟩
        have fin : ∀ {D : Addr} {H3 : Hp}, Same H2 H3 → H3 D = some (.lst ((List.replicate xs.length true).map V.bl)) → rAll K [.ref D] H3 Q := fun {D H3} s3 hD =>
          ⟨D, List.replicate xs.length true, rfl, .inl (.inl hD), by rw [allRep]; exact k _ (S2.trans s3)⟩
        rcases hk2 with ⟨qa, qb⟩ | ⟨qa, qb⟩
        · refine .inl ⟨qa, qb, fun D nD => ?_⟩
          refine lcZipL hl (fun i H' => Same H2 H' ∧ H' D = some (.lst ((List.replicate i true).map V.bl))) ⟨smUpd nD, upd_same⟩ (fun i H' z => ⟨z.1.seq qa, z.1.seq qb⟩) (fun i x y h1 h2 => isTurn hp2 hx nD i x y h1 h2) (fun H' z => ?_)
          exact fin z.1 z.2
        · refine .inr ⟨qa, qb, fun D nD => ?_⟩
          refine lcZipT hl (fun i H' => Same H2 H' ∧ H' D = some (.lst ((List.replicate i true).map V.bl))) ⟨smUpd nD, upd_same⟩ (fun i H' z => ⟨sameT z.1 qa, sameT z.1 qb⟩) (fun i x y h1 h2 => isTurn hp2 hx nD i x y h1 h2) (fun H' z => ?_)
          exact fin z.1 z.2
end
end Cn
namespace Cn
open PySem PySem.Spec PyProof.Rows L2
section
open AutoSeq1 (wpAny_loadPart')
theorem meets_enum_tup (l : Addr) (items : Array Value) (n : Nat) (dct : Option Addr) (sl : Array (Option Value)) :
    Meets (Builtin.«enumerate.__new__» ⟨[.type "enumerate", .ref l], []⟩) (fun _ R s => s.heap.get? l = some { cls := .type "tuple", dict := dct, data := .seq items n, slots := sl } ∧
      R (.ok (.ret (.ref (s.heap.push { cls := .type "tuple_iterator", data := .fields #[.ref l, .int 0 0] }).objs.size)))
        { s with heap := (s.heap.push { cls := .type "tuple_iterator", data := .fields #[.ref l, .int 0 0] }).push { cls := .type "enumerate", data := .fields #[.none, .bool false, .ref s.heap.objs.size, rawInt 0, .none, .none] } }) :=
  .of_wp fun prog w A R s h => by
    obtain ⟨hp, g, d, tk, os⟩ := s; obtain ⟨hl, h⟩ := h
    have hsub := sub_enumerate
    have hL : Heap.IsTuple (Shared.heap ⟨hp, g, d, tk, os⟩) l items := ⟨_, hl, rfl, n, rfl⟩
    wp_walk using wpAny_loadPart' hl
    refine wpAny_stack_any fun st => wpAny_pure ?_
    split
    · rename_i c _ _ _ _ _
      cases (c == Value.type "enumerate")
      · wp_walk using wpAny_loadPart' hl, wpAny_pyIter_tuple hL
        exact ⟨_, rfl, h⟩
      · wp_walk using wpAny_loadPart' hl, wpAny_pyIter_tuple hL
        exact ⟨_, rfl, h⟩
    · wp_walk using wpAny_loadPart' hl, wpAny_pyIter_tuple hL
      exact ⟨_, rfl, h⟩
end
section
variable {prog : Program} {w : World} {A : Around} {E : Value → Shared → Prop} {s : Shared}
theorem call_enum_tup {l : Addr} {items : Array Value} {Q : Value → Shared → Prop} (hL : s.heap.IsTuple l items)
    (h : ∀ h', IsEnum h' (s.heap.objs.size + 1) s.heap.objs.size 0 .none → h'.IsTupleIter s.heap.objs.size l 0 → h'.objs.size = s.heap.objs.size + 2 →
      (∀ b o, s.heap.get? b = some o → h'.get? b = some o) → Q (.ref (s.heap.objs.size + 1)) { s with heap := h' }) :
    wpAny (model prog w) A (call (.type "enumerate") [.ref l]) Q E s := by
  obtain ⟨⟨c, dct, dt, sl⟩, hl, hc, n, hd⟩ := hL
  replace hc : c = .type "tuple" := hc
  replace hd : dt = .seq items n := hd
  subst hc hd
  refine callType_new F.called_enumerate (by decide) (F.typeCall_enumerate_1 _) (F.newCall_enumerate_1 _) (fun obj => F.args_object_init_2 obj _) F.entry_enumerate_new
    (meets_enum_tup l items n dct sl) ⟨hl, ?_⟩
  have hz : (s.heap.push { cls := .type "tuple_iterator", data := .fields #[.ref l, .int 0 0] }).objs.size = s.heap.objs.size + 1 := Heap.size_push ..
  show _ ∧ _
  rw [hz]
  have he : IsEnum ((s.heap.push { cls := .type "tuple_iterator", data := .fields #[.ref l, .int 0 0] }).push { cls := .type "enumerate", data := .fields #[.none, .bool false, .ref s.heap.objs.size, rawInt 0, .none, .none] }) (s.heap.objs.size + 1) s.heap.objs.size 0 .none := by
    have := Heap.get?_push_size (s.heap.push { cls := .type "tuple_iterator", data := .fields #[.ref l, .int 0 0] }) (o := { cls := .type "enumerate", data := .fields #[.none, .bool false, .ref s.heap.objs.size, rawInt 0, .none, .none] }) rfl
    rw [hz] at this; exact this
  refine ⟨⟨_, he, rfl⟩, h _ he ⟨_, Heap.get?_push_of_some _ (Heap.get?_push_size _ rfl), rfl, rfl⟩ (by rw [Heap.size_push, hz]) fun b o x => Heap.get?_push_of_some _ (Heap.get?_push_of_some _ x)⟩
theorem enumEndT {e it l : Addr} {i : Nat} {c : Int} {items : Array Value} {old : Value} {Q : Option Value → Shared → Prop} (hh : A.handled = none) (he : IsEnum s.heap e it c old) (hit : s.heap.IsTupleIter it l i) (hl : s.heap.IsTuple l items) (hx : items[i]? = none)
    (hQ : ∀ h', Heap.ExtBut it s.heap h' → Q none { s with heap := h' }) : wpAny (model prog w) A (pyNext (.ref e)) Q E s := by
  have hT : s.TypeIs (.ref e) "enumerate" := ⟨_, he, rfl⟩
  unfold pyNext
  refine wpAny_bind (wpAny_attempt (wpAny_callSpecial?_slot (name := Str.ofString "__next__") hT F.slot_enumerate_next
    (wpAny_call_entry F.slot_enumerate_next hT F.entry_enumerate_next ?_ (F.args_enumerate_next_1 _))))
  show wpAny _ _ (field (.ref e) 2 >>= _) _ _ _
  refine wpAny_bind (wpAny_field he rfl (x := .ref it) rfl ?_)
  refine wpAny_bind (wpAny_nextOf_tuple_end (A := A.in1) hh hit hl hx fun h' x he' hx' => ?_)
  obtain ⟨o, ho, hc⟩ := hx'
  refine wpAny_bind (wpAny_isInstance (T := "StopIteration") (b := true) ⟨o, ho, hc⟩ isSubtype_stop ?_)
  exact wpAny_pure (hQ _ he')
end
/-- the tuple at a, each item in a new pair -/
def IteT (K : PySem.W.Frag) (a : Addr) : It :=
  ⟨fun i H => ∃ (xs : List V) (x : V), SqT K H a xs ∧ xs[i]? = some x, fun i H v H' => ∃ T x, v = .ref T ∧ H T = none ∧ H' = upd H T (.tup [.int (i : Nat), x]) ∧ ∀ xs, SqT K H a xs → xs[i]? = some x, fun i H => ∃ xs : List V, SqT K H a xs ∧ xs.length ≤ i⟩
theorem turn_enumT {P : Program} {w : World} {K : PySem.W.Frag} {elts : List Expr} {kk : Nat} {tpos : Pos} (a e it : Addr) :
    Turn P w K (.Tuple elts kk tpos) (IteT K a) [e, it] e (fun i h => (∃ old, IsEnum h e it ((i : Nat) : Int) old) ∧ h.IsTupleIter it a i ∧ e ≠ it ∧ a ≠ it ∧ a ≠ e) where
  mem := by simp
  obj := fun i h st b hb => by
    obtain ⟨⟨old, he⟩, ⟨o, ho, hc, hd⟩, _⟩ := st
    have e' : b = e ∨ b = it := by simpa using hb
    rcases e' with z | z
    · rw [z]; exact ⟨_, he, fun v q => nomatch q⟩
    · rw [z]; exact ⟨o, ho, fun v q => by rw [hd] at q; cases q⟩
  keep := fun i h h' st k => let ⟨⟨old, he⟩, hi, hne⟩ := st; ⟨⟨old, k e (by simp) _ he⟩, hi.at fun o q => k it (by simp) o q, hne⟩
  item := by
    intro X hP hw hK hc i pins s σ H E I hf st hg
    subst hP hw hK
    obtain ⟨⟨old, he⟩, hit, hne, hai, hae⟩ := st
    obtain ⟨xs, x, hq, hx⟩ := hg
    obtain ⟨its, rv, p, hz⟩ := I.tuple hq
    obtain ⟨u, hu, ru⟩ := rv.get hx
    have hel : e < s.heap.objs.size := Heap.lt_size he
    have hil : it < s.heap.objs.size := by obtain ⟨_, q, _⟩ := hit; exact Heap.lt_size q
    have hlt : i < its.toArray.size := by
      have := (List.getElem?_eq_some_iff.mp hu).1
      simpa using this
    refine wpAny_pyNext_enum_itemC (c := ((i : Nat) : Int)) (Draws.tuple (A := X.A.in1) (I.ok.hd hc) it a hai its.toArray) he ⟨hit, p⟩ hlt hne (by simp [hne, Ne.symm hae]) fun x' h' tk hP ho hs' hT hsz hk => ?_
    have ex : x' = u := by
      have e1 : its.toArray[i]? = some u := by simpa using hu
      rw [e1] at hP
      exact (Option.some.inj hP).symm
    subst ex
    refine ⟨_, rfl, wpAny_letOwnedTupleGo_enum (s := { s with heap := h', toks := tk + 1 }) ho fun h'' he' sb => ?_⟩
    have hT2 : h''.get? s.heap.objs.size = some { cls := .type "tuple", data := .seq #[.int i tk, x'] } := (sb.2 _ (Nat.ne_of_gt hel)).trans hT
    have new : ObjOk X.prog X.w (upd H s.heap.objs.size (.tup [.int (i : Nat), x])) h'' s.heap.objs.size (.tup [.int (i : Nat), x]) :=
      ⟨by show 2 ≤ sizeLine; decide, [.int i tk, x'], .cons ⟨_, rfl⟩ (.cons ru .nil), ⟨_, hT2, rfl, _, rfl⟩⟩
    have I1 : Inv X pins σ (upd H s.heap.objs.size (.tup [.int (i : Nat), x])) { s with heap := h'', toks := tk + 1 } :=
      I.turnedNew (ch := [e, it]) (fun b ob hb q => (sb.2 b (fun z => hb (by simp [z]))).trans (hk b ob (fun z => hb (by simp [z])) (fun z => hb (by simp [z])) q)) hf (Nat.le_refl _) new
    refine ⟨.ref s.heap.objs.size, _, I1, rfl, ⟨_, x, rfl, I.hok.fresh (Nat.le_refl _), rfl, fun ys hy => by rw [I.tuple_inj hy hq]; exact hx⟩, ⟨⟨x', ?_⟩, hs'.1.at fun o q => (sb.2 it (Ne.symm hne)).trans q, hne, hai, hae⟩, fun b hb => ?_⟩
    · have e1 : ((i + 1 : Nat) : Int) = (i : Int) + 1 := by omega
      rw [e1]; exact he'
    · have hb' : b < s.heap.objs.size := by
        have e' : b = e ∨ b = it := by simpa using hb
        rcases e' with z | z
        · rw [z]; exact hel
        · rw [z]; exact hil
      rw [upd_ne (Nat.ne_of_lt hb')]
      exact (hf b hb).1
  done := by
    intro X hP hw hK hc i pins s σ H E I hf st hg
    subst hP hw hK
    obtain ⟨⟨old, he⟩, hit, hne, hai, hae⟩ := st
    obtain ⟨xs, hq, hx⟩ := hg
    obtain ⟨its, rv, p, hz⟩ := I.tuple hq
    obtain ⟨f0, f1, f2, f3, f4, f5⟩ := hf it (by simp)
    have hl := rv.length
    refine enumEndT (I.ok.hd hc) he hit p (by simp; omega) fun h' eb => ⟨rfl, I.turned (t' := s.toks) (fun b o hb q => eb b o hb q) f0 f1 f3 f4 f5⟩
  self := fun A i s Q E st h => let ⟨⟨_, he⟩, _⟩ := st; wpAny_pyIter_enum he h
def iEnumT (K : PySem.W.Frag) (ta : TA) : TI := fun σ H R => ta σ H fun vs H1 => ∃ a xs, vs = [.ref a] ∧ SqT K H1 a xs ∧ R (IteT K a) H1
theorem pi_enumT {X : Cx} {e : Expr} {ta : TA} {p pos tpos : Pos} {elts : List Expr} {kk : Nat} (hg : Gl X "enumerate") (hm : X.mg "enumerate" = none) (ha : PA X [e] ta) (hs : starEach [e] X.env = [(false, eval e X.env)] := by rfl) :
    PI X (.Tuple elts kk tpos) (.Call (.Name "enumerate" p) [e] [] pos) (iEnumT X.K ta) := by
  refine ⟨fun pins s σ H R I h => ?_⟩
  refine Call_ (ld_blt I hg hm boot_enumerate (PyProof.Rows.callWith_type1 (thn (ha.run pos pins s σ H _ I h) fun us s1 ⟨vs, H1, I1, r1, q1⟩ => ?_) hs rfl))
  obtain ⟨a, xs, ex, hq, q⟩ := q1
  subst ex
  cases r1 with
  | cons r rr =>
    cases rr
    cases r
    obtain ⟨its, rv, p', hz⟩ := I1.tuple hq
    have hal : a < s1.heap.objs.size := by obtain ⟨_, q, _⟩ := p'; exact Heap.lt_size q
    refine call_enum_tup p' fun h' he hit hsz hk => wpAny_pyIter_enum he ?_
    have I2 : Inv X pins σ H1 { s1 with heap := h' } := I1.kept (t' := s1.toks) hk
    refine ⟨s1.heap.objs.size + 1, [s1.heap.objs.size + 1, s1.heap.objs.size], _, _, H1, rfl, I2, turn_enumT a (s1.heap.objs.size + 1) s1.heap.objs.size, ⟨⟨.none, he⟩, hit, Nat.succ_ne_self _, Nat.ne_of_lt hal, Nat.ne_of_lt (Nat.lt_succ_of_lt hal)⟩, fun b hb => ?_, q⟩
    have e' : b = s1.heap.objs.size + 1 ∨ b = s1.heap.objs.size := by simpa using hb
    have hle : s1.heap.objs.size ≤ b := by
      rcases e' with z | z
      · rw [z]; exact Nat.le_add_right _ _
      · rw [z]; exact Nat.le_refl _
    exact I1.fpOk hle (I1.hok.fresh hle)
theorem walk_enumT {K : PySem.W.Frag} {a : Addr} {xs : List V} : Walk (IteT K a) xs.length (fun H => SqT K H a xs) (YPair (fun i => some (.int (i : Nat))) (fun i => xs[i]?)) := by
  refine ⟨fun i _ hi q => ⟨xs, xs[i], q, by simp [hi]⟩, fun _ q => ⟨xs, q, Nat.le_refl _⟩, fun i H v H' _ q y => ?_⟩
  obtain ⟨T, x, h1, h2, h3, h4⟩ := y
  exact ⟨T, .int (i : Nat), x, h1, h2, h3, rfl, h4 xs q⟩
/-! t.index(y) -/
def rTidx (K : PySem.W.Frag) : V → List V → Hp → VK → Prop := fun x xs H Q => ∃ (a : Addr) (ys : List V) (y : V) (j : Nat) (z : V), x = V.ref a ∧ xs = [y] ∧ SqT K H a ys ∧ flatV y = true ∧ ys.all flatV = true ∧ ys[j]? = some z ∧ eqV z y = true ∧
  (∀ (m : Nat) (z' : V), m < j → ys[m]? = some z' → eqV z' y = false) ∧ Q (.int (j : Nat)) H
theorem mt_tidx {X : Cx} : MtR X "tuple.index" (rTidx X.K) := by
  intro pins s σ H x xs v us Q I rx rxs h
  obtain ⟨a, ys, y, j, z, rfl, rfl, hs, fy, fys, hz, hzj, hno, q⟩ := h
  cases rx
  cases rxs with
  | cons ry rt =>
    rename_i uy ut
    cases rt
    obtain ⟨its, rv, pl, hlen⟩ := I.tuple hs
    obtain ⟨⟨cls, dd, dt, sl⟩, ho, hc, n, hd⟩ := pl
    simp only at hc hd
    subst hc hd
    obtain ⟨u, hu, ru⟩ := rv.get hz
    obtain ⟨hjl, hje⟩ := List.getElem?_eq_some_iff.mp hu
    have hvl := rv.length
    have hj : j < its.toArray.size := by simpa using hjl
    refine call_meets PySem.F.slot_tuple_index ⟨_, ho, rfl⟩ PySem.F.entry_tuple_index (PySem.F.args_tuple_index_2 _ _) (TI.tuple_indexAt a its.toArray n dd sl uy (eqU y) j hj ?_ ?_)
      ⟨ho, fun u' hu' => mem_eqAt ry fy rv fys u' (by simpa using hu'), ⟨.int (j : Nat), H, I.tok _, ⟨_, rfl⟩, q⟩⟩
    · have e1 : its.toArray[j] = u := by simpa using hje
      rw [e1, eqU_of ru (flat_at fys hz)]
      exact hzj
    · intro m hm hmj
      have hml : m < its.length := by simpa using hm
      have hmy : m < ys.length := by omega
      have hy' : ys[m]? = some ys[m] := List.getElem?_eq_getElem hmy
      obtain ⟨u2, hu2, ru2⟩ := rv.get hy'
      obtain ⟨_, hme⟩ := List.getElem?_eq_some_iff.mp hu2
      have e1 : its.toArray[m] = u2 := by simpa using hme
      rw [e1, eqU_of ru2 (flat_at fys hy')]
      exact hno m _ hmj hy'
/-! sorted(t), whole numbers -/
section
variable {prog : Program} {w : World} {A : Around} {E : Value → Shared → Prop} {s : Shared}
theorem collect_tup {l : Addr} {vs : List Value} {Q : List Value → Shared → Prop} (hl : s.heap.IsTuple l vs.toArray)
    (h : Q vs { s with heap := (s.heap.push (seqObj "list" #[] 0)).update s.heap.objs.size (Obj.mapSeq (· ++ vs.toArray)) }) (hsz : vs.length ≤ sizeLine) :
    wpAny (model prog w) A (collect (.ref l)) Q E s := by
  obtain ⟨o, ho, hc, n, hd⟩ := id hl
  unfold collect
  refine wpAny_bind (wpAny_runValue (codeAny_builtin entry_proto_collect' ?_))
  show wpAny _ _ (do again (.builtin "list.__iadd__" ⟨[← newList [], .ref l], []⟩)) _ _ s
  refine wpAny_bind (wpAny_newList (wpAny_pure ⟨Code.quiet_builtin _ (by decide +kernel), codeAny_builtin entry_list_iadd' ?_⟩))
  show wpAny _ _ (Builtin.List.listExtendWith (.ref s.heap.objs.size) (.ref l) (.ref s.heap.objs.size)) _ _ { s with heap := s.heap.push (seqObj "list" #[] 0) }
  unfold Builtin.List.listExtendWith
  have ho' : (s.heap.push (seqObj "list" #[] 0)).get? l = some o := Heap.get?_push_of_some _ ho
  refine wpAny_bind (wpAny_typeOf (T := "tuple") ⟨o, ho', hc⟩ ?_)
  have ht : (Value.type "tuple" == Value.type "tuple") = true := by rfl
  rw [if_pos (by rw [ht]; simp)]
  refine wpAny_bind (listItems_at ho' hd ?_)
  refine wpAny_bind (listItems_at (xs := #[]) (n := 0) (Heap.get?_push_size _ rfl) rfl ?_)
  rw [if_neg (by simp)]
  refine wpAny_bind (listUpdate_at (xs := #[]) (n := 0) (Heap.get?_push_size _ rfl) rfl ?_ (Nat.zero_le _) (by show (#[] ++ vs.toArray).size ≤ sizeLine + 1; simp only [Array.size_append, List.size_toArray, List.length_nil]; omega))
  refine wpAny_pure ?_
  show wpAny (model prog w) A (do
      let o ← load s.heap.objs.size
      match o.data with
      | .seq xs _ => pure xs.toList
      | _ => unsupported "internal:collect") Q E { s with heap := (s.heap.push (seqObj "list" #[] 0)).update s.heap.objs.size (Obj.mapSeq (· ++ vs.toArray)) }
  refine wpAny_bind (wpAny_load (get?_update_seq (Heap.get?_push_size _ rfl) _) ?_)
  show wpAny _ _ (pure ((#[] : Array Value) ++ vs.toArray).toList) Q E _
  rw [show ((#[] : Array Value) ++ vs.toArray).toList = vs by simp]
  exact wpAny_pure h
theorem sorted_tupI {l : Addr} {vs : List Value} {ns : List Int} {Q : Value → Shared → Prop} (hl : s.heap.IsTuple l vs.toArray) (hI : IntsAre vs ns) (h64 : vs.length < 64)
    (h : ∀ (out : Array Value) (ns' : List Int), IntsAre out.toList ns' → ns'.Perm ns → ns'.Pairwise (· ≤ ·) → Q (.ref (s.heap.objs.size + 1)) { s with heap := sortedAll s.heap vs out }) :
    wpAny (model prog w) A (call (.builtin "sorted") [.ref l]) Q E s := by
  refine Calls.call_function_entry kind_sorted plain_sorted entry_sorted (args_sorted1 _) ?_
  unfold Builtin.«sorted»
  refine wpAny_bind (m := checkCount "sorted" 1 1 _) (wpAny_pure ?_)
  refine wpAny_bind (collect_tup hl ?_ (small64 h64))
  refine wpAny_bind (wpAny_newList ?_)
  have hsz : ((s.heap.push (seqObj "list" #[] 0)).update s.heap.objs.size (Obj.mapSeq (· ++ vs.toArray))).objs.size = s.heap.objs.size + 1 := by
    rw [Heap.size_update, size_push']
  have hoL : (((s.heap.push (seqObj "list" #[] 0)).update s.heap.objs.size (Obj.mapSeq (· ++ vs.toArray))).push (seqObj "list" vs.toArray 0)).get? (s.heap.objs.size + 1) = some (seqObj "list" vs.toArray 0) := by
    rw [← hsz]; exact Heap.get?_push_size _ rfl
  show wpAny _ _ _ _ _ { s with heap := ((s.heap.push (seqObj "list" #[] 0)).update s.heap.objs.size (Obj.mapSeq (· ++ vs.toArray))).push (seqObj "list" vs.toArray 0) }
  rw [hsz]
  refine wpAny_bind (wpAny_holding (wpAny_call_entry slot_list_sort ⟨_, hoL, rfl⟩ entry_list_sort (list_sort_tree hoL hI h64 fun out ns' a1 a2 a3 => ⟨_, rfl, ?_⟩) (args_list_sort _)))
  exact wpAny_pure ⟨_, rfl, h out ns' a1 a2 a3⟩
end
def rSortTup (K : PySem.W.Frag) : List V → Hp → VK → Prop := fun vs H Q => ∃ (a : Addr) (ns : List Int), vs = [V.ref a] ∧ SqT K H a (ns.map V.int) ∧ ns.length < 64 ∧
  ∀ (ns' : List Int) (p : Addr), ns'.Perm ns → ns'.Pairwise (· ≤ ·) → H p = none → Q (.ref p) (upd H p (.lst (ns'.map V.int)))
theorem cr_sortTup {X : Cx} : CallR X (.builtin "sorted") (rSortTup X.K) := by
  intro pins s σ H vs us Q I r h
  obtain ⟨a, ns, rfl, hs, h64, q⟩ := h
  obtain ⟨its, rv, hl, _⟩ := I.tuple hs
  rw [Vals.ref1 r]
  have hi := rv.ints
  refine sorted_tupI hl hi (by rw [hi.length]; exact h64) fun out ns' h1 h2 h3 => ?_
  obtain ⟨ep, he'⟩ := PyProof.Rows.sortedAll_at s.heap its out
  have hlen : (ns'.map V.int).length ≤ sizeLine := by rw [List.length_map, h2.length_eq]; exact small64 h64
  exact ⟨.ref _, upd H (s.heap.objs.size + 1) (.lst (ns'.map V.int)), I.laid (t' := s.toks) (fun _ _ => PyProof.Rows.sortedAll_old) (Nat.le_succ _) ⟨hlen, out.toList, ep, vals_of_ints h1, he'⟩, rfl, q ns' _ h2 h3 (I.hok.fresh (Nat.le_succ _))⟩
/-! tuples of which it is known that they have no dict of their own: t.index(y) -/
def TD (H : Hp) (a : Addr) (xs : List V) : Prop := ∃ o : Obj, o.dict = none ∧ H a = some (.frz o (.tup xs))
theorem tdT {K : PySem.W.Frag} {H : Hp} {a : Addr} {xs : List V} (h : TD H a xs) : SqT K H a xs := by
  obtain ⟨o, _, e⟩ := h
  exact .inl (.inr ⟨o, e⟩)
theorem tdTy {K : PySem.W.Frag} {H : Hp} {a : Addr} {xs : List V} (h : TD H a xs) : TyX K H (.ref a) (.type "tuple") := by
  obtain ⟨o, _, e⟩ := h
  exact .fTuple e
theorem tdSame {H H' : Hp} {a : Addr} {xs : List V} (s : Same H H') (h : TD H a xs) : TD H' a xs := by
  obtain ⟨o, d, e⟩ := h
  exact ⟨o, d, s _ _ e⟩
abbrev tupO (its : List Value) : Obj := { cls := .type "tuple", data := .seq its.toArray }
theorem tdNew {H : Hp} {a : Addr} {its : List Value} {xs : List V} : TD (upd H a (.frz (tupO its) (.tup xs))) a xs := ⟨tupO its, rfl, upd_same⟩
/-- a new tuple, its dict known to be none -/
theorem laidTD {X : Cx} {pins : List (Addr × Obj)} {σ : L2.St} {H : Hp} {s : Shared} {h' : Heap} {tk : Nat} {xs : List V} {its : List Value} (I : Inv X pins σ H { s with heap := h', toks := tk }) (r : Vals xs its) (hz : xs.length ≤ sizeLine) :
    Inv X pins σ (upd H h'.objs.size (.frz (tupO its) (.tup xs))) { s with heap := h'.push (tupO its), toks := tk } := by
  have g : (h'.push (tupO its)).get? h'.objs.size = some (tupO its) := Heap.get?_push_size _ rfl
  exact I.laid (t' := tk) (fun b o e => Heap.get?_push_of_some _ e) (Nat.le_refl _) ⟨g, hz, its, r, ⟨_, g, rfl, 0, rfl⟩⟩
section
variable {X : Cx}
def rTupD (K : PySem.W.Frag) : List V → Hp → VK → Prop := fun xs H Q => ∃ p ys, xs = [.ref p] ∧ SqL K H p ys ∧ ∀ l H', Same H H' → TD H' l ys → Q (.ref l) H'
/-- tuple(a list) -/
theorem call_tupD : CallR X (.type "tuple") (rTupD X.K) := by
  intro pins s σ H xs us Q I r h
  obtain ⟨p, ys, rfl, hq, q⟩ := h
  obtain ⟨u, rfl, rx⟩ := vals1 r
  cases rx
  obtain ⟨its, r', pl, hz⟩ := I.list hq
  have hlen := r'.length
  refine call_tuple_list pl.isList (fun h' kp => ?_) (by simp only [List.size_toArray] <;> omega)
  have I1 : Inv X pins σ H { s with heap := h', toks := s.toks } := I.kept (t' := s.toks) kp
  have hn : H h'.objs.size = none := I1.hok.fresh (Nat.le_refl _)
  exact ⟨.ref h'.objs.size, _, laidTD I1 r' hz, rfl, q _ _ (smUpd hn) tdNew⟩
def tTupRevD (K : PySem.W.Frag) (te : TE) : TE := fun σ H Q => te σ H fun v H1 => ∃ (a : Addr) (xs : List V), v = .ref a ∧ SqL K H1 a xs ∧ ∀ l H', Same H1 H' → TD H' l xs.reverse → Q (.ref l) H'
/-- tuple(reversed(a list)) -/
theorem pe_tupRevD {e : Expr} {te : TE} {p p2 pos pos2 : Pos} (hc : X.calm = true) (hg : Gl X "tuple") (hm : X.mg "tuple" = none) (hg2 : Gl X "reversed") (hm2 : X.mg "reversed" = none) (he : PE X e te)
    (hs : starEach [e] X.env = (false, eval e X.env) :: starEach [] X.env := by rfl)
    (hs2 : starEach [.Call (.Name "reversed" p2) [e] [] pos2] X.env = (false, eval (.Call (.Name "reversed" p2) [e] [] pos2) X.env) :: starEach [] X.env := by rfl) :
    PE X (.Call (.Name "tuple" p) [.Call (.Name "reversed" p2) [e] [] pos2] [] pos) (tTupRevD X.K te) := by
  refine ⟨fun pins s σ H Q I h => ?_⟩
  refine Call_ (ld_blt I hg hm boot_tuple (callWith_type1 (args_cons (Call_ (ld_blt I hg2 hm2 boot_reversed (callWith_type1 (args_cons (thn (he.run pins s σ H _ I h) fun u s1 ⟨v, H1, I1, r1, q1⟩ => args_nil ?_) hs) hs rfl))) hs2) hs2 rfl))
  obtain ⟨l, ys, rfl, hl, q⟩ := q1
  cases (show u = Value.ref l from r1)
  obtain ⟨its, rv, pl, hz⟩ := I1.list hl
  refine call_reversed_list pl.isList (args_nil ?_)
  have I2 : Inv X pins σ H1 { s1 with heap := s1.heap.push (PySem.revObj l ((its.toArray.size : Int) - 1)) } := I1.kept (t' := s1.toks) fun b o z => Heap.get?_push_of_some _ z
  have hfr : H1 s1.heap.objs.size = none := I1.hok.fresh (Nat.le_refl _)
  obtain ⟨f0, f1, _, f3, f4, f5⟩ := I1.fpOk (H' := H1) (b := s1.heap.objs.size) (Nat.le_refl _) hfr
  have hne : l ≠ s1.heap.objs.size := by
    obtain ⟨_, z, _⟩ := pl.isList
    exact Nat.ne_of_lt (Heap.lt_size z)
  refine RT.call_tuple_rev (s := { s1 with heap := s1.heap.push (PySem.revObj l ((its.toArray.size : Int) - 1)) }) (I1.ok.hd hc) ⟨_, Heap.get?_push_size _ rfl, rfl, rfl⟩ (pl.isList.push _) hne (by rw [List.size_toArray, ← rv.length]; exact hz) fun h' tk acc hk hi => ?_
  have I3 : Inv X pins σ H1 { s1 with heap := h', toks := tk } := I2.turned (t' := tk) (fun b o hb z => hk b o hb z) f0 f1 f3 f4 f5
  have hn : H1 h'.objs.size = none := I3.hok.fresh (Nat.le_refl _)
  have I4 := laidTD I3 (RT.vals_rev rv hi) (by rw [List.length_reverse]; exact hz)
  refine ⟨.ref h'.objs.size, upd H1 h'.objs.size (.frz (tupO acc.toList) (.tup ys.reverse)), ?_, rfl, q _ _ (smUpd hn) tdNew⟩
  have ea : acc.toList.toArray = acc := Array.toArray_toList
  rw [← ea]
  exact I4
/-- t.m(..), t such a tuple -/
def tBT (r : V → List V → Hp → VK → Prop) (to : TE) (t : TA) : TE := fun σ H Q => to σ H fun x H1 => (∃ a xs, x = .ref a ∧ TD H1 a xs) ∧ t σ H1 fun xs H2 => r x xs H2 Q
variable {o e : Expr} {es : List Expr} {to : TE} {t : TA} {name : Str} {apos cpos : Pos} {id : String} {r : V → List V → Hp → VK → Prop}
theorem pe_bt (slot : Slot "tuple" name id) (hty : typeOf (.builtin id) = pure (.type "method_descriptor")) (hm : MtR X id r) (ho : PE X o to) (ha : PA X (e :: es) t)
    (hbase : attributeBase o name X.env (eval o X.env) = eval o X.env := by rfl)
    (hfew : ((backTo cpos (starEach (e :: es) X.env)).all (fun x => !x.1) && (backToKw cpos (keywordEach [] X.env)).all (fun x => x.1.isSome)
      && decide ((e :: es).length + ([] : List Keyword).length + (if ([] : List Keyword).isEmpty then 0 else 1) < 30)) = true := by rfl)
    (hline : (apos.endLine == cpos.line) = true := by rfl) (hs : starEach (e :: es) X.env = (false, eval e X.env) :: starEach es X.env := by rfl) (hplain : (backTo cpos (starEach es X.env)).any (·.1) = false := by rfl) :
    PE X (.Call (.Attribute o name apos) (e :: es) [] cpos) (tBT r to t) := by
  refine ⟨fun pins s σ H Q I h => ?_⟩
  refine wpAny_Call_method_late hbase hfew hline rfl (thn (ho.run pins s σ H _ I h) fun v s1 ⟨x, H1, I1, r1, ty, q1⟩ => ?_)
  obtain ⟨a, xs, rfl, ob, hd, hx⟩ := ty
  cases (show v = Value.ref a from r1)
  obtain ⟨g, _, its, _, hit⟩ := I1.hok a _ hx
  have hT : s1.TypeIs (.ref a) "tuple" := by
    obtain ⟨o', g', c, _⟩ := hit
    exact ⟨o', g', c⟩
  refine ⟨"tuple", id, PySem.F.plainAttrs_tuple, slot, hty, hT, fun b z => (by cases z; exact ⟨ob, g, hd⟩), ?_⟩
  have hA := ha.run cpos pins s1 σ H1 _ I1 q1
  rw [hs] at hA ⊢
  refine Calls.callWith_builtin (by show (false || (backTo cpos (starEach es X.env)).any (·.1)) = false; rw [hplain] <;> rfl) (Calls.evalArgs_plain ?_)
  exact thn hA fun us s2 ⟨vs, H2, I2, r2, q2⟩ => hm pins s2 σ H2 (.ref a) vs (.ref a) us Q I2 rfl r2 q2
end
end Cn
namespace Cn
open PySem PySem.Spec PyProof.Rows L2 Ck
abbrev vn (n : Nat) : V := .int ((n : Nat) : Int)
def vp : Option Nat → V
  | none => .non
  | some n => vn n
def TN (H : Hp) (a : Addr) (ns : List Nat) : Prop := H a = some (.tup (ns.map vn))
def TP (H : Hp) (a : Addr) (ps : List (Option Nat)) : Prop := H a = some (.tup (ps.map vp))
def TDn (H : Hp) (a : Addr) (ns : List Nat) : Prop := TD H a (ns.map vn)
theorem tdL {K : PySem.W.Frag} {H : Hp} {a : Addr} {ns : List Nat} (h : TDn H a ns) : SqT K H a (ns.map vn) := tdT h
theorem tnL {K : PySem.W.Frag} {H : Hp} {a : Addr} {ns : List Nat} (h : TN H a ns) : SqT K H a (ns.map vn) := .inl (.inl h)
theorem tpL {K : PySem.W.Frag} {H : Hp} {a : Addr} {ps : List (Option Nat)} (h : TP H a ps) : SqT K H a (ps.map vp) := .inl (.inl h)
theorem vn_flat (ns : List Nat) : (ns.map vn).all flatV = true := by
  rw [List.all_eq_true]
  intro x hx
  obtain ⟨n, _, rfl⟩ := List.mem_map.mp hx
  rfl
theorem vn_at {ns : List Nat} {i n : Nat} (h : ns[i]? = some n) : (ns.map vn)[i]? = some (vn n) := by rw [List.getElem?_map, h]; rfl
theorem vp_at {ps : List (Option Nat)} {i : Nat} {q : Option Nat} (h : ps[i]? = some q) : (ps.map vp)[i]? = some (vp q) := by rw [List.getElem?_map, h]; rfl
theorem vn_ix {ns : List Nat} {i n : Nat} (h : ns[i]? = some n) : atI (ns.map vn) ((i : Nat) : Int) = some (vn n) := atI_nat (vn_at h)
theorem vp_ix {ps : List (Option Nat)} {i : Nat} {q : Option Nat} (h : ps[i]? = some q) : atI (ps.map vp) ((i : Nat) : Int) = some (vp q) := atI_nat (vp_at h)
theorem vn_get {ns : List Nat} {i : Nat} {x : V} (h : (ns.map vn)[i]? = some x) : ∃ n, ns[i]? = some n ∧ x = vn n := by
  rw [List.getElem?_map] at h
  obtain ⟨n, hn, e⟩ := Option.map_eq_some_iff.mp h
  exact ⟨n, hn, e.symm⟩
theorem vp_get {ps : List (Option Nat)} {i : Nat} {x : V} (h : (ps.map vp)[i]? = some x) : ∃ q, ps[i]? = some q ∧ x = vp q := by
  rw [List.getElem?_map] at h
  obtain ⟨n, hn, e⟩ := Option.map_eq_some_iff.mp h
  exact ⟨n, hn, e.symm⟩
theorem vn_inj {a b : Nat} : eqV (vn a) (vn b) = decide (a = b) := by
  show (((a : Nat) : Int) == ((b : Nat) : Int)) = decide (a = b)
  rw [Bool.eq_iff_iff, beq_iff_eq, decide_eq_true_iff]
  omega
/-- the first place of n -/
theorem vn_idx {ns : List Nat} {n : Nat} (h : n ∈ ns) : (ns.map vn)[ns.idxOf n]? = some (vn n) ∧ ∀ (m : Nat) (z : V), m < ns.idxOf n → (ns.map vn)[m]? = some z → eqV z (vn n) = false := by
  refine ⟨vn_at ?_, fun m z hm hz => ?_⟩
  · have hl := List.idxOf_lt_length_of_mem h
    rw [List.getElem?_eq_getElem hl, List.getElem_idxOf hl]
  · rw [List.getElem?_map] at hz
    obtain ⟨k, hk, rfl⟩ := Option.map_eq_some_iff.mp hz
    rw [vn_inj]
    refine decide_eq_false fun e => ?_
    subst e
    obtain ⟨hml, hme⟩ := List.getElem?_eq_some_iff.mp hk
    have := List.not_of_lt_findIdx (p := (· == k)) (xs := ns) (i := m) hm
    rw [hme] at this
    simp at this
theorem inV_vn {ns : List Nat} {n : Nat} : inV (vn n) (ns.map vn) = decide (n ∈ ns) := by
  unfold inV
  rw [Bool.eq_iff_iff, decide_eq_true_iff, List.any_eq_true]
  constructor
  · rintro ⟨x, hx, h⟩
    obtain ⟨m, hm, rfl⟩ := List.mem_map.mp hx
    rw [vn_inj, decide_eq_true_iff] at h
    rw [← h]; exact hm
  · intro h
    exact ⟨vn n, List.mem_map.mpr ⟨n, h, rfl⟩, by rw [vn_inj]; exact decide_eq_true rfl⟩
/-! the forest -/
def fields3 (ap ab aa : Addr) : List (Str × V) := [("parents", .ref ap), ("bearing", .ref ab), ("asking", .ref aa)]
structure Fo where
  ps : List (Option Nat)
  be : List Nat
  as : List Nat
/-- what a forest's data keep to -/
structure FoOk (f : Fo) : Prop where
  ps : Ps f.ps
  l0 : 1 ≤ f.ps.length
  l1 : f.ps.length ≤ 60
  be : f.be.Pairwise (· < ·)
  bl : ∀ x ∈ f.be, x < f.ps.length
  as : f.as.Pairwise (· < ·)
  al : ∀ x ∈ f.as, x < f.ps.length
def FoAt (C : Addr) (H : Hp) (a : Addr) (f : Fo) : Prop := ∃ dx ap ab aa, H a = some (.ins C dx (fields3 ap ab aa)) ∧ TP H ap f.ps ∧ TN H ab f.be ∧ TN H aa f.as
theorem foAt_same {C : Addr} {H H' : Hp} {a : Addr} {f : Fo} (s : Same H H') (h : FoAt C H a f) : FoAt C H' a f := by
  obtain ⟨dx, ap, ab, aa, h1, h2, h3, h4⟩ := h
  exact ⟨dx, ap, ab, aa, s _ _ h1, s _ _ h2, s _ _ h3, s _ _ h4⟩
structure FoT (K : PySem.W.Frag) (mg : Str → Option Value) (C : Addr) : Prop where
  cl : Cls K C
  nP : NoAttr K C "parents"
  nB : NoAttr K C "bearing"
  nA : NoAttr K C "asking"
  mgC : mg "Forest" = some (.ref C)
theorem fP {ap ab aa : Addr} : (fields3 ap ab aa).lookup ("parents" : Str) = some (.ref ap) := rfl
theorem fB {ap ab aa : Addr} : (fields3 ap ab aa).lookup ("bearing" : Str) = some (.ref ab) := rfl
theorem fA {ap ab aa : Addr} : (fields3 ap ab aa).lookup ("asking" : Str) = some (.ref aa) := rfl
/-- the builtins that the texts call -/
structure NamT (mg : Str → Option Value) : Prop where
  is : IsTxt mg
  int : mg "int" = none
  abs : mg "abs" = none
  range : mg "range" = none
  enum : mg "enumerate" = none
  rev : mg "reversed" = none
  sorted : mg "sorted" = none
  min : mg "min" = none
/-- a def and its name in the module -/
structure DefAt (K : PySem.W.Frag) (mg : Str → Option Value) (x : Str) (st : Stmt) (ps : List Str) (f : Addr) (fd : FuncData) : Prop where
  F : Fun K x x st f fd
  b : Binds K fd ps []
  g : mg x = some (.ref f)
theorem ifT {c : Prop} {_ : Decidable c} {a b : Prop} (h : c) (x : a) : if c then a else b := by rw [if_pos h]; exact x
theorem ifF {c : Prop} {_ : Decidable c} {a b : Prop} (h : ¬ c) (x : b) : if c then a else b := by rw [if_neg h]; exact x
/-! kinds -/
section
variable {P : Program} {w : World} {K : PySem.W.Frag} {mg : Str → Option Value} {base : Heap}
theorem intTy {H : Hp} {n : Int} : TyX K H (.int n) (.type "int") := .base (.int n)
def spIsInt : Sp := fun vs H Q _ => ∃ n : Int, vs = [.int n] ∧ Q (.bl true) H
theorem scIsInt : FnScope ["thing"] ["thing"] (defScope sIsInt) := ⟨rfl, rfl, rfl, by decide +kernel, rfl, by decide +kernel, by decide +kernel⟩
theorem ok_isInt {f : Addr} {fd : FuncData} (F : Fun K "is_integer" "is_integer" sIsInt f fd) (N : NamT mg) : FnOk P w K mg base CX0 1 f fd ["thing"] spIsInt := by
  refine F.ok scIsInt (fun vs H Q E h => ?_) (fun cdv A outer s H vs Q E hr h => ?_)
  · obtain ⟨n, rfl, _⟩ := h
    rfl
  · obtain ⟨n, rfl, k⟩ := h
    refine ⟨_, pss_one (ps_ret (pe_and (pe_callB call_isi (by rfl) N.is.inst (by decide +kernel) (pa_cons (pv 0) (pa_cons (pe_bltn (v := .ty "int") (by rfl) N.int (by decide +kernel) rfl) pa_nil))) (pe_one (pe_not (pe_callB call_isi (by rfl) N.is.inst (by decide +kernel) (pa_cons (pv 0) (pa_cons (pe_bltn (v := .ty "bool") (by rfl) N.is.bool (by decide +kernel) rfl) pa_nil))))))), ?_⟩
    refine ⟨_, rfl, _, .ty "int", _, _, true, rfl, .ty _, intTy, kit_ty (by decide +kernel), true, rfl, ?_⟩
    refine ifT rfl ?_
    exact ⟨_, rfl, _, .ty "bool", _, _, false, rfl, .ty _, intTy, kit_ty (by decide +kernel), false, rfl, k⟩
def spIsBtw : Sp := fun vs H Q _ => ∃ n a b : Int, vs = [.int n, .int a, .int b] ∧ Q (.bl (decide (a ≤ n ∧ n ≤ b))) H
theorem scIsBtw : FnScope ["thing", "least", "most"] ["thing", "least", "most"] (defScope sIsBtw) := ⟨rfl, rfl, rfl, by decide +kernel, rfl, by decide +kernel, by decide +kernel⟩
theorem ok_isBtw {f fI : Addr} {fd fdI : FuncData} (F : Fun K "is_between" "is_between" sIsBtw f fd) (N : NamT mg) (DI : DefAt K mg "is_integer" sIsInt ["thing"] fI fdI) : FnOk P w K mg base CX0 2 f fd ["thing", "least", "most"] spIsBtw := by
  have GI : FnOk P w K mg base CX0 1 fI fdI ["thing"] spIsInt := ok_isInt DI.F N
  refine F.ok scIsBtw (fun vs H Q E h => ?_) (fun cdv A outer s H vs Q E hr h => ?_)
  · obtain ⟨n, a, b, rfl, _⟩ := h
    rfl
  · obtain ⟨n, a, b, rfl, k⟩ := h
    refine ⟨_, pss_one (ps_ret (pe_and (pe_call GI hr (by rfl) DI.g DI.F.kp DI.b .nil pass0 (pa_cons (pv 0) pa_nil)) (pe_one (pe_chain op_le op_le (pv 1) (pv 0) (pv 2))))), ?_⟩
    refine ⟨_, rfl, n, rfl, true, rfl, ?_⟩
    refine ifT rfl ?_
    refine ⟨_, rfl, _, rfl, _, _, rfl, rfl, _, rfl, ?_⟩
    by_cases h1 : a ≤ n
    · refine ifT (decide_eq_true h1) ?_
      refine ⟨_, rfl, _, _, rfl, rfl, ?_⟩
      rw [show decide (a ≤ n ∧ n ≤ b) = decide (n ≤ b) from by simp [h1]] at k
      exact k
    · refine ifF (by rw [decide_eq_false h1]; exact Bool.false_ne_true) ?_
      rw [show decide (a ≤ n ∧ n ≤ b) = false from by simp [h1]] at k
      exact k
end
end Cn
namespace Cn
open PySem PySem.Spec PyProof.Rows L2 Ck
/-- the defs, as the text has them -/
structure Defs (K : PySem.W.Frag) (mg : Str → Option Value) (C : Addr) : Prop where
  N : NamT mg
  T : FoT K mg C
  mM : ∃ tm, mg "MOST_PLACES" = some (.int 60 tm)
  mN : ∃ tm, mg "MOST_NOTES" = some (.int 200 tm)
  ini : ∃ f fd, Fun K "__init__" "Forest.__init__" sInit f fd ∧ Mk K C f ∧ Binds K fd ["self", "parents", "bearing", "asking"] []
  I : ∃ f fd, DefAt K mg "is_integer" sIsInt ["thing"] f fd
  B : ∃ f fd, DefAt K mg "is_between" sIsBtw ["thing", "least", "most"] f fd
  L : ∃ f fd, DefAt K mg "is_lot" sIsLot ["thing"] f fd
  O : ∃ f fd, DefAt K mg "_is_lot_of_places" sLotOf ["thing", "many"] f fd
  Pl : ∃ f fd, DefAt K mg "is_place" sIsPlace ["forest", "thing"] f fd
  W : ∃ f fd, DefAt K mg "way" sWay ["forest", "place"] f fd
  pl : ∃ f fd, DefAt K mg "is_plan" sIsPlan ["forest", "thing"] f fd
  cu : ∃ f fd, DefAt K mg "_is_cuts" sIsCuts ["forest", "thing"] f fd
  lv : ∃ f fd, DefAt K mg "_level" sLevel ["forest", "cuts", "place"] f fd
  po : ∃ f fd, DefAt K mg "plan_of" sPlanOf ["forest", "cuts"] f fd
  ss : ∃ f fd, DefAt K mg "_stacks" sStacks ["forest", "plan"] f fd
  st : ∃ f fd, DefAt K mg "stack" sStack ["forest", "plan", "place"] f fd
  na : ∃ f fd, DefAt K mg "_note_at" sNoteAt ["forest", "found", "place"] f fd
  nbp : ∃ f fd, DefAt K mg "notes_by_place" sByPlace ["forest", "plan"] f fd
  no : ∃ f fd, DefAt K mg "notes_of" sNotesOf ["forest", "plan"] f fd
  ha : ∃ f fd, DefAt K mg "_law_hand" sHand ["_law_script"] f fd
  dr : ∃ f fd, DefAt K mg "_law_draw" sDraw ["_law_hand_here", "_law_many"] f fd
  is : ∃ f fd, DefAt K mg "_law_is" sIs ["_law_told_here", "_law_due"] f fd
  pa : ∃ f fd, DefAt K mg "_law_parents" sParents ["_law_hand_here", "_law_places"] f fd
  lo : ∃ f fd, DefAt K mg "_law_lot" sLawLot ["_law_hand_here", "_law_places", "_law_share"] f fd
  to : ∃ f fd, DefAt K mg "_law_told" sTold ["_law_hand_here", "_law_most"] f fd
  ma : ∃ f fd, DefAt K mg "_law_made" sMade ["_law_told_here"] f fd
  ro : ∃ f fd, DefAt K mg "_law_road" sRoad ["_law_parents_here", "_law_place"] f fd
  un : ∃ f fd, DefAt K mg "under" sUnder ["forest", "place"] f fd
  pr : ∃ f fd, DefAt K mg "pairs" sPairs ["forest"] f fd
  isn : ∃ f fd, DefAt K mg "is_notes" sIsNotes ["forest", "thing"] f fd
  ion : ∃ f fd, DefAt K mg "_is_note" sIsNote ["served", "thing"] f fd
  cn : ∃ f fd, DefAt K mg "_counted" sCounted ["forest", "notes"] f fd
  lk0 : ∃ f fd, DefAt K mg "_lacking" sLacking0 ["forest", "notes"] f fd
  tw0 : ∃ f fd, DefAt K mg "_twice" sTwice0 ["forest", "notes"] f fd
  kp : ∃ f fd, DefAt K mg "is_keeper" sIsKeeper ["forest", "thing"] f fd
  sg : ∃ f fd, DefAt K mg "is_single" sIsSingle ["forest", "thing"] f fd
  mx : ∃ f fd, DefAt K mg "_law_mixed" sMixed ["_law_hand_here", "_law_things"] f fd
  io : ∃ f fd, DefAt K mg "_law_is_over" sIsOver ["_law_parents_here", "_law_one", "_law_other"] f fd
  cut : ∃ f fd, DefAt K mg "_law_cut" sCut ["_law_parents_here", "_law_piece", "_law_place"] f fd
  ctg : ∃ f fd, DefAt K mg "_law_cutting" sCutting ["_law_told_here", "_law_cuts"] f fd
  fo : ∃ f fd, DefAt K mg "_law_first_ones" sFirsts ["_law_parents_here", "_law_cuts", "_law_place"] f fd
  al : ∃ f fd, DefAt K mg "_law_alike" sAlike ["_law_hand_here", "_law_parents_here", "_law_cuts"] f fd
  od : ∃ f fd, DefAt K mg "_law_order" sOrder ["_law_hand_here", "_law_places"] f fd
end Cn
namespace Cn
open PySem PySem.Spec PyProof.Rows L2 Ck
/-! readings that leave all as it is, apart from new things -/
theorem cutDrop (xs : List V) (n : Nat) : cutV xs (some (n : Int)) none = xs.drop n := by
  unfold cutV
  rw [HT.sIx_none, HT.sIx_nat]
  by_cases h : n ≤ xs.length
  · rw [Nat.min_eq_left h]
    exact List.take_of_length_le (by rw [List.length_drop]; omega)
  · rw [Nat.min_eq_right (by omega), Nat.sub_self, List.take_zero, List.drop_of_length_le (by omega)]
theorem cutWhole {xs : List V} {lo hi : Option Int} (h : HT.sIx xs.length 0 lo = 0 ∧ HT.sIx xs.length xs.length hi = xs.length) : cutV xs lo hi = xs := by
  unfold cutV
  rw [h.1, h.2, List.drop_zero, Nat.sub_zero, List.take_length]
theorem slA {K : PySem.W.Frag} {H : Hp} {a : Addr} {xs : List V} {lo hi : Option Int} {Q : VK} (ha : H a = some (.tup xs)) (k : ∀ b H', Same H H' → H' b = some (.tup (cutV xs lo hi)) → Q (.ref b) H') : rSlA K (.ref a) lo hi H Q := by
  refine ⟨a, xs, rfl, .inl (.inl ha), fun h => k a H (Same.refl _) (by rw [cutWhole h]; exact ha), fun _ p np => k p _ (smUpd np) upd_same⟩
theorem slN {K : PySem.W.Frag} {σ : L2.St} {H : Hp} {a : Addr} {xs : List V} {lo : Option Int} {Q : VK} (ha : H a = some (.tup xs)) (k : ∀ b H', Same H H' → H' b = some (.tup (cutV xs lo none)) → Q (.ref b) H') : tNoPart σ H (fun u H3 => rSlA K (.ref a) lo u H3 Q) := slA (hi := none) ha k
theorem catA {K : PySem.W.Frag} {H : Hp} {a b : Addr} {xs ys : List V} {Q : VK} (ha : H a = some (.tup xs)) (hb : H b = some (.tup ys)) (hl : xs.length + ys.length ≤ 1000) (k : ∀ c H', Same H H' → H' c = some (.tup (xs ++ ys)) → Q (.ref c) H') : rCatA K (.ref a) (.ref b) H Q := by
  refine ⟨a, b, xs, ys, rfl, rfl, .inl (.inl ha), .inl (.inl hb), Nat.le_of_lt (small1000 hl), fun h => ?_, fun _ h => ?_, fun _ _ p np => k p _ (smUpd np) upd_same⟩
  · subst h
    exact k b H (Same.refl _) hb
  · subst h
    exact k a H (Same.refl _) (by rw [List.append_nil]; exact ha)
theorem walk_zipT {K : PySem.W.Frag} {a b : Addr} {xs ys : List V} {n : Nat} (hn : n = min xs.length ys.length) : Walk (RZ.ItzT K a b) n (fun H => SqT K H a xs ∧ SqT K H b ys) (YPair (fun i => xs[i]?) (fun i => ys[i]?)) := by
  subst hn
  refine ⟨fun i _ hi q => ?_, fun _ q => ⟨xs, ys, q.1, q.2, by omega⟩, fun i H v H' _ q y => ?_⟩
  · have h1 : i < xs.length := by omega
    have h2 : i < ys.length := by omega
    exact ⟨xs, ys, xs[i], ys[i], q.1, q.2, by simp [h1], by simp [h2]⟩
  · obtain ⟨T, x, z, h1, h2, h3, h4, h5⟩ := y
    exact ⟨T, x, z, h1, h2, h3, h4 xs q.1, h5 ys q.2⟩
section
variable {P : Program} {w : World} {K : PySem.W.Frag} {mg : Str → Option Value} {base : Heap}
theorem tupTy {H : Hp} {a : Addr} {xs : List V} (h : H a = some (.tup xs)) : TyX K H (.ref a) (.type "tuple") := .base (.tup h)
def spIsLot : Sp := fun vs H Q _ => ∃ (a : Addr) (ns : List Nat), vs = [.ref a] ∧ TN H a ns ∧ ns.Pairwise (· < ·) ∧ ns.length ≤ 1000 ∧ ∀ H', Same H H' → Q (.bl true) H'
def nLot : List Str := ["thing", "item", "one", "following"]
theorem scIsLot : FnScope nLot ["thing"] (defScope sIsLot) := ⟨rfl, rfl, rfl, by decide +kernel, rfl, by decide +kernel, by decide +kernel⟩
theorem ok_isLot {f fI : Addr} {fd fdI : FuncData} (F : Fun K "is_lot" "is_lot" sIsLot f fd) (N : NamT mg) (DI : DefAt K mg "is_integer" sIsInt ["thing"] fI fdI) : FnOk P w K mg base CX0 2 f fd ["thing"] spIsLot := by
  have GI : FnOk P w K mg base CX0 1 fI fdI ["thing"] spIsInt := ok_isInt DI.F N
  refine F.ok scIsLot (fun vs H Q E h => ?_) (fun cdv A outer s H vs Q E hr h => ?_)
  · obtain ⟨a, ns, rfl, _⟩ := h
    rfl
  · obtain ⟨a, ns, rfl, ha, hp, hl, k⟩ := h
    refine ⟨_, pss_cons (ps_if (pt_not (pt_val (pe_callB call_isi (by rfl) N.is.inst (by decide +kernel) (pa_cons (pv 0) (pa_cons (pe_bltn (v := .ty "tuple") (by rfl) N.is.tup (by decide +kernel) rfl) pa_nil))))) (pss_one ps_never) pss_nil)
      (pss_cons (ps_for PassesOwn.never rfl (pi_tup (pv 0)) (pg_name (i := 1) scIsLot.nd rfl (Or.inl rfl)) (pss_one (ps_if (pt_not (pt_val (pe_call GI hr (by rfl) DI.g DI.F.kp DI.b .nil pass0 (pa_cons (pv 1) pa_nil)))) (pss_one ps_never) pss_nil)))
      (pss_cons (ps_for PassesOwn.never rfl (RZ.pi_zipA (by rfl) N.is.zip (pa_cons (pv 0) (pa_cons (pe_slice sl_tupA (pv 0) (po_some pe_int) po_none) pa_nil))) (pg_tup rfl (pgs_cons (pg_name (i := 2) scIsLot.nd rfl (Or.inl rfl)) (pgs_cons (pg_name (i := 3) scIsLot.nd rfl (Or.inl rfl)) pgs_nil)))
        (pss_one (ps_if (pt_cmpR op_ge (pv 2) (pv 3) (nomark _)) (pss_one ps_never) pss_nil)))
      (pss_one (ps_ret pe_bl)))), ?_⟩
    refine ⟨_, rfl, _, .ty "tuple", _, _, true, rfl, .ty _, tupTy ha, kit_ty (by decide +kernel), true, rfl, ?_⟩
    refine ifF (by decide) ?_
    refine ⟨_, rfl, a, rfl, ⟨_, tnL ha⟩, ?_⟩
    refine for_it (walk_tup (xs := ns.map vn)) (fun _ σ H' => H' = H ∧ ∃ t1, σ = [some (.ref a), t1, none, none]) ⟨rfl, _, rfl⟩ (fun i σ H' _ z => by rw [z.1]; exact tnL ha) ?_ ?_
    · rintro i x σ H' H2 hi ⟨rfl, t1, rfl⟩ ⟨rfl, hx⟩
      rw [List.getElem?_map] at hx
      obtain ⟨n, _, rfl⟩ := Option.map_eq_some_iff.mp hx
      refine ⟨_, rfl, (n : Int), rfl, true, rfl, ?_⟩
      refine ifF (by decide) ?_
      exact ⟨rfl, _, rfl⟩
    · rintro σ H' ⟨rfl, t1, rfl⟩
      refine ⟨_, rfl, _, rfl, 1, rfl, ?_⟩
      refine slN ha fun b H1 s1 hb => ?_
      rw [show (some (1 : Int)) = some ((1 : Nat) : Int) from rfl, cutDrop] at hb
      have ha1 : TN H1 a ns := s1 _ _ ha
      refine ⟨a, b, ns.map vn, (ns.map vn).drop 1, rfl, .inr ⟨tnL ha1, .inl (.inl hb), ?_⟩⟩
      refine for_it (walk_zipT (xs := ns.map vn) (ys := (ns.map vn).drop 1) rfl) (fun _ σ H' => Same H1 H' ∧ ∃ t1 t2 t3, σ = [some (.ref a), t1, t2, t3]) ⟨Same.refl _, _, _, _, rfl⟩ (fun i σ H' _ z => ⟨tnL (z.1 _ _ ha1), .inl (.inl (z.1 _ _ hb))⟩) ?_ ?_
      · rintro i x σ H' H2 hi ⟨sm, t1, t2, t3, rfl⟩ ⟨T, x1, y1, rfl, nT, rfl, e1, e2⟩
        obtain ⟨n, hn, rfl⟩ := vn_get (i := i) e1
        have e2 : ((ns.map vn).drop 1)[i]? = some y1 := e2
        rw [List.getElem?_drop] at e2
        obtain ⟨m, hm, rfl⟩ := vn_get e2
        refine ⟨T, _, rfl, .inl (.inl upd_same), rfl, _, _, rfl, _, _, rfl, rfl, ?_⟩
        refine ⟨_, rfl, _, rfl, _, _, rfl, rfl, _, rfl, ?_⟩
        obtain ⟨q1, q2⟩ := List.getElem?_eq_some_iff.mp hn
        obtain ⟨q3, q4⟩ := List.getElem?_eq_some_iff.mp hm
        have := List.pairwise_iff_getElem.mp hp i (1 + i) q1 q3 (by omega)
        rw [q2, q4] at this
        refine ifF (by rw [decide_eq_true_iff]; show ¬ ((m : Int) ≤ (n : Int)); omega) ?_
        exact ⟨sm.trans (smUpd nT), _, _, _, rfl⟩
      · rintro σ H' ⟨sm, _⟩
        exact k _ (s1.trans sm)
end
end Cn
namespace Cn
open PySem PySem.Spec PyProof.Rows L2 Ck
theorem vn_last {ns : List Nat} {n : Nat} (h : ns ≠ []) (hn : ns.getLast h = n) : atI (ns.map vn) (-1) = some (vn n) := by
  rw [← hn, show ns.map vn = ns.dropLast.map vn ++ [vn (ns.getLast h)] from by rw [← List.map_singleton (f := vn), ← List.map_append, List.dropLast_concat_getLast]]
  exact atI_last _ _
theorem vp_ne {m : Nat} : decide (vp (some m) = V.non) = false := decide_eq_false fun z => nomatch (show vn m = V.non from z)
section
variable {P : Program} {w : World} {K : PySem.W.Frag} {mg : Str → Option Value} {base : Heap} {C : Addr}
def spLotOf : Sp := fun vs H Q _ => ∃ (a : Addr) (ns : List Nat) (n : Nat), vs = [.ref a, vn n] ∧ TN H a ns ∧ ns.Pairwise (· < ·) ∧ (∀ x ∈ ns, x < n) ∧ ns.length ≤ 1000 ∧ ∀ H', Same H H' → Q (.bl true) H'
theorem scLotOf : FnScope ["thing", "many"] ["thing", "many"] (defScope sLotOf) := ⟨rfl, rfl, rfl, by decide +kernel, rfl, by decide +kernel, by decide +kernel⟩
theorem ok_lotOf {f fI fL : Addr} {fd fdI fdL : FuncData} (F : Fun K "_is_lot_of_places" "_is_lot_of_places" sLotOf f fd) (N : NamT mg) (DI : DefAt K mg "is_integer" sIsInt ["thing"] fI fdI) (DL : DefAt K mg "is_lot" sIsLot ["thing"] fL fdL) : FnOk P w K mg base CX0 3 f fd ["thing", "many"] spLotOf := by
  have GL : FnOk P w K mg base CX0 2 fL fdL ["thing"] spIsLot := ok_isLot DL.F N DI
  refine F.ok scLotOf (fun vs H Q E h => ?_) (fun cdv A outer s H vs Q E hr h => ?_)
  · obtain ⟨a, ns, n, rfl, _⟩ := h
    rfl
  · obtain ⟨a, ns, n, rfl, ha, hp, hx, hl, k⟩ := h
    refine ⟨_, pss_one (ps_ret (pe_and (pe_call GL hr (by rfl) DL.g DL.F.kp DL.b .nil pass0 (pa_cons (pv 0) pa_nil)) (pe_one (pe_or (pe_notT (pv 0)) (pe_one (pe_and (pe_cmpR op_le pe_int (pe_ix ix_tup (pv 0) pe_int (fun _ _ => rfl)) (nomark _)) (pe_one (pe_cmpR op_lt (pe_ix ix_tup (pv 0) (pe_un un_neg pe_int) (fun _ _ => rfl)) (pv 1) (nomark _))))))))), ?_⟩
    refine ⟨_, rfl, a, ns, rfl, ha, hp, hl, fun H1 s1 => ⟨true, rfl, ?_⟩⟩
    refine ifT rfl ?_
    have ha1 : TN H1 a ns := s1 _ _ ha
    refine ⟨_, rfl, _, .inr (.inl ⟨_, tnL ha1, rfl⟩), _, rfl, ?_⟩
    by_cases hne : ns = []
    · refine ifT (by rw [hne]; rfl) ?_
      exact k H1 s1
    · obtain ⟨m, h0⟩ : ∃ m, ns[0]? = some m := ⟨_, List.getElem?_eq_getElem (List.length_pos_iff.mpr hne)⟩
      have hem : (ns.map vn).isEmpty = false := by
        cases ns with
        | nil => exact absurd rfl hne
        | cons _ _ => rfl
      refine ifF (by rw [hem]; decide) ?_
      refine ⟨_, rfl, a, _, (0 : Int), _, rfl, rfl, tnL ha1, vn_ix (i := 0) h0, _, _, rfl, rfl, _, rfl, ?_⟩
      refine ifT (by rw [decide_eq_true_iff]; show (0 : Int) ≤ ((m : Nat) : Int); omega) ?_
      have hg := hx _ (List.getLast_mem hne)
      have el := vn_last hne rfl
      refine ⟨_, rfl, _, rfl, a, _, _, _, rfl, rfl, tnL ha1, el, _, rfl, _, _, rfl, rfl, ?_⟩
      have hlt : (((ns.getLast hne : Nat) : Int)) < (n : Int) := by omega
      show Q (V.bl (decide ((((ns.getLast hne : Nat) : Int)) < (n : Int)))) H1
      rw [decide_eq_true hlt]
      exact k H1 s1
/-! Forest(parents, bearing, asking) -/
def spInit (C : Addr) : Sp := fun vs H Q _ => ∃ (p dx ap ab aa : Addr) (f : Fo), vs = [.ref p, .ref ap, .ref ab, .ref aa] ∧ H p = some (.ins C dx []) ∧ TP H ap f.ps ∧ TN H ab f.be ∧ TN H aa f.as ∧ FoOk f ∧
  ∀ H', FoAt C H' p f → (∀ b o, b ≠ p → H b = some o → H' b = some o) → Q .non H'
def nInit : List Str := ["self", "parents", "bearing", "asking", "place", "parent"]
theorem scInit : FnScope nInit ["self", "parents", "bearing", "asking"] (defScope sInit) := ⟨rfl, rfl, rfl, by decide +kernel, rfl, by decide +kernel, by decide +kernel⟩
theorem put3 {ap ab aa : Addr} : putF "asking" (.ref aa) (putF "bearing" (.ref ab) (putF "parents" (.ref ap) [])) = fields3 ap ab aa := rfl
theorem lotLen {ns : List Nat} {n : Nat} (hp : ns.Pairwise (· < ·)) (hx : ∀ x ∈ ns, x < n) : ns.length ≤ n := by
  have h : ∀ (k : Nat) (xs : List Nat), xs.Pairwise (· < ·) → (∀ x ∈ xs, k ≤ x ∧ x < n) → k ≤ n → xs.length + k ≤ n := by
    intro k xs
    induction xs generalizing k with
    | nil => intro _ _ h; rw [List.length_nil]; omega
    | cons y ys ih =>
      intro p q hk
      have hy := q y List.mem_cons_self
      have := ih (y + 1) (List.pairwise_cons.mp p).2 (fun x hx => ⟨(List.pairwise_cons.mp p).1 x hx, (q x (List.mem_cons_of_mem _ hx)).2⟩) hy.2
      rw [List.length_cons]
      omega
  have := h 0 ns hp (fun x hx' => ⟨Nat.zero_le _, hx x hx'⟩) (Nat.zero_le _)
  omega
theorem ok_init {f fI fL fB fO : Addr} {fd fdI fdL fdB fdO : FuncData} {tm : Tok} (F : Fun K "__init__" "Forest.__init__" sInit f fd) (N : NamT mg) (T : FoT K mg C) (mM : mg "MOST_PLACES" = some (.int 60 tm)) (DI : DefAt K mg "is_integer" sIsInt ["thing"] fI fdI) (DL : DefAt K mg "is_lot" sIsLot ["thing"] fL fdL)
    (DB : DefAt K mg "is_between" sIsBtw ["thing", "least", "most"] fB fdB) (DO : DefAt K mg "_is_lot_of_places" sLotOf ["thing", "many"] fO fdO) : FnOk P w K mg base CX0 4 f fd ["self", "parents", "bearing", "asking"] (spInit C) := by
  have GB : FnOk P w K mg base CX0 2 fB fdB ["thing", "least", "most"] spIsBtw := ok_isBtw DB.F N DI
  have GO : FnOk P w K mg base CX0 3 fO fdO ["thing", "many"] spLotOf := ok_lotOf DO.F N DI DL
  refine F.ok scInit (fun vs H Q E h => ?_) (fun cdv A outer s H vs Q E hr h => ?_)
  · obtain ⟨p, dx, ap, ab, aa, f, rfl, _⟩ := h
    rfl
  · obtain ⟨p, dx, ap, ab, aa, fo, rfl, hp, h1, h2, h3, ok, k⟩ := h
    have hr2 : Room 2 (A.deeper (envOfC "Forest.__init__" (defScope sInit) s.heap.objs.size f cdv)) := Room.mono hr (by decide)
    refine ⟨_, pss_cons (ps_if (PW.pt (pw_or (pt_not (pt_val (pe_callB call_isi (by rfl) N.is.inst (by decide +kernel) (pa_cons (pv 1) (pa_cons (pe_bltn (v := .ty "tuple") (by rfl) N.is.tup (by decide +kernel) rfl) pa_nil)))))
          (pw_or1 (pt_not (pt_chain op_le op_le pe_int (pe_callB call_len_seq (by rfl) N.is.len PySem.boot_len (pa_cons (pv 1) pa_nil)) (pe_glob (v := .int 60) (by rfl) mM ⟨_, rfl⟩)))))) (pss_one ps_never) pss_nil)
      (pss_cons (ps_for PassesOwn.never rfl (pi_enumT (by rfl) N.enum (pa_cons (pv 1) pa_nil)) (pg_tup rfl (pgs_cons (pg_name (i := 4) scInit.nd rfl (Or.inl rfl)) (pgs_cons (pg_name (i := 5) scInit.nd rfl (Or.inl rfl)) pgs_nil)))
        (pss_one (ps_if (PW.pt (pw_and (pt_cmpR op_notN (pv 5) pe_non (nomark _)) (pw_and1 (pt_not (pt_val (pe_call GB hr2 (by rfl) DB.g DB.F.kp DB.b .nil pass0 (pa_cons (pv 5) (pa_cons pe_int (pa_cons (pe_op op_sub (pv 4) pe_int) pa_nil))))))))) (pss_one ps_never) pss_nil)))
      (pss_cons (ps_if (pt_not (pt_val (pe_call GO hr (by rfl) DO.g DO.F.kp DO.b .nil pass0 (pa_cons (pv 2) (pa_cons (pe_callB call_len_seq (by rfl) N.is.len PySem.boot_len (pa_cons (pv 1) pa_nil)) pa_nil))))) (pss_one ps_never) pss_nil)
      (pss_cons (ps_if (pt_not (pt_val (pe_call GO hr (by rfl) DO.g DO.F.kp DO.b .nil pass0 (pa_cons (pv 3) (pa_cons (pe_callB call_len_seq (by rfl) N.is.len PySem.boot_len (pa_cons (pv 1) pa_nil)) pa_nil))))) (pss_one ps_never) pss_nil)
      (pss_cons (ps_fld (pv 0) (pv 1) rfl) (pss_cons (ps_fld (pv 0) (pv 2) rfl) (pss_one (ps_fld (pv 0) (pv 3) rfl))))))), ?_⟩
    have l1 : ((fo.ps.map vp).length : Int) ≤ 60 := by have := ok.l1; rw [List.length_map]; omega
    have l0 : (1 : Int) ≤ ((fo.ps.map vp).length : Int) := by have := ok.l0; rw [List.length_map]; omega
    refine ⟨_, rfl, _, .ty "tuple", _, _, true, rfl, .ty _, tupTy h1, kit_ty (by decide +kernel), true, rfl, ?_⟩
    refine ifF (by decide) ?_
    refine ⟨_, rfl, ap, _, rfl, .inr (tpL h1), _, _, rfl, rfl, _, rfl, ?_⟩
    refine ifT (decide_eq_true l0) ?_
    refine ⟨_, _, rfl, rfl, _, rfl, ?_⟩
    refine ifF (by rw [decide_eq_true l1]; decide) ?_
    refine ⟨_, rfl, ap, _, rfl, tpL h1, ?_⟩
    refine for_it (walk_enumT (xs := fo.ps.map vp)) (fun _ σ H' => Same H H' ∧ ∃ t4 t5, σ = [some (.ref p), some (.ref ap), some (.ref ab), some (.ref aa), t4, t5]) ⟨Same.refl _, _, _, rfl⟩ (fun i σ H' _ z => tpL (z.1 _ _ h1)) ?_ ?_
    · rintro i x σ H' H2 hi ⟨sm, t4, t5, rfl⟩ ⟨T, x1, y1, rfl, nT, rfl, e1, e2⟩
      cases e1
      obtain ⟨q, hq, rfl⟩ := vp_get (i := i) e2
      refine ⟨T, _, rfl, .inl (.inl upd_same), rfl, _, _, rfl, _, _, rfl, rfl, ?_⟩
      cases q with
      | none =>
        refine ⟨_, rfl, rfl, _, rfl, ?_⟩
        refine ifF (by decide) ?_
        exact ⟨sm.trans (smUpd nT), _, _, rfl⟩
      | some m =>
        refine ⟨_, rfl, rfl, _, rfl, ?_⟩
        refine ifT (by rw [vp_ne]; rfl) ?_
        refine ⟨_, rfl, _, rfl, _, _, rfl, rfl, (m : Int), 0, (i : Int) - 1, rfl, _, rfl, ?_⟩
        have := ok.ps i m hq
        refine ifF (by rw [decide_eq_true (by omega)]; decide) ?_
        exact ⟨sm.trans (smUpd nT), _, _, rfl⟩
    · rintro σ H' ⟨sm, t4, t5, rfl⟩
      refine ⟨_, rfl, _, rfl, ap, _, rfl, .inr (tpL (sm _ _ h1)), ab, fo.be, fo.ps.length, by rw [List.length_map]; rfl, sm _ _ h2, ok.be, ok.bl, Nat.le_trans (lotLen ok.be ok.bl) (by have := ok.l1; omega), fun H1 s1 => ⟨true, rfl, ?_⟩⟩
      refine ifF (by decide) ?_
      refine ⟨_, rfl, _, rfl, ap, _, rfl, .inr (tpL (s1 _ _ (sm _ _ h1))), aa, fo.as, fo.ps.length, by rw [List.length_map]; rfl, s1 _ _ (sm _ _ h3), ok.as, ok.al, Nat.le_trans (lotLen ok.as ok.al) (by have := ok.l1; omega), fun H3 s3 => ⟨true, rfl, ?_⟩⟩
      refine ifF (by decide) ?_
      have sm3 := (sm.trans s1).trans s3
      refine ⟨_, rfl, _, rfl, p, C, dx, [], rfl, sm3 _ _ hp, T.cl, T.nP, (by show 0 < 1000; decide), ?_⟩
      refine ⟨_, rfl, _, rfl, p, C, dx, _, rfl, upd_same, T.cl, T.nB, (by show 1 < 1000; decide), ?_⟩
      refine ⟨_, rfl, _, rfl, p, C, dx, _, rfl, upd_same, T.cl, T.nA, (by show 2 < 1000; decide), ?_⟩
      have kp : ∀ b o, b ≠ p → H b = some o → (upd (upd (upd H3 p (.ins C dx (putF "parents" (.ref ap) []))) p (.ins C dx (putF "bearing" (.ref ab) (putF "parents" (.ref ap) [])))) p (.ins C dx (fields3 ap ab aa))) b = some o := fun b o ne e => by
        rw [upd_ne ne, upd_ne ne, upd_ne ne]
        exact sm3 _ _ e
      have nt : ∀ {a : Addr} {xs : List V}, H a = some (.tup xs) → a ≠ p := fun {a xs} e z => by rw [z, hp] at e; cases e
      exact k _ ⟨dx, ap, ab, aa, upd_same, kp _ _ (nt h1) h1, kp _ _ (nt h2) h2, kp _ _ (nt h3) h3⟩ kp
end
end Cn
namespace Cn
open PySem PySem.Spec PyProof.Rows L2 Ck
section
variable {P : Program} {w : World} {K : PySem.W.Frag} {mg : Str → Option Value} {base : Heap} {C : Addr}
/-- a def at its level -/
def Def (P : Program) (w : World) (K : PySem.W.Frag) (mg : Str → Option Value) (base : Heap) (x : Str) (k : Nat) (ps : List Str) (sp : Sp) : Prop :=
  ∃ f fd, FnOk P w K mg base CX0 k f fd ps sp ∧ mg x = some (.ref f) ∧ PySem.W.keepIn K (.ref f) = true ∧ Binds K fd ps []
theorem def_of {x : Str} {st : Stmt} {ps : List Str} {k : Nat} {sp : Sp} (h : ∃ f fd, DefAt K mg x st ps f fd) (g : ∀ f fd, Fun K x x st f fd → FnOk P w K mg base CX0 k f fd ps sp) : Def P w K mg base x k ps sp := by
  obtain ⟨f, fd, D⟩ := h
  exact ⟨f, fd, g f fd D.F, D.g, D.F.kp, D.b⟩
theorem dBtw (B : Defs K mg C) : Def P w K mg base "is_between" 2 ["thing", "least", "most"] spIsBtw := by
  obtain ⟨fI, fdI, DI⟩ := B.I
  exact def_of B.B fun f fd F => ok_isBtw F B.N DI
/-! is_place -/
def spPlace (C : Addr) : Sp := fun vs H Q _ => ∃ (a : Addr) (f : Fo) (i : Nat), vs = [.ref a, vn i] ∧ FoAt C H a f ∧ i < f.ps.length ∧ Q (.bl true) H
theorem scIsPlace : FnScope ["forest", "thing"] ["forest", "thing"] (defScope sIsPlace) := ⟨rfl, rfl, rfl, by decide +kernel, rfl, by decide +kernel, by decide +kernel⟩
theorem dPlace (B : Defs K mg C) : Def P w K mg base "is_place" 3 ["forest", "thing"] (spPlace C) := by
  obtain ⟨fB, fdB, GB, gB, kB, bB⟩ := dBtw (P := P) (w := w) (base := base) B
  refine def_of B.Pl fun f fd F => ?_
  refine F.ok scIsPlace (fun vs H Q E h => ?_) (fun cdv A outer s H vs Q E hr h => ?_)
  · obtain ⟨a, f, i, rfl, _⟩ := h
    rfl
  · obtain ⟨a, fo, i, rfl, ⟨dx, ap, ab, aa, h0, h1, h2, h3⟩, hi, k⟩ := h
    refine ⟨_, pss_one (ps_ret (pe_call GB hr (by rfl) gB kB bB .nil pass0 (pa_cons (pv 1) (pa_cons pe_int (pa_cons (pe_op op_sub (pe_callB call_len_seq (by rfl) B.N.is.len PySem.boot_len (pa_cons (pe_fld (pv 0) rfl) pa_nil)) pe_int) pa_nil))))), ?_⟩
    refine ⟨_, rfl, _, rfl, a, C, dx, _, _, rfl, h0, B.T.cl, B.T.nP, fP, ap, _, rfl, .inr (tpL h1), _, _, rfl, rfl, (i : Int), 0, _, rfl, ?_⟩
    rw [List.length_map, decide_eq_true (by omega)]
    exact k
/-! way -/
def spWay (C : Addr) : Sp := fun vs H Q _ => ∃ (a : Addr) (f : Fo) (i : Nat), vs = [.ref a, vn i] ∧ FoAt C H a f ∧ Ps f.ps ∧ f.ps.length ≤ 60 ∧ i < f.ps.length ∧ ∀ b H', Same H H' → TDn H' b (road f.ps i) → Q (.ref b) H'
def nWay : List Str := ["forest", "place", "upward", "parent"]
theorem scWay : FnScope nWay ["forest", "place"] (defScope sWay) := ⟨rfl, rfl, rfl, by decide +kernel, rfl, by decide +kernel, by decide +kernel⟩
theorem ps_at {ps : List (Option Nat)} {i : Nat} (hi : i < ps.length) : ∃ q, ps[i]? = some q := ⟨_, List.getElem?_eq_getElem hi⟩
/-- where the walk upward stands -/
def UpAt (ps : List (Option Nat)) (i : Nat) (up : List Nat) : Option Nat → Prop
  | none => road ps i = up.reverse
  | some p => p < i ∧ road ps i = road ps p ++ up.reverse
theorem upStart {ps : List (Option Nat)} {i : Nat} {q : Option Nat} (hp : Ps ps) (h : ps[i]? = some q) : UpAt ps i [i] q := by
  cases q with
  | none => exact road_none h
  | some p => exact ⟨hp i p h, road_some hp h⟩
theorem upNext {ps : List (Option Nat)} {i p : Nat} {up : List Nat} {q : Option Nat} (hp : Ps ps) (h : UpAt ps i up (some p)) (hq : ps[p]? = some q) : UpAt ps i (up ++ [p]) q := by
  obtain ⟨hl, e⟩ := h
  cases q with
  | none =>
    show road ps i = (up ++ [p]).reverse
    rw [e, road_none hq, List.reverse_append]; rfl
  | some r =>
    refine ⟨Nat.lt_trans (hp p r hq) hl, ?_⟩
    rw [e, road_some hp hq, List.reverse_append, List.append_assoc]; rfl
def meas : L2.St → Nat := fun σ => match σ[3]? with
  | some (some (V.int n)) => n.toNat + 1
  | _ => 0
theorem dWay (B : Defs K mg C) : Def P w K mg base "way" 4 ["forest", "place"] (spWay C) := by
  obtain ⟨fB, fdB, GB, gB, kB, bB⟩ := dPlace (P := P) (w := w) (base := base) B
  refine def_of B.W fun f fd F => ?_
  refine F.ok scWay (fun vs H Q E h => ?_) (fun cdv A outer s H vs Q E hr h => ?_)
  · obtain ⟨a, f, i, rfl, _⟩ := h
    rfl
  · obtain ⟨a, fo, i, rfl, hF, hp, hl, hi, k⟩ := h
    refine ⟨_, pss_cons (ps_if (pt_not (pt_val (pe_call GB hr (by rfl) gB kB bB .nil pass0 (pa_cons (pv 0) (pa_cons (pv 1) pa_nil))))) (pss_one ps_never) pss_nil)
      (pss_cons (ps_set (i := 2) scWay.nd rfl (Or.inl rfl) (pe_lst (pa_cons (pv 1) pa_nil)))
      (pss_cons (ps_set (i := 3) scWay.nd rfl (Or.inl rfl) (pe_ix ix_tup (pe_fld (pv 0) rfl) (pv 1) (fun _ _ => rfl)))
      (pss_cons (ps_while PassesOwn.never (pt_cmpR op_notN (pv 3) pe_non (nomark _))
        (pss_cons (ps_expr (pe_bm PySem.F.plainAttrs_list PySem.F.slot_list_append PySem.F.type_list_append mt_append (pv 2) (pa_cons (pv 3) pa_nil)))
        (pss_one (ps_set (i := 3) scWay.nd rfl (Or.inl rfl) (pe_ix ix_tup (pe_fld (pv 0) rfl) (pv 3) (fun _ _ => rfl))))))
      (pss_one (ps_ret (pe_tupRevD rfl (by rfl) B.N.is.tup (by rfl) B.N.rev (pv 2))))))), ?_⟩
    refine ⟨_, rfl, _, rfl, a, fo, i, rfl, hF, hi, true, rfl, ?_⟩
    refine ifF (by decide) ?_
    obtain ⟨dx, ap, ab, aa, h0, h1, h2, h3⟩ := hF
    refine ⟨_, rfl, by show 1 ≤ sizeLine; decide, fun u nu => ?_⟩
    have S1 := smUpd (o := .lst [vn i]) nu
    obtain ⟨q, hq⟩ := ps_at hi
    refine ⟨_, rfl, a, C, dx, _, _, rfl, S1 _ _ h0, B.T.cl, B.T.nP, fP, _, rfl, ap, _, (i : Int), _, rfl, rfl, tpL (S1 _ _ h1), vp_ix hq, ?_⟩
    refine while_by (fun σ H' => ∃ (up : List Nat) (q : Option Nat), σ = [some (.ref a), some (vn i), some (.ref u), some (vp q)] ∧ Same H H' ∧ H' u = some (.lst (up.map vn)) ∧ UpAt fo.ps i up q ∧ up.length ≤ i + 1) (fun σ _ => meas σ) ⟨[i], q, rfl, S1, upd_same, upStart hp hq, by show 1 ≤ i + 1; omega⟩ ?_ ?_
    · rintro σ H' ⟨up, q, rfl, sm, hu, hup, hul⟩
      refine ⟨_, rfl, rfl, _, rfl, ?_⟩
      cases q with
      | none =>
        refine ifF (by decide) ?_
        refine ⟨_, rfl, u, _, rfl, .inl (.inl hu), fun r H2 s2 hr => ?_⟩
        rw [← List.map_reverse] at hr
        have e : road fo.ps i = up.reverse := hup
        refine k r _ (sm.trans s2) ?_
        rw [e]
        exact hr
      | some p =>
        refine ifT (by rw [vp_ne]; rfl) ?_
        obtain ⟨hpi, _⟩ := id hup
        have hpl : p < fo.ps.length := Nat.lt_trans hpi hi
        obtain ⟨r, hr⟩ := ps_at hpl
        refine ⟨_, rfl, .inl ⟨rfl, _, .inl (.inl hu)⟩, _, rfl, u, _, _, rfl, rfl, hu, ?_, ?_⟩
        · rw [List.length_map]; exact small1000 (by omega)
        have nub : ∀ b o, H b = some o → b ≠ u := fun b o e z => by rw [z, nu] at e; cases e
        have sm2 : Same H (upd H' u (.lst (up.map vn ++ [vp (some p)]))) := fun b o e => by rw [upd_ne (nub b o e)]; exact sm b o e
        refine ⟨_, rfl, a, C, dx, _, _, rfl, sm2 _ _ h0, B.T.cl, B.T.nP, fP, _, rfl, ap, _, (p : Int), _, rfl, rfl, tpL (sm2 _ _ h1), vp_ix hr, ?_⟩
        refine ⟨⟨up ++ [p], r, rfl, sm2, ?_, upNext hp hup hr, ?_⟩, ?_⟩
        · rw [upd_same, List.map_append]; rfl
        · have e := road_len hp i hi
          obtain ⟨_, e2⟩ := hup
          have := List.length_pos_iff.mpr (road_ne hp hpl)
          rw [e2, List.length_append, List.length_reverse] at e
          rw [List.length_append, List.length_singleton]
          omega
        · cases r with
          | none => show 0 < (p : Int).toNat + 1; omega
          | some r =>
            have := hp p r hr
            show (r : Int).toNat + 1 < (p : Int).toNat + 1
            omega
    · rintro σ H' Q1 Q2 hq12 ⟨v, hv, e, kk, hk, qq⟩
      exact ⟨v, hv, e, kk, hk, hq12 _ _ qq⟩
end
end Cn
namespace Cn
open PySem PySem.Spec PyProof.Rows L2 Ck
/-! way, as a plain new tuple -/
section
variable {P : Program} {w : World} {K : PySem.W.Frag} {mg : Str → Option Value} {base : Heap} {C : Addr}
def spWayN (C : Addr) : Sp := fun vs H Q _ => ∃ (a : Addr) (f : Fo) (i : Nat), vs = [.ref a, vn i] ∧ FoAt C H a f ∧ Ps f.ps ∧ f.ps.length ≤ 60 ∧ i < f.ps.length ∧ ∀ b H', Same H H' → TN H' b (road f.ps i) → Q (.ref b) H'
theorem dWayN (B : Defs K mg C) : Def P w K mg base "way" 4 ["forest", "place"] (spWayN C) := by
  obtain ⟨fB, fdB, GB, gB, kB, bB⟩ := dPlace (P := P) (w := w) (base := base) B
  refine def_of B.W fun f fd F => ?_
  refine F.ok scWay (fun vs H Q E h => ?_) (fun cdv A outer s H vs Q E hr h => ?_)
  · obtain ⟨a, f, i, rfl, _⟩ := h
    rfl
  · obtain ⟨a, fo, i, rfl, hF, hp, hl, hi, k⟩ := h
    refine ⟨_, pss_cons (ps_if (pt_not (pt_val (pe_call GB hr (by rfl) gB kB bB .nil pass0 (pa_cons (pv 0) (pa_cons (pv 1) pa_nil))))) (pss_one ps_never) pss_nil)
      (pss_cons (ps_set (i := 2) scWay.nd rfl (Or.inl rfl) (pe_lst (pa_cons (pv 1) pa_nil)))
      (pss_cons (ps_set (i := 3) scWay.nd rfl (Or.inl rfl) (pe_ix ix_tup (pe_fld (pv 0) rfl) (pv 1) (fun _ _ => rfl)))
      (pss_cons (ps_while PassesOwn.never (pt_cmpR op_notN (pv 3) pe_non (nomark _))
        (pss_cons (ps_expr (pe_bm PySem.F.plainAttrs_list PySem.F.slot_list_append PySem.F.type_list_append mt_append (pv 2) (pa_cons (pv 3) pa_nil)))
        (pss_one (ps_set (i := 3) scWay.nd rfl (Or.inl rfl) (pe_ix ix_tup (pe_fld (pv 0) rfl) (pv 3) (fun _ _ => rfl))))))
      (pss_one (ps_ret (RT.pe_tupRev rfl (by rfl) B.N.is.tup (by rfl) B.N.rev (pv 2))))))), ?_⟩
    refine ⟨_, rfl, _, rfl, a, fo, i, rfl, hF, hi, true, rfl, ?_⟩
    refine ifF (by decide) ?_
    obtain ⟨dx, ap, ab, aa, h0, h1, h2, h3⟩ := hF
    refine ⟨_, rfl, by show 1 ≤ sizeLine; decide, fun u nu => ?_⟩
    have S1 := smUpd (o := .lst [vn i]) nu
    obtain ⟨q, hq⟩ := ps_at hi
    refine ⟨_, rfl, a, C, dx, _, _, rfl, S1 _ _ h0, B.T.cl, B.T.nP, fP, _, rfl, ap, _, (i : Int), _, rfl, rfl, tpL (S1 _ _ h1), vp_ix hq, ?_⟩
    refine while_by (fun σ H' => ∃ (up : List Nat) (q : Option Nat), σ = [some (.ref a), some (vn i), some (.ref u), some (vp q)] ∧ Same H H' ∧ H' u = some (.lst (up.map vn)) ∧ UpAt fo.ps i up q ∧ up.length ≤ i + 1) (fun σ _ => meas σ) ⟨[i], q, rfl, S1, upd_same, upStart hp hq, by show 1 ≤ i + 1; omega⟩ ?_ ?_
    · rintro σ H' ⟨up, q, rfl, sm, hu, hup, hul⟩
      refine ⟨_, rfl, rfl, _, rfl, ?_⟩
      cases q with
      | none =>
        refine ifF (by decide) ?_
        refine ⟨_, rfl, u, _, rfl, .inl (.inl hu), fun r nr => ?_⟩
        rw [← List.map_reverse]
        have e : road fo.ps i = up.reverse := hup
        refine k r _ (sm.trans (smUpd nr)) ?_
        rw [e]
        exact upd_same
      | some p =>
        refine ifT (by rw [vp_ne]; rfl) ?_
        obtain ⟨hpi, _⟩ := id hup
        have hpl : p < fo.ps.length := Nat.lt_trans hpi hi
        obtain ⟨r, hr⟩ := ps_at hpl
        refine ⟨_, rfl, .inl ⟨rfl, _, .inl (.inl hu)⟩, _, rfl, u, _, _, rfl, rfl, hu, ?_, ?_⟩
        · rw [List.length_map]; exact small1000 (by omega)
        have nub : ∀ b o, H b = some o → b ≠ u := fun b o e z => by rw [z, nu] at e; cases e
        have sm2 : Same H (upd H' u (.lst (up.map vn ++ [vp (some p)]))) := fun b o e => by rw [upd_ne (nub b o e)]; exact sm b o e
        refine ⟨_, rfl, a, C, dx, _, _, rfl, sm2 _ _ h0, B.T.cl, B.T.nP, fP, _, rfl, ap, _, (p : Int), _, rfl, rfl, tpL (sm2 _ _ h1), vp_ix hr, ?_⟩
        refine ⟨⟨up ++ [p], r, rfl, sm2, ?_, upNext hp hup hr, ?_⟩, ?_⟩
        · rw [upd_same, List.map_append]; rfl
        · have e := road_len hp i hi
          obtain ⟨_, e2⟩ := hup
          have := List.length_pos_iff.mpr (road_ne hp hpl)
          rw [e2, List.length_append, List.length_reverse] at e
          rw [List.length_append, List.length_singleton]
          omega
        · cases r with
          | none => show 0 < (p : Int).toNat + 1; omega
          | some r =>
            have := hp p r hr
            show (r : Int).toNat + 1 < (p : Int).toNat + 1
            omega
    · rintro σ H' Q1 Q2 hq12 ⟨v, hv, e, kk, hk, qq⟩
      exact ⟨v, hv, e, kk, hk, hq12 _ _ qq⟩
end
end Cn
namespace Cn
open PySem PySem.Spec PyProof.Rows L2 Ck
/-! data of whole numbers -/
def dn (ns : List Nat) : List PyData := ns.map fun n => PyData.int ((n : Nat) : Int)
theorem dpN {K : PySem.W.Frag} {H : Hp} : ∀ ns : List Nat, DpAll K H (ns.map vn) (dn ns)
  | [] => .nil
  | n :: ns => .cons (.int _) (dpN ns)
theorem dnLay : ∀ ns : List Nat, PyData.canLayAll0 (dn ns) = true
  | [] => rfl
  | n :: ns => by
    show (PyData.canLay0 (.int _) && PyData.canLayAll0 (dn ns)) = true
    rw [dnLay ns]; rfl
theorem dnDepth : ∀ ns : List Nat, PyData.depthAll (dn ns) = 0
  | [] => rfl
  | n :: ns => by
    show max (PyData.depth (.int _)) (PyData.depthAll (dn ns)) = 0
    rw [dnDepth ns]; rfl
theorem dnShL (ns : List Nat) : SeqAt.shaped (.list (dn ns)) = true := by
  show (PyData.canLayAll0 (dn ns) && decide (PyData.depthAll (dn ns) + 1 ≤ 64)) = true
  rw [dnLay, dnDepth]; rfl
theorem dnShT (ns : List Nat) : SeqAt.shaped (.tuple (dn ns)) = true := by
  show (PyData.canLayAll0 (dn ns) && decide (PyData.depthAll (dn ns) + 1 ≤ 64)) = true
  rw [dnLay, dnDepth]; rfl
theorem dnEqL (ns : List Nat) : PyData.eqv (.list (dn ns)) (.list (dn ns)) = true := SeqAt.eqv_refl (.list (dn ns)) (dnLay ns)
theorem dnEqT (ns : List Nat) : PyData.eqv (.tuple (dn ns)) (.tuple (dn ns)) = true := SeqAt.eqv_refl (.tuple (dn ns)) (dnLay ns)
/-- what is sorted and has just the numbers below n, each once -/
theorem sortedRange {ns : List Nat} {n : Nat} {zs : List Int} (nd : ns.Nodup) (hm : ∀ x, x ∈ ns ↔ x < n) (hp : zs.Perm (ns.map fun k => ((k : Nat) : Int))) (hs : zs.Pairwise (· ≤ ·)) : zs = (List.range n).map fun k => ((k : Nat) : Int) := by
  have h1 : ns.Perm (List.range n) := (List.perm_ext_iff_of_nodup nd List.nodup_range).mpr fun x => by rw [hm, List.mem_range]
  refine List.Perm.eq_of_pairwise (le := (· ≤ ·)) (fun a b _ _ p q => Int.le_antisymm p q) hs ?_ (hp.trans (h1.map _))
  rw [List.pairwise_map]
  exact List.pairwise_lt_range.imp fun h => by omega
theorem rgN (n : Nat) : rgV 0 (n : Int) = (List.range n).map vn := by
  unfold rgV
  rw [Int.sub_zero, Int.toNat_natCast]
  refine List.map_congr_left fun i _ => ?_
  show V.int (0 + (i : Int)) = V.int (i : Int)
  rw [Int.zero_add]
theorem mapIV (ns : List Nat) : (ns.map fun k => ((k : Nat) : Int)).map V.int = ns.map vn := by rw [List.map_map]; rfl
/-- cuts: all places, each once -/
structure CutsOk (n : Nat) (cs : List Nat) : Prop where
  len : cs.length = n
  nd : cs.Nodup
  mem : ∀ x, x ∈ cs ↔ x < n
section
variable {P : Program} {w : World} {K : PySem.W.Frag} {mg : Str → Option Value} {base : Heap} {C : Addr}
theorem dInt (B : Defs K mg C) : Def P w K mg base "is_integer" 1 ["thing"] spIsInt := def_of B.I fun f fd F => ok_isInt F B.N
end
end Cn

namespace Cn
open PySem PySem.Spec PyProof.Rows L2 Ck
section
variable {P : Program} {w : World} {K : PySem.W.Frag} {mg : Str → Option Value} {base : Heap} {C : Addr}
/-! is_plan -/
def spIsPlan (C : Addr) : Sp := fun vs H Q _ => ∃ (a b : Addr) (f : Fo) (lv : List Nat), vs = [.ref a, .ref b] ∧ FoAt C H a f ∧ TN H b lv ∧ Ps f.ps ∧ Lv f.ps lv ∧ ∀ H', Same H H' → Q (.bl true) H'
def nIsPlan : List Str := ["forest", "thing", "place", "parent", "most"]
theorem scIsPlan : FnScope nIsPlan ["forest", "thing"] (defScope sIsPlan) := ⟨rfl, rfl, rfl, by decide +kernel, rfl, by decide +kernel, by decide +kernel⟩
theorem dIsPlan (B : Defs K mg C) : Def P w K mg base "is_plan" 3 ["forest", "thing"] (spIsPlan C) := by
  obtain ⟨fB, fdB, GB, gB, kB, bB⟩ := dBtw (P := P) (w := w) (base := base) B
  have N := B.N
  have T := B.T
  refine def_of B.pl fun f fd F => ?_
  refine F.ok scIsPlan (fun vs H Q E h => ?_) (fun cdv A outer s H vs Q E hr h => ?_)
  · obtain ⟨a, b, f, lv, rfl, _⟩ := h
    rfl
  · obtain ⟨a, b, fo, lv, rfl, ⟨dx, ap, ab, aa, h0, h1, h2, h3⟩, hb, hp, hv, k⟩ := h
    refine ⟨_, pss_cons (ps_if (PW.pt (pw_or (pt_not (pt_val (pe_callB call_isi (by rfl) N.is.inst (by decide +kernel) (pa_cons (pv 1) (pa_cons (pe_bltn (v := .ty "tuple") (by rfl) N.is.tup (by decide +kernel) rfl) pa_nil)))))
          (pw_or1 (pt_cmpR op_ne (pe_callB call_len_seq (by rfl) N.is.len PySem.boot_len (pa_cons (pv 1) pa_nil)) (pe_callB call_len_seq (by rfl) N.is.len PySem.boot_len (pa_cons (pe_fld (pv 0) rfl) pa_nil)) (nomark _))))) (pss_one ps_never) pss_nil)
      (pss_cons (ps_for PassesOwn.never rfl (pi_enumT (by rfl) N.enum (pa_cons (pe_fld (pv 0) rfl) pa_nil)) (pg_tup rfl (pgs_cons (pg_name (i := 2) scIsPlan.nd rfl (Or.inl rfl)) (pgs_cons (pg_name (i := 3) scIsPlan.nd rfl (Or.inl rfl)) pgs_nil)))
        (pss_cons (ps_set (i := 4) scIsPlan.nd rfl (Or.inl rfl) (pe_ifExp (pt_cmpR op_isN (pv 3) pe_non (nomark _)) pe_int (pe_op op_add (pe_ix ix_tup (pv 1) (pv 3) (fun _ _ => rfl)) pe_int)))
        (pss_one (ps_if (pt_not (pt_val (pe_call GB hr (by rfl) gB kB bB .nil pass0 (pa_cons (pe_ix ix_tup (pv 1) (pv 2) (fun _ _ => rfl)) (pa_cons pe_int (pa_cons (pv 4) pa_nil)))))) (pss_one ps_never) pss_nil))))
      (pss_one (ps_ret pe_bl))), ?_⟩
    refine ⟨_, rfl, _, .ty "tuple", _, _, true, rfl, .ty _, tupTy hb, kit_ty (by decide +kernel), true, rfl, ?_⟩
    refine ifF (by decide) ?_
    refine ⟨_, rfl, b, _, rfl, .inr (tnL hb), _, rfl, a, C, dx, _, _, rfl, h0, T.cl, T.nP, fP, ap, _, rfl, .inr (tpL h1), rfl, _, rfl, ?_⟩
    refine ifF (by rw [List.length_map, List.length_map, hv.1, decide_eq_true rfl]; decide) ?_
    refine ⟨_, rfl, a, C, dx, _, _, rfl, h0, T.cl, T.nP, fP, ap, _, rfl, tpL h1, ?_⟩
    refine for_it (walk_enumT (xs := fo.ps.map vp)) (fun _ σ H' => Same H H' ∧ ∃ t2 t3 t4, σ = [some (.ref a), some (.ref b), t2, t3, t4]) ⟨Same.refl _, _, _, _, rfl⟩ (fun i σ H' _ z => tpL (z.1 _ _ h1)) ?_ ?_
    · rintro i x σ H' H2 hi ⟨sm, t2, t3, t4, rfl⟩ ⟨T1, x1, y1, rfl, nT, rfl, e1, e2⟩
      cases e1
      obtain ⟨q, hq, rfl⟩ := vp_get (i := i) e2
      refine ⟨T1, _, rfl, .inl (.inl upd_same), rfl, _, _, rfl, _, _, rfl, rfl, ?_⟩
      have sm2 := sm.trans (smUpd (o := .tup [.int (i : Nat), vp q]) nT)
      generalize upd H' T1 (.tup [.int (i : Nat), vp q]) = H2 at sm2 ⊢
      have hb2 := sm2 _ _ hb
      have hil : i < lv.length := by rw [hv.1]; exact (List.getElem?_eq_some_iff.mp hq).1
      have hl := getD_at hil
      have hlv := hv.2 i _ q hl hq
      refine ⟨_, rfl, rfl, _, rfl, ?_⟩
      cases q with
      | none =>
        refine ifT (by decide) ?_
        refine ⟨_, rfl, _, rfl, b, _, (i : Int), _, rfl, rfl, tnL hb2, vn_ix hl, _, rfl, _, _, _, rfl, _, rfl, ?_⟩
        have e : mostLv lv none = 1 := rfl
        refine ifF (by rw [decide_eq_true (by omega)]; decide) ?_
        exact ⟨sm2, _, _, _, rfl⟩
      | some p =>
        refine ifF (by rw [vp_ne]; decide) ?_
        have hpl : p < lv.length := Nat.lt_trans (hp i p hq) hil
        refine ⟨_, rfl, _, rfl, b, _, (p : Int), _, rfl, rfl, tnL hb2, vn_ix (getD_at hpl), _, _, rfl, rfl, ?_⟩
        refine ⟨_, rfl, _, rfl, b, _, (i : Int), _, rfl, rfl, tnL hb2, vn_ix hl, _, rfl, _, _, _, rfl, _, rfl, ?_⟩
        have e : mostLv lv (some p) = lv.getD p 0 + 1 := rfl
        refine ifF (by rw [decide_eq_true (by omega)]; decide) ?_
        exact ⟨sm2, _, _, _, rfl⟩
    · rintro σ H' ⟨sm, _⟩
      exact k _ sm
end
end Cn

namespace Cn
open PySem PySem.Spec PyProof.Rows L2 Ck
section
variable {P : Program} {w : World} {K : PySem.W.Frag} {mg : Str → Option Value} {base : Heap} {C : Addr}
/-! _is_cuts -/
def spIsCuts (C : Addr) : Sp := fun vs H Q _ => ∃ (a b : Addr) (f : Fo) (cs : List Nat), vs = [.ref a, .ref b] ∧ FoAt C H a f ∧ TDn H b cs ∧ f.ps.length ≤ 60 ∧ CutsOk f.ps.length cs ∧ ∀ H', Same H H' → Q (.bl true) H'
def nIsCuts : List Str := ["forest", "thing", "item"]
theorem scIsCuts : FnScope nIsCuts ["forest", "thing"] (defScope sIsCuts) := ⟨rfl, rfl, rfl, by decide +kernel, rfl, by decide +kernel, by decide +kernel⟩
theorem dIsCuts (B : Defs K mg C) : Def P w K mg base "_is_cuts" 2 ["forest", "thing"] (spIsCuts C) := by
  obtain ⟨fI, fdI, GI, gI, kI, bI⟩ := dInt (P := P) (w := w) (base := base) B
  have N := B.N
  have T := B.T
  refine def_of B.cu fun f fd F => ?_
  refine F.ok scIsCuts (fun vs H Q E h => ?_) (fun cdv A outer s H vs Q E hr h => ?_)
  · obtain ⟨a, b, f, lv, rfl, _⟩ := h
    rfl
  · obtain ⟨a, b, fo, cs, rfl, ⟨dx, ap, ab, aa, h0, h1, h2, h3⟩, hb, hl, hc, k⟩ := h
    refine ⟨_, pss_cons (ps_if (PW.pt (pw_or (pt_not (pt_val (pe_callB call_isi (by rfl) N.is.inst (by decide +kernel) (pa_cons (pv 1) (pa_cons (pe_bltn (v := .ty "tuple") (by rfl) N.is.tup (by decide +kernel) rfl) pa_nil)))))
          (pw_or1 (pt_cmpR op_ne (pe_callB call_len_seq (by rfl) N.is.len PySem.boot_len (pa_cons (pv 1) pa_nil)) (pe_callB call_len_seq (by rfl) N.is.len PySem.boot_len (pa_cons (pe_fld (pv 0) rfl) pa_nil)) (nomark _))))) (pss_one ps_never) pss_nil)
      (pss_cons (ps_for PassesOwn.never rfl (pi_tup (pv 1)) (pg_name (i := 2) scIsCuts.nd rfl (Or.inl rfl)) (pss_one (ps_if (pt_not (pt_val (pe_call GI hr (by rfl) gI kI bI .nil pass0 (pa_cons (pv 2) pa_nil)))) (pss_one ps_never) pss_nil)))
      (pss_one (ps_ret (pe_cmpR (op_eqD hr.units) (pe_callB cr_sortTup (by rfl) N.sorted (by decide +kernel) (pa_cons (pv 1) pa_nil)) (pe_listRg rfl (by rfl) N.is.lst (prg_1 (by rfl) N.range (pe_callB call_len_seq (by rfl) N.is.len PySem.boot_len (pa_cons (pv 1) pa_nil)))) (nomark _))))), ?_⟩
    refine ⟨_, rfl, _, .ty "tuple", _, _, true, rfl, .ty _, tdTy hb, kit_ty (by decide +kernel), true, rfl, ?_⟩
    refine ifF (by decide) ?_
    refine ⟨_, rfl, b, _, rfl, .inr (tdL hb), _, rfl, a, C, dx, _, _, rfl, h0, T.cl, T.nP, fP, ap, _, rfl, .inr (tpL h1), rfl, _, rfl, ?_⟩
    refine ifF (by rw [List.length_map, List.length_map, hc.len, decide_eq_true rfl]; decide) ?_
    refine ⟨_, rfl, b, rfl, ⟨_, tdL hb⟩, ?_⟩
    refine for_it (walk_tup (xs := cs.map vn)) (fun _ σ H' => H' = H ∧ ∃ t1, σ = [some (.ref a), some (.ref b), t1]) ⟨rfl, _, rfl⟩ (fun i σ H' _ z => by rw [z.1]; exact tdL hb) ?_ ?_
    · rintro i x σ H' H2 hi ⟨rfl, t1, rfl⟩ ⟨rfl, hx⟩
      obtain ⟨n, _, rfl⟩ := vn_get hx
      refine ⟨_, rfl, (n : Int), rfl, true, rfl, ?_⟩
      refine ifF (by decide) ?_
      exact ⟨rfl, _, rfl⟩
    · rintro σ H' ⟨rfl, t1, rfl⟩
      refine ⟨_, rfl, b, cs.map (fun k => ((k : Nat) : Int)), rfl, by rw [mapIV]; exact tdL hb, by rw [List.length_map, hc.len]; omega, fun zs p hz hs np => ?_⟩
      rw [sortedRange hc.nd hc.mem hz hs, mapIV]
      have S1 := smUpd (o := .lst ((List.range fo.ps.length).map vn)) np
      have hp1 : upd H' p (.lst ((List.range fo.ps.length).map vn)) p = _ := upd_same
      generalize upd H' p (.lst ((List.range fo.ps.length).map vn)) = H1 at S1 hp1 ⊢
      have e : ((cs.map vn).length : Int) = ((fo.ps.length : Nat) : Int) := by rw [List.length_map, hc.len]
      refine ⟨_, rfl, b, _, rfl, .inr (tdL (tdSame S1 hb)), _, rfl, ?_, fun q nq => ?_⟩
      · rw [e]
        exact RgOk.of_le (by decide) (by omega) (by decide) (by omega)
      rw [e, rgN]
      have S2 := smUpd (o := .lst ((List.range fo.ps.length).map vn)) nq
      refine ⟨.list (dn (List.range fo.ps.length)), .list (dn (List.range fo.ps.length)), .lst (.inl (.inl (S2 _ _ hp1))) (dpN _), .lst (.inl (.inl upd_same)) (dpN _), dnShL _, dnShL _, ?_⟩
      rw [dnEqL]
      exact k _ (S1.trans S2)
end
end Cn

namespace Cn
open PySem PySem.Spec PyProof.Rows L2 Ck
section
variable {P : Program} {w : World} {K : PySem.W.Frag} {mg : Str → Option Value} {base : Heap} {C : Addr}
/-! _level -/
/-- r is below all of xs, and of the number of all -/
def Below1 (rk : Nat → Nat) (n : Nat) (xs : List Nat) (e : Nat) : Prop := ∀ r, r < e ↔ r < n ∧ ∀ y ∈ xs, r < rk y
theorem below0 (rk : Nat → Nat) (n : Nat) : Below1 rk n [] n := fun r => ⟨fun h => ⟨h, fun y hy => by cases hy⟩, fun h => h.1⟩
theorem belowYes {rk : Nat → Nat} {n : Nat} {xs : List Nat} {e x : Nat} (h : Below1 rk n xs e) (hx : rk x < e) : Below1 rk n (x :: xs) (rk x) ∧ rlm rk (x :: xs) = x :: rlm rk xs := by
  have hh := (h _).mp hx
  refine ⟨fun r => ⟨fun hr => ⟨Nat.lt_trans hr hh.1, fun y hy => ?_⟩, fun hr => hr.2 x List.mem_cons_self⟩, ?_⟩
  · rcases List.mem_cons.mp hy with e | hy
    · rw [e]; exact hr
    · exact Nat.lt_trans hr (hh.2 y hy)
  · show (if ∀ y ∈ xs, rk x < rk y then x :: rlm rk xs else rlm rk xs) = _
    rw [if_pos hh.2]
theorem belowNo {rk : Nat → Nat} {n : Nat} {xs : List Nat} {e x : Nat} (h : Below1 rk n xs e) (hn : rk x < n) (hx : ¬ rk x < e) : Below1 rk n (x :: xs) e ∧ rlm rk (x :: xs) = rlm rk xs := by
  refine ⟨fun r => ⟨fun hr => ⟨((h r).mp hr).1, fun y hy => ?_⟩, fun hr => (h r).mpr ⟨hr.1, fun y hy => hr.2 y (List.mem_cons_of_mem _ hy)⟩⟩, ?_⟩
  · rcases List.mem_cons.mp hy with e2 | hy
    · rw [e2]; omega
    · exact ((h r).mp hr).2 y hy
  · show (if ∀ y ∈ xs, rk x < rk y then x :: rlm rk xs else rlm rk xs) = _
    rw [if_neg fun q => hx ((h _).mpr ⟨hn, q⟩)]
def spLevel (C : Addr) : Sp := fun vs H Q _ => ∃ (a b : Addr) (f : Fo) (cs : List Nat) (i : Nat), vs = [.ref a, .ref b, vn i] ∧ FoAt C H a f ∧ TDn H b cs ∧ Ps f.ps ∧ f.ps.length ≤ 60 ∧ CutsOk f.ps.length cs ∧ i < f.ps.length ∧ ∀ H', Same H H' → Q (vn (rlm (fun x => cs.idxOf x) (road f.ps i)).length) H'
def nLevel : List Str := ["forest", "cuts", "place", "level", "earliest", "over", "turn"]
theorem scLevel : FnScope nLevel ["forest", "cuts", "place"] (defScope sLevel) := ⟨rfl, rfl, rfl, by decide +kernel, rfl, by decide +kernel, by decide +kernel⟩
theorem drop_prev {α : Type} {xs : List α} {j : Nat} {x : α} (hj : j < xs.length) (hx : xs[xs.length - 1 - j]? = some x) : xs.drop (xs.length - (j + 1)) = x :: xs.drop (xs.length - j) := by
  have e : xs.length - (j + 1) = xs.length - 1 - j := by omega
  have e2 : xs.length - j = xs.length - 1 - j + 1 := by omega
  obtain ⟨hl, hx⟩ := List.getElem?_eq_some_iff.mp hx
  rw [e, e2, List.drop_eq_getElem_cons hl, hx]
theorem dLevel (B : Defs K mg C) : Def P w K mg base "_level" 5 ["forest", "cuts", "place"] (spLevel C) := by
  obtain ⟨fW, fdW, GW, gW, kW, bW⟩ := dWay (P := P) (w := w) (base := base) B
  have N := B.N
  have T := B.T
  refine def_of B.lv fun f fd F => ?_
  refine F.ok scLevel (fun vs H Q E h => ?_) (fun cdv A outer s H vs Q E hr h => ?_)
  · obtain ⟨a, b, f, cs, i, rfl, _⟩ := h
    rfl
  · obtain ⟨a, b, fo, cs, i, rfl, hF, hb, hp, hl, hc, hi, k⟩ := h
    refine ⟨_, pss_cons (ps_set (i := 3) scLevel.nd rfl (Or.inl rfl) pe_int)
      (pss_cons (ps_set (i := 4) scLevel.nd rfl (Or.inl rfl) (pe_callB call_len_seq (by rfl) N.is.len PySem.boot_len (pa_cons (pv 1) pa_nil)))
      (pss_cons (ps_for PassesOwn.never rfl (RT.pi_revA (by rfl) N.rev (pe_call GW hr (by rfl) gW kW bW .nil pass0 (pa_cons (pv 0) (pa_cons (pv 2) pa_nil)))) (pg_name (i := 5) scLevel.nd rfl (Or.inl rfl))
        (pss_cons (ps_set (i := 6) scLevel.nd rfl (Or.inl rfl) (pe_bt PySem.F.slot_tuple_index PySem.F.type_tuple_index mt_tidx (pv 1) (pa_cons (pv 5) pa_nil)))
        (pss_one (ps_if (pt_cmpR op_lt (pv 6) (pv 4) (nomark _)) (pss_cons (ps_set (i := 4) scLevel.nd rfl (Or.inl rfl) (pv 6)) (pss_one (ps_aug (i := 3) scLevel.nd rfl (.inl rfl) pe_int ip_add))) pss_nil))))
      (pss_one (ps_ret (pv 3))))), ?_⟩
    refine ⟨_, rfl, b, _, rfl, .inr (tdL hb), ?_⟩
    rw [List.length_map]
    refine ⟨_, rfl, _, rfl, a, fo, i, rfl, hF, hp, hl, hi, fun r H1 s1 hr1 => ⟨r, _, rfl, .inr ⟨tdL hr1, ?_⟩⟩⟩
    have hb1 : TDn H1 b cs := tdSame s1 hb
    refine RT.for_ItvT (xs := (road fo.ps i).map vn) (fun j σ H' => H' = H1 ∧ ∃ (e : Nat) (t5 t6 : Option V), σ = [some (.ref a), some (.ref b), some (vn i), some (vn (rlm (fun x => cs.idxOf x) ((road fo.ps i).drop ((road fo.ps i).length - j))).length), some (vn e), t5, t6] ∧
      Below1 (fun x => cs.idxOf x) cs.length ((road fo.ps i).drop ((road fo.ps i).length - j)) e) ?_ (fun i σ H' z => by rw [z.1]; exact tdL hr1) ?_ ?_
    · refine ⟨rfl, cs.length, none, none, ?_, ?_⟩
      · rw [Nat.sub_zero, List.drop_length]; rfl
      · rw [Nat.sub_zero, List.drop_length]; exact below0 _ _
    · rintro j x σ H' hj hx ⟨rfl, e, t5, t6, rfl, hbl⟩
      rw [List.length_map] at hj hx
      obtain ⟨m, hm, rfl⟩ := vn_get hx
      have hmr : m ∈ road fo.ps i := List.mem_of_getElem? hm
      have hmc : m ∈ cs := (hc.mem m).mpr (Nat.lt_of_le_of_lt (road_le hp i hi m hmr) hi)
      obtain ⟨i1, i2⟩ := vn_idx hmc
      refine ⟨_, rfl, ⟨b, _, rfl, hb1⟩, _, rfl, b, _, _, cs.idxOf m, _, rfl, rfl, tdL hb1, rfl, vn_flat _, i1, by rw [vn_inj]; exact decide_eq_true rfl, i2, ?_⟩
      refine ⟨_, rfl, _, rfl, _, _, rfl, rfl, _, rfl, ?_⟩
      have hd := drop_prev hj hm
      have hlt := List.idxOf_lt_length_of_mem hmc
      by_cases c : cs.idxOf m < e
      · refine ifT (by rw [decide_eq_true_iff]; omega) ?_
        obtain ⟨b1, b2⟩ := belowYes hbl c
        refine ⟨_, rfl, _, rfl, _, _, rfl, rfl, rfl, cs.idxOf m, some (vn m), some (vn (cs.idxOf m)), ?_, by rw [hd]; exact b1⟩
        rw [hd, b2]
        rfl
      · refine ifF (by rw [decide_eq_true_iff]; omega) ?_
        obtain ⟨b1, b2⟩ := belowNo hbl hlt c
        refine ⟨rfl, e, some (vn m), some (vn (cs.idxOf m)), ?_, by rw [hd]; exact b1⟩
        rw [hd, b2]
        rfl
    · rintro σ H' ⟨rfl, e, t5, t6, rfl, _⟩
      rw [List.length_map, Nat.sub_self, List.drop_zero]
      exact ⟨_, rfl, k _ s1⟩
end
end Cn
namespace Cn
open PySem PySem.Spec PyProof.Rows L2 Ck
theorem smOver {H1 H4 : Hp} {D : Addr} {o : HO} (nD : H1 D = none) (sm : Same H1 H4) : Same H1 (upd H4 D o) := fun b u e => by
  have nb : b ≠ D := fun z => by rw [z, nD] at e; cases e
  rw [upd_ne nb]
  exact sm b u e
end Cn
namespace Cn
open PySem PySem.Spec PyProof.Rows L2 Ck
def dPar (ps : List (Option Nat)) : List PyData := ps.map fun q => match q with | none => PyData.none | some n => PyData.int ((n : Nat) : Int)
theorem dpPar {K : PySem.W.Frag} {H : Hp} : ∀ ps : List (Option Nat), DpAll K H (ps.map vp) (dPar ps)
  | [] => .nil
  | none :: ps => .cons .non (dpPar ps)
  | some n :: ps => .cons (.int _) (dpPar ps)
theorem dParLay : ∀ ps : List (Option Nat), PyData.canLayAll0 (dPar ps) = true
  | [] => rfl
  | none :: ps => by
    show (PyData.canLay0 .none && PyData.canLayAll0 (dPar ps)) = true
    rw [dParLay ps]; rfl
  | some n :: ps => by
    show (PyData.canLay0 (.int _) && PyData.canLayAll0 (dPar ps)) = true
    rw [dParLay ps]; rfl
theorem dParDepth : ∀ ps : List (Option Nat), PyData.depthAll (dPar ps) = 0
  | [] => rfl
  | none :: ps => by
    show max (PyData.depth .none) (PyData.depthAll (dPar ps)) = 0
    rw [dParDepth ps]; rfl
  | some n :: ps => by
    show max (PyData.depth (.int _)) (PyData.depthAll (dPar ps)) = 0
    rw [dParDepth ps]; rfl
theorem dParSh (ps : List (Option Nat)) : SeqAt.shaped (.tuple (dPar ps)) = true := by
  show (PyData.canLayAll0 (dPar ps) && decide (PyData.depthAll (dPar ps) + 1 ≤ 64)) = true
  rw [dParLay, dParDepth]; rfl
theorem dParEq : ∀ {ps qs : List (Option Nat)}, PyData.eqvAll (dPar ps) (dPar qs) = true → ps = qs
  | [], [], _ => rfl
  | [], q :: qs, h => by cases q <;> simp [dPar, PyData.eqvAll] at h
  | p :: ps, [], h => by cases p <;> simp [dPar, PyData.eqvAll] at h
  | none :: ps, none :: qs, h => by
    have h2 : PyData.eqvAll (dPar ps) (dPar qs) = true := by
      have h1 : PyData.eqvAll (PyData.none :: dPar ps) (PyData.none :: dPar qs) = true := h
      simp only [PyData.eqvAll, Bool.and_eq_true] at h1
      exact h1.2
    rw [dParEq h2]
  | some p :: ps, some q :: qs, h => by
    have h1 : PyData.eqvAll (PyData.int ((p : Nat) : Int) :: dPar ps) (PyData.int ((q : Nat) : Int) :: dPar qs) = true := h
    simp only [PyData.eqvAll, PyData.eqv, Bool.and_eq_true, beq_iff_eq] at h1
    rw [dParEq h1.2, show p = q from by omega]
  | none :: ps, some q :: qs, h => by
    have h1 : PyData.eqvAll (PyData.none :: dPar ps) (PyData.int ((q : Nat) : Int) :: dPar qs) = true := h
    simp [PyData.eqvAll, PyData.eqv] at h1
  | some p :: ps, none :: qs, h => by
    have h1 : PyData.eqvAll (PyData.int ((p : Nat) : Int) :: dPar ps) (PyData.none :: dPar qs) = true := h
    simp [PyData.eqvAll, PyData.eqv] at h1
theorem dParEqT {ps qs : List (Option Nat)} (h : PyData.eqv (.tuple (dPar ps)) (.tuple (dPar qs)) = true) : ps = qs := dParEq (by simpa only [PyData.eqv] using h)
end Cn
namespace Cn
open PySem PySem.Spec PyProof.Rows L2 Ck
def rLenQ (K : PySem.W.Frag) : List V → Hp → VK → Prop := fun xs H Q => ∃ p ys, xs = [.ref p] ∧ (SqL K H p ys ∨ SqT K H p ys) ∧ Q (.int ys.length) H
theorem len_q {X : Cx} : CallR X (.builtin "len") (rLenQ X.K) := call_len_seq
/-- either a list or a tuple, in slot i -/
def iSeq (K : PySem.W.Frag) (i : Nat) : TI := fun σ H R => iList K (tVar i) σ H R ∨ iTup K (tVar i) σ H R
theorem lenZero {n : Nat} : decide (V.int (n : Int) = V.int 0) = decide (n = 0) := by
  rw [Bool.eq_iff_iff, decide_eq_true_iff, decide_eq_true_iff]
  exact ⟨fun z => by have := V.int.inj z; omega, fun z => by rw [z]; rfl⟩
end Cn
namespace Cn
open PySem PySem.Spec PyProof.Rows L2 Ck
/-- a list of tuples of numbers -/
def Rows (H : Hp) (g : Nat → List Nat) (n : Nat) (us : List V) : Prop := us.length = n ∧ ∀ i, i < n → ∃ t, us[i]? = some (.ref t) ∧ TN H t (g i)
theorem rows0 {H : Hp} {g : Nat → List Nat} : Rows H g 0 [] := ⟨rfl, fun i h => absurd h (Nat.not_lt_zero _)⟩
theorem rowsSame {H H' : Hp} {g : Nat → List Nat} {n : Nat} {us : List V} (s : Same H H') (h : Rows H g n us) : Rows H' g n us := ⟨h.1, fun i hi => by
  obtain ⟨t, e, ht⟩ := h.2 i hi
  exact ⟨t, e, s _ _ ht⟩⟩
theorem rowsAdd {H : Hp} {g : Nat → List Nat} {n : Nat} {us : List V} {t : Addr} (h : Rows H g n us) (ht : TN H t (g n)) : Rows H g (n + 1) (us ++ [.ref t]) := by
  refine ⟨by rw [List.length_append, h.1]; rfl, fun i hi => ?_⟩
  by_cases e : i < n
  · obtain ⟨t', e', ht'⟩ := h.2 i e
    exact ⟨t', by rw [List.getElem?_append_left (by rw [h.1]; exact e)]; exact e', ht'⟩
  · have : i = n := by omega
    subst this
    exact ⟨t, by rw [List.getElem?_append_right (by rw [h.1]; exact Nat.le_refl _), h.1, Nat.sub_self]; rfl, ht⟩
/-- what is written at D, elsewhere nothing -/
theorem rowsUpd {H0 H' : Hp} {g : Nat → List Nat} {n : Nat} {us : List V} {D : Addr} {o : HO} {xs : List V} (h : Rows H' g n us) (hD : H' D = some (.lst xs)) : Rows (upd H' D o) g n us := ⟨h.1, fun i hi => by
  obtain ⟨t, e, ht⟩ := h.2 i hi
  have ne : t ≠ D := fun z => by
    have ht : H' t = _ := ht
    rw [z, hD] at ht; cases ht
  refine ⟨t, e, ?_⟩
  show upd H' D o t = _
  rw [upd_ne ne]; exact ht⟩
theorem lvLe {ps : List (Option Nat)} {lv : List Nat} (hp : Ps ps) (hv : Lv ps lv) : ∀ i, i < ps.length → lv.getD i 0 ≤ i + 1 := by
  intro i
  induction i using Nat.strongRecOn with
  | ind i ih =>
    intro hi
    have hil : i < lv.length := by rw [hv.1]; exact hi
    rcases opt_cases hi with h | ⟨p, h⟩
    · have h2 := hv.2 i _ _ (getD_at hil) h
      have e : mostLv lv none = 1 := rfl
      omega
    · have h2 := hv.2 i _ _ (getD_at hil) h
      have e : mostLv lv (some p) = lv.getD p 0 + 1 := rfl
      have hl := hp i p h
      have := ih p hl (Nat.lt_trans hl hi)
      omega
theorem stkLe {ps : List (Option Nat)} {lv : List Nat} {i : Nat} (hp : Ps ps) (hv : Lv ps lv) (hl : ps.length ≤ 60) (hi : i < ps.length) : (stk ps lv i).length ≤ 60 := by
  rw [stk_len hp hv i hi]
  have := lvLe hp hv i hi
  omega
theorem tnAt {H : Hp} {a : Addr} {xs : List V} {ns : List Nat} (h : H a = some (.tup xs)) (e : xs = ns.map vn) : TN H a ns := by
  show H a = some (.tup (ns.map vn))
  rw [← e]; exact h
end Cn
namespace Cn
open PySem PySem.Spec PyProof.Rows L2 Ck
/-! a note, notes as the heap has them -/
def NoteR (H : Hp) (v : V) (p : List Nat × List Nat) : Prop := ∃ t x y, v = .ref t ∧ H t = some (.tup [.ref x, .ref y]) ∧ TN H x p.1 ∧ TN H y p.2
theorem noteSame {H H' : Hp} (s : Same H H') {v : V} {p : List Nat × List Nat} (h : NoteR H v p) : NoteR H' v p := by
  obtain ⟨t, x, y, e, h1, h2, h3⟩ := h
  exact ⟨t, x, y, e, s _ _ h1, s _ _ h2, s _ _ h3⟩
def NotesR (H : Hp) (us : List V) (ps : List (List Nat × List Nat)) : Prop := Paired (NoteR H) us ps
theorem notesSame {H H' : Hp} (s : Same H H') {us : List V} {ps : List (List Nat × List Nat)} (h : NotesR H us ps) : NotesR H' us ps := Paired.mapP h fun _ _ z => noteSame s z
theorem notesUpd {H' : Hp} {D : Addr} {o : HO} {xs us : List V} {ps : List (List Nat × List Nat)} (hD : H' D = some (.lst xs)) (h : NotesR H' us ps) : NotesR (upd H' D o) us ps := Paired.mapP h fun v p z => by
  obtain ⟨t, x, y, e, h1, h2, h3⟩ := z
  have ne : ∀ {a : Addr} {ys : List V}, H' a = some (.tup ys) → upd H' D o a = some (.tup ys) := fun {a ys} e2 => by
    have q : a ≠ D := fun z => by rw [z, hD] at e2; cases e2
    rw [upd_ne q]; exact e2
  exact ⟨t, x, y, e, ne h1, ne h2, ne h3⟩
theorem paired_snoc {α β : Type} {F : α → β → Prop} : ∀ {xs : List α} {ys : List β} {x : α} {y : β}, Paired F xs ys → F x y → Paired F (xs ++ [x]) (ys ++ [y])
  | _, _, _, _, .nil, h => .cons h .nil
  | _, _, _, _, .cons a t, h => .cons a (paired_snoc t h)
end Cn

namespace Cn
open PySem PySem.Spec PyProof.Rows L2 Ck
section
variable {P : Program} {w : World} {K : PySem.W.Frag} {mg : Str → Option Value} {base : Heap} {C : Addr}
/-- the levels that cuts give, by their ranks -/
def lvOf (ps : List (Option Nat)) (cs : List Nat) (i : Nat) : Nat := (rlm (fun x => cs.idxOf x) (road ps i)).length
def spPlanOf (C : Addr) : Sp := fun vs H Q _ => ∃ (a b : Addr) (f : Fo) (cs : List Nat), vs = [.ref a, .ref b] ∧ FoAt C H a f ∧ TDn H b cs ∧ Ps f.ps ∧ f.ps.length ≤ 60 ∧ CutsOk f.ps.length cs ∧
  ∀ r H', Same H H' → TN H' r ((List.range f.ps.length).map (lvOf f.ps cs)) → Q (.ref r) H'
def nPlanOf : List Str := ["forest", "cuts", "place"]
theorem scPlanOf : FnScope nPlanOf ["forest", "cuts"] (defScope sPlanOf) := ⟨rfl, rfl, rfl, by decide +kernel, rfl, by decide +kernel, by decide +kernel⟩
theorem dPlanOf (B : Defs K mg C) : Def P w K mg base "plan_of" 6 ["forest", "cuts"] (spPlanOf C) := by
  obtain ⟨fC, fdC, GC, gC, kC, bC⟩ := dIsCuts (P := P) (w := w) (base := base) B
  obtain ⟨fL, fdL, GL, gL, kL, bL⟩ := dLevel (P := P) (w := w) (base := base) B
  have N := B.N
  refine def_of B.po fun f fd F => ?_
  refine F.ok scPlanOf (fun vs H Q E h => ?_) (fun cdv A outer s H vs Q E hr h => ?_)
  · obtain ⟨a, b, f, cs, rfl, _⟩ := h
    rfl
  · obtain ⟨a, b, fo, cs, rfl, hF, hb, hp, hl, hc, k⟩ := h
    have hr2 : Room 2 (A.deeper (envOfC "plan_of" (defScope sPlanOf) s.heap.objs.size f cdv)) := Room.mono hr (by decide)
    refine ⟨_, pss_cons (ps_if (pt_not (pt_val (pe_call GC hr2 (by rfl) gC kC bC .nil pass0 (pa_cons (pv 0) (pa_cons (pv 1) pa_nil))))) (pss_one ps_never) pss_nil)
      (pss_one (ps_ret (pe_callTy call_tuple_of (by rfl) N.is.tup (by decide +kernel) (pa_cons (pe_lc (own := [("place", 2)]) (g := gName 2) (tt := tYes) rfl scPlanOf.nd (pi_range1 (by rfl) N.range (pa_cons (pe_callB call_len_seq (by rfl) N.is.len PySem.boot_len (pa_cons (pv 1) pa_nil)) pa_nil))
        (blkOk_by (N := nPlanOf) (sc := defScope sPlanOf) (by decide +kernel)) (fun _ _ _ _ _ => pg_name (i := 2) scPlanOf.nd rfl (Or.inl rfl)) (fun _ _ _ _ _ => pts_nil)
        (fun _ _ _ _ _ => pe_call GL hr (by rfl) gL kL bL .nil pass0 (pa_cons (pv 0) (pa_cons (pv 1) (pa_cons (pv 2) pa_nil))))) pa_nil)))), ?_⟩
    refine ⟨_, rfl, _, rfl, a, b, fo, cs, rfl, hF, hb, hl, hc, fun H1 s1 => ⟨true, rfl, ?_⟩⟩
    refine ifF (by decide) ?_
    have hb1 := tdSame s1 hb
    refine ⟨_, rfl, b, _, rfl, .inr (tdL hb1), ((cs.map vn).length : Int), rfl, by omega, by rw [List.length_map, hc.len]; omega, fun D nD => ?_⟩
    rw [List.length_map, hc.len, Int.toNat_natCast]
    refine lc_range (lo := 0) (n := fo.ps.length) (fun i H' => Same H1 H' ∧ H' D = some (.lst (((List.range i).map (lvOf fo.ps cs)).map vn))) ⟨smUpd nD, upd_same⟩ ?_ ?_
    · rintro i H' hi ⟨sm, hD⟩
      have hb2 := tdSame sm hb1
      refine ⟨rfl, _, rfl, _, rfl, _, rfl, a, b, fo, cs, i, ?_, foAt_same (s1.trans sm) hF, hb2, hp, hl, hc, hi, fun H2 s2 => ?_⟩
      · show [V.ref a, V.ref b, V.int (0 + (i : Int))] = [V.ref a, V.ref b, V.int (i : Int)]
        rw [Int.zero_add]
      refine ⟨_, s2 _ _ hD, by rw [List.length_map, List.length_map, List.length_range]; exact small1000 (by omega), smOver nD (sm.trans s2), ?_⟩
      rw [upd_same, List.range_succ, List.map_append, List.map_append]
      rfl
    · rintro H' ⟨sm, hD⟩
      refine ⟨D, _, rfl, .inl ⟨.inl (.inl hD), fun r nr => ?_⟩⟩
      exact k r _ ((s1.trans sm).trans (smUpd nr)) upd_same
end
end Cn
namespace Cn
open PySem PySem.Spec PyProof.Rows L2 Ck
section
variable {P : Program} {w : World} {K : PySem.W.Frag} {mg : Str → Option Value} {base : Heap} {C : Addr}
def spStacks (C : Addr) : Sp := fun vs H Q _ => ∃ (a b : Addr) (f : Fo) (lv : List Nat), vs = [.ref a, .ref b] ∧ FoAt C H a f ∧ TN H b lv ∧ Ps f.ps ∧ f.ps.length ≤ 60 ∧ Lv f.ps lv ∧
  ∀ r us H', Same H H' → H' r = some (.lst us) → Rows H' (stk f.ps lv) f.ps.length us → Q (.ref r) H'
def nStacks : List Str := ["forest", "plan", "found", "place", "parent", "above"]
theorem scStacks : FnScope nStacks ["forest", "plan"] (defScope sStacks) := ⟨rfl, rfl, rfl, by decide +kernel, rfl, by decide +kernel, by decide +kernel⟩
theorem dStacks (B : Defs K mg C) : Def P w K mg base "_stacks" 1 ["forest", "plan"] (spStacks C) := by
  have N := B.N
  have T := B.T
  refine def_of B.ss fun f fd F => ?_
  refine F.ok scStacks (fun vs H Q E h => ?_) (fun cdv A outer s H vs Q E hr h => ?_)
  · obtain ⟨a, b, f, lv, rfl, _⟩ := h
    rfl
  · obtain ⟨a, b, fo, lv, rfl, hF, hb, hp, hl, hv, k⟩ := h
    refine ⟨_, pss_cons (ps_set (i := 2) scStacks.nd rfl (Or.inl rfl) (pe_lst pa_nil))
      (pss_cons (ps_for PassesOwn.never rfl (pi_enumT (by rfl) N.enum (pa_cons (pe_fld (pv 0) rfl) pa_nil)) (pg_tup rfl (pgs_cons (pg_name (i := 3) scStacks.nd rfl (Or.inl rfl)) (pgs_cons (pg_name (i := 4) scStacks.nd rfl (Or.inl rfl)) pgs_nil)))
        (pss_cons (ps_set (i := 5) scStacks.nd rfl (Or.inl rfl) (pe_ifExp (pt_cmpR op_isN (pv 4) pe_non (nomark _)) (pe_tup pa_nil) (pe_ix ix_list (pv 2) (pv 4) (fun _ _ => rfl))))
        (pss_one (ps_expr (pe_bm PySem.F.plainAttrs_list PySem.F.slot_list_append PySem.F.type_list_append mt_append (pv 2) (pa_cons (pe_op op_catA (pe_slice sl_tupA (pv 5) po_none (po_some (pe_op op_sub (pe_ix ix_tup (pv 1) (pv 3) (fun _ _ => rfl)) pe_int))) (pe_tup (pa_cons (pv 3) pa_nil))) pa_nil))))))
      (pss_one (ps_ret (pv 2)))), ?_⟩
    refine ⟨by show 0 ≤ sizeLine; decide, fun D nD => ?_⟩
    have S1 := smUpd (o := .lst []) nD
    obtain ⟨dx, ap, ab, aa, h0, h1, h2, h3⟩ := hF
    refine ⟨_, rfl, a, C, dx, _, _, rfl, S1 _ _ h0, T.cl, T.nP, fP, ap, _, rfl, tpL (S1 _ _ h1), ?_⟩
    refine for_it (walk_enumT (xs := fo.ps.map vp)) (fun i σ H' => Same H H' ∧ ∃ (us : List V) (t3 t4 t5 : Option V), σ = [some (.ref a), some (.ref b), some (.ref D), t3, t4, t5] ∧ H' D = some (.lst us) ∧ Rows H' (stk fo.ps lv) i us) ⟨S1, [], _, _, _, rfl, upd_same, rows0⟩ (fun i σ H' _ z => tpL (z.1 _ _ h1)) ?_ ?_
    · rintro i x σ H' H2 hi ⟨sm, us, t3, t4, t5, rfl, hD, hR⟩ ⟨T1, x1, y1, rfl, nT, rfl, e1, e2⟩
      cases e1
      obtain ⟨q, hq, rfl⟩ := vp_get (i := i) e2
      rw [List.length_map] at hi
      refine ⟨T1, _, rfl, .inl (.inl upd_same), rfl, _, _, rfl, _, _, rfl, rfl, ?_⟩
      have S2 := smUpd (o := .tup [.int (i : Nat), vp q]) nT
      have sm2 := sm.trans S2
      have hD2 := S2 _ _ hD
      have hR2 := rowsSame S2 hR
      generalize upd H' T1 (.tup [.int (i : Nat), vp q]) = H2 at sm2 hD2 hR2 ⊢
      have hil : i < lv.length := by rw [hv.1]; exact hi
      have hlv := hv.2 i _ q (getD_at hil) hq
      refine ⟨_, rfl, rfl, _, rfl, ?_⟩
      cases q with
      | none =>
        refine ifT (by decide) ?_
        refine ⟨by show 0 ≤ sizeLine; decide, fun t nt => ?_⟩
        have s3 := smUpd (o := .tup []) nt
        have ht : TN (upd H2 t (.tup [])) t [] := upd_same
        generalize upd H2 t (.tup []) = H3 at s3 ht ⊢
        have hz : ([] : List Nat).take (lv.getD i 0 - 1) ++ [i] = stk fo.ps lv i := by rw [stk_none hq, List.take_nil]; rfl
        have hzl : ([] : List Nat).length ≤ 60 := Nat.zero_le _
        have hD3 := s3 _ _ hD2
        have hb3 : TN H3 b lv := s3 _ _ (sm2 _ _ hb)
        refine ⟨_, rfl, .inl ⟨rfl, _, .inl (.inl hD3)⟩, _, rfl, _, rfl, _, rfl, b, _, (i : Int), _, rfl, rfl, tnL hb3, vn_ix (getD_at hil), _, _, rfl, rfl, _, rfl, ?_⟩
        refine slA ht fun c H4 s4 hc => ?_
        have e1 : ((lv.getD i 0 : Nat) : Int) - 1 = ((lv.getD i 0 - 1 : Nat) : Int) := by omega
        rw [e1, cutTake] at hc
        refine ⟨_, rfl, by show 1 ≤ sizeLine; decide, fun t2 n2 => ?_⟩
        have S5 := smUpd (o := .tup [vn i]) n2
        refine catA (S5 _ _ hc) upd_same (by rw [List.length_take, List.length_map]; show min _ _ + 1 ≤ 1000; omega) fun e H6 s6 he => ?_
        have s26 := s3.trans (s4.trans (S5.trans s6))
        have hD6 := s26 _ _ hD2
        refine ⟨D, us, _, rfl, rfl, hD6, by rw [hR2.1]; exact small1000 (by omega), ?_⟩
        have he2 : TN H6 e (stk fo.ps lv i) := tnAt he (by rw [← hz, List.map_append, List.map_take]; rfl)
        exact ⟨smOver nD (sm2.trans s26), _, _, _, _, rfl, upd_same, rowsUpd (H0 := H) (rowsAdd (rowsSame s26 hR2) he2) hD6⟩
      | some p =>
        refine ifF (by rw [vp_ne]; decide) ?_
        obtain ⟨t, hut, ht⟩ := hR2.2 p (hp i p hq)
        have s3 := Same.refl H2
        refine ⟨_, rfl, _, rfl, D, us, (p : Int), _, rfl, rfl, .inl (.inl hD2), atI_nat hut, ?_⟩
        have hz : (stk fo.ps lv p).take (lv.getD i 0 - 1) ++ [i] = stk fo.ps lv i := (stk_some hp hq).symm
        have hpl : p < fo.ps.length := Nat.lt_trans (hp i p hq) hi
        have hzl : (stk fo.ps lv p).length ≤ 60 := stkLe hp hv hl hpl
        have hD3 := s3 _ _ hD2
        have hb3 : TN H2 b lv := s3 _ _ (sm2 _ _ hb)
        refine ⟨_, rfl, .inl ⟨rfl, _, .inl (.inl hD3)⟩, _, rfl, _, rfl, _, rfl, b, _, (i : Int), _, rfl, rfl, tnL hb3, vn_ix (getD_at hil), _, _, rfl, rfl, _, rfl, ?_⟩
        refine slA ht fun c H4 s4 hc => ?_
        have e1 : ((lv.getD i 0 : Nat) : Int) - 1 = ((lv.getD i 0 - 1 : Nat) : Int) := by omega
        rw [e1, cutTake] at hc
        refine ⟨_, rfl, by show 1 ≤ sizeLine; decide, fun t2 n2 => ?_⟩
        have S5 := smUpd (o := .tup [vn i]) n2
        refine catA (S5 _ _ hc) upd_same (by rw [List.length_take, List.length_map]; show min _ _ + 1 ≤ 1000; omega) fun e H6 s6 he => ?_
        have s26 := s3.trans (s4.trans (S5.trans s6))
        have hD6 := s26 _ _ hD2
        refine ⟨D, us, _, rfl, rfl, hD6, by rw [hR2.1]; exact small1000 (by omega), ?_⟩
        have he2 : TN H6 e (stk fo.ps lv i) := tnAt he (by rw [← hz, List.map_append, List.map_take]; rfl)
        exact ⟨smOver nD (sm2.trans s26), _, _, _, _, rfl, upd_same, rowsUpd (H0 := H) (rowsAdd (rowsSame s26 hR2) he2) hD6⟩
    · rintro σ H' ⟨sm, us, t3, t4, t5, rfl, hD, hR⟩
      rw [List.length_map] at hR
      exact ⟨_, rfl, k D us H' sm hD hR⟩
end
end Cn
namespace Cn
open PySem PySem.Spec PyProof.Rows L2 Ck
theorem slS {K : PySem.W.Frag} {H : Hp} {a : Addr} {xs : List V} {lo hi : Option Int} {Q : VK} (ha : SqT K H a xs) (k : ∀ b H', Same H H' → SqT K H' b (cutV xs lo hi) → Q (.ref b) H') : rSlA K (.ref a) lo hi H Q :=
  ⟨a, xs, rfl, ha, fun h => k a H (Same.refl _) (by rw [cutWhole h]; exact ha), fun _ p np => k p _ (smUpd np) (.inl (.inl upd_same))⟩
theorem slSN {K : PySem.W.Frag} {σ : L2.St} {H : Hp} {a : Addr} {xs : List V} {lo : Option Int} {Q : VK} (ha : SqT K H a xs) (k : ∀ b H', Same H H' → SqT K H' b (cutV xs lo none) → Q (.ref b) H') : tNoPart σ H (fun u H3 => rSlA K (.ref a) lo u H3 Q) := slS (hi := none) ha k
theorem cutInit (xs : List V) : cutV xs none (some (-1)) = xs.dropLast := by
  unfold cutV
  rw [HT.sIx_none]
  show (xs.drop 0).take (HT.sIx xs.length xs.length (some (-1)) - 0) = xs.dropLast
  have e : HT.sIx xs.length xs.length (some (-1)) = xs.length - 1 := by
    show (if (-1 : Int) < 0 then ((-1 : Int) + (xs.length : Int)).toNat else min (-1 : Int).toNat xs.length) = xs.length - 1
    rw [if_pos (by decide)]
    omega
  rw [e, List.drop_zero, Nat.sub_zero, List.dropLast_eq_take]
/-! the notes of a plan -/
def heldAt (ps : List (Option Nat)) (lv : List Nat) (i : Nat) : List Nat :=
  match (stk ps lv i).dropLast.getLast? with
  | none => road ps i
  | some x => (road ps i).drop ((road ps i).idxOf x + 1)
def noteAt (ps : List (Option Nat)) (be as lv : List Nat) (i : Nat) : List Nat × List Nat :=
  ((heldAt ps lv i).filter fun x => decide (x ∈ be), as.filter fun j => decide (i ∈ stk ps lv j))
def notesOf (ps : List (Option Nat)) (be as lv : List Nat) (n : Nat) : List (List Nat × List Nat) :=
  ((List.range n).map (noteAt ps be as lv)).filter fun p => !p.1.isEmpty && !p.2.isEmpty
section
variable {P : Program} {w : World} {K : PySem.W.Frag} {mg : Str → Option Value} {base : Heap} {C : Addr}
/-! stack -/
def spStack (C : Addr) : Sp := fun vs H Q _ => ∃ (a b : Addr) (f : Fo) (lv : List Nat) (i : Nat), vs = [.ref a, .ref b, vn i] ∧ FoAt C H a f ∧ TN H b lv ∧ Ps f.ps ∧ f.ps.length ≤ 60 ∧ Lv f.ps lv ∧ i < f.ps.length ∧
  ∀ r H', Same H H' → TN H' r (stk f.ps lv i) → Q (.ref r) H'
theorem scStack : FnScope ["forest", "plan", "place"] ["forest", "plan", "place"] (defScope sStack) := ⟨rfl, rfl, rfl, by decide +kernel, rfl, by decide +kernel, by decide +kernel⟩
theorem dStack (B : Defs K mg C) : Def P w K mg base "stack" 4 ["forest", "plan", "place"] (spStack C) := by
  obtain ⟨fI, fdI, GI, gI, kI, bI⟩ := dIsPlan (P := P) (w := w) (base := base) B
  obtain ⟨fP, fdP, GP, gP, kP, bP⟩ := dPlace (P := P) (w := w) (base := base) B
  obtain ⟨fS, fdS, GS, gS, kS, bS⟩ := dStacks (P := P) (w := w) (base := base) B
  refine def_of B.st fun f fd F => ?_
  refine F.ok scStack (fun vs H Q E h => ?_) (fun cdv A outer s H vs Q E hr h => ?_)
  · obtain ⟨a, b, f, lv, i, rfl, _⟩ := h
    rfl
  · obtain ⟨a, b, fo, lv, i, rfl, hF, hb, hp, hl, hv, hi, k⟩ := h
    have hr1 : Room 1 (A.deeper (envOfC "stack" (defScope sStack) s.heap.objs.size f cdv)) := Room.mono hr (by decide)
    refine ⟨_, pss_cons (ps_if (pt_not (pt_val (pe_call GI hr (by rfl) gI kI bI .nil pass0 (pa_cons (pv 0) (pa_cons (pv 1) pa_nil))))) (pss_one ps_never) pss_nil)
      (pss_cons (ps_if (pt_not (pt_val (pe_call GP hr (by rfl) gP kP bP .nil pass0 (pa_cons (pv 0) (pa_cons (pv 2) pa_nil))))) (pss_one ps_never) pss_nil)
      (pss_one (ps_ret (pe_ix ix_list (pe_call GS hr1 (by rfl) gS kS bS .nil pass0 (pa_cons (pv 0) (pa_cons (pv 1) pa_nil))) (pv 2) (fun _ _ => rfl))))), ?_⟩
    refine ⟨_, rfl, _, rfl, a, b, fo, lv, rfl, hF, hb, hp, hv, fun H1 s1 => ⟨true, rfl, ?_⟩⟩
    refine ifF (by decide) ?_
    have hF1 := foAt_same s1 hF
    refine ⟨_, rfl, _, rfl, a, fo, i, rfl, hF1, hi, true, rfl, ?_⟩
    refine ifF (by decide) ?_
    refine ⟨_, rfl, _, rfl, a, b, fo, lv, rfl, hF1, s1 _ _ hb, hp, hl, hv, fun r us H2 s2 hr2 hR => ?_⟩
    obtain ⟨t, hut, ht⟩ := hR.2 i hi
    exact ⟨_, rfl, r, us, (i : Int), _, rfl, rfl, .inl (.inl hr2), atI_nat hut, k t H2 (s1.trans s2) ht⟩
/-! _note_at -/
def spNoteAt (C : Addr) : Sp := fun vs H Q _ => ∃ (a r : Addr) (f : Fo) (lv : List Nat) (us : List V) (i : Nat), vs = [.ref a, .ref r, vn i] ∧ FoAt C H a f ∧ FoOk f ∧ Lv f.ps lv ∧ H r = some (.lst us) ∧ Rows H (stk f.ps lv) f.ps.length us ∧ i < f.ps.length ∧
  ∀ v H', Same H H' → NoteR H' v (noteAt f.ps f.be f.as lv i) → Q v H'
def nNoteAt : List Str := ["forest", "found", "place", "held", "ahead", "places", "asks", "i", "j"]
theorem scNoteAt : FnScope nNoteAt ["forest", "found", "place"] (defScope sNoteAt) := ⟨rfl, rfl, rfl, by decide +kernel, rfl, by decide +kernel, by decide +kernel⟩
theorem takeLe {α : Type} (xs : List α) (m : Nat) : (xs.take m).length ≤ xs.length := by rw [List.length_take]; omega
theorem heldLen {f : Fo} {lv : List Nat} {i : Nat} (ok : FoOk f) (hi : i < f.ps.length) : (heldAt f.ps lv i).length ≤ 1000 := by
  have h1 := road_len ok.ps i hi
  have h2 := ok.l1
  unfold heldAt
  split
  · omega
  · rw [List.length_drop]; omega
theorem lastDrop {xs : List Nat} (h : xs ≠ []) : xs.getLast? = some (xs.getLast h) := List.getLast?_eq_some_getLast h
theorem dNoteAt (B : Defs K mg C) : Def P w K mg base "_note_at" 5 ["forest", "found", "place"] (spNoteAt C) := by
  obtain ⟨fW, fdW, GW, gW, kW, bW⟩ := dWay (P := P) (w := w) (base := base) B
  have N := B.N
  have T := B.T
  refine def_of B.na fun f fd F => ?_
  refine F.ok scNoteAt (fun vs H Q E h => ?_) (fun cdv A outer s H vs Q E hr h => ?_)
  · obtain ⟨a, r, f, lv, us, i, rfl, _⟩ := h
    rfl
  · obtain ⟨a, r, fo, lv, us, i, rfl, hF, ok, hv, hr0, hR, hi, k⟩ := h
    refine ⟨_, pss_cons (ps_set (i := 3) scNoteAt.nd rfl (Or.inl rfl) (pe_call GW hr (by rfl) gW kW bW .nil pass0 (pa_cons (pv 0) (pa_cons (pv 2) pa_nil))))
      (pss_cons (ps_set (i := 4) scNoteAt.nd rfl (Or.inl rfl) (pe_slice sl_tupA (pe_ix ix_list (pv 1) (pv 2) (fun _ _ => rfl)) po_none (po_some (pe_un un_neg pe_int))))
      (pss_cons (ps_if (pt_truth (pv 4) (by intro _; rfl)) (pss_one (ps_set (i := 3) scNoteAt.nd rfl (Or.inl rfl) (pe_slice sl_tupA (pv 3) (po_some (pe_op op_add (pe_bt PySem.F.slot_tuple_index PySem.F.type_tuple_index mt_tidx (pv 3) (pa_cons (pe_ix ix_tup (pv 4) (pe_un un_neg pe_int) (fun _ _ => rfl)) pa_nil)) pe_int)) po_none))) pss_nil)
      (pss_cons (ps_set (i := 5) scNoteAt.nd rfl (Or.inl rfl) (pe_callTy call_tuple_of (by rfl) N.is.tup (by decide +kernel) (pa_cons (pe_lc (own := [("i", 7)]) (g := gName 7) (tt := tTest (tOp (rIn K false) (tVar 7) (tFld K (tVar 0) "bearing"))) rfl scNoteAt.nd (pi_tup (pv 3))
        (blkOk_by (N := nNoteAt) (sc := defScope sNoteAt) (by decide +kernel)) (fun _ _ _ _ _ => pg_name (i := 7) scNoteAt.nd rfl (Or.inl rfl)) (fun _ _ _ _ _ => pts_one (pt_cmpR op_in_seq (pv 7) (pe_fld (pv 0) rfl) (by rfl))) (fun _ _ _ _ _ => pv 7)) pa_nil)))
      (pss_cons (ps_set (i := 6) scNoteAt.nd rfl (Or.inl rfl) (pe_callTy call_tuple_of (by rfl) N.is.tup (by decide +kernel) (pa_cons (pe_lc (own := [("j", 8)]) (g := gName 8) (tt := tTest (tOp (rIn K false) (tVar 2) (tOp (rIxL K) (tVar 1) (tVar 8)))) rfl scNoteAt.nd (pi_tup (pe_fld (pv 0) rfl))
        (blkOk_by (N := nNoteAt) (sc := defScope sNoteAt) (by decide +kernel)) (fun _ _ _ _ _ => pg_name (i := 8) scNoteAt.nd rfl (Or.inl rfl)) (fun _ _ _ _ _ => pts_one (pt_cmpR op_in_seq (pv 2) (pe_ix (r := rIxL K) ix_list (pv 1) (pv 8) (fun _ _ => rfl)) (by rfl))) (fun _ _ _ _ _ => pv 8)) pa_nil)))
      (pss_one (ps_ret (pe_tup (pa_cons (pv 5) (pa_cons (pv 6) pa_nil))))))))), ?_⟩
    refine ⟨_, rfl, _, rfl, a, fo, i, rfl, hF, ok.ps, ok.l1, hi, fun h H1 s1 hh => ?_⟩
    obtain ⟨t, hut, ht⟩ := (rowsSame s1 hR).2 i hi
    refine ⟨_, rfl, _, rfl, r, us, (i : Int), _, rfl, rfl, .inl (.inl (s1 _ _ hr0)), atI_nat hut, _, rfl, _, rfl, ?_⟩
    refine slS (tnL ht) fun b2 H2 s2 hc => ?_
    have hc : SqT K H2 b2 ((stk fo.ps lv i).dropLast.map vn) := by rw [List.map_dropLast, ← cutInit]; exact hc
    refine ⟨_, rfl, _, .inr (.inl ⟨_, hc, rfl⟩), ?_⟩
    have hh2 : TDn H2 h (road fo.ps i) := tdSame s2 hh
    by_cases hne : (stk fo.ps lv i).dropLast = []
    · refine ifF (by rw [hne]; decide) ?_
      have hheld : heldAt fo.ps lv i = road fo.ps i := by unfold heldAt; rw [hne]; rfl
      have hq : SqT K H2 h ((heldAt fo.ps lv i).map vn) := by rw [hheld]; exact tdL hh2
      have S := s1.trans s2
      refine ⟨_, rfl, h, rfl, ⟨_, hq⟩, fun D nD => ?_⟩
      refine lc_tup (xs := (heldAt fo.ps lv i).map vn) (fun m H' => Same H2 H' ∧ H' D = some (.lst ((((heldAt fo.ps lv i).take m).filter fun x => decide (x ∈ fo.be)).map vn))) ⟨smUpd nD, upd_same⟩ (fun m H' _ z => sameT z.1 hq) ?_ ?_
      · rintro m x H' hx ⟨sm, hD⟩
        obtain ⟨n, hn, rfl⟩ := vn_get hx
        obtain ⟨dx, ap, ab, aa, h0, h1, h2, h3⟩ := foAt_same (S.trans sm) hF
        refine ⟨rfl, _, rfl, _, rfl, a, C, dx, _, _, rfl, h0, T.cl, T.nB, fB, ab, _, rfl, .inr (tnL h2), rfl, vn_flat _, _, rfl, ?_⟩
        have et : (heldAt fo.ps lv i).take (m + 1) = (heldAt fo.ps lv i).take m ++ [n] := by rw [List.take_add_one, hn]; rfl
        by_cases c : n ∈ fo.be
        · refine ifT (by show inV (vn n) (fo.be.map vn) = true; rw [inV_vn]; exact decide_eq_true c) ?_
          refine ⟨_, rfl, _, hD, small1000 (by rw [List.length_map]; exact Nat.le_trans (List.length_filter_le _ _) (Nat.le_trans (takeLe _ _) (heldLen ok hi))), smOver nD sm, ?_⟩
          rw [upd_same, et, List.filter_append, List.map_append, List.filter_cons_of_pos (by simpa using c)]
          rfl
        · refine ifF (by show ¬ inV (vn n) (fo.be.map vn) = true; rw [inV_vn]; simpa using c) ?_
          refine ⟨sm, ?_⟩
          rw [et, List.filter_append, List.filter_cons_of_neg (by simpa using c)]
          show _ = some (HO.lst ((_ ++ []).map vn))
          rw [List.append_nil]
          exact hD
      · rintro H5 ⟨sm5, hD5⟩
        rw [List.length_map, List.take_length] at hD5
        refine ⟨D, _, rfl, .inl ⟨.inl (.inl hD5), fun q nq => ?_⟩⟩
        have S6 := (S.trans sm5).trans (smUpd (o := .tup (((heldAt fo.ps lv i).filter fun x => decide (x ∈ fo.be)).map vn)) nq)
        have hq6 : TN (upd H5 q (.tup (((heldAt fo.ps lv i).filter fun x => decide (x ∈ fo.be)).map vn))) q (noteAt fo.ps fo.be fo.as lv i).1 := upd_same
        generalize upd H5 q (.tup (((heldAt fo.ps lv i).filter fun x => decide (x ∈ fo.be)).map vn)) = H6 at S6 hq6 ⊢
        obtain ⟨dx, ap, ab, aa, h0, h1, h2, h3⟩ := foAt_same S6 hF
        refine ⟨_, rfl, a, C, dx, _, _, rfl, h0, T.cl, T.nA, fA, aa, rfl, ⟨_, tnL h3⟩, fun D2 nD2 => ?_⟩
        refine lc_tup (xs := fo.as.map vn) (fun m H' => Same H6 H' ∧ H' D2 = some (.lst (((fo.as.take m).filter fun j => decide (i ∈ stk fo.ps lv j)).map vn))) ⟨smUpd nD2, upd_same⟩ (fun m H' _ z => tnL (z.1 _ _ h3)) ?_ ?_
        · rintro m x H' hx ⟨sm, hD⟩
          obtain ⟨n, hn, rfl⟩ := vn_get hx
          have hnl := ok.al n (List.mem_of_getElem? hn)
          obtain ⟨t, hut, ht⟩ := (rowsSame (S6.trans sm) hR).2 n hnl
          refine ⟨rfl, _, rfl, _, rfl, _, rfl, r, us, (n : Int), _, rfl, rfl, .inl (.inl ((S6.trans sm) _ _ hr0)), atI_nat hut, t, _, rfl, .inr (tnL ht), rfl, vn_flat _, _, rfl, ?_⟩
          have et : fo.as.take (m + 1) = fo.as.take m ++ [n] := by rw [List.take_add_one, hn]; rfl
          by_cases c : i ∈ stk fo.ps lv n
          · refine ifT (by show inV (vn i) ((stk fo.ps lv n).map vn) = true; rw [inV_vn]; exact decide_eq_true c) ?_
            refine ⟨_, rfl, _, hD, small1000 (by rw [List.length_map]; exact Nat.le_trans (List.length_filter_le _ _) (Nat.le_trans (takeLe _ _) (by have := lotLen ok.as ok.al; have := ok.l1; omega))), smOver nD2 sm, ?_⟩
            rw [upd_same, et, List.filter_append, List.map_append, List.filter_cons_of_pos (by simpa using c)]
            rfl
          · refine ifF (by show ¬ inV (vn i) ((stk fo.ps lv n).map vn) = true; rw [inV_vn]; simpa using c) ?_
            refine ⟨sm, ?_⟩
            rw [et, List.filter_append, List.filter_cons_of_neg (by simpa using c)]
            show _ = some (HO.lst ((_ ++ []).map vn))
            rw [List.append_nil]
            exact hD
        · rintro H7 ⟨sm7, hD7⟩
          rw [List.length_map, List.take_length] at hD7
          refine ⟨D2, _, rfl, .inl ⟨.inl (.inl hD7), fun q2 nq2 => ?_⟩⟩
          have S8 := smUpd (o := .tup ((fo.as.filter fun j => decide (i ∈ stk fo.ps lv j)).map vn)) nq2
          refine ⟨_, rfl, _, rfl, by show 2 ≤ sizeLine; decide, fun t nt => ?_⟩
          have S9 := smUpd (o := .tup [.ref q, .ref q2]) nt
          exact k _ _ ((S6.trans sm7).trans (S8.trans S9)) ⟨t, q, q2, rfl, upd_same, S9 _ _ (S8 _ _ (sm7 _ _ hq6)), S9 _ _ upd_same⟩
    · have hem : ((stk fo.ps lv i).dropLast.map vn).isEmpty = false := by
        cases hz : (stk fo.ps lv i).dropLast with
        | nil => exact absurd hz hne
        | cons _ _ => rfl
      refine ifT (by rw [hem]; rfl) ?_
      have hx : (stk fo.ps lv i).dropLast.getLast hne ∈ road fo.ps i := stk_sub ok.ps i hi _ (List.dropLast_subset _ (List.getLast_mem hne))
      have hheld : heldAt fo.ps lv i = (road fo.ps i).drop ((road fo.ps i).idxOf ((stk fo.ps lv i).dropLast.getLast hne) + 1) := by unfold heldAt; rw [lastDrop hne]
      generalize hxx : (stk fo.ps lv i).dropLast.getLast hne = x at hx hheld
      obtain ⟨i1, i2⟩ := vn_idx hx
      refine ⟨_, rfl, _, rfl, ⟨h, _, rfl, hh2⟩, _, rfl, _, rfl, b2, _, (-1 : Int), _, rfl, rfl, hc, vn_last hne hxx, h, _, _, (road fo.ps i).idxOf x, _, rfl, rfl, tdL hh2, rfl, vn_flat _, i1, by rw [vn_inj]; exact decide_eq_true rfl, i2, _, _, rfl, rfl, _, rfl, ?_⟩
      refine slSN (tdL hh2) fun hb0 H4 s4 hq => ?_
      have e1 : (((road fo.ps i).idxOf x : Nat) : Int) + 1 = (((road fo.ps i).idxOf x + 1 : Nat) : Int) := by omega
      have hq : SqT K H4 hb0 ((heldAt fo.ps lv i).map vn) := by
        rw [hheld, List.map_drop, ← cutDrop, ← e1]
        exact hq
      have S := (s1.trans s2).trans s4
      refine ⟨_, rfl, hb0, rfl, ⟨_, hq⟩, fun D nD => ?_⟩
      refine lc_tup (xs := (heldAt fo.ps lv i).map vn) (fun m H' => Same H4 H' ∧ H' D = some (.lst ((((heldAt fo.ps lv i).take m).filter fun x => decide (x ∈ fo.be)).map vn))) ⟨smUpd nD, upd_same⟩ (fun m H' _ z => sameT z.1 hq) ?_ ?_
      · rintro m x H' hx ⟨sm, hD⟩
        obtain ⟨n, hn, rfl⟩ := vn_get hx
        obtain ⟨dx, ap, ab, aa, h0, h1, h2, h3⟩ := foAt_same (S.trans sm) hF
        refine ⟨rfl, _, rfl, _, rfl, a, C, dx, _, _, rfl, h0, T.cl, T.nB, fB, ab, _, rfl, .inr (tnL h2), rfl, vn_flat _, _, rfl, ?_⟩
        have et : (heldAt fo.ps lv i).take (m + 1) = (heldAt fo.ps lv i).take m ++ [n] := by rw [List.take_add_one, hn]; rfl
        by_cases c : n ∈ fo.be
        · refine ifT (by show inV (vn n) (fo.be.map vn) = true; rw [inV_vn]; exact decide_eq_true c) ?_
          refine ⟨_, rfl, _, hD, small1000 (by rw [List.length_map]; exact Nat.le_trans (List.length_filter_le _ _) (Nat.le_trans (takeLe _ _) (heldLen ok hi))), smOver nD sm, ?_⟩
          rw [upd_same, et, List.filter_append, List.map_append, List.filter_cons_of_pos (by simpa using c)]
          rfl
        · refine ifF (by show ¬ inV (vn n) (fo.be.map vn) = true; rw [inV_vn]; simpa using c) ?_
          refine ⟨sm, ?_⟩
          rw [et, List.filter_append, List.filter_cons_of_neg (by simpa using c)]
          show _ = some (HO.lst ((_ ++ []).map vn))
          rw [List.append_nil]
          exact hD
      · rintro H5 ⟨sm5, hD5⟩
        rw [List.length_map, List.take_length] at hD5
        refine ⟨D, _, rfl, .inl ⟨.inl (.inl hD5), fun q nq => ?_⟩⟩
        have S6 := (S.trans sm5).trans (smUpd (o := .tup (((heldAt fo.ps lv i).filter fun x => decide (x ∈ fo.be)).map vn)) nq)
        have hq6 : TN (upd H5 q (.tup (((heldAt fo.ps lv i).filter fun x => decide (x ∈ fo.be)).map vn))) q (noteAt fo.ps fo.be fo.as lv i).1 := upd_same
        generalize upd H5 q (.tup (((heldAt fo.ps lv i).filter fun x => decide (x ∈ fo.be)).map vn)) = H6 at S6 hq6 ⊢
        obtain ⟨dx, ap, ab, aa, h0, h1, h2, h3⟩ := foAt_same S6 hF
        refine ⟨_, rfl, a, C, dx, _, _, rfl, h0, T.cl, T.nA, fA, aa, rfl, ⟨_, tnL h3⟩, fun D2 nD2 => ?_⟩
        refine lc_tup (xs := fo.as.map vn) (fun m H' => Same H6 H' ∧ H' D2 = some (.lst (((fo.as.take m).filter fun j => decide (i ∈ stk fo.ps lv j)).map vn))) ⟨smUpd nD2, upd_same⟩ (fun m H' _ z => tnL (z.1 _ _ h3)) ?_ ?_
        · rintro m x H' hx ⟨sm, hD⟩
          obtain ⟨n, hn, rfl⟩ := vn_get hx
          have hnl := ok.al n (List.mem_of_getElem? hn)
          obtain ⟨t, hut, ht⟩ := (rowsSame (S6.trans sm) hR).2 n hnl
          refine ⟨rfl, _, rfl, _, rfl, _, rfl, r, us, (n : Int), _, rfl, rfl, .inl (.inl ((S6.trans sm) _ _ hr0)), atI_nat hut, t, _, rfl, .inr (tnL ht), rfl, vn_flat _, _, rfl, ?_⟩
          have et : fo.as.take (m + 1) = fo.as.take m ++ [n] := by rw [List.take_add_one, hn]; rfl
          by_cases c : i ∈ stk fo.ps lv n
          · refine ifT (by show inV (vn i) ((stk fo.ps lv n).map vn) = true; rw [inV_vn]; exact decide_eq_true c) ?_
            refine ⟨_, rfl, _, hD, small1000 (by rw [List.length_map]; exact Nat.le_trans (List.length_filter_le _ _) (Nat.le_trans (takeLe _ _) (by have := lotLen ok.as ok.al; have := ok.l1; omega))), smOver nD2 sm, ?_⟩
            rw [upd_same, et, List.filter_append, List.map_append, List.filter_cons_of_pos (by simpa using c)]
            rfl
          · refine ifF (by show ¬ inV (vn i) ((stk fo.ps lv n).map vn) = true; rw [inV_vn]; simpa using c) ?_
            refine ⟨sm, ?_⟩
            rw [et, List.filter_append, List.filter_cons_of_neg (by simpa using c)]
            show _ = some (HO.lst ((_ ++ []).map vn))
            rw [List.append_nil]
            exact hD
        · rintro H7 ⟨sm7, hD7⟩
          rw [List.length_map, List.take_length] at hD7
          refine ⟨D2, _, rfl, .inl ⟨.inl (.inl hD7), fun q2 nq2 => ?_⟩⟩
          have S8 := smUpd (o := .tup ((fo.as.filter fun j => decide (i ∈ stk fo.ps lv j)).map vn)) nq2
          refine ⟨_, rfl, _, rfl, by show 2 ≤ sizeLine; decide, fun t nt => ?_⟩
          have S9 := smUpd (o := .tup [.ref q, .ref q2]) nt
          exact k _ _ ((S6.trans sm7).trans (S8.trans S9)) ⟨t, q, q2, rfl, upd_same, S9 _ _ (S8 _ _ (sm7 _ _ hq6)), S9 _ _ upd_same⟩
end
end Cn
namespace Cn
open PySem PySem.Spec PyProof.Rows L2 Ck
theorem pairedGet {α β : Type} {F : α → β → Prop} : ∀ {xs : List α} {ys : List β} {i : Nat} {x : α}, Paired F xs ys → xs[i]? = some x → ∃ y, ys[i]? = some y ∧ F x y
  | _, _, i, x, .nil, h => by rw [List.getElem?_nil] at h; cases h
  | _, _, 0, x, .cons a t, h => by cases h; exact ⟨_, rfl, a⟩
  | _, _, i + 1, x, .cons a t, h => by
    rw [List.getElem?_cons_succ] at h
    obtain ⟨y, h1, h2⟩ := pairedGet t h
    exact ⟨y, by rw [List.getElem?_cons_succ]; exact h1, h2⟩
def kept2 (p : List Nat × List Nat) : Bool := !p.1.isEmpty && !p.2.isEmpty
theorem vnEmpty (ns : List Nat) : (ns.map vn).isEmpty = ns.isEmpty := by cases ns <;> rfl
theorem noteUpdN {H' : Hp} {D : Addr} {o : HO} (hD : ∀ ys, H' D ≠ some (.tup ys)) {v : V} {p : List Nat × List Nat} (h : NoteR H' v p) : NoteR (upd H' D o) v p := by
  obtain ⟨t, x, y, e, h1, h2, h3⟩ := h
  have ne : ∀ {a : Addr} {ys : List V}, H' a = some (.tup ys) → upd H' D o a = some (.tup ys) := fun {a ys} e2 => by
    have q : a ≠ D := fun z => hD ys (by rw [← z]; exact e2)
    rw [upd_ne q]
    exact e2
  exact ⟨t, x, y, e, ne h1, ne h2, ne h3⟩
theorem rowsUpdN {H' : Hp} {D : Addr} {o : HO} (hD : ∀ ys, H' D ≠ some (.tup ys)) {g : Nat → List Nat} {n : Nat} {us : List V} (h : Rows H' g n us) : Rows (upd H' D o) g n us := by
  refine ⟨h.1, fun i hi => ?_⟩
  obtain ⟨t, h1, h2⟩ := h.2 i hi
  refine ⟨t, h1, ?_⟩
  have q : t ≠ D := fun z => hD _ (by rw [← z]; exact h2)
  show upd H' D o t = _
  rw [upd_ne q]
  exact h2
/-- the notes by the places at which they are, as the dict of them holds them -/
def heldNotes (ps : List (Option Nat)) (be as lv : List Nat) (n : Nat) : List (Nat × (List Nat × List Nat)) := ((List.range n).map fun s => (s, noteAt ps be as lv s)).filter fun e => kept2 e.2
theorem heldNotes_snd {ps : List (Option Nat)} {be as lv : List Nat} {n : Nat} : (heldNotes ps be as lv n).map (·.2) = notesOf ps be as lv n := by
  unfold heldNotes notesOf
  generalize List.range n = xs
  induction xs with
  | nil => rfl
  | cons x xs ih =>
    rw [List.map_cons, List.map_cons, List.filter_cons, List.filter_cons]
    by_cases c : kept2 (noteAt ps be as lv x) = true
    · rw [if_pos c, if_pos (show (!(noteAt ps be as lv x).1.isEmpty && !(noteAt ps be as lv x).2.isEmpty) = true from c), List.map_cons, ih]
    · rw [if_neg c, if_neg (show ¬ (!(noteAt ps be as lv x).1.isEmpty && !(noteAt ps be as lv x).2.isEmpty) = true from c), ih]
theorem heldNotes_succ {ps : List (Option Nat)} {be as lv : List Nat} {n : Nat} : heldNotes ps be as lv (n + 1) = heldNotes ps be as lv n ++ if kept2 (noteAt ps be as lv n) = true then [(n, noteAt ps be as lv n)] else [] := by
  unfold heldNotes
  rw [List.range_succ, List.map_append, List.filter_append]
  show _ ++ List.filter _ [(n, noteAt ps be as lv n)] = _
  rw [List.filter_cons]
  rfl
theorem heldNotes_len {ps : List (Option Nat)} {be as lv : List Nat} {n : Nat} : (heldNotes ps be as lv n).length ≤ n := by
  unfold heldNotes
  refine Nat.le_trans (List.length_filter_le _ _) ?_
  rw [List.length_map, List.length_range]
  exact Nat.le_refl _
theorem heldNotes_lt {ps : List (Option Nat)} {be as lv : List Nat} {n : Nat} {e : Nat × (List Nat × List Nat)} (h : e ∈ heldNotes ps be as lv n) : e.1 < n := by
  obtain ⟨h1, _⟩ := List.mem_filter.mp h
  obtain ⟨s, h2, rfl⟩ := List.mem_map.mp h1
  exact List.mem_range.mp h2
def ByPlace (H : Hp) (kvs : List (L2.Key × V)) (l : List (Nat × (List Nat × List Nat))) : Prop := Paired (fun kv e => kv.1 = (Sum.inl ((e.1 : Nat) : Int) : L2.Key) ∧ NoteR H kv.2 e.2) kvs l
theorem byPlaceSame {H H' : Hp} {kvs : List (L2.Key × V)} {l : List (Nat × (List Nat × List Nat))} (s : Same H H') (h : ByPlace H kvs l) : ByPlace H' kvs l := Paired.mapP h fun _ _ z => ⟨z.1, noteSame s z.2⟩
theorem byPlaceUpd {H' : Hp} {D : Addr} {o : HO} (hD : ∀ ys, H' D ≠ some (.tup ys)) {kvs : List (L2.Key × V)} {l : List (Nat × (List Nat × List Nat))} (h : ByPlace H' kvs l) : ByPlace (upd H' D o) kvs l := Paired.mapP h fun _ _ z => ⟨z.1, noteUpdN hD z.2⟩
theorem byPlaceAbs {H : Hp} {k : Nat} : ∀ {kvs : List (L2.Key × V)} {l : List (Nat × (List Nat × List Nat))}, ByPlace H kvs l → (∀ e ∈ l, e.1 ≠ k) → valV kvs (Sum.inl ((k : Nat) : Int) : L2.Key) = none
  | _, _, .nil, _ => rfl
  | _, _, .cons a t, h => by
    rw [valV_neg (by rw [a.1]; intro z; exact h _ List.mem_cons_self (Int.ofNat.inj (Sum.inl.inj z)))]
    exact byPlaceAbs t fun e he => h e (List.mem_cons_of_mem _ he)
theorem byPlaceGet {H : Hp} : ∀ {kvs : List (L2.Key × V)} {l : List (Nat × (List Nat × List Nat))} {i : Nat} {k : L2.Key} {v : V}, ByPlace H kvs l → (l.map (·.1)).Nodup → kvs[i]? = some (k, v) → valV kvs k = some v
  | _, _, i, k, v, .nil, _, h => by rw [List.getElem?_nil] at h; cases h
  | _, _, 0, k, v, .cons a t, _, h => by cases h; rw [valV_pos rfl]
  | _, _, i + 1, k, v, .cons (a := a0) (b := b0) a t, nd, h => by
    rw [List.getElem?_cons_succ] at h
    rw [List.map_cons, List.nodup_cons] at nd
    have ht := byPlaceGet t nd.2 h
    obtain ⟨y, hy, hk, _⟩ := pairedGet t h
    rw [valV_neg (by
      rw [a.1]
      intro z
      have z2 : (Sum.inl ((b0.1 : Nat) : Int) : L2.Key) = Sum.inl ((y.1 : Nat) : Int) := z.trans hk
      have z3 : b0.1 = y.1 := Int.ofNat.inj (Sum.inl.inj z2)
      exact nd.1 (by rw [z3]; exact List.mem_map_of_mem (List.mem_of_getElem? hy)))]
    exact ht
theorem heldNotes_nodup {ps : List (Option Nat)} {be as lv : List Nat} {n : Nat} : ((heldNotes ps be as lv n).map (·.1)).Nodup := by
  induction n with
  | zero => exact List.nodup_nil
  | succ n ih =>
    rw [heldNotes_succ]
    split
    · rw [List.map_append, List.nodup_append]
      refine ⟨ih, List.nodup_cons.mpr ⟨fun z => (by cases z), List.nodup_nil⟩, ?_⟩
      rintro x hx y hy rfl
      obtain ⟨e, he, rfl⟩ := List.mem_map.mp hx
      have := heldNotes_lt he
      have hy2 : e.1 = n := by simpa using hy
      omega
    · rw [List.append_nil]; exact ih
theorem byPlaceVals {H : Hp} : ∀ {kvs : List (L2.Key × V)} {l : List (Nat × (List Nat × List Nat))}, ByPlace H kvs l → NotesR H (kvs.map (·.2)) (l.map (·.2))
  | _, _, .nil => .nil
  | _, _, .cons a t => .cons a.2 (byPlaceVals t)
section
variable {P : Program} {w : World} {K : PySem.W.Frag} {mg : Str → Option Value} {base : Heap} {C : Addr}
def spByPlace (C : Addr) : Sp := fun vs H Q _ => ∃ (a b : Addr) (f : Fo) (lv : List Nat), vs = [.ref a, .ref b] ∧ FoAt C H a f ∧ TN H b lv ∧ FoOk f ∧ Lv f.ps lv ∧
  ∀ D kvs H', Same H H' → H D = none → H' D = some (.dK kvs) → ByPlace H' kvs (heldNotes f.ps f.be f.as lv f.ps.length) → Q (.ref D) H'
def nByPlace : List Str := ["forest", "plan", "found", "held", "s", "places", "asks"]
theorem scByPlace : FnScope nByPlace ["forest", "plan"] (defScope sByPlace) := ⟨rfl, rfl, rfl, by decide +kernel, rfl, by decide +kernel, by decide +kernel⟩
theorem dByPlace (B : Defs K mg C) : Def P w K mg base "notes_by_place" 6 ["forest", "plan"] (spByPlace C) := by
  obtain ⟨fS, fdS, GS, gS, kS, bS⟩ := dStacks (P := P) (w := w) (base := base) B
  obtain ⟨fN, fdN, GN, gN, kN, bN⟩ := dNoteAt (P := P) (w := w) (base := base) B
  have N := B.N
  have nd := scByPlace.nd
  refine def_of B.nbp fun f fd F => ?_
  refine F.ok scByPlace (fun vs H Q E h => ?_) (fun cdv A outer s H vs Q E hr h => ?_)
  · obtain ⟨a, b, f, lv, rfl, _⟩ := h
    rfl
  · obtain ⟨a, b, fo, lv, rfl, hF, hb, ok, hv, k⟩ := h
    have hu : (A.deeper (envOfC "notes_by_place" (defScope sByPlace) s.heap.objs.size f cdv)).units + 1 < cLine := by have := hr.units; omega
    have hr1 : Room 1 (A.deeper (envOfC "notes_by_place" (defScope sByPlace) s.heap.objs.size f cdv)) := Room.mono hr (by decide)
    refine ⟨_, pss_cons (ps_set (i := 2) nd rfl (Or.inl rfl) (pe_call GS hr1 (by rfl) gS kS bS .nil pass0 (pa_cons (pv 0) (pa_cons (pv 1) pa_nil))))
      (pss_cons (ps_set (i := 3) nd rfl (Or.inl rfl) pe_dnewK)
      (pss_cons (ps_for PassesOwn.never rfl (pi_range1 (by rfl) N.range (pa_cons (pe_callB call_len_seq (by rfl) N.is.len PySem.boot_len (pa_cons (pv 1) pa_nil)) pa_nil)) (pg_name (i := 4) nd rfl (Or.inl rfl))
        (pss_cons (ps_asg (pe_call GN hr (by rfl) gN kN bN .nil pass0 (pa_cons (pv 0) (pa_cons (pv 2) (pa_cons (pv 4) pa_nil)))) (pg_tup rfl (pgs_cons (pg_name (i := 5) nd rfl (Or.inl rfl)) (pgs_cons (pg_name (i := 6) nd rfl (Or.inl rfl)) pgs_nil))))
        (pss_one (ps_if (PW.pt (pw_and (pt_truth (pv 5) (by intro _; rfl)) (pw_and1 (pt_truth (pv 6) (by intro _; rfl)))))
          (pss_one (ps_dput hu (pv 3) (pv 4) (pe_tup (pa_cons (pv 5) (pa_cons (pv 6) pa_nil))) rfl)) pss_nil))))
      (pss_one (ps_ret (pv 3))))), ?_⟩
    have l60 := ok.l1
    refine ⟨_, rfl, _, rfl, a, b, fo, lv, rfl, hF, hb, ok.ps, l60, hv, fun r us H1 s1 hr2 hR => ?_⟩
    intro D nD
    have S2 := smUpd (o := .dK []) nD
    have hD0 : H D = none := by
      cases e : H D with
      | none => rfl
      | some o => rw [s1 _ _ e] at nD; cases nD
    have hb2 : TN (upd H1 D (.dK [])) b lv := S2 _ _ (s1 _ _ hb)
    have hF2 := foAt_same (s1.trans S2) hF
    have hr3 := S2 _ _ hr2
    have hR2 := rowsSame S2 hR
    have hD2 : upd H1 D (.dK []) D = some (.dK []) := upd_same
    have SS := s1.trans S2
    generalize upd H1 D (.dK []) = H2 at hb2 hF2 hr3 hR2 hD2 SS ⊢
    refine ⟨_, rfl, b, _, rfl, .inr (tnL hb2), ((lv.map vn).length : Int), rfl, by omega, by rw [List.length_map, hv.1]; omega, ?_⟩
    rw [List.length_map, hv.1, Int.toNat_natCast]
    refine for_range (lo := 0) (n := fo.ps.length) (fun i σ H' => Same H H' ∧ FoAt C H' a fo ∧ TN H' b lv ∧ H' r = some (.lst us) ∧ Rows H' (stk fo.ps lv) fo.ps.length us ∧ (∃ kvs, H' D = some (.dK kvs) ∧ ByPlace H' kvs (heldNotes fo.ps fo.be fo.as lv i)) ∧ ∃ t4 t5 t6 : Option V, σ = [some (.ref a), some (.ref b), some (.ref r), some (.ref D), t4, t5, t6])
      ⟨SS, hF2, hb2, hr3, hR2, ⟨[], hD2, .nil⟩, none, none, none, rfl⟩ ?_ ?_
    · rintro i σ H3 hi ⟨s3, hF3, hb3, hr4, hR3, ⟨kvs, hD3, hK⟩, t4, t5, t6, rfl⟩
      rw [Int.zero_add]
      refine ⟨_, rfl, _, rfl, _, rfl, a, r, fo, lv, us, i, rfl, hF3, ok, hv, hr4, hR3, hi, fun v H4 s4 hv4 => ?_⟩
      obtain ⟨t, x1, y1, rfl, ht, hx1, hy1⟩ := hv4
      have hD4 := s4 _ _ hD3
      have S4 := s3.trans s4
      have hK4 := byPlaceSame s4 hK
      refine ⟨t, _, rfl, .inl (.inl ht), rfl, _, _, rfl, _, _, rfl, rfl, ?_⟩
      refine ⟨_, rfl, _, .inr (.inl ⟨_, tnL hx1, rfl⟩), ?_⟩
      rw [vnEmpty]
      have hno : kept2 (noteAt fo.ps fo.be fo.as lv i) = false → ByPlace H4 kvs (heldNotes fo.ps fo.be fo.as lv (i + 1)) := fun c => by
        rw [heldNotes_succ, c, if_neg Bool.false_ne_true, List.append_nil]
        exact hK4
      cases e1 : (noteAt fo.ps fo.be fo.as lv i).1.isEmpty with
      | true =>
        refine ifF (by decide) ?_
        refine ifF (by decide) ?_
        exact ⟨S4, foAt_same s4 hF3, s4 _ _ hb3, s4 _ _ hr4, rowsSame s4 hR3, ⟨kvs, hD4, hno (by unfold kept2; rw [e1]; rfl)⟩, _, _, _, rfl⟩
      | false =>
        refine ifT (by decide) ?_
        refine ⟨_, rfl, _, .inr (.inl ⟨_, tnL hy1, rfl⟩), ?_⟩
        rw [vnEmpty]
        cases e2 : (noteAt fo.ps fo.be fo.as lv i).2.isEmpty with
        | true =>
          refine ifF (by decide) ?_
          exact ⟨S4, foAt_same s4 hF3, s4 _ _ hb3, s4 _ _ hr4, rowsSame s4 hR3, ⟨kvs, hD4, hno (by unfold kept2; rw [e1, e2]; rfl)⟩, _, _, _, rfl⟩
        | false =>
          refine ifT (by decide) ?_
          refine ⟨_, rfl, _, rfl, by show 2 ≤ sizeLine; decide, fun t2 n2 => ?_⟩
          have S5 := smUpd (o := .tup [.ref x1, .ref y1]) n2
          have hD5 := S5 _ _ hD4
          have hn5 : NoteR (upd H4 t2 (.tup [.ref x1, .ref y1])) (.ref t2) (noteAt fo.ps fo.be fo.as lv i) := ⟨t2, x1, y1, rfl, upd_same, S5 _ _ hx1, S5 _ _ hy1⟩
          have S45 := S4.trans S5
          have s45 := s4.trans S5
          have hK5 := byPlaceSame S5 hK4
          generalize upd H4 t2 (.tup [.ref x1, .ref y1]) = H5 at hD5 hn5 S45 s45 hK5 ⊢
          have hl : kvs.length ≤ i := by rw [Paired.length hK5]; exact heldNotes_len
          refine ⟨_, rfl, _, rfl, D, _, rfl, DPut.k (k := Sum.inl ((i : Nat) : Int)) hD5 (small1000 (by omega)), ?_⟩
          have hab : valV kvs (Sum.inl ((i : Nat) : Int) : L2.Key) = none := byPlaceAbs hK5 fun e he z => by
            have := heldNotes_lt he
            omega
          rw [putK_new _ hab]
          have nt : ∀ ys, H5 D ≠ some (.tup ys) := fun ys z => by rw [hD5] at z; cases z
          have So : Same H (upd H5 D (.dK (kvs ++ [(Sum.inl ((i : Nat) : Int), .ref t2)]))) := smOver hD0 S45
          have So2 : ∀ {a : Addr} {o : HO}, H3 a = some o → a ≠ D → upd H5 D (.dK (kvs ++ [(Sum.inl ((i : Nat) : Int), .ref t2)])) a = some o := fun {a o} h1 h2 => by
            rw [upd_ne h2]; exact s45 _ _ h1
          have bD : b ≠ D := fun z => by rw [z] at hb3; rw [show H3 D = _ from hb3] at hD3; cases hD3
          have rD : r ≠ D := fun z => by rw [z, hD3] at hr4; cases hr4
          refine ⟨So, foAt_same So hF, So2 hb3 bD, So2 hr4 rD, ?_, ⟨_, upd_same, ?_⟩, _, _, _, rfl⟩
          · exact rowsUpdN nt (rowsSame s45 hR3)
          · rw [heldNotes_succ, if_pos (by unfold kept2; rw [e1, e2]; rfl)]
            exact paired_snoc (byPlaceUpd nt hK5) ⟨rfl, noteUpdN nt hn5⟩
    · rintro σ H3 ⟨s3, hF3, hb3, hr4, hR3, ⟨kvs, hD3, hK⟩, t4, t5, t6, rfl⟩
      exact ⟨_, rfl, k D kvs H3 s3 hD0 hD3 hK⟩
end
section
variable {P : Program} {w : World} {K : PySem.W.Frag} {mg : Str → Option Value} {base : Heap} {C : Addr}
def spNotesOf (C : Addr) : Sp := fun vs H Q _ => ∃ (a b : Addr) (f : Fo) (lv : List Nat), vs = [.ref a, .ref b] ∧ FoAt C H a f ∧ TN H b lv ∧ FoOk f ∧ Lv f.ps lv ∧
  ∀ r us H', Same H H' → H' r = some (.tup us) → NotesR H' us (notesOf f.ps f.be f.as lv f.ps.length) → Q (.ref r) H'
def nNotesOf : List Str := ["forest", "plan", "held", "s"]
theorem scNotesOf : FnScope nNotesOf ["forest", "plan"] (defScope sNotesOf) := ⟨rfl, rfl, rfl, by decide +kernel, rfl, by decide +kernel, by decide +kernel⟩
theorem dNotesOf (B : Defs K mg C) : Def P w K mg base "notes_of" 7 ["forest", "plan"] (spNotesOf C) := by
  obtain ⟨fI, fdI, GI, gI, kI, bI⟩ := dIsPlan (P := P) (w := w) (base := base) B
  obtain ⟨fB, fdB, GB, gB, kB, bB⟩ := dByPlace (P := P) (w := w) (base := base) B
  have N := B.N
  have nd := scNotesOf.nd
  refine def_of B.no fun f fd F => ?_
  refine F.ok scNotesOf (fun vs H Q E h => ?_) (fun cdv A outer s H vs Q E hr h => ?_)
  · obtain ⟨a, b, f, lv, rfl, _⟩ := h
    rfl
  · obtain ⟨a, b, fo, lv, rfl, hF, hb, ok, hv, k⟩ := h
    have hu : (A.deeper (envOfC "notes_of" (defScope sNotesOf) s.heap.objs.size f cdv)).units + 1 < cLine := by have := hr.units; omega
    have hr3 : Room 3 (A.deeper (envOfC "notes_of" (defScope sNotesOf) s.heap.objs.size f cdv)) := Room.mono hr (by decide)
    refine ⟨_, pss_cons (ps_if (pt_not (pt_val (pe_call GI hr3 (by rfl) gI kI bI .nil pass0 (pa_cons (pv 0) (pa_cons (pv 1) pa_nil))))) (pss_one ps_never) pss_nil)
      (pss_cons (ps_set (i := 2) nd rfl (Or.inr rfl) (pe_call GB hr (by rfl) gB kB bB .nil pass0 (pa_cons (pv 0) (pa_cons (pv 1) pa_nil))))
      (pss_one (ps_ret (pe_callTy call_tuple_of (by rfl) N.is.tup (by decide +kernel) (pa_cons (pe_lock (pe_lc (own := [("s", 3)]) (g := gName 3) (tt := tYes) rfl nd (pi_keys (pv 2))
        (blkOk_by (N := nNotesOf) (sc := defScope sNotesOf) (by decide +kernel)) (fun _ _ _ _ _ => pg_name (i := 3) nd rfl (Or.inl rfl)) (fun _ _ _ _ _ => pts_nil)
        (fun _ _ _ _ _ => pe_dget hu (pv 2) (pv 3) (fun _ _ => rfl)))) pa_nil))))), ?_⟩
    refine ⟨_, rfl, _, rfl, a, b, fo, lv, rfl, hF, hb, ok.ps, hv, fun H1 s1 => ⟨true, rfl, ?_⟩⟩
    refine ifF (by decide) ?_
    refine ⟨_, rfl, _, rfl, a, b, fo, lv, rfl, foAt_same s1 hF, s1 _ _ hb, ok, hv, fun D kvs H2 s2 nD hD hK => ?_⟩
    refine ⟨D, _, hD, trivial, fun od => ?_⟩
    have hL : upd H2 D (.frz od (.dK kvs)) D = some (.frz od (.dK kvs)) := upd_same
    have nt : ∀ ys, H2 D ≠ some (.tup ys) := fun ys z => by rw [hD] at z; cases z
    have hKL := byPlaceUpd (o := .frz od (.dK kvs)) nt hK
    have nD0 : H D = none := by
      cases e : H D with
      | none => rfl
      | some o => rw [s1 _ _ e] at nD; cases nD
    have SL : Same H (upd H2 D (.frz od (.dK kvs))) := smOver nD0 (s1.trans s2)
    generalize upd H2 D (.frz od (.dK kvs)) = HL at hL hKL SL ⊢
    have hlen : kvs.length ≤ fo.ps.length := by rw [Paired.length hK]; exact heldNotes_len
    have l60 := ok.l1
    refine ⟨_, rfl, D, od, rfl, .inl ⟨_, hL, fun D2 nD2 => ?_⟩⟩
    refine lc_it walk_keys (fun m H' => Same HL H' ∧ H' D2 = some (.lst ((kvs.take m).map (·.2)))) ⟨smUpd nD2, upd_same⟩ (fun m H' _ z => z.1 _ _ hL) ?_ ?_
    · rintro m x H0 H' hm ⟨sm, hW⟩ ⟨rfl, kk, v, hkv, rfl⟩
      have hget : DGet H' D (kV kk) (some v) := .inl ⟨kvs, kk, .inr ⟨od, sm _ _ hL⟩, rfl, (byPlaceGet hK heldNotes_nodup hkv).symm⟩
      refine ⟨rfl, _, rfl, _, rfl, D, _, rfl, hget, ?_⟩
      have hl : ((kvs.take m).map (·.2)).length ≤ m := by rw [List.length_map, List.length_take]; omega
      refine ⟨_, hW, small1000 (by omega), smOver nD2 sm, ?_⟩
      rw [upd_same, List.take_add_one, hkv, List.map_append]
      rfl
    · rintro H3 ⟨sm3, hW⟩
      rw [List.take_length] at hW
      have hD3 := sm3 _ _ hL
      have ne : D2 ≠ D := fun z => by rw [z, hL] at nD2; cases nD2
      refine ⟨hD3, D2, _, rfl, .inl ⟨.inl (.inl (by rw [upd_ne ne]; exact hW)), fun q nq => ?_⟩⟩
      have S4 : Same H (upd H3 D (.dK kvs)) := smOver nD0 (SL.trans sm3)
      have nt3 : ∀ ys, H3 D ≠ some (.tup ys) := fun ys z => by rw [hD3] at z; cases z
      have hN := byPlaceVals (byPlaceUpd (o := .dK kvs) nt3 (byPlaceSame sm3 hKL))
      rw [heldNotes_snd] at hN
      have S5 := smUpd (o := .tup (kvs.map (·.2))) nq
      exact k q _ _ (S4.trans S5) upd_same (notesSame S5 hN)
end
end Cn
namespace Cn
open PySem PySem.Spec PyProof.Rows L2 Ck
/-! the hand, turned -/
def Kept (p : Addr) (H H' : Hp) : Prop := ∀ b o, b ≠ p → H b = some o → H' b = some o
theorem kept_same {p : Addr} {H H' : Hp} (h : Same H H') : Kept p H H' := fun b o _ e => h b o e
theorem kept_trans {p : Addr} {H H1 H2 : Hp} (h : Kept p H H1) (k : Kept p H1 H2) : Kept p H H2 := fun b o ne e => k b o ne (h b o ne e)
theorem kept_hand {p : Addr} {H : Hp} {o : HO} : Kept p H (upd H p o) := fun b u ne e => by rw [upd_ne ne]; exact e
theorem kept_over {p D : Addr} {H1 H4 : Hp} {o : HO} (nD : H1 D = none) (k : Kept p H1 H4) : Kept p H1 (upd H4 D o) := fun b u ne e => by
  have nb : b ≠ D := fun z => by rw [z, nD] at e; cases e
  rw [upd_ne nb]
  exact k b u ne e
theorem handIn_upd {H : Hp} {p c : Addr} {cells : List Int} (h : HandIn H p c cells) {i g m t : Int} (hi : 0 ≤ i) : HandIn (upd H p (handL c i g m t)) p c cells :=
  ⟨⟨i, g, m, t, upd_same, hi⟩, by rw [upd_ne h.ne.symm]; exact h.ce, h.ne⟩
theorem handIn_keep {H H' : Hp} {p c : Addr} {cells : List Int} (h : HandIn H p c cells) (k : Same H H') : HandIn H' p c cells := by
  obtain ⟨⟨i, g, m, t, hp, hi⟩, hc, ne⟩ := h
  exact ⟨⟨i, g, m, t, k _ _ hp, hi⟩, k _ _ hc, ne⟩
/-- written at D, which is neither the hand nor its cells -/
theorem handIn_write {H0 H : Hp} {p c D : Addr} {cells cells0 : List Int} {o : HO} (h0 : HandIn H0 p c cells0) (nD : H0 D = none) (h : HandIn H p c cells) : HandIn (upd H D o) p c cells := by
  obtain ⟨⟨i, g, m, t, hp, hi⟩, hc, ne⟩ := h
  have n1 : p ≠ D := fun z => by
    obtain ⟨_, _, _, _, e, _⟩ := h0.ob
    rw [z, nD] at e; cases e
  have n2 : c ≠ D := fun z => by
    have e := h0.ce
    rw [z, nD] at e; cases e
  exact ⟨⟨i, g, m, t, by rw [upd_ne n1]; exact hp, hi⟩, by rw [upd_ne n2]; exact hc, ne⟩
theorem hand_ne {H : Hp} {p c a : Addr} {cells : List Int} (h : HandIn H p c cells) (na : H a = none) : a ≠ p := fun z => by
  obtain ⟨_, _, _, _, e, _⟩ := h.ob
  rw [← z, na] at e; cases e
/-- what is no list is not the hand -/
theorem tup_ne {H : Hp} {p c a : Addr} {cells : List Int} {xs : List V} (h : HandIn H p c cells) (ha : H a = some (.tup xs)) : a ≠ p := fun z => by
  obtain ⟨_, _, _, _, e, _⟩ := h.ob
  rw [← z, ha] at e; cases e
theorem atMem {xs : List V} {d : Int} (h0 : 0 ≤ d) (h1 : d < (xs.length : Int)) : ∃ v, atI xs d = some v ∧ v ∈ xs := by
  obtain ⟨n, rfl⟩ := Int.eq_ofNat_of_zero_le h0
  have hn : n < xs.length := by omega
  exact ⟨xs[n], atI_nat (List.getElem?_eq_getElem hn), List.getElem_mem hn⟩
theorem glCons {R : V → Prop} {x : V} {xs : List V} (h : R x) (t : ∀ v ∈ xs, R v) : ∀ v ∈ x :: xs, R v := fun v hm => by
  rcases List.mem_cons.mp hm with e | hm
  · rw [e]; exact h
  · exact t v hm
theorem glNil {R : V → Prop} : ∀ v ∈ ([] : List V), R v := fun v hm => by cases hm
section
variable {P : Program} {w : World} {K : PySem.W.Frag} {mg : Str → Option Value} {base : Heap} {C : Addr}
theorem nOf (B : Defs K mg C) : NamT mg := B.N
theorem dDraw (B : Defs K mg C) : Def P w K mg base "_law_draw" 1 ["_law_hand_here", "_law_many"] spDraw := def_of B.dr fun f fd F => ok_draw F (nOf B).int (nOf B).is.len
end
end Cn
namespace Cn
open PySem PySem.Spec PyProof.Rows L2 Ck
section
variable {P : Program} {w : World} {K : PySem.W.Frag} {mg : Str → Option Value} {base : Heap} {C : Addr}
/-- a parent that may stand at place n -/
def ParOk (n : Nat) (v : V) : Prop := ∃ q, v = vp q ∧ ∀ m, q = some m → m < n
def spParents : Sp := fun vs H Q _ => ∃ (p c : Addr) (cells : List Int) (n : Nat), vs = [.ref p, vn n] ∧ HandIn H p c cells ∧ 1 ≤ n ∧ n ≤ 60 ∧
  ∀ r ps H', Ps ps → ps.length = n → HandIn H' p c cells → Kept p H H' → TP H' r ps → Q (.ref r) H'
def nParents : List Str := ["_law_hand_here", "_law_places", "_law_found", "_law_place", "_law_some_here"]
theorem scParents : FnScope nParents ["_law_hand_here", "_law_places"] (defScope sParents) := ⟨rfl, rfl, rfl, by decide +kernel, rfl, by decide +kernel, by decide +kernel⟩
theorem psSnoc {ps : List (Option Nat)} {q : Option Nat} (hp : Ps ps) (hq : ∀ m, q = some m → m < ps.length) : Ps (ps ++ [q]) := fun i m h => by
  by_cases c : i < ps.length
  · rw [List.getElem?_append_left c] at h
    exact hp i m h
  · rw [List.getElem?_append_right (by omega)] at h
    have e : i = ps.length := by
      have := (List.getElem?_eq_some_iff.mp h).1
      simp at this
      omega
    subst e
    rw [Nat.sub_self] at h
    exact hq m (Option.some.inj h)
theorem dParents (B : Defs K mg C) : Def P w K mg base "_law_parents" 2 ["_law_hand_here", "_law_places"] spParents := by
  obtain ⟨fD, fdD, GD, gD, kD, bD⟩ := dDraw (P := P) (w := w) (base := base) B
  have N := nOf B
  refine def_of B.pa fun f fd F => ?_
  refine F.ok scParents (fun vs H Q E h => ?_) (fun cdv A outer s H vs Q E hr h => ?_)
  · obtain ⟨p, c, cells, n, rfl, _⟩ := h
    rfl
  · obtain ⟨p, c, cells, n, rfl, hI, h1, h60, k⟩ := h
    refine ⟨_, pss_cons (ps_set (i := 2) scParents.nd rfl (Or.inl rfl) (pe_lst (pa_cons pe_non pa_nil)))
      (pss_cons (ps_for PassesOwn.never rfl (pi_range2 (by rfl) N.range (pa_cons pe_int (pa_cons (pv 1) pa_nil))) (pg_name (i := 3) scParents.nd rfl (Or.inl rfl))
        (pss_cons (ps_set (i := 4) scParents.nd rfl (Or.inl rfl) (pe_lst (pa_cons pe_non (pa_cons (pe_op op_sub (pv 3) pe_int) (pa_cons (pe_op op_sub (pv 3) pe_int) (pa_cons (pe_op op_sub (pv 3) pe_int)
            (pa_cons (pe_call GD hr (by rfl) gD kD bD .nil pass0 (pa_cons (pv 0) (pa_cons (pv 3) pa_nil))) (pa_cons (pe_call GD hr (by rfl) gD kD bD .nil pass0 (pa_cons (pv 0) (pa_cons (pv 3) pa_nil))) pa_nil))))))))
        (pss_one (ps_expr (pe_bm PySem.F.plainAttrs_list PySem.F.slot_list_append PySem.F.type_list_append mt_append (pv 2) (pa_cons (pe_ix ix_list (pv 4) (pe_call GD hr (by rfl) gD kD bD .nil pass0 (pa_cons (pv 0) (pa_cons pe_int pa_nil))) (fun _ _ => rfl)) pa_nil))))))
      (pss_one (ps_ret (pe_callTy call_tuple_of (by rfl) N.is.tup (by decide +kernel) (pa_cons (pv 2) pa_nil))))), ?_⟩
    refine ⟨by show 1 ≤ sizeLine; decide, fun D nD => ?_⟩
    have nDp := hand_ne hI nD
    refine ⟨_, rfl, 1, (n : Int), rfl, ⟨by decide, by decide, by omega, by omega⟩, ?_⟩
    refine for_range (lo := 1) (n := ((n : Int) - 1).toNat) (fun i σ H' => ∃ (ps : List (Option Nat)) (t3 t4 : Option V), σ = [some (.ref p), some (vn n), some (.ref D), t3, t4] ∧ HandIn H' p c cells ∧ Kept p H H' ∧ H' D = some (.lst (ps.map vp)) ∧ ps.length = i + 1 ∧ Ps ps) ?_ ?_ ?_
    · refine ⟨[none], none, none, rfl, handIn_keep hI (smUpd nD), kept_same (smUpd nD), upd_same, rfl, fun i m h => ?_⟩
      cases i with
      | zero => cases h
      | succ i => cases h
    · rintro i σ H1 hi ⟨ps, t3, t4, rfl, hI1, k1, hD1, hl, hp⟩
      have e1 : (1 : Int) + (i : Int) = ((i + 1 : Nat) : Int) := by omega
      rw [e1]
      have e2 : (((i + 1 : Nat) : Int)) - 1 = ((i : Nat) : Int) := by omega
      refine ⟨_, rfl, _, _, rfl, rfl, _, rfl, _, _, rfl, rfl, _, rfl, _, _, rfl, rfl, ?_⟩
      refine ⟨_, rfl, _, rfl, p, c, cells, ((i + 1 : Nat) : Int), rfl, hI1, by omega, by omega, fun d1 a1 a2 a3 a4 d10 d11 a10 => ?_⟩
      refine ⟨_, rfl, _, rfl, p, c, cells, ((i + 1 : Nat) : Int), rfl, handIn_upd hI1 a10, by omega, by omega, fun d2 b1 b2 b3 b4 d20 d21 b10 => ?_⟩
      have hI3 := handIn_upd (i := b1) (g := b2) (m := b3) (t := b4) (handIn_upd (i := a1) (g := a2) (m := a3) (t := a4) hI1 a10) b10
      have k3 : Kept p H1 (upd (upd H1 p (handL c a1 a2 a3 a4)) p (handL c b1 b2 b3 b4)) := kept_trans kept_hand kept_hand
      have hD3 : (upd (upd H1 p (handL c a1 a2 a3 a4)) p (handL c b1 b2 b3 b4)) D = some (.lst (ps.map vp)) := k3 _ _ nDp hD1
      generalize upd (upd H1 p (handL c a1 a2 a3 a4)) p (handL c b1 b2 b3 b4) = H3 at hI3 k3 hD3 ⊢
      refine ⟨by show 6 ≤ sizeLine; decide, fun l nl => ?_⟩
      have S4 := smUpd (o := .lst [.non, .int (((i + 1 : Nat) : Int) - 1), .int (((i + 1 : Nat) : Int) - 1), .int (((i + 1 : Nat) : Int) - 1), .int d1, .int d2]) nl
      have nlp := hand_ne hI3 nl
      have hI4 := handIn_keep hI3 S4
      have hD4 := S4 _ _ hD3
      have hl4 : upd H3 l (.lst [.non, .int (((i + 1 : Nat) : Int) - 1), .int (((i + 1 : Nat) : Int) - 1), .int (((i + 1 : Nat) : Int) - 1), .int d1, .int d2]) l = some (.lst [.non, .int (((i + 1 : Nat) : Int) - 1), .int (((i + 1 : Nat) : Int) - 1), .int (((i + 1 : Nat) : Int) - 1), .int d1, .int d2]) := upd_same
      have k4 := kept_trans k3 (kept_same (p := p) S4)
      have okAll : ∀ v ∈ [V.non, .int (((i + 1 : Nat) : Int) - 1), .int (((i + 1 : Nat) : Int) - 1), .int (((i + 1 : Nat) : Int) - 1), .int d1, .int d2], ParOk (i + 1) v := by
        have a : ParOk (i + 1) (.int (((i + 1 : Nat) : Int) - 1)) := ⟨some i, by rw [e2]; rfl, fun m e => by cases e; omega⟩
        have b : ∀ d : Int, 0 ≤ d → d < ((i + 1 : Nat) : Int) → ParOk (i + 1) (.int d) := fun d h0 h1 => by
          obtain ⟨m, rfl⟩ := Int.eq_ofNat_of_zero_le h0
          exact ⟨some m, rfl, fun m' e => by cases e; omega⟩
        exact glCons ⟨none, rfl, fun m e => by cases e⟩ (glCons a (glCons a (glCons a (glCons (b d1 d10 d11) (glCons (b d2 d20 d21) glNil)))))
      generalize upd H3 l (.lst [.non, .int (((i + 1 : Nat) : Int) - 1), .int (((i + 1 : Nat) : Int) - 1), .int (((i + 1 : Nat) : Int) - 1), .int d1, .int d2]) = H4 at S4 hI4 hD4 hl4 k4 ⊢
      refine ⟨_, rfl, .inl ⟨rfl, _, .inl (.inl hD4)⟩, _, rfl, _, rfl, p, c, cells, 6, rfl, hI4, by decide, by decide, fun d3 c1 c2 c3 c4 d30 d31 c10 => ?_⟩
      have hI5 := handIn_upd (i := c1) (g := c2) (m := c3) (t := c4) hI4 c10
      have hD5 : (upd H4 p (handL c c1 c2 c3 c4)) D = some (.lst (ps.map vp)) := by rw [upd_ne nDp]; exact hD4
      have hl5 := (show upd H4 p (handL c c1 c2 c3 c4) l = H4 l from upd_ne nlp).trans hl4
      have k5 := kept_trans k4 (kept_hand (p := p) (o := handL c c1 c2 c3 c4))
      generalize upd H4 p (handL c c1 c2 c3 c4) = H5 at hI5 hD5 hl5 k5 ⊢
      obtain ⟨v, hv, hm⟩ := atMem (xs := [V.non, .int (((i + 1 : Nat) : Int) - 1), .int (((i + 1 : Nat) : Int) - 1), .int (((i + 1 : Nat) : Int) - 1), .int d1, .int d2]) d30 d31
      obtain ⟨q, rfl, hq⟩ := okAll v hm
      refine ⟨l, _, d3, _, rfl, rfl, .inl (.inl hl5), hv, D, _, _, rfl, rfl, hD5, small1000 (by rw [List.length_map]; omega), ?_⟩
      refine ⟨ps ++ [q], _, _, rfl, handIn_write hI nD hI5, kept_over nD (kept_trans k1 k5), ?_, by rw [List.length_append, hl]; rfl, psSnoc hp (fun m e => by rw [hl]; exact hq m e)⟩
      rw [upd_same, List.map_append]
      rfl
    · rintro σ H1 ⟨ps, t3, t4, rfl, hI1, k1, hD1, hl, hp⟩
      refine ⟨_, rfl, D, _, rfl, .inl ⟨.inl (.inl hD1), fun r nr => ?_⟩⟩
      exact k r ps _ hp (by omega) (handIn_keep hI1 (smUpd nr)) (kept_trans k1 (kept_same (smUpd nr))) upd_same
/-! a drawn lot -/
def spLawLot : Sp := fun vs H Q _ => ∃ (p c : Addr) (cells : List Int) (n sh : Nat), vs = [.ref p, vn n, vn sh] ∧ HandIn H p c cells ∧ n ≤ 60 ∧
  ∀ r ns H', ns.Pairwise (· < ·) → (∀ x ∈ ns, x < n) → HandIn H' p c cells → Kept p H H' → TN H' r ns → Q (.ref r) H'
def nLawLot : List Str := ["_law_hand_here", "_law_places", "_law_share", "_law_place"]
theorem scLawLot : FnScope nLawLot ["_law_hand_here", "_law_places", "_law_share"] (defScope sLawLot) := ⟨rfl, rfl, rfl, by decide +kernel, rfl, by decide +kernel, by decide +kernel⟩
theorem dLawLot (B : Defs K mg C) : Def P w K mg base "_law_lot" 2 ["_law_hand_here", "_law_places", "_law_share"] spLawLot := by
  obtain ⟨fD, fdD, GD, gD, kD, bD⟩ := dDraw (P := P) (w := w) (base := base) B
  have N := nOf B
  refine def_of B.lo fun f fd F => ?_
  refine F.ok scLawLot (fun vs H Q E h => ?_) (fun cdv A outer s H vs Q E hr h => ?_)
  · obtain ⟨p, c, cells, n, sh, rfl, _⟩ := h
    rfl
  · obtain ⟨p, c, cells, n, sh, rfl, hI, h60, k⟩ := h
    refine ⟨_, pss_one (ps_ret (pe_callTy call_tuple_of (by rfl) N.is.tup (by decide +kernel) (pa_cons (pe_lc (own := [("_law_place", 3)]) (g := gName 3) rfl scLawLot.nd (pi_range1 (by rfl) N.range (pa_cons (pv 1) pa_nil))
        (blkOk_by (N := nLawLot) (sc := defScope sLawLot) (by decide +kernel)) (fun _ _ _ _ _ => pg_name (i := 3) scLawLot.nd rfl (Or.inl rfl)) (fun _ _ _ _ _ => pts_one (pt_cmpR op_lt (pe_call GD hr (by rfl) gD kD bD .nil pass0 (pa_cons (pv 0) (pa_cons pe_int pa_nil))) (pv 2) (nomark _))) (fun _ _ _ _ _ => pv 3)) pa_nil))), ?_⟩
    refine ⟨_, rfl, (n : Int), rfl, by omega, by omega, fun D nD => ?_⟩
    rw [Int.toNat_natCast]
    have nDp := hand_ne hI nD
    refine lc_range (lo := 0) (n := n) (fun i H' => HandIn H' p c cells ∧ Kept p H H' ∧ ∃ ns : List Nat, H' D = some (.lst (ns.map vn)) ∧ ns.length ≤ i ∧ ns.Pairwise (· < ·) ∧ ∀ x ∈ ns, x < i) ⟨handIn_keep hI (smUpd nD), kept_same (smUpd nD), [], upd_same, Nat.zero_le _, .nil, fun x hx => by cases hx⟩ ?_ ?_
    · rintro i H1 hi ⟨hI1, k1, ns, hD, hl, hp, hx⟩
      refine ⟨rfl, _, rfl, p, c, cells, 6, rfl, hI1, by decide, by decide, fun d a1 a2 a3 a4 d0 d1 a10 => ?_⟩
      have hI2 := handIn_upd (i := a1) (g := a2) (m := a3) (t := a4) hI1 a10
      have k2 := kept_trans k1 (kept_hand (p := p) (o := handL c a1 a2 a3 a4))
      have hD2 : (upd H1 p (handL c a1 a2 a3 a4)) D = some (.lst (ns.map vn)) := by rw [upd_ne nDp]; exact hD
      generalize upd H1 p (handL c a1 a2 a3 a4) = H2 at hI2 k2 hD2 ⊢
      refine ⟨_, rfl, _, _, rfl, rfl, _, rfl, ?_⟩
      refine ite2 (fun _ => ?_) (fun _ => ⟨hI2, k2, ns, hD2, by omega, hp, fun x h => Nat.lt_succ_of_lt (hx x h)⟩)
      refine ⟨_, rfl, _, hD2, small1000 (by rw [List.length_map]; omega), handIn_write hI nD hI2, kept_over nD k2, ns ++ [i], ?_, by rw [List.length_append]; show ns.length + 1 ≤ i + 1; omega, ?_, fun x h => ?_⟩
      · rw [upd_same, List.map_append]
        show some (HO.lst (ns.map vn ++ [V.int (0 + (i : Int))])) = some (HO.lst (ns.map vn ++ [V.int (i : Int)]))
        rw [Int.zero_add]
      · rw [List.pairwise_append]
        exact ⟨hp, List.pairwise_singleton _ _, fun x h y hy => by rw [List.mem_singleton.mp hy]; exact hx x h⟩
      · rcases List.mem_append.mp h with h | h
        · exact Nat.lt_succ_of_lt (hx x h)
        · rw [List.mem_singleton.mp h]; exact Nat.lt_succ_self _
    · rintro H1 ⟨hI1, k1, ns, hD, hl, hp, hx⟩
      refine ⟨D, _, rfl, .inl ⟨.inl (.inl hD), fun r nr => ?_⟩⟩
      exact k r ns _ hp hx (handIn_keep hI1 (smUpd nr)) (kept_trans k1 (kept_same (smUpd nr))) upd_same
end
end Cn
namespace Cn
open PySem PySem.Spec PyProof.Rows L2 Ck
def TolR (H : Hp) (r : Addr) (f : Fo) : Prop := ∃ ap ab aa, H r = some (.tup [.ref ap, .ref ab, .ref aa]) ∧ TP H ap f.ps ∧ TN H ab f.be ∧ TN H aa f.as
theorem tolSame {H H' : Hp} {r : Addr} {f : Fo} (s : Same H H') (h : TolR H r f) : TolR H' r f := by
  obtain ⟨ap, ab, aa, h1, h2, h3, h4⟩ := h
  exact ⟨ap, ab, aa, s _ _ h1, s _ _ h2, s _ _ h3, s _ _ h4⟩
theorem tolKept {H H' : Hp} {p c r : Addr} {cells : List Int} {f : Fo} (hI : HandIn H p c cells) (k : Kept p H H') (h : TolR H r f) : TolR H' r f := by
  obtain ⟨ap, ab, aa, h1, h2, h3, h4⟩ := h
  exact ⟨ap, ab, aa, k _ _ (tup_ne hI h1) h1, k _ _ (tup_ne hI h2) h2, k _ _ (tup_ne hI h3) h3, k _ _ (tup_ne hI h4) h4⟩
section
variable {P : Program} {w : World} {K : PySem.W.Frag} {mg : Str → Option Value} {base : Heap} {C : Addr}
def spTold : Sp := fun vs H Q _ => ∃ (p c : Addr) (cells : List Int) (n : Nat), vs = [.ref p, vn n] ∧ HandIn H p c cells ∧ 1 ≤ n ∧ n ≤ 60 ∧
  ∀ r f H', FoOk f → f.ps.length ≤ n → HandIn H' p c cells → Kept p H H' → TolR H' r f → Q (.ref r) H'
def nTold : List Str := ["_law_hand_here", "_law_most", "_law_many", "_law_parents_here", "_law_shares"]
theorem scTold : FnScope nTold ["_law_hand_here", "_law_most"] (defScope sTold) := ⟨rfl, rfl, rfl, by decide +kernel, rfl, by decide +kernel, by decide +kernel⟩
def isSh (v : V) : Prop := ∃ s : Nat, v = vn s
theorem dTold (B : Defs K mg C) : Def P w K mg base "_law_told" 3 ["_law_hand_here", "_law_most"] spTold := by
  obtain ⟨fD, fdD, GD, gD, kD, bD⟩ := dDraw (P := P) (w := w) (base := base) B
  obtain ⟨fP, fdP, GP, gP, kP, bP⟩ := dParents (P := P) (w := w) (base := base) B
  obtain ⟨fL, fdL, GL, gL, kL, bL⟩ := dLawLot (P := P) (w := w) (base := base) B
  have N := nOf B
  refine def_of B.to fun f fd F => ?_
  refine F.ok scTold (fun vs H Q E h => ?_) (fun cdv A outer s H vs Q E hr h => ?_)
  · obtain ⟨p, c, cells, n, rfl, _⟩ := h
    rfl
  · obtain ⟨p, c, cells, n, rfl, hI, h1, h60, k⟩ := h
    have hr1 : Room 1 (A.deeper (envOfC "_law_told" (defScope sTold) s.heap.objs.size f cdv)) := Room.mono hr (by decide)
    refine ⟨_, pss_cons (ps_set (i := 2) scTold.nd rfl (Or.inl rfl) (pe_op op_add pe_int (pe_call GD hr1 (by rfl) gD kD bD .nil pass0 (pa_cons (pv 0) (pa_cons (pv 1) pa_nil)))))
      (pss_cons (ps_set (i := 3) scTold.nd rfl (Or.inl rfl) (pe_call GP hr (by rfl) gP kP bP .nil pass0 (pa_cons (pv 0) (pa_cons (pv 2) pa_nil))))
      (pss_cons (ps_set (i := 4) scTold.nd rfl (Or.inl rfl) (pe_tup (pa_cons (pe_ix ix_list (pe_lst (pa_cons pe_int (pa_cons pe_int (pa_cons pe_int (pa_cons pe_int pa_nil))))) (pe_call GD hr1 (by rfl) gD kD bD .nil pass0 (pa_cons (pv 0) (pa_cons pe_int pa_nil))) (fun _ _ => rfl))
        (pa_cons (pe_ix ix_list (pe_lst (pa_cons pe_int (pa_cons pe_int (pa_cons pe_int (pa_cons pe_int pa_nil))))) (pe_call GD hr1 (by rfl) gD kD bD .nil pass0 (pa_cons (pv 0) (pa_cons pe_int pa_nil))) (fun _ _ => rfl)) pa_nil))))
      (pss_one (ps_ret (pe_tup (pa_cons (pv 3) (pa_cons (pe_call GL hr (by rfl) gL kL bL .nil pass0 (pa_cons (pv 0) (pa_cons (pv 2) (pa_cons (pe_ix ix_tup (pv 4) pe_int (fun _ _ => rfl)) pa_nil))))
        (pa_cons (pe_call GL hr (by rfl) gL kL bL .nil pass0 (pa_cons (pv 0) (pa_cons (pv 2) (pa_cons (pe_ix ix_tup (pv 4) pe_int (fun _ _ => rfl)) pa_nil)))) pa_nil)))))))), ?_⟩
    refine ⟨_, rfl, _, rfl, p, c, cells, (n : Int), rfl, hI, by omega, by omega, fun d a1 a2 a3 a4 d0 d1 a10 => ?_⟩
    obtain ⟨m, rfl⟩ := Int.eq_ofNat_of_zero_le d0
    have hI1 := handIn_upd (i := a1) (g := a2) (m := a3) (t := a4) hI a10
    have k1 : Kept p H (upd H p (handL c a1 a2 a3 a4)) := kept_hand
    generalize upd H p (handL c a1 a2 a3 a4) = H1 at hI1 k1 ⊢
    have em : (1 : Int) + (m : Int) = ((m + 1 : Nat) : Int) := by omega
    have emV : V.int (1 + (m : Int)) = vn (m + 1) := congrArg V.int em
    refine ⟨_, _, rfl, rfl, _, rfl, _, rfl, p, c, cells, m + 1, congrArg (fun z => [V.ref p, z]) emV, hI1, by omega, by omega, fun r ps H2 hp hpl hI2 k2 hr2 => ?_⟩
    -- shares
    have share : ∀ {H : Hp}, HandIn H p c cells → ∀ (Q : VK), (∀ (s : Nat) H', HandIn H' p c cells → Kept p H H' → Q (vn s) H') →
        tOp (rIxL K) (tLst (tCons (tC (.int 6)) (tCons (tC (.int 6)) (tCons (tC (.int 4)) (tCons (tC (.int 3)) tNil))))) (tCall spDraw [] (fun _ _ _ => False) (tCons (tVar 0) (tCons (tC (.int 4)) tNil))) [some (.ref p), some (vn n), some (.int (1 + (m : Int))), some (.ref r), none] H Q := by
      intro H hI Q k
      refine ⟨by show 4 ≤ sizeLine; decide, fun l nl => ?_⟩
      have S := smUpd (o := .lst [.int 6, .int 6, .int 4, .int 3]) nl
      have nlp := hand_ne hI nl
      have hI' := handIn_keep hI S
      have hl : upd H l (.lst [.int 6, .int 6, .int 4, .int 3]) l = some (.lst [.int 6, .int 6, .int 4, .int 3]) := upd_same
      generalize upd H l (.lst [.int 6, .int 6, .int 4, .int 3]) = H' at S hI' hl ⊢
      refine ⟨_, rfl, p, c, cells, 4, rfl, hI', by decide, by decide, fun e b1 b2 b3 b4 e0 e1 b10 => ?_⟩
      obtain ⟨v, hv, hm⟩ := atMem (xs := [.int 6, .int 6, .int 4, .int 3]) e0 e1
      have hl2 : (upd H' p (handL c b1 b2 b3 b4)) l = some (.lst [.int 6, .int 6, .int 4, .int 3]) := by rw [upd_ne nlp]; exact hl
      have sv : ∃ s : Nat, v = vn s := by
        have : ∀ v ∈ [V.int 6, .int 6, .int 4, .int 3], ∃ s : Nat, v = vn s := glCons ⟨6, rfl⟩ (glCons ⟨6, rfl⟩ (glCons ⟨4, rfl⟩ (glCons ⟨3, rfl⟩ glNil)))
        exact this v hm
      obtain ⟨s, rfl⟩ := sv
      exact ⟨l, _, e, _, rfl, rfl, .inl (.inl hl2), hv, k s _ (handIn_upd hI' b10) (kept_trans (kept_same S) kept_hand)⟩
    refine share hI2 _ fun sh1 H3 hI3 k3 => ?_
    refine share hI3 _ fun sh2 H4 hI4 k4 => ?_
    refine ⟨by show 2 ≤ sizeLine; decide, fun t nt => ?_⟩
    have S5 := smUpd (o := .tup [vn sh1, vn sh2]) nt
    have ht5 : upd H4 t (.tup [vn sh1, vn sh2]) t = some (.tup [vn sh1, vn sh2]) := upd_same
    have hI5 := handIn_keep hI4 S5
    have k5 := kept_trans k4 (kept_same (p := p) S5)
    generalize upd H4 t (.tup [vn sh1, vn sh2]) = H5 at ht5 hI5 k5 ⊢
    have hp5 := kept_trans k3 k5 _ _ (tup_ne hI2 hr2) hr2
    refine ⟨_, rfl, _, rfl, _, rfl, _, rfl, t, _, (0 : Int), _, rfl, rfl, .inl (.inl ht5), rfl, p, c, cells, m + 1, sh1, congrArg (fun z => [V.ref p, z, vn sh1]) emV, hI5, by omega, fun q1 be H6 hb1 hb2 hI6 k6 hq1 => ?_⟩
    have ht6 := k6 _ _ (tup_ne hI5 ht5) ht5
    refine ⟨_, rfl, _, rfl, _, rfl, t, _, (1 : Int), _, rfl, rfl, .inl (.inl ht6), rfl, p, c, cells, m + 1, sh2, congrArg (fun z => [V.ref p, z, vn sh2]) emV, hI6, by omega, fun q2 as H7 ha1 ha2 hI7 k7 hq2 => ?_⟩
    refine ⟨by show 3 ≤ sizeLine; decide, fun u nu => ?_⟩
    have S8 := smUpd (o := .tup [.ref r, .ref q1, .ref q2]) nu
    have kk := kept_trans k6 (kept_trans k7 (kept_same (p := p) S8))
    have hp8 := kk _ _ (tup_ne hI5 hp5) hp5
    have hq8 := kept_trans k7 (kept_same (p := p) S8) _ _ (tup_ne hI6 hq1) hq1
    exact k u ⟨ps, be, as⟩ _ ⟨hp, by show 1 ≤ ps.length; omega, by show ps.length ≤ 60; omega, hb1, by rw [hpl]; exact hb2, ha1, by rw [hpl]; exact ha2⟩ (by show ps.length ≤ n; omega) (handIn_keep hI7 S8)
      (kept_trans k1 (kept_trans k2 (kept_trans k3 (kept_trans k5 kk)))) ⟨r, q1, q2, upd_same, hp8, hq8, S8 _ _ hq2⟩
/-! the forest made -/
def spMade (C : Addr) : Sp := fun vs H Q _ => ∃ (r : Addr) (f : Fo), vs = [.ref r] ∧ TolR H r f ∧ FoOk f ∧ ∀ a H', Same H H' → FoAt C H' a f → Q (.ref a) H'
theorem scMade : FnScope ["_law_told_here"] ["_law_told_here"] (defScope sMade) := ⟨rfl, rfl, rfl, by decide +kernel, rfl, by decide +kernel, by decide +kernel⟩
theorem dMade (B : Defs K mg C) : Def P w K mg base "_law_made" 6 ["_law_told_here"] (spMade C) := by
  obtain ⟨fN, fdN, FN, MN, bN⟩ := B.ini
  obtain ⟨tm, mM⟩ := B.mM
  obtain ⟨fI, fdI, DI⟩ := B.I
  obtain ⟨fL, fdL, DL⟩ := B.L
  obtain ⟨fB, fdB, DB⟩ := B.B
  obtain ⟨fO, fdO, DO⟩ := B.O
  have GN : FnOk P w K mg base CX0 4 fN fdN ["self", "parents", "bearing", "asking"] (spInit C) := ok_init FN B.N B.T mM DI DL DB DO
  refine def_of B.ma fun f fd F => ?_
  refine F.ok scMade (fun vs H Q E h => ?_) (fun cdv A outer s H vs Q E hr h => ?_)
  · obtain ⟨r, fo, rfl, _⟩ := h
    rfl
  · obtain ⟨r, fo, rfl, ⟨ap, ab, aa, h0, h1, h2, h3⟩, ok, k⟩ := h
    refine ⟨_, pss_one (ps_ret (pe_make MN GN hr (by rfl) B.T.mgC bN .nil pass0 (pa_cons (pe_ix ix_tup (pv 0) pe_int (fun _ _ => rfl)) (pa_cons (pe_ix ix_tup (pv 0) pe_int (fun _ _ => rfl)) (pa_cons (pe_ix ix_tup (pv 0) pe_int (fun _ _ => rfl)) pa_nil))))), ?_⟩
    refine ⟨_, rfl, r, _, (0 : Int), _, rfl, rfl, .inl (.inl h0), rfl, _, rfl, r, _, (1 : Int), _, rfl, rfl, .inl (.inl h0), rfl, _, rfl, r, _, (2 : Int), _, rfl, rfl, .inl (.inl h0), rfl, fun x dx nx ndx ne => ?_⟩
    have S1 := smUpd (o := .own x) ndx
    have nx1 : (upd H dx (.own x)) x = none := by rw [upd_ne (Ne.symm ne)]; exact nx
    have S2 := S1.trans (smUpd (o := .ins C dx []) nx1)
    refine ⟨x, dx, ap, ab, aa, fo, rfl, upd_same, S2 _ _ h1, S2 _ _ h2, S2 _ _ h3, ok, fun H' hF kp => ⟨rfl, k x H' (fun b o e => kp b o (fun z => by rw [z, nx] at e; cases e) (S2 _ _ e)) hF⟩⟩
end
end Cn
namespace Cn
open PySem PySem.Spec PyProof.Rows L2 Ck
section
variable {P : Program} {w : World} {K : PySem.W.Frag} {mg : Str → Option Value} {base : Heap} {C : Addr}
/-! the law's own road -/
def spRoad : Sp := fun vs H Q _ => ∃ (b : Addr) (ps : List (Option Nat)) (i : Nat), vs = [.ref b, vn i] ∧ TP H b ps ∧ Ps ps ∧ ps.length ≤ 60 ∧ i < ps.length ∧ ∀ r H', Same H H' → TN H' r (road ps i) → Q (.ref r) H'
def nRoad : List Str := ["_law_parents_here", "_law_place", "_law_found"]
theorem scRoad : FnScope nRoad ["_law_parents_here", "_law_place"] (defScope sRoad) := ⟨rfl, rfl, rfl, by decide +kernel, rfl, by decide +kernel, by decide +kernel⟩
def measR : L2.St → Hp → Nat := fun σ H => match σ[2]? with
  | some (some (V.ref D)) => (match H D with
    | some (.lst (V.int n :: _)) => n.toNat
    | _ => 0)
  | _ => 0
theorem dRoad (B : Defs K mg C) : Def P w K mg base "_law_road" 1 ["_law_parents_here", "_law_place"] spRoad := by
  have N := nOf B
  refine def_of B.ro fun f fd F => ?_
  refine F.ok scRoad (fun vs H Q E h => ?_) (fun cdv A outer s H vs Q E hr h => ?_)
  · obtain ⟨b, ps, i, rfl, _⟩ := h
    rfl
  · obtain ⟨b, ps, i, rfl, hb, hp, h60, hi, k⟩ := h
    refine ⟨_, pss_cons (ps_set (i := 2) scRoad.nd rfl (Or.inl rfl) (pe_lst (pa_cons (pv 1) pa_nil)))
      (pss_cons (ps_while PassesOwn.never (pt_cmpR op_notN (pe_ix ix_tup (pv 0) (pe_ix ix_list (pv 2) pe_int (fun _ _ => rfl)) (fun _ _ => rfl)) pe_non (nomark _))
        (pss_one (ps_set (i := 2) scRoad.nd rfl (Or.inl rfl) (pe_op op_cat (pe_lst (pa_cons (pe_ix ix_tup (pv 0) (pe_ix ix_list (pv 2) pe_int (fun _ _ => rfl)) (fun _ _ => rfl)) pa_nil)) (pv 2)))))
      (pss_one (ps_ret (pe_callTy call_tuple_of (by rfl) N.is.tup (by decide +kernel) (pa_cons (pv 2) pa_nil))))), ?_⟩
    refine ⟨_, rfl, by show 1 ≤ sizeLine; decide, fun D nD => ?_⟩
    refine while_by (fun σ H' => ∃ (D : Addr) (x : Nat) (rest : List Nat), σ = [some (.ref b), some (vn i), some (.ref D)] ∧ Same H H' ∧ H' D = some (.lst ((x :: rest).map vn)) ∧ x < ps.length ∧ road ps i = road ps x ++ rest) measR ⟨D, i, [], rfl, smUpd nD, upd_same, hi, (List.append_nil _).symm⟩ ?_ ?_
    · rintro σ H1 ⟨D, x, rest, rfl, sm, hD, hx, hr1⟩
      have hb1 := sm _ _ hb
      obtain ⟨q, hq⟩ := ps_at hx
      refine ⟨_, rfl, _, rfl, D, _, (0 : Int), _, rfl, rfl, .inl (.inl hD), vn_ix (i := 0) (ns := x :: rest) rfl, b, _, (x : Int), _, rfl, rfl, tpL hb1, vp_ix hq, rfl, _, rfl, ?_⟩
      cases q with
      | none =>
        refine ifF (by decide) ?_
        refine ⟨_, rfl, D, _, rfl, .inl ⟨.inl (.inl hD), fun r nr => ?_⟩⟩
        refine k r _ (sm.trans (smUpd nr)) ?_
        rw [hr1, road_none hq]
        exact upd_same
      | some p =>
        refine ifT (by rw [vp_ne]; rfl) ?_
        have hpx := hp x p hq
        refine ⟨_, rfl, _, rfl, D, _, (0 : Int), _, rfl, rfl, .inl (.inl hD), vn_ix (i := 0) (ns := x :: rest) rfl, b, _, (x : Int), _, rfl, rfl, tpL hb1, vp_ix hq, by show 1 ≤ sizeLine; decide, fun l nl => ?_⟩
        have S2 := smUpd (o := .lst [vp (some p)]) nl
        have hl2 : upd H1 l (.lst [vp (some p)]) l = some (.lst [vp (some p)]) := upd_same
        generalize upd H1 l (.lst [vp (some p)]) = H2 at S2 hl2 ⊢
        have hlen := road_len hp i hi
        have hxl := List.length_pos_iff.mpr (road_ne hp hx)
        rw [hr1, List.length_append] at hlen
        refine ⟨_, rfl, l, D, _, _, rfl, rfl, hl2, S2 _ _ hD, Nat.le_of_lt (small1000 (by rw [List.length_map]; show 1 + (rest.length + 1) ≤ 1000; omega)), fun e ne => ?_⟩
        refine ⟨⟨e, p, x :: rest, rfl, sm.trans (S2.trans (smUpd ne)), upd_same, Nat.lt_trans hpx hx, ?_⟩, ?_⟩
        · rw [hr1, road_some hp hq, List.append_assoc]; rfl
        · have m1 : measR [some (.ref b), some (vn i), some (.ref D)] H1 = x := by
            show (match H1 D with | some (.lst (V.int n :: _)) => n.toNat | _ => 0) = x
            rw [hD]
            exact Int.toNat_natCast x
          have m2 : measR [some (.ref b), some (vn i), some (.ref e)] (upd H2 e (.lst ([vp (some p)] ++ (x :: rest).map vn))) = p := by
            show (match upd H2 e (.lst ([vp (some p)] ++ (x :: rest).map vn)) e with | some (.lst (V.int n :: _)) => n.toNat | _ => 0) = p
            rw [upd_same]
            exact Int.toNat_natCast p
          show measR [some (.ref b), some (vn i), some (.ref e)] (upd H2 e (.lst ([vp (some p)] ++ (x :: rest).map vn))) < measR [some (.ref b), some (vn i), some (.ref D)] H1
          rw [m1, m2]
          exact hpx
    · rintro σ H' Q1 Q2 hq ⟨v, hv, u, hu, l, ys, j, z, e1, e2, e3, e4, p, xs, i, y, f1, f2, f3, f4, e5, kk, hk, qq⟩
      exact ⟨v, hv, u, hu, l, ys, j, z, e1, e2, e3, e4, p, xs, i, y, f1, f2, f3, f4, e5, kk, hk, hq _ _ qq⟩
end
end Cn
namespace Cn
open PySem PySem.Spec PyProof.Rows L2 Ck
/-! alike -/
theorem eqN {H : Hp} {a b : Addr} {ns : List Nat} (ha : TN H a ns) (hb : TN H b ns) (hl : ns.length ≤ 1000) : EqG H 1 (.ref a) (.ref b) :=
  .inr ⟨a, b, _, _, rfl, rfl, .inr ⟨ha, hb⟩, by rw [List.length_map]; exact Nat.le_trans hl (by decide), pairedSelf fun x hx => by
    obtain ⟨n, _, rfl⟩ := List.mem_map.mp hx
    exact ⟨rfl, .inl rfl⟩⟩
theorem eqL {H : Hp} {a b : Addr} {ns : List Nat} (ha : H a = some (.lst (ns.map vn))) (hb : H b = some (.lst (ns.map vn))) (hl : ns.length ≤ 1000) : EqG H 1 (.ref a) (.ref b) :=
  .inr ⟨a, b, _, _, rfl, rfl, .inl ⟨ha, hb⟩, by rw [List.length_map]; exact Nat.le_trans hl (by decide), pairedSelf fun x hx => by
    obtain ⟨n, _, rfl⟩ := List.mem_map.mp hx
    exact ⟨rfl, .inl rfl⟩⟩
theorem eqNote {H : Hp} {v u : V} {p : List Nat × List Nat} (h1 : p.1.length ≤ 1000) (h2 : p.2.length ≤ 1000) (hv : NoteR H v p) (hu : NoteR H u p) : EqG H 2 v u := by
  obtain ⟨t, x, y, rfl, e1, e2, e3⟩ := hv
  obtain ⟨t', x', y', rfl, f1, f2, f3⟩ := hu
  exact .inr ⟨t, t', _, _, rfl, rfl, .inr ⟨e1, f1⟩, by show 2 ≤ 4000; decide, .cons (eqN e2 f2 h1) (.cons (eqN e3 f3 h2) .nil)⟩
theorem eqNotes {H : Hp} : ∀ {us ws : List V} {ps : List (List Nat × List Nat)}, (∀ p ∈ ps, p.1.length ≤ 1000 ∧ p.2.length ≤ 1000) → NotesR H us ps → NotesR H ws ps → Paired (EqG H 2) us ws
  | _, _, _, _, .nil, .nil => .nil
  | _, _, _, b, .cons h1 t1, .cons h2 t2 => .cons (eqNote (b _ List.mem_cons_self).1 (b _ List.mem_cons_self).2 h1 h2) (eqNotes (fun p hp => b p (List.mem_cons_of_mem _ hp)) t1 t2)
section
variable {P : Program} {w : World} {K : PySem.W.Frag} {mg : Str → Option Value} {base : Heap} {C : Addr}
theorem dIs (B : Defs K mg C) : Def P w K mg base "_law_is" 6 ["_law_told_here", "_law_due"] (spJ 4) := by
  obtain ⟨f, fd, D⟩ := B.is
  exact ⟨f, fd, ok_is D.F (nOf B).is D.g D.b 4, D.g, D.F.kp, D.b⟩
end
end Cn
namespace Cn
open PySem PySem.Spec PyProof.Rows L2 Ck
/-! what is under a place -/
def dwn (ps : List (Option Nat)) (i n : Nat) : List Nat := (List.range n).filter fun j => decide (i ∈ road ps j)
theorem dwn_mem {ps : List (Option Nat)} {i n j : Nat} : j ∈ dwn ps i n ↔ j < n ∧ i ∈ road ps j := by
  unfold dwn
  rw [List.mem_filter, List.mem_range, decide_eq_true_iff]
theorem dwn_len {ps : List (Option Nat)} {i n : Nat} : (dwn ps i n).length ≤ n := by
  have := List.length_filter_le (fun j => decide (i ∈ road ps j)) (List.range n)
  rw [List.length_range] at this
  exact this
theorem dwn_succ {ps : List (Option Nat)} {i j : Nat} : dwn ps i (j + 1) = dwn ps i j ++ if i ∈ road ps j then [j] else [] := by
  unfold dwn
  rw [List.range_succ, List.filter_append]
  by_cases c : i ∈ road ps j
  · rw [if_pos c, List.filter_cons_of_pos (by simpa using c)]; rfl
  · rw [if_neg c, List.filter_cons_of_neg (by simpa using c)]; rfl
theorem dwn_before {ps : List (Option Nat)} {i : Nat} (hp : Ps ps) (hi : i < ps.length) : ∀ j, j ≤ i → dwn ps i j = [] := by
  intro j
  induction j with
  | zero => intro _; rfl
  | succ j ih =>
    intro h
    rw [dwn_succ, ih (by omega), if_neg (fun z => by have := road_le hp j (by omega) i z; omega)]
    rfl
theorem dwn_start {ps : List (Option Nat)} {i : Nat} (hp : Ps ps) (hi : i < ps.length) : dwn ps i (i + 1) = [i] := by
  rw [dwn_succ, dwn_before hp hi i (Nat.le_refl _), if_pos (road_self hp hi)]
  rfl
theorem dwn_step {ps : List (Option Nat)} {i j : Nat} {q : Option Nat} (hp : Ps ps) (hij : i < j) (hj : j < ps.length) (h : ps[j]? = some q) : (i ∈ road ps j) ↔ ∃ p, q = some p ∧ p ∈ dwn ps i j := by
  cases q with
  | none =>
    rw [road_none h]
    constructor
    · intro z; have := List.mem_singleton.mp z; omega
    · rintro ⟨p, z, _⟩; cases z
  | some p =>
    rw [road_some hp h, List.mem_append, List.mem_singleton]
    constructor
    · rintro (z | z)
      · exact ⟨p, rfl, dwn_mem.mpr ⟨hp j p h, z⟩⟩
      · omega
    · rintro ⟨p', z, m⟩
      cases z
      exact .inl (dwn_mem.mp m).2
theorem inV_vp {ns : List Nat} {q : Option Nat} : inV (vp q) (ns.map vn) = decide (∃ p, q = some p ∧ p ∈ ns) := by
  cases q with
  | some p =>
    show inV (vn p) (ns.map vn) = _
    rw [inV_vn]
    by_cases c : p ∈ ns
    · rw [decide_eq_true c, decide_eq_true ⟨p, rfl, c⟩]
    · rw [decide_eq_false c, decide_eq_false (fun ⟨p', z, m⟩ => by cases z; exact c m)]
  | none =>
    rw [decide_eq_false (fun ⟨p', z, m⟩ => by cases z)]
    induction ns with
    | nil => rfl
    | cons n ns ih => exact ih
theorem vp_flat (q : Option Nat) : flatV (vp q) = true := by cases q <;> rfl
/-! the pairs -/
def pairsOf (ps : List (Option Nat)) (be as : List Nat) : List (Nat × Nat) := be.flatMap fun i => (as.filter fun j => decide (i ∈ road ps j)).map (Prod.mk i)
def PairR (H : Hp) (v : V) (p : Nat × Nat) : Prop := ∃ t, v = .ref t ∧ H t = some (.tup [vn p.1, vn p.2])
def PairsR (H : Hp) (us : List V) (ps : List (Nat × Nat)) : Prop := Paired (PairR H) us ps
theorem pairSame {H H' : Hp} (s : Same H H') {v : V} {p : Nat × Nat} (h : PairR H v p) : PairR H' v p := by
  obtain ⟨t, e, h1⟩ := h
  exact ⟨t, e, s _ _ h1⟩
theorem pairsSame {H H' : Hp} (s : Same H H') {us : List V} {ps : List (Nat × Nat)} (h : PairsR H us ps) : PairsR H' us ps := Paired.mapP h fun _ _ z => pairSame s z
theorem pairsUpd {H' : Hp} {D : Addr} {o : HO} {xs us : List V} {ps : List (Nat × Nat)} (hD : H' D = some (.lst xs)) (h : PairsR H' us ps) : PairsR (upd H' D o) us ps := Paired.mapP h fun v p z => by
  obtain ⟨t, e, h1⟩ := z
  have q : t ≠ D := fun z => by rw [z, hD] at h1; cases h1
  exact ⟨t, e, by rw [upd_ne q]; exact h1⟩
theorem pairedSnoc {α β : Type} {F : α → β → Prop} : ∀ {xs : List α} {ys : List β} {x : α} {y : β}, Paired F xs ys → F x y → Paired F (xs ++ [x]) (ys ++ [y])
  | _, _, _, _, .nil, h => .cons h .nil
  | _, _, _, _, .cons a t, h => .cons a (pairedSnoc t h)
theorem pairedApp {α β : Type} {F : α → β → Prop} : ∀ {xs xs' : List α} {ys ys' : List β}, Paired F xs ys → Paired F xs' ys' → Paired F (xs ++ xs') (ys ++ ys')
  | _, _, _, _, .nil, h => h
  | _, _, _, _, .cons a t, h => .cons a (pairedApp t h)
theorem pairsOf_len {ps : List (Option Nat)} {as : List Nat} : ∀ {be : List Nat}, (pairsOf ps be as).length ≤ be.length * as.length
  | [] => Nat.zero_le _
  | i :: be => by
    have h := pairsOf_len (ps := ps) (as := as) (be := be)
    show (((as.filter fun j => decide (i ∈ road ps j)).map (Prod.mk i)) ++ pairsOf ps be as).length ≤ (be.length + 1) * as.length
    rw [List.length_append, List.length_map, Nat.add_mul, Nat.one_mul]
    have := List.length_filter_le (fun j => decide (i ∈ road ps j)) as
    omega
theorem pairsOf_snoc {ps : List (Option Nat)} {be as : List Nat} {i : Nat} : pairsOf ps (be ++ [i]) as = pairsOf ps be as ++ (as.filter fun j => decide (i ∈ road ps j)).map (Prod.mk i) := by
  unfold pairsOf
  rw [List.flatMap_append, List.flatMap_singleton]
theorem pairs3600 {f : Fo} (ok : FoOk f) : (pairsOf f.ps f.be f.as).length ≤ 3600 := by
  have h := pairsOf_len (ps := f.ps) (as := f.as) (be := f.be)
  have h1 := lotLen ok.be ok.bl
  have h2 := lotLen ok.as ok.al
  have h3 := ok.l1
  exact Nat.le_trans h (Nat.mul_le_mul (Nat.le_trans h1 h3) (Nat.le_trans h2 h3))
section
variable {P : Program} {w : World} {K : PySem.W.Frag} {mg : Str → Option Value} {base : Heap} {C : Addr}
def spUnder (C : Addr) : Sp := fun vs H Q _ => ∃ (a : Addr) (f : Fo) (i : Nat), vs = [.ref a, vn i] ∧ FoAt C H a f ∧ Ps f.ps ∧ f.ps.length ≤ 60 ∧ i < f.ps.length ∧ ∀ r H', Same H H' → TN H' r (dwn f.ps i f.ps.length) → Q (.ref r) H'
def nUnder : List Str := ["forest", "place", "found", "later"]
theorem scUnder : FnScope nUnder ["forest", "place"] (defScope sUnder) := ⟨rfl, rfl, rfl, by decide +kernel, rfl, by decide +kernel, by decide +kernel⟩
theorem dUnder (B : Defs K mg C) : Def P w K mg base "under" 4 ["forest", "place"] (spUnder C) := by
  obtain ⟨fB, fdB, GB, gB, kB, bB⟩ := dPlace (P := P) (w := w) (base := base) B
  have N := B.N
  have T := B.T
  refine def_of B.un fun f fd F => ?_
  refine F.ok scUnder (fun vs H Q E h => ?_) (fun cdv A outer s H vs Q E hr h => ?_)
  · obtain ⟨a, f, i, rfl, _⟩ := h
    rfl
  · obtain ⟨a, fo, i, rfl, hF, hp, hl, hi, k⟩ := h
    refine ⟨_, pss_cons (ps_if (pt_not (pt_val (pe_call GB hr (by rfl) gB kB bB .nil pass0 (pa_cons (pv 0) (pa_cons (pv 1) pa_nil))))) (pss_one ps_never) pss_nil)
      (pss_cons (ps_set (i := 2) scUnder.nd rfl (Or.inl rfl) (pe_lst (pa_cons (pv 1) pa_nil)))
      (pss_cons (ps_for PassesOwn.never rfl (pi_range2 (by rfl) N.range (pa_cons (pe_op op_add (pv 1) pe_int) (pa_cons (pe_callB call_len_seq (by rfl) N.is.len PySem.boot_len (pa_cons (pe_fld (pv 0) rfl) pa_nil)) pa_nil))) (pg_name (i := 3) scUnder.nd rfl (Or.inl rfl))
        (pss_one (ps_if (pt_cmpR op_in_seq (pe_ix ix_tup (pe_fld (pv 0) rfl) (pv 3) (fun _ _ => rfl)) (pv 2) (by rfl))
          (pss_one (ps_expr (pe_bm PySem.F.plainAttrs_list PySem.F.slot_list_append PySem.F.type_list_append mt_append (pv 2) (pa_cons (pv 3) pa_nil)))) pss_nil)))
      (pss_one (ps_ret (pe_callTy call_tuple_of (by rfl) N.is.tup (by decide +kernel) (pa_cons (pv 2) pa_nil)))))), ?_⟩
    refine ⟨_, rfl, _, rfl, a, fo, i, rfl, hF, hi, true, rfl, ?_⟩
    refine ifF (by decide) ?_
    obtain ⟨dx, ap, ab, aa, h0, h1, h2, h3⟩ := hF
    refine ⟨_, rfl, by show 1 ≤ sizeLine; decide, fun D nD => ?_⟩
    have S1 := smUpd (o := .lst [vn i]) nD
    refine ⟨_, rfl, _, _, rfl, rfl, _, rfl, a, C, dx, _, _, rfl, S1 _ _ h0, T.cl, T.nP, fP, ap, _, rfl, .inr (tpL (S1 _ _ h1)), ((i : Int) + 1), ((fo.ps.map vp).length : Int), rfl, ⟨by omega, by omega, by omega, by rw [List.length_map]; omega⟩, ?_⟩
    rw [List.length_map]
    refine for_range (lo := (i : Int) + 1) (n := ((fo.ps.length : Int) - ((i : Int) + 1)).toNat) (fun k σ H' => ∃ t3, σ = [some (.ref a), some (vn i), some (.ref D), t3] ∧ Same H H' ∧ H' D = some (.lst ((dwn fo.ps i (i + 1 + k)).map vn))) ⟨none, rfl, S1, by rw [Nat.add_zero, dwn_start hp hi]; exact upd_same⟩ ?_ ?_
    · rintro m σ H1 hm ⟨t3, rfl, sm, hD⟩
      have hj : i + 1 + m < fo.ps.length := by omega
      have ej : (i : Int) + 1 + (m : Int) = ((i + 1 + m : Nat) : Int) := by omega
      rw [ej]
      obtain ⟨q, hq⟩ := ps_at hj
      refine ⟨_, rfl, a, C, dx, _, _, rfl, sm _ _ h0, T.cl, T.nP, fP, _, rfl, ap, _, ((i + 1 + m : Nat) : Int), _, rfl, rfl, tpL (sm _ _ h1), vp_ix hq, _, rfl, D, _, rfl, .inl (.inl (.inl hD)), vp_flat q, vn_flat _, _, rfl, ?_⟩
      have st := dwn_step hp (by omega : i < i + 1 + m) hj hq
      have ed : dwn fo.ps i (i + 1 + (m + 1)) = dwn fo.ps i (i + 1 + m) ++ if i ∈ road fo.ps (i + 1 + m) then [i + 1 + m] else [] := dwn_succ
      by_cases c : i ∈ road fo.ps (i + 1 + m)
      · refine ifT (by show inV (vp q) _ = true; rw [inV_vp]; exact decide_eq_true (st.mp c)) ?_
        refine ⟨_, rfl, .inl ⟨rfl, _, .inl (.inl hD)⟩, _, rfl, D, _, _, rfl, rfl, hD, small1000 (by rw [List.length_map]; have := dwn_len (ps := fo.ps) (i := i) (n := i + 1 + m); omega), ?_⟩
        refine ⟨_, rfl, smOver nD sm, ?_⟩
        rw [upd_same, ed, if_pos c, List.map_append]
        rfl
      · refine ifF (by show ¬ inV (vp q) _ = true; rw [inV_vp]; simpa using fun p e m => c (st.mpr ⟨p, e, m⟩)) ?_
        refine ⟨_, rfl, sm, ?_⟩
        rw [ed, if_neg c, List.append_nil]
        exact hD
    · rintro σ H1 ⟨t3, rfl, sm, hD⟩
      have en : i + 1 + ((fo.ps.length : Int) - ((i : Int) + 1)).toNat = fo.ps.length := by omega
      rw [en] at hD
      refine ⟨_, rfl, D, _, rfl, .inl ⟨.inl (.inl hD), fun r nr => ?_⟩⟩
      exact k r _ (sm.trans (smUpd nr)) upd_same
end
end Cn
namespace Cn
open PySem PySem.Spec PyProof.Rows L2 Ck
section
variable {P : Program} {w : World} {K : PySem.W.Frag} {mg : Str → Option Value} {base : Heap} {C : Addr}
def spPairs (C : Addr) : Sp := fun vs H Q _ => ∃ (a : Addr) (f : Fo), vs = [.ref a] ∧ FoAt C H a f ∧ FoOk f ∧
  ∀ r us H', Same H H' → H r = none → H' r = some (.lst us) → PairsR H' us (pairsOf f.ps f.be f.as) → Q (.ref r) H'
def nPairs : List Str := ["forest", "found", "i", "below", "j"]
theorem scPairs : FnScope nPairs ["forest"] (defScope sPairs) := ⟨rfl, rfl, rfl, by decide +kernel, rfl, by decide +kernel, by decide +kernel⟩
theorem dPairs (B : Defs K mg C) : Def P w K mg base "pairs" 5 ["forest"] (spPairs C) := by
  obtain ⟨fU, fdU, GU, gU, kU, bU⟩ := dUnder (P := P) (w := w) (base := base) B
  have N := B.N
  have T := B.T
  refine def_of B.pr fun f fd F => ?_
  refine F.ok scPairs (fun vs H Q E h => ?_) (fun cdv A outer s H vs Q E hr h => ?_)
  · obtain ⟨a, f, rfl, _⟩ := h
    rfl
  · obtain ⟨a, fo, rfl, hF, ok, k⟩ := h
    refine ⟨_, pss_cons (ps_set (i := 1) scPairs.nd rfl (Or.inl rfl) (pe_lst pa_nil))
      (pss_cons (ps_for PassesOwn.never rfl (pi_tup (pe_fld (pv 0) rfl)) (pg_name (i := 2) scPairs.nd rfl (Or.inr rfl))
        (pss_cons (ps_set (i := 3) scPairs.nd rfl (Or.inr rfl) (pe_call GU hr (by rfl) gU kU bU .nil pass0 (pa_cons (pv 0) (pa_cons (pv 2) pa_nil))))
        (pss_one (ps_expr (pe_bm PySem.F.plainAttrs_list PySem.F.slot_list_extend PySem.F.type_list_extend mt_extend (pv 1) (pa_cons (pe_lc (own := [("j", 4)]) (g := gName 4) (tt := tTest (tOp (rIn K false) (tVar 4) (tVar 3))) rfl scPairs.nd (pi_tup (pe_fld (pv 0) rfl))
          (blkOk_by (N := nPairs) (sc := defScope sPairs) (by decide +kernel)) (fun _ _ _ _ _ => pg_name (i := 4) scPairs.nd rfl (Or.inl rfl)) (fun _ _ _ _ _ => pts_one (pt_cmpR op_in_seq (pv 4) (pv 3) (by rfl))) (fun _ _ _ _ _ => pe_tup (pa_cons (pv 2) (pa_cons (pv 4) pa_nil)))) pa_nil))))))
      (pss_one (ps_ret (pv 1)))), ?_⟩
    have hF' := hF
    obtain ⟨dx, ap, ab, aa, h0, h1, h2, h3⟩ := hF
    refine ⟨by show 0 ≤ sizeLine; decide, fun D nD => ?_⟩
    have S1 := smUpd (o := .lst []) nD
    refine ⟨_, rfl, a, C, dx, _, _, rfl, S1 _ _ h0, T.cl, T.nB, fB, ab, rfl, ⟨_, tnL (S1 _ _ h2)⟩, ?_⟩
    refine for_tup (xs := fo.be.map vn) (fun m σ H' => ∃ t2 t3 us, σ = [some (.ref a), some (.ref D), t2, t3, none] ∧ Same H H' ∧ H' D = some (.lst us) ∧ PairsR H' us (pairsOf fo.ps (fo.be.take m) fo.as)) ⟨none, none, [], rfl, S1, upd_same, .nil⟩ (fun m σ H' _ z => by
      obtain ⟨t2, t3, us, _, sm, _⟩ := z
      exact tnL (sm _ _ h2)) ?_ ?_
    · rintro m x σ H1 hx ⟨t2, t3, us, rfl, sm, hD, hU⟩
      obtain ⟨i, hi, rfl⟩ := vn_get hx
      have hil := ok.bl i (List.mem_of_getElem? hi)
      refine ⟨_, rfl, _, rfl, a, fo, i, rfl, foAt_same sm hF', ok.ps, ok.l1, hil, fun b H2 s2 hb => ?_⟩
      have S2 := sm.trans s2
      have hD2 := s2 _ _ hD
      have hU2 := pairsSame s2 hU
      refine ⟨_, rfl, .inl ⟨rfl, _, .inl (.inl hD2)⟩, _, rfl, a, C, dx, _, _, rfl, S2 _ _ h0, T.cl, T.nA, fA, aa, rfl, ⟨_, tnL (S2 _ _ h3)⟩, fun D2 nD2 => ?_⟩
      have neD : D2 ≠ D := fun z => by rw [z, hD2] at nD2; cases nD2
      refine lc_tup (xs := fo.as.map vn) (fun m H' => Same H2 H' ∧ ∃ ws, H' D2 = some (.lst ws) ∧ ws.length ≤ m ∧ PairsR H' ws (((fo.as.take m).filter fun j => decide (i ∈ road fo.ps j)).map (Prod.mk i))) ⟨smUpd nD2, [], upd_same, Nat.zero_le _, .nil⟩ (fun m H' _ z => tnL (z.1 _ _ (S2 _ _ h3))) ?_ ?_
      · rintro n x H' hx ⟨sm3, ws, hW, hwl, hWP⟩
        obtain ⟨j, hj, rfl⟩ := vn_get hx
        have hjl := ok.al j (List.mem_of_getElem? hj)
        have hnl : n < fo.as.length := (List.getElem?_eq_some_iff.mp hj).1
        have := lotLen ok.as ok.al
        have := ok.l1
        have et : (fo.as.take (n + 1)).filter (fun j => decide (i ∈ road fo.ps j)) = (fo.as.take n).filter (fun j => decide (i ∈ road fo.ps j)) ++ if i ∈ road fo.ps j then [j] else [] := by
          rw [List.take_add_one, hj, List.filter_append]
          by_cases c : i ∈ road fo.ps j
          · rw [if_pos c]; show _ ++ List.filter _ [j] = _; rw [List.filter_cons_of_pos (by simpa using c)]; rfl
          · rw [if_neg c]; show _ ++ List.filter _ [j] = _; rw [List.filter_cons_of_neg (by simpa using c)]; rfl
        refine ⟨rfl, _, rfl, _, rfl, b, _, rfl, .inr (tnL (sm3 _ _ hb)), rfl, vn_flat _, _, rfl, ?_⟩
        by_cases c : i ∈ road fo.ps j
        · refine ifT (by show inV (vn j) _ = true; rw [inV_vn]; exact decide_eq_true (dwn_mem.mpr ⟨hjl, c⟩)) ?_
          refine ⟨_, rfl, _, rfl, by show 2 ≤ sizeLine; decide, fun t nt => ?_⟩
          have S4 := smUpd (o := .tup [vn i, vn j]) nt
          have hW4 := S4 _ _ hW
          refine ⟨ws, hW4, small1000 (by omega), smOver nD2 (sm3.trans S4), _, upd_same, by rw [List.length_append]; show ws.length + 1 ≤ n + 1; omega, ?_⟩
          rw [et, if_pos c, List.map_append]
          exact pairsUpd hW4 (pairedSnoc (pairsSame S4 hWP) ⟨t, rfl, upd_same⟩)
        · refine ifF (by show ¬ inV (vn j) _ = true; rw [inV_vn]; simpa using fun z => c (dwn_mem.mp z).2) ?_
          refine ⟨sm3, ws, hW, by omega, ?_⟩
          rw [et, if_neg c, List.append_nil]
          exact hWP
      · rintro H3 ⟨sm3, ws, hW, hwl, hWP⟩
        rw [List.length_map, List.take_length] at hWP
        have hD3 := sm3 _ _ hD2
        have hU3 := pairsSame sm3 hU2
        have lw : ws.length ≤ 60 := by rw [List.length_map] at hwl; have := lotLen ok.as ok.al; have := ok.l1; omega
        have lu : us.length ≤ 3600 := by
          rw [Paired.length hU]
          have q1 : (fo.be.take m).length ≤ 60 := by have := lotLen ok.be ok.bl; have := ok.l1; rw [List.length_take]; omega
          have q2 : fo.as.length ≤ 60 := by have := lotLen ok.as ok.al; have := ok.l1; omega
          exact Nat.le_trans pairsOf_len (Nat.mul_le_mul q1 q2)
        refine ⟨D, D2, _, _, rfl, rfl, hD3, hW, Nat.le_of_lt (small4000 (by omega)), ?_⟩
        refine ⟨_, _, _, rfl, smOver nD (S2.trans sm3), upd_same, ?_⟩
        have et : fo.be.take (m + 1) = fo.be.take m ++ [i] := by rw [List.take_add_one, hi]; rfl
        rw [et, pairsOf_snoc]
        exact pairsUpd hD3 (pairedApp hU3 hWP)
    · rintro σ H1 ⟨t2, t3, us, rfl, sm, hD, hU⟩
      rw [List.length_map, List.take_length] at hU
      exact ⟨_, rfl, k D us _ sm nD hD hU⟩
end
end Cn
namespace Cn
open PySem PySem.Spec PyProof.Rows L2 Ck
/-! a dict made by a comprehension, its keys of any kind that a dict of the hand layer has (o0: the empty dict of that kind) -/
section
variable {X : Cx}
/-- stored by the comprehension -/
theorem putIn {pins : List (Addr × Obj)} {σ : L2.St} {H H' : Hp} {s : Shared} {E : Value → Shared → Prop} {D : Addr} {y z : V} {u r : Value} {Q : Unit → Shared → Prop} (hu : X.A.units + 1 < cLine) (I : Inv X pins σ H s) (put : DPut H D y z H') (ry : RelV y u) (rz : RelV z r) (k : ∀ s', Inv X pins σ H' s' → Q () s') : wpAny (model X.prog X.w) X.A (dictSet D u r) Q E s := by
  rcases put with ⟨kvs, q, hD, rfl, hl, rfl⟩ | ⟨kvs, q, b, hD, rfl, hb, hl, rfl⟩
  · exact L2.d_dictSet I hD hl ry rz k
  · cases (show u = Value.ref b from ry)
    obtain ⟨c1, c2, xs, rel, dd⟩ := dt_of I.hok hD
    have c3 : xs.length ≤ sizeLine := Paired.length rel ▸ c1
    have c4 : (putK kvs q z).length ≤ sizeLine := Nat.le_trans (length_putK kvs q z) hl
    refine wpAny_dictSet_heap (hsz := c3) (Nat.lt_of_succ_lt hu) (key_of I.hok hb) dd (fun g ⟨o, es, ep, e1, e2, e3, e4, _, e5⟩ same => k _ ?_)
    have kept : ∀ (c : Addr) (ys : List V), H c = some (.tup ys) → upd H D (.dT (putK kvs q z)) c = some (.tup ys) := fun c ys hc => (upd_ne (L2.ne_of hc hD nofun)).trans hc
    exact d_write I (hD ▸ True.intro) same ⟨o, e1⟩ ⟨c4, c2, _, (rel.put q hb rz).keeps fun c ys hc => kept c ys hc, o, es, ep, e1, e2, e3, e4, e5⟩
/-- a turn's word and the walk's, as for a list -/
def tDcP (o0 : HO) (wi : TI) (g : TG) (tt : TT) (tk tv : TE) (vs : List Nat) : TE := fun σ H Q => wi σ H fun J H1 => ∀ D, H1 D = none → ∃ W : Nat → Nat → Hp → Prop, (∃ m, W 0 m (upd H1 D o0)) ∧ ∀ i m G, W i m G → (J.stop i G ∧ Q (.ref D) G) ∨
  (J.go i G ∧ ∃ Nx : Hp → Prop, (∀ G', Nx G' → ∃ m', m' < m ∧ W (i + 1) m' G') ∧ ∀ x G', J.yld i G x G' → g x (wipe σ vs) G' fun τ G2 => wipe τ vs = wipe σ vs ∧ tt τ G2 fun b G3 => if b = true then tk τ G3 fun y G4 => tv τ G4 fun z G5 => ∃ G6, DPut G5 D y z G6 ∧ Nx G6 else Nx G3)
theorem dcP_core {pins : List (Addr × Obj)} {s : Shared} {σ : L2.St} {H : Hp} {Q : VK} {o0 : HO} {kx vx tg iter : Expr} {ifs : List Expr} {sc : Scope} {own : List (Str × Nat)} {pos ipos : Pos} {wi : TI} {g : TG} {tt : TT} {tk tv : TE} {use : Option (Value → Sem Unit)} {Qf : Value → Shared → Prop} (I : Inv X pins σ H s) (h0 : o0 = .dK [] ∨ o0 = .dT []) (hc : X.calm = true) (hu : X.A.units + 1 < cLine) (hN : X.N.Nodup) (hi : PI X tg iter wi) (ok : BlkOk X.N X.env.scope sc own)
    (hg : ∀ s H C cl fp, PG (X.blk s H sc (compEnvC sc cl C X.env) fp) tg g) (ht : ∀ s H C cl fp, PTs (X.blk s H sc (compEnvC sc cl C X.env) fp) ifs tt) (hk : ∀ s H C cl fp, PE (X.blk s H sc (compEnvC sc cl C X.env) fp) kx tk) (hv : ∀ s H C cl fp, PE (X.blk s H sc (compEnvC sc cl C X.env) fp) vx tv)
    (hs : ∀ x, foldedSetIterable iter X.env x = pure x) (hw : tDcP o0 wi g tt tk tv (own.map (·.2)) σ H Q)
    (last : ∀ D C t m G, Inv X pins σ G t → Q (.ref D) G → t.heap.Ns C m → FpOk X pins G C → compPost (model X.prog X.w) X.A X.xe use Qf (.ref D) C (.ok .next) t) :
    wpAny (model X.prog X.w) X.A (comprehension (.DictComp kx vx [⟨tg, iter, ifs, 0⟩] sc pos) sc X.env ipos newDict false (eval iter X.env) use) Qf X.xe s := by
  have cells : ∀ y ∈ sc.names, y.2 = .free → ∃ c, X.env.cells.lookup y.1 = some c := fun y hy e => (ok.free y hy e).elim (fun z => I.ok.has _ (.inl z)) (fun z => I.ok.has _ (.inr z))
  refine wpAny_comprehension_free (use := use) rfl hs (closure_ok cells) ok.kind (fun y hy e => (ok.uniq y hy).trans (congrArg some e)) ?_
  refine thn (hi.run pins s σ H _ I hw) fun _ sa wa => thn wa fun _ sb ⟨it, fp, tn, J, Ha, e, Ia, T, stA, okA, qq⟩ => ?_
  subst e
  refine wpAny_newObj_type (newEnv_comp ?_)
  obtain ⟨D, hD⟩ : ∃ D, sb.heap.objs.size = D := ⟨_, rfl⟩
  have fresh : Ha D = none := Ia.hok.fresh (Nat.le_of_eq hD)
  obtain ⟨W, ⟨m0, w0⟩, turn⟩ := qq D fresh
  obtain ⟨sd, ed⟩ : ∃ sd : Shared, ({ sb with heap := sb.heap.push { cls := .type "dict", data := .dict #[] } } : Shared) = sd := ⟨_, rfl⟩
  have heq : sd.heap = sb.heap.push { cls := .type "dict", data := .dict #[] } := ed ▸ rfl
  have Ib : Inv X pins σ (upd Ha D o0) sd := by
    subst ed hD
    refine Ia.laid (t' := sb.toks) (fun b o e => Heap.get?_push_of_some _ e) (Nat.le_refl _) ?_
    rcases h0 with rfl | rfl
    · exact dk_empty sb.heap Ia.big
    · exact dt_empty sb.heap Ia.big
  have below : ∀ b ∈ fp, b < sb.heap.objs.size := fun b hb => let ⟨_, e, _⟩ := T.obj _ _ stA b hb; Heap.lt_size e
  have okB : ∀ b ∈ fp, FpOk X pins (upd Ha D o0) b ∧ b < sd.heap.objs.size := fun b hb => by
    have lt := below b hb
    exact ⟨⟨(upd_ne (hD ▸ Nat.ne_of_lt lt)).trans (okA b hb).1, (okA b hb).2⟩, by rw [heq, Heap.size_push]; exact Nat.lt_succ_of_lt lt⟩
  have stB : tn 0 sd.heap := T.keep _ _ _ stA fun b _ o e => heq ▸ Heap.get?_push_of_some _ e
  have Ic := block_start Ib ok hN okB
  obtain ⟨C, hC⟩ : ∃ C, sd.heap.objs.size = C := ⟨_, rfl⟩
  rw [hC] at Ic
  obtain ⟨cl, hcl⟩ : ∃ cl, cellsFrom (C + 1) sc.names (cloFrom X.env.cells sc.names []) = cl := ⟨_, rfl⟩
  rw [hcl] at Ic
  obtain ⟨G, hG⟩ : ∃ G, upd Ha D o0 = G := ⟨_, rfl⟩
  rw [hG] at Ib Ic okB w0
  have rg := hg sd G C cl fp
  have rt := ht sd G C cl fp
  have rk := hk sd G C cl fp
  have rv := hv sd G C cl fp
  obtain ⟨ce, hce⟩ : ∃ ce, compEnvC sc cl C X.env = ce := ⟨_, rfl⟩
  have ceL : ce.locals = C := hce ▸ rfl
  rw [hce] at Ic rg rt rk rv
  obtain ⟨se, hse⟩ : ∃ se : Shared, ({ sd with heap := pushCells (sd.heap.push { cls := .type "dict", data := .dict #[] }) sc.names } : Shared) = se := ⟨_, rfl⟩
  rw [hse] at Ic
  have stC : tn 0 se.heap := T.keep _ _ _ stB fun b _ o e => hse ▸ pushCells_keeps _ _ _ _ (Heap.get?_push_of_some _ e)
  have none0 : ∀ b ∈ fp, G b = none := fun b hb => (okB b hb).1.1
  have looks : ∀ {σ' : L2.St} {H' : Hp} {s' : Shared}, Inv (X.blk sd G sc ce fp) [] σ' H' s' → (∀ b ∈ fp, H' b = none) → ∀ b ∈ fp, FpOk (X.blk sd G sc ce fp) [] H' b := fun I' z b hb =>
    ⟨z b hb, (I'.ok.exf b hb).1, I'.ok.exfs b hb, .inl hb, fun x c e => (I'.ok.exf b hb).2 x c e, fun p hp => nomatch (show p ∈ ([] : List (Addr × Obj)) from hp)⟩
  have whole : codeAny (model X.prog X.w) X.A (.compLoop (.DictComp kx vx [⟨tg, iter, ifs, 0⟩] sc pos) 0 (.ref it) (.ref D) ce) (compPost (model X.prog X.w) X.A X.xe use Qf (.ref D) C) se := by
    refine compLoop_anyD (fun n s' => ∃ i H', Inv (X.blk sd G sc ce fp) [] (wipe σ (own.map (·.2))) H' s' ∧ tn i s'.heap ∧ (∀ b ∈ fp, H' b = none) ∧ W i n H') ?_ m0 ⟨0, G, Ic, stC, none0, w0⟩
    rintro n t ⟨i, Ht, It, stT, noneT, wT⟩
    rcases turn i n Ht wT with ⟨stop, out⟩ | ⟨go, Nx, less, step⟩
    · refine thnF (T.done (X.blk sd G sc ce fp) rfl rfl rfl hc i [] t _ Ht (fun _ _ => False) It (looks It noneT) stT stop) fun r t' ⟨hr, Iu⟩ => ?_
      subst hr
      have back : Inv X pins σ Ht t' := Ib.call' (ch := fp) Iu.os Iu.base Iu.hok Iu.bare fun b hb => let z := (okB b hb).1.2; ⟨z.2.2.1, z.1, z.2.2.2.1, z.2.2.2.2⟩
      have gone : Ht C = none := ceL ▸ Iu.free
      obtain ⟨m, hm, _⟩ := Iu.loc
      have hm : t'.heap.Ns C m := ceL ▸ hm
      exact last D C t' m Ht back out hm (Ib.fpOk (Nat.le_of_eq hC) gone)
    · refine thnF (T.item (X.blk sd G sc ce fp) rfl rfl rfl hc i [] t _ Ht (fun _ _ => False) It (looks It noneT) stT go) fun r t1 ⟨u, hr, hh⟩ => ?_
      subst hr
      refine thnF hh fun _ t2 ⟨x, Hu, Iu, rx, yx, stU, noneU⟩ => ?_
      have Iw := Iu.pinned (looks Iu noneU) (T.obj _ _ stU)
      refine thnF (rg.run _ t2 _ Hu x u _ Iw rx (step x Hu yx)) fun _ t3 ⟨τ, Hv, Iv, wip, qv⟩ => ?_
      refine thnF (rt.run _ t3 τ Hv _ Iv qv) fun b t4 ⟨Hw, Ix, qw⟩ => ?_
      have onward : ∀ (t' : Shared) (H' : Hp), Inv (X.blk sd G sc ce fp) ([] ++ pinsAt fp t2.heap) τ H' t' → Nx H' → ∃ m, m < n ∧ ∃ i H', Inv (X.blk sd G sc ce fp) [] (wipe σ (own.map (·.2))) H' t' ∧ tn i t'.heap ∧ (∀ b ∈ fp, H' b = none) ∧ W i m H' := by
        intro t' H' I' nx
        obtain ⟨m, lt, wm⟩ := less H' nx
        have held : ∀ b ∈ fp, ∀ o, t2.heap.get? b = some o → t'.heap.get? b = some o ∧ H' b = none := fun b hb o e =>
          have z := I'.pin (b, o) (List.mem_append_right _ (List.mem_append_right _ (mem_pinsAt hb e)))
          ⟨z.1, z.2.1⟩
        refine ⟨m, lt, i + 1, H', (I'.unpinned (pins := [])).weak (by rw [← wip, wipe_length]) (fun j v e => (wipe_some (wip ▸ e : (wipe τ (own.map (·.2)))[j]? = some (some v))).1), T.keep _ _ _ stU fun b hb o e => (held b hb o e).1, fun b hb => ?_, wm⟩
        exact let ⟨o, e, _⟩ := T.obj _ _ stU b hb; (held b hb o e).2
      cases b with
      | false =>
        rw [if_neg Bool.false_ne_true] at qw
        rw [if_neg Bool.false_ne_true]
        exact onward t4 Hw Ix qw
      | true =>
        rw [if_pos rfl] at qw
        rw [if_pos rfl]
        refine thnF (rk.run _ t4 τ Hw _ Ix qw) fun z1 t5 ⟨y, Hy, Iy, ry, qy⟩ => ?_
        refine thnF (rv.run _ t5 τ Hy _ Iy qy) fun z2 t6 ⟨z, Hz, Iz, rz, He, put, nx⟩ => ?_
        exact putIn (X := X.blk sd G sc ce fp) hu Iz put ry rz fun t7 I7 => onward t7 He I7 nx
  have start := codeAny_compStart_dict whole (T.self X.A 0 _ _ _ stC whole)
  rw [← hC] at hcl
  subst hcl hce ed hse
  show codeAny _ _ _ _ _
  rw [hC] at start ⊢
  exact hD ▸ start
/-- as a value -/
theorem pe_dcP {o0 : HO} {kx vx tg iter : Expr} {ifs : List Expr} {sc : Scope} {own : List (Str × Nat)} {pos : Pos} {wi : TI} {g : TG} {tt : TT} {tk tv : TE} (h0 : o0 = .dK [] ∨ o0 = .dT []) (hc : X.calm = true) (hu : X.A.units + 1 < cLine) (hN : X.N.Nodup) (hi : PI X tg iter wi) (ok : BlkOk X.N X.env.scope sc own)
    (hg : ∀ s H C cl fp, PG (X.blk s H sc (compEnvC sc cl C X.env) fp) tg g) (ht : ∀ s H C cl fp, PTs (X.blk s H sc (compEnvC sc cl C X.env) fp) ifs tt) (hk : ∀ s H C cl fp, PE (X.blk s H sc (compEnvC sc cl C X.env) fp) kx tk) (hv : ∀ s H C cl fp, PE (X.blk s H sc (compEnvC sc cl C X.env) fp) vx tv)
    (hs : ∀ x, foldedSetIterable iter X.env x = pure x := by intro _; rfl) : PE X (.DictComp kx vx [⟨tg, iter, ifs, 0⟩] sc pos) (tDcP o0 wi g tt tk tv (own.map (·.2))) := by
  refine ⟨fun pins s σ H Q I hw => ?_⟩
  rw [arm_eval_DictComp]
  refine dcP_core I h0 hc hu hN hi ok hg ht hk hv hs hw fun D C t m G It q hm ⟨f0, f1, _, f3, f4, f5⟩ => ⟨m, hm, fun g' same => ?_⟩
  exact ⟨.ref D, G, It.turned (t' := t.toks) (fun b o hb e => (same.2 b hb).trans e) f0 f1 f3 f4 f5, rfl, q⟩
/-- stored under a name on its own row -/
theorem ps_setDcP {i : Nat} {y : Str} {py spos : Pos} {o0 : HO} {kx vx tg iter : Expr} {ifs : List Expr} {sc : Scope} {own : List (Str × Nat)} {pos : Pos} {wi : TI} {g : TG} {tt : TT} {tk tv : TE} (h0 : o0 = .dK [] ∨ o0 = .dT []) (hc : X.calm = true) (hu : X.A.units + 1 < cLine) (hN : X.N.Nodup) (hy : X.N[i]? = some y) (hl : X.env.scope.names.lookup y = some .local)
    (sw : swapsWith (.DictComp kx vx [⟨tg, iter, ifs, 0⟩] sc pos) (some (.Name y py)) spos.line X.env = pure true) (hi : PI X tg iter wi) (ok : BlkOk X.N X.env.scope sc own)
    (hg : ∀ s H C cl fp, PG (X.blk s H sc (compEnvC sc cl C X.env) fp) tg g) (ht : ∀ s H C cl fp, PTs (X.blk s H sc (compEnvC sc cl C X.env) fp) ifs tt) (hk : ∀ s H C cl fp, PE (X.blk s H sc (compEnvC sc cl C X.env) fp) kx tk) (hv : ∀ s H C cl fp, PE (X.blk s H sc (compEnvC sc cl C X.env) fp) vx tv)
    (hs : ∀ x, foldedSetIterable iter X.env x = pure x := by intro _; rfl) :
    PS X (.Assign [.Name y py] (.DictComp kx vx [⟨tg, iter, ifs, 0⟩] sc pos) spos) (tAsg (tDcP o0 wi g tt tk tv (own.map (·.2))) (gName i)) := by
  refine ⟨fun pins s σ H D I hw => ?_⟩
  rw [exec_Assign_Name_used _ _ _ _ sw]
  have hw : tDcP o0 wi g tt tk tv (own.map (·.2)) σ H (fun x G => gName i x σ G D.nx) := hw
  have go := dcP_core (pos := pos) (ipos := firstIterPos [⟨tg, iter, ifs, 0⟩] pos) (use := some (assign (.Name y py) X.env)) (Qf := fun _ s' => SP X pins D .next s') I h0 hc hu hN hi ok hg ht hk hv hs hw fun L C t m G It q hm f => by
    refine wpAny_assign_Name (store_ok2 (v := V.ref L) It hN hy (.inl hl) rfl (fun t2 I2 ⟨a, sb, ha⟩ => ?_) (.inr hl))
    have ne : C ≠ a := ha.elim (fun z => z ▸ f.2.1) (fun z e => f.2.2.2.2.1 y a z e.symm)
    exact ⟨m, hm.sameBut sb ne, fun g' same => ⟨_, G, I2.turned (t' := t2.toks) (fun b o hb e => (same.2 b hb).trans e) f.1 f.2.1 f.2.2.2.1 f.2.2.2.2.1 f.2.2.2.2.2, q⟩⟩
  exact wpAny_bind (wpAny_standAt (wpAny_bind (wpAny_bind (thn go fun _ _ z => wpAny_pure (wpAny_pure z)))))
theorem sw_dict {kx vx : Expr} {gs : List Comprehension} {sc : Scope} {pos py : Pos} {y : Str} {l : Nat} {env : Env} (hk : env.scope.kind = .function) (hy : env.scope.names.lookup y = some .local) (hl : (py.line == pos.line) = true) (ha : (sc.names.any fun q => q.1 == y && (q.2 == .local || q.2 == .cell)) = false) :
    swapsWith (.DictComp kx vx gs sc pos) (some (.Name y py)) l env = pure true := by
  have e1 : env.kindOf y = some .local := hy
  have e2 : env.blockKind = .function := by unfold Env.blockKind; rw [hk]; rfl
  show (pure (env.blockKind == ScopeKind.function && env.kindOf y == some NameKind.local && py.line == pos.line && !(sc.names.any fun q => q.1 == y && (q.2 == .local || q.2 == .cell))) : Sem Bool) = pure true
  rw [e1, e2, hl, ha]
  rfl
end
end Cn
namespace Cn
open PySem PySem.Spec PyProof.Rows L2 Ck
/-! a dict by pairs -/
def pk (p : Nat × Nat) : List Key := [.inl (p.1 : Int), .inl (p.2 : Int)]
theorem pk_inj {p q : Nat × Nat} (h : pk p = pk q) : p = q := by
  unfold pk at h
  simp only [List.cons.injEq, Sum.inl.injEq, Int.natCast_inj] at h
  exact Prod.ext h.1 h.2.1
theorem pk_tup {p : Nat × Nat} : (pk p).map kV = [vn p.1, vn p.2] := rfl
def byPair (v : Nat × Nat → V) (prs : List (Nat × Nat)) : List (List Key × V) := prs.map fun p => (pk p, v p)
theorem byPair_no {v : Nat × Nat → V} {q : Nat × Nat} : ∀ {prs : List (Nat × Nat)}, q ∉ prs → valV (byPair v prs) (pk q) = none
  | [], _ => rfl
  | p :: prs, h => (valV_neg (p := (pk p, v p)) (fun z => h (pk_inj z ▸ List.mem_cons_self))).trans (byPair_no fun z => h (List.mem_cons_of_mem _ z))
theorem byPair_yes {v : Nat × Nat → V} {q : Nat × Nat} : ∀ {prs : List (Nat × Nat)}, q ∈ prs → valV (byPair v prs) (pk q) = some (v q)
  | p :: prs, h => by
    by_cases e : p = q
    · rw [e]
      exact valV_pos (p := (pk q, v q)) rfl
    · refine (valV_neg (p := (pk p, v p)) (fun z => e (pk_inj z))).trans (byPair_yes ?_)
      rcases List.mem_cons.mp h with z | z
      · exact absurd z.symm e
      · exact z
theorem byPair_put {v : Nat × Nat → V} {q : Nat × Nat} {prs : List (Nat × Nat)} (h : q ∉ prs) : putK (byPair v prs) (pk q) (v q) = byPair v (prs ++ [q]) := by
  rw [putK_new _ (byPair_no h)]
  unfold byPair
  rw [List.map_append]
  rfl
theorem byPair_set {v : Nat × Nat → V} {q : Nat × Nat} {prs : List (Nat × Nat)} {x : V} (h : q ∈ prs) : putK (byPair v prs) (pk q) x = byPair (fun p => if p = q then x else v p) prs := by
  unfold putK
  have a : ((byPair v prs).any fun kv => decide (kv.1 = pk q)) = true := by rw [valV_any, byPair_yes h]; rfl
  rw [if_pos a]
  unfold byPair
  rw [List.map_map]
  refine List.map_congr_left fun p _ => ?_
  show (if pk p = pk q then (pk p, x) else (pk p, v p)) = (pk p, if p = q then x else v p)
  by_cases e : p = q
  · rw [e, if_pos rfl, if_pos rfl]
  · rw [if_neg (fun z => e (pk_inj z)), if_neg e]
theorem byPair_len {v : Nat × Nat → V} {prs : List (Nat × Nat)} : (byPair v prs).length = prs.length := List.length_map ..
/-- the pairs ascend -/
def lexLt (p q : Nat × Nat) : Prop := p.1 < q.1 ∨ (p.1 = q.1 ∧ p.2 < q.2)
theorem pairsOf_mem {ps : List (Option Nat)} {be as : List Nat} {i j : Nat} : (i, j) ∈ pairsOf ps be as ↔ i ∈ be ∧ j ∈ as ∧ i ∈ road ps j := by
  unfold pairsOf
  rw [List.mem_flatMap]
  constructor
  · rintro ⟨a, ha, h⟩
    obtain ⟨b, hb, e⟩ := List.mem_map.mp h
    obtain ⟨hb1, hb2⟩ := List.mem_filter.mp hb
    cases e
    exact ⟨ha, hb1, of_decide_eq_true hb2⟩
  · rintro ⟨h1, h2, h3⟩
    exact ⟨i, h1, List.mem_map.mpr ⟨j, List.mem_filter.mpr ⟨h2, decide_eq_true h3⟩, rfl⟩⟩
theorem pairsOf_asc {ps : List (Option Nat)} {as : List Nat} (ha : as.Pairwise (· < ·)) : ∀ {be : List Nat}, be.Pairwise (· < ·) → (pairsOf ps be as).Pairwise lexLt
  | [], _ => .nil
  | i :: be, hb => by
    obtain ⟨h1, h2⟩ := List.pairwise_cons.mp hb
    show (((as.filter fun j => decide (i ∈ road ps j)).map (Prod.mk i)) ++ pairsOf ps be as).Pairwise lexLt
    refine List.pairwise_append.mpr ⟨List.pairwise_map.mpr ((ha.filter _).imp fun h => .inr ⟨rfl, h⟩), pairsOf_asc ha h2, fun x hx y hy => ?_⟩
    obtain ⟨j, _, rfl⟩ := List.mem_map.mp hx
    exact .inl (h1 _ (pairsOf_mem.mp (show (y.1, y.2) ∈ _ from hy)).1)
theorem pairsOf_nd {f : Fo} (ok : FoOk f) : (pairsOf f.ps f.be f.as).Nodup := (pairsOf_asc ok.as ok.be).imp fun h e => by
  subst e
  rcases h with h | h <;> omega
theorem vnEm (ns : List Nat) : (ns.map vn).isEmpty = ns.isEmpty := by cases ns <;> rfl
/-! what a note of the forest is -/
structure NoteOk (prs : List (Nat × Nat)) (p : List Nat × List Nat) : Prop where
  a1 : p.1.Pairwise (· < ·)
  a2 : p.2.Pairwise (· < ·)
  n1 : p.1 ≠ []
  n2 : p.2 ≠ []
  l1 : p.1.length ≤ 60
  l2 : p.2.length ≤ 60
  sub : ∀ i ∈ p.1, ∀ j ∈ p.2, (i, j) ∈ prs
section
variable {P : Program} {w : World} {K : PySem.W.Frag} {mg : Str → Option Value} {base : Heap} {C : Addr}
theorem dLot (B : Defs K mg C) : Def P w K mg base "is_lot" 2 ["thing"] spIsLot := by
  obtain ⟨fI, fdI, DI⟩ := B.I
  exact def_of B.L fun f fd F => ok_isLot F B.N DI
def spIsNote : Sp := fun vs H Q _ => ∃ (D : Addr) (v : V) (prs : List (Nat × Nat)) (p : List Nat × List Nat), vs = [.ref D, v] ∧ H D = some (.dT (byPair (fun _ => .bl true) prs)) ∧ NoteR H v p ∧ NoteOk prs p ∧ ∀ H', Same H H' → Q (.bl true) H'
def nIsNote : List Str := ["served", "thing", "places", "asks", "i", "j"]
theorem scIsNote : FnScope nIsNote ["served", "thing"] (defScope sIsNote) := ⟨rfl, rfl, rfl, by decide +kernel, rfl, by decide +kernel, by decide +kernel⟩
theorem dIsNote (B : Defs K mg C) : Def P w K mg base "_is_note" 3 ["served", "thing"] spIsNote := by
  obtain ⟨fL, fdL, GL, gL, kL, bL⟩ := dLot (P := P) (w := w) (base := base) B
  have N := B.N
  refine def_of B.ion fun f fd F => ?_
  refine F.ok scIsNote (fun vs H Q E h => ?_) (fun cdv A outer s H vs Q E hr h => ?_)
  · obtain ⟨D, v, prs, p, rfl, _⟩ := h
    rfl
  · obtain ⟨D, v, prs, p, rfl, hD, ⟨t, x, y, rfl, ht, hx, hy⟩, ok, k⟩ := h
    have hu : (A.deeper (envOfC "_is_note" (defScope sIsNote) s.heap.objs.size f cdv)).units + 1 < cLine := by have := hr.units; omega
    refine ⟨_, pss_cons (ps_if (PW.pt (pw_or (pt_not (pt_val (pe_callB call_isi (by rfl) N.is.inst (by decide +kernel) (pa_cons (pv 1) (pa_cons (pe_bltn (v := .ty "tuple") (by rfl) N.is.tup (by decide +kernel) rfl) pa_nil)))))
          (pw_or1 (pt_cmpR op_ne (pe_callB call_len_seq (by rfl) N.is.len PySem.boot_len (pa_cons (pv 1) pa_nil)) pe_int (nomark _))))) (pss_one ps_never) pss_nil)
      (pss_cons (ps_asg (pv 1) (pg_tup rfl (pgs_cons (pg_name (i := 2) scIsNote.nd rfl (Or.inl rfl)) (pgs_cons (pg_name (i := 3) scIsNote.nd rfl (Or.inl rfl)) pgs_nil))))
      (pss_cons (ps_if (PW.pt (pw_or (pt_not (pt_val (pe_call GL hr (by rfl) gL kL bL .nil pass0 (pa_cons (pv 2) pa_nil))))
          (pw_or (pt_not (pt_val (pe_call GL hr (by rfl) gL kL bL .nil pass0 (pa_cons (pv 3) pa_nil)))) (pw_or (pt_not (pt_truth (pv 2) (by intro _; rfl))) (pw_or1 (pt_not (pt_truth (pv 3) (by intro _; rfl)))))))) (pss_one ps_never) pss_nil)
      (pss_cons (ps_for PassesOwn.never rfl (pi_tup (pv 2)) (pg_name (i := 4) scIsNote.nd rfl (Or.inl rfl))
        (pss_one (ps_for PassesOwn.never rfl (pi_tup (pv 3)) (pg_name (i := 5) scIsNote.nd rfl (Or.inl rfl))
          (pss_one (ps_if (pt_cmp (pc_dnotin hu (pe_tup (pa_cons (pv 4) (pa_cons (pv 5) pa_nil))) (pv 0))) (pss_one ps_never) pss_nil)))))
      (pss_one (ps_ret pe_bl))))), ?_⟩
    refine ⟨_, rfl, _, .ty "tuple", _, _, true, rfl, .ty _, tupTy ht, kit_ty (by decide +kernel), true, rfl, ?_⟩
    refine ifF (by decide) ?_
    refine ⟨_, rfl, t, _, rfl, .inr (.inl (.inl ht)), rfl, _, rfl, ?_⟩
    refine ifF (by show ¬ (!decide ((2 : Int) = 2)) = true; decide) ?_
    refine ⟨_, rfl, t, _, rfl, .inl (.inl ht), rfl, _, _, rfl, _, _, rfl, rfl, ?_⟩
    refine ⟨_, rfl, x, p.1, rfl, hx, ok.a1, by have := ok.l1; omega, fun H1 s1 => ⟨true, rfl, ?_⟩⟩
    refine ifF (by decide) ?_
    refine ⟨_, rfl, y, p.2, rfl, s1 _ _ hy, ok.a2, by have := ok.l2; omega, fun H2 s2 => ⟨true, rfl, ?_⟩⟩
    refine ifF (by decide) ?_
    have S2 := s1.trans s2
    have e1 : p.1.isEmpty = false := by cases h : p.1 with | nil => exact absurd h ok.n1 | cons _ _ => rfl
    have e2 : p.2.isEmpty = false := by cases h : p.2 with | nil => exact absurd h ok.n2 | cons _ _ => rfl
    refine ⟨_, rfl, _, .inr (.inl ⟨_, tnL (S2 _ _ hx), rfl⟩), ?_⟩
    refine ifF (by rw [vnEm, e1]; decide) ?_
    refine ⟨_, rfl, _, .inr (.inl ⟨_, tnL (S2 _ _ hy), rfl⟩), ?_⟩
    refine ifF (by rw [vnEm, e2]; decide) ?_
    refine ⟨_, rfl, x, rfl, ⟨_, tnL (S2 _ _ hx)⟩, ?_⟩
    refine for_tup (xs := p.1.map vn) (fun m σ H' => ∃ t4 t5, σ = [some (.ref D), some (.ref t), some (.ref x), some (.ref y), t4, t5] ∧ Same H H') ⟨none, none, rfl, S2⟩ (fun m σ H' _ z => by
      obtain ⟨_, _, _, sm⟩ := z
      exact tnL (sm _ _ hx)) ?_ ?_
    · rintro m u σ H' hm ⟨t4, t5, rfl, sm⟩
      obtain ⟨i, hi, rfl⟩ := vn_get hm
      have hi := List.mem_of_getElem? hi
      refine ⟨_, rfl, y, rfl, ⟨_, tnL (sm _ _ hy)⟩, ?_⟩
      refine for_tup (xs := p.2.map vn) (fun m σ H' => ∃ t5, σ = [some (.ref D), some (.ref t), some (.ref x), some (.ref y), some (vn i), t5] ∧ Same H H') ⟨t5, rfl, sm⟩ (fun m σ H' _ z => by
        obtain ⟨_, _, sm⟩ := z
        exact tnL (sm _ _ hy)) ?_ ?_
      · rintro n u σ G hn ⟨t5, rfl, sm⟩
        obtain ⟨j, hj, rfl⟩ := vn_get hn
        have hj := List.mem_of_getElem? hj
        refine ⟨_, rfl, _, rfl, by show 2 ≤ sizeLine; decide, fun l nl => ?_⟩
        have S3 := sm.trans (smUpd (o := .tup [vn i, vn j]) nl)
        refine ⟨_, rfl, D, _, rfl, DGet.t (k := pk (i, j)) (S3 _ _ hD) upd_same, _, rfl, ?_⟩
        refine ifF (by rw [byPair_yes (ok.sub i hi j hj)]; decide) ?_
        exact ⟨_, rfl, S3⟩
      · rintro σ G ⟨t5, rfl, sm⟩
        exact ⟨_, _, rfl, sm⟩
    · rintro σ H' ⟨t4, t5, rfl, sm⟩
      exact k _ sm
end
end Cn
namespace Cn
open PySem PySem.Spec PyProof.Rows L2 Ck
theorem PI.orr {X : Cx} {tg e : Expr} {w1 w2 : TI} (h : PI X tg e w1) (k : PI X tg e w2) : PI X tg e (fun σ H R => w1 σ H R ∨ w2 σ H R) := ⟨fun pins s σ H R I q => q.elim (h.run pins s σ H R I) (k.run pins s σ H R I)⟩
/-- a dict comprehension over a list that stays -/
theorem dcP_list {K : PySem.W.Frag} {o0 : HO} {a : Addr} {xs : List V} {g : TG} {tt : TT} {tk tv : TE} {vs : List Nat} {σ : L2.St} {H1 : Hp} {D : Addr} {Qd : Hp → Prop} (Pv : Nat → Hp → Prop) (h0 : Pv 0 (upd H1 D o0)) (hl : ∀ i H, i ≤ xs.length → Pv i H → SqL K H a xs)
    (hs : ∀ i x H, xs[i]? = some x → Pv i H → g x (wipe σ vs) H fun τ G2 => wipe τ vs = wipe σ vs ∧ tt τ G2 fun b G3 => if b = true then tk τ G3 fun y G4 => tv τ G4 fun z G5 => ∃ G6, DPut G5 D y z G6 ∧ Pv (i + 1) G6 else Pv (i + 1) G3) (hd : ∀ H, Pv xs.length H → Qd H) :
    ∃ W : Nat → Nat → Hp → Prop, (∃ m, W 0 m (upd H1 D o0)) ∧ ∀ i m G, W i m G → ((Itl K a).stop i G ∧ Qd G) ∨
      ((Itl K a).go i G ∧ ∃ Nx : Hp → Prop, (∀ G', Nx G' → ∃ m', m' < m ∧ W (i + 1) m' G') ∧ ∀ x G', (Itl K a).yld i G x G' → g x (wipe σ vs) G' fun τ G2 => wipe τ vs = wipe σ vs ∧ tt τ G2 fun b G3 => if b = true then tk τ G3 fun y G4 => tv τ G4 fun z G5 => ∃ G6, DPut G5 D y z G6 ∧ Nx G6 else Nx G3) := by
  refine ⟨fun i m G => m = xs.length - i ∧ i ≤ xs.length ∧ Pv i G, ⟨_, rfl, Nat.zero_le _, h0⟩, ?_⟩
  rintro i m G ⟨rfl, hi, p⟩
  have sq := hl i G hi p
  rcases Nat.lt_or_ge i xs.length with lt | ge
  · refine .inr ⟨⟨xs, xs[i], sq, List.getElem?_eq_getElem lt⟩, Pv (i + 1), fun G' p' => ⟨_, by omega, rfl, lt, p'⟩, ?_⟩
    rintro x G' ⟨rfl, y⟩
    exact hs i x _ (y xs sq) p
  · have e : i = xs.length := Nat.le_antisymm hi ge
    exact .inl ⟨⟨xs, sq, ge⟩, hd G (e ▸ p)⟩
/-- a list or a tuple -/
def SeqH (H : Hp) (b : Addr) (us : List V) : Prop := H b = some (.lst us) ∨ H b = some (.tup us)
theorem seqSame {H H' : Hp} (s : Same H H') {b : Addr} {us : List V} (h : SeqH H b us) : SeqH H' b us := h.imp (s _ _) (s _ _)
theorem seqSq {K : PySem.W.Frag} {H : Hp} {b : Addr} {us : List V} (h : SeqH H b us) : SqL K H b us ∨ SqT K H b us := h.imp (fun z => .inl (.inl z)) (fun z => .inl (.inl z))
/-- either is walked -/
theorem seqWalk {K : PySem.W.Frag} {a : Addr} {xs : List V} {σ : L2.St} {H : Hp} {i : Nat} {R : It → Hp → Prop} {H0 : Hp} (hv : σ[i]? = some (some (.ref a))) (hq : SeqH H0 a xs) (s0 : Same H0 H) (k : ∀ J, Walk J xs.length (fun G => Same H0 G) (YAt xs) → R J H) : iList K (tVar i) σ H R ∨ iTup K (tVar i) σ H R :=
  hq.elim (fun z => .inl ⟨_, hv, a, rfl, ⟨xs, .inl (.inl (s0 _ _ z))⟩, k _ ((walk_list (K := K)).mono (fun _ (s : Same H0 _) => .inl (.inl (s _ _ z))) fun _ _ _ _ _ _ y => y)⟩) (fun z => .inr ⟨_, hv, a, rfl, ⟨xs, .inl (.inl (s0 _ _ z))⟩, k _ ((walk_tup (K := K)).mono (fun _ (s : Same H0 _) => .inl (.inl (s _ _ z))) fun _ _ _ _ _ _ y => y)⟩)
theorem seqTyB {K : PySem.W.Frag} {H : Hp} {b : Addr} {us : List V} (h : SeqH H b us) : ∃ t, TyX K H (.ref b) t ∧ PySem.W.kitAny K t [.type "list", .type "tuple"] = some true := by
  rcases h with h | h
  · exact ⟨.type "list", .base (.lst h), kitAny_cons (b := true) (kit_ty (by decide +kernel)) (fun z => absurd z (by decide)) fun _ => rfl⟩
  · exact ⟨.type "tuple", .base (.tup h), kitAny_cons (b := false) (kit_ty (by decide +kernel)) (fun _ => kitAny_cons (b := true) (kit_ty (by decide +kernel)) (fun z => absurd z (by decide)) fun _ => rfl) (fun z => absurd z (by decide))⟩
theorem pairedGetQ {α β : Type} {F : α → β → Prop} : ∀ {xs : List α} {ys : List β} {i : Nat} {x : α}, Paired F xs ys → xs[i]? = some x → ∃ y, ys[i]? = some y ∧ F x y
  | _, _, i, x, .nil, h => by rw [List.getElem?_nil] at h; cases h
  | _, _, 0, x, .cons a t, h => by cases h; exact ⟨_, rfl, a⟩
  | _, _, i + 1, x, .cons a t, h => by
    rw [List.getElem?_cons_succ] at h
    obtain ⟨y, h1, h2⟩ := pairedGetQ t h
    exact ⟨y, by rw [List.getElem?_cons_succ]; exact h1, h2⟩
theorem nd_take {α : Type} {xs : List α} {m : Nat} {x : α} (nd : xs.Nodup) (h : xs[m]? = some x) : x ∉ xs.take m := fun z => by
  obtain ⟨j, hj⟩ := List.getElem?_of_mem z
  rw [List.getElem?_take] at hj
  split at hj
  · have h1 := List.getElem?_eq_some_iff.mp h
    have h2 := List.getElem?_eq_some_iff.mp hj
    have := (List.getElem_inj (h₀ := h2.1) (h₁ := h1.1) nd).mp (h2.2.trans h1.2.symm)
    omega
  · cases hj
section
variable {P : Program} {w : World} {K : PySem.W.Frag} {mg : Str → Option Value} {base : Heap} {C : Addr}
/-- right notes of the forest -/
structure NotesOk (prs : List (Nat × Nat)) (ns : List (List Nat × List Nat)) : Prop where
  len : ns.length ≤ 200
  all : ∀ p ∈ ns, NoteOk prs p
def spIsNotes (C : Addr) : Sp := fun vs H Q _ => ∃ (a b : Addr) (f : Fo) (us : List V) (ns : List (List Nat × List Nat)), vs = [.ref a, .ref b] ∧ FoAt C H a f ∧ FoOk f ∧ SeqH H b us ∧ NotesR H us ns ∧ NotesOk (pairsOf f.ps f.be f.as) ns ∧ ∀ H', Same H H' → Q (.bl true) H'
def nIsNotes : List Str := ["forest", "thing", "served", "pair", "item"]
theorem scIsNotes : FnScope nIsNotes ["forest", "thing"] (defScope sIsNotes) := ⟨rfl, rfl, rfl, by decide +kernel, rfl, by decide +kernel, by decide +kernel⟩
theorem dIsNotes (B : Defs K mg C) : Def P w K mg base "is_notes" 6 ["forest", "thing"] (spIsNotes C) := by
  obtain ⟨fN, fdN, GN, gN, kN, bN⟩ := dIsNote (P := P) (w := w) (base := base) B
  obtain ⟨fP, fdP, GP, gP, kP, bP⟩ := dPairs (P := P) (w := w) (base := base) B
  obtain ⟨tm, mN⟩ := B.mN
  have N := B.N
  refine def_of B.isn fun f fd F => ?_
  refine F.ok scIsNotes (fun vs H Q E h => ?_) (fun cdv A outer s H vs Q E hr h => ?_)
  · obtain ⟨a, b, f, us, ns, rfl, _⟩ := h
    rfl
  · obtain ⟨a, b, fo, us, ns, rfl, hF, ok, hb, hn, hk, k⟩ := h
    have hr3 : Room 3 (A.deeper (envOfC "is_notes" (defScope sIsNotes) s.heap.objs.size f cdv)) := Room.mono hr (by decide)
    have hu : (A.deeper (envOfC "is_notes" (defScope sIsNotes) s.heap.objs.size f cdv)).units + 1 < cLine := by have := hr.units; omega
    refine ⟨_, pss_cons (ps_if (PW.pt (pw_or (pt_not (pt_val (pe_callB call_isiT (by rfl) N.is.inst (by decide +kernel) (pa_cons (pv 1) (pa_cons (pe_tup (pa_cons (pe_bltn (v := .ty "list") (by rfl) N.is.lst (by decide +kernel) rfl) (pa_cons (pe_bltn (v := .ty "tuple") (by rfl) N.is.tup (by decide +kernel) rfl) pa_nil))) pa_nil)))))
          (pw_or1 (pt_cmpR op_gt (pe_callB call_len_seq (by rfl) N.is.len PySem.boot_len (pa_cons (pv 1) pa_nil)) (pe_glob (v := .int 200) (by rfl) mN ⟨_, rfl⟩) (nomark _))))) (pss_one ps_never) pss_nil)
      (pss_cons (ps_setDcP (i := 2) (own := [("pair", 3)]) (g := gName 3) (tt := tYes) (tk := tVar 3) (tv := tC (.bl true)) (.inr rfl) rfl hu scIsNotes.nd rfl rfl (sw_dict rfl rfl rfl (by decide +kernel)) (pi_list (pe_call GP hr (by rfl) gP kP bP .nil pass0 (pa_cons (pv 0) pa_nil)))
          (blkOk_by (N := nIsNotes) (sc := defScope sIsNotes) (by decide +kernel)) (fun _ _ _ _ _ => pg_name (i := 3) scIsNotes.nd rfl (Or.inl rfl)) (fun _ _ _ _ _ => pts_nil) (fun _ _ _ _ _ => pv 3) (fun _ _ _ _ _ => pe_bl))
      (pss_cons (ps_for PassesOwn.never rfl (PI.orr (pi_list (pv 1)) (pi_tup (pv 1))) (pg_name (i := 4) scIsNotes.nd rfl (Or.inl rfl))
        (pss_one (ps_if (pt_not (pt_val (pe_call GN hr3 (by rfl) gN kN bN .nil pass0 (pa_cons (pv 2) (pa_cons (pv 4) pa_nil))))) (pss_one ps_never) pss_nil)))
      (pss_one (ps_ret pe_bl)))), ?_⟩
    have ul : us.length ≤ 200 := Nat.le_trans (Nat.le_of_eq (Paired.length hn)) hk.len
    refine ⟨_, rfl, by show 2 ≤ sizeLine; decide, fun t1 m1 => ?_⟩
    have S1 := smUpd (o := .tup [.ty "list", .ty "tuple"]) m1
    have ht1 : upd H t1 (.tup [.ty "list", .ty "tuple"]) t1 = some (.tup [.ty "list", .ty "tuple"]) := upd_same
    generalize upd H t1 (.tup [.ty "list", .ty "tuple"]) = H1 at S1 ht1 ⊢
    obtain ⟨ty, hty, kty⟩ := seqTyB (K := K) (seqSame S1 hb)
    refine ⟨_, t1, _, _, _, true, rfl, ht1, .cons (.ty _) (.cons (.ty _) .nil), hty, kty, true, rfl, ?_⟩
    refine ifF (by decide) ?_
    refine ⟨_, rfl, b, _, rfl, seqSq (seqSame S1 hb), _, _, rfl, rfl, _, rfl, ?_⟩
    refine ifF (by simpa using (by omega : (us.length : Int) ≤ 200)) ?_
    refine ⟨_, rfl, a, fo, rfl, foAt_same S1 hF, ok, fun r ws H2 s2 nr hr2 hW => ?_⟩
    have S2 := S1.trans s2
    refine ⟨r, rfl, ⟨_, .inl (.inl hr2)⟩, fun D nD => ?_⟩
    have lp := pairs3600 ok
    have nd := pairsOf_nd ok
    refine dcP_list (K := K) (a := r) (xs := ws) (fun m H' => Same H2 H' ∧ H' D = some (.dT (byPair (fun _ => .bl true) ((pairsOf fo.ps fo.be fo.as).take m)))) ⟨smUpd nD, upd_same⟩ (fun m H' _ z => .inl (.inl (z.1 _ _ hr2))) ?_ ?_
    · rintro m x H' hx ⟨sm, hD⟩
      obtain ⟨p, hp, t, rfl, ht⟩ := pairedGetQ (pairsSame sm hW) hx
      refine ⟨rfl, ?_⟩
      show tYes _ _ _
      refine ⟨_, rfl, _, DPut.t (k := pk p) hD ht (small4000 (by rw [byPair_len, List.length_take]; omega)), smOver nD sm, ?_⟩
      have hnp : p ∉ (pairsOf fo.ps fo.be fo.as).take m := nd_take nd hp
      rw [upd_same, byPair_put (v := fun _ => V.bl true) hnp, List.take_add_one, hp]
      rfl
    · rintro H3 ⟨sm3, hD⟩
      rw [Paired.length hW, List.take_length] at hD
      have S3 := S2.trans sm3
      show _ ∨ _
      refine seqWalk rfl (seqSame S3 hb) (Same.refl _) fun J wk => ?_
      refine for_it wk (fun m σ H' => ∃ t4, σ = [some (.ref a), some (.ref b), some (.ref D), none, t4] ∧ Same H3 H') ⟨none, rfl, Same.refl _⟩ (fun m σ H' _ z => by
        obtain ⟨_, _, sm⟩ := z
        exact sm) ?_ ?_
      · rintro m x σ H4 _ hm ⟨t4, rfl, sm⟩ ⟨rfl, hx⟩
        obtain ⟨p, hp, hv⟩ := pairedGetQ (notesSame (S3.trans sm) hn) hx
        refine ⟨_, rfl, _, rfl, D, x, pairsOf fo.ps fo.be fo.as, p, rfl, sm _ _ hD, hv, hk.all p (List.mem_of_getElem? hp), fun H5 s5 => ⟨true, rfl, ?_⟩⟩
        refine ifF (by decide) ?_
        exact ⟨_, rfl, sm.trans s5⟩
      · rintro σ H4 ⟨t4, rfl, sm⟩
        exact k _ (S3.trans sm)
end
end Cn
namespace Cn
open PySem PySem.Spec PyProof.Rows L2 Ck
/-- in how many of the notes a pair is -/
def times (ns : List (List Nat × List Nat)) (p : Nat × Nat) : Nat := ns.countP fun q => decide (p.1 ∈ q.1) && decide (p.2 ∈ q.2)
theorem times_snoc {ns : List (List Nat × List Nat)} {q : List Nat × List Nat} {p : Nat × Nat} : times (ns ++ [q]) p = times ns p + if p.1 ∈ q.1 ∧ p.2 ∈ q.2 then 1 else 0 := by
  unfold times
  rw [List.countP_append, List.countP_singleton]
  by_cases c : p.1 ∈ q.1 ∧ p.2 ∈ q.2
  · rw [if_pos c, if_pos (by rw [decide_eq_true c.1, decide_eq_true c.2]; rfl)]
  · rw [if_neg c, if_neg (fun z => c ⟨of_decide_eq_true (Bool.and_eq_true _ _ ▸ z).1, of_decide_eq_true (Bool.and_eq_true _ _ ▸ z).2⟩)]
def addRow (g : Nat × Nat → Nat) (i : Nat) (js : List Nat) : Nat × Nat → Nat := fun p => g p + if p.1 = i ∧ p.2 ∈ js then 1 else 0
def addBox (g : Nat × Nat → Nat) (is js : List Nat) : Nat × Nat → Nat := fun p => g p + if p.1 ∈ is ∧ p.2 ∈ js then 1 else 0
theorem addRow_nil {g : Nat × Nat → Nat} {i : Nat} : addRow g i [] = g := funext fun p => by
  show g p + (if p.1 = i ∧ p.2 ∈ [] then 1 else 0) = g p
  rw [if_neg (fun z => nomatch z.2)]
  rfl
theorem addBox_nil {g : Nat × Nat → Nat} {js : List Nat} : addBox g [] js = g := funext fun p => by
  show g p + (if p.1 ∈ [] ∧ p.2 ∈ js then 1 else 0) = g p
  rw [if_neg (fun z => nomatch z.1)]
  rfl
theorem addRow_snoc {g : Nat × Nat → Nat} {i j : Nat} {js : List Nat} (h : j ∉ js) : (fun p => if p = (i, j) then addRow g i js (i, j) + 1 else addRow g i js p) = addRow g i (js ++ [j]) := funext fun p => by
  show (if p = (i, j) then g (i, j) + (if i = i ∧ j ∈ js then 1 else 0) + 1 else g p + (if p.1 = i ∧ p.2 ∈ js then 1 else 0)) = g p + (if p.1 = i ∧ p.2 ∈ js ++ [j] then 1 else 0)
  by_cases e : p = (i, j)
  · rw [if_pos e, if_neg (fun z => h z.2), e, if_pos ⟨rfl, List.mem_append_right _ (List.mem_singleton.mpr rfl)⟩]
  · rw [if_neg e]
    by_cases c : p.1 = i ∧ p.2 ∈ js
    · rw [if_pos c, if_pos ⟨c.1, List.mem_append_left _ c.2⟩]
    · rw [if_neg c, if_neg (fun z => (List.mem_append.mp z.2).elim (fun y => c ⟨z.1, y⟩) fun y => e (Prod.ext z.1 (List.mem_singleton.mp y)))]
theorem addBox_snoc {g : Nat × Nat → Nat} {i : Nat} {is js : List Nat} (h : i ∉ is) : addRow (addBox g is js) i js = addBox g (is ++ [i]) js := funext fun p => by
  show g p + (if p.1 ∈ is ∧ p.2 ∈ js then 1 else 0) + (if p.1 = i ∧ p.2 ∈ js then 1 else 0) = g p + (if p.1 ∈ is ++ [i] ∧ p.2 ∈ js then 1 else 0)
  by_cases e : p.1 = i
  · by_cases c : p.2 ∈ js <;> simp [e, h, c]
  · by_cases c : p.1 ∈ is <;> by_cases d : p.2 ∈ js <;> simp [e, c, d]
def cntD (g : Nat × Nat → Nat) (prs : List (Nat × Nat)) : List (List Key × V) := byPair (fun p => vn (g p)) prs
theorem cntD_up {g : Nat × Nat → Nat} {q : Nat × Nat} {prs : List (Nat × Nat)} (h : q ∈ prs) : putK (cntD g prs) (pk q) (.int ((g q : Int) + 1)) = cntD (fun p => if p = q then g q + 1 else g p) prs := by
  unfold cntD
  rw [byPair_set h]
  congr 1
  funext p
  show (if p = q then V.int ((g q : Int) + 1) else vn (g p)) = vn (if p = q then g q + 1 else g p)
  split
  · rfl
  · rfl
theorem nd_asc {xs : List Nat} (h : xs.Pairwise (· < ·)) : xs.Nodup := h.imp fun z e => by subst e; omega
theorem take_at {α : Type} {xs : List α} {m : Nat} {x : α} (h : xs[m]? = some x) : xs.take (m + 1) = xs.take m ++ [x] := by rw [List.take_add_one, h]; rfl
section
variable {P : Program} {w : World} {K : PySem.W.Frag} {mg : Str → Option Value} {base : Heap} {C : Addr}
def spCounted (C : Addr) : Sp := fun vs H Q _ => ∃ (a b : Addr) (f : Fo) (us : List V) (ns : List (List Nat × List Nat)), vs = [.ref a, .ref b] ∧ FoAt C H a f ∧ FoOk f ∧ SeqH H b us ∧ NotesR H us ns ∧ NotesOk (pairsOf f.ps f.be f.as) ns ∧
  ∀ D H', Same H H' → H' D = some (.dT (cntD (times ns) (pairsOf f.ps f.be f.as))) → H D = none → Q (.ref D) H'
def nCounted : List Str := ["forest", "notes", "counts", "pair", "places", "asks", "i", "j"]
theorem scCounted : FnScope nCounted ["forest", "notes"] (defScope sCounted) := ⟨rfl, rfl, rfl, by decide +kernel, rfl, by decide +kernel, by decide +kernel⟩
theorem dCounted (B : Defs K mg C) : Def P w K mg base "_counted" 6 ["forest", "notes"] (spCounted C) := by
  obtain ⟨fP, fdP, GP, gP, kP, bP⟩ := dPairs (P := P) (w := w) (base := base) B
  have N := B.N
  refine def_of B.cn fun f fd F => ?_
  refine F.ok scCounted (fun vs H Q E h => ?_) (fun cdv A outer s H vs Q E hr h => ?_)
  · obtain ⟨a, b, f, us, ns, rfl, _⟩ := h
    rfl
  · obtain ⟨a, b, fo, us, ns, rfl, hF, ok, hb, hn, hk, k⟩ := h
    have hu : (A.deeper (envOfC "_counted" (defScope sCounted) s.heap.objs.size f cdv)).units + 1 < cLine := by have := hr.units; omega
    refine ⟨_, pss_cons (ps_setDcP (i := 2) (own := [("pair", 3)]) (g := gName 3) (tt := tYes) (tk := tVar 3) (tv := tC (.int 0)) (.inr rfl) rfl hu scCounted.nd rfl rfl (sw_dict rfl rfl rfl (by decide +kernel)) (pi_list (pe_call GP hr (by rfl) gP kP bP .nil pass0 (pa_cons (pv 0) pa_nil)))
          (blkOk_by (N := nCounted) (sc := defScope sCounted) (by decide +kernel)) (fun _ _ _ _ _ => pg_name (i := 3) scCounted.nd rfl (Or.inl rfl)) (fun _ _ _ _ _ => pts_nil) (fun _ _ _ _ _ => pv 3) (fun _ _ _ _ _ => pe_int))
      (pss_cons (ps_for PassesOwn.never rfl (PI.orr (pi_list (pv 1)) (pi_tup (pv 1))) (pg_tup rfl (pgs_cons (pg_name (i := 4) scCounted.nd rfl (Or.inl rfl)) (pgs_cons (pg_name (i := 5) scCounted.nd rfl (Or.inl rfl)) pgs_nil)))
        (pss_one (ps_for PassesOwn.never rfl (pi_tup (pv 4)) (pg_name (i := 6) scCounted.nd rfl (Or.inl rfl))
          (pss_one (ps_for PassesOwn.never rfl (pi_tup (pv 5)) (pg_name (i := 7) scCounted.nd rfl (Or.inl rfl))
            (pss_one (ps_daug hu (pv 2) (pe_tup (pa_cons (pv 6) (pa_cons (pv 7) pa_nil))) pe_int in_add (fun _ _ _ => rfl))))))))
      (pss_one (ps_ret (pv 2)))), ?_⟩
    refine ⟨_, rfl, a, fo, rfl, hF, ok, fun r ws H2 s2 nr hr2 hW => ?_⟩
    refine ⟨r, rfl, ⟨_, .inl (.inl hr2)⟩, fun D nD => ?_⟩
    have lp := pairs3600 ok
    have nd := pairsOf_nd ok
    refine dcP_list (K := K) (a := r) (xs := ws) (fun m H' => Same H2 H' ∧ H' D = some (.dT (cntD (fun _ => 0) ((pairsOf fo.ps fo.be fo.as).take m)))) ⟨smUpd nD, upd_same⟩ (fun m H' _ z => .inl (.inl (z.1 _ _ hr2))) ?_ ?_
    · rintro m x H' hx ⟨sm, hD⟩
      obtain ⟨p, hp, t, rfl, ht⟩ := pairedGetQ (pairsSame sm hW) hx
      refine ⟨rfl, ?_⟩
      show tYes _ _ _
      refine ⟨_, rfl, _, DPut.t (k := pk p) hD ht (small4000 (by unfold cntD; rw [byPair_len, List.length_take]; omega)), smOver nD sm, ?_⟩
      rw [upd_same, take_at hp]
      exact congrArg (fun z => some (HO.dT z)) (byPair_put (v := fun _ => vn 0) (nd_take nd hp))
    · rintro H3 ⟨sm3, hD⟩
      rw [Paired.length hW, List.take_length] at hD
      have S3 := s2.trans sm3
      have nDH : H D = none := by
        cases h : H D with
        | none => rfl
        | some o => have := s2 _ _ h; rw [nD] at this; cases this
      have hD0 : H3 D = some (.dT (cntD (times []) (pairsOf fo.ps fo.be fo.as))) := hD
      show _ ∨ _
      refine seqWalk rfl hb S3 fun J wk => ?_
      refine for_it wk (fun m σ G => ∃ t4 t5 t6 t7, σ = [some (.ref a), some (.ref b), some (.ref D), none, t4, t5, t6, t7] ∧ Same H G ∧ G D = some (.dT (cntD (times (ns.take m)) (pairsOf fo.ps fo.be fo.as)))) ⟨none, none, none, none, rfl, S3, hD0⟩ (fun m σ G _ z => by
        obtain ⟨_, _, _, _, _, sm, _⟩ := z
        exact sm) ?_ ?_
      · rintro m x σ G _ hm ⟨t4, t5, t6, t7, rfl, sm, hG⟩ ⟨rfl, hx⟩
        obtain ⟨p, hp, t, x1, y1, rfl, ht, hx1, hy1⟩ := pairedGetQ hn hx
        have pk0 := hk.all p (List.mem_of_getElem? hp)
        refine ⟨t, _, rfl, .inl (.inl (sm _ _ ht)), rfl, _, _, rfl, _, _, rfl, rfl, ?_⟩
        refine ⟨_, rfl, x1, rfl, ⟨_, tnL (sm _ _ hx1)⟩, ?_⟩
        refine for_tup (xs := p.1.map vn) (fun n σ G => ∃ t6 t7, σ = [some (.ref a), some (.ref b), some (.ref D), none, some (.ref x1), some (.ref y1), t6, t7] ∧ Same H G ∧ G D = some (.dT (cntD (addBox (times (ns.take m)) (p.1.take n) p.2) (pairsOf fo.ps fo.be fo.as)))) ⟨t6, t7, rfl, sm, by rw [List.take_zero, addBox_nil]; exact hG⟩ (fun n σ G _ z => by
          obtain ⟨_, _, _, sm, _⟩ := z
          exact tnL (sm _ _ hx1)) ?_ ?_
        · rintro n x σ G hx ⟨t6, t7, rfl, sm, hG⟩
          obtain ⟨i, hi, rfl⟩ := vn_get hx
          refine ⟨_, rfl, y1, rfl, ⟨_, tnL (sm _ _ hy1)⟩, ?_⟩
          refine for_tup (xs := p.2.map vn) (fun l σ G => ∃ t7, σ = [some (.ref a), some (.ref b), some (.ref D), none, some (.ref x1), some (.ref y1), some (vn i), t7] ∧ Same H G ∧ G D = some (.dT (cntD (addRow (addBox (times (ns.take m)) (p.1.take n) p.2) i (p.2.take l)) (pairsOf fo.ps fo.be fo.as)))) ⟨t7, rfl, sm, by rw [List.take_zero, addRow_nil]; exact hG⟩ (fun l σ G _ z => by
            obtain ⟨_, _, sm, _⟩ := z
            exact tnL (sm _ _ hy1)) ?_ ?_
          · rintro l x σ G hx ⟨t7, rfl, sm, hG⟩
            obtain ⟨j, hj, rfl⟩ := vn_get hx
            have hin := pk0.sub i (List.mem_of_getElem? hi) j (List.mem_of_getElem? hj)
            refine ⟨_, rfl, _, rfl, _, rfl, by show 2 ≤ sizeLine; decide, fun q nq => ?_⟩
            have S4 := smUpd (o := .tup [vn i, vn j]) nq
            have hG4 := S4 _ _ hG
            have hq4 : upd G q (.tup [vn i, vn j]) q = some (.tup ((pk (i, j)).map kV)) := upd_same
            generalize upd G q (.tup [vn i, vn j]) = G4 at S4 hG4 hq4 ⊢
            have hget := DGet.t hG4 hq4
            rw [cntD, byPair_yes hin] at hget
            refine ⟨D, _, rfl, hget, _, _, rfl, rfl, _, DPut.t hG4 hq4 (small4000 (by unfold cntD; rw [byPair_len]; omega)), ?_⟩
            refine ⟨_, rfl, smOver nDH (sm.trans S4), ?_⟩
            rw [upd_same, cntD_up hin, addRow_snoc (nd_take (nd_asc pk0.a2) hj), ← take_at hj]
          · rintro σ G ⟨t7, rfl, sm, hG⟩
            rw [List.length_map, List.take_length, addBox_snoc (nd_take (nd_asc pk0.a1) hi), ← take_at hi] at hG
            exact ⟨_, _, rfl, sm, hG⟩
        · rintro σ G ⟨t6, t7, rfl, sm, hG⟩
          rw [List.length_map, List.take_length] at hG
          refine ⟨_, _, _, _, rfl, sm, ?_⟩
          rw [take_at hp]
          exact hG.trans (congrArg (fun g => some (HO.dT (cntD g _))) (funext fun q => times_snoc.symm))
      · rintro σ G ⟨t4, t5, t6, t7, rfl, sm, hG⟩
        rw [show us.length = ns.length from Paired.length hn, List.take_length] at hG
        exact ⟨_, rfl, k D G sm hG nDH⟩
end
end Cn
namespace Cn
open PySem PySem.Spec PyProof.Rows L2 Ck
open PySem.W (keyToks keyToksAll dataLt alike alikeAll AlikeAll minD min_list_default reads_keeps)
/-! min(pairs, default=d), the pairs ascending -/
def dP (p : Nat × Nat) : PyData := .tuple [.int p.1, .int p.2]
theorem dP_toks (p : Nat × Nat) : keyToks (dP p) = [.inl 1, .inl (p.1 : Int), .inl 1, .inl (p.2 : Int), .inl 0] := by
  unfold dP
  simp only [keyToks, keyToksAll, List.cons_append, List.nil_append]
theorem dP_lt {p q : Nat × Nat} (h : Cn.lexLt p q) : dataLt (dP q) (dP p) = false := by
  unfold dataLt
  rw [dP_toks, dP_toks, lex_self]
  rcases h with h | ⟨e, h⟩
  · rw [lex_diff (O := itemOrd) (fun z => by have := Sum.inl.inj z; omega)]
    show decide ((q.1 : Int) < (p.1 : Int)) = false
    exact decide_eq_false (by omega)
  · rw [e, lex_self, lex_self, lex_diff (O := itemOrd) (fun z => by have := Sum.inl.inj z; omega)]
    show decide ((q.2 : Int) < (p.2 : Int)) = false
    exact decide_eq_false (by omega)
theorem dP_min {p : Nat × Nat} : ∀ {rest : List (Nat × Nat)}, (∀ q ∈ rest, Cn.lexLt p q) → minD (dP p) (rest.map dP) = dP p
  | [], _ => rfl
  | q :: rest, h => by
    show minD (if dataLt (dP q) (dP p) = true then dP q else dP p) (rest.map dP) = dP p
    rw [dP_lt (h q List.mem_cons_self), if_neg Bool.false_ne_true]
    exact dP_min fun r hr => h r (List.mem_cons_of_mem _ hr)
theorem dP_alike (ps : List (Nat × Nat)) : AlikeAll (ps.map dP) := by
  constructor
  · intro x hx y hy
    obtain ⟨p, _, rfl⟩ := List.mem_map.mp hx
    obtain ⟨q, _, rfl⟩ := List.mem_map.mp hy
    simp only [dP, alike, alikeAll, Bool.and_self]
  · intro x hx
    obtain ⟨p, _, rfl⟩ := List.mem_map.mp hx
    exact fun z => nomatch z
theorem dP_depth : ∀ ps : List (Nat × Nat), PyData.depthAll (ps.map dP) ≤ 2
  | [] => by simp [PyData.depthAll]
  | p :: ps => by
    have h1 := dP_depth ps
    have h2 : (dP p).depth = 1 := by simp [dP, PyData.depth, PyData.depthAll]
    simp only [List.map_cons, PyData.depthAll]
    omega
theorem intInj {h : Heap} {v : Value} {a b : Int} {as bs : List Addr} (r1 : Reads h v (.int a) as) (r2 : Reads h v (.int b) bs) : a = b := by
  cases r1
  cases r2
  rfl
theorem valsBack : ∀ {xs : List V} {us : List Value} {i : Nat} {u : Value}, Vals xs us → us[i]? = some u → ∃ x, xs[i]? = some x ∧ RelV x u
  | _, _, i, u, .nil, h => by rw [List.getElem?_nil] at h; cases h
  | _, _, 0, u, .cons a t, h => by cases h; exact ⟨_, rfl, a⟩
  | _, _, i + 1, u, .cons a t, h => by
    rw [List.getElem?_cons_succ] at h
    obtain ⟨x, h1, h2⟩ := valsBack t h
    exact ⟨x, by rw [List.getElem?_cons_succ]; exact h1, h2⟩
theorem dP_inj {h : Heap} {v : Value} {p q : Nat × Nat} {as bs : List Addr} (r1 : Reads h v (dP p) as) (r2 : Reads h v (dP q) bs) : p = q := by
  unfold dP at r1 r2
  cases r1 with
  | tuple a1 b1 c1 d1 =>
    cases r2 with
    | tuple a2 b2 c2 d2 =>
      rw [a1] at a2
      cases a2
      rw [c1] at c2
      cases c2
      generalize (_ : Array Value).toList = l at d1 d2
      cases d1 with
      | cons x1 y1 =>
        cases d2 with
        | cons x2 y2 =>
          cases y1 with
          | cons x3 y3 =>
            cases y2 with
            | cons x4 y4 =>
              have e1 := intInj x1 x2
              have e2 := intInj x3 x4
              exact Prod.ext (by omega) (by omega)
theorem dpPairs {K : PySem.W.Frag} {H : Hp} : ∀ {us : List V} {ps : List (Nat × Nat)}, PairsR H us ps → DpAll K H us (ps.map dP)
  | _, _, .nil => .nil
  | _, _, .cons a t => by
    obtain ⟨x, rfl, hx⟩ := a
    exact .cons (.tup (.inl (.inl hx)) (.cons (.int _) (.cons (.int _) .nil))) (dpPairs t)
def rMinPairs : List V → List V → Hp → VK → Prop := fun vs zs H Q => ∃ (a : Addr) (us : List V) (ps : List (Nat × Nat)) (d : V), vs = [.ref a] ∧ zs = [d] ∧ H a = some (.lst us) ∧ PairsR H us ps ∧ ps.Pairwise Cn.lexLt ∧ (ps = [] → Q d H) ∧ ∀ u p rest, ps = p :: rest → PairR H u p → Q u H
theorem cr_minPairs {X : Cx} (hc : X.calm = true) (hu : X.A.units + 64 < cLine) : CallRK X (.builtin "min") [Str.ofString "default"] rMinPairs := by
  intro pins s σ H xs zs us ws Q I r rz h
  obtain ⟨a, vs, ps, d, rfl, rfl, ha, hP, asc, q0, q1⟩ := h
  obtain ⟨its, rv, hl, _⟩ := I.list (SqL.of ha)
  rw [Vals.ref1 r]
  obtain ⟨dv, rfl, rd⟩ : ∃ dv, ws = [dv] ∧ RelV d dv := by
    cases rz with
    | cons r1 r2 => cases r2; exact ⟨_, rfl, r1⟩
  obtain ⟨as, ra⟩ := Dp.readsAll I (ps.map dP) vs its (dpPairs hP) rv
  have dep := dP_depth ps
  refine min_list_default (I.ok.hd hc) hl.isList ra (dP_alike ps) (by omega) (fun e h' tk hk => ?_) (fun y ys i v h' tk bs e hv hr hk => ?_)
  · exact ⟨d, H, I.kept hk, rd, q0 (List.map_eq_nil_iff.mp e)⟩
  · cases ps with
    | nil => cases e
    | cons p rest =>
      cases e
      obtain ⟨x, hx, rx⟩ := valsBack rv (by simpa using hv)
      obtain ⟨p', hp', hPR⟩ := pairedGetQ hP hx
      obtain ⟨cs, r3⟩ := Dp.reads I (dP p') x v (let ⟨t, e, ht⟩ := hPR; e ▸ .tup (.inl (.inl ht)) (.cons (.int _) (.cons (.int _) .nil))) rx
      rw [dP_min fun q hq => (List.pairwise_cons.mp asc).1 q hq] at hr
      have e : p' = p := dP_inj (reads_keeps hk r3) hr
      exact ⟨x, H, I.kept hk, rx, q1 x p rest rfl (e ▸ hPR)⟩
end Cn
namespace Cn
open PySem PySem.Spec PyProof.Rows L2 Ck
/-- told: a pair or None -/
def OptPair (H : Hp) (v : V) : Option (Nat × Nat) → Prop
  | none => v = .non
  | some p => PairR H v p
theorem optSame {H H' : Hp} (s : Same H H') {v : V} : ∀ {q : Option (Nat × Nat)}, OptPair H v q → OptPair H' v q
  | none, h => h
  | some _, h => pairSame s h
theorem pairsUpd2 {H' : Hp} {D : Addr} {o u : HO} {us : List V} {ps : List (Nat × Nat)} (hD : H' D = some u) (hu : ∀ ys, u ≠ .tup ys) (h : PairsR H' us ps) : PairsR (upd H' D o) us ps := Paired.mapP h fun v p z => by
  obtain ⟨t, e, h1⟩ := z
  have q : t ≠ D := fun z => by rw [z, hD] at h1; exact hu _ (Option.some.inj h1)
  exact ⟨t, e, by rw [upd_ne q]; exact h1⟩
theorem cntD_at {g : Nat × Nat → Nat} {prs : List (Nat × Nat)} {i : Nat} {k : List Key} {v : V} (h : (cntD g prs)[i]? = some (k, v)) : ∃ p, prs[i]? = some p ∧ k = pk p ∧ v = vn (g p) := by
  unfold cntD byPair at h
  rw [List.getElem?_map] at h
  cases e : prs[i]? with
  | none => rw [e] at h; cases h
  | some p => rw [e] at h; cases h; exact ⟨p, rfl, rfl, rfl⟩
theorem filterTake {α : Type} {c : α → Bool} {xs : List α} {m : Nat} {x : α} (h : xs[m]? = some x) : (xs.take (m + 1)).filter c = (xs.take m).filter c ++ if c x = true then [x] else [] := by
  rw [take_at h, List.filter_append]
  by_cases d : c x = true
  · rw [if_pos d, List.filter_cons_of_pos d]; rfl
  · rw [if_neg d, List.filter_cons_of_neg d]; rfl
section
variable {P : Program} {w : World} {K : PySem.W.Frag} {mg : Str → Option Value} {base : Heap} {C : Addr}
def firstOf (ns : List (List Nat × List Nat)) (prs : List (Nat × Nat)) (c : Nat → Bool) : Option (Nat × Nat) := (prs.filter fun p => c (times ns p)).head?
def spFirst (C : Addr) (c : Nat → Bool) : Sp := fun vs H Q _ => ∃ (a b : Addr) (f : Fo) (us : List V) (ns : List (List Nat × List Nat)), vs = [.ref a, .ref b] ∧ FoAt C H a f ∧ FoOk f ∧ SeqH H b us ∧ NotesR H us ns ∧ NotesOk (pairsOf f.ps f.be f.as) ns ∧
  ∀ v H', Same H H' → OptPair H' v (firstOf ns (pairsOf f.ps f.be f.as) c) → Q v H'
def nFirst : List Str := ["forest", "notes", "counts", "pair"]
def isZero (n : Nat) : Bool := decide (n = 0)
def isMany (n : Nat) : Bool := decide (1 < n)
theorem scLacking0 : FnScope nFirst ["forest", "notes"] (defScope sLacking0) := ⟨rfl, rfl, rfl, by decide +kernel, rfl, by decide +kernel, by decide +kernel⟩
theorem dLacking0 (B : Defs K mg C) : Def P w K mg base "_lacking" 7 ["forest", "notes"] (spFirst C isZero) := by
  obtain ⟨fC, fdC, GC, gC, kC, bC⟩ := dCounted (P := P) (w := w) (base := base) B
  have N := B.N
  refine def_of B.lk0 fun f fd F => ?_
  refine F.ok scLacking0 (fun vs H Q E h => ?_) (fun cdv A outer s H vs Q E hr h => ?_)
  · obtain ⟨a, b, f, us, ns, rfl, _⟩ := h
    rfl
  · obtain ⟨a, b, fo, us, ns, rfl, hF, ok, hb, hn, hk, k⟩ := h
    have hu : (A.deeper (envOfC "_lacking" (defScope sLacking0) s.heap.objs.size f cdv)).units + 1 < cLine := by have := hr.units; omega
    refine ⟨_, pss_cons (ps_set (i := 2) scLacking0.nd rfl (Or.inr rfl) (pe_call GC hr (by rfl) gC kC bC .nil pass0 (pa_cons (pv 0) (pa_cons (pv 1) pa_nil))))
      (pss_one (ps_ret (pe_callBK (cr_minPairs rfl hr.units) (by rfl) N.min (by decide +kernel) (pa_cons (pe_lock (pe_lc (own := [("pair", 3)]) (g := gName 3) rfl scLacking0.nd (pi_keys (pv 2))
        (blkOk_by (N := nFirst) (sc := defScope sLacking0) (by decide +kernel)) (fun _ _ _ _ _ => pg_name (i := 3) scLacking0.nd rfl (Or.inl rfl)) (fun _ _ _ _ _ => pts_one (pt_cmpR op_eq (pe_dget hu (pv 2) (pv 3) (fun _ _ => rfl)) pe_int (nomark _))) (fun _ _ _ _ _ => pv 3))) pa_nil) (pk_cons pe_non pk_nil)))), ?_⟩
    refine ⟨_, rfl, _, rfl, a, b, fo, us, ns, rfl, hF, ok, hb, hn, hk, fun D H1 s1 hD nD => ?_⟩
    have lp := pairs3600 ok
    refine ⟨D, _, hD, trivial, fun od => ?_⟩
    have hL : upd H1 D (.frz od (.dT (cntD (times ns) (pairsOf fo.ps fo.be fo.as)))) D = some (.frz od (.dT (cntD (times ns) (pairsOf fo.ps fo.be fo.as)))) := upd_same
    have SL : Same H (upd H1 D (.frz od (.dT (cntD (times ns) (pairsOf fo.ps fo.be fo.as))))) := smOver nD s1
    generalize upd H1 D (.frz od (.dT (cntD (times ns) (pairsOf fo.ps fo.be fo.as)))) = HL at hL SL ⊢
    refine ⟨_, rfl, D, od, rfl, .inr ⟨_, hL, fun D2 nD2 => ?_⟩⟩
    refine lc_it walk_keysT (fun m H' => Same HL H' ∧ ∃ ws, H' D2 = some (.lst ws) ∧ ws.length ≤ m ∧ PairsR H' ws (((pairsOf fo.ps fo.be fo.as).take m).filter fun p => isZero (times ns p))) ⟨smUpd nD2, [], upd_same, Nat.zero_le _, .nil⟩ (fun m H' _ z => z.1 _ _ hL) ?_ ?_
    · rintro m x H0 H' hm ⟨sm, ws, hW, hwl, hWP⟩ ⟨rfl, kk, v, q, hkv, rfl, hq⟩
      obtain ⟨p, hp, rfl, rfl⟩ := cntD_at hkv
      have hml : m < (pairsOf fo.ps fo.be fo.as).length := (List.getElem?_eq_some_iff.mp hp).1
      have hget : DGet H' D (.ref q) (some (vn (times ns p))) := .inr ⟨_, pk p, q, .inr ⟨od, sm _ _ hL⟩, rfl, hq, (byPair_yes (v := fun p => vn (times ns p)) (List.mem_of_getElem? hp)).symm⟩
      refine ⟨rfl, ?_⟩
      have et : ((pairsOf fo.ps fo.be fo.as).take (m + 1)).filter (fun p => isZero (times ns p)) = ((pairsOf fo.ps fo.be fo.as).take m).filter (fun p => isZero (times ns p)) ++ if isZero (times ns p) = true then [p] else [] := filterTake (c := fun p => isZero (times ns p)) hp
      refine ⟨_, rfl, _, rfl, D, _, rfl, hget, rfl, _, rfl, ?_⟩
      by_cases c : isZero (times ns p) = true
      · refine ifT (decide_eq_true (by have := of_decide_eq_true c; rw [this]; rfl)) ?_
        refine ⟨_, rfl, ws, hW, small4000 (by omega), smOver nD2 sm, _, upd_same, by rw [List.length_append]; show ws.length + 1 ≤ m + 1; omega, ?_⟩
        rw [et, if_pos c]
        exact pairsUpd hW (pairedSnoc hWP ⟨q, rfl, hq⟩)
      · refine ifF (fun z => c (decide_eq_true (by have := V.int.inj (of_decide_eq_true z); omega))) ?_
        refine ⟨sm, ws, hW, by omega, ?_⟩
        rw [et, if_neg c, List.append_nil]
        exact hWP
    · rintro H3 ⟨sm3, ws, hW, _, hWP⟩
      rw [show (cntD (times ns) (pairsOf fo.ps fo.be fo.as)).length = (pairsOf fo.ps fo.be fo.as).length from byPair_len, List.take_length] at hWP
      have hD3 := sm3 _ _ hL
      have S4 : Same H (upd H3 D (.dT (cntD (times ns) (pairsOf fo.ps fo.be fo.as)))) := smOver nD (SL.trans sm3)
      have ne : D2 ≠ D := fun z => by rw [z, hL] at nD2; cases nD2
      have hP4 := pairsUpd2 (o := .dT (cntD (times ns) (pairsOf fo.ps fo.be fo.as))) hD3 (fun _ z => nomatch z) hWP
      refine ⟨hD3, D2, ws, _, _, rfl, rfl, by rw [upd_ne ne]; exact hW, hP4, (pairsOf_asc ok.as ok.be).filter _, fun e => ?_, fun u p rest e hu => ?_⟩
      · exact k _ _ S4 (by unfold firstOf; rw [e]; rfl)
      · exact k _ _ S4 (by unfold firstOf; rw [e]; exact hu)
theorem scTwice0 : FnScope nFirst ["forest", "notes"] (defScope sTwice0) := ⟨rfl, rfl, rfl, by decide +kernel, rfl, by decide +kernel, by decide +kernel⟩
theorem dTwice0 (B : Defs K mg C) : Def P w K mg base "_twice" 7 ["forest", "notes"] (spFirst C isMany) := by
  obtain ⟨fC, fdC, GC, gC, kC, bC⟩ := dCounted (P := P) (w := w) (base := base) B
  have N := B.N
  refine def_of B.tw0 fun f fd F => ?_
  refine F.ok scTwice0 (fun vs H Q E h => ?_) (fun cdv A outer s H vs Q E hr h => ?_)
  · obtain ⟨a, b, f, us, ns, rfl, _⟩ := h
    rfl
  · obtain ⟨a, b, fo, us, ns, rfl, hF, ok, hb, hn, hk, k⟩ := h
    have hu : (A.deeper (envOfC "_twice" (defScope sTwice0) s.heap.objs.size f cdv)).units + 1 < cLine := by have := hr.units; omega
    refine ⟨_, pss_cons (ps_set (i := 2) scTwice0.nd rfl (Or.inr rfl) (pe_call GC hr (by rfl) gC kC bC .nil pass0 (pa_cons (pv 0) (pa_cons (pv 1) pa_nil))))
      (pss_one (ps_ret (pe_callBK (cr_minPairs rfl hr.units) (by rfl) N.min (by decide +kernel) (pa_cons (pe_lock (pe_lc (own := [("pair", 3)]) (g := gName 3) rfl scTwice0.nd (pi_keys (pv 2))
        (blkOk_by (N := nFirst) (sc := defScope sTwice0) (by decide +kernel)) (fun _ _ _ _ _ => pg_name (i := 3) scTwice0.nd rfl (Or.inl rfl)) (fun _ _ _ _ _ => pts_one (pt_cmpR op_gt (pe_dget hu (pv 2) (pv 3) (fun _ _ => rfl)) pe_int (nomark _))) (fun _ _ _ _ _ => pv 3))) pa_nil) (pk_cons pe_non pk_nil)))), ?_⟩
    refine ⟨_, rfl, _, rfl, a, b, fo, us, ns, rfl, hF, ok, hb, hn, hk, fun D H1 s1 hD nD => ?_⟩
    have lp := pairs3600 ok
    refine ⟨D, _, hD, trivial, fun od => ?_⟩
    have hL : upd H1 D (.frz od (.dT (cntD (times ns) (pairsOf fo.ps fo.be fo.as)))) D = some (.frz od (.dT (cntD (times ns) (pairsOf fo.ps fo.be fo.as)))) := upd_same
    have SL : Same H (upd H1 D (.frz od (.dT (cntD (times ns) (pairsOf fo.ps fo.be fo.as))))) := smOver nD s1
    generalize upd H1 D (.frz od (.dT (cntD (times ns) (pairsOf fo.ps fo.be fo.as)))) = HL at hL SL ⊢
    refine ⟨_, rfl, D, od, rfl, .inr ⟨_, hL, fun D2 nD2 => ?_⟩⟩
    refine lc_it walk_keysT (fun m H' => Same HL H' ∧ ∃ ws, H' D2 = some (.lst ws) ∧ ws.length ≤ m ∧ PairsR H' ws (((pairsOf fo.ps fo.be fo.as).take m).filter fun p => isMany (times ns p))) ⟨smUpd nD2, [], upd_same, Nat.zero_le _, .nil⟩ (fun m H' _ z => z.1 _ _ hL) ?_ ?_
    · rintro m x H0 H' hm ⟨sm, ws, hW, hwl, hWP⟩ ⟨rfl, kk, v, q, hkv, rfl, hq⟩
      obtain ⟨p, hp, rfl, rfl⟩ := cntD_at hkv
      have hml : m < (pairsOf fo.ps fo.be fo.as).length := (List.getElem?_eq_some_iff.mp hp).1
      have hget : DGet H' D (.ref q) (some (vn (times ns p))) := .inr ⟨_, pk p, q, .inr ⟨od, sm _ _ hL⟩, rfl, hq, (byPair_yes (v := fun p => vn (times ns p)) (List.mem_of_getElem? hp)).symm⟩
      refine ⟨rfl, ?_⟩
      have et : ((pairsOf fo.ps fo.be fo.as).take (m + 1)).filter (fun p => isMany (times ns p)) = ((pairsOf fo.ps fo.be fo.as).take m).filter (fun p => isMany (times ns p)) ++ if isMany (times ns p) = true then [p] else [] := filterTake (c := fun p => isMany (times ns p)) hp
      refine ⟨_, rfl, _, rfl, D, _, rfl, hget, _, _, rfl, rfl, _, rfl, ?_⟩
      by_cases c : isMany (times ns p) = true
      · refine ifT (decide_eq_true (by have := of_decide_eq_true c; omega)) ?_
        refine ⟨_, rfl, ws, hW, small4000 (by omega), smOver nD2 sm, _, upd_same, by rw [List.length_append]; show ws.length + 1 ≤ m + 1; omega, ?_⟩
        rw [et, if_pos c]
        exact pairsUpd hW (pairedSnoc hWP ⟨q, rfl, hq⟩)
      · refine ifF (fun z => c (decide_eq_true (by have := of_decide_eq_true z; omega))) ?_
        refine ⟨sm, ws, hW, by omega, ?_⟩
        rw [et, if_neg c, List.append_nil]
        exact hWP
    · rintro H3 ⟨sm3, ws, hW, _, hWP⟩
      rw [show (cntD (times ns) (pairsOf fo.ps fo.be fo.as)).length = (pairsOf fo.ps fo.be fo.as).length from byPair_len, List.take_length] at hWP
      have hD3 := sm3 _ _ hL
      have S4 : Same H (upd H3 D (.dT (cntD (times ns) (pairsOf fo.ps fo.be fo.as)))) := smOver nD (SL.trans sm3)
      have ne : D2 ≠ D := fun z => by rw [z, hL] at nD2; cases nD2
      have hP4 := pairsUpd2 (o := .dT (cntD (times ns) (pairsOf fo.ps fo.be fo.as))) hD3 (fun _ z => nomatch z) hWP
      refine ⟨hD3, D2, ws, _, _, rfl, rfl, by rw [upd_ne ne]; exact hW, hP4, (pairsOf_asc ok.as ok.be).filter _, fun e => ?_, fun u p rest e hu => ?_⟩
      · exact k _ _ S4 (by unfold firstOf; rw [e]; rfl)
      · exact k _ _ S4 (by unfold firstOf; rw [e]; exact hu)
end
end Cn
namespace Cn
open PySem PySem.Spec PyProof.Rows L2 Ck
theorem optNone {H : Hp} {v : V} : ∀ {q : Option (Nat × Nat)}, OptPair H v q → decide (v = V.non) = q.isNone
  | none, h => decide_eq_true h
  | some p, ⟨t, e, _⟩ => by rw [e]; exact decide_eq_false fun z => nomatch z
section
variable {P : Program} {w : World} {K : PySem.W.Frag} {mg : Str → Option Value} {base : Heap} {C : Addr}
/-- what is asked of right notes and told as a flag -/
def spFlag (C : Addr) (c : List (List Nat × List Nat) → List (Nat × Nat) → Bool) : Sp := fun vs H Q _ => ∃ (a b : Addr) (f : Fo) (us : List V) (ns : List (List Nat × List Nat)), vs = [.ref a, .ref b] ∧ FoAt C H a f ∧ FoOk f ∧ SeqH H b us ∧ NotesR H us ns ∧ NotesOk (pairsOf f.ps f.be f.as) ns ∧
  ∀ H', Same H H' → Q (.bl (c ns (pairsOf f.ps f.be f.as))) H'
def keeps (ns : List (List Nat × List Nat)) (prs : List (Nat × Nat)) : Bool := (firstOf ns prs isZero).isNone
def single (ns : List (List Nat × List Nat)) (prs : List (Nat × Nat)) : Bool := keeps ns prs && (firstOf ns prs isMany).isNone
theorem scIsKeeper : FnScope ["forest", "thing"] ["forest", "thing"] (defScope sIsKeeper) := ⟨rfl, rfl, rfl, by decide +kernel, rfl, by decide +kernel, by decide +kernel⟩
theorem dIsKeeper (B : Defs K mg C) : Def P w K mg base "is_keeper" 8 ["forest", "thing"] (spFlag C keeps) := by
  obtain ⟨fN, fdN, GN, gN, kN, bN⟩ := dIsNotes (P := P) (w := w) (base := base) B
  obtain ⟨fL, fdL, GL, gL, kL, bL⟩ := dLacking0 (P := P) (w := w) (base := base) B
  refine def_of B.kp fun f fd F => ?_
  refine F.ok scIsKeeper (fun vs H Q E h => ?_) (fun cdv A outer s H vs Q E hr h => ?_)
  · obtain ⟨a, b, f, us, ns, rfl, _⟩ := h
    rfl
  · obtain ⟨a, b, fo, us, ns, rfl, hF, ok, hb, hn, hk, k⟩ := h
    have hr6 : Room 6 (A.deeper (envOfC "is_keeper" (defScope sIsKeeper) s.heap.objs.size f cdv)) := Room.mono hr (by decide)
    refine ⟨_, pss_one (ps_ret (pe_and (pe_call GN hr6 (by rfl) gN kN bN .nil pass0 (pa_cons (pv 0) (pa_cons (pv 1) pa_nil))) (pe_one (pe_cmpR op_isN (pe_call GL hr (by rfl) gL kL bL .nil pass0 (pa_cons (pv 0) (pa_cons (pv 1) pa_nil))) pe_non (nomark _))))), ?_⟩
    refine ⟨_, rfl, _, rfl, a, b, fo, us, ns, rfl, hF, ok, hb, hn, hk, fun H1 s1 => ⟨true, rfl, ?_⟩⟩
    refine ifT rfl ?_
    refine ⟨_, rfl, _, rfl, a, b, fo, us, ns, rfl, foAt_same s1 hF, ok, seqSame s1 hb, notesSame s1 hn, hk, fun v H2 s2 hv => ⟨rfl, ?_⟩⟩
    show Q (.bl (decide (v = V.non))) H2
    rw [optNone hv]
    exact k _ (s1.trans s2)
theorem scIsSingle : FnScope ["forest", "thing"] ["forest", "thing"] (defScope sIsSingle) := ⟨rfl, rfl, rfl, by decide +kernel, rfl, by decide +kernel, by decide +kernel⟩
theorem dIsSingle (B : Defs K mg C) : Def P w K mg base "is_single" 9 ["forest", "thing"] (spFlag C single) := by
  obtain ⟨fN, fdN, GN, gN, kN, bN⟩ := dIsKeeper (P := P) (w := w) (base := base) B
  obtain ⟨fL, fdL, GL, gL, kL, bL⟩ := dTwice0 (P := P) (w := w) (base := base) B
  refine def_of B.sg fun f fd F => ?_
  refine F.ok scIsSingle (fun vs H Q E h => ?_) (fun cdv A outer s H vs Q E hr h => ?_)
  · obtain ⟨a, b, f, us, ns, rfl, _⟩ := h
    rfl
  · obtain ⟨a, b, fo, us, ns, rfl, hF, ok, hb, hn, hk, k⟩ := h
    have hr7 : Room 7 (A.deeper (envOfC "is_single" (defScope sIsSingle) s.heap.objs.size f cdv)) := Room.mono hr (by decide)
    refine ⟨_, pss_one (ps_ret (pe_and (pe_call GN hr (by rfl) gN kN bN .nil pass0 (pa_cons (pv 0) (pa_cons (pv 1) pa_nil))) (pe_one (pe_cmpR op_isN (pe_call GL hr7 (by rfl) gL kL bL .nil pass0 (pa_cons (pv 0) (pa_cons (pv 1) pa_nil))) pe_non (nomark _))))), ?_⟩
    refine ⟨_, rfl, _, rfl, a, b, fo, us, ns, rfl, hF, ok, hb, hn, hk, fun H1 s1 => ⟨keeps ns (pairsOf fo.ps fo.be fo.as), rfl, ?_⟩⟩
    cases e : keeps ns (pairsOf fo.ps fo.be fo.as) with
    | false =>
      refine ifF (by decide) ?_
      have := k H1 s1
      unfold single at this
      rw [e] at this
      exact this
    | true =>
      refine ifT rfl ?_
      refine ⟨_, rfl, _, rfl, a, b, fo, us, ns, rfl, foAt_same s1 hF, ok, seqSame s1 hb, notesSame s1 hn, hk, fun v H2 s2 hv => ⟨rfl, ?_⟩⟩
      show Q (.bl (decide (v = V.non))) H2
      rw [optNone hv]
      have := k H2 (s1.trans s2)
      unfold single at this
      rw [e] at this
      exact this
end
end Cn
namespace Cn
open PySem PySem.Spec PyProof.Rows L2 Ck
theorem ixNat {n i : Nat} (h : i < n) : ixN n (i : Int) = some i := by
  unfold ixN
  rw [if_pos (Int.natCast_nonneg _), if_pos (by omega), Int.toNat_natCast]
theorem noneBack {H H1 : Hp} {D : Addr} (s : Same H H1) (h : H1 D = none) : H D = none := by
  cases e : H D with
  | none => rfl
  | some o => rw [s _ _ e] at h; cases h
end Cn
namespace Cn
open PySem PySem.Spec PyProof.Rows L2 Ck
theorem eqPair {H : Hp} {v u : V} {p : Nat × Nat} (hv : PairR H v p) (hu : PairR H u p) : EqG H 1 v u := by
  obtain ⟨t, rfl, e1⟩ := hv
  obtain ⟨t', rfl, f1⟩ := hu
  exact .inr ⟨t, t', _, _, rfl, rfl, .inr ⟨e1, f1⟩, by show 2 ≤ 4000; decide, .cons ⟨rfl, .inl rfl⟩ (.cons ⟨rfl, .inl rfl⟩ .nil)⟩
theorem eqPairs {H : Hp} : ∀ {us ws : List V} {ps : List (Nat × Nat)}, PairsR H us ps → PairsR H ws ps → Paired (EqG H 1) us ws
  | _, _, _, .nil, .nil => .nil
  | _, _, _, .cons h1 t1, .cons h2 t2 => .cons (eqPair h1 h2) (eqPairs t1 t2)
theorem ascEq : ∀ {xs ys : List Nat}, xs.Pairwise (· < ·) → ys.Pairwise (· < ·) → (∀ x, x ∈ xs ↔ x ∈ ys) → xs = ys
  | [], [], _, _, _ => rfl
  | [], y :: ys, _, _, h => absurd ((h y).mpr List.mem_cons_self) (fun z => nomatch z)
  | x :: xs, [], _, _, h => absurd ((h x).mp List.mem_cons_self) (fun z => nomatch z)
  | x :: xs, y :: ys, p, q, h => by
    obtain ⟨p1, p2⟩ := List.pairwise_cons.mp p
    obtain ⟨q1, q2⟩ := List.pairwise_cons.mp q
    have e : x = y := by
      have hx := (h x).mp List.mem_cons_self
      have hy := (h y).mpr List.mem_cons_self
      rcases List.mem_cons.mp hx with z | z
      · exact z
      · rcases List.mem_cons.mp hy with u | u
        · exact u.symm
        · have := q1 x z; have := p1 y u; omega
    subst e
    rw [ascEq p2 q2 fun z => ?_]
    constructor
    · intro hz
      rcases List.mem_cons.mp ((h z).mp (List.mem_cons_of_mem _ hz)) with u | u
      · have := p1 z hz; omega
      · exact u
    · intro hz
      rcases List.mem_cons.mp ((h z).mpr (List.mem_cons_of_mem _ hz)) with u | u
      · have := q1 z hz; omega
      · exact u
theorem pairedTake {α β : Type} {F : α → β → Prop} : ∀ {xs : List α} {ys : List β} (n : Nat), Paired F xs ys → Paired F (xs.take n) (ys.take n)
  | _, _, 0, _ => by rw [List.take_zero, List.take_zero]; exact .nil
  | _, _, n + 1, .nil => by rw [List.take_nil, List.take_nil]; exact .nil
  | _, _, n + 1, .cons a t => .cons a (pairedTake n t)
theorem pairedDrop {α β : Type} {F : α → β → Prop} : ∀ {xs : List α} {ys : List β} (n : Nat), Paired F xs ys → Paired F (xs.drop n) (ys.drop n)
  | _, _, 0, h => h
  | _, _, n + 1, .nil => by rw [List.drop_nil, List.drop_nil]; exact .nil
  | _, _, n + 1, .cons _ t => pairedDrop n t
theorem pairedMem {α β : Type} {F : α → β → Prop} : ∀ {xs : List α} {ys : List β} {x : α}, Paired F xs ys → x ∈ xs → ∃ y ∈ ys, F x y
  | _, _, _, .nil, h => by cases h
  | _, _, _, .cons a t, h => by
    rcases List.mem_cons.mp h with rfl | h
    · exact ⟨_, List.mem_cons_self, a⟩
    · obtain ⟨y, hy, e⟩ := pairedMem t h
      exact ⟨y, List.mem_cons_of_mem _ hy, e⟩
theorem notesKept {H H' : Hp} {p c : Addr} {cells : List Int} (hI : HandIn H p c cells) (k : Kept p H H') {us : List V} {ns : List (List Nat × List Nat)} (h : NotesR H us ns) : NotesR H' us ns := Paired.mapP h fun _ _ ⟨t, x, y, e, h1, h2, h3⟩ => ⟨t, x, y, e, k _ _ (tup_ne hI h1) h1, k _ _ (tup_ne hI h2) h2, k _ _ (tup_ne hI h3) h3⟩
theorem pairsKept {H H' : Hp} {p c : Addr} {cells : List Int} (hI : HandIn H p c cells) (k : Kept p H H') {us : List V} {ps : List (Nat × Nat)} (h : PairsR H us ps) : PairsR H' us ps := Paired.mapP h fun _ _ ⟨t, e, h1⟩ => ⟨t, e, k _ _ (tup_ne hI h1) h1⟩
def TNs (H : Hp) (us : List V) (xss : List (List Nat)) : Prop := Paired (fun v xs => ∃ t, v = V.ref t ∧ TN H t xs) us xss
theorem tnsSame {H H' : Hp} (s : Same H H') {us : List V} {xss : List (List Nat)} (h : TNs H us xss) : TNs H' us xss := Paired.mapP h fun _ _ ⟨t, e, z⟩ => ⟨t, e, s _ _ z⟩
theorem tnsUpd {H' : Hp} {D : Addr} {o : HO} {xs us : List V} {xss : List (List Nat)} (hD : H' D = some (.lst xs)) (h : TNs H' us xss) : TNs (upd H' D o) us xss := Paired.mapP h fun v p ⟨t, e, z⟩ =>
  ⟨t, e, (upd_ne fun y => by rw [y] at z; exact nomatch (hD.symm.trans z)).trans z⟩
end Cn
namespace Cn
open PySem PySem.Spec PyProof.Rows L2 Ck
theorem times_le {ns : List (List Nat × List Nat)} {p : Nat × Nat} : times ns p ≤ ns.length := List.countP_le_length
theorem firstNone {ns : List (List Nat × List Nat)} {prs : List (Nat × Nat)} {c : Nat → Bool} : (firstOf ns prs c).isNone = decide ((prs.filter fun p => c (times ns p)).length = 0) := by
  unfold firstOf
  cases prs.filter fun p => c (times ns p) <;> rfl
theorem firstAll {ns : List (List Nat × List Nat)} {prs : List (Nat × Nat)} {c : Nat → Bool} : (firstOf ns prs c).isNone = true ↔ ∀ p ∈ prs, c (times ns p) = false := by
  rw [firstNone, decide_eq_true_iff, List.length_eq_zero_iff, List.filter_eq_nil_iff]
  exact ⟨fun h p hp => by simpa using h p hp, fun h p hp => by rw [h p hp]; decide⟩
end Cn
namespace Cn
open PySem PySem.Spec PyProof.Rows L2 Ck
theorem seqIx {n : Nat} {d : Int} (h0 : 0 ≤ d) (h1 : d < (n : Int)) : seqIndex? d n = some d.toNat := by
  obtain ⟨k, rfl⟩ := Int.eq_ofNat_of_zero_le h0
  exact (ixN_seq (ixNat (by omega : k < n))).1
theorem erasePerm {α : Type} : ∀ (xs : List α) (n : Nat) (h : n < xs.length), (xs[n] :: xs.eraseIdx n).Perm xs
  | x :: xs, 0, _ => List.Perm.refl _
  | x :: xs, n + 1, h => (List.Perm.swap x (xs[n]'(Nat.lt_of_succ_lt_succ h)) (xs.eraseIdx n)).trans ((erasePerm xs n (Nat.lt_of_succ_lt_succ h)).cons x)
section
variable {P : Program} {w : World} {K : PySem.W.Frag} {mg : Str → Option Value} {base : Heap} {C : Addr}
def spMixed : Sp := fun vs H Q _ => ∃ (p c b : Addr) (cells : List Int) (us : List V), vs = [.ref p, .ref b] ∧ HandIn H p c cells ∧ SeqH H b us ∧ us.length ≤ 4000 ∧ ∀ r ws H', ws.Perm us → HandIn H' p c cells → Kept p H H' → H r = none → H' r = some (.lst ws) → Q (.ref r) H'
def nMixed : List Str := ["_law_hand_here", "_law_things", "_law_left", "_law_found", "_law_turn"]
theorem scMixed : FnScope nMixed ["_law_hand_here", "_law_things"] (defScope sMixed) := ⟨rfl, rfl, rfl, by decide +kernel, rfl, by decide +kernel, by decide +kernel⟩
theorem dMixed (B : Defs K mg C) : Def P w K mg base "_law_mixed" 2 ["_law_hand_here", "_law_things"] spMixed := by
  obtain ⟨fD, fdD, GD, gD, kD, bD⟩ := dDraw (P := P) (w := w) (base := base) B
  have N := B.N
  refine def_of B.mx fun f fd F => ?_
  refine F.ok scMixed (fun vs H Q E h => ?_) (fun cdv A outer s H vs Q E hr h => ?_)
  · obtain ⟨p, c, b, cells, us, rfl, _⟩ := h
    rfl
  · obtain ⟨p, c, b, cells, us, rfl, hI, hb, h4, k⟩ := h
    refine ⟨_, pss_cons (ps_set (i := 2) scMixed.nd rfl (Or.inl rfl) (pe_callTy call_list_of (by rfl) N.is.lst (by decide +kernel) (pa_cons (pv 1) pa_nil)))
      (pss_cons (ps_set (i := 3) scMixed.nd rfl (Or.inl rfl) (pe_lst pa_nil))
      (pss_cons (ps_for PassesOwn.never rfl (pi_range1 (by rfl) N.range (pa_cons (pe_callB call_len_seq (by rfl) N.is.len PySem.boot_len (pa_cons (pv 1) pa_nil)) pa_nil)) (pg_name (i := 4) scMixed.nd rfl (Or.inl rfl))
        (pss_one (ps_expr (pe_bm PySem.F.plainAttrs_list PySem.F.slot_list_append PySem.F.type_list_append mt_append (pv 3) (pa_cons
          (pe_bm PySem.F.plainAttrs_list PySem.F.slot_list_pop PySem.F.type_list_pop mt_popAt (pv 2) (pa_cons (pe_call GD hr (by rfl) gD kD bD .nil pass0 (pa_cons (pv 0) (pa_cons (pe_callB call_len_seq (by rfl) N.is.len PySem.boot_len (pa_cons (pv 2) pa_nil)) pa_nil))) pa_nil)) pa_nil)))))
      (pss_one (ps_ret (pv 3))))), ?_⟩
    refine ⟨_, rfl, b, us, rfl, seqSq hb, fun L nL => ?_⟩
    have S1 := smUpd (o := .lst us) nL
    have hL1 : upd H L (.lst us) L = some (.lst us) := upd_same
    generalize upd H L (.lst us) = H1 at S1 hL1 ⊢
    refine ⟨by show 0 ≤ sizeLine; decide, fun D nD => ?_⟩
    have S2 := S1.trans (smUpd (o := .lst []) nD)
    have hL2 := smUpd (o := .lst []) nD _ _ hL1
    have nD0 := noneBack S1 nD
    have neL : L ≠ D := fun z => by rw [z, nD] at hL1; cases hL1
    have hD2 : upd H1 D (.lst []) D = some (.lst []) := upd_same
    generalize upd H1 D (.lst []) = H2 at S2 hL2 hD2 ⊢
    have nLp := hand_ne hI nL
    have nDp := hand_ne hI nD0
    refine ⟨_, rfl, b, us, rfl, seqSq (seqSame S2 hb), (us.length : Int), rfl, by omega, by omega, ?_⟩
    rw [Int.toNat_natCast]
    refine for_range (lo := 0) (n := us.length) (fun i σ H' => ∃ t4 ls fs, σ = [some (.ref p), some (.ref b), some (.ref L), some (.ref D), t4] ∧ HandIn H' p c cells ∧ Kept p H H' ∧ H' L = some (.lst ls) ∧ H' D = some (.lst fs) ∧ fs.length = i ∧ (fs ++ ls).Perm us) ⟨none, us, [], rfl, handIn_keep hI S2, kept_same S2, hL2, hD2, rfl, List.Perm.refl _⟩ ?_ ?_
    · rintro i σ H3 hi ⟨t4, ls, fs, rfl, hI3, k3, hL, hD, hfl, hp⟩
      have hlen : fs.length + ls.length = us.length := by rw [← List.length_append]; exact hp.length_eq
      refine ⟨_, rfl, .inl ⟨rfl, _, .inl (.inl hD)⟩, _, rfl, .inl ⟨rfl, _, .inl (.inl hL)⟩, _, rfl, _, rfl, L, ls, rfl, .inl (.inl (.inl hL)), p, c, cells, (ls.length : Int), rfl, hI3, by omega, by omega, fun d a1 a2 a3 a4 d0 d1 a10 => ?_⟩
      have hI4 := handIn_upd (i := a1) (g := a2) (m := a3) (t := a4) hI3 a10
      have k4 := kept_trans k3 (kept_hand (p := p) (o := handL c a1 a2 a3 a4))
      have hL4 : upd H3 p (handL c a1 a2 a3 a4) L = some (.lst ls) := by rw [upd_ne nLp]; exact hL
      have hD4 : upd H3 p (handL c a1 a2 a3 a4) D = some (.lst fs) := by rw [upd_ne nDp]; exact hD
      generalize upd H3 p (handL c a1 a2 a3 a4) = H4 at hI4 k4 hL4 hD4 ⊢
      have hdl : d.toNat < ls.length := by omega
      refine ⟨L, ls, d, d.toNat, _, rfl, rfl, hL4, by omega, by omega, seqIx d0 d1, List.getElem?_eq_getElem hdl, ?_⟩
      have hD5 : upd H4 L (.lst (ls.eraseIdx d.toNat)) D = some (.lst fs) := by rw [upd_ne neL.symm]; exact hD4
      refine ⟨D, fs, _, rfl, rfl, hD5, small4000 (by omega), ?_⟩
      refine ⟨_, ls.eraseIdx d.toNat, fs ++ [ls[d.toNat]], rfl, handIn_write hI nD0 (handIn_write hI nL hI4), kept_over nD0 (kept_over nL k4), ?_, upd_same, by rw [List.length_append, hfl]; rfl, ?_⟩
      · rw [upd_ne neL, upd_same]
      · refine List.Perm.trans ?_ hp
        rw [List.append_assoc]
        exact List.Perm.append_left _ (erasePerm ls _ hdl)
    · rintro σ H3 ⟨t4, ls, fs, rfl, hI3, k3, hL, hD, hfl, hp⟩
      have hlen : fs.length + ls.length = us.length := by rw [← List.length_append]; exact hp.length_eq
      have e : ls = [] := List.eq_nil_of_length_eq_zero (by omega)
      rw [e, List.append_nil] at hp
      exact ⟨_, rfl, k D fs _ hp hI3 k3 nD0 hD⟩
end
end Cn
namespace Cn
/-! notes held, counted twice -/
theorem countP_or {α : Type} {f g : α → Bool} : ∀ {l : List α}, (∀ x ∈ l, ¬ (f x = true ∧ g x = true)) → (l.countP fun x => f x || g x) = l.countP f + l.countP g
  | [], _ => rfl
  | x :: l, h => by
    have ih := countP_or (f := f) (g := g) (l := l) fun y hy => h y (List.mem_cons_of_mem _ hy)
    have hx := h x List.mem_cons_self
    rw [List.countP_cons, List.countP_cons, List.countP_cons, ih]
    cases a : f x <;> cases b : g x <;> simp_all <;> omega
theorem countP_one {p : Nat × Nat} : ∀ {l : List (Nat × Nat)}, l.Nodup → p ∈ l → (l.countP fun q => decide (q = p)) = 1
  | x :: l, nd, h => by
    obtain ⟨n1, n2⟩ := List.nodup_cons.mp nd
    rw [List.countP_cons]
    by_cases e : x = p
    · subst e
      rw [List.countP_eq_zero.mpr fun q hq => by simp only [decide_eq_true_eq]; exact fun z => n1 (z ▸ hq)]
      simp
    · rw [countP_one n2 ((List.mem_cons.mp h).resolve_left fun z => e z.symm)]
      simp [e]
theorem countRow {i : Nat} {prs : List (Nat × Nat)} (nd : prs.Nodup) : ∀ {js : List Nat}, js.Nodup → (∀ j ∈ js, (i, j) ∈ prs) → (prs.countP fun q => decide (q.1 = i) && decide (q.2 ∈ js)) = js.length
  | [], _, _ => List.countP_eq_zero.mpr fun q _ => by simp
  | j :: js, h, m => by
    obtain ⟨n1, n2⟩ := List.nodup_cons.mp h
    have ih := countRow (js := js) nd n2 fun k hk => m k (List.mem_cons_of_mem _ hk)
    have e : (prs.countP fun q => decide (q.1 = i) && decide (q.2 ∈ j :: js)) = prs.countP fun q => decide (q = (i, j)) || (decide (q.1 = i) && decide (q.2 ∈ js)) := by
      refine List.countP_congr fun q _ => ?_
      simp only [Bool.and_eq_true, Bool.or_eq_true, decide_eq_true_eq, List.mem_cons]
      constructor
      · rintro ⟨a, b | b⟩
        · exact .inl (Prod.ext a b)
        · exact .inr ⟨a, b⟩
      · rintro (z | ⟨a, b⟩)
        · rw [z]; exact ⟨rfl, .inl rfl⟩
        · exact ⟨a, .inr b⟩
    rw [e, countP_or fun q _ => ?_, countP_one nd (m j List.mem_cons_self), ih, List.length_cons, Nat.add_comm]
    rintro ⟨a, b⟩
    simp only [Bool.and_eq_true, decide_eq_true_eq] at a b
    rw [a] at b
    exact n1 b.2
theorem countBox {prs : List (Nat × Nat)} {js : List Nat} (nd : prs.Nodup) (hj : js.Nodup) : ∀ {is : List Nat}, is.Nodup → (∀ i ∈ is, ∀ j ∈ js, (i, j) ∈ prs) → (prs.countP fun q => decide (q.1 ∈ is) && decide (q.2 ∈ js)) = is.length * js.length
  | [], _, _ => by rw [List.length_nil, Nat.zero_mul]; exact List.countP_eq_zero.mpr fun q _ => by simp
  | i :: is, h, m => by
    obtain ⟨n1, n2⟩ := List.nodup_cons.mp h
    have ih := countBox (is := is) nd hj n2 fun k hk => m k (List.mem_cons_of_mem _ hk)
    have e : (prs.countP fun q => decide (q.1 ∈ i :: is) && decide (q.2 ∈ js)) = prs.countP fun q => (decide (q.1 = i) && decide (q.2 ∈ js)) || (decide (q.1 ∈ is) && decide (q.2 ∈ js)) := by
      refine List.countP_congr fun q _ => ?_
      simp only [Bool.and_eq_true, Bool.or_eq_true, decide_eq_true_eq, List.mem_cons]
      constructor
      · rintro ⟨a | a, b⟩
        · exact .inl ⟨a, b⟩
        · exact .inr ⟨a, b⟩
      · rintro (⟨a, b⟩ | ⟨a, b⟩)
        · exact ⟨.inl a, b⟩
        · exact ⟨.inr a, b⟩
    rw [e, countP_or fun q _ => ?_, countRow nd hj (m i List.mem_cons_self), ih, List.length_cons, Nat.add_mul, Nat.one_mul, Nat.add_comm]
    rintro ⟨a, b⟩
    simp only [Bool.and_eq_true, decide_eq_true_eq] at a b
    rw [a.1] at b
    exact n1 b.1
theorem sumAdd {α : Type} {f g : α → Nat} : ∀ {l : List α}, (l.map fun x => f x + g x).sum = (l.map f).sum + (l.map g).sum
  | [] => rfl
  | x :: l => by
    have := sumAdd (f := f) (g := g) (l := l)
    simp only [List.map_cons, List.sum_cons]
    omega
theorem sumCount {α : Type} {c : α → Bool} : ∀ {l : List α}, (l.map fun x => if c x = true then 1 else 0).sum = l.countP c
  | [] => rfl
  | x :: l => by
    have := sumCount (c := c) (l := l)
    simp only [List.map_cons, List.sum_cons, List.countP_cons]
    omega
theorem sumLe {α : Type} {f : α → Nat} : ∀ {l : List α}, (∀ x ∈ l, 1 ≤ f x) → l.length ≤ (l.map f).sum ∧ ((l.map f).sum = l.length ↔ ∀ x ∈ l, f x ≤ 1)
  | [], _ => ⟨Nat.le_refl _, by simp⟩
  | x :: l, h => by
    obtain ⟨h1, h2⟩ := sumLe (l := l) fun y hy => h y (List.mem_cons_of_mem _ hy)
    have hx := h x List.mem_cons_self
    simp only [List.map_cons, List.sum_cons, List.length_cons, List.forall_mem_cons]
    refine ⟨by omega, fun e => ⟨by omega, h2.mp (by omega)⟩, fun ⟨a, b⟩ => ?_⟩
    have := h2.mpr b
    omega
end Cn
namespace Ck
/-! over and under, once more -/
section
variable {ps : List (Option Nat)}
theorem rd_cases (hp : Ps ps) {x y : Nat} (hy : y < ps.length) (h : x ∈ road ps y) : x = y ∨ ∃ p, ps[y]? = some (some p) ∧ p < y ∧ x ∈ road ps p := by
  rcases opt_cases hy with e | ⟨p, e⟩
  · rw [road_none e] at h
    exact .inl (List.mem_singleton.mp h)
  · rw [road_some hp e] at h
    rcases List.mem_append.mp h with h | h
    · exact .inr ⟨p, e, hp y p e, h⟩
    · exact .inl (List.mem_singleton.mp h)
theorem rd_up (hp : Ps ps) {x y p : Nat} (e : ps[y]? = some (some p)) (h : x ∈ road ps p) : x ∈ road ps y := by
  rw [road_some hp e]
  exact List.mem_append_left _ h
theorem rd_trans (hp : Ps ps) {x y : Nat} : ∀ z, z < ps.length → x ∈ road ps y → y ∈ road ps z → x ∈ road ps z := by
  intro z
  induction z using Nat.strongRecOn with
  | ind z ih =>
    intro hz hxy hyz
    rcases rd_cases hp hz hyz with rfl | ⟨p, e, hpz, h⟩
    · exact hxy
    · exact rd_up hp e (ih p hpz (Nat.lt_trans hpz hz) hxy h)
theorem rd_lin (hp : Ps ps) {x y : Nat} : ∀ z, z < ps.length → x ∈ road ps z → y ∈ road ps z → x ∈ road ps y ∨ y ∈ road ps x := by
  intro z
  induction z using Nat.strongRecOn with
  | ind z ih =>
    intro hz hx hy
    rcases rd_cases hp hz hx with rfl | ⟨p, e, hpz, h⟩
    · exact .inr hy
    · rcases rd_cases hp hz hy with rfl | ⟨p', e', _, h'⟩
      · exact .inl hx
      · rw [e] at e'
        cases e'
        exact ih p hpz (Nat.lt_trans hpz hz) h h'
theorem rd_anti (hp : Ps ps) {x y : Nat} (hx : x < ps.length) (hy : y < ps.length) (h : x ∈ road ps y) (k : y ∈ road ps x) : x = y := by
  have := road_le hp y hy x h
  have := road_le hp x hx y k
  omega
theorem rd_lt (hp : Ps ps) {x y : Nat} (hy : y < ps.length) (h : x ∈ road ps y) : x < ps.length := Nat.lt_of_le_of_lt (road_le hp y hy x h) hy
theorem road_asc (hp : Ps ps) : ∀ z, z < ps.length → (road ps z).Pairwise (· < ·) := by
  intro z
  induction z using Nat.strongRecOn with
  | ind z ih =>
    intro hz
    rcases opt_cases hz with e | ⟨p, e⟩
    · rw [road_none e]; exact List.pairwise_singleton _ _
    · have hl := hp z p e
      rw [road_some hp e, List.pairwise_append]
      refine ⟨ih p hl (Nat.lt_trans hl hz), List.pairwise_singleton _ _, fun a ha b hb => ?_⟩
      rw [List.mem_singleton.mp hb]
      exact Nat.lt_of_le_of_lt (road_le hp p (Nat.lt_trans hl hz) a ha) hl
end
/-! the topmost place up to which none is cut -/
def top (ps : List (Option Nat)) (cut : List Nat) (i : Nat) : Nat :=
  match ps[i]? with
  | some (some p) => if _h : p < i then (if p ∈ cut then i else top ps cut p) else i
  | _ => i
termination_by i
section
variable {ps : List (Option Nat)} {cut : List Nat}
theorem top_none {i : Nat} (h : ps[i]? = some none) : top ps cut i = i := by rw [top, h]
theorem top_cut {i p : Nat} (hp : Ps ps) (h : ps[i]? = some (some p)) (c : p ∈ cut) : top ps cut i = i := by
  rw [top, h]
  dsimp only
  rw [dif_pos (hp i p h), if_pos c]
theorem top_up {i p : Nat} (hp : Ps ps) (h : ps[i]? = some (some p)) (c : p ∉ cut) : top ps cut i = top ps cut p := by
  rw [top, h]
  dsimp only
  rw [dif_pos (hp i p h), if_neg c]
theorem top_road (hp : Ps ps) : ∀ x, x < ps.length → top ps cut x ∈ road ps x := by
  intro x
  induction x using Nat.strongRecOn with
  | ind x ih =>
    intro hx
    rcases opt_cases hx with e | ⟨p, e⟩
    · rw [top_none e]; exact road_self hp hx
    · by_cases c : p ∈ cut
      · rw [top_cut hp e c]; exact road_self hp hx
      · rw [top_up hp e c]
        exact rd_up hp e (ih p (hp x p e) (Nat.lt_trans (hp x p e) hx))
theorem top_free (hp : Ps ps) : ∀ x, x < ps.length → x ∉ cut → top ps cut x ∉ cut := by
  intro x
  induction x using Nat.strongRecOn with
  | ind x ih =>
    intro hx nx
    rcases opt_cases hx with e | ⟨p, e⟩
    · rw [top_none e]; exact nx
    · by_cases c : p ∈ cut
      · rw [top_cut hp e c]; exact nx
      · rw [top_up hp e c]
        exact ih p (hp x p e) (Nat.lt_trans (hp x p e) hx) c
/-- all from the topmost one down are alike -/
theorem top_seg (hp : Ps ps) {z : Nat} : ∀ x, x < ps.length → x ∉ cut → z ∈ road ps x → top ps cut x ∈ road ps z → z ∉ cut ∧ top ps cut z = top ps cut x := by
  intro x
  induction x using Nat.strongRecOn with
  | ind x ih =>
    intro hx nx hz ht
    rcases rd_cases hp hx hz with rfl | ⟨p, e, hpx, h⟩
    · exact ⟨nx, rfl⟩
    · by_cases c : p ∈ cut
      · rw [top_cut hp e c] at ht
        have h1 := road_le hp p (Nat.lt_trans hpx hx) z h
        have h2 := road_le hp z (Nat.lt_of_le_of_lt h1 (Nat.lt_trans hpx hx)) x ht
        omega
      · rw [top_up hp e c] at ht ⊢
        exact ih p hpx (Nat.lt_trans hpx hx) c h ht
theorem top_same (hp : Ps ps) {y : Nat} : ∀ x, x < ps.length → y ∈ road ps x → (∀ z ∈ road ps x, y ∈ road ps z → z ≠ x → z ∉ cut) → top ps cut x = top ps cut y := by
  intro x
  induction x using Nat.strongRecOn with
  | ind x ih =>
    intro hx hy hf
    rcases rd_cases hp hx hy with rfl | ⟨p, e, hpx, h⟩
    · rfl
    · have hpl := Nat.lt_trans hpx hx
      have c : p ∉ cut := hf p (rd_up hp e (road_self hp hpl)) h (Nat.ne_of_lt hpx)
      rw [top_up hp e c]
      refine ih p hpx hpl h fun z hz hyz _ => hf z (rd_up hp e hz) hyz fun e2 => ?_
      have := road_le hp p hpl z hz
      omega
/-- joined with a place over it just if none between is cut -/
theorem join_iff (hp : Ps ps) {x y : Nat} (hx : x < ps.length) (hy : y ∈ road ps x) : (x ∉ cut ∧ top ps cut x = top ps cut y) ↔ ∀ z ∈ road ps x, y ∈ road ps z → z ∉ cut := by
  have hyl := rd_lt hp hx hy
  constructor
  · rintro ⟨nx, e⟩ z hz hyz
    have hzl := rd_lt hp hx hz
    exact (top_seg hp x hx nx hz (e ▸ rd_trans hp z hzl (top_road hp y hyl) hyz)).1
  · intro h
    exact ⟨h x (road_self hp hx) hy, top_same hp x hx hy fun z hz hyz _ => h z hz hyz⟩
/-! one place more cut -/
theorem cut_far (hp : Ps ps) {x : Nat} : ∀ y, y < ps.length → ¬ (x ∈ road ps y ∧ top ps cut y = top ps cut x) → top ps (x :: cut) y = top ps cut y := by
  intro y
  induction y using Nat.strongRecOn with
  | ind y ih =>
    intro hy hn
    rcases opt_cases hy with e | ⟨p, e⟩
    · rw [top_none e, top_none e]
    · by_cases c : p ∈ cut
      · rw [top_cut hp e c, top_cut hp e (List.mem_cons_of_mem _ c)]
      · have hpy := hp y p e
        have hpl := Nat.lt_trans hpy hy
        have nx : p ≠ x := fun z => by
          subst z
          exact hn ⟨rd_up hp e (road_self hp hpl), top_up hp e c⟩
        rw [top_up hp e c, top_up hp e (fun z => (List.mem_cons.mp z).elim nx c)]
        exact ih p hpy hpl fun z => hn ⟨rd_up hp e z.1, by rw [top_up hp e c]; exact z.2⟩
theorem cut_near (hp : Ps ps) {x : Nat} : ∀ y, y < ps.length → y ∉ cut → y ≠ x → x ∈ road ps y → top ps cut y = top ps cut x → ps[top ps (x :: cut) y]? = some (some x) ∧ top ps (x :: cut) y ∈ road ps y ∧ ∀ c, ps[c]? = some (some x) → c ∈ road ps y → top ps (x :: cut) y = c := by
  intro y
  induction y using Nat.strongRecOn with
  | ind y ih =>
    intro hy ny ne hx ht
    rcases rd_cases hp hy hx with z | ⟨p, e, hpy, h⟩
    · exact absurd z.symm ne
    · have hpl := Nat.lt_trans hpy hy
      by_cases px : p = x
      · subst px
        have et : top ps (p :: cut) y = y := top_cut hp e List.mem_cons_self
        rw [et]
        refine ⟨e, road_self hp hy, fun c hc hcy => ?_⟩
        rcases rd_cases hp hy hcy with z | ⟨p', e', _, h'⟩
        · exact z.symm
        · rw [e] at e'
          cases e'
          have := road_le hp p hpl c h'
          have := hp c p hc
          omega
      · have c : p ∉ cut := fun c => by
          rw [top_cut hp e c] at ht
          have hxl := rd_lt hp hy hx
          have h1 := road_le hp x hxl _ (top_road (cut := cut) hp x hxl)
          have h2 := road_le hp p hpl x h
          omega
        have et : top ps (x :: cut) y = top ps (x :: cut) p := top_up hp e fun z => (List.mem_cons.mp z).elim px c
        rw [top_up hp e c] at ht
        obtain ⟨i1, i2, i3⟩ := ih p hpy hpl c px h ht
        rw [et]
        refine ⟨i1, rd_up hp e i2, fun c' hc hcy => ?_⟩
        rcases rd_cases hp hy hcy with z | ⟨p', e', _, h'⟩
        · subst z
          rw [e] at hc
          cases hc
          exact absurd rfl px
        · rw [e] at e'
          cases e'
          exact i3 c' hc h'
/-! the pieces -/
def comp (ps : List (Option Nat)) (cut : List Nat) (r : Nat) : List Nat := (List.range ps.length).filter fun y => decide (y ∉ cut) && decide (top ps cut y = r)
theorem comp_mem {r y : Nat} : y ∈ comp ps cut r ↔ y < ps.length ∧ y ∉ cut ∧ top ps cut y = r := by
  unfold comp
  rw [List.mem_filter, List.mem_range, Bool.and_eq_true, decide_eq_true_iff, decide_eq_true_iff]
/-- as the law cuts a piece at a place -/
def cutL (ps : List (Option Nat)) (pc : List Nat) (x : Nat) : List (List Nat) :=
  ((pc.filter fun y => !decide (y ∈ pc.filter fun y => decide (x ∈ road ps y))) ::
    ((pc.filter fun y => decide (x ∈ road ps y)).filter fun c => decide (ps[c]? = some (some x))).map fun c => (pc.filter fun y => decide (x ∈ road ps y)).filter fun y => decide (c ∈ road ps y)).filter fun l => !l.isEmpty
structure Tops (ps : List (Option Nat)) (cut : List Nat) (rs : List Nat) : Prop where
  nd : rs.Nodup
  mem : ∀ r, r ∈ rs ↔ r < ps.length ∧ r ∉ cut ∧ top ps cut r = r
theorem filter_eq {α : Type} {f g : α → Bool} {xs : List α} (h : ∀ x ∈ xs, f x = g x) : xs.filter f = xs.filter g := List.filter_congr h
/-- the piece of a place, cut at it -/
theorem cut_parts (hp : Ps ps) {x : Nat} (hx : x < ps.length) (nx : x ∉ cut) : cutL ps (comp ps cut (top ps cut x)) x = ((if top ps cut x = x then [] else [top ps cut x]) ++ (List.range ps.length).filter fun c => decide (c ∉ cut) && decide (ps[c]? = some (some x))).map (comp ps (x :: cut)) := by
  have hr := top_road (cut := cut) hp x hx
  have hrl := rd_lt hp hx hr
  have hrx := road_le hp x hx _ hr
  -- those under it
  have eu : ((comp ps cut (top ps cut x)).filter fun y => decide (x ∈ road ps y)).filter (fun c => decide (ps[c]? = some (some x))) = (List.range ps.length).filter fun c => decide (c ∉ cut) && decide (ps[c]? = some (some x)) := by
    unfold comp
    rw [List.filter_filter, List.filter_filter]
    refine List.filter_congr fun c hc => ?_
    have hcl := List.mem_range.mp hc
    rw [Bool.eq_iff_iff]
    simp only [Bool.and_eq_true, decide_eq_true_eq]
    constructor
    · rintro ⟨⟨a, b⟩, d, e⟩
      exact ⟨d, a⟩
    · rintro ⟨d, a⟩
      exact ⟨⟨a, rd_up hp a (road_self hp hx)⟩, d, top_up hp a nx⟩
  have ec : ∀ c, c < ps.length → c ∉ cut → ps[c]? = some (some x) → ((comp ps cut (top ps cut x)).filter fun y => decide (x ∈ road ps y)).filter (fun y => decide (c ∈ road ps y)) = comp ps (x :: cut) c := by
    intro c hc nc e
    have hxc := hp c x e
    unfold comp
    rw [List.filter_filter, List.filter_filter]
    refine List.filter_congr fun y hy => ?_
    have hyl := List.mem_range.mp hy
    rw [Bool.eq_iff_iff]
    simp only [Bool.and_eq_true, decide_eq_true_eq]
    constructor
    · rintro ⟨⟨a, b⟩, d, t⟩
      have ne : y ≠ x := fun z => by
        subst z
        have := road_le hp y hyl c a
        omega
      exact ⟨fun z => (List.mem_cons.mp z).elim ne d, (cut_near hp y hyl d ne b t).2.2 c e a⟩
    · rintro ⟨d, t⟩
      have dc : y ∉ cut := fun z => d (List.mem_cons_of_mem _ z)
      have hcy : c ∈ road ps y := t ▸ top_road hp y hyl
      have hxy : x ∈ road ps y := rd_trans hp y hyl (rd_up hp e (road_self hp hx)) hcy
      by_cases j : x ∈ road ps y ∧ top ps cut y = top ps cut x
      · exact ⟨⟨hcy, hxy⟩, dc, j.2⟩
      · have := cut_far hp y hyl j
        rw [t] at this
        have h2 := top_seg hp y hyl dc hcy (this ▸ road_self hp hc)
        rw [← h2.2, top_up hp e nx] at this
        exact absurd ⟨hxy, by rw [← h2.2, top_up hp e nx]⟩ j
  have er : ((comp ps cut (top ps cut x)).filter fun y => !decide (y ∈ (comp ps cut (top ps cut x)).filter fun y => decide (x ∈ road ps y))) = if top ps cut x = x then [] else comp ps (x :: cut) (top ps cut x) := by
    have e1 : ((comp ps cut (top ps cut x)).filter fun y => !decide (y ∈ (comp ps cut (top ps cut x)).filter fun y => decide (x ∈ road ps y))) = (comp ps cut (top ps cut x)).filter fun y => !decide (x ∈ road ps y) := by
      refine List.filter_congr fun y hy => ?_
      congr 1
      rw [Bool.eq_iff_iff, decide_eq_true_iff, decide_eq_true_iff, List.mem_filter, decide_eq_true_iff]
      exact ⟨fun z => z.2, fun z => ⟨hy, z⟩⟩
    rw [e1]
    by_cases c : top ps cut x = x
    · rw [if_pos c, List.filter_eq_nil_iff]
      intro y hy
      obtain ⟨hyl, _, t⟩ := comp_mem.mp hy
      have := top_road (cut := cut) hp y hyl
      rw [t, c] at this
      simpa using this
    · rw [if_neg c]
      have nr : x ∉ road ps (top ps cut x) := fun z => c (rd_anti hp hrl hx hr z)
      unfold comp
      rw [List.filter_filter]
      refine List.filter_congr fun y hy => ?_
      have hyl := List.mem_range.mp hy
      rw [Bool.eq_iff_iff]
      simp only [Bool.and_eq_true, decide_eq_true_eq, Bool.not_eq_true', decide_eq_false_iff_not]
      constructor
      · rintro ⟨a, d, t⟩
        refine ⟨fun z => (List.mem_cons.mp z).elim (fun z => a (by rw [← z]; exact road_self hp hyl)) d, ?_⟩
        rw [cut_far hp y hyl (fun z => a z.1)]
        exact t
      · rintro ⟨d, t⟩
        have dc : y ∉ cut := fun z => d (List.mem_cons_of_mem _ z)
        have ne : y ≠ x := fun z => d (z ▸ List.mem_cons_self)
        have j : ¬ (x ∈ road ps y ∧ top ps cut y = top ps cut x) := fun j => by
          have h1 := (cut_near hp y hyl dc ne j.1 j.2).1
          rw [t] at h1
          have := hp _ _ h1
          omega
        have e2 := cut_far hp y hyl j
        rw [t] at e2
        exact ⟨fun z => j ⟨z, e2.symm⟩, dc, e2.symm⟩
  unfold cutL
  rw [er, eu]
  have em : (((List.range ps.length).filter fun c => decide (c ∉ cut) && decide (ps[c]? = some (some x))).map fun c => ((comp ps cut (top ps cut x)).filter fun y => decide (x ∈ road ps y)).filter fun y => decide (c ∈ road ps y)) = ((List.range ps.length).filter fun c => decide (c ∉ cut) && decide (ps[c]? = some (some x))).map (comp ps (x :: cut)) := by
    refine List.map_congr_left fun c hc => ?_
    obtain ⟨h1, h2⟩ := List.mem_filter.mp hc
    simp only [Bool.and_eq_true, decide_eq_true_eq] at h2
    exact ec c (List.mem_range.mp h1) h2.1 h2.2
  rw [em]
  have ne : ∀ r, r < ps.length → r ∉ cut → r ≠ x → top ps (x :: cut) r = r → (!(comp ps (x :: cut) r).isEmpty) = true := fun r hr n1 n2 t => by
    have : r ∈ comp ps (x :: cut) r := comp_mem.mpr ⟨hr, fun z => (List.mem_cons.mp z).elim n2 n1, t⟩
    cases h : comp ps (x :: cut) r with
    | nil => rw [h] at this; cases this
    | cons _ _ => rfl
  have hch : (((List.range ps.length).filter fun c => decide (c ∉ cut) && decide (ps[c]? = some (some x))).map (comp ps (x :: cut))).filter (fun l => !l.isEmpty) = ((List.range ps.length).filter fun c => decide (c ∉ cut) && decide (ps[c]? = some (some x))).map (comp ps (x :: cut)) := by
    rw [List.filter_eq_self]
    intro l hl
    obtain ⟨c, hc, rfl⟩ := List.mem_map.mp hl
    obtain ⟨h1, h2⟩ := List.mem_filter.mp hc
    simp only [Bool.and_eq_true, decide_eq_true_eq] at h2
    have := hp c x h2.2
    exact ne c (List.mem_range.mp h1) h2.1 (by omega) (top_cut hp h2.2 List.mem_cons_self)
  by_cases c : top ps cut x = x
  · rw [if_pos c, if_pos c, List.filter_cons_of_neg (by simp), hch]
    rfl
  · rw [if_neg c, if_neg c, List.filter_cons_of_pos, hch]
    · rfl
    · have nr : x ∉ road ps (top ps cut x) := fun z => c (rd_anti hp hrl hx hr z)
      have tt : top ps cut (top ps cut x) = top ps cut x := (top_seg hp x hx nx hr (road_self hp hrl)).2
      exact ne _ hrl (top_free hp x hx nx) c (by rw [cut_far hp _ hrl (fun z => nr z.1)]; exact tt)
/-- the tops behind a cut -/
theorem tops_next (hp : Ps ps) {rs : List Nat} {x at_ : Nat} (T : Tops ps cut rs) (hx : x < ps.length) (nx : x ∉ cut) (ha : rs[at_]? = some (top ps cut x)) :
    ∃ rs', Tops ps (x :: cut) rs' ∧ (rs.map (comp ps cut)).take at_ ++ cutL ps (comp ps cut (top ps cut x)) x ++ (rs.map (comp ps cut)).drop (at_ + 1) = rs'.map (comp ps (x :: cut)) := by
  have hr := top_road (cut := cut) hp x hx
  have hrl := rd_lt hp hx hr
  have hrx := road_le hp x hx _ hr
  have hal := (List.getElem?_eq_some_iff.mp ha).1
  have hae := (List.getElem?_eq_some_iff.mp ha).2
  have split : rs = rs.take at_ ++ top ps cut x :: rs.drop (at_ + 1) := by
    rw [← hae, ← List.drop_eq_getElem_cons hal, List.take_append_drop]
  have nd := T.nd
  rw [split] at nd
  obtain ⟨nd1, nd2, nd3⟩ := List.nodup_append.mp nd
  obtain ⟨nd4, nd5⟩ := List.nodup_cons.mp nd2
  -- the others
  have far : ∀ r ∈ rs, r ≠ top ps cut x → comp ps cut r = comp ps (x :: cut) r ∧ r ≠ x ∧ top ps (x :: cut) r = r := by
    intro r hr' ne
    obtain ⟨h1, h2, h3⟩ := (T.mem r).mp hr'
    have rx : r ≠ x := fun z => ne (by rw [← z]; exact h3.symm)
    refine ⟨?_, rx, by rw [cut_far hp r h1 (fun z => ne (by rw [← z.2]; exact h3.symm))]; exact h3⟩
    unfold comp
    refine List.filter_congr fun y hy => ?_
    have hyl := List.mem_range.mp hy
    rw [Bool.eq_iff_iff]
    simp only [Bool.and_eq_true, decide_eq_true_eq]
    constructor
    · rintro ⟨d, t⟩
      have yx : y ≠ x := fun z => ne (by rw [← t, z])
      exact ⟨fun z => (List.mem_cons.mp z).elim yx d, by rw [cut_far hp y hyl (fun z => ne (by rw [← t]; exact z.2))]; exact t⟩
    · rintro ⟨d, t⟩
      have dc : y ∉ cut := fun z => d (List.mem_cons_of_mem _ z)
      have yx : y ≠ x := fun z => d (z ▸ List.mem_cons_self)
      by_cases j : x ∈ road ps y ∧ top ps cut y = top ps cut x
      · have h4 := (cut_near hp y hyl dc yx j.1 j.2).1
        rw [t] at h4
        have h5 := top_up (cut := cut) hp h4 nx
        rw [h3] at h5
        exact absurd h5 ne
      · have := cut_far hp y hyl j
        rw [t] at this
        exact ⟨dc, this.symm⟩
  have inT : ∀ r ∈ rs.take at_, r ∈ rs ∧ r ≠ top ps cut x := fun r h => ⟨List.mem_of_mem_take h, nd3 r h _ List.mem_cons_self⟩
  have inD : ∀ r ∈ rs.drop (at_ + 1), r ∈ rs ∧ r ≠ top ps cut x := fun r h => ⟨List.mem_of_mem_drop h, fun z => nd4 (z ▸ h)⟩
  refine ⟨rs.take at_ ++ (((if top ps cut x = x then [] else [top ps cut x]) ++ (List.range ps.length).filter fun c => decide (c ∉ cut) && decide (ps[c]? = some (some x))) ++ rs.drop (at_ + 1)), ⟨?_, fun r => ?_⟩, ?_⟩
  · have chn : ∀ c ∈ (List.range ps.length).filter (fun c => decide (c ∉ cut) && decide (ps[c]? = some (some x))), c ∉ rs ∧ c ≠ top ps cut x := fun c hc => by
      obtain ⟨h1, h2⟩ := List.mem_filter.mp hc
      simp only [Bool.and_eq_true, decide_eq_true_eq] at h2
      have h3 := hp c x h2.2
      have h4 := top_up (cut := cut) hp h2.2 nx
      exact ⟨fun z => by have := ((T.mem c).mp z).2.2; omega, by omega⟩
    rw [List.nodup_append, List.nodup_append, List.nodup_append]
    refine ⟨nd1, ⟨⟨?_, List.nodup_range.filter _, fun a ha b hb z => ?_⟩, nd5, fun a ha b hb z => ?_⟩, fun a ha b hb z => ?_⟩
    · split
      · exact List.nodup_nil
      · exact List.nodup_cons.mpr ⟨List.not_mem_nil, List.nodup_nil⟩
    · subst z
      split at ha
      · cases ha
      · exact (chn a hb).2 (List.mem_singleton.mp ha)
    · subst z
      rcases List.mem_append.mp ha with ha | ha
      · split at ha
        · cases ha
        · exact (inD a hb).2 (List.mem_singleton.mp ha)
      · exact (chn a ha).1 (inD a hb).1
    · subst z
      rcases List.mem_append.mp hb with hb | hb
      · rcases List.mem_append.mp hb with hb | hb
        · split at hb
          · cases hb
          · exact (inT a ha).2 (List.mem_singleton.mp hb)
        · exact (chn a hb).1 (inT a ha).1
      · exact nd3 a ha a (List.mem_cons_of_mem _ hb) rfl
  · rw [List.mem_append, List.mem_append, List.mem_append]
    constructor
    · rintro (h | (h | h) | h)
      · obtain ⟨a, b⟩ := inT r h
        obtain ⟨h1, h2, h3⟩ := (T.mem r).mp a
        obtain ⟨_, f2, f3⟩ := far r a b
        exact ⟨h1, fun z => (List.mem_cons.mp z).elim f2 h2, f3⟩
      · split at h
        · cases h
        · rename_i c
          rw [List.mem_singleton.mp h]
          have nr : x ∉ road ps (top ps cut x) := fun z => c (rd_anti hp hrl hx hr z)
          have tt : top ps cut (top ps cut x) = top ps cut x := (top_seg hp x hx nx hr (road_self hp hrl)).2
          exact ⟨hrl, fun z => (List.mem_cons.mp z).elim c (top_free hp x hx nx), by rw [cut_far hp _ hrl (fun z => nr z.1)]; exact tt⟩
      · obtain ⟨h1, h2⟩ := List.mem_filter.mp h
        simp only [Bool.and_eq_true, decide_eq_true_eq] at h2
        have h3 := hp r x h2.2
        exact ⟨List.mem_range.mp h1, fun z => (List.mem_cons.mp z).elim (by omega) h2.1, top_cut hp h2.2 List.mem_cons_self⟩
      · obtain ⟨a, b⟩ := inD r h
        obtain ⟨h1, h2, h3⟩ := (T.mem r).mp a
        obtain ⟨_, f2, f3⟩ := far r a b
        exact ⟨h1, fun z => (List.mem_cons.mp z).elim f2 h2, f3⟩
    · rintro ⟨h1, h2, h3⟩
      have dc : r ∉ cut := fun z => h2 (List.mem_cons_of_mem _ z)
      have rx : r ≠ x := fun z => h2 (z ▸ List.mem_cons_self)
      by_cases j : x ∈ road ps r ∧ top ps cut r = top ps cut x
      · have h4 := (cut_near hp r h1 dc rx j.1 j.2).1
        rw [h3] at h4
        exact .inr (.inl (.inr (List.mem_filter.mpr ⟨List.mem_range.mpr h1, by simp only [Bool.and_eq_true, decide_eq_true_eq]; exact ⟨dc, h4⟩⟩)))
      · have h4 := cut_far hp r h1 j
        rw [h3] at h4
        have hrs := (T.mem r).mpr ⟨h1, dc, h4.symm⟩
        by_cases e : r = top ps cut x
        · refine .inr (.inl (.inl ?_))
          rw [if_neg (fun z => rx (e.trans z))]
          exact List.mem_singleton.mpr e
        · rw [split] at hrs
          rcases List.mem_append.mp hrs with h | h
          · exact .inl h
          · exact .inr (.inr ((List.mem_cons.mp h).resolve_left e))
  · rw [cut_parts hp hx nx, ← List.map_take, ← List.map_drop]
    generalize ((if top ps cut x = x then [] else [top ps cut x]) ++ (List.range ps.length).filter fun c => decide (c ∉ cut) && decide (ps[c]? = some (some x))) = Y
    rw [List.map_append, List.map_append, List.append_assoc]
    congr 1
    · exact List.map_congr_left fun r h => (far r (inT r h).1 (inT r h).2).1
    · congr 1
      exact List.map_congr_left fun r h => (far r (inD r h).1 (inD r h).2).1
end
end Ck
namespace Ck
section
variable {rk : Nat → Nat}
theorem rlm_mono {y : Nat} {ys : List Nat} {x : Nat} (h : x ∈ rlm rk ys) : x ∈ rlm rk (y :: ys) := by
  show x ∈ if ∀ z ∈ ys, rk y < rk z then y :: rlm rk ys else rlm rk ys
  split
  · exact List.mem_cons_of_mem _ h
  · exact h
theorem filter_len {f : Nat → Nat} {c : Nat} : ∀ {L : List Nat}, L.Pairwise (fun a b => f a < f b) → L.filter (fun y => decide (f y < c)) = L.take (L.filter fun y => decide (f y < c)).length
  | [], _ => rfl
  | a :: L, p => by
    obtain ⟨p1, p2⟩ := List.pairwise_cons.mp p
    by_cases h : f a < c
    · rw [List.filter_cons_of_pos (by simpa using h), List.length_cons, List.take_succ_cons, ← filter_len p2]
    · have e : L.filter (fun y => decide (f y < c)) = [] := by
        rw [List.filter_eq_nil_iff]
        intro b hb
        have := p1 b hb
        simp only [decide_eq_true_eq]
        omega
      rw [List.filter_cons_of_neg (by simpa using h), e]
      rfl
/-- the last of those below c -/
theorem last_below {c : Nat} : ∀ L : List Nat, (((rlm rk L).filter fun y => decide (rk y < c)) = [] ∧ ∀ z ∈ L, ¬ rk z < c) ∨ ∃ A w B, L = A ++ w :: B ∧ rk w < c ∧ (∀ z ∈ B, ¬ rk z < c) ∧ ((rlm rk L).filter fun y => decide (rk y < c)).getLast? = some w
  | [] => .inl ⟨rfl, fun z h => by cases h⟩
  | y :: ys => by
    have ih := last_below (c := c) ys
    have eq : rlm rk (y :: ys) = if ∀ z ∈ ys, rk y < rk z then y :: rlm rk ys else rlm rk ys := rfl
    rcases ih with ⟨e, h⟩ | ⟨A, w, B, e, hw, hB, hl⟩
    · by_cases d : rk y < c
      · refine .inr ⟨[], y, ys, rfl, d, h, ?_⟩
        rw [eq, if_pos fun z hz => by have := h z hz; omega, List.filter_cons_of_pos (by simpa using d), e]
        rfl
      · refine .inl ⟨?_, fun z hz => ?_⟩
        · rw [eq]
          split
          · rw [List.filter_cons_of_neg (by simpa using d), e]
          · exact e
        · rcases List.mem_cons.mp hz with rfl | hz
          · exact d
          · exact h z hz
    · refine .inr ⟨y :: A, w, B, by rw [e]; rfl, hw, hB, ?_⟩
      rw [eq]
      split
      · by_cases d : rk y < c
        · rw [List.filter_cons_of_pos (by simpa using d), List.getLast?_cons, hl]
          rfl
        · rw [List.filter_cons_of_neg (by simpa using d)]
          exact hl
      · exact hl
end
section
variable {ps : List (Option Nat)} {rk : Nat → Nat}
theorem rlm_road (hp : Ps ps) {x : Nat} : ∀ y, y < ps.length → (x ∈ rlm rk (road ps y) ↔ x ∈ road ps y ∧ ∀ z ∈ road ps y, x ∈ road ps z → z ≠ x → rk x < rk z) := by
  intro y
  induction y using Nat.strongRecOn with
  | ind y ih =>
    intro hy
    rcases opt_cases hy with e | ⟨p, e⟩
    · rw [road_none e]
      show x ∈ rlm rk ([] ++ [y]) ↔ _
      rw [rlm_snoc]
      show x ∈ [y] ↔ _
      constructor
      · intro h
        refine ⟨h, fun z hz _ ne => ?_⟩
        rw [List.mem_singleton.mp h, List.mem_singleton.mp hz] at ne
        exact absurd rfl ne
      · exact fun h => h.1
    · have hpy := hp y p e
      have hpl := Nat.lt_trans hpy hy
      rw [road_some hp e, rlm_snoc, List.mem_append, List.mem_filter, decide_eq_true_iff, ih p hpy hpl]
      constructor
      · rintro (⟨⟨a, b⟩, d⟩ | h)
        · refine ⟨List.mem_append_left _ a, fun z hz hxz ne => ?_⟩
          rcases List.mem_append.mp hz with hz | hz
          · exact b z hz hxz ne
          · rw [List.mem_singleton.mp hz]; exact d
        · have h := List.mem_singleton.mp h
          subst h
          refine ⟨List.mem_append_right _ (List.mem_singleton.mpr rfl), fun z hz hxz ne => ?_⟩
          rcases List.mem_append.mp hz with hz | hz
          · have h1 := road_le hp p hpl z hz
            have h2 := road_le hp z (Nat.lt_of_le_of_lt h1 hpl) x hxz
            omega
          · exact absurd (List.mem_singleton.mp hz) ne
      · rintro ⟨a, b⟩
        rcases List.mem_append.mp a with a | a
        · refine .inl ⟨⟨a, fun z hz hxz ne => b z (List.mem_append_left _ hz) hxz ne⟩, ?_⟩
          have := road_le hp p hpl x a
          exact b y (List.mem_append_right _ (List.mem_singleton.mpr rfl)) (rd_up hp e a) (by omega)
        · exact .inr a
/-- levels by ranks are a plan, and its stacks are those of the ranks -/
theorem lv_rlm (hp : Ps ps) {lv : List Nat} (hl : lv.length = ps.length) (h : ∀ i, i < ps.length → lv.getD i 0 = (rlm rk (road ps i)).length) : Lv ps lv := by
  refine ⟨hl, fun i l q e hq => ?_⟩
  have hi : i < ps.length := by rw [← hl]; exact (List.getElem?_eq_some_iff.mp e).1
  have el : l = (rlm rk (road ps i)).length := by rw [← h i hi, getD_of e]
  cases q with
  | none =>
    rw [road_none hq] at el
    have : rlm rk ([] ++ [i]) = [i] := by rw [rlm_snoc]; rfl
    rw [show [i] = [] ++ [i] from rfl, this] at el
    exact ⟨Nat.le_of_eq el.symm, Nat.le_of_eq el⟩
  | some p =>
    have hpi := hp i p hq
    rw [road_some hp hq, rlm_snoc, List.length_append, List.length_singleton] at el
    have := List.length_filter_le (fun x => decide (rk x < rk i)) (rlm rk (road ps p))
    have e2 : mostLv lv (some p) = lv.getD p 0 + 1 := rfl
    rw [e2, h p (Nat.lt_trans hpi hi)]
    omega
theorem stk_rlm (hp : Ps ps) {lv : List Nat} (h : ∀ i, i < ps.length → lv.getD i 0 = (rlm rk (road ps i)).length) : ∀ i, i < ps.length → stk ps lv i = rlm rk (road ps i) := by
  intro i
  induction i using Nat.strongRecOn with
  | ind i ih =>
    intro hi
    rcases opt_cases hi with e | ⟨p, e⟩
    · rw [stk_none e, road_none e]
      show _ = rlm rk ([] ++ [i])
      rw [rlm_snoc]; rfl
    · have hpi := hp i p e
      have hl := h i hi
      rw [road_some hp e, rlm_snoc, List.length_append, List.length_singleton] at hl
      rw [stk_some hp e, road_some hp e, rlm_snoc, ih p hpi (Nat.lt_trans hpi hi), hl, Nat.add_sub_cancel, ← filter_len (rlm_sorted _)]
theorem argmin (rk : Nat → Nat) : ∀ {L : List Nat}, L ≠ [] → ∃ k ∈ L, ∀ z ∈ L, rk k ≤ rk z
  | [], h => absurd rfl h
  | [x], _ => ⟨x, List.mem_cons_self, fun z hz => by rw [List.mem_singleton.mp hz]; exact Nat.le_refl _⟩
  | x :: y :: L, _ => by
    obtain ⟨k, hk, h⟩ := argmin rk (L := y :: L) (List.cons_ne_nil _ _)
    by_cases c : rk x ≤ rk k
    · exact ⟨x, List.mem_cons_self, fun z hz => by
        rcases List.mem_cons.mp hz with rfl | hz
        · exact Nat.le_refl _
        · exact Nat.le_trans c (h z hz)⟩
    · exact ⟨k, List.mem_cons_of_mem _ hk, fun z hz => by
        rcases List.mem_cons.mp hz with rfl | hz
        · omega
        · exact h z hz⟩
end
end Ck
namespace Cn
open PySem PySem.Spec PyProof.Rows L2 Ck
section
variable {ps : List (Option Nat)} {cs : List Nat}
theorem mapGetD {n : Nat} {g : Nat → Nat} {i : Nat} (h : i < n) : ((List.range n).map g).getD i 0 = g i := by
  rw [List.getD_eq_getElem?_getD, List.getElem?_map, List.getElem?_range h]; rfl
def lvs (ps : List (Option Nat)) (cs : List Nat) : List Nat := (List.range ps.length).map (lvOf ps cs)
theorem lvs_lv (hp : Ps ps) : Lv ps (lvs ps cs) := lv_rlm (rk := fun x => cs.idxOf x) hp (by unfold lvs; rw [List.length_map, List.length_range]) fun i hi => mapGetD hi
theorem lvs_stk (hp : Ps ps) {i : Nat} (hi : i < ps.length) : stk ps (lvs ps cs) i = rlm (fun x => cs.idxOf x) (road ps i) := stk_rlm (rk := fun x => cs.idxOf x) hp (fun i hi => mapGetD hi) i hi
theorem idxInj {x y : Nat} (hx : x ∈ cs) (hy : y ∈ cs) (h : cs.idxOf x = cs.idxOf y) : x = y := by
  have h1 := List.getElem_idxOf (List.idxOf_lt_length_of_mem hx)
  have h2 := List.getElem_idxOf (List.idxOf_lt_length_of_mem hy)
  rw [← h1, ← h2]
  congr 1
/-- over and asks of a place, by ranks: nothing between is taken ahead -/
def freeTo (ps : List (Option Nat)) (cs : List Nat) (x y k : Nat) : Prop := x ∈ road ps y ∧ ∀ z ∈ road ps y, x ∈ road ps z → cs.idxOf k ≤ cs.idxOf z
theorem held_mem (hp : Ps ps) {k x : Nat} (hk : k < ps.length) : x ∈ heldAt ps (lvs ps cs) k ↔ freeTo ps cs x k k := by
  have es := lvs_stk (cs := cs) hp hk
  obtain ⟨Lp, er, est⟩ : ∃ Lp, road ps k = Lp ++ [k] ∧ stk ps (lvs ps cs) k = ((rlm (fun x => cs.idxOf x) Lp).filter fun y => decide (cs.idxOf y < cs.idxOf k)) ++ [k] := by
    rcases opt_cases hk with e | ⟨p, e⟩
    · refine ⟨[], by rw [road_none e]; rfl, ?_⟩
      rw [stk_none e]
      rfl
    · refine ⟨road ps p, road_some hp e, ?_⟩
      rw [es, road_some hp e, rlm_snoc]
  have asc := road_asc hp k hk
  have drp : (stk ps (lvs ps cs) k).dropLast = (rlm (fun x => cs.idxOf x) Lp).filter fun y => decide (cs.idxOf y < cs.idxOf k) := by rw [est, List.dropLast_concat]
  unfold heldAt
  rw [drp]
  unfold freeTo
  rcases last_below (rk := fun x => cs.idxOf x) (c := cs.idxOf k) Lp with ⟨e, h⟩ | ⟨A, w, B, e, hw, hB, hl⟩
  · rw [e]
    show x ∈ road ps k ↔ _
    refine ⟨fun hx => ⟨hx, fun z hz _ => ?_⟩, fun z => z.1⟩
    rw [er] at hz
    rcases List.mem_append.mp hz with hz | hz
    · have := h z hz; omega
    · rw [List.mem_singleton.mp hz]; exact Nat.le_refl _
  · rw [hl]
    show x ∈ (road ps k).drop ((road ps k).idxOf w + 1) ↔ _
    have ek : road ps k = A ++ w :: (B ++ [k]) := by rw [er, e, List.append_assoc]; rfl
    have nd := road_nd hp k hk
    rw [ek] at nd asc
    obtain ⟨n1, n2, n3⟩ := List.nodup_append.mp nd
    have wA : w ∉ A := fun z => n3 w z w List.mem_cons_self rfl
    have ei : (A ++ w :: (B ++ [k])).idxOf w = A.length := by
      rw [List.idxOf_append, if_neg wA, List.idxOf_cons_self, Nat.zero_add]
    have ed : (A ++ w :: (B ++ [k])).drop (A.length + 1) = B ++ [k] := by
      rw [List.drop_append, List.drop_of_length_le (by omega), Nat.add_sub_cancel_left]
      rfl
    rw [ek, ei, ed]
    obtain ⟨a1, a2, a3⟩ := List.pairwise_append.mp asc
    obtain ⟨a4, a5⟩ := List.pairwise_cons.mp a2
    have wk : w ∈ road ps k := by rw [ek]; exact List.mem_append_right _ List.mem_cons_self
    constructor
    · intro hx
      have hxr : x ∈ A ++ w :: (B ++ [k]) := List.mem_append_right _ (List.mem_cons_of_mem _ hx)
      refine ⟨hxr, fun z hz hxz => ?_⟩
      have hzl : z < ps.length := rd_lt hp hk (by rw [ek]; exact hz)
      have hle := road_le hp z hzl x hxz
      have hwx := a4 x hx
      rcases List.mem_append.mp hz with hz | hz
      · have := a3 z hz w List.mem_cons_self; omega
      · rcases List.mem_cons.mp hz with hz | hz
        · omega
        · rcases List.mem_append.mp hz with hz | hz
          · have := hB z hz; omega
          · rw [List.mem_singleton.mp hz]; exact Nat.le_refl _
    · rintro ⟨hx, h⟩
      rcases List.mem_append.mp hx with hx | hx
      · have hxw := a3 x hx w List.mem_cons_self
        have hxk : x ∈ road ps k := by rw [ek]; exact List.mem_append_left _ hx
        have hwl := rd_lt hp hk wk
        have hxl := rd_lt hp hk hxk
        rcases rd_lin hp k hk hxk wk with q | q
        · have := h w (List.mem_append_right _ List.mem_cons_self) q
          omega
        · have := road_le hp x hxl w q
          omega
      · rcases List.mem_cons.mp hx with hx | hx
        · subst hx
          have := h x (List.mem_append_right _ List.mem_cons_self) (road_self hp (rd_lt hp hk wk))
          omega
        · exact hx
theorem ask_mem (hp : Ps ps) (hc : CutsOk ps.length cs) {k y : Nat} (hy : y < ps.length) : k ∈ stk ps (lvs ps cs) y ↔ freeTo ps cs k y k := by
  rw [lvs_stk hp hy, rlm_road hp y hy]
  unfold freeTo
  constructor
  · rintro ⟨a, b⟩
    refine ⟨a, fun z hz hkz => ?_⟩
    by_cases e : z = k
    · rw [e]; exact Nat.le_refl _
    · exact Nat.le_of_lt (b z hz hkz e)
  · rintro ⟨a, b⟩
    refine ⟨a, fun z hz hkz ne => ?_⟩
    have h1 := b z hz hkz
    have h2 : cs.idxOf k ≠ cs.idxOf z := fun q => ne (idxInj ((hc.mem z).mpr (rd_lt hp hy hz)) ((hc.mem k).mpr (rd_lt hp hy a)) q.symm)
    show cs.idxOf k < cs.idxOf z
    omega
/-- the law's own two lots, of a place's piece when it is cut -/
def overL (ps : List (Option Nat)) (cut be : List Nat) (x : Nat) : List Nat := (comp ps cut (top ps cut x)).filter fun y => decide (y ∈ be) && decide (y ∈ road ps x)
def asksL (ps : List (Option Nat)) (cut as : List Nat) (x : Nat) : List Nat := (comp ps cut (top ps cut x)).filter fun y => decide (y ∈ as) && decide (x ∈ road ps y)
theorem comp_asc {cut : List Nat} {r : Nat} : (comp ps cut r).Pairwise (· < ·) := List.pairwise_lt_range.filter _
/-- what is cut: those of lesser ranks -/
def CutTo (ps : List (Option Nat)) (cs cut : List Nat) (x : Nat) : Prop := ∀ z, z < ps.length → (z ∈ cut ↔ cs.idxOf z < cs.idxOf x)
theorem free_join (hp : Ps ps) {cut : List Nat} {k x y : Nat} (hC : CutTo ps cs cut k) (hy : y < ps.length) (hx : x ∈ road ps y) : (y ∉ cut ∧ top ps cut y = top ps cut x) ↔ freeTo ps cs x y k := by
  rw [join_iff hp hy hx]
  unfold freeTo
  constructor
  · intro h
    refine ⟨hx, fun z hz hxz => ?_⟩
    have := h z hz hxz
    rw [hC z (rd_lt hp hy hz)] at this
    omega
  · rintro ⟨_, h⟩ z hz hxz
    rw [hC z (rd_lt hp hy hz)]
    have := h z hz hxz
    omega
theorem note_cut (hp : Ps ps) (hc : CutsOk ps.length cs) {be as cut : List Nat} {k : Nat} (hk : k < ps.length) (hC : CutTo ps cs cut k) (ha : as.Pairwise (· < ·)) (hal : ∀ j ∈ as, j < ps.length) :
    noteAt ps be as (lvs ps cs) k = (overL ps cut be k, asksL ps cut as k) := by
  have nk : k ∉ cut := fun z => by rw [hC k hk] at z; omega
  have h1 : ((heldAt ps (lvs ps cs) k).filter fun x => decide (x ∈ be)) = overL ps cut be k := by
    refine ascEq (List.Pairwise.filter _ ?_) (comp_asc.filter _) fun x => ?_
    · unfold heldAt
      split
      · exact road_asc hp k hk
      · exact (road_asc hp k hk).drop
    · unfold overL
      rw [List.mem_filter, List.mem_filter, held_mem hp hk, decide_eq_true_iff, Bool.and_eq_true, decide_eq_true_iff, decide_eq_true_iff, comp_mem]
      constructor
      · rintro ⟨f, b⟩
        have hx := f.1
        have j := (free_join hp hC hk hx).mpr f
        have jx : x ∉ cut := fun z => by
          have := f.2 x hx (road_self hp (rd_lt hp hk hx))
          rw [hC x (rd_lt hp hk hx)] at z
          omega
        exact ⟨⟨rd_lt hp hk hx, jx, j.2.symm⟩, b, hx⟩
      · rintro ⟨⟨_, _, t⟩, b, hx⟩
        exact ⟨(free_join hp hC hk hx).mp ⟨nk, t.symm⟩, b⟩
  have h2 : (as.filter fun j => decide (k ∈ stk ps (lvs ps cs) j)) = asksL ps cut as k := by
    refine ascEq (ha.filter _) (comp_asc.filter _) fun y => ?_
    unfold asksL
    rw [List.mem_filter, List.mem_filter, decide_eq_true_iff, Bool.and_eq_true, decide_eq_true_iff, decide_eq_true_iff, comp_mem]
    constructor
    · rintro ⟨a, s⟩
      have hyl := hal y a
      have f := (ask_mem hp hc hyl).mp s
      have j := (free_join hp hC hyl f.1).mpr f
      exact ⟨⟨hyl, j.1, j.2⟩, a, f.1⟩
    · rintro ⟨⟨hyl, ny, t⟩, a, hk'⟩
      exact ⟨a, (ask_mem hp hc hyl).mpr ((free_join hp hC hyl hk').mp ⟨ny, t⟩)⟩
  unfold noteAt
  rw [h1, h2]
/-! they keep each pair just once -/
theorem once (hp : Ps ps) (hc : CutsOk ps.length cs) {i j : Nat} (hj : j < ps.length) (hij : i ∈ road ps j) : ∃ k, k < ps.length ∧ ∀ m, m < ps.length → ((freeTo ps cs i m m ∧ freeTo ps cs m j m) ↔ m = k) := by
  obtain ⟨k, hkm, hmin⟩ := argmin (fun x => cs.idxOf x) (L := (road ps j).filter fun z => decide (i ∈ road ps z)) (List.ne_nil_of_mem (List.mem_filter.mpr ⟨road_self hp hj, decide_eq_true hij⟩))
  obtain ⟨hk1, hk2⟩ := List.mem_filter.mp hkm
  have hk2 := of_decide_eq_true hk2
  have hkl := rd_lt hp hj hk1
  refine ⟨k, hkl, fun m hm => ⟨?_, ?_⟩⟩
  · rintro ⟨⟨a1, a2⟩, b1, b2⟩
    have h1 : cs.idxOf k ≤ cs.idxOf m := hmin m (List.mem_filter.mpr ⟨b1, decide_eq_true a1⟩)
    have h2 : cs.idxOf m ≤ cs.idxOf k := by
      rcases rd_lin hp j hj hk1 b1 with q | q
      · exact a2 k q hk2
      · exact b2 k hk1 q
    exact idxInj ((hc.mem m).mpr hm) ((hc.mem k).mpr hkl) (by omega)
  · rintro rfl
    refine ⟨⟨hk2, fun z hz hiz => ?_⟩, hk1, fun z hz hmz => ?_⟩
    · exact hmin z (List.mem_filter.mpr ⟨rd_trans hp j hj hz hk1, decide_eq_true hiz⟩)
    · exact hmin z (List.mem_filter.mpr ⟨hz, decide_eq_true (rd_trans hp z (rd_lt hp hj hz) hk2 hmz)⟩)
theorem countOne {k : Nat} : ∀ n, k < n → (List.range n).countP (fun m => decide (m = k)) = 1 := by
  intro n
  induction n with
  | zero => intro h; omega
  | succ n ih =>
    intro h
    rw [List.range_succ, List.countP_append, List.countP_singleton]
    by_cases e : n = k
    · subst e
      rw [if_pos (decide_eq_true rfl), List.countP_eq_zero.mpr fun m hm => by
        have := List.mem_range.mp hm
        simp only [decide_eq_true_eq]
        omega]
    · rw [if_neg (by simpa using e), ih (by omega)]
theorem times_one {f : Fo} (ok : FoOk f) (hc : CutsOk f.ps.length cs) {p : Nat × Nat} (h : p ∈ pairsOf f.ps f.be f.as) : times (notesOf f.ps f.be f.as (lvs f.ps cs) f.ps.length) p = 1 := by
  obtain ⟨hb, ha, hr⟩ := pairsOf_mem.mp (show (p.1, p.2) ∈ pairsOf f.ps f.be f.as from h)
  have hj := ok.al p.2 ha
  obtain ⟨k, hk, hu⟩ := once (cs := cs) ok.ps hc hj hr
  unfold times notesOf
  rw [List.countP_filter, List.countP_map, ← countOne f.ps.length hk]
  refine List.countP_congr fun m hm => ?_
  have hm := List.mem_range.mp hm
  have e : (p.1 ∈ (noteAt f.ps f.be f.as (lvs f.ps cs) m).1 ∧ p.2 ∈ (noteAt f.ps f.be f.as (lvs f.ps cs) m).2) ↔ m = k := by
    rw [← hu m hm]
    unfold noteAt
    rw [List.mem_filter, List.mem_filter, held_mem ok.ps hm, decide_eq_true_iff, decide_eq_true_iff, ask_mem ok.ps hc hj]
    exact ⟨fun z => ⟨z.1.1, z.2.2⟩, fun z => ⟨⟨z.1, hb⟩, ha, z.2⟩⟩
  simp only [Function.comp, Bool.and_eq_true, decide_eq_true_eq]
  rw [← e]
  constructor
  · exact fun z => z.1
  · intro z
    refine ⟨z, ?_⟩
    have q : ∀ {l : List Nat} {x : Nat}, x ∈ l → (!l.isEmpty) = true := fun {l x} h => by cases l with | nil => cases h | cons _ _ => rfl
    exact ⟨q z.1, q z.2⟩
theorem notes_ok {f : Fo} (ok : FoOk f) (hc : CutsOk f.ps.length cs) : NotesOk (pairsOf f.ps f.be f.as) (notesOf f.ps f.be f.as (lvs f.ps cs) f.ps.length) := by
  have n60 := ok.l1
  refine ⟨?_, fun q hq => ?_⟩
  · unfold notesOf
    have := List.length_filter_le (fun p : List Nat × List Nat => !p.1.isEmpty && !p.2.isEmpty) ((List.range f.ps.length).map (noteAt f.ps f.be f.as (lvs f.ps cs)))
    rw [List.length_map, List.length_range] at this
    omega
  · unfold notesOf at hq
    obtain ⟨h1, h2⟩ := List.mem_filter.mp hq
    obtain ⟨k, hk, rfl⟩ := List.mem_map.mp h1
    have hk := List.mem_range.mp hk
    rw [Bool.and_eq_true] at h2
    have rl := road_len ok.ps k hk
    have q : ∀ {l : List Nat}, (!l.isEmpty) = true → l ≠ [] := fun {l} h e => by rw [e] at h; cases h
    have hh : (heldAt f.ps (lvs f.ps cs) k).Pairwise (· < ·) ∧ (heldAt f.ps (lvs f.ps cs) k).length ≤ 60 := by
      unfold heldAt
      split
      · exact ⟨road_asc ok.ps k hk, by omega⟩
      · exact ⟨(road_asc ok.ps k hk).drop, by rw [List.length_drop]; omega⟩
    refine ⟨hh.1.filter _, ok.as.filter _, q h2.1, q h2.2, Nat.le_trans (List.length_filter_le _ _) hh.2, Nat.le_trans (List.length_filter_le _ _) ?_, fun i hi j hj => ?_⟩
    · have := lotLen ok.as ok.al; omega
    · unfold noteAt at hi hj
      obtain ⟨a1, a2⟩ := List.mem_filter.mp hi
      obtain ⟨b1, b2⟩ := List.mem_filter.mp hj
      have hjl := ok.al j b1
      exact pairsOf_mem.mpr ⟨of_decide_eq_true a2, b1, rd_trans ok.ps j hjl ((held_mem ok.ps hk).mp a1).1 ((ask_mem ok.ps hc hjl).mp (of_decide_eq_true b2)).1⟩
theorem notes_single {f : Fo} (ok : FoOk f) (hc : CutsOk f.ps.length cs) : single (notesOf f.ps f.be f.as (lvs f.ps cs) f.ps.length) (pairsOf f.ps f.be f.as) = true := by
  unfold single keeps
  rw [Bool.and_eq_true, firstAll, firstAll]
  exact ⟨fun p hp => by rw [times_one ok hc hp]; rfl, fun p hp => by rw [times_one ok hc hp]; rfl⟩
end
end Cn
namespace Cn
open PySem PySem.Spec PyProof.Rows L2 Ck
section
variable {P : Program} {w : World} {K : PySem.W.Frag} {mg : Str → Option Value} {base : Heap} {C : Addr}
def spIsOver : Sp := fun vs H Q _ => ∃ (b : Addr) (ps : List (Option Nat)) (i j : Nat), vs = [.ref b, vn i, vn j] ∧ TP H b ps ∧ Ps ps ∧ ps.length ≤ 60 ∧ j < ps.length ∧ ∀ H', Same H H' → Q (.bl (decide (i ∈ road ps j))) H'
theorem scIsOver : FnScope ["_law_parents_here", "_law_one", "_law_other"] ["_law_parents_here", "_law_one", "_law_other"] (defScope sIsOver) := ⟨rfl, rfl, rfl, by decide +kernel, rfl, by decide +kernel, by decide +kernel⟩
theorem dIsOver (B : Defs K mg C) : Def P w K mg base "_law_is_over" 2 ["_law_parents_here", "_law_one", "_law_other"] spIsOver := by
  obtain ⟨fR, fdR, GR, gR, kR, bR⟩ := dRoad (P := P) (w := w) (base := base) B
  refine def_of B.io fun f fd F => ?_
  refine F.ok scIsOver (fun vs H Q E h => ?_) (fun cdv A outer s H vs Q E hr h => ?_)
  · obtain ⟨b, ps, i, j, rfl, _⟩ := h
    rfl
  · obtain ⟨b, ps, i, j, rfl, hb, hp, h60, hj, k⟩ := h
    refine ⟨_, pss_one (ps_ret (pe_cmpR op_in_seq (pv 1) (pe_call GR hr (by rfl) gR kR bR .nil pass0 (pa_cons (pv 0) (pa_cons (pv 2) pa_nil))) (by rfl))), ?_⟩
    refine ⟨_, rfl, _, rfl, _, rfl, b, ps, j, rfl, hb, hp, h60, hj, fun r H1 s1 hr1 => ⟨r, _, rfl, .inr (tnL hr1), rfl, vn_flat _, ?_⟩⟩
    show Q (.bl (inV (vn i) ((road ps j).map vn))) H1
    rw [inV_vn]
    exact k H1 s1
end
end Cn
namespace Cn
open PySem PySem.Spec PyProof.Rows L2 Ck
/-! a piece cut at a place -/
def LLs (H : Hp) (us : List V) (xss : List (List Nat)) : Prop := Paired (fun v xs => ∃ t, v = V.ref t ∧ H t = some (.lst (xs.map vn))) us xss
theorem llsSame {H H' : Hp} (s : Same H H') {us : List V} {xss : List (List Nat)} (h : LLs H us xss) : LLs H' us xss := Paired.mapP h fun _ _ ⟨t, e, z⟩ => ⟨t, e, s _ _ z⟩
section
variable {P : Program} {w : World} {K : PySem.W.Frag} {mg : Str → Option Value} {base : Heap} {C : Addr}
def spCut : Sp := fun vs H Q _ => ∃ (b pc : Addr) (ps : List (Option Nat)) (ns : List Nat) (x : Nat), vs = [.ref b, .ref pc, vn x] ∧ TP H b ps ∧ Ps ps ∧ ps.length ≤ 60 ∧ H pc = some (.lst (ns.map vn)) ∧ (∀ y ∈ ns, y < ps.length) ∧ ns.length ≤ 60 ∧ x < ps.length ∧
  ∀ r us H', Same H H' → H' r = some (.lst us) → LLs H' us (cutL ps ns x) → Q (.ref r) H'
def nCut : List Str := ["_law_parents_here", "_law_piece", "_law_place", "_law_under_it", "_law_found", "_law_child", "_law_one", "_law_some_here"]
theorem scCut : FnScope nCut ["_law_parents_here", "_law_piece", "_law_place"] (defScope sCut) := ⟨rfl, rfl, rfl, by decide +kernel, rfl, by decide +kernel, by decide +kernel⟩
theorem dCut (B : Defs K mg C) : Def P w K mg base "_law_cut" 3 ["_law_parents_here", "_law_piece", "_law_place"] spCut := by
  obtain ⟨fO, fdO, GO, gO, kO, bO⟩ := dIsOver (P := P) (w := w) (base := base) B
  have N := B.N
  refine def_of B.cut fun f fd F => ?_
  refine F.ok scCut (fun vs H Q E h => ?_) (fun cdv A outer s H vs Q E hr h => ?_)
  · obtain ⟨b, pc, ps, ns, x, rfl, _⟩ := h
    rfl
  · obtain ⟨b, pc, ps, ns, x, rfl, hb, hp, h60, hpc, hns, hnl, hx, k⟩ := h
    have nd := scCut.nd
    refine ⟨_, pss_cons (ps_set (i := 3) nd rfl (Or.inr rfl) (pe_lc (own := [("_law_one", 6)]) (g := gName 6) (tt := tB (tCall spIsOver [] (fun _ _ _ => False) (tCons (tVar 0) (tCons (tVar 2) (tCons (tVar 6) tNil))))) (te := tVar 6) rfl nd (pi_list (pv 1))
          (blkOk_by (N := nCut) (sc := defScope sCut) (by decide +kernel)) (fun _ _ _ _ _ => pg_name (i := 6) nd rfl (Or.inl rfl)) (fun _ _ _ _ _ => pts_one (pt_val (pe_call GO hr (by rfl) gO kO bO .nil pass0 (pa_cons (pv 0) (pa_cons (pv 2) (pa_cons (pv 6) pa_nil)))))) (fun _ _ _ _ _ => pv 6)))
      (pss_cons (ps_set (i := 4) nd rfl (Or.inl rfl) (pe_lst (pa_cons (pe_lc (own := [("_law_one", 6)]) (g := gName 6) (tt := tTest (tOp (rIn K true) (tVar 6) (tVar 3))) (te := tVar 6) rfl nd (pi_list (pv 1))
          (blkOk_by (N := nCut) (sc := defScope sCut) (by decide +kernel)) (fun _ _ _ _ _ => pg_name (i := 6) nd rfl (Or.inl rfl)) (fun _ _ _ _ _ => pts_one (pt_cmpR op_notIn_seq (pv 6) (pv 3) (by rfl))) (fun _ _ _ _ _ => pv 6)) pa_nil)))
      (pss_cons (ps_for PassesOwn.never rfl (pi_list (pe_lc (own := [("_law_one", 6)]) (g := gName 6) (tt := tTest (tOp rEq (tOp (rIxT K) (tVar 0) (tVar 6)) (tVar 2))) (te := tVar 6) rfl nd (pi_list (pv 3))
          (blkOk_by (N := nCut) (sc := defScope sCut) (by decide +kernel)) (fun _ _ _ _ _ => pg_name (i := 6) nd rfl (Or.inl rfl)) (fun _ _ _ _ _ => pts_one (pt_cmpR op_eq (pe_ix (r := rIxT K) ix_tup (pv 0) (pv 6) (fun _ _ => rfl)) (pv 2) (nomark _))) (fun _ _ _ _ _ => pv 6))) (pg_name (i := 5) nd rfl (Or.inr rfl))
        (pss_one (ps_expr (pe_bm PySem.F.plainAttrs_list PySem.F.slot_list_append PySem.F.type_list_append mt_append (pv 4) (pa_cons (pe_lc (own := [("_law_one", 6)]) (g := gName 6) (tt := tB (tCall spIsOver [] (fun _ _ _ => False) (tCons (tVar 0) (tCons (tVar 5) (tCons (tVar 6) tNil))))) (te := tVar 6) rfl nd (pi_list (pv 3))
          (blkOk_by (N := nCut) (sc := defScope sCut) (by decide +kernel)) (fun _ _ _ _ _ => pg_name (i := 6) nd rfl (Or.inl rfl)) (fun _ _ _ _ _ => pts_one (pt_val (pe_call GO hr (by rfl) gO kO bO .nil pass0 (pa_cons (pv 0) (pa_cons (pv 5) (pa_cons (pv 6) pa_nil)))))) (fun _ _ _ _ _ => pv 6)) pa_nil)))))
      (pss_one (ps_ret (pe_lc (own := [("_law_some_here", 7)]) (g := gName 7) (tt := tTest (tOp (rI0 fun i j => .bl (decide (j < i))) (tCB (rLenQ K) (tCons (tVar 7) tNil)) (tC (.int 0)))) (te := tVar 7) rfl nd (pi_list (pv 4))
          (blkOk_by (N := nCut) (sc := defScope sCut) (by decide +kernel)) (fun _ _ _ _ _ => pg_name (i := 7) nd rfl (Or.inl rfl)) (fun _ _ _ _ _ => pts_one (pt_cmpR op_gt (pe_callB (r := rLenQ K) len_q (by rfl) N.is.len PySem.boot_len (pa_cons (pv 7) pa_nil)) pe_int (nomark _))) (fun _ _ _ _ _ => pv 7)))))), ?_⟩
    refine ⟨_, rfl, pc, rfl, ⟨_, .inl (.inl hpc)⟩, fun U nU => ?_⟩
    refine lc_list (xs := (ns).map vn) (fun m H' => Same H H' ∧ H' U = some (.lst ((((ns).take m).filter (fun y => decide (x ∈ road ps y))).map vn))) ⟨smUpd nU, upd_same⟩ (fun m H' _ z => .inl (.inl (z.1 _ _ hpc))) ?_ ?_
    · rintro m v H' hv ⟨sm, hD⟩
      obtain ⟨y, hy, rfl⟩ := vn_get hv
      have hym := List.mem_of_getElem? hy
      have et := filterTake (c := (fun y => decide (x ∈ road ps y))) hy
      have fl : (((ns).take m).filter (fun y => decide (x ∈ road ps y))).length ≤ 60 := by
        have q1 := List.length_filter_le (fun y => decide (x ∈ road ps y)) ((ns).take m)
        have q2 : ((ns).take m).length ≤ (ns).length := by rw [List.length_take]; omega
        have q3 : (ns).length ≤ 60 := hnl
        omega
      refine ⟨rfl, _, rfl, _, rfl, _, rfl, b, ps, x, y, rfl, sm _ _ hb, hp, h60, hns y hym, fun H2 s2 => ⟨_, rfl, ?_⟩⟩
      by_cases c : ((fun y => decide (x ∈ road ps y))) y = true
      · refine ifT (c) ?_
        refine ⟨_, rfl, _, s2 _ _ hD, small1000 (by rw [List.length_map]; omega), smOver nU (sm.trans s2), ?_⟩
        rw [upd_same, et, if_pos c, List.map_append]
        rfl
      · refine ifF (c) ⟨sm.trans s2, ?_⟩
        rw [et, if_neg c, List.append_nil]
        exact s2 _ _ hD
    rintro H1 ⟨s1, hU⟩
    rw [List.length_map, List.take_length] at hU
    obtain ⟨un, eun⟩ : ∃ un, un = ns.filter fun y => decide (x ∈ road ps y) := ⟨_, rfl⟩
    rw [← eun] at hU
    have unm : ∀ y ∈ un, y < ps.length := fun y hy => hns y (List.mem_filter.mp (eun ▸ hy)).1
    have unl : un.length ≤ 60 := by rw [eun]; exact Nat.le_trans (List.length_filter_le _ _) hnl
    refine ⟨_, rfl, pc, rfl, ⟨_, .inl (.inl (s1 _ _ hpc))⟩, fun R nR => ?_⟩
    refine lc_list (xs := (ns).map vn) (fun m H' => Same H1 H' ∧ H' R = some (.lst ((((ns).take m).filter (fun y => !decide (y ∈ un))).map vn))) ⟨smUpd nR, upd_same⟩ (fun m H' _ z => .inl (.inl (z.1 _ _ (s1 _ _ hpc)))) ?_ ?_
    · rintro m v H' hv ⟨sm, hD⟩
      obtain ⟨y, hy, rfl⟩ := vn_get hv
      have hym := List.mem_of_getElem? hy
      have et := filterTake (c := (fun y => !decide (y ∈ un))) hy
      have fl : (((ns).take m).filter (fun y => !decide (y ∈ un))).length ≤ 60 := by
        have q1 := List.length_filter_le (fun y => !decide (y ∈ un)) ((ns).take m)
        have q2 : ((ns).take m).length ≤ (ns).length := by rw [List.length_take]; omega
        have q3 : (ns).length ≤ 60 := hnl
        omega
      have s2 : Same H' H' := Same.refl _
      refine ⟨rfl, _, rfl, _, rfl, U, _, rfl, .inl (.inl (.inl (sm _ _ hU))), rfl, vn_flat _, _, rfl, ?_⟩
      by_cases c : ((fun y => !decide (y ∈ un))) y = true
      · refine ifT (by show (!inV (vn y) (un.map vn)) = true; rw [inV_vn]; exact c) ?_
        refine ⟨_, rfl, _, s2 _ _ hD, small1000 (by rw [List.length_map]; omega), smOver nR (sm.trans s2), ?_⟩
        rw [upd_same, et, if_pos c, List.map_append]
        rfl
      · refine ifF (by show ¬ (!inV (vn y) (un.map vn)) = true; rw [inV_vn]; exact c) ⟨sm.trans s2, ?_⟩
        rw [et, if_neg c, List.append_nil]
        exact s2 _ _ hD
    rintro H2 ⟨s2, hR⟩
    rw [List.length_map, List.take_length] at hR
    have hU2 := s2 _ _ hU
    refine ⟨by show 1 ≤ sizeLine; decide, fun F nF => ?_⟩
    have S2 := s1.trans s2
    have S3 := S2.trans (smUpd (o := .lst [.ref R]) nF)
    have t3 := smUpd (o := .lst [.ref R]) nF
    have hU3 := t3 _ _ hU2
    have hR3 := t3 _ _ hR
    have hF3 : upd H2 F (.lst [.ref R]) F = some (.lst [.ref R]) := upd_same
    have neF : R ≠ F := fun z => by rw [z, nF] at hR; cases hR
    generalize upd H2 F (.lst [.ref R]) = H3 at S3 t3 hU3 hR3 hF3 ⊢
    refine ⟨_, rfl, U, rfl, ⟨_, .inl (.inl hU3)⟩, fun Ch nCh => ?_⟩
    refine lc_list (xs := (un).map vn) (fun m H' => Same H3 H' ∧ H' Ch = some (.lst ((((un).take m).filter (fun y => decide (ps[y]? = some (some x)))).map vn))) ⟨smUpd nCh, upd_same⟩ (fun m H' _ z => .inl (.inl (z.1 _ _ hU3))) ?_ ?_
    · rintro m v H' hv ⟨sm, hD⟩
      obtain ⟨y, hy, rfl⟩ := vn_get hv
      have hym := List.mem_of_getElem? hy
      have et := filterTake (c := (fun y => decide (ps[y]? = some (some x)))) hy
      have fl : (((un).take m).filter (fun y => decide (ps[y]? = some (some x)))).length ≤ 60 := by
        have q1 := List.length_filter_le (fun y => decide (ps[y]? = some (some x))) ((un).take m)
        have q2 : ((un).take m).length ≤ (un).length := by rw [List.length_take]; omega
        have q3 : (un).length ≤ 60 := unl
        omega
      obtain ⟨q, hq⟩ := ps_at (unm y hym)
      have s2 : Same H' H' := Same.refl _
      have eqq : decide (vp q = vn x) = decide (ps[y]? = some (some x)) := by
        rw [hq, Bool.eq_iff_iff, decide_eq_true_iff, decide_eq_true_iff]
        cases q with
        | none => exact ⟨fun z => (by cases z), fun z => (by cases z)⟩
        | some p => exact ⟨fun z => by have : p = x := by have := V.int.inj z; omega
                                       rw [this], fun z => by cases z; rfl⟩
      refine ⟨rfl, _, rfl, _, rfl, b, _, (y : Int), _, rfl, rfl, tpL (sm _ _ (S3 _ _ hb)), vp_ix hq, _, rfl, by cases q <;> rfl, _, rfl, ?_⟩
      rw [eqq]
      by_cases c : ((fun y => decide (ps[y]? = some (some x)))) y = true
      · refine ifT (c) ?_
        refine ⟨_, rfl, _, s2 _ _ hD, small1000 (by rw [List.length_map]; omega), smOver nCh (sm.trans s2), ?_⟩
        rw [upd_same, et, if_pos c, List.map_append]
        rfl
      · refine ifF (c) ⟨sm.trans s2, ?_⟩
        rw [et, if_neg c, List.append_nil]
        exact s2 _ _ hD
    rintro H4 ⟨s4, hCh⟩
    rw [List.length_map, List.take_length] at hCh
    obtain ⟨chs, ech⟩ : ∃ chs, chs = un.filter fun y => decide (ps[y]? = some (some x)) := ⟨_, rfl⟩
    rw [← ech] at hCh
    have chl : chs.length ≤ 60 := by rw [ech]; exact Nat.le_trans (List.length_filter_le _ _) unl
    refine ⟨Ch, rfl, ⟨_, .inl (.inl hCh)⟩, ?_⟩
    have t4 := t3.trans s4
    have hCh0 : ∀ {G : Hp}, Same H2 G → G U = some (.lst (un.map vn)) := fun s => s _ _ hU2
    have nChF : Ch ≠ F := fun z => by rw [z, hF3] at nCh; cases nCh
    refine for_list (K := K) (a := Ch) (xs := chs.map vn) (fun m σ H' => ∃ (t5 : Option V) (us : List V), σ = [some (.ref b), some (.ref pc), some (vn x), some (.ref U), some (.ref F), t5, none, none] ∧ Same H2 H' ∧ H' Ch = some (.lst (chs.map vn)) ∧ H' F = some (.lst us) ∧ us.length = m + 1 ∧
      Paired (fun v xs => ∃ t, t ≠ F ∧ v = V.ref t ∧ H' t = some (.lst (xs.map vn))) us ((ns.filter fun y => !decide (y ∈ un)) :: (chs.take m).map fun c => un.filter fun y => decide (c ∈ road ps y))) ⟨none, [.ref R], rfl, t4, hCh, s4 _ _ hF3, rfl, .cons ⟨R, neF, rfl, s4 _ _ hR3⟩ .nil⟩ (fun m σ H' _ ⟨_, _, _, _, z, _⟩ => .inl (.inl z)) ?_ ?_
    · rintro m v σ H5 hv ⟨t5, us, rfl, s5, hCh5, hF5, hul, hP⟩
      obtain ⟨ch, hc, rfl⟩ := vn_get hv
      have hml := (List.getElem?_eq_some_iff.mp hc).1
      have hU5 := s5 _ _ hU2
      have S5 := S2.trans s5
      refine ⟨_, rfl, .inl ⟨rfl, _, .inl (.inl hF5)⟩, _, rfl, U, rfl, ⟨_, .inl (.inl hU5)⟩, fun E nE => ?_⟩
      refine lc_list (xs := (un).map vn) (fun m H' => Same H5 H' ∧ H' E = some (.lst ((((un).take m).filter (fun y => decide (ch ∈ road ps y))).map vn))) ⟨smUpd nE, upd_same⟩ (fun m H' _ z => .inl (.inl (z.1 _ _ hU5))) ?_ ?_
      · rintro m v H' hv ⟨sm, hD⟩
        obtain ⟨y, hy, rfl⟩ := vn_get hv
        have hym := List.mem_of_getElem? hy
        have et := filterTake (c := (fun y => decide (ch ∈ road ps y))) hy
        have fl : (((un).take m).filter (fun y => decide (ch ∈ road ps y))).length ≤ 60 := by
          have q1 := List.length_filter_le (fun y => decide (ch ∈ road ps y)) ((un).take m)
          have q2 : ((un).take m).length ≤ (un).length := by rw [List.length_take]; omega
          have q3 : (un).length ≤ 60 := unl
          omega
        refine ⟨rfl, _, rfl, _, rfl, _, rfl, b, ps, ch, y, rfl, sm _ _ (S5 _ _ hb), hp, h60, unm y hym, fun H2 s2 => ⟨_, rfl, ?_⟩⟩
        by_cases c : ((fun y => decide (ch ∈ road ps y))) y = true
        · refine ifT (c) ?_
          refine ⟨_, rfl, _, s2 _ _ hD, small1000 (by rw [List.length_map]; omega), smOver nE (sm.trans s2), ?_⟩
          rw [upd_same, et, if_pos c, List.map_append]
          rfl
        · refine ifF (c) ⟨sm.trans s2, ?_⟩
          rw [et, if_neg c, List.append_nil]
          exact s2 _ _ hD
      rintro H6 ⟨s6, hE⟩
      rw [List.length_map, List.take_length] at hE
      have neE : E ≠ F := fun z => by rw [z, hF5] at nE; cases nE
      refine ⟨F, us, _, rfl, rfl, s6 _ _ hF5, small1000 (by omega), ?_⟩
      refine ⟨_, us ++ [.ref E], rfl, smOver nF (s5.trans s6), by rw [upd_ne nChF]; exact s6 _ _ hCh5, upd_same, by rw [List.length_append, hul]; rfl, ?_⟩
      rw [take_at hc, List.map_append]
      exact Paired.mapP (pairedSnoc (Paired.mapP hP fun _ _ ⟨t, n, e, z⟩ => (⟨t, n, e, s6 _ _ z⟩ : ∃ t, t ≠ F ∧ _ = V.ref t ∧ H6 t = some (HO.lst _))) ⟨E, neE, rfl, hE⟩) fun _ _ ⟨t, n, e, z⟩ => ⟨t, n, e, (upd_ne n).trans z⟩
    · rintro σ H5 ⟨t5, us, rfl, s5, hCh5, hF5, hul, hP⟩
      rw [List.length_map, List.take_length] at hP
      rw [List.length_map] at hul
      refine ⟨_, rfl, F, rfl, ⟨_, .inl (.inl hF5)⟩, fun D nD => ?_⟩
      obtain ⟨all, eal⟩ : ∃ all, all = (ns.filter fun y => !decide (y ∈ un)) :: chs.map fun c => un.filter fun y => decide (c ∈ road ps y) := ⟨_, rfl⟩
      rw [← eal] at hP
      have hP5 : LLs H5 us all := Paired.mapP hP fun _ _ ⟨t, _, e, z⟩ => ⟨t, e, z⟩
      refine lc_list (xs := us) (fun m H' => Same H5 H' ∧ ∃ zs, H' D = some (.lst zs) ∧ zs.length ≤ m ∧ LLs H5 zs ((all.take m).filter fun l => !l.isEmpty)) ⟨smUpd nD, [], upd_same, Nat.zero_le _, .nil⟩ (fun m H' _ z => .inl (.inl (z.1 _ _ hF5))) ?_ ?_
      · rintro m v H' hv ⟨sm, zs, hD, hzl, hZ⟩
        have hml := (List.getElem?_eq_some_iff.mp hv).1
        obtain ⟨l, hl, t, rfl, ht⟩ := pairedGetQ hP5 hv
        have et := filterTake (c := fun l : List Nat => !l.isEmpty) hl
        refine ⟨rfl, _, rfl, t, _, rfl, .inl (.inl (.inl (sm _ _ ht))), _, _, rfl, rfl, _, rfl, ?_⟩
        have ec : decide ((0 : Int) < ((l.map vn).length : Int)) = !l.isEmpty := by
          cases l with
          | nil => rfl
          | cons a l => rw [List.map_cons, List.length_cons]; exact decide_eq_true (by omega)
        rw [ec]
        by_cases c : (!l.isEmpty) = true
        · refine ifT c ?_
          refine ⟨_, rfl, zs, hD, small1000 (by omega), smOver nD sm, _, upd_same, by rw [List.length_append]; show zs.length + 1 ≤ m + 1; omega, ?_⟩
          rw [et, if_pos c]
          exact pairedSnoc hZ ⟨t, rfl, ht⟩
        · refine ifF c ⟨sm, zs, hD, by omega, ?_⟩
          rw [et, if_neg c, List.append_nil]
          exact hZ
      · rintro H6 ⟨s6, zs, hD, hzl, hZ⟩
        rw [show us.length = all.length from Paired.length hP, List.take_length] at hZ
        refine k D zs H6 (S2.trans (s5.trans s6)) hD ?_
        have e : cutL ps ns x = all.filter fun l => !l.isEmpty := by
          unfold cutL
          rw [eal, ech, eun]
        rw [e]
        exact llsSame s6 hZ
end
end Cn
namespace Cn
open PySem PySem.Spec PyProof.Rows L2 Ck
/-! the law's own cutting -/
theorem llsUpd {H' : Hp} {D : Addr} {o u : HO} {us : List V} {xss : List (List Nat)} (hD : H' D = some u) (hu : ∀ ys, u ≠ .lst ys) (h : LLs H' us xss) : LLs (upd H' D o) us xss := Paired.mapP h fun _ _ ⟨t, e, z⟩ =>
  ⟨t, e, (upd_ne fun q => by rw [q, hD] at z; exact hu _ (Option.some.inj z)).trans z⟩
theorem noteUpd2 {H' : Hp} {D : Addr} {o u : HO} {v : V} {q : List Nat × List Nat} (hD : H' D = some u) (hu : ∀ ys, u ≠ .tup ys) (h : NoteR H' v q) : NoteR (upd H' D o) v q := by
  obtain ⟨t, x, y, e, h1, h2, h3⟩ := h
  have ne : ∀ {a : Addr} {ys : List V}, H' a = some (.tup ys) → upd H' D o a = some (.tup ys) := fun {a ys} e2 => (upd_ne fun q => by rw [q, hD] at e2; exact hu _ (Option.some.inj e2)).trans e2
  exact ⟨t, x, y, e, ne h1, ne h2, ne h3⟩
/-- what was found so far, by the places cut -/
def FoundR (H : Hp) (nt : Nat → List Nat × List Nat) (kvs : List (L2.Key × V)) (ks : List Nat) : Prop := Paired (fun kv k => kv.1 = Sum.inl ((k : Nat) : Int) ∧ NoteR H kv.2 (nt k)) kvs ks
theorem foundSame {H H' : Hp} (s : Same H H') {nt : Nat → List Nat × List Nat} {kvs : List (L2.Key × V)} {ks : List Nat} (h : FoundR H nt kvs ks) : FoundR H' nt kvs ks := Paired.mapP h fun _ _ ⟨e, z⟩ => ⟨e, noteSame s z⟩
theorem found_none {H : Hp} {nt : Nat → List Nat × List Nat} {k : Nat} : ∀ {kvs : List (L2.Key × V)} {ks : List Nat}, FoundR H nt kvs ks → k ∉ ks → (kvs.any fun kv => decide (kv.1 = (Sum.inl ((k : Nat) : Int) : L2.Key))) = false
  | _, _, .nil, _ => rfl
  | _, _, .cons (a := kv) (b := j) ⟨e, _⟩ t, h => by
    rw [List.any_cons, found_none t (fun z => h (List.mem_cons_of_mem _ z)), Bool.or_false]
    refine decide_eq_false fun z => h ?_
    rw [e] at z
    have : ((j : Nat) : Int) = ((k : Nat) : Int) := Sum.inl.inj z
    have : j = k := by omega
    rw [this]
    exact List.mem_cons_self
theorem found_put {H : Hp} {nt : Nat → List Nat × List Nat} {k : Nat} {kvs : List (L2.Key × V)} {ks : List Nat} {v : V} (h : FoundR H nt kvs ks) (hk : k ∉ ks) : putK kvs (Sum.inl ((k : Nat) : Int) : L2.Key) v = kvs ++ [(Sum.inl ((k : Nat) : Int), v)] := by
  unfold putK
  rw [found_none h hk, if_neg Bool.false_ne_true]
theorem found_get {H : Hp} {nt : Nat → List Nat × List Nat} {k : Nat} : ∀ {kvs : List (L2.Key × V)} {ks : List Nat}, FoundR H nt kvs ks → k ∈ ks → ∃ v, valV kvs (Sum.inl ((k : Nat) : Int) : L2.Key) = some v ∧ NoteR H v (nt k)
  | _, _, .nil, h => by cases h
  | _, _, .cons (a := kv) (b := j) ⟨e, z⟩ t, h => by
    by_cases c : j = k
    · subst c
      exact ⟨kv.2, valV_pos e, z⟩
    · obtain ⟨v, h1, h2⟩ := found_get t ((List.mem_cons.mp h).resolve_left fun q => c q.symm)
      refine ⟨v, ?_, h2⟩
      rw [valV_neg (fun q => c ?_)]
      · exact h1
      · rw [e] at q
        have : ((j : Nat) : Int) = ((k : Nat) : Int) := Sum.inl.inj q
        omega
theorem found_keys {H : Hp} {nt : Nat → List Nat × List Nat} : ∀ {kvs : List (L2.Key × V)} {ks : List Nat}, FoundR H nt kvs ks → (kvs.map fun kv => kV kv.1) = (ks.map fun n => ((n : Nat) : Int)).map V.int
  | _, _, .nil => rfl
  | _, _, .cons (a := kv) ⟨e, _⟩ t => by
    rw [List.map_cons, List.map_cons, List.map_cons, found_keys t, e]
    rfl
theorem sortedNat {ks xs : List Nat} {zs : List Int} (nd : ks.Nodup) (hx : xs.Pairwise (· < ·)) (hm : ∀ x, x ∈ ks ↔ x ∈ xs) (hp : zs.Perm (ks.map fun k => ((k : Nat) : Int))) (hs : zs.Pairwise (· ≤ ·)) : zs = xs.map fun k => ((k : Nat) : Int) := by
  have h1 : ks.Perm xs := (List.perm_ext_iff_of_nodup nd (nd_asc hx)).mpr hm
  refine List.Perm.eq_of_pairwise (le := (· ≤ ·)) (fun a b _ _ p q => Int.le_antisymm p q) hs ?_ (hp.trans (h1.map _))
  rw [List.pairwise_map]
  exact hx.imp fun h => by omega
theorem root_comp {ps : List (Option Nat)} (hp : Ps ps) {r : Nat} (hr : ps[r]? = some none) : comp ps [] r = (List.range ps.length).filter fun y => decide (r ∈ road ps y) := by
  unfold comp
  refine List.filter_congr fun y hy => ?_
  have hyl := List.mem_range.mp hy
  rw [Bool.eq_iff_iff]
  simp only [Bool.and_eq_true, decide_eq_true_eq]
  constructor
  · rintro ⟨_, t⟩
    rw [← t]
    exact top_road hp y hyl
  · intro h
    refine ⟨List.not_mem_nil, ?_⟩
    rw [top_same hp y hyl h fun z _ _ _ => List.not_mem_nil, top_none hr]
theorem root_tops {ps : List (Option Nat)} (hp : Ps ps) : Tops ps [] ((List.range ps.length).filter fun r => decide (ps[r]? = some none)) := by
  refine ⟨List.nodup_range.filter _, fun r => ?_⟩
  rw [List.mem_filter, List.mem_range, decide_eq_true_iff]
  constructor
  · rintro ⟨h1, h2⟩
    exact ⟨h1, List.not_mem_nil, top_none h2⟩
  · rintro ⟨h1, _, h3⟩
    refine ⟨h1, ?_⟩
    rcases opt_cases h1 with e | ⟨p, e⟩
    · exact e
    · rw [top_up hp e List.not_mem_nil] at h3
      have hl := hp r p e
      have := road_le hp p (Nat.lt_trans hl h1) _ (top_road (cut := []) hp p (Nat.lt_trans hl h1))
      omega
theorem tops_len {ps : List (Option Nat)} {cut rs : List Nat} (T : Tops ps cut rs) : rs.length ≤ ps.length := by
  have h : rs.Subset (List.range ps.length) := fun r hr => List.mem_range.mpr ((T.mem r).mp hr).1
  have := T.nd.length_le_of_subset h
  rwa [List.length_range] at this
section
variable {P : Program} {w : World} {K : PySem.W.Frag} {mg : Str → Option Value} {base : Heap} {C : Addr}
def spCutting : Sp := fun vs H Q _ => ∃ (r b : Addr) (f : Fo) (cs : List Nat), vs = [.ref r, .ref b] ∧ TolR H r f ∧ FoOk f ∧ TDn H b cs ∧ CutsOk f.ps.length cs ∧
  ∀ t us H', Same H H' → H' t = some (.tup us) → NotesR H' us (notesOf f.ps f.be f.as (lvs f.ps cs) f.ps.length) → Q (.ref t) H'
def nCutting : List Str := ["_law_told_here", "_law_cuts", "_law_parents_here", "_law_bearing", "_law_asking", "_law_pieces", "_law_place", "_law_one", "_law_found", "_law_number", "_law_at", "_law_over", "_law_asks"]
theorem scCutting : FnScope nCutting ["_law_told_here", "_law_cuts"] (defScope sCutting) := ⟨rfl, rfl, rfl, by decide +kernel, rfl, by decide +kernel, by decide +kernel⟩
theorem dCutting (B : Defs K mg C) : Def P w K mg base "_law_cutting" 4 ["_law_told_here", "_law_cuts"] spCutting := by
  obtain ⟨fO, fdO, GO, gO, kO, bO⟩ := dIsOver (P := P) (w := w) (base := base) B
  obtain ⟨fC, fdC, GC, gC, kC, bC⟩ := dCut (P := P) (w := w) (base := base) B
  have N := B.N
  refine def_of B.ctg fun f fd F => ?_
  refine F.ok scCutting (fun vs H Q E h => ?_) (fun cdv A outer s H vs Q E hr h => ?_)
  · obtain ⟨r, b, f, cs, rfl, _⟩ := h
    rfl
  · obtain ⟨r, b, fo, cs, rfl, hT, ok, hb, hc, k⟩ := h
    have h2 : Room 2 (A.deeper (envOfC "_law_cutting" (defScope sCutting) s.heap.objs.size f cdv)) := Room.mono hr (by decide)
    have hu : (A.deeper (envOfC "_law_cutting" (defScope sCutting) s.heap.objs.size f cdv)).units + 1 < cLine := by have := hr.units; omega
    have nd := scCutting.nd
    refine ⟨_, pss_cons (ps_asg (pv 0) (pg_tup rfl (pgs_cons (pg_name (i := 2) nd rfl (Or.inr rfl)) (pgs_cons (pg_name (i := 3) nd rfl (Or.inr rfl)) (pgs_cons (pg_name (i := 4) nd rfl (Or.inr rfl)) pgs_nil)))))
      (pss_cons (ps_set (i := 5) nd rfl (Or.inr rfl) (pe_lst pa_nil))
      (pss_cons (ps_for PassesOwn.never rfl (pi_range1 (by rfl) N.range (pa_cons (pe_callB call_len_seq (by rfl) N.is.len PySem.boot_len (pa_cons (pv 2) pa_nil)) pa_nil)) (pg_name (i := 6) nd rfl (Or.inr rfl)) (pss_one (ps_if (pt_cmpR op_isN (pe_ix ix_tup (pv 2) (pv 6) (fun _ _ => rfl)) pe_non (nomark _)) (pss_one (ps_expr (pe_bm PySem.F.plainAttrs_list PySem.F.slot_list_append PySem.F.type_list_append mt_append (pv 5) (pa_cons (pe_lc (own := [("_law_one", 7)]) (g := gName 7) (tt := tB (tCall spIsOver [] (fun _ _ _ => False) (tCons (tVar 2) (tCons (tVar 6) (tCons (tVar 7) tNil))))) (te := tVar 7) rfl nd (pi_range1 (by rfl) N.range (pa_cons (pe_callB call_len_seq (by rfl) N.is.len PySem.boot_len (pa_cons (pv 2) pa_nil)) pa_nil)) (blkOk_by (N := nCutting) (sc := defScope sCutting) (by decide +kernel)) (fun _ _ _ _ _ => (pg_name (i := 7) nd rfl (Or.inl rfl))) (fun _ _ _ _ _ => pts_one (pt_val (pe_call GO h2 (by rfl) gO kO bO .nil pass0 (pa_cons (pv 2) (pa_cons (pv 6) (pa_cons (pv 7) pa_nil)))))) (fun _ _ _ _ _ => pv 7)) pa_nil)))) pss_nil)))
      (pss_cons (ps_set (i := 8) nd rfl (Or.inr rfl) pe_dnewK)
      (pss_cons (ps_for PassesOwn.never rfl (pi_tup (pv 1)) (pg_name (i := 6) nd rfl (Or.inr rfl)) (pss_cons (ps_set (i := 10) nd rfl (Or.inl rfl) (pe_ix (r := rIxL K) ix_list (pe_lc (own := [("_law_number", 9)]) (g := gName 9) (tt := tTest (tOp (rIn K false) (tVar 6) (tOp (rIxL K) (tVar 5) (tVar 9)))) (te := tVar 9) rfl nd (pi_range1 (by rfl) N.range (pa_cons (pe_callB call_len_seq (by rfl) N.is.len PySem.boot_len (pa_cons (pv 5) pa_nil)) pa_nil)) (blkOk_by (N := nCutting) (sc := defScope sCutting) (by decide +kernel)) (fun _ _ _ _ _ => (pg_name (i := 9) nd rfl (Or.inl rfl))) (fun _ _ _ _ _ => pts_one (pt_cmpR op_in_seq (pv 6) (pe_ix (r := rIxL K) ix_list (pv 5) (pv 9) (fun _ _ => rfl)) (by rfl))) (fun _ _ _ _ _ => pv 9)) pe_int (fun _ _ => rfl)))
        (pss_cons (ps_set (i := 11) nd rfl (Or.inl rfl) (pe_callTy call_tuple_of (by rfl) N.is.tup (by decide +kernel) (pa_cons (pe_lc (own := [("_law_one", 7)]) (g := gName 7) (tt := tAnd (tTest (tOp (rIn K false) (tVar 7) (tVar 3))) (tB (tCall spIsOver [] (fun _ _ _ => False) (tCons (tVar 2) (tCons (tVar 7) (tCons (tVar 6) tNil)))))) (te := tVar 7) rfl nd (pi_list (pe_ix (r := rIxL K) ix_list (pv 5) (pv 10) (fun _ _ => rfl))) (blkOk_by (N := nCutting) (sc := defScope sCutting) (by decide +kernel)) (fun _ _ _ _ _ => (pg_name (i := 7) nd rfl (Or.inl rfl))) (fun _ _ _ _ _ => pts_one (PW.pt (pw_and (pt_cmpR op_in_seq (pv 7) (pv 3) (by rfl)) (pw_and1 (pt_val (pe_call GO h2 (by rfl) gO kO bO .nil pass0 (pa_cons (pv 2) (pa_cons (pv 7) (pa_cons (pv 6) pa_nil))))))))) (fun _ _ _ _ _ => pv 7)) pa_nil)))
        (pss_cons (ps_set (i := 12) nd rfl (Or.inl rfl) (pe_callTy call_tuple_of (by rfl) N.is.tup (by decide +kernel) (pa_cons (pe_lc (own := [("_law_one", 7)]) (g := gName 7) (tt := tAnd (tTest (tOp (rIn K false) (tVar 7) (tVar 4))) (tB (tCall spIsOver [] (fun _ _ _ => False) (tCons (tVar 2) (tCons (tVar 6) (tCons (tVar 7) tNil)))))) (te := tVar 7) rfl nd (pi_list (pe_ix (r := rIxL K) ix_list (pv 5) (pv 10) (fun _ _ => rfl))) (blkOk_by (N := nCutting) (sc := defScope sCutting) (by decide +kernel)) (fun _ _ _ _ _ => (pg_name (i := 7) nd rfl (Or.inl rfl))) (fun _ _ _ _ _ => pts_one (PW.pt (pw_and (pt_cmpR op_in_seq (pv 7) (pv 4) (by rfl)) (pw_and1 (pt_val (pe_call GO h2 (by rfl) gO kO bO .nil pass0 (pa_cons (pv 2) (pa_cons (pv 6) (pa_cons (pv 7) pa_nil))))))))) (fun _ _ _ _ _ => pv 7)) pa_nil)))
        (pss_cons (ps_if (PW.pt (pw_and (pt_cmpR op_gt (pe_callB call_len_seq (by rfl) N.is.len PySem.boot_len (pa_cons (pv 11) pa_nil)) pe_int (nomark _)) (pw_and1 (pt_cmpR op_gt (pe_callB call_len_seq (by rfl) N.is.len PySem.boot_len (pa_cons (pv 12) pa_nil)) pe_int (nomark _))))) (pss_one (ps_dput hu (pv 8) (pv 6) (pe_tup (pa_cons (pv 11) (pa_cons (pv 12) pa_nil))) rfl)) pss_nil)
        (pss_one (ps_set (i := 5) nd rfl (Or.inr rfl) (pe_op op_cat (pe_op op_cat (pe_slice sl_list (pv 5) po_none (po_some (pv 10))) (pe_call GC hr (by rfl) gC kC bC .nil pass0 (pa_cons (pv 2) (pa_cons (pe_ix (r := rIxL K) ix_list (pv 5) (pv 10) (fun _ _ => rfl)) (pa_cons (pv 6) pa_nil))))) (pe_slice sl_list (pv 5) (po_some (pe_op op_add (pv 10) pe_int)) po_none)))))))))
      (pss_one (ps_ret (pe_callTy call_tuple_of (by rfl) N.is.tup (by decide +kernel) (pa_cons (pe_lc (own := [("_law_place", 6)]) (g := gName 6) (tt := tYes) rfl nd (pi_list (pe_callB (r := rSorted K) cr_sorted (by rfl) N.sorted (by decide +kernel) (pa_cons (pe_callTy (call_list_dK rfl) (by rfl) N.is.lst (by decide +kernel) (pa_cons (pv 8) pa_nil)) pa_nil))) (blkOk_by (N := nCutting) (sc := defScope sCutting) (by decide +kernel)) (fun _ _ _ _ _ => (pg_name (i := 6) nd rfl (Or.inl rfl))) (fun _ _ _ _ _ => pts_nil) (fun _ _ _ _ _ => pe_dget hu (pv 8) (pv 6) (fun _ _ => rfl))) pa_nil)))))))), ?_⟩
    obtain ⟨ap, ab, aa, h0, h1, h2', h3⟩ := hT
    have n60 := ok.l1
    refine ⟨_, rfl, r, _, rfl, .inl (.inl h0), rfl, _, _, rfl, _, _, rfl, _, _, rfl, rfl, ?_⟩
    refine ⟨by show 0 ≤ sizeLine; decide, fun P nP => ?_⟩
    have S1 := smUpd (o := .lst []) nP
    refine ⟨_, rfl, ap, _, rfl, .inr (tpL (S1 _ _ h1)), ((fo.ps.map vp).length : Int), rfl, by omega, by rw [List.length_map]; omega, ?_⟩
    rw [List.length_map, Int.toNat_natCast]
    -- the pieces at the beginning
    refine for_range (lo := 0) (n := fo.ps.length) (fun m σ H' => ∃ (t6 : Option V) (us : List V), σ = [some (.ref r), some (.ref b), some (.ref ap), some (.ref ab), some (.ref aa), some (.ref P), t6, none, none, none, none, none, none] ∧ Same H H' ∧ H' P = some (.lst us) ∧ us.length ≤ m ∧
      Paired (fun v xs => ∃ t, t ≠ P ∧ v = V.ref t ∧ H' t = some (.lst (xs.map vn))) us (((List.range m).filter fun r => decide (fo.ps[r]? = some none)).map (comp fo.ps []))) ⟨none, [], rfl, S1, upd_same, Nat.zero_le _, .nil⟩ ?_ ?_
    · rintro m σ H4 hm ⟨t6, us, rfl, s4, hP, hul, hL⟩
      rw [show (0 : Int) + ((m : Nat) : Int) = ((m : Nat) : Int) from Int.zero_add _]
      obtain ⟨q, hq⟩ := ps_at hm
      have er : (List.range (m + 1)).filter (fun r => decide (fo.ps[r]? = some none)) = (List.range m).filter (fun r => decide (fo.ps[r]? = some none)) ++ if fo.ps[m]? = some none then [m] else [] := by
        rw [List.range_succ, List.filter_append]
        by_cases c : fo.ps[m]? = some none
        · rw [if_pos c, List.filter_cons_of_pos (by simpa using c)]; rfl
        · rw [if_neg c, List.filter_cons_of_neg (by simpa using c)]; rfl
      refine ⟨_, rfl, _, rfl, ap, _, (m : Int), _, rfl, rfl, tpL (s4 _ _ h1), vp_ix hq, rfl, _, rfl, ?_⟩
      cases q with
      | some p =>
        refine ifF (by rw [vp_ne]; decide) ⟨_, us, rfl, s4, hP, by omega, ?_⟩
        rw [er, if_neg (by rw [hq]; exact fun z => nomatch z), List.append_nil]
        exact hL
      | none =>
        refine ifT (by decide) ?_
        refine ⟨_, rfl, .inl ⟨rfl, _, .inl (.inl hP)⟩, _, rfl, ap, _, rfl, .inr (tpL (s4 _ _ h1)), ((fo.ps.map vp).length : Int), rfl, by omega, by rw [List.length_map]; omega, fun E nE => ?_⟩
        rw [List.length_map, Int.toNat_natCast]
        refine lc_range (lo := 0) (n := fo.ps.length) (fun mm H' => Same H4 H' ∧ H' E = some (.lst (((((List.range fo.ps.length)).take mm).filter (fun y => decide (m ∈ road fo.ps y))).map vn))) ⟨smUpd nE, upd_same⟩ ?_ ?_
        · rintro m H' hm ⟨sm, hD⟩
          obtain ⟨y, hy, rfl⟩ : ∃ y, ((List.range fo.ps.length))[m]? = some y ∧ y = m := ⟨m, List.getElem?_range hm, rfl⟩
          rw [show (0 : Int) + ((y : Nat) : Int) = ((y : Nat) : Int) from Int.zero_add _]
          have hym := List.mem_of_getElem? hy
          have et := filterTake (c := (fun y => decide (m ∈ road fo.ps y))) hy
          have fl : ((((List.range fo.ps.length)).take y).filter (fun y => decide (m ∈ road fo.ps y))).length ≤ 60 := by
            have q1 := List.length_filter_le (fun y => decide (m ∈ road fo.ps y)) (((List.range fo.ps.length)).take y)
            have q2 : (((List.range fo.ps.length)).take y).length ≤ ((List.range fo.ps.length)).length := by rw [List.length_take]; omega
            have q3 : ((List.range fo.ps.length)).length ≤ 60 := (by rw [List.length_range]; exact ok.l1)
            omega
          have hyl := List.mem_range.mp hym
          refine ⟨rfl, _, rfl, _, rfl, _, rfl, ap, fo.ps, m, y, rfl, (s4.trans sm) _ _ h1, ok.ps, ok.l1, hyl, fun H2 s2 => ⟨_, rfl, ?_⟩⟩
          by_cases c : ((fun y => decide (m ∈ road fo.ps y))) y = true
          · refine ifT (c) ?_
            refine ⟨_, rfl, _, s2 _ _ hD, small1000 (by rw [List.length_map]; omega), smOver nE (sm.trans s2), ?_⟩
            rw [upd_same, et, if_pos c, List.map_append]
            rfl
          · refine ifF (c) ⟨sm.trans s2, ?_⟩
            rw [et, if_neg c, List.append_nil]
            exact s2 _ _ hD
        rintro H5 ⟨s5, hE⟩
        rw [List.take_of_length_le (by rw [List.length_range]; exact Nat.le_refl _), ← root_comp ok.ps hq] at hE
        have neE : E ≠ P := fun z => by rw [z, hP] at nE; cases nE
        refine ⟨P, us, _, rfl, rfl, s5 _ _ hP, small1000 (by omega), ?_⟩
        refine ⟨_, us ++ [.ref E], rfl, smOver nP (s4.trans s5), upd_same, by rw [List.length_append]; show us.length + 1 ≤ m + 1; omega, ?_⟩
        rw [er, if_pos hq, List.map_append]
        exact Paired.mapP (pairedSnoc (Paired.mapP hL fun _ _ ⟨t, n, e, z⟩ => (⟨t, n, e, s5 _ _ z⟩ : ∃ t, t ≠ P ∧ _ = V.ref t ∧ H5 t = some (HO.lst _))) ⟨E, neE, rfl, hE⟩) fun _ _ ⟨t, n, e, z⟩ => ⟨t, n, e, (upd_ne n).trans z⟩
    rintro σ H3 ⟨t6, us, rfl, s3, hP, hul, hL⟩
    have hL : LLs H3 us (((List.range fo.ps.length).filter fun r => decide (fo.ps[r]? = some none)).map (comp fo.ps [])) := Paired.mapP hL fun _ _ ⟨t, _, e, z⟩ => ⟨t, e, z⟩
    refine fun Dd nDd => ?_
    have nDd0 := noneBack s3 nDd
    have tD := smUpd (o := .dK []) nDd
    obtain ⟨nt, ent⟩ : ∃ nt, nt = noteAt fo.ps fo.be fo.as (lvs fo.ps cs) := ⟨_, rfl⟩
    obtain ⟨kp, ekp⟩ : ∃ kp : Nat → Bool, kp = fun k => kept2 (nt k) := ⟨_, rfl⟩
    refine ⟨_, rfl, b, rfl, ⟨_, tdT (tdSame (s3.trans tD) hb)⟩, ?_⟩
    refine for_tup (xs := cs.map vn) (fun m σ H' => ∃ (t6 t10 t11 t12 : Option V) (P : Addr) (us : List V) (rs cut : List Nat) (kvs : List (L2.Key × V)), σ = [some (.ref r), some (.ref b), some (.ref ap), some (.ref ab), some (.ref aa), some (.ref P), t6, none, some (.ref Dd), none, t10, t11, t12] ∧ Same H H' ∧ H' P = some (.lst us) ∧
      LLs H' us (rs.map (comp fo.ps cut)) ∧ Tops fo.ps cut rs ∧ (∀ z, z ∈ cut ↔ z ∈ cs.take m) ∧ H' Dd = some (.dK kvs) ∧ FoundR H' nt kvs ((cs.take m).filter kp))
      ⟨t6, none, none, none, P, us, _, [], [], rfl, s3.trans tD, tD _ _ hP, llsSame tD hL, root_tops ok.ps, fun z => by rw [List.take_zero], upd_same, .nil⟩ (fun m σ H' _ ⟨_, _, _, _, _, _, _, _, _, _, z, _⟩ => tdT (tdSame z hb)) ?_ ?_
    · rintro m v σ H5 hv ⟨t6, t10, t11, t12, P, us, rs, cut, kvs, rfl, s5, hP, hL, hTo, hcut, hDd, hK⟩
      obtain ⟨x, hx, rfl⟩ := vn_get hv
      have hxm := List.mem_of_getElem? hx
      have hxl : x < fo.ps.length := (hc.mem x).mp hxm
      have hml := (List.getElem?_eq_some_iff.mp hx).1
      have nx : x ∉ cut := fun z => nd_take hc.nd hx ((hcut x).mp z)
      have ril : cs.idxOf x = m := by
        have e := (List.getElem?_eq_some_iff.mp hx).2
        rw [← e]
        exact hc.nd.idxOf_getElem m hml
      have hC : CutTo fo.ps cs cut x := fun z hz => by
        rw [hcut, ril]
        have hzc := (hc.mem z).mpr hz
        constructor
        · intro h
          obtain ⟨j, hj⟩ := List.getElem?_of_mem h
          rw [List.getElem?_take] at hj
          split at hj
          · rename_i hjm
            obtain ⟨q1, q2⟩ := List.getElem?_eq_some_iff.mp hj
            rw [← q2, hc.nd.idxOf_getElem j q1]
            exact hjm
          · cases hj
        · intro h
          have q1 := List.idxOf_lt_length_of_mem hzc
          have q2 := List.getElem_idxOf q1
          have q3 : (cs.take m)[cs.idxOf z]? = some z := by
            rw [List.getElem?_take, if_pos h, List.getElem?_eq_getElem q1, q2]
          exact List.mem_of_getElem? q3
      have rl60 := tops_len hTo
      have ul : us.length = rs.length := by rw [Paired.length hL, List.length_map]
      have hr0 := top_road (cut := cut) ok.ps x hxl
      have hr0l := rd_lt ok.ps hxl hr0
      have r0m : top fo.ps cut x ∈ rs := (hTo.mem _).mpr ⟨hr0l, top_free ok.ps x hxl nx, (top_seg ok.ps x hxl nx hr0 (road_self ok.ps hr0l)).2⟩
      have cl60 : (comp fo.ps cut (top fo.ps cut x)).length ≤ 60 := by
        have := List.length_filter_le (fun y => decide (y ∉ cut) && decide (top fo.ps cut y = top fo.ps cut x)) (List.range fo.ps.length)
        rw [List.length_range] at this
        exact Nat.le_trans this n60
      -- its piece
      refine ⟨_, rfl, P, us, rfl, .inl (.inl (.inl hP)), (us.length : Int), rfl, by omega, by omega, fun An nAn => ?_⟩
      rw [Int.toNat_natCast]
      refine lc_range (lo := 0) (n := us.length) (fun mm H' => Same H5 H' ∧ H' An = some (.lst (((((List.range us.length)).take mm).filter (fun m => decide (x ∈ comp fo.ps cut (rs.getD m 0)))).map vn))) ⟨smUpd nAn, upd_same⟩ ?_ ?_
      · rintro m H' hm ⟨sm, hD⟩
        obtain ⟨y, hy, rfl⟩ : ∃ y, ((List.range us.length))[m]? = some y ∧ y = m := ⟨m, List.getElem?_range hm, rfl⟩
        rw [show (0 : Int) + ((y : Nat) : Int) = ((y : Nat) : Int) from Int.zero_add _]
        have hym := List.mem_of_getElem? hy
        have et := filterTake (c := (fun m => decide (x ∈ comp fo.ps cut (rs.getD m 0)))) hy
        have fl : ((((List.range us.length)).take y).filter (fun m => decide (x ∈ comp fo.ps cut (rs.getD m 0)))).length ≤ 60 := by
          have q1 := List.length_filter_le (fun m => decide (x ∈ comp fo.ps cut (rs.getD m 0))) (((List.range us.length)).take y)
          have q2 : (((List.range us.length)).take y).length ≤ ((List.range us.length)).length := by rw [List.length_take]; omega
          have q3 : ((List.range us.length)).length ≤ 60 := (by rw [List.length_range]; omega)
          omega
        have hyl := List.mem_range.mp hym
        obtain ⟨u, hu'⟩ : ∃ u, us[y]? = some u := ⟨_, List.getElem?_eq_getElem hyl⟩
        obtain ⟨xs, hxs, t, rfl, ht⟩ := pairedGetQ (llsSame sm hL) hu'
        have exs : xs = comp fo.ps cut (rs.getD y 0) := by
          rw [List.getElem?_map, getD_at (by omega : y < rs.length)] at hxs
          exact (Option.some.inj hxs).symm
        subst exs
        have s2 : Same H' H' := Same.refl _
        refine ⟨rfl, _, rfl, _, rfl, _, rfl, P, us, (y : Int), _, rfl, rfl, .inl (.inl (sm _ _ hP)), atI_nat hu', t, _, rfl, .inl (.inl (.inl ht)), rfl, vn_flat _, _, rfl, ?_⟩
        by_cases c : ((fun m => decide (x ∈ comp fo.ps cut (rs.getD m 0)))) y = true
        · refine ifT (by show inV (vn x) _ = true; rw [inV_vn]; exact c) ?_
          refine ⟨_, rfl, _, s2 _ _ hD, small1000 (by rw [List.length_map]; omega), smOver nAn (sm.trans s2), ?_⟩
          rw [upd_same, et, if_pos c, List.map_append]
          rfl
        · refine ifF (by show ¬ inV (vn x) _ = true; rw [inV_vn]; exact c) ⟨sm.trans s2, ?_⟩
          rw [et, if_neg c, List.append_nil]
          exact s2 _ _ hD
      rintro H6 ⟨s6, hAn⟩
      rw [List.take_of_length_le (by rw [List.length_range]; exact Nat.le_refl _)] at hAn
      obtain ⟨a0, al', eal⟩ : ∃ a0 al', (List.range us.length).filter (fun m => decide (x ∈ comp fo.ps cut (rs.getD m 0))) = a0 :: al' := by
        refine List.exists_cons_of_ne_nil ?_
        obtain ⟨j, hj⟩ := List.getElem?_of_mem r0m
        refine List.ne_nil_of_mem (a := j) (List.mem_filter.mpr ⟨List.mem_range.mpr (by rw [ul]; exact (List.getElem?_eq_some_iff.mp hj).1), decide_eq_true ?_⟩)
        rw [getD_of hj]
        exact comp_mem.mpr ⟨hxl, nx, rfl⟩
      have a0m : a0 ∈ (List.range us.length).filter (fun m => decide (x ∈ comp fo.ps cut (rs.getD m 0))) := by rw [eal]; exact List.mem_cons_self
      obtain ⟨q1, q2⟩ := List.mem_filter.mp a0m
      have a0l := List.mem_range.mp q1
      have a0e := (comp_mem.mp (of_decide_eq_true q2)).2.2
      have ha0 : rs[a0]? = some (top fo.ps cut x) := by rw [getD_at (by omega : a0 < rs.length), ← a0e]
      rw [eal] at hAn
      refine ⟨An, _, (0 : Int), _, rfl, rfl, .inl (.inl hAn), vn_ix (i := 0) (n := a0) rfl, ?_⟩
      have S6 := s5.trans s6
      have hP6 := s6 _ _ hP
      have hL6 := llsSame s6 hL
      obtain ⟨u0, hu0⟩ : ∃ u, us[a0]? = some u := ⟨_, List.getElem?_eq_getElem a0l⟩
      obtain ⟨xs, hxs, t0, rfl, ht0⟩ := pairedGetQ hL6 hu0
      have exs : xs = comp fo.ps cut (top fo.ps cut x) := by
        rw [List.getElem?_map, ha0] at hxs
        exact (Option.some.inj hxs).symm
      subst exs
      have hK6 := foundSame s6 hK
      have hDd6 := s6 _ _ hDd
      have hap7 := S6 _ _ h1
      have hab7 := S6 _ _ h2'
      clear nAn hAn s6 hP hL hK hDd
      generalize H6 = H7 at *
      refine ⟨_, rfl, _, rfl, P, us, (a0 : Int), _, rfl, rfl, .inl (.inl hP6), atI_nat hu0, t0, rfl, ⟨_, .inl (.inl ht0)⟩, fun Ov nOv => ?_⟩
      refine lc_list (xs := ((comp fo.ps cut (top fo.ps cut x))).map vn) (fun mm H' => Same H7 H' ∧ H' Ov = some (.lst (((((comp fo.ps cut (top fo.ps cut x))).take mm).filter (fun y => decide (y ∈ fo.be) && decide (y ∈ road fo.ps x))).map vn))) ⟨smUpd nOv, upd_same⟩ (fun m H' _ z => .inl (.inl (z.1 _ _ ht0))) ?_ ?_
      · rintro m v H' hv ⟨sm, hD⟩
        obtain ⟨y, hy, rfl⟩ := vn_get hv
        have hym := List.mem_of_getElem? hy
        have et := filterTake (c := (fun y => decide (y ∈ fo.be) && decide (y ∈ road fo.ps x))) hy
        have fl : ((((comp fo.ps cut (top fo.ps cut x))).take m).filter (fun y => decide (y ∈ fo.be) && decide (y ∈ road fo.ps x))).length ≤ 60 := by
          have q1 := List.length_filter_le (fun y => decide (y ∈ fo.be) && decide (y ∈ road fo.ps x)) (((comp fo.ps cut (top fo.ps cut x))).take m)
          have q2 : (((comp fo.ps cut (top fo.ps cut x))).take m).length ≤ ((comp fo.ps cut (top fo.ps cut x))).length := by rw [List.length_take]; omega
          have q3 : ((comp fo.ps cut (top fo.ps cut x))).length ≤ 60 := cl60
          omega
        have hyl := (comp_mem.mp hym).1
        refine ⟨rfl, _, rfl, _, rfl, ab, _, rfl, .inr (tnL (sm _ _ hab7)), rfl, vn_flat _, _, rfl, ?_⟩
        by_cases c1 : y ∈ fo.be
        rotate_left
        · refine ifF (by show ¬ inV (vn y) _ = true; rw [inV_vn]; simpa using c1) ?_
          refine ifF (by decide) ⟨sm, ?_⟩
          rw [et, if_neg (by simp [c1]), List.append_nil]
          exact hD
        refine ifT (by show inV (vn y) _ = true; rw [inV_vn]; exact decide_eq_true c1) ?_
        refine ⟨_, rfl, _, rfl, _, rfl, ap, fo.ps, y, x, rfl, sm _ _ hap7, ok.ps, ok.l1, hxl, fun H2 s2 => ⟨_, rfl, ?_⟩⟩
        by_cases c : ((fun y => decide (y ∈ fo.be) && decide (y ∈ road fo.ps x))) y = true
        · refine ifT (by have q := c; simp only [Bool.and_eq_true] at q; exact q.2) ?_
          refine ⟨_, rfl, _, s2 _ _ hD, small1000 (by rw [List.length_map]; omega), smOver nOv (sm.trans s2), ?_⟩
          rw [upd_same, et, if_pos c, List.map_append]
          rfl
        · refine ifF (fun z => c (by show (decide _ && _) = true; rw [decide_eq_true c1, z]; rfl)) ⟨sm.trans s2, ?_⟩
          rw [et, if_neg c, List.append_nil]
          exact s2 _ _ hD
      rintro H8 ⟨s8, hOv⟩
      rw [List.length_map, List.take_length] at hOv
      have hOv : H8 Ov = some (.lst ((overL fo.ps cut fo.be x).map vn)) := hOv
      refine ⟨Ov, _, rfl, .inl ⟨.inl (.inl hOv), fun T1 nT1 => ?_⟩⟩
      have w9 := s8.trans (smUpd (o := .tup ((overL fo.ps cut fo.be x).map vn)) nT1)
      have hT1 : TN (upd H8 T1 (.tup ((overL fo.ps cut fo.be x).map vn))) T1 (overL fo.ps cut fo.be x) := upd_same
      generalize upd H8 T1 (.tup ((overL fo.ps cut fo.be x).map vn)) = H9 at w9 hT1 ⊢
      have S9 := S6.trans w9
      have hap9 := S9 _ _ h1
      have haa9 := S9 _ _ h3
      have ht0b := w9 _ _ ht0
      refine ⟨_, rfl, _, rfl, P, us, (a0 : Int), _, rfl, rfl, .inl (.inl (w9 _ _ hP6)), atI_nat hu0, t0, rfl, ⟨_, .inl (.inl ht0b)⟩, fun As nAs => ?_⟩
      refine lc_list (xs := ((comp fo.ps cut (top fo.ps cut x))).map vn) (fun mm H' => Same H9 H' ∧ H' As = some (.lst (((((comp fo.ps cut (top fo.ps cut x))).take mm).filter (fun y => decide (y ∈ fo.as) && decide (x ∈ road fo.ps y))).map vn))) ⟨smUpd nAs, upd_same⟩ (fun m H' _ z => .inl (.inl (z.1 _ _ ht0b))) ?_ ?_
      · rintro m v H' hv ⟨sm, hD⟩
        obtain ⟨y, hy, rfl⟩ := vn_get hv
        have hym := List.mem_of_getElem? hy
        have et := filterTake (c := (fun y => decide (y ∈ fo.as) && decide (x ∈ road fo.ps y))) hy
        have fl : ((((comp fo.ps cut (top fo.ps cut x))).take m).filter (fun y => decide (y ∈ fo.as) && decide (x ∈ road fo.ps y))).length ≤ 60 := by
          have q1 := List.length_filter_le (fun y => decide (y ∈ fo.as) && decide (x ∈ road fo.ps y)) (((comp fo.ps cut (top fo.ps cut x))).take m)
          have q2 : (((comp fo.ps cut (top fo.ps cut x))).take m).length ≤ ((comp fo.ps cut (top fo.ps cut x))).length := by rw [List.length_take]; omega
          have q3 : ((comp fo.ps cut (top fo.ps cut x))).length ≤ 60 := cl60
          omega
        have hyl := (comp_mem.mp hym).1
        refine ⟨rfl, _, rfl, _, rfl, aa, _, rfl, .inr (tnL (sm _ _ haa9)), rfl, vn_flat _, _, rfl, ?_⟩
        by_cases c1 : y ∈ fo.as
        rotate_left
        · refine ifF (by show ¬ inV (vn y) _ = true; rw [inV_vn]; simpa using c1) ?_
          refine ifF (by decide) ⟨sm, ?_⟩
          rw [et, if_neg (by simp [c1]), List.append_nil]
          exact hD
        refine ifT (by show inV (vn y) _ = true; rw [inV_vn]; exact decide_eq_true c1) ?_
        refine ⟨_, rfl, _, rfl, _, rfl, ap, fo.ps, x, y, rfl, sm _ _ hap9, ok.ps, ok.l1, hyl, fun H2 s2 => ⟨_, rfl, ?_⟩⟩
        by_cases c : ((fun y => decide (y ∈ fo.as) && decide (x ∈ road fo.ps y))) y = true
        · refine ifT (by have q := c; simp only [Bool.and_eq_true] at q; exact q.2) ?_
          refine ⟨_, rfl, _, s2 _ _ hD, small1000 (by rw [List.length_map]; omega), smOver nAs (sm.trans s2), ?_⟩
          rw [upd_same, et, if_pos c, List.map_append]
          rfl
        · refine ifF (fun z => c (by show (decide _ && _) = true; rw [decide_eq_true c1, z]; rfl)) ⟨sm.trans s2, ?_⟩
          rw [et, if_neg c, List.append_nil]
          exact s2 _ _ hD
      rintro H10 ⟨s10, hAs⟩
      rw [List.length_map, List.take_length] at hAs
      have hAs : H10 As = some (.lst ((asksL fo.ps cut fo.as x).map vn)) := hAs
      refine ⟨As, _, rfl, .inl ⟨.inl (.inl hAs), fun T2 nT2 => ?_⟩⟩
      have t11' := s10.trans (smUpd (o := .tup ((asksL fo.ps cut fo.as x).map vn)) nT2)
      have hT2 : TN (upd H10 T2 (.tup ((asksL fo.ps cut fo.as x).map vn))) T2 (asksL fo.ps cut fo.as x) := upd_same
      generalize upd H10 T2 (.tup ((asksL fo.ps cut fo.as x).map vn)) = H11 at t11' hT2 ⊢
      have w11 := w9.trans t11'
      have hT1 := t11' _ _ hT1
      have S11 := S6.trans w11
      have hP11 := w11 _ _ hP6
      have hL11 := llsSame w11 hL6
      have hK11 := foundSame w11 hK6
      have hDd11 := w11 _ _ hDd6
      have ht011 := w11 _ _ ht0
      have en : nt x = (overL fo.ps cut fo.be x, asksL fo.ps cut fo.as x) := by rw [ent]; exact note_cut ok.ps hc hxl hC ok.as ok.al
      have ek : kp x = (!(overL fo.ps cut fo.be x).isEmpty && !(asksL fo.ps cut fo.as x).isEmpty) := by rw [ekp]; show kept2 (nt x) = _; rw [en]; rfl
      have et := filterTake (c := kp) hx
      have len0 : ∀ l : List Nat, decide ((0 : Int) < ((l.map vn).length : Int)) = !l.isEmpty := fun l => by
        cases l with
        | nil => rfl
        | cons a l => rw [List.map_cons, List.length_cons]; exact decide_eq_true (by omega)
      have nk : x ∉ (cs.take m).filter kp := fun z => nd_take hc.nd hx (List.mem_filter.mp z).1
      -- behind the storing: the pieces anew
      suffices hrest : ∀ (G : Hp) (kvs' : List (L2.Key × V)), Same H G → G P = some (.lst us) → LLs G us (rs.map (comp fo.ps cut)) → G t0 = some (.lst ((comp fo.ps cut (top fo.ps cut x)).map vn)) → G Dd = some (.dK kvs') → FoundR G nt kvs' ((cs.take (m + 1)).filter kp) →
          tAsg (tOp rCat (tOp rCat (tSl (rSlL K) (tVar 5) tNoPart (tPart (tVar 10))) (tCall spCut [] (fun _ _ _ => False) (tCons (tVar 2) (tCons (tOp (rIxL K) (tVar 5) (tVar 10)) (tCons (tVar 6) tNil))))) (tSl (rSlL K) (tVar 5) (tPart (tOp (rI0 fun i j => .int (i + j)) (tVar 10) (tC (.int 1)))) tNoPart)) (gName 5)
            { nx := fun σ H' => ∃ (t6 t10 t11 t12 : Option V) (P : Addr) (us : List V) (rs cut : List Nat) (kvs : List (L2.Key × V)), σ = [some (.ref r), some (.ref b), some (.ref ap), some (.ref ab), some (.ref aa), some (.ref P), t6, none, some (.ref Dd), none, t10, t11, t12] ∧ Same H H' ∧ H' P = some (.lst us) ∧
              LLs H' us (rs.map (comp fo.ps cut)) ∧ Tops fo.ps cut rs ∧ (∀ z, z ∈ cut ↔ z ∈ cs.take (m + 1)) ∧ H' Dd = some (.dK kvs) ∧ FoundR H' nt kvs ((cs.take (m + 1)).filter kp), rt := fun _ _ => False, bk := fun _ _ => False, ct := fun _ _ => False }
            [some (.ref r), some (.ref b), some (.ref ap), some (.ref ab), some (.ref aa), some (.ref P), some (vn x), none, some (.ref Dd), none, some (vn a0), some (.ref T1), some (.ref T2)] G by
        refine ⟨_, rfl, T1, _, rfl, .inr (tnL hT1), _, _, rfl, rfl, _, rfl, ?_⟩
        rw [len0]
        by_cases c1 : (!(overL fo.ps cut fo.be x).isEmpty) = true
        · refine ifT c1 ?_
          refine ⟨_, rfl, T2, _, rfl, .inr (tnL hT2), _, _, rfl, rfl, _, rfl, ?_⟩
          rw [len0]
          by_cases c2 : (!(asksL fo.ps cut fo.as x).isEmpty) = true
          · refine ifT c2 ?_
            rw [c1, c2] at ek
            refine ⟨_, rfl, _, rfl, by show 2 ≤ sizeLine; decide, fun q nq => ?_⟩
            have sq := smUpd (o := .tup [.ref T1, .ref T2]) nq
            have hq : upd H11 q (.tup [.ref T1, .ref T2]) q = some (.tup [.ref T1, .ref T2]) := upd_same
            generalize upd H11 q (.tup [.ref T1, .ref T2]) = H12 at sq hq ⊢
            have hDd12 := sq _ _ hDd11
            have hK12 := foundSame sq hK11
            have kl : kvs.length ≤ 60 := by
              rw [Paired.length hK11]
              have q1 := List.length_filter_le kp (cs.take m)
              rw [List.length_take, hc.len] at q1
              omega
            refine ⟨_, rfl, _, rfl, Dd, _, rfl, DPut.k (k := Sum.inl ((x : Nat) : Int)) hDd12 (small1000 (by omega)), ?_⟩
            have ep := found_put (v := .ref q) hK12 nk
            refine hrest _ _ (smOver nDd0 (S11.trans sq)) ?_ (llsUpd hDd12 (fun _ z => nomatch z) (llsSame sq hL11)) ?_ upd_same ?_
            · rw [upd_ne (fun z => by rw [z] at hP11; exact nomatch (hP11.symm.trans hDd11))]; exact sq _ _ hP11
            · rw [upd_ne (fun z => by rw [z] at ht011; exact nomatch (ht011.symm.trans hDd11))]; exact sq _ _ ht011
            · rw [et, if_pos (by rw [ek]; rfl)]
              have hn : NoteR H12 (.ref q) (nt x) := by rw [en]; exact ⟨q, T1, T2, rfl, hq, sq _ _ hT1, sq _ _ hT2⟩
              have := pairedSnoc hK12 (x := ((Sum.inl ((x : Nat) : Int) : L2.Key), V.ref q)) (y := x) ⟨rfl, hn⟩
              rw [← ep] at this
              exact Paired.mapP this fun _ _ ⟨e, z⟩ => ⟨e, noteUpd2 hDd12 (fun _ z => nomatch z) z⟩
          · refine ifF c2 ?_
            refine hrest _ _ S11 hP11 hL11 ht011 hDd11 ?_
            rw [et, if_neg (by rw [ek, c1, Bool.true_and]; exact c2), List.append_nil]
            exact hK11
        · refine ifF c1 ?_
          refine ifF (by decide) ?_
          refine hrest _ _ S11 hP11 hL11 ht011 hDd11 ?_
          rw [et, if_neg (by rw [ek, Bool.and_eq_true]; exact fun z => c1 z.1), List.append_nil]
          exact hK11
      intro G kvs' SG hPG hLG ht0G hDdG hKG
      have rs' := tops_next ok.ps hTo hxl nx ha0
      obtain ⟨rs', hTo', erp⟩ := rs'
      have rl' := tops_len hTo'
      refine ⟨_, rfl, _, rfl, (a0 : Int), rfl, P, us, rfl, .inl (.inl hPG), fun Q1 nQ1 => ?_⟩
      rw [cutTake]
      have g1 := smUpd (o := .lst (us.take a0)) nQ1
      have hQ1 : upd G Q1 (.lst (us.take a0)) Q1 = some (.lst (us.take a0)) := upd_same
      generalize upd G Q1 (.lst (us.take a0)) = G1 at g1 hQ1 ⊢
      refine ⟨_, rfl, _, rfl, _, rfl, P, us, (a0 : Int), _, rfl, rfl, .inl (.inl (g1 _ _ hPG)), atI_nat hu0, _, rfl, ap, t0, fo.ps, _, x, rfl, g1 _ _ (SG _ _ h1), ok.ps, ok.l1, g1 _ _ ht0G, fun y hy => (comp_mem.mp hy).1, cl60, hxl, fun rc uc G2 g2 hrc hLc => ?_⟩
      have lens : (us.take a0).length + uc.length + (us.drop (a0 + 1)).length ≤ 60 := by
        have e := congrArg List.length erp
        rw [List.length_append, List.length_append, List.length_take, List.length_drop, List.length_map, List.length_map] at e
        rw [List.length_take, List.length_drop, Paired.length hLc, ul]
        omega
      refine ⟨Q1, rc, _, _, rfl, rfl, g2 _ _ hQ1, hrc, Nat.le_of_lt (small1000 (by omega)), fun C1 nC1 => ?_⟩
      have g3 := smUpd (o := .lst (us.take a0 ++ uc)) nC1
      have hC1 : upd G2 C1 (.lst (us.take a0 ++ uc)) C1 = some (.lst (us.take a0 ++ uc)) := upd_same
      generalize upd G2 C1 (.lst (us.take a0 ++ uc)) = G3 at g3 hC1 ⊢
      have g13 := g1.trans (g2.trans g3)
      refine ⟨_, rfl, _, rfl, _, _, rfl, rfl, _, rfl, P, us, rfl, .inl (.inl (g13 _ _ hPG)), fun Q2 nQ2 => ?_⟩
      rw [show ((a0 : Int) + 1) = ((a0 + 1 : Nat) : Int) from rfl, cutDrop]
      have g4 := smUpd (o := .lst (us.drop (a0 + 1))) nQ2
      have hQ2 : upd G3 Q2 (.lst (us.drop (a0 + 1))) Q2 = some (.lst (us.drop (a0 + 1))) := upd_same
      generalize upd G3 Q2 (.lst (us.drop (a0 + 1))) = G4 at g4 hQ2 ⊢
      refine ⟨C1, Q2, _, _, rfl, rfl, g4 _ _ hC1, hQ2, Nat.le_of_lt (small1000 (by rw [List.length_append]; omega)), fun C2 nC2 => ?_⟩
      have g5 := smUpd (o := .lst (us.take a0 ++ uc ++ us.drop (a0 + 1))) nC2
      have gA := g13.trans (g4.trans g5)
      refine ⟨_, _, _, _, C2, us.take a0 ++ uc ++ us.drop (a0 + 1), rs', x :: cut, kvs', rfl, SG.trans gA, upd_same, ?_, hTo', fun z => ?_, gA _ _ hDdG, foundSame gA hKG⟩
      · rw [← erp]
        have hLA := llsSame gA hLG
        exact pairedApp (pairedApp (pairedTake a0 hLA) (llsSame (g3.trans (g4.trans g5)) hLc)) (pairedDrop (a0 + 1) hLA)
      · rw [take_at hx, List.mem_append, List.mem_cons, hcut z, List.mem_singleton]
        exact Or.comm
    · rintro σ H5 ⟨t6, t10, t11, t12, P, us, rs, cut, kvs, rfl, s5, hP, hL, hTo, hcut, hDd, hK⟩
      rw [List.length_map, List.take_length] at hK
      have ksl : (cs.filter kp).length ≤ 60 := by
        have := List.length_filter_le kp cs
        rw [hc.len] at this
        omega
      refine ⟨_, rfl, Dd, kvs, rfl, hDd, fun q nq => ?_⟩
      rw [found_keys hK]
      have s6 := smUpd (o := .lst (((cs.filter kp).map fun n => ((n : Nat) : Int)).map V.int)) nq
      have hq : upd H5 q (.lst (((cs.filter kp).map fun n => ((n : Nat) : Int)).map V.int)) q = some (.lst (((cs.filter kp).map fun n => ((n : Nat) : Int)).map V.int)) := upd_same
      generalize upd H5 q (.lst (((cs.filter kp).map fun n => ((n : Nat) : Int)).map V.int)) = H6 at s6 hq ⊢
      refine ⟨q, _, rfl, .inl (.inl hq), by rw [List.length_map]; omega, fun zs L perm srt nL => ?_⟩
      have ez := sortedNat (xs := (List.range fo.ps.length).filter kp) (hc.nd.filter _) (List.pairwise_lt_range.filter _) (fun x => by rw [List.mem_filter, List.mem_filter, List.mem_range, hc.mem]) perm srt
      rw [ez, mapIV]
      obtain ⟨kl, ekl⟩ : ∃ kl, kl = (List.range fo.ps.length).filter kp := ⟨_, rfl⟩
      rw [← ekl]
      have kll : kl.length ≤ 60 := by
        rw [ekl]
        have := List.length_filter_le kp (List.range fo.ps.length)
        rw [List.length_range] at this
        omega
      have klm : ∀ k ∈ kl, k ∈ cs.filter kp := fun k hk => by
        rw [ekl, List.mem_filter, List.mem_range] at hk
        rw [List.mem_filter, hc.mem]
        exact hk
      have s7 := s6.trans (smUpd (o := .lst (kl.map vn)) nL)
      have hL7 : upd H6 L (.lst (kl.map vn)) L = some (.lst (kl.map vn)) := upd_same
      generalize upd H6 L (.lst (kl.map vn)) = H7 at s7 hL7 ⊢
      refine ⟨L, rfl, ⟨_, .inl (.inl hL7)⟩, fun D nD => ?_⟩
      refine lc_list (xs := kl.map vn) (fun m H' => Same H7 H' ∧ ∃ zs, H' D = some (.lst zs) ∧ NotesR H7 zs ((kl.take m).map nt)) ⟨smUpd nD, [], upd_same, .nil⟩ (fun m H' _ z => .inl (.inl (z.1 _ _ hL7))) ?_ ?_
      · rintro m v H' hv ⟨sm, zs, hD, hZ⟩
        obtain ⟨x, hx, rfl⟩ := vn_get hv
        have hml := (List.getElem?_eq_some_iff.mp hx).1
        have zl : zs.length ≤ 60 := by
          rw [Paired.length hZ, List.length_map, List.length_take]
          omega
        obtain ⟨v, hv1, hv2⟩ := found_get (foundSame s7 hK) (klm x (List.mem_of_getElem? hx))
        have dg := DGet.k (k := (Sum.inl ((x : Nat) : Int) : L2.Key)) (sm _ _ (s7 _ _ hDd))
        rw [hv1] at dg
        refine ⟨rfl, _, rfl, _, rfl, Dd, v, rfl, dg, zs, hD, small1000 (by omega), smOver nD sm, _, upd_same, ?_⟩
        rw [take_at hx, List.map_append]
        exact pairedSnoc hZ hv2
      · rintro H8 ⟨s8, zs, hD, hZ⟩
        rw [List.length_map, List.take_length] at hZ
        refine ⟨D, zs, rfl, .inl ⟨.inl (.inl hD), fun T nT => ?_⟩⟩
        have s9 := s8.trans (smUpd (o := .tup zs) nT)
        refine k T zs _ (s5.trans (s7.trans s9)) upd_same ?_
        have e : notesOf fo.ps fo.be fo.as (lvs fo.ps cs) fo.ps.length = kl.map nt := by
          unfold notesOf
          rw [ekl, ← ent, List.filter_map, ekp]
          rfl
        rw [e]
        exact notesSame s9 hZ
end
end Cn
namespace Cn
open PySem PySem.Spec PyProof.Rows L2 Ck
/-- those of a list that are not above any behind them, by places -/
theorem rlm_at {rk : Nat → Nat} : ∀ {L : List Nat}, L.Nodup → (∀ x ∈ L, ∀ y ∈ L, x ≠ y → rk x ≠ rk y) → rlm rk L = ((List.range L.length).filter fun m => decide (∀ y ∈ (L.map rk).drop m, (L.map rk).getD m 0 ≤ y)).map fun m => L.getD m 0
  | [], _, _ => rfl
  | x :: L, nd, inj => by
    have ih := rlm_at (rk := rk) (L := L) (List.nodup_cons.mp nd).2 fun a ha b hb => inj a (List.mem_cons_of_mem _ ha) b (List.mem_cons_of_mem _ hb)
    rw [List.length_cons, List.range_succ_eq_map, List.filter_cons, List.filter_map, List.map_cons]
    have e1 : ((List.range L.length).filter ((fun m => decide (∀ y ∈ (rk x :: L.map rk).drop m, (rk x :: L.map rk).getD m 0 ≤ y)) ∘ Nat.succ)) = (List.range L.length).filter fun m => decide (∀ y ∈ (L.map rk).drop m, (L.map rk).getD m 0 ≤ y) := rfl
    rw [e1]
    have e2 : decide (∀ y ∈ (rk x :: L.map rk).drop 0, (rk x :: L.map rk).getD 0 0 ≤ y) = decide (∀ y ∈ L, rk x < rk y) := by
      rw [Bool.eq_iff_iff, decide_eq_true_iff, decide_eq_true_iff]
      constructor
      · intro h y hy
        have h1 : rk x ≤ rk y := h (rk y) (List.mem_cons_of_mem _ (List.mem_map.mpr ⟨y, hy, rfl⟩))
        have h2 := inj x List.mem_cons_self y (List.mem_cons_of_mem _ hy) fun z => (List.nodup_cons.mp nd).1 (z ▸ hy)
        omega
      · intro h y hy
        show rk x ≤ y
        rcases List.mem_cons.mp hy with rfl | hy
        · exact Nat.le_refl _
        · obtain ⟨z, hz, rfl⟩ := List.mem_map.mp hy
          exact Nat.le_of_lt (h z hz)
    rw [e2]
    show (if ∀ y ∈ L, rk x < rk y then x :: rlm rk L else rlm rk L) = _
    have e3 : ∀ l : List Nat, (l.map Nat.succ).map (fun m => (x :: L).getD m 0) = l.map fun m => L.getD m 0 := fun l => by rw [List.map_map]; rfl
    by_cases c : ∀ y ∈ L, rk x < rk y
    · rw [if_pos c, if_pos (decide_eq_true c), List.map_cons, e3, ih]
      rfl
    · rw [if_neg c, if_neg (by simpa using c), e3, ih]
section
variable {P : Program} {w : World} {K : PySem.W.Frag} {mg : Str → Option Value} {base : Heap} {C : Addr}
def spFirsts : Sp := fun vs H Q _ => ∃ (b c : Addr) (ps : List (Option Nat)) (cs : List Nat) (i : Nat), vs = [.ref b, .ref c, vn i] ∧ TP H b ps ∧ TDn H c cs ∧ CutsOk ps.length cs ∧ Ps ps ∧ ps.length ≤ 60 ∧ i < ps.length ∧
  ∀ r H', Same H H' → TN H' r (rlm (fun x => cs.idxOf x) (road ps i)) → Q (.ref r) H'
def nFirsts : List Str := ["_law_parents_here", "_law_cuts", "_law_place", "_law_road_here", "_law_one", "_law_ranks", "_law_at"]
theorem scFirsts : FnScope nFirsts ["_law_parents_here", "_law_cuts", "_law_place"] (defScope sFirsts) := ⟨rfl, rfl, rfl, by decide +kernel, rfl, by decide +kernel, by decide +kernel⟩
theorem dFirsts (B : Defs K mg C) : Def P w K mg base "_law_first_ones" 2 ["_law_parents_here", "_law_cuts", "_law_place"] spFirsts := by
  obtain ⟨fR, fdR, GR, gR, kR, bR⟩ := dRoad (P := P) (w := w) (base := base) B
  have N := nOf B
  refine def_of B.fo fun f fd F => ?_
  refine F.ok scFirsts (fun vs H Q E h => ?_) (fun cdv A outer s H vs Q E hr h => ?_)
  · obtain ⟨b, c, ps, cs, i, rfl, _⟩ := h
    rfl
  · obtain ⟨b, c, ps, cs, i, rfl, hb, hcd, hc, hp, h60, hi, k⟩ := h
    have nd := scFirsts.nd
    refine ⟨_, pss_cons (ps_set (i := 3) nd rfl (Or.inr rfl) (pe_call GR hr (by rfl) gR kR bR .nil pass0 (pa_cons (pv 0) (pa_cons (pv 2) pa_nil))))
      (pss_cons (ps_set (i := 5) nd rfl (Or.inr rfl) (pe_lc (own := [("_law_one", 4)]) (g := gName 4) (tt := tYes) (te := tBT (rTidx K) (tVar 1) (tCons (tVar 4) tNil)) rfl nd (pi_tup (pv 3))
        (blkOk_by (N := nFirsts) (sc := defScope sFirsts) (by decide +kernel)) (fun _ _ _ _ _ => pg_name (i := 4) nd rfl (Or.inl rfl)) (fun _ _ _ _ _ => pts_nil) (fun _ _ _ _ _ => pe_bt (r := rTidx K) PySem.F.slot_tuple_index PySem.F.type_tuple_index mt_tidx (pv 1) (pa_cons (pv 4) pa_nil))))
      (pss_one (ps_ret (pe_callTy call_tuple_of (by rfl) N.is.tup (by decide +kernel) (pa_cons (pe_lc (own := [("_law_at", 6)]) (g := gName 6) (tt := tTest (tOp rEq (tCB (rMin K) (tCons (tSl (rSlL K) (tVar 5) (tPart (tVar 6)) tNoPart) tNil)) (tOp (rIxL K) (tVar 5) (tVar 6)))) (te := tOp (rIxT K) (tVar 3) (tVar 6)) rfl nd (pi_range1 (by rfl) N.range (pa_cons (pe_callB call_len_seq (by rfl) N.is.len PySem.boot_len (pa_cons (pv 3) pa_nil)) pa_nil))
        (blkOk_by (N := nFirsts) (sc := defScope sFirsts) (by decide +kernel)) (fun _ _ _ _ _ => pg_name (i := 6) nd rfl (Or.inl rfl)) (fun _ _ _ _ _ => pts_one (pt_cmpR op_eq (pe_callB (r := rMin K) (cr_min rfl) (by rfl) N.min (by decide +kernel) (pa_cons (pe_slice (r := rSlL K) sl_list (pv 5) (po_some (pv 6)) po_none) pa_nil)) (pe_ix (r := rIxL K) ix_list (pv 5) (pv 6) (fun _ _ => rfl)) (nomark _)))
        (fun _ _ _ _ _ => pe_ix (r := rIxT K) ix_tup (pv 3) (pv 6) (fun _ _ => rfl))) pa_nil))))), ?_⟩
    refine ⟨_, rfl, _, rfl, b, ps, i, rfl, hb, hp, h60, hi, fun rt H1 s1 hrt => ⟨_, rfl, rt, rfl, ⟨_, tnL hrt⟩, fun D nD => ?_⟩⟩
    have hlen := road_len hp i hi
    have hcd1 : TDn H1 c cs := tdSame s1 hcd
    refine lc_tup (xs := (road ps i).map vn) (fun m H' => Same H1 H' ∧ H' D = some (.lst ((((road ps i).take m).map fun x => cs.idxOf x).map vn))) ⟨smUpd nD, upd_same⟩ (fun m H' _ z => tnL (z.1 _ _ hrt)) ?_ ?_
    · rintro m x H' hx ⟨sm, hD⟩
      obtain ⟨n, hn, rfl⟩ := vn_get hx
      have hml := (List.getElem?_eq_some_iff.mp hn).1
      have hnc : n ∈ cs := (hc.mem n).mpr (rd_lt hp hi (List.mem_of_getElem? hn))
      obtain ⟨v1, v2⟩ := vn_idx hnc
      have hcd2 : TDn H' c cs := tdSame sm hcd1
      refine ⟨rfl, _, rfl, ⟨c, _, rfl, hcd2⟩, _, rfl, c, _, vn n, cs.idxOf n, vn n, rfl, rfl, tdL hcd2, rfl, vn_flat _, v1, by rw [vn_inj]; exact decide_eq_true rfl, v2, ?_⟩
      refine ⟨_, hD, small1000 (by rw [List.length_map, List.length_map, List.length_take]; omega), smOver nD sm, ?_⟩
      rw [upd_same, take_at hn, List.map_append, List.map_append]
      rfl
    rintro H2 ⟨s2, hD⟩
    rw [List.length_map, List.take_length] at hD
    have nd := road_nd hp i hi
    have inj : ∀ x ∈ road ps i, ∀ y ∈ road ps i, x ≠ y → cs.idxOf x ≠ cs.idxOf y := fun x hx y hy ne z => ne (idxInj ((hc.mem x).mpr (rd_lt hp hi hx)) ((hc.mem y).mpr (rd_lt hp hi hy)) z)
    have er := rlm_at (rk := fun x => cs.idxOf x) nd inj
    have hrt2 := s2 _ _ hrt
    generalize road ps i = R at hD hrt2 er hlen k
    obtain ⟨L, eL⟩ : ∃ L, L = R.map fun x => cs.idxOf x := ⟨_, rfl⟩
    rw [← eL] at hD er
    have hLl : L.length = R.length := by rw [eL, List.length_map]
    refine ⟨_, rfl, rt, _, rfl, .inr (tnL hrt2), ((R.map vn).length : Int), rfl, by omega, by rw [List.length_map]; omega, fun E nE => ?_⟩
    rw [List.length_map, Int.toNat_natCast]
    obtain ⟨cf, ecf⟩ : ∃ cf : Nat → Bool, cf = fun m => decide (∀ y ∈ L.drop m, L.getD m 0 ≤ y) := ⟨_, rfl⟩
    rw [← ecf] at er
    refine lc_range (lo := 0) (n := R.length) (fun m H' => Same H2 H' ∧ H' E = some (.lst ((((List.range m).filter cf).map fun m => R.getD m 0).map vn))) ⟨smUpd nE, upd_same⟩ ?_ ?_
    · rintro m H' hm ⟨sm, hE⟩
      rw [show (0 : Int) + ((m : Nat) : Int) = ((m : Nat) : Int) from Int.zero_add _]
      have hmL : m < L.length := by omega
      have hg := getD_at hmL
      have hD' := sm _ _ hD
      have fl := List.length_filter_le cf (List.range m)
      rw [List.length_range] at fl
      have et : (List.range (m + 1)).filter cf = (List.range m).filter cf ++ if cf m = true then [m] else [] := by
        rw [List.range_succ, List.filter_append]
        by_cases c : cf m = true
        · rw [if_pos c, List.filter_cons_of_pos c]; rfl
        · rw [if_neg c, List.filter_cons_of_neg c]; rfl
      refine ⟨rfl, _, rfl, _, rfl, (m : Int), rfl, D, _, rfl, .inl (.inl hD'), fun p np => ?_⟩
      rw [cutDrop, ← List.map_drop]
      have S3 := smUpd (o := .lst ((L.drop m).map vn)) np
      have hE3 := S3 _ _ hE
      have hd : L.drop m = L.getD m 0 :: L.drop (m + 1) := by
        rw [List.drop_eq_getElem_cons hmL]
        congr 1
        rw [List.getD_eq_getElem?_getD, List.getElem?_eq_getElem hmL]; rfl
      refine ⟨p, (L.drop m).map fun k => ((k : Nat) : Int), rfl, .inl (.inl (by rw [upd_same, mapIV])), by rw [List.length_map, List.length_drop]; omega, fun a ha hle => ?_⟩
      refine ⟨_, rfl, _, rfl, D, _, (m : Int), _, rfl, rfl, .inl (.inl (S3 _ _ hD')), vn_ix hg, rfl, _, rfl, ?_⟩
      have iff1 : decide (V.int a = V.int ((L.getD m 0 : Nat) : Int)) = cf m := by
        rw [ecf, Bool.eq_iff_iff, decide_eq_true_iff, decide_eq_true_iff]
        constructor
        · intro e y hy
          have e : a = ((L.getD m 0 : Nat) : Int) := V.int.inj e
          have := hle ((y : Nat) : Int) (List.mem_map.mpr ⟨y, hy, rfl⟩)
          omega
        · intro h
          obtain ⟨y, hy, rfl⟩ := List.mem_map.mp ha
          have h1 := hle ((L.getD m 0 : Nat) : Int) (List.mem_map.mpr ⟨_, by rw [hd]; exact List.mem_cons_self, rfl⟩)
          have h2 := h y hy
          have e : y = L.getD m 0 := by omega
          rw [e]
      have iff2 : decide ((fun n : Int => V.int n) a = vn (L.getD m 0)) = cf m := iff1
      show if decide (V.int a = vn (L.getD m 0)) = true then _ else _
      rw [show decide (V.int a = vn (L.getD m 0)) = cf m from iff1]
      by_cases cc : cf m = true
      · refine ifT cc ?_
        refine ⟨_, rfl, _, rfl, rt, _, (m : Int), _, rfl, rfl, tnL (S3 _ _ (sm _ _ hrt2)), vn_ix (getD_at hm), (((List.range m).filter cf).map fun m => R.getD m 0).map vn, hE3, small1000 (by rw [List.length_map, List.length_map]; omega), smOver nE (sm.trans S3), ?_⟩
        rw [upd_same, et, if_pos cc, List.map_append, List.map_append]
        rfl
      · refine ifF cc ⟨sm.trans S3, ?_⟩
        rw [et, if_neg cc, List.append_nil]
        exact hE3
    · rintro H' ⟨sm, hE⟩
      rw [← er] at hE
      refine ⟨E, _, rfl, .inl ⟨.inl (.inl hE), fun T nT => ?_⟩⟩
      exact k T _ (s1.trans (s2.trans (sm.trans (smUpd nT)))) upd_same
end
end Cn
namespace Cn
open PySem PySem.Spec PyProof.Rows L2 Ck
theorem perm_by {cs cs' : List Nat} {σ : Nat → Nat} (hl : cs'.length = cs.length) (hs : ∀ k, k < cs.length → σ k < cs.length ∧ σ (σ k) = k) (hg : ∀ k, k < cs.length → cs'[k]? = cs[σ k]?) (nd : cs.Nodup) :
    cs'.Nodup ∧ (∀ x, x ∈ cs' ↔ x ∈ cs) ∧ ∀ x ∈ cs, cs'.idxOf x = σ (cs.idxOf x) := by
  have ge : ∀ k (h : k < cs'.length), cs'[k] = cs[σ k]'((hs k (hl ▸ h)).1) := fun k h => by
    have := hg k (hl ▸ h)
    rw [List.getElem?_eq_getElem h, List.getElem?_eq_getElem ((hs k (hl ▸ h)).1)] at this
    exact Option.some.inj this
  have nd' : cs'.Nodup := by
    unfold List.Nodup
    rw [List.pairwise_iff_getElem]
    intro i j hi hj hij e
    rw [ge i hi, ge j hj] at e
    have := (List.getElem_inj (h₀ := (hs i (hl ▸ hi)).1) (h₁ := (hs j (hl ▸ hj)).1) nd).mp e
    have h1 := (hs i (hl ▸ hi)).2
    have h2 := (hs j (hl ▸ hj)).2
    rw [this, h2] at h1
    omega
  refine ⟨nd', fun x => ⟨fun h => ?_, fun h => ?_⟩, fun x hx => ?_⟩
  · obtain ⟨k, hk, rfl⟩ := List.mem_iff_getElem.mp h
    rw [ge k hk]
    exact List.getElem_mem _
  · obtain ⟨k, hk, rfl⟩ := List.mem_iff_getElem.mp h
    have h1 := (hs k hk).1
    have := ge (σ k) (hl ▸ h1)
    simp only [(hs k hk).2] at this
    rw [← this]
    exact List.getElem_mem _
  · have hk := List.idxOf_lt_length_of_mem hx
    have h1 := (hs _ hk).1
    have := ge (σ (cs.idxOf x)) (hl ▸ h1)
    simp only [(hs _ hk).2] at this
    have e2 := List.getElem_idxOf hk
    have e3 : cs'[σ (cs.idxOf x)]'(hl ▸ h1) = x := this.trans e2
    have e4 := nd'.idxOf_getElem (σ (cs.idxOf x)) (hl ▸ h1)
    rw [e3] at e4
    exact e4
/-- two neighbours that do not mind one another, exchanged -/
theorem swap_ok {ps : List (Option Nat)} (hp : Ps ps) {cs : List Nat} {a u v : Nat} (hc : CutsOk ps.length cs) (ha : 0 < a) (hu : cs[a - 1]? = some u) (hv : cs[a]? = some v) (n1 : v ∉ road ps u) (n2 : u ∉ road ps v) :
    CutsOk ps.length ((cs.set (a - 1) v).set a u) ∧ lvs ps ((cs.set (a - 1) v).set a u) = lvs ps cs := by
  obtain ⟨hal, eu⟩ := List.getElem?_eq_some_iff.mp hv
  obtain ⟨hal1, ev⟩ := List.getElem?_eq_some_iff.mp hu
  obtain ⟨p1, p2, p3⟩ := perm_by (cs := cs) (cs' := (cs.set (a - 1) v).set a u) (σ := fun k => if k = a then a - 1 else if k = a - 1 then a else k) (by rw [List.length_set, List.length_set])
    (fun k hk => by
      refine ⟨?_, ?_⟩
      · show (if k = a then a - 1 else if k = a - 1 then a else k) < cs.length
        split
        · exact hal1
        · split
          · exact hal
          · exact hk
      · show (if (if k = a then a - 1 else if k = a - 1 then a else k) = a then a - 1 else if (if k = a then a - 1 else if k = a - 1 then a else k) = a - 1 then a else (if k = a then a - 1 else if k = a - 1 then a else k)) = k
        by_cases e1 : k = a
        · rw [if_pos e1, if_neg (by omega), if_pos rfl, e1]
        · rw [if_neg e1]
          by_cases e2 : k = a - 1
          · rw [if_pos e2, if_pos rfl, e2]
          · rw [if_neg e2, if_neg e1, if_neg e2])
    (fun k hk => by
      show ((cs.set (a - 1) v).set a u)[k]? = cs[if k = a then a - 1 else if k = a - 1 then a else k]?
      rw [List.getElem?_set, List.getElem?_set, List.length_set]
      by_cases e1 : a = k
      · subst e1
        rw [if_pos rfl, if_pos hk, if_pos rfl]
        exact hu.symm
      · have q1 : ¬ k = a := fun z => e1 z.symm
        rw [if_neg e1]
        by_cases e2 : a - 1 = k
        · rw [if_pos e2, if_pos hal1, if_neg q1, if_pos e2.symm]
          exact hv.symm
        · rw [if_neg e2, if_neg q1, if_neg (fun z => e2 z.symm)]) hc.nd
  refine ⟨⟨by rw [List.length_set, List.length_set]; exact hc.len, p1, fun x => (p2 x).trans (hc.mem x)⟩, ?_⟩
  unfold lvs
  refine List.map_congr_left fun i hi => ?_
  have hi := List.mem_range.mp hi
  unfold lvOf
  congr 1
  refine rlm_congr fun x hx y hy => ?_
  have hxl := rd_lt hp hi hx
  have hyl := rd_lt hp hi hy
  have hxc := (hc.mem x).mpr hxl
  have hyc := (hc.mem y).mpr hyl
  rw [p3 x hxc, p3 y hyc]
  have gx := List.getElem_idxOf (List.idxOf_lt_length_of_mem hxc)
  have gy := List.getElem_idxOf (List.idxOf_lt_length_of_mem hyc)
  have lin := rd_lin hp i hi hx hy
  have bad : ∀ z w : Nat, cs.idxOf z = a - 1 → cs.idxOf w = a → z ∈ cs → w ∈ cs → z = u ∧ w = v := fun z w e1 e2 h1 h2 => by
    have g1 := List.getElem_idxOf (List.idxOf_lt_length_of_mem h1)
    have g2 := List.getElem_idxOf (List.idxOf_lt_length_of_mem h2)
    simp only [e1] at g1
    simp only [e2] at g2
    exact ⟨g1.symm.trans ev, g2.symm.trans eu⟩
  show (if cs.idxOf x = a then a - 1 else if cs.idxOf x = a - 1 then a else cs.idxOf x) < (if cs.idxOf y = a then a - 1 else if cs.idxOf y = a - 1 then a else cs.idxOf y) ↔ cs.idxOf x < cs.idxOf y
  by_cases b1 : cs.idxOf x = a - 1 ∧ cs.idxOf y = a
  · obtain ⟨rfl, rfl⟩ := bad x y b1.1 b1.2 hxc hyc
    exact (lin.elim n2 n1).elim
  · by_cases b2 : cs.idxOf y = a - 1 ∧ cs.idxOf x = a
    · obtain ⟨rfl, rfl⟩ := bad y x b2.1 b2.2 hyc hxc
      exact (lin.elim n1 n2).elim
    · split <;> split <;> (try split) <;> (try split) <;> omega
theorem tdKept {H H' : Hp} {p c a : Addr} {cells : List Int} {xs : List V} (hI : HandIn H p c cells) (k : Kept p H H') (h : TD H a xs) : TD H' a xs := by
  obtain ⟨o, d, e⟩ := h
  refine ⟨o, d, k _ _ (fun z => ?_) e⟩
  obtain ⟨_, _, _, _, e2, _⟩ := hI.ob
  rw [← z, e] at e2
  cases e2
section
variable {P : Program} {w : World} {K : PySem.W.Frag} {mg : Str → Option Value} {base : Heap} {C : Addr}
def spAlike : Sp := fun vs H Q _ => ∃ (p c b d : Addr) (cells : List Int) (ps : List (Option Nat)) (cs : List Nat), vs = [.ref p, .ref b, .ref d] ∧ HandIn H p c cells ∧ TP H b ps ∧ Ps ps ∧ 1 ≤ ps.length ∧ ps.length ≤ 60 ∧ TDn H d cs ∧ CutsOk ps.length cs ∧
  ∀ t cs' H', CutsOk ps.length cs' → lvs ps cs' = lvs ps cs → HandIn H' p c cells → Kept p H H' → TDn H' t cs' → Q (.ref t) H'
def nAlike : List Str := ["_law_hand_here", "_law_parents_here", "_law_cuts", "_law_found", "_law_turn", "_law_at"]
theorem scAlike : FnScope nAlike ["_law_hand_here", "_law_parents_here", "_law_cuts"] (defScope sAlike) := ⟨rfl, rfl, rfl, by decide +kernel, rfl, by decide +kernel, by decide +kernel⟩
theorem dAlike (B : Defs K mg C) : Def P w K mg base "_law_alike" 2 ["_law_hand_here", "_law_parents_here", "_law_cuts"] spAlike := by
  obtain ⟨fD, fdD, GD, gD, kD, bD⟩ := dDraw (P := P) (w := w) (base := base) B
  obtain ⟨fR, fdR, GR, gR, kR, bR⟩ := dRoad (P := P) (w := w) (base := base) B
  have N := B.N
  refine def_of B.al fun f fd F => ?_
  refine F.ok scAlike (fun vs H Q E h => ?_) (fun cdv A outer s H vs Q E hr h => ?_)
  · obtain ⟨p, c, b, d, cells, ps, cs, rfl, _⟩ := h
    rfl
  · obtain ⟨p, c, b, d, cells, ps, cs, rfl, hI, hb, hp, hn1, h60, hd, hc, k⟩ := h
    have nd := scAlike.nd
    refine ⟨_, pss_cons (ps_set (i := 3) nd rfl (Or.inl rfl) (pe_callTy call_list_of (by rfl) N.is.lst (by decide +kernel) (pa_cons (pv 2) pa_nil)))
      (pss_cons (ps_for PassesOwn.never rfl (pi_range1 (by rfl) N.range (pa_cons (pe_op op_mul pe_int (pe_callB call_len_seq (by rfl) N.is.len PySem.boot_len (pa_cons (pv 2) pa_nil))) pa_nil)) (pg_name (i := 4) nd rfl (Or.inl rfl))
        (pss_cons (ps_set (i := 5) nd rfl (Or.inl rfl) (pe_call GD hr (by rfl) gD kD bD .nil pass0 (pa_cons (pv 0) (pa_cons (pe_callB call_len_seq (by rfl) N.is.len PySem.boot_len (pa_cons (pv 2) pa_nil)) pa_nil))))
        (pss_one (ps_if (PW.pt (pw_and (pt_cmpR op_gt (pv 5) pe_int (nomark _)) (pw_and1 (pt_cmpR op_notIn_seq (pe_ix ix_list (pv 3) (pv 5) (fun _ _ => rfl)) (pe_call GR hr (by rfl) gR kR bR .nil pass0 (pa_cons (pv 1) (pa_cons (pe_ix ix_list (pv 3) (pe_op op_sub (pv 5) pe_int) (fun _ _ => rfl)) pa_nil))) (by rfl)))))
          (pss_one (ps_if (pt_cmpR op_notIn_seq (pe_ix ix_list (pv 3) (pe_op op_sub (pv 5) pe_int) (fun _ _ => rfl)) (pe_call GR hr (by rfl) gR kR bR .nil pass0 (pa_cons (pv 1) (pa_cons (pe_ix ix_list (pv 3) (pv 5) (fun _ _ => rfl)) pa_nil))) (by rfl))
            (pss_one (ps_asg (pe_tup (pa_cons (pe_ix ix_list (pv 3) (pv 5) (fun _ _ => rfl)) (pa_cons (pe_ix ix_list (pv 3) (pe_op op_sub (pv 5) pe_int) (fun _ _ => rfl)) pa_nil))) (pg_tup rfl (pgs_cons (pg_sub (pv 3) (pe_op op_sub (pv 5) pe_int) set_list) (pgs_cons (pg_sub (pv 3) (pv 5) set_list) pgs_nil))))) pss_nil)) pss_nil))))
      (pss_one (ps_ret (pe_callTy call_tupD (by rfl) N.is.tup (by decide +kernel) (pa_cons (pv 3) pa_nil))))), ?_⟩
    have nd0 := hc.len
    refine ⟨_, rfl, d, _, rfl, .inr (tdT hd), fun L nL => ?_⟩
    have S1 := smUpd (o := .lst (cs.map vn)) nL
    have hL1 : upd H L (.lst (cs.map vn)) L = some (.lst (cs.map vn)) := upd_same
    have nLp := hand_ne hI nL
    generalize upd H L (.lst (cs.map vn)) = H1 at S1 hL1 ⊢
    refine ⟨_, rfl, d, _, rfl, .inr (tdT (tdSame S1 hd)), _, _, rfl, rfl, .inl ⟨by decide, by decide⟩, _, rfl, by rw [List.length_map]; omega, by rw [List.length_map]; omega, ?_⟩
    refine for_range (lo := 0) (n := (2 * ((cs.map vn).length : Int)).toNat) (fun _ σ H' => ∃ (t4 t5 : Option V) (cs' : List Nat), σ = [some (.ref p), some (.ref b), some (.ref d), some (.ref L), t4, t5] ∧ HandIn H' p c cells ∧ Kept p H H' ∧ H' L = some (.lst (cs'.map vn)) ∧ CutsOk ps.length cs' ∧ lvs ps cs' = lvs ps cs)
      ⟨none, none, cs, rfl, handIn_keep hI S1, kept_same S1, hL1, hc, rfl⟩ ?_ ?_
    · rintro m σ H2 hm ⟨t4, t5, cs', rfl, hI2, k2, hL2, hc2, hlv⟩
      have hd2 : TDn H2 d cs := tdKept hI k2 hd
      refine ⟨_, rfl, _, rfl, d, _, rfl, .inr (tdT hd2), p, c, cells, ((cs.map vn).length : Int), rfl, hI2, by rw [List.length_map]; omega, by rw [List.length_map]; omega, fun e a1 a2 a3 a4 e0 e1 a10 => ?_⟩
      have kk := kept_hand (p := p) (H := H2) (o := handL c a1 a2 a3 a4)
      have hI3 := handIn_upd (i := a1) (g := a2) (m := a3) (t := a4) hI2 a10
      have k3 := kept_trans k2 kk
      have hL3 := kk _ _ nLp hL2
      generalize upd H2 p (handL c a1 a2 a3 a4) = H3 at hI3 k3 hL3 ⊢
      obtain ⟨e, rfl⟩ := Int.eq_ofNat_of_zero_le e0
      rw [List.length_map] at e1
      have hel : e < cs'.length := by rw [hc2.len]; omega
      refine ⟨_, rfl, _, _, rfl, rfl, _, rfl, ?_⟩
      by_cases h0 : (0 : Int) < (e : Int)
      · refine ifT (decide_eq_true h0) ?_
        have e1q : ((e : Int) - 1) = ((e - 1 : Nat) : Int) := by omega
        have hv : cs'[e]? = some cs'[e] := List.getElem?_eq_getElem hel
        have hel1 : e - 1 < cs'.length := by omega
        have hu : cs'[e - 1]? = some cs'[e - 1] := List.getElem?_eq_getElem hel1
        have hvl : cs'[e] < ps.length := (hc2.mem _).mp (List.getElem_mem hel)
        have hul : cs'[e - 1] < ps.length := (hc2.mem _).mp (List.getElem_mem hel1)
        generalize cs'[e] = v at hv hvl
        generalize cs'[e - 1] = u at hu hul
        have hb3 : TP H3 b ps := k3 _ _ (tup_ne hI hb) hb
        refine ⟨_, rfl, _, rfl, L, _, (e : Int), _, rfl, rfl, .inl (.inl hL3), vn_ix hv, _, rfl, _, rfl, _, rfl, _, _, rfl, rfl, L, _, ((e : Int) - 1), vn u, rfl, rfl, .inl (.inl hL3), by rw [e1q]; exact vn_ix hu, b, ps, u, rfl, hb3, hp, h60, hul, fun r1 H4 s4 hr1 => ⟨r1, _, rfl, .inr (tnL hr1), rfl, vn_flat _, _, rfl, ?_⟩⟩
        have hI4 := handIn_keep hI3 s4
        have k4 := kept_trans k3 (kept_same s4)
        have hL4 := s4 _ _ hL3
        by_cases c1 : v ∈ road ps u
        · refine ifF (by show ¬ (!inV (vn v) _) = true; rw [inV_vn]; simpa using c1) ?_
          exact ⟨_, _, cs', rfl, hI4, k4, hL4, hc2, hlv⟩
        · refine ifT (by show (!inV (vn v) _) = true; rw [inV_vn]; simpa using c1) ?_
          refine ⟨_, rfl, _, rfl, _, _, rfl, rfl, L, _, ((e : Int) - 1), vn u, rfl, rfl, .inl (.inl hL4), by rw [e1q]; exact vn_ix hu, _, rfl, _, rfl, _, rfl, L, _, (e : Int), _, rfl, rfl, .inl (.inl hL4), vn_ix hv, b, ps, v, rfl, s4 _ _ hb3, hp, h60, hvl, fun r2 H5 s5 hr2 => ⟨r2, _, rfl, .inr (tnL hr2), rfl, vn_flat _, _, rfl, ?_⟩⟩
          have hI5 := handIn_keep hI4 s5
          have k5 := kept_trans k4 (kept_same s5)
          have hL5 := s5 _ _ hL4
          by_cases c2 : u ∈ road ps v
          · refine ifF (by show ¬ (!inV (vn u) _) = true; rw [inV_vn]; simpa using c2) ?_
            exact ⟨_, _, cs', rfl, hI5, k5, hL5, hc2, hlv⟩
          · refine ifT (by show (!inV (vn u) _) = true; rw [inV_vn]; simpa using c2) ?_
            refine ⟨_, rfl, _, rfl, L, _, (e : Int), _, rfl, rfl, .inl (.inl hL5), vn_ix hv, _, rfl, _, rfl, _, _, rfl, rfl, L, _, ((e : Int) - 1), vn u, rfl, rfl, .inl (.inl hL5), by rw [e1q]; exact vn_ix hu, by show 2 ≤ sizeLine; decide, fun t nt => ?_⟩
            have s6 := smUpd (o := .tup [vn v, vn u]) nt
            have ht : upd H5 t (.tup [vn v, vn u]) t = some (.tup [vn v, vn u]) := upd_same
            generalize upd H5 t (.tup [vn v, vn u]) = H6 at s6 ht ⊢
            have hL6 := s6 _ _ hL5
            obtain ⟨w1, w2⟩ := swap_ok hp hc2 (by omega : 0 < e) hu hv c1 c2
            refine ⟨t, _, rfl, .inl (.inl ht), rfl, _, _, rfl, _, rfl, _, rfl, _, _, rfl, rfl, L, _, ((e : Int) - 1), e - 1, rfl, rfl, hL6, by rw [e1q, List.length_map]; exact ixNat hel1, ?_⟩
            have hI7 := handIn_write (o := .lst ((cs'.map vn).set (e - 1) (vn v))) hI nL (handIn_keep hI5 s6)
            have k7 := kept_over (o := .lst ((cs'.map vn).set (e - 1) (vn v))) nL (kept_trans k5 (kept_same s6))
            have hL7 : upd H6 L (.lst ((cs'.map vn).set (e - 1) (vn v))) L = some (.lst ((cs'.map vn).set (e - 1) (vn v))) := upd_same
            generalize upd H6 L (.lst ((cs'.map vn).set (e - 1) (vn v))) = H7 at hI7 k7 hL7 ⊢
            refine ⟨_, _, rfl, _, rfl, _, rfl, L, _, (e : Int), e, rfl, rfl, hL7, by rw [List.length_set, List.length_map]; exact ixNat hel, rfl, ?_⟩
            refine ⟨_, _, (cs'.set (e - 1) v).set e u, rfl, handIn_write hI nL hI7, kept_over nL k7, ?_, w1, w2.trans hlv⟩
            rw [upd_same, List.map_set, List.map_set]
      · refine ifF (by rw [decide_eq_true_iff]; exact h0) ?_
        refine ifF (by decide) ?_
        exact ⟨_, _, cs', rfl, hI3, k3, hL3, hc2, hlv⟩
    · rintro σ H2 ⟨t4, t5, cs', rfl, hI2, k2, hL2, hc2, hlv⟩
      refine ⟨_, rfl, L, _, rfl, .inl (.inl hL2), fun T G sG hT => ?_⟩
      exact k T cs' G hc2 hlv (handIn_keep hI2 sG) (kept_trans k2 (kept_same sG)) hT
end
end Cn
namespace Cn
open PySem PySem.Spec PyProof.Rows L2 Ck
section
variable {X : Cx}
def tTupRgD (te : L2.St → Hp → (Int → Int → Hp → Prop) → Prop) : TE := fun σ H Q => te σ H fun a b H1 => RgOk a b ∧ ∀ q H', Same H1 H' → TD H' q (rgV a b) → Q (.ref q) H'
/-- tuple(range(..)) -/
theorem pe_tupRgD {e : Expr} {te : L2.St → Hp → (Int → Int → Hp → Prop) → Prop} {p pos : Pos} (hc : X.calm = true) (hg : Gl X "tuple") (hm : X.mg "tuple" = none) (he : PRg X e te) (na : starEach [e] X.env = (false, eval e X.env) :: starEach [] X.env := by rfl) : PE X (.Call (.Name "tuple" p) [e] [] pos) (tTupRgD te) := by
  refine ⟨fun pins s σ H Q I h => ?_⟩
  refine Call_ (ld_blt I hg hm boot_tuple (PyProof.Rows.callWith_type1 (args_cons (thn (he pins s σ H _ I h) fun x s1 ⟨r, a, b, t, u, v, H1, ex, hr, I1, ok, q⟩ => args_nil ?_) na) na))
  subst ex
  obtain ⟨b1, b2, b3, b4, b5⟩ := ok
  refine call_tuple_range (n := (b - a).toNat) (I1.ok.hd hc) hr (small_one b1 b2 b3 b4) (rangeSize_nat a b) b5 fun h' tk acc hk hi => ?_
  have I2 : Inv X pins σ H1 { s1 with heap := h', toks := tk } := I1.kept hk
  have hn : H1 h'.objs.size = none := I2.hok.fresh (Nat.le_refl _)
  have I3 := laidTD I2 (vals_rg hi) (by rw [rgV_length, sizeLine_eq]; omega)
  refine ⟨.ref h'.objs.size, _, ?_, rfl, q _ _ (smUpd hn) (tdNew (its := acc.toList))⟩
  have ea : acc.toList.toArray = acc := Array.toArray_toList
  rw [← ea]
  exact I3
def downV (a : Int) (n : Nat) : List V := (List.range n).map fun i => V.int (a + (i : Nat) * (-1))
theorem vals_down {a : Int} {n : Nat} {acc : Array Value} (h : ItemsOf (fun i v => ∃ t, v = .int (a + i * (-1)) t) acc n) : Vals (downV a n) acc.toList := by
  have e : acc.toList.length = n := by rw [Array.length_toList]; exact h.1
  unfold downV
  rw [← e]
  refine vals_of_get acc.toList _ fun j u hj => ?_
  obtain ⟨t, rfl⟩ := h.2 j u (by rw [← hj, Array.getElem?_toList])
  exact ⟨t, rfl⟩
def tTupDown (ta tb tc : TE) : TE := fun σ H Q => ta σ H fun x H1 => tb σ H1 fun y H2 => tc σ H2 fun z H3 => ∃ i : Int, x = .int i ∧ y = .int (-1) ∧ z = .int (-1) ∧ 0 ≤ i ∧ i < 1000 ∧ ∀ q H', Same H3 H' → TD H' q (downV i (i + 1).toNat) → Q (.ref q) H'
/-- tuple(range(i, -1, -1)) -/
theorem pe_tupDown {a b c : Expr} {ta tb tc : TE} {p p2 pos pos2 : Pos} (hc : X.calm = true) (hg : Gl X "tuple") (hm : X.mg "tuple" = none) (hg2 : Gl X "range") (hm2 : X.mg "range" = none) (ha : PE X a ta) (hb : PE X b tb) (hcc : PE X c tc)
    (n0 : starEach [.Call (.Name "range" p2) [a, b, c] [] pos2] X.env = (false, eval (.Call (.Name "range" p2) [a, b, c] [] pos2) X.env) :: starEach [] X.env := by rfl)
    (na : starEach [a, b, c] X.env = (false, eval a X.env) :: starEach [b, c] X.env := by rfl) (nb : starEach [b, c] X.env = (false, eval b X.env) :: starEach [c] X.env := by rfl) (nc : starEach [c] X.env = (false, eval c X.env) :: starEach [] X.env := by rfl)
    (hp : (backTo pos2 (starEach [b, c] X.env)).any (·.1) = false := by rfl) :
    PE X (.Call (.Name "tuple" p) [.Call (.Name "range" p2) [a, b, c] [] pos2] [] pos) (tTupDown ta tb tc) := by
  refine ⟨fun pins s σ H Q I h => ?_⟩
  refine Call_ (ld_blt I hg hm boot_tuple (PyProof.Rows.callWith_type1 (args_cons (Call_ (ld_blt I hg2 hm2 boot_range (PyProof.Rows.callWith_type1 (args_cons (thn (ha.run pins s σ H _ I h) fun v s1 ⟨x, H1, I1, r1, q1⟩ =>
    args_cons (thn (hb.run pins s1 σ H1 _ I1 q1) fun u s2 ⟨y, H2, I2, r2, q2⟩ => one_arg hcc I2 q2 (fun t s3 z H3 I3 r3 q => ?_) nc) nb) na) na hp))) n0) n0))
  obtain ⟨i, rfl, rfl, rfl, i0, i1, q⟩ := q
  obtain ⟨t1, rfl⟩ := r1
  obtain ⟨t2, rfl⟩ := r2
  obtain ⟨t3, rfl⟩ := r3
  refine call_range_3 (by decide) ?_ (Or.inl (PyProof.noPylong_small (by omega)))
  have I4 : Inv X pins σ H3 { s3 with heap := s3.heap.push { cls := .type "range", data := .fields #[.int i t1, .int (-1) t2, .int (-1) t3] } } := I3.kept (t' := s3.toks) fun b o e => Heap.get?_push_of_some _ e
  refine args_nil ?_
  refine call_tuple_range (n := (i - (-1)).toNat) (I4.ok.hd hc) (IsRange.new _ _ _ _ _ _ _) (PySem.W.small_down (by omega) (by omega) (by omega) (by omega)) (PySem.W.rangeSize_downNat i (-1)) (by omega) fun h' tk acc hk hi => ?_
  have I5 : Inv X pins σ H3 { s3 with heap := h', toks := tk } := I4.kept hk
  have hn : H3 h'.objs.size = none := I5.hok.fresh (Nat.le_refl _)
  have I6 := laidTD I5 (vals_down hi) (by unfold downV; rw [List.length_map, List.length_range, sizeLine_eq]; omega)
  have e : (i - (-1)).toNat = (i + 1).toNat := by omega
  rw [e] at I6
  refine ⟨.ref h'.objs.size, _, ?_, rfl, q _ _ (smUpd hn) (tdNew (its := acc.toList))⟩
  have ea : acc.toList.toArray = acc := Array.toArray_toList
  rw [← ea]
  exact I6
end
section
variable {P : Program} {w : World} {K : PySem.W.Frag} {mg : Str → Option Value} {base : Heap} {C : Addr}
theorem rangeCuts (n : Nat) : CutsOk n (List.range n) := ⟨List.length_range, List.nodup_range, fun _ => List.mem_range⟩
theorem downCuts (n : Nat) : CutsOk n ((List.range n).map fun k => n - 1 - k) := by
  refine ⟨by rw [List.length_map, List.length_range], ?_, fun x => ?_⟩
  · unfold List.Nodup
    rw [List.pairwise_map]
    exact (List.pairwise_lt_range (n := n)).imp_of_mem fun {a b} ha hb h => by
      have := List.mem_range.mp ha
      have := List.mem_range.mp hb
      omega
  · rw [List.mem_map]
    constructor
    · rintro ⟨k, hk, rfl⟩
      have := List.mem_range.mp hk
      omega
    · intro h
      exact ⟨n - 1 - x, List.mem_range.mpr (by omega), by omega⟩
theorem permCuts {n : Nat} {ws : List V} (h : ws.Perm ((List.range n).map vn)) : ∃ cs, ws = cs.map vn ∧ CutsOk n cs := by
  have hv : ∀ x ∈ ws, ∃ k : Nat, x = vn k := fun x hx => by
    obtain ⟨k, _, rfl⟩ := List.mem_map.mp (h.mem_iff.mp hx)
    exact ⟨k, rfl⟩
  have : ∀ l : List V, (∀ x ∈ l, ∃ k : Nat, x = vn k) → ∃ cs : List Nat, l = cs.map vn := fun l => by
    induction l with
    | nil => exact fun _ => ⟨[], rfl⟩
    | cons x l ih =>
      intro q
      obtain ⟨k, rfl⟩ := q x List.mem_cons_self
      obtain ⟨cs, rfl⟩ := ih fun y hy => q y (List.mem_cons_of_mem _ hy)
      exact ⟨k :: cs, rfl⟩
  obtain ⟨cs, rfl⟩ := this ws hv
  have inj : ∀ {l : List Nat} {x : Nat}, vn x ∈ l.map vn ↔ x ∈ l := fun {l x} => by
    rw [List.mem_map]
    exact ⟨fun ⟨y, hy, e⟩ => by
      have : y = x := by have := V.int.inj e; omega
      exact this ▸ hy, fun h => ⟨x, h, rfl⟩⟩
  refine ⟨cs, rfl, ?_, ?_, fun x => ?_⟩
  · have := h.length_eq
    rw [List.length_map, List.length_map, List.length_range] at this
    exact this
  · have nd : ((List.range n).map vn).Nodup := by
      unfold List.Nodup
      rw [List.pairwise_map]
      exact (List.nodup_range (n := n)).imp fun {a b} h e => h (by have := V.int.inj e; omega)
    have nd2 := (h.nodup_iff).mpr nd
    unfold List.Nodup at nd2
    rw [List.pairwise_map] at nd2
    exact nd2.imp fun {a b} h e => h (by rw [e])
  · rw [← inj (l := cs), h.mem_iff, inj, List.mem_range]
def spOrder : Sp := fun vs H Q _ => ∃ (p c : Addr) (cells : List Int) (n : Nat), vs = [.ref p, vn n] ∧ HandIn H p c cells ∧ 1 ≤ n ∧ n ≤ 60 ∧
  ∀ t cs H', CutsOk n cs → HandIn H' p c cells → Kept p H H' → TDn H' t cs → Q (.ref t) H'
def nOrder : List Str := ["_law_hand_here", "_law_places", "_law_kind"]
theorem scOrder : FnScope nOrder ["_law_hand_here", "_law_places"] (defScope sOrder) := ⟨rfl, rfl, rfl, by decide +kernel, rfl, by decide +kernel, by decide +kernel⟩
theorem dOrder (B : Defs K mg C) : Def P w K mg base "_law_order" 3 ["_law_hand_here", "_law_places"] spOrder := by
  obtain ⟨fD, fdD, GD, gD, kD, bD⟩ := dDraw (P := P) (w := w) (base := base) B
  obtain ⟨fM, fdM, GM, gM, kM, bM⟩ := dMixed (P := P) (w := w) (base := base) B
  have N := B.N
  refine def_of B.od fun f fd F => ?_
  refine F.ok scOrder (fun vs H Q E h => ?_) (fun cdv A outer s H vs Q E hr h => ?_)
  · obtain ⟨p, c, cells, n, rfl, _⟩ := h
    rfl
  · obtain ⟨p, c, cells, n, rfl, hI, hn1, h60, k⟩ := h
    have h1 : Room 1 (A.deeper (envOfC "_law_order" (defScope sOrder) s.heap.objs.size f cdv)) := Room.mono hr (by decide)
    have nd := scOrder.nd
    refine ⟨_, pss_cons (ps_set (i := 2) nd rfl (Or.inl rfl) (pe_call GD h1 (by rfl) gD kD bD .nil pass0 (pa_cons (pv 0) (pa_cons pe_int pa_nil))))
      (pss_cons (ps_if (pt_cmpR op_eq (pv 2) pe_int (nomark _)) (pss_one (ps_ret (pe_tupRgD rfl (by rfl) N.is.tup (prg_1 (by rfl) N.range (pv 1))))) pss_nil)
      (pss_cons (ps_if (pt_cmpR op_eq (pv 2) pe_int (nomark _)) (pss_one (ps_ret (pe_tupDown rfl (by rfl) N.is.tup (by rfl) N.range (pe_op op_sub (pv 1) pe_int) (pe_un un_neg pe_int) (pe_un un_neg pe_int)))) pss_nil)
      (pss_one (ps_ret (pe_callTy call_tupD (by rfl) N.is.tup (by decide +kernel) (pa_cons (pe_call GM hr (by rfl) gM kM bM .nil pass0 (pa_cons (pv 0) (pa_cons (pe_listRg rfl (by rfl) N.is.lst (prg_1 (by rfl) N.range (pv 1))) pa_nil))) pa_nil)))))), ?_⟩
    refine ⟨_, rfl, p, c, cells, 6, rfl, hI, by decide, by decide, fun e a1 a2 a3 a4 e0 e1 a10 => ?_⟩
    have kk := kept_hand (p := p) (H := H) (o := handL c a1 a2 a3 a4)
    have hI2 := handIn_upd (i := a1) (g := a2) (m := a3) (t := a4) hI a10
    generalize upd H p (handL c a1 a2 a3 a4) = H2 at hI2 kk ⊢
    refine ⟨_, rfl, rfl, _, rfl, ?_⟩
    refine ite2 (fun _ => ?_) (fun _ => ?_)
    · refine ⟨_, rfl, (n : Int), rfl, RgOk.of_le (by omega) (by omega) (by omega) (by omega), fun q G sG hq => ?_⟩
      rw [rgN] at hq
      exact k q _ G (rangeCuts n) (handIn_keep hI2 sG) (kept_trans kk (kept_same sG)) hq
    · refine ⟨_, rfl, rfl, _, rfl, ?_⟩
      refine ite2 (fun _ => ?_) (fun _ => ?_)
      · refine ⟨_, rfl, _, _, rfl, rfl, _, rfl, _, rfl, (n : Int) - 1, rfl, rfl, rfl, by omega, by omega, fun q G sG hq => ?_⟩
        have e2 : downV ((n : Int) - 1) ((n : Int) - 1 + 1).toNat = ((List.range n).map fun k => n - 1 - k).map vn := by
          unfold downV
          rw [show ((n : Int) - 1 + 1).toNat = n from by omega, List.map_map]
          refine List.map_congr_left fun i hi => ?_
          have := List.mem_range.mp hi
          show V.int ((n : Int) - 1 + (i : Nat) * (-1)) = V.int ((n - 1 - i : Nat) : Int)
          congr 1
          omega
        rw [e2] at hq
        exact k q _ G (downCuts n) (handIn_keep hI2 sG) (kept_trans kk (kept_same sG)) hq
      · refine ⟨_, rfl, _, rfl, (n : Int), rfl, RgOk.of_le (by omega) (by omega) (by omega) (by omega), fun l nl => ?_⟩
        rw [rgN]
        have s3 := smUpd (o := .lst ((List.range n).map vn)) nl
        have hl : upd H2 l (.lst ((List.range n).map vn)) l = some (.lst ((List.range n).map vn)) := upd_same
        generalize upd H2 l (.lst ((List.range n).map vn)) = H3 at s3 hl ⊢
        refine ⟨p, c, l, cells, _, rfl, handIn_keep hI2 s3, .inl hl, by rw [List.length_map, List.length_range]; omega, fun r ws H4 hperm hI4 k4 nr hr4 => ?_⟩
        obtain ⟨cs, rfl, hc⟩ := permCuts hperm
        refine ⟨r, _, rfl, .inl (.inl hr4), fun T G sG hT => ?_⟩
        exact k T cs G hc (handIn_keep hI4 sG) (kept_trans kk (kept_trans (kept_same s3) (kept_trans k4 (kept_same sG)))) hT
end
end Cn
namespace Cn
open PySem PySem.Spec PyProof.Rows L2 Ck
theorem foKept {C : Addr} {H H' : Hp} {p c a : Addr} {cells : List Int} {f : Fo} (hI : HandIn H p c cells) (k : Kept p H H') (h : FoAt C H a f) : FoAt C H' a f := by
  obtain ⟨dx, ap, ab, aa, h1, h2, h3, h4⟩ := h
  have ne : a ≠ p := fun z => by
    obtain ⟨_, _, _, _, e, _⟩ := hI.ob
    rw [← z, h1] at e; cases e
  exact ⟨dx, ap, ab, aa, k _ _ ne h1, k _ _ (tup_ne hI h2) h2, k _ _ (tup_ne hI h3) h3, k _ _ (tup_ne hI h4) h4⟩
/-- one of two numbers -/
theorem pickN {c : Prop} {_ : Decidable c} {σ : L2.St} {H : Hp} {Q : VK} {a b : Nat} (k : ∀ n : Nat, n = a ∨ n = b → Q (vn n) H) : if c then tC (.int (a : Int)) σ H Q else tC (.int (b : Int)) σ H Q := by
  by_cases h : c
  · rw [if_pos h]; exact k a (.inl rfl)
  · rw [if_neg h]; exact k b (.inr rfl)
def dNote (q : List Nat × List Nat) : PyData := .tuple [.tuple (dn q.1), .tuple (dn q.2)]
theorem dpNotes {K : PySem.W.Frag} {H : Hp} : ∀ {us : List V} {ns : List (List Nat × List Nat)}, NotesR H us ns → DpAll K H us (ns.map dNote)
  | _, _, .nil => .nil
  | _, _, .cons h t => by
    obtain ⟨a, x, y, rfl, h1, h2, h3⟩ := h
    exact .cons (.tup (.inl (.inl h1)) (.cons (.tup (tnL h2) (dpN _)) (.cons (.tup (tnL h3) (dpN _)) .nil))) (dpNotes t)
theorem dNoteLay : ∀ ns : List (List Nat × List Nat), PyData.canLayAll0 (ns.map dNote) = true
  | [] => rfl
  | q :: ns => by
    show ((PyData.canLayAll0 (dn q.1) && (PyData.canLayAll0 (dn q.2) && true)) && PyData.canLayAll0 (ns.map dNote)) = true
    rw [dNoteLay ns, dnLay, dnLay]; rfl
theorem dNoteDepth : ∀ ns : List (List Nat × List Nat), PyData.depthAll (ns.map dNote) ≤ 2
  | [] => by simp [PyData.depthAll]
  | q :: ns => by
    have h1 := dNoteDepth ns
    show max (max (PyData.depthAll (dn q.1) + 1) (max (PyData.depthAll (dn q.2) + 1) 0) + 1) (PyData.depthAll (ns.map dNote)) ≤ 2
    rw [dnDepth, dnDepth]
    omega
theorem dNoteSh (ns : List (List Nat × List Nat)) : SeqAt.shaped (.tuple (ns.map dNote)) = true := by
  show (PyData.canLayAll0 (ns.map dNote) && decide (PyData.depthAll (ns.map dNote) + 1 ≤ 64)) = true
  have := dNoteDepth ns
  rw [dNoteLay, decide_eq_true (by omega)]; rfl
theorem dNoteEq (ns : List (List Nat × List Nat)) : PyData.eqv (.tuple (ns.map dNote)) (.tuple (ns.map dNote)) = true := SeqAt.eqv_refl (.tuple (ns.map dNote)) (dNoteLay ns)
section
variable {P : Program} {w : World} {K : PySem.W.Frag} {mg : Str → Option Value} {base : Heap} {C : Addr}
theorem dHand (B : Defs K mg C) : Def P w K mg base "_law_hand" 1 ["_law_script"] (spHand K) := def_of B.ha fun f fd F => ok_hand F (nOf B).abs (nOf B).int (nOf B).is.len
def spLaw (K : PySem.W.Frag) : Sp := fun vs H Q _ => ∃ (a : Addr) (ns : List Int), vs = [.ref a] ∧ SqL K H a (ns.map V.int) ∧ ns.length ≤ 63 ∧ ∀ H', Q (.bl true) H'
end
end Cn
namespace Cn
open PySem PySem.Spec PyProof.Rows L2 Ck
section
variable {P : Program} {w : World} {K : PySem.W.Frag} {mg : Str → Option Value} {base : Heap} {C : Addr}
def nLaw : List Str := ["_law_script", "_law_hand_here", "_law_turn", "_law_told_here", "_law_made_here", "_law_cuts", "_law_place", "_law_firsts", "_law_plan", "_law_some_here", "_law_other"]
theorem scLaw : FnScope nLaw ["_law_script"] (defScope sLaw) := ⟨rfl, rfl, rfl, by decide +kernel, rfl, by decide +kernel, by decide +kernel⟩
theorem ok_law {f : Addr} {fd : FuncData} (F : Fun K "law" "law" sLaw f fd) (B : Defs K mg C) : FnOk P w K mg base CX0 10 f fd ["_law_script"] (spLaw K) := by
  obtain ⟨fH, fdH, GH, gH, kH, bH⟩ := dHand (P := P) (w := w) (base := base) B
  obtain ⟨fD, fdD, GD, gD, kD, bD⟩ := dDraw (P := P) (w := w) (base := base) B
  obtain ⟨fT, fdT, GT, gT, kT, bT⟩ := dTold (P := P) (w := w) (base := base) B
  obtain ⟨fM, fdM, GM, gM, kM, bM⟩ := dMade (P := P) (w := w) (base := base) B
  obtain ⟨fO, fdO, GO, gO, kO, bO⟩ := dOrder (P := P) (w := w) (base := base) B
  obtain ⟨fF, fdF, GF, gF, kF, bF⟩ := dFirsts (P := P) (w := w) (base := base) B
  obtain ⟨fP, fdP, GP, gP, kP, bP⟩ := dPlanOf (P := P) (w := w) (base := base) B
  obtain ⟨fI, fdI, GI, gI, kI, bI⟩ := dIs (P := P) (w := w) (base := base) B
  obtain ⟨fL, fdL, GL, gL, kL, bL⟩ := dIsPlan (P := P) (w := w) (base := base) B
  obtain ⟨fS, fdS, GS, gS, kS, bS⟩ := dStack (P := P) (w := w) (base := base) B
  obtain ⟨fC, fdC, GC, gC, kC, bC⟩ := dCutting (P := P) (w := w) (base := base) B
  obtain ⟨fN, fdN, GN, gN, kN, bN⟩ := dNotesOf (P := P) (w := w) (base := base) B
  obtain ⟨fG, fdG, GG, gG, kG, bG⟩ := dIsSingle (P := P) (w := w) (base := base) B
  obtain ⟨fA, fdA, GA, gA, kA, bA⟩ := dAlike (P := P) (w := w) (base := base) B
  have N := nOf B
  refine F.ok scLaw (fun vs H Q E h => ?_) (fun cdv A outer s H vs Q E hr h => ?_)
  · obtain ⟨a, ns, rfl, _⟩ := h
    rfl
  · obtain ⟨a, ns, rfl, hs, hl, k⟩ := h
    have h1 : Room 1 (A.deeper (envOfC "law" (defScope sLaw) s.heap.objs.size f cdv)) := Room.mono hr (by decide)
    have h2 : Room 2 (A.deeper (envOfC "law" (defScope sLaw) s.heap.objs.size f cdv)) := Room.mono hr (by decide)
    have h3 : Room 3 (A.deeper (envOfC "law" (defScope sLaw) s.heap.objs.size f cdv)) := Room.mono hr (by decide)
    have h4 : Room 4 (A.deeper (envOfC "law" (defScope sLaw) s.heap.objs.size f cdv)) := Room.mono hr (by decide)
    have h6 : Room 6 (A.deeper (envOfC "law" (defScope sLaw) s.heap.objs.size f cdv)) := Room.mono hr (by decide)
    have h7 : Room 7 (A.deeper (envOfC "law" (defScope sLaw) s.heap.objs.size f cdv)) := Room.mono hr (by decide)
    have nd := scLaw.nd
    refine ⟨_, pss_cons (ps_set (i := 1) nd rfl (Or.inl rfl) (pe_call GH h1 (by rfl) gH kH bH .nil pass0 (pa_cons (pv 0) pa_nil)))
      (pss_cons (ps_for PassesOwn.never rfl (pi_range1 (by rfl) N.range (pa_cons pe_int pa_nil)) (pg_name (i := 2) nd rfl (Or.inl rfl))
        (pss_cons (ps_set (i := 3) nd rfl (Or.inr rfl) (pe_call GT h3 (by rfl) gT kT bT .nil pass0 (pa_cons (pv 1) (pa_cons (pe_ifExp (pt_cmpR op_eq (pe_call GD h1 (by rfl) gD kD bD .nil pass0 (pa_cons (pv 1) (pa_cons pe_int pa_nil))) pe_int (nomark _)) pe_int pe_int) pa_nil))))
        (pss_cons (ps_set (i := 4) nd rfl (Or.inl rfl) (pe_call GM h6 (by rfl) gM kM bM .nil pass0 (pa_cons (pv 3) pa_nil)))
        (pss_cons (ps_set (i := 5) nd rfl (Or.inr rfl) (pe_call GO h3 (by rfl) gO kO bO .nil pass0 (pa_cons (pv 1) (pa_cons (pe_callB call_len_seq (by rfl) N.is.len PySem.boot_len (pa_cons (pe_ix ix_tup (pv 3) pe_int (fun _ _ => rfl)) pa_nil)) pa_nil))))
        (pss_cons (ps_setLc (i := 7) (own := [("_law_place", 6)]) (g := gName 6) (tt := tYes) (te := tCall spFirsts [] (fun _ _ _ => False) (tCons (tOp (rIxT K) (tVar 3) (tC (.int 0))) (tCons (tVar 5) (tCons (tVar 6) tNil)))) rfl nd rfl rfl (sw_true rfl rfl rfl (by decide +kernel)) (pi_range1 (by rfl) N.range (pa_cons (pe_callB call_len_seq (by rfl) N.is.len PySem.boot_len (pa_cons (pe_ix ix_tup (pv 3) pe_int (fun _ _ => rfl)) pa_nil)) pa_nil)) (blkOk_by (N := nLaw) (sc := defScope sLaw) (by decide +kernel)) (fun _ _ _ _ _ => (pg_name (i := 6) nd rfl (Or.inl rfl))) (fun _ _ _ _ _ => pts_nil) (fun _ _ _ _ _ => (pe_call GF h2 (by rfl) gF kF bF .nil pass0 (pa_cons (pe_ix (r := rIxT K) ix_tup (pv 3) pe_int (fun _ _ => rfl)) (pa_cons (pv 5) (pa_cons (pv 6) pa_nil))))))
        (pss_cons (ps_set (i := 8) nd rfl (Or.inl rfl) (pe_call GP h6 (by rfl) gP kP bP .nil pass0 (pa_cons (pv 4) (pa_cons (pv 5) pa_nil))))
        (pss_cons (ps_if (PW.pt (pw_or (pt_not (pt_val (pe_call GI h6 (by rfl) gI kI bI .nil pass0 (pa_cons (pv 8) (pa_cons (pe_callTy call_tuple_of (by rfl) N.is.tup (by decide +kernel) (pa_cons (pe_lc (own := [("_law_some_here", 9)]) (g := gName 9) (tt := tYes) (te := tCB (rLenQ K) (tCons (tVar 9) tNil)) rfl nd (pi_list (pv 7)) (blkOk_by (N := nLaw) (sc := defScope sLaw) (by decide +kernel)) (fun _ _ _ _ _ => (pg_name (i := 9) nd rfl (Or.inl rfl))) (fun _ _ _ _ _ => pts_nil) (fun _ _ _ _ _ => (pe_callB (r := rLenQ K) len_q (by rfl) N.is.len PySem.boot_len (pa_cons (pv 9) pa_nil)))) pa_nil)) pa_nil))))) (pw_or1 (pt_cmpR op_notBl (pe_call GL h3 (by rfl) gL kL bL .nil pass0 (pa_cons (pv 4) (pa_cons (pv 8) pa_nil))) pe_bl (nomark _))))) (pss_one ps_never) pss_nil)
        (pss_cons (ps_for PassesOwn.never rfl (pi_range1 (by rfl) N.range (pa_cons (pe_callB call_len_seq (by rfl) N.is.len PySem.boot_len (pa_cons (pe_ix ix_tup (pv 3) pe_int (fun _ _ => rfl)) pa_nil)) pa_nil)) (pg_name (i := 6) nd rfl (Or.inl rfl)) (pss_one (ps_if (pt_not (pt_val (pe_call GI h6 (by rfl) gI kI bI .nil pass0 (pa_cons (pe_call GS h4 (by rfl) gS kS bS .nil pass0 (pa_cons (pv 4) (pa_cons (pv 8) (pa_cons (pv 6) pa_nil)))) (pa_cons (pe_ix ix_list (pv 7) (pv 6) (fun _ _ => rfl)) pa_nil))))) (pss_one ps_never) pss_nil)))
        (pss_cons (ps_set (i := 9) nd rfl (Or.inl rfl) (pe_call GC h4 (by rfl) gC kC bC .nil pass0 (pa_cons (pv 3) (pa_cons (pv 5) pa_nil))))
        (pss_cons (ps_if (PW.pt (pw_or (pt_not (pt_val (pe_call GI h6 (by rfl) gI kI bI .nil pass0 (pa_cons (pe_call GN h7 (by rfl) gN kN bN .nil pass0 (pa_cons (pv 4) (pa_cons (pv 8) pa_nil))) (pa_cons (pv 9) pa_nil))))) (pw_or1 (pt_cmpR op_notBl (pe_call GG hr (by rfl) gG kG bG .nil pass0 (pa_cons (pv 4) (pa_cons (pv 9) pa_nil))) pe_bl (nomark _))))) (pss_one ps_never) pss_nil)
        (pss_cons (ps_set (i := 10) nd rfl (Or.inl rfl) (pe_call GA h2 (by rfl) gA kA bA .nil pass0 (pa_cons (pv 1) (pa_cons (pe_ix ix_tup (pv 3) pe_int (fun _ _ => rfl)) (pa_cons (pv 5) pa_nil)))))
        (pss_one (ps_if (PW.pt (pw_or (pt_cmpR (op_neD hr.units) (pe_call GP h6 (by rfl) gP kP bP .nil pass0 (pa_cons (pv 4) (pa_cons (pv 10) pa_nil))) (pv 8) (nomark _)) (pw_or1 (pt_cmpR (op_neD hr.units) (pe_call GC h4 (by rfl) gC kC bC .nil pass0 (pa_cons (pv 3) (pa_cons (pv 10) pa_nil))) (pv 9) (nomark _))))) (pss_one ps_never) pss_nil)))))))))))))
      (pss_one (ps_ret pe_bl))), ?_⟩
    refine ⟨_, rfl, a, ns, rfl, hs, hl, fun H1 p c cells s1 np nc hI => ⟨2, rfl, by decide, by decide, ?_⟩⟩
    refine for_range (lo := 0) (n := 2) (fun _ σ H' => HandIn H' p c cells ∧ ∃ t2 t3 t4 t5 t6 t7 t8 t9 t10 : Option V, σ = [some (.ref a), some (.ref p), t2, t3, t4, t5, t6, t7, t8, t9, t10]) ⟨hI, _, _, _, _, _, _, _, _, _, rfl⟩ ?_ ?_
    · rintro j σ H2 hj ⟨hI2, t2, t3, t4, t5, t6, t7, t8, t9, t10, rfl⟩
      refine ⟨_, rfl, _, rfl, p, c, cells, 24, rfl, hI2, by decide, by decide, fun d a1 a2 a3 a4 d0 d1 a10 => ⟨rfl, _, rfl, ?_⟩⟩
      have hI3 := handIn_upd (i := a1) (g := a2) (m := a3) (t := a4) hI2 a10
      generalize upd H2 p (handL c a1 a2 a3 a4) = H3 at hI3 ⊢
      refine pickN (a := 30) (b := 12) fun n hn => ?_
      refine ⟨p, c, cells, n, rfl, hI3, by omega, by omega, fun r fo H4 ok hlen hI4 k4 hT4 => ?_⟩
      refine ⟨_, rfl, r, fo, rfl, hT4, ok, fun m H5 s5 hF5 => ?_⟩
      have hI5 := handIn_keep hI4 s5
      have hT5 := tolSame s5 hT4
      have n60 := ok.l1
      have n1 := ok.l0
      obtain ⟨ap, ab, aa, e0, e1, e2, e3⟩ := id hT5
      have eqL : [V.ref p, V.int ((fo.ps.map vp).length : Int)] = [V.ref p, vn fo.ps.length] := by rw [List.length_map]
      refine ⟨_, rfl, _, rfl, r, _, (0 : Int), _, rfl, rfl, .inl (.inl e0), rfl, ap, _, rfl, .inr (tpL e1), p, c, cells, fo.ps.length, eqL, hI5, n1, n60, fun ct cs H6 hc hI6 k6 hd => ?_⟩
      have hT6 := tolKept hI5 k6 hT5
      have hF6 := foKept hI5 k6 hF5
      have e06 := k6 _ _ (tup_ne hI5 e0) e0
      have e16 : TP H6 ap fo.ps := k6 _ _ (tup_ne hI5 e1) e1
      -- the first ones of each place
      refine ⟨_, rfl, r, _, (0 : Int), _, rfl, rfl, .inl (.inl e06), rfl, ap, _, rfl, .inr (tpL e16), ((fo.ps.map vp).length : Int), rfl, by omega, by rw [List.length_map]; omega, fun D nD => ?_⟩
      rw [List.length_map, Int.toNat_natCast]
      refine lc_range (lo := 0) (n := fo.ps.length) (fun i G => Same H6 G ∧ ∃ us, G D = some (.lst us) ∧ TNs G us ((List.range i).map fun i => rlm (fun x => cs.idxOf x) (road fo.ps i))) ⟨smUpd nD, [], upd_same, .nil⟩ ?_ ?_
      · rintro i G hi ⟨sm, us, hD, hU⟩
        rw [show (0 : Int) + ((i : Nat) : Int) = ((i : Nat) : Int) from Int.zero_add _]
        refine ⟨rfl, _, rfl, r, _, (0 : Int), _, rfl, rfl, .inl (.inl (sm _ _ e06)), rfl, _, rfl, _, rfl, ap, ct, fo.ps, cs, i, rfl, sm _ _ e16, tdSame sm hd, hc, ok.ps, n60, hi, fun T G2 s2 hT2 => ?_⟩
        have ul : us.length = i := by rw [Paired.length hU, List.length_map, List.length_range]
        have hD2 := s2 _ _ hD
        refine ⟨us, hD2, small1000 (by omega), smOver nD (sm.trans s2), _, upd_same, ?_⟩
        rw [List.range_succ, List.map_append]
        exact tnsUpd hD2 (pairedSnoc (tnsSame s2 hU) ⟨T, rfl, hT2⟩)
      rintro H7 ⟨s7, us, hD, hU⟩
      have ul : us.length = fo.ps.length := by rw [Paired.length hU, List.length_map, List.length_range]
      -- the plan
      refine ⟨_, rfl, _, rfl, m, ct, fo, cs, rfl, foAt_same s7 hF6, tdSame s7 hd, ok.ps, n60, hc, fun pl H8 s8 hpl => ?_⟩
      have hpl : TN H8 pl (lvs fo.ps cs) := hpl
      have S8 := s7.trans s8
      have ll : (lvs fo.ps cs).length = fo.ps.length := by unfold lvs; rw [List.length_map, List.length_range]
      refine ⟨_, rfl, _, rfl, D, rfl, ⟨_, .inl (.inl (s8 _ _ hD))⟩, fun E1 nE => ?_⟩
      refine lc_list (xs := us) (fun i G => Same H8 G ∧ G E1 = some (.lst (((List.range i).map (lvOf fo.ps cs)).map vn))) ⟨smUpd nE, upd_same⟩ (fun i G _ z => .inl (.inl (z.1 _ _ (s8 _ _ hD)))) ?_ ?_
      · rintro i x G hx ⟨sm, hE⟩
        have hi := (List.getElem?_eq_some_iff.mp hx).1
        obtain ⟨l, hl2, t, rfl, ht⟩ := pairedGetQ (tnsSame (s8.trans sm) hU) hx
        have el : l = rlm (fun x => cs.idxOf x) (road fo.ps i) := by
          rw [List.getElem?_map, List.getElem?_range (by omega)] at hl2
          exact (Option.some.inj hl2).symm
        refine ⟨rfl, _, rfl, t, _, rfl, .inr (tnL ht), ?_⟩
        refine ⟨_, hE, small1000 (by rw [List.length_map, List.length_map, List.length_range]; omega), smOver nE sm, ?_⟩
        rw [upd_same, List.range_succ, List.map_append, List.map_append, el, List.length_map]
        rfl
      rintro H9 ⟨s9, hE⟩
      rw [ul] at hE
      have hE : H9 E1 = some (.lst ((lvs fo.ps cs).map vn)) := hE
      refine ⟨E1, _, rfl, .inl ⟨.inl (.inl hE), fun T nT => ?_⟩⟩
      have s10 := s9.trans (smUpd (o := .tup ((lvs fo.ps cs).map vn)) nT)
      have hT10 : TN (upd H9 T (.tup ((lvs fo.ps cs).map vn))) T (lvs fo.ps cs) := upd_same
      generalize upd H9 T (.tup ((lvs fo.ps cs).map vn)) = H10 at s10 hT10 ⊢
      refine ⟨.ref pl, .ref T, rfl, .inl (.inl (eqN (s10 _ _ hpl) hT10 (by omega))), fun H11 s11 => ⟨true, rfl, ?_⟩⟩
      refine ifF (by decide) ?_
      have w11 := s10.trans s11
      have S11 := S8.trans w11
      have hpl11 := w11 _ _ hpl
      refine ⟨_, rfl, _, rfl, m, pl, fo, lvs fo.ps cs, rfl, foAt_same S11 hF6, hpl11, ok.ps, lvs_lv ok.ps, fun H12 s12 => ⟨_, _, rfl, rfl, _, rfl, ?_⟩⟩
      refine ifF (by decide) ?_
      have w12 := w11.trans s12
      have S12 := S8.trans w12
      -- its stacks
      refine ⟨_, rfl, r, _, (0 : Int), _, rfl, rfl, .inl (.inl (S12 _ _ e06)), rfl, ap, _, rfl, .inr (tpL (S12 _ _ e16)), ((fo.ps.map vp).length : Int), rfl, by omega, by rw [List.length_map]; omega, ?_⟩
      rw [List.length_map, Int.toNat_natCast]
      refine for_range (lo := 0) (n := fo.ps.length) (fun i σ G => ∃ t6 : Option V, σ = [some (.ref a), some (.ref p), some (.int (0 + (j : Nat))), some (.ref r), some (.ref m), some (.ref ct), t6, some (.ref D), some (.ref pl), t9, t10] ∧ Same H12 G) ⟨_, rfl, Same.refl _⟩ ?_ ?_
      · rintro i σ G hi ⟨t6, rfl, sm⟩
        rw [show (0 : Int) + ((i : Nat) : Int) = ((i : Nat) : Int) from Int.zero_add _]
        have SG := S12.trans sm
        refine ⟨_, rfl, _, rfl, _, rfl, m, pl, fo, lvs fo.ps cs, i, rfl, foAt_same SG hF6, (w12.trans sm) _ _ hpl, ok.ps, n60, lvs_lv ok.ps, hi, fun sr G2 s2 hsr => ?_⟩
        rw [lvs_stk ok.ps hi] at hsr
        obtain ⟨u, hu⟩ : ∃ u, us[i]? = some u := ⟨_, List.getElem?_eq_getElem (by omega)⟩
        have wU := s8.trans (w12.trans (sm.trans s2))
        obtain ⟨l, hl2, t, rfl, ht⟩ := pairedGetQ (tnsSame wU hU) hu
        have el : l = rlm (fun x => cs.idxOf x) (road fo.ps i) := by
          rw [List.getElem?_map, List.getElem?_range hi] at hl2
          exact (Option.some.inj hl2).symm
        subst el
        have rle : (rlm (fun x => cs.idxOf x) (road fo.ps i)).length ≤ 1000 := by
          have := stk_len ok.ps (lvs_lv (cs := cs) ok.ps) i hi
          rw [lvs_stk ok.ps hi] at this
          have q := lvLe ok.ps (lvs_lv (cs := cs) ok.ps) i hi
          omega
        refine ⟨_, rfl, _, rfl, D, us, (i : Int), _, rfl, rfl, .inl (.inl (wU _ _ hD)), atI_nat hu, .ref sr, .ref t, rfl, .inl (.inl (eqN hsr ht rle)), fun G3 s3 => ⟨true, rfl, ?_⟩⟩
        refine ifF (by decide) ?_
        exact ⟨_, rfl, sm.trans (s2.trans s3)⟩
      rintro σ H13 ⟨t6, rfl, s13⟩
      have w13 := w12.trans s13
      have S13 := S8.trans w13
      -- the notes
      refine ⟨_, rfl, _, rfl, r, ct, fo, cs, rfl, tolSame S13 hT6, ok, tdSame S13 hd, hc, fun sn un H14 s14 hsn hun => ?_⟩
      have w14 := w13.trans s14
      have S14 := S8.trans w14
      have nok := notes_ok (cs := cs) ok hc
      refine ⟨_, rfl, _, rfl, m, pl, fo, lvs fo.ps cs, rfl, foAt_same S14 hF6, w14 _ _ hpl, ok, lvs_lv ok.ps, fun nr ur H15 s15 hnr hur => ?_⟩
      have b2 : ∀ q ∈ notesOf fo.ps fo.be fo.as (lvs fo.ps cs) fo.ps.length, q.1.length ≤ 1000 ∧ q.2.length ≤ 1000 := fun q hq => ⟨by have := (nok.all q hq).l1; omega, by have := (nok.all q hq).l2; omega⟩
      have nl := nok.len
      refine ⟨_, rfl, .ref nr, .ref sn, rfl, .inr ⟨nr, sn, ur, un, rfl, rfl, .inr ⟨hnr, s15 _ _ hsn⟩, by rw [Paired.length hur]; omega, eqNotes b2 hur (notesSame s15 hun)⟩, fun H16 s16 => ⟨true, rfl, ?_⟩⟩
      refine ifF (by decide) ?_
      have v16 := s15.trans s16
      have w16 := w14.trans v16
      have S16 := S8.trans w16
      refine ⟨_, rfl, _, rfl, m, sn, fo, un, _, rfl, foAt_same S16 hF6, ok, .inr (v16 _ _ hsn), notesSame v16 hun, nok, fun H17 s17 => ⟨_, _, rfl, rfl, _, rfl, ?_⟩⟩
      rw [notes_single ok hc]
      refine ifF (by decide) ?_
      have v17 := v16.trans s17
      have w17 := w14.trans v17
      have S17 := S8.trans w17
      -- another order alike
      have hI17 := handIn_keep hI6 S17
      have hd17 : TDn H17 ct cs := tdSame S17 hd
      refine ⟨_, rfl, _, rfl, r, _, (0 : Int), _, rfl, rfl, .inl (.inl (S17 _ _ e06)), rfl, _, rfl, p, c, ap, ct, cells, fo.ps, cs, rfl, hI17, S17 _ _ e16, ok.ps, n1, n60, hd17, hc, fun ot cs2 H18 hc2 hlv hI18 k18 hd18 => ?_⟩
      have hF18 := foKept hI17 k18 (foAt_same S17 hF6)
      have hT18 := tolKept hI17 k18 (tolSame S17 hT6)
      have hpl17 : TN H17 pl (lvs fo.ps cs) := w17 _ _ hpl
      have hpl18 : TN H18 pl (lvs fo.ps cs) := k18 _ _ (tup_ne hI17 hpl17) hpl17
      have hsn17 := v17 _ _ hsn
      have hsn18 := k18 _ _ (tup_ne hI17 hsn17) hsn17
      have hun18 := notesKept hI17 k18 (notesSame v17 hun)
      refine ⟨_, rfl, _, rfl, m, ot, fo, cs2, rfl, hF18, hd18, ok.ps, n60, hc2, fun pl2 H19 s19 hpl2 => ?_⟩
      have hpl2 : TN H19 pl2 (lvs fo.ps cs2) := hpl2
      rw [hlv] at hpl2
      refine ⟨_, rfl, _, _, .tup (tnL hpl2) (dpN _), .tup (tnL (s19 _ _ hpl18)) (dpN _), dnShT _, dnShT _, _, rfl, ?_⟩
      rw [dnEqT]
      refine ifF (by decide) ?_
      refine ⟨_, rfl, _, rfl, r, ot, fo, cs2, rfl, tolSame s19 hT18, ok, tdSame s19 hd18, hc2, fun sn2 un2 H20 s20 hsn2 hun2 => ?_⟩
      rw [hlv] at hun2
      refine ⟨_, rfl, _, _, .tup (.inl (.inl hsn2)) (dpNotes hun2), .tup (.inl (.inl (s20 _ _ (s19 _ _ hsn18)))) (dpNotes (notesSame (s19.trans s20) hun18)), dNoteSh _, dNoteSh _, _, rfl, ?_⟩
      rw [dNoteEq]
      refine ifF (by decide) ?_
      exact ⟨handIn_keep hI18 (s19.trans s20), _, _, _, _, _, _, _, _, _, rfl⟩
    · rintro σ H2 _
      exact k H2
end
end Cn
namespace Cn
open PySem PySem.Spec PyProof.Rows L2 Ck
/-- all the facts of the top, and the law's own promise -/
theorem all_mk {P : Program} {w : World} {K : PySem.W.Frag} {h : Heap} {mg : Str → Option Value} {fa C : Addr} {tm tmMOST_NOTES : Tok} (X : K.In h) (G : h.Ns mainGlobals mg) (hfa : mg "law" = some (.ref fa))
    {fd0 : Addr} {ocd0 kVd0 dcd0 pmd0 cdd0 ctd0 : Value} {odd0 and0 : Option Addr} {sld0 : Array (Option Value)}
    {fd1 : Addr} {ocd1 kVd1 dcd1 pmd1 cdd1 ctd1 : Value} {odd1 and1 : Option Addr} {sld1 : Array (Option Value)}
    {fd2 : Addr} {ocd2 kVd2 dcd2 pmd2 cdd2 ctd2 : Value} {odd2 and2 : Option Addr} {sld2 : Array (Option Value)}
    {fd3 : Addr} {ocd3 kVd3 dcd3 pmd3 cdd3 ctd3 : Value} {odd3 and3 : Option Addr} {sld3 : Array (Option Value)}
    {fd4 : Addr} {ocd4 kVd4 dcd4 pmd4 cdd4 ctd4 : Value} {odd4 and4 : Option Addr} {sld4 : Array (Option Value)}
    {fd5 : Addr} {ocd5 kVd5 dcd5 pmd5 cdd5 ctd5 : Value} {odd5 and5 : Option Addr} {sld5 : Array (Option Value)}
    {fd6 : Addr} {ocd6 kVd6 dcd6 pmd6 cdd6 ctd6 : Value} {odd6 and6 : Option Addr} {sld6 : Array (Option Value)}
    {fd7 : Addr} {ocd7 kVd7 dcd7 pmd7 cdd7 ctd7 : Value} {odd7 and7 : Option Addr} {sld7 : Array (Option Value)}
    {fd8 : Addr} {ocd8 kVd8 dcd8 pmd8 cdd8 ctd8 : Value} {odd8 and8 : Option Addr} {sld8 : Array (Option Value)}
    {fd9 : Addr} {ocd9 kVd9 dcd9 pmd9 cdd9 ctd9 : Value} {odd9 and9 : Option Addr} {sld9 : Array (Option Value)}
    {fd10 : Addr} {ocd10 kVd10 dcd10 pmd10 cdd10 ctd10 : Value} {odd10 and10 : Option Addr} {sld10 : Array (Option Value)}
    {fd11 : Addr} {ocd11 kVd11 dcd11 pmd11 cdd11 ctd11 : Value} {odd11 and11 : Option Addr} {sld11 : Array (Option Value)}
    {fd12 : Addr} {ocd12 kVd12 dcd12 pmd12 cdd12 ctd12 : Value} {odd12 and12 : Option Addr} {sld12 : Array (Option Value)}
    {fd13 : Addr} {ocd13 kVd13 dcd13 pmd13 cdd13 ctd13 : Value} {odd13 and13 : Option Addr} {sld13 : Array (Option Value)}
    {fd14 : Addr} {ocd14 kVd14 dcd14 pmd14 cdd14 ctd14 : Value} {odd14 and14 : Option Addr} {sld14 : Array (Option Value)}
    {fd15 : Addr} {ocd15 kVd15 dcd15 pmd15 cdd15 ctd15 : Value} {odd15 and15 : Option Addr} {sld15 : Array (Option Value)}
    {fd16 : Addr} {ocd16 kVd16 dcd16 pmd16 cdd16 ctd16 : Value} {odd16 and16 : Option Addr} {sld16 : Array (Option Value)}
    {fd17 : Addr} {ocd17 kVd17 dcd17 pmd17 cdd17 ctd17 : Value} {odd17 and17 : Option Addr} {sld17 : Array (Option Value)}
    {fd18 : Addr} {ocd18 kVd18 dcd18 pmd18 cdd18 ctd18 : Value} {odd18 and18 : Option Addr} {sld18 : Array (Option Value)}
    {fd19 : Addr} {ocd19 kVd19 dcd19 pmd19 cdd19 ctd19 : Value} {odd19 and19 : Option Addr} {sld19 : Array (Option Value)}
    {fd20 : Addr} {ocd20 kVd20 dcd20 pmd20 cdd20 ctd20 : Value} {odd20 and20 : Option Addr} {sld20 : Array (Option Value)}
    {fd21 : Addr} {ocd21 kVd21 dcd21 pmd21 cdd21 ctd21 : Value} {odd21 and21 : Option Addr} {sld21 : Array (Option Value)}
    {fd22 : Addr} {ocd22 kVd22 dcd22 pmd22 cdd22 ctd22 : Value} {odd22 and22 : Option Addr} {sld22 : Array (Option Value)}
    {fd23 : Addr} {ocd23 kVd23 dcd23 pmd23 cdd23 ctd23 : Value} {odd23 and23 : Option Addr} {sld23 : Array (Option Value)}
    {fd24 : Addr} {ocd24 kVd24 dcd24 pmd24 cdd24 ctd24 : Value} {odd24 and24 : Option Addr} {sld24 : Array (Option Value)}
    {fd25 : Addr} {ocd25 kVd25 dcd25 pmd25 cdd25 ctd25 : Value} {odd25 and25 : Option Addr} {sld25 : Array (Option Value)}
    {fd26 : Addr} {ocd26 kVd26 dcd26 pmd26 cdd26 ctd26 : Value} {odd26 and26 : Option Addr} {sld26 : Array (Option Value)}
    {fd27 : Addr} {ocd27 kVd27 dcd27 pmd27 cdd27 ctd27 : Value} {odd27 and27 : Option Addr} {sld27 : Array (Option Value)}
    {fd28 : Addr} {ocd28 kVd28 dcd28 pmd28 cdd28 ctd28 : Value} {odd28 and28 : Option Addr} {sld28 : Array (Option Value)}
    {fd29 : Addr} {ocd29 kVd29 dcd29 pmd29 cdd29 ctd29 : Value} {odd29 and29 : Option Addr} {sld29 : Array (Option Value)}
    {fd30 : Addr} {ocd30 kVd30 dcd30 pmd30 cdd30 ctd30 : Value} {odd30 and30 : Option Addr} {sld30 : Array (Option Value)}
    {fd31 : Addr} {ocd31 kVd31 dcd31 pmd31 cdd31 ctd31 : Value} {odd31 and31 : Option Addr} {sld31 : Array (Option Value)}
    {fd32 : Addr} {ocd32 kVd32 dcd32 pmd32 cdd32 ctd32 : Value} {odd32 and32 : Option Addr} {sld32 : Array (Option Value)}
    {fd33 : Addr} {ocd33 kVd33 dcd33 pmd33 cdd33 ctd33 : Value} {odd33 and33 : Option Addr} {sld33 : Array (Option Value)}
    {fd34 : Addr} {ocd34 kVd34 dcd34 pmd34 cdd34 ctd34 : Value} {odd34 and34 : Option Addr} {sld34 : Array (Option Value)}
    {fd35 : Addr} {ocd35 kVd35 dcd35 pmd35 cdd35 ctd35 : Value} {odd35 and35 : Option Addr} {sld35 : Array (Option Value)}
    {fd36 : Addr} {ocd36 kVd36 dcd36 pmd36 cdd36 ctd36 : Value} {odd36 and36 : Option Addr} {sld36 : Array (Option Value)}
    {fd37 : Addr} {ocd37 kVd37 dcd37 pmd37 cdd37 ctd37 : Value} {odd37 and37 : Option Addr} {sld37 : Array (Option Value)}
    {fd38 : Addr} {ocd38 kVd38 dcd38 pmd38 cdd38 ctd38 : Value} {odd38 and38 : Option Addr} {sld38 : Array (Option Value)}
    {fW : Addr} {ocW kVW dcW pmW cdW ctW : Value} {odW anW : Option Addr} {slW : Array (Option Value)}
    {fN : Addr} {ocN kVN dcN pmN cdN ctN : Value} {odN anN : Option Addr} {slN : Array (Option Value)}
    (aC : PySem.W.nsIn K mainGlobals "Forest" = some (some (.ref C))) (pg : PySem.W.plainGet K C Str.empty = true) (hd : PySem.W.hasDictIn K C = true) (po : PySem.W.plainOver K C = true) (sa : PySem.W.findIn K (.ref C) "__setattr__" = some (some (.builtin "object.__setattr__")))
    (mk : PySem.W.makesIn K C = true) (kc : PySem.W.keepIn K (.ref C) = true) (nP : PySem.W.findIn K (.ref C) "parents" = some none) (nB : PySem.W.findIn K (.ref C) "bearing" = some none) (nA : PySem.W.findIn K (.ref C) "asking" = some none)
    (mM : PySem.W.nsIn K mainGlobals "MOST_PLACES" = some (some (.int 60 tm))) (mMOST_NOTES : PySem.W.nsIn K mainGlobals "MOST_NOTES" = some (some (.int 200 tmMOST_NOTES)))
    (aN : PySem.W.findIn K (.ref C) "__init__" = some (some (.ref fN))) (iN : PySem.W.isFn K (.ref fN) = true) (lN : K.lookup fN = some ⟨ocN, odN, .func (PySem.W.fnOf "__init__" "Forest.__init__" (defArgs sInit) (defBody sInit) (defScope sInit) .none kVN dcN pmN anN cdN ctN), slN⟩) (oN : PySem.W.codeIn K cdN "Forest.__init__" = true) (kN : PySem.W.keepIn K (.ref fN) = true)
    (ad0 : PySem.W.nsIn K mainGlobals "is_integer" = some (some (.ref fd0))) (ld0 : K.lookup fd0 = some ⟨ocd0, odd0, .func (PySem.W.fnOf "is_integer" "is_integer" (defArgs sIsInt) (defBody sIsInt) (defScope sIsInt) .none kVd0 dcd0 pmd0 and0 cdd0 ctd0), sld0⟩) (od0 : PySem.W.codeIn K cdd0 "is_integer" = true) (kd0 : PySem.W.keepIn K (.ref fd0) = true)
    (ad1 : PySem.W.nsIn K mainGlobals "is_between" = some (some (.ref fd1))) (ld1 : K.lookup fd1 = some ⟨ocd1, odd1, .func (PySem.W.fnOf "is_between" "is_between" (defArgs sIsBtw) (defBody sIsBtw) (defScope sIsBtw) .none kVd1 dcd1 pmd1 and1 cdd1 ctd1), sld1⟩) (od1 : PySem.W.codeIn K cdd1 "is_between" = true) (kd1 : PySem.W.keepIn K (.ref fd1) = true)
    (ad2 : PySem.W.nsIn K mainGlobals "is_lot" = some (some (.ref fd2))) (ld2 : K.lookup fd2 = some ⟨ocd2, odd2, .func (PySem.W.fnOf "is_lot" "is_lot" (defArgs sIsLot) (defBody sIsLot) (defScope sIsLot) .none kVd2 dcd2 pmd2 and2 cdd2 ctd2), sld2⟩) (od2 : PySem.W.codeIn K cdd2 "is_lot" = true) (kd2 : PySem.W.keepIn K (.ref fd2) = true)
    (ad3 : PySem.W.nsIn K mainGlobals "_is_lot_of_places" = some (some (.ref fd3))) (ld3 : K.lookup fd3 = some ⟨ocd3, odd3, .func (PySem.W.fnOf "_is_lot_of_places" "_is_lot_of_places" (defArgs sLotOf) (defBody sLotOf) (defScope sLotOf) .none kVd3 dcd3 pmd3 and3 cdd3 ctd3), sld3⟩) (od3 : PySem.W.codeIn K cdd3 "_is_lot_of_places" = true) (kd3 : PySem.W.keepIn K (.ref fd3) = true)
    (ad4 : PySem.W.nsIn K mainGlobals "is_place" = some (some (.ref fd4))) (ld4 : K.lookup fd4 = some ⟨ocd4, odd4, .func (PySem.W.fnOf "is_place" "is_place" (defArgs sIsPlace) (defBody sIsPlace) (defScope sIsPlace) .none kVd4 dcd4 pmd4 and4 cdd4 ctd4), sld4⟩) (od4 : PySem.W.codeIn K cdd4 "is_place" = true) (kd4 : PySem.W.keepIn K (.ref fd4) = true)
    (ad5 : PySem.W.nsIn K mainGlobals "way" = some (some (.ref fd5))) (ld5 : K.lookup fd5 = some ⟨ocd5, odd5, .func (PySem.W.fnOf "way" "way" (defArgs sWay) (defBody sWay) (defScope sWay) .none kVd5 dcd5 pmd5 and5 cdd5 ctd5), sld5⟩) (od5 : PySem.W.codeIn K cdd5 "way" = true) (kd5 : PySem.W.keepIn K (.ref fd5) = true)
    (ad6 : PySem.W.nsIn K mainGlobals "is_plan" = some (some (.ref fd6))) (ld6 : K.lookup fd6 = some ⟨ocd6, odd6, .func (PySem.W.fnOf "is_plan" "is_plan" (defArgs sIsPlan) (defBody sIsPlan) (defScope sIsPlan) .none kVd6 dcd6 pmd6 and6 cdd6 ctd6), sld6⟩) (od6 : PySem.W.codeIn K cdd6 "is_plan" = true) (kd6 : PySem.W.keepIn K (.ref fd6) = true)
    (ad7 : PySem.W.nsIn K mainGlobals "_is_cuts" = some (some (.ref fd7))) (ld7 : K.lookup fd7 = some ⟨ocd7, odd7, .func (PySem.W.fnOf "_is_cuts" "_is_cuts" (defArgs sIsCuts) (defBody sIsCuts) (defScope sIsCuts) .none kVd7 dcd7 pmd7 and7 cdd7 ctd7), sld7⟩) (od7 : PySem.W.codeIn K cdd7 "_is_cuts" = true) (kd7 : PySem.W.keepIn K (.ref fd7) = true)
    (ad8 : PySem.W.nsIn K mainGlobals "_level" = some (some (.ref fd8))) (ld8 : K.lookup fd8 = some ⟨ocd8, odd8, .func (PySem.W.fnOf "_level" "_level" (defArgs sLevel) (defBody sLevel) (defScope sLevel) .none kVd8 dcd8 pmd8 and8 cdd8 ctd8), sld8⟩) (od8 : PySem.W.codeIn K cdd8 "_level" = true) (kd8 : PySem.W.keepIn K (.ref fd8) = true)
    (ad9 : PySem.W.nsIn K mainGlobals "plan_of" = some (some (.ref fd9))) (ld9 : K.lookup fd9 = some ⟨ocd9, odd9, .func (PySem.W.fnOf "plan_of" "plan_of" (defArgs sPlanOf) (defBody sPlanOf) (defScope sPlanOf) .none kVd9 dcd9 pmd9 and9 cdd9 ctd9), sld9⟩) (od9 : PySem.W.codeIn K cdd9 "plan_of" = true) (kd9 : PySem.W.keepIn K (.ref fd9) = true)
    (ad10 : PySem.W.nsIn K mainGlobals "_stacks" = some (some (.ref fd10))) (ld10 : K.lookup fd10 = some ⟨ocd10, odd10, .func (PySem.W.fnOf "_stacks" "_stacks" (defArgs sStacks) (defBody sStacks) (defScope sStacks) .none kVd10 dcd10 pmd10 and10 cdd10 ctd10), sld10⟩) (od10 : PySem.W.codeIn K cdd10 "_stacks" = true) (kd10 : PySem.W.keepIn K (.ref fd10) = true)
    (ad11 : PySem.W.nsIn K mainGlobals "stack" = some (some (.ref fd11))) (ld11 : K.lookup fd11 = some ⟨ocd11, odd11, .func (PySem.W.fnOf "stack" "stack" (defArgs sStack) (defBody sStack) (defScope sStack) .none kVd11 dcd11 pmd11 and11 cdd11 ctd11), sld11⟩) (od11 : PySem.W.codeIn K cdd11 "stack" = true) (kd11 : PySem.W.keepIn K (.ref fd11) = true)
    (ad12 : PySem.W.nsIn K mainGlobals "_note_at" = some (some (.ref fd12))) (ld12 : K.lookup fd12 = some ⟨ocd12, odd12, .func (PySem.W.fnOf "_note_at" "_note_at" (defArgs sNoteAt) (defBody sNoteAt) (defScope sNoteAt) .none kVd12 dcd12 pmd12 and12 cdd12 ctd12), sld12⟩) (od12 : PySem.W.codeIn K cdd12 "_note_at" = true) (kd12 : PySem.W.keepIn K (.ref fd12) = true)
    (ad13 : PySem.W.nsIn K mainGlobals "notes_by_place" = some (some (.ref fd13))) (ld13 : K.lookup fd13 = some ⟨ocd13, odd13, .func (PySem.W.fnOf "notes_by_place" "notes_by_place" (defArgs sByPlace) (defBody sByPlace) (defScope sByPlace) .none kVd13 dcd13 pmd13 and13 cdd13 ctd13), sld13⟩) (od13 : PySem.W.codeIn K cdd13 "notes_by_place" = true) (kd13 : PySem.W.keepIn K (.ref fd13) = true)
    (ad14 : PySem.W.nsIn K mainGlobals "notes_of" = some (some (.ref fd14))) (ld14 : K.lookup fd14 = some ⟨ocd14, odd14, .func (PySem.W.fnOf "notes_of" "notes_of" (defArgs sNotesOf) (defBody sNotesOf) (defScope sNotesOf) .none kVd14 dcd14 pmd14 and14 cdd14 ctd14), sld14⟩) (od14 : PySem.W.codeIn K cdd14 "notes_of" = true) (kd14 : PySem.W.keepIn K (.ref fd14) = true)
    (ad15 : PySem.W.nsIn K mainGlobals "_law_hand" = some (some (.ref fd15))) (ld15 : K.lookup fd15 = some ⟨ocd15, odd15, .func (PySem.W.fnOf "_law_hand" "_law_hand" (defArgs sHand) (defBody sHand) (defScope sHand) .none kVd15 dcd15 pmd15 and15 cdd15 ctd15), sld15⟩) (od15 : PySem.W.codeIn K cdd15 "_law_hand" = true) (kd15 : PySem.W.keepIn K (.ref fd15) = true)
    (ad16 : PySem.W.nsIn K mainGlobals "_law_draw" = some (some (.ref fd16))) (ld16 : K.lookup fd16 = some ⟨ocd16, odd16, .func (PySem.W.fnOf "_law_draw" "_law_draw" (defArgs sDraw) (defBody sDraw) (defScope sDraw) .none kVd16 dcd16 pmd16 and16 cdd16 ctd16), sld16⟩) (od16 : PySem.W.codeIn K cdd16 "_law_draw" = true) (kd16 : PySem.W.keepIn K (.ref fd16) = true)
    (ad17 : PySem.W.nsIn K mainGlobals "_law_is" = some (some (.ref fd17))) (ld17 : K.lookup fd17 = some ⟨ocd17, odd17, .func (PySem.W.fnOf "_law_is" "_law_is" (defArgs sIs) (defBody sIs) (defScope sIs) .none kVd17 dcd17 pmd17 and17 cdd17 ctd17), sld17⟩) (od17 : PySem.W.codeIn K cdd17 "_law_is" = true) (kd17 : PySem.W.keepIn K (.ref fd17) = true)
    (ad18 : PySem.W.nsIn K mainGlobals "_law_parents" = some (some (.ref fd18))) (ld18 : K.lookup fd18 = some ⟨ocd18, odd18, .func (PySem.W.fnOf "_law_parents" "_law_parents" (defArgs sParents) (defBody sParents) (defScope sParents) .none kVd18 dcd18 pmd18 and18 cdd18 ctd18), sld18⟩) (od18 : PySem.W.codeIn K cdd18 "_law_parents" = true) (kd18 : PySem.W.keepIn K (.ref fd18) = true)
    (ad19 : PySem.W.nsIn K mainGlobals "_law_lot" = some (some (.ref fd19))) (ld19 : K.lookup fd19 = some ⟨ocd19, odd19, .func (PySem.W.fnOf "_law_lot" "_law_lot" (defArgs sLawLot) (defBody sLawLot) (defScope sLawLot) .none kVd19 dcd19 pmd19 and19 cdd19 ctd19), sld19⟩) (od19 : PySem.W.codeIn K cdd19 "_law_lot" = true) (kd19 : PySem.W.keepIn K (.ref fd19) = true)
    (ad20 : PySem.W.nsIn K mainGlobals "_law_told" = some (some (.ref fd20))) (ld20 : K.lookup fd20 = some ⟨ocd20, odd20, .func (PySem.W.fnOf "_law_told" "_law_told" (defArgs sTold) (defBody sTold) (defScope sTold) .none kVd20 dcd20 pmd20 and20 cdd20 ctd20), sld20⟩) (od20 : PySem.W.codeIn K cdd20 "_law_told" = true) (kd20 : PySem.W.keepIn K (.ref fd20) = true)
    (ad21 : PySem.W.nsIn K mainGlobals "_law_made" = some (some (.ref fd21))) (ld21 : K.lookup fd21 = some ⟨ocd21, odd21, .func (PySem.W.fnOf "_law_made" "_law_made" (defArgs sMade) (defBody sMade) (defScope sMade) .none kVd21 dcd21 pmd21 and21 cdd21 ctd21), sld21⟩) (od21 : PySem.W.codeIn K cdd21 "_law_made" = true) (kd21 : PySem.W.keepIn K (.ref fd21) = true)
    (ad22 : PySem.W.nsIn K mainGlobals "_law_road" = some (some (.ref fd22))) (ld22 : K.lookup fd22 = some ⟨ocd22, odd22, .func (PySem.W.fnOf "_law_road" "_law_road" (defArgs sRoad) (defBody sRoad) (defScope sRoad) .none kVd22 dcd22 pmd22 and22 cdd22 ctd22), sld22⟩) (od22 : PySem.W.codeIn K cdd22 "_law_road" = true) (kd22 : PySem.W.keepIn K (.ref fd22) = true)
    (ad23 : PySem.W.nsIn K mainGlobals "under" = some (some (.ref fd23))) (ld23 : K.lookup fd23 = some ⟨ocd23, odd23, .func (PySem.W.fnOf "under" "under" (defArgs sUnder) (defBody sUnder) (defScope sUnder) .none kVd23 dcd23 pmd23 and23 cdd23 ctd23), sld23⟩) (od23 : PySem.W.codeIn K cdd23 "under" = true) (kd23 : PySem.W.keepIn K (.ref fd23) = true)
    (ad24 : PySem.W.nsIn K mainGlobals "pairs" = some (some (.ref fd24))) (ld24 : K.lookup fd24 = some ⟨ocd24, odd24, .func (PySem.W.fnOf "pairs" "pairs" (defArgs sPairs) (defBody sPairs) (defScope sPairs) .none kVd24 dcd24 pmd24 and24 cdd24 ctd24), sld24⟩) (od24 : PySem.W.codeIn K cdd24 "pairs" = true) (kd24 : PySem.W.keepIn K (.ref fd24) = true)
    (ad25 : PySem.W.nsIn K mainGlobals "is_notes" = some (some (.ref fd25))) (ld25 : K.lookup fd25 = some ⟨ocd25, odd25, .func (PySem.W.fnOf "is_notes" "is_notes" (defArgs sIsNotes) (defBody sIsNotes) (defScope sIsNotes) .none kVd25 dcd25 pmd25 and25 cdd25 ctd25), sld25⟩) (od25 : PySem.W.codeIn K cdd25 "is_notes" = true) (kd25 : PySem.W.keepIn K (.ref fd25) = true)
    (ad26 : PySem.W.nsIn K mainGlobals "_is_note" = some (some (.ref fd26))) (ld26 : K.lookup fd26 = some ⟨ocd26, odd26, .func (PySem.W.fnOf "_is_note" "_is_note" (defArgs sIsNote) (defBody sIsNote) (defScope sIsNote) .none kVd26 dcd26 pmd26 and26 cdd26 ctd26), sld26⟩) (od26 : PySem.W.codeIn K cdd26 "_is_note" = true) (kd26 : PySem.W.keepIn K (.ref fd26) = true)
    (ad27 : PySem.W.nsIn K mainGlobals "_counted" = some (some (.ref fd27))) (ld27 : K.lookup fd27 = some ⟨ocd27, odd27, .func (PySem.W.fnOf "_counted" "_counted" (defArgs sCounted) (defBody sCounted) (defScope sCounted) .none kVd27 dcd27 pmd27 and27 cdd27 ctd27), sld27⟩) (od27 : PySem.W.codeIn K cdd27 "_counted" = true) (kd27 : PySem.W.keepIn K (.ref fd27) = true)
    (ad28 : PySem.W.nsIn K mainGlobals "_lacking" = some (some (.ref fd28))) (ld28 : K.lookup fd28 = some ⟨ocd28, odd28, .func (PySem.W.fnOf "_lacking" "_lacking" (defArgs sLacking0) (defBody sLacking0) (defScope sLacking0) .none kVd28 dcd28 pmd28 and28 cdd28 ctd28), sld28⟩) (od28 : PySem.W.codeIn K cdd28 "_lacking" = true) (kd28 : PySem.W.keepIn K (.ref fd28) = true)
    (ad29 : PySem.W.nsIn K mainGlobals "_twice" = some (some (.ref fd29))) (ld29 : K.lookup fd29 = some ⟨ocd29, odd29, .func (PySem.W.fnOf "_twice" "_twice" (defArgs sTwice0) (defBody sTwice0) (defScope sTwice0) .none kVd29 dcd29 pmd29 and29 cdd29 ctd29), sld29⟩) (od29 : PySem.W.codeIn K cdd29 "_twice" = true) (kd29 : PySem.W.keepIn K (.ref fd29) = true)
    (ad30 : PySem.W.nsIn K mainGlobals "is_keeper" = some (some (.ref fd30))) (ld30 : K.lookup fd30 = some ⟨ocd30, odd30, .func (PySem.W.fnOf "is_keeper" "is_keeper" (defArgs sIsKeeper) (defBody sIsKeeper) (defScope sIsKeeper) .none kVd30 dcd30 pmd30 and30 cdd30 ctd30), sld30⟩) (od30 : PySem.W.codeIn K cdd30 "is_keeper" = true) (kd30 : PySem.W.keepIn K (.ref fd30) = true)
    (ad31 : PySem.W.nsIn K mainGlobals "is_single" = some (some (.ref fd31))) (ld31 : K.lookup fd31 = some ⟨ocd31, odd31, .func (PySem.W.fnOf "is_single" "is_single" (defArgs sIsSingle) (defBody sIsSingle) (defScope sIsSingle) .none kVd31 dcd31 pmd31 and31 cdd31 ctd31), sld31⟩) (od31 : PySem.W.codeIn K cdd31 "is_single" = true) (kd31 : PySem.W.keepIn K (.ref fd31) = true)
    (ad32 : PySem.W.nsIn K mainGlobals "_law_mixed" = some (some (.ref fd32))) (ld32 : K.lookup fd32 = some ⟨ocd32, odd32, .func (PySem.W.fnOf "_law_mixed" "_law_mixed" (defArgs sMixed) (defBody sMixed) (defScope sMixed) .none kVd32 dcd32 pmd32 and32 cdd32 ctd32), sld32⟩) (od32 : PySem.W.codeIn K cdd32 "_law_mixed" = true) (kd32 : PySem.W.keepIn K (.ref fd32) = true)
    (ad33 : PySem.W.nsIn K mainGlobals "_law_is_over" = some (some (.ref fd33))) (ld33 : K.lookup fd33 = some ⟨ocd33, odd33, .func (PySem.W.fnOf "_law_is_over" "_law_is_over" (defArgs sIsOver) (defBody sIsOver) (defScope sIsOver) .none kVd33 dcd33 pmd33 and33 cdd33 ctd33), sld33⟩) (od33 : PySem.W.codeIn K cdd33 "_law_is_over" = true) (kd33 : PySem.W.keepIn K (.ref fd33) = true)
    (ad34 : PySem.W.nsIn K mainGlobals "_law_cut" = some (some (.ref fd34))) (ld34 : K.lookup fd34 = some ⟨ocd34, odd34, .func (PySem.W.fnOf "_law_cut" "_law_cut" (defArgs sCut) (defBody sCut) (defScope sCut) .none kVd34 dcd34 pmd34 and34 cdd34 ctd34), sld34⟩) (od34 : PySem.W.codeIn K cdd34 "_law_cut" = true) (kd34 : PySem.W.keepIn K (.ref fd34) = true)
    (ad35 : PySem.W.nsIn K mainGlobals "_law_cutting" = some (some (.ref fd35))) (ld35 : K.lookup fd35 = some ⟨ocd35, odd35, .func (PySem.W.fnOf "_law_cutting" "_law_cutting" (defArgs sCutting) (defBody sCutting) (defScope sCutting) .none kVd35 dcd35 pmd35 and35 cdd35 ctd35), sld35⟩) (od35 : PySem.W.codeIn K cdd35 "_law_cutting" = true) (kd35 : PySem.W.keepIn K (.ref fd35) = true)
    (ad36 : PySem.W.nsIn K mainGlobals "_law_first_ones" = some (some (.ref fd36))) (ld36 : K.lookup fd36 = some ⟨ocd36, odd36, .func (PySem.W.fnOf "_law_first_ones" "_law_first_ones" (defArgs sFirsts) (defBody sFirsts) (defScope sFirsts) .none kVd36 dcd36 pmd36 and36 cdd36 ctd36), sld36⟩) (od36 : PySem.W.codeIn K cdd36 "_law_first_ones" = true) (kd36 : PySem.W.keepIn K (.ref fd36) = true)
    (ad37 : PySem.W.nsIn K mainGlobals "_law_alike" = some (some (.ref fd37))) (ld37 : K.lookup fd37 = some ⟨ocd37, odd37, .func (PySem.W.fnOf "_law_alike" "_law_alike" (defArgs sAlike) (defBody sAlike) (defScope sAlike) .none kVd37 dcd37 pmd37 and37 cdd37 ctd37), sld37⟩) (od37 : PySem.W.codeIn K cdd37 "_law_alike" = true) (kd37 : PySem.W.keepIn K (.ref fd37) = true)
    (ad38 : PySem.W.nsIn K mainGlobals "_law_order" = some (some (.ref fd38))) (ld38 : K.lookup fd38 = some ⟨ocd38, odd38, .func (PySem.W.fnOf "_law_order" "_law_order" (defArgs sOrder) (defBody sOrder) (defScope sOrder) .none kVd38 dcd38 pmd38 and38 cdd38 ctd38), sld38⟩) (od38 : PySem.W.codeIn K cdd38 "_law_order" = true) (kd38 : PySem.W.keepIn K (.ref fd38) = true)
    (aW : PySem.W.nsIn K mainGlobals "law" = some (some (.ref fW))) (lW : K.lookup fW = some ⟨ocW, odW, .func (PySem.W.fnOf "law" "law" (defArgs sLaw) (defBody sLaw) (defScope sLaw) .none kVW dcW pmW anW cdW ctW), slW⟩) (oW : PySem.W.codeIn K cdW "law" = true) (kW : PySem.W.keepIn K (.ref fW) = true)
    (zisinstance : PySem.W.nsIn K mainGlobals "isinstance" = some none) (ztuple : PySem.W.nsIn K mainGlobals "tuple" = some none) (zlist : PySem.W.nsIn K mainGlobals "list" = some none) (zbool : PySem.W.nsIn K mainGlobals "bool" = some none) (zlen : PySem.W.nsIn K mainGlobals "len" = some none) (zall : PySem.W.nsIn K mainGlobals "all" = some none) (zzip : PySem.W.nsIn K mainGlobals "zip" = some none) (zint : PySem.W.nsIn K mainGlobals "int" = some none) (zabs : PySem.W.nsIn K mainGlobals "abs" = some none) (zrange : PySem.W.nsIn K mainGlobals "range" = some none) (zenumerate : PySem.W.nsIn K mainGlobals "enumerate" = some none) (zreversed : PySem.W.nsIn K mainGlobals "reversed" = some none) (zsorted : PySem.W.nsIn K mainGlobals "sorted" = some none) (zmin : PySem.W.nsIn K mainGlobals "min" = some none)
    : ∃ fd : FuncData, (∀ (s : Shared) (v : Value), BindsTo s fd ⟨[v], []⟩ [("_law_script", v)]) ∧ ∀ base : Heap, K.In base → base.Ns mainGlobals mg → FnOk P w K mg base CX0 10 fa fd ["_law_script"] (spLaw K) := by
  have e := hfa.symm.trans (PySem.W.mg_of X G aW)
  cases e
  have IT : IsTxt mg := ⟨PySem.W.mg_none_of X G zisinstance, PySem.W.mg_none_of X G ztuple, PySem.W.mg_none_of X G zlist, PySem.W.mg_none_of X G zbool, PySem.W.mg_none_of X G zlen, PySem.W.mg_none_of X G zall, PySem.W.mg_none_of X G zzip⟩
  have NT : NamT mg := ⟨IT, PySem.W.mg_none_of X G zint, PySem.W.mg_none_of X G zabs, PySem.W.mg_none_of X G zrange, PySem.W.mg_none_of X G zenumerate, PySem.W.mg_none_of X G zreversed, PySem.W.mg_none_of X G zsorted, PySem.W.mg_none_of X G zmin⟩
  have Fd0 := fun_mk (st := sIsInt) ld0 od0 kd0
  have Dd0 : ∃ f fd, DefAt K mg "is_integer" sIsInt ["thing"] f fd := ⟨_, _, ⟨Fd0, Fd0.binds (ps := ["thing"]) fun _ _ _ _ _ _ us hl => match us, hl with | [_], _ => rfl, PySem.W.mg_of X G ad0⟩⟩
  have Fd1 := fun_mk (st := sIsBtw) ld1 od1 kd1
  have Dd1 : ∃ f fd, DefAt K mg "is_between" sIsBtw ["thing", "least", "most"] f fd := ⟨_, _, ⟨Fd1, Fd1.binds (ps := ["thing", "least", "most"]) fun _ _ _ _ _ _ us hl => match us, hl with | [_, _, _], _ => rfl, PySem.W.mg_of X G ad1⟩⟩
  have Fd2 := fun_mk (st := sIsLot) ld2 od2 kd2
  have Dd2 : ∃ f fd, DefAt K mg "is_lot" sIsLot ["thing"] f fd := ⟨_, _, ⟨Fd2, Fd2.binds (ps := ["thing"]) fun _ _ _ _ _ _ us hl => match us, hl with | [_], _ => rfl, PySem.W.mg_of X G ad2⟩⟩
  have Fd3 := fun_mk (st := sLotOf) ld3 od3 kd3
  have Dd3 : ∃ f fd, DefAt K mg "_is_lot_of_places" sLotOf ["thing", "many"] f fd := ⟨_, _, ⟨Fd3, Fd3.binds (ps := ["thing", "many"]) fun _ _ _ _ _ _ us hl => match us, hl with | [_, _], _ => rfl, PySem.W.mg_of X G ad3⟩⟩
  have Fd4 := fun_mk (st := sIsPlace) ld4 od4 kd4
  have Dd4 : ∃ f fd, DefAt K mg "is_place" sIsPlace ["forest", "thing"] f fd := ⟨_, _, ⟨Fd4, Fd4.binds (ps := ["forest", "thing"]) fun _ _ _ _ _ _ us hl => match us, hl with | [_, _], _ => rfl, PySem.W.mg_of X G ad4⟩⟩
  have Fd5 := fun_mk (st := sWay) ld5 od5 kd5
  have Dd5 : ∃ f fd, DefAt K mg "way" sWay ["forest", "place"] f fd := ⟨_, _, ⟨Fd5, Fd5.binds (ps := ["forest", "place"]) fun _ _ _ _ _ _ us hl => match us, hl with | [_, _], _ => rfl, PySem.W.mg_of X G ad5⟩⟩
  have Fd6 := fun_mk (st := sIsPlan) ld6 od6 kd6
  have Dd6 : ∃ f fd, DefAt K mg "is_plan" sIsPlan ["forest", "thing"] f fd := ⟨_, _, ⟨Fd6, Fd6.binds (ps := ["forest", "thing"]) fun _ _ _ _ _ _ us hl => match us, hl with | [_, _], _ => rfl, PySem.W.mg_of X G ad6⟩⟩
  have Fd7 := fun_mk (st := sIsCuts) ld7 od7 kd7
  have Dd7 : ∃ f fd, DefAt K mg "_is_cuts" sIsCuts ["forest", "thing"] f fd := ⟨_, _, ⟨Fd7, Fd7.binds (ps := ["forest", "thing"]) fun _ _ _ _ _ _ us hl => match us, hl with | [_, _], _ => rfl, PySem.W.mg_of X G ad7⟩⟩
  have Fd8 := fun_mk (st := sLevel) ld8 od8 kd8
  have Dd8 : ∃ f fd, DefAt K mg "_level" sLevel ["forest", "cuts", "place"] f fd := ⟨_, _, ⟨Fd8, Fd8.binds (ps := ["forest", "cuts", "place"]) fun _ _ _ _ _ _ us hl => match us, hl with | [_, _, _], _ => rfl, PySem.W.mg_of X G ad8⟩⟩
  have Fd9 := fun_mk (st := sPlanOf) ld9 od9 kd9
  have Dd9 : ∃ f fd, DefAt K mg "plan_of" sPlanOf ["forest", "cuts"] f fd := ⟨_, _, ⟨Fd9, Fd9.binds (ps := ["forest", "cuts"]) fun _ _ _ _ _ _ us hl => match us, hl with | [_, _], _ => rfl, PySem.W.mg_of X G ad9⟩⟩
  have Fd10 := fun_mk (st := sStacks) ld10 od10 kd10
  have Dd10 : ∃ f fd, DefAt K mg "_stacks" sStacks ["forest", "plan"] f fd := ⟨_, _, ⟨Fd10, Fd10.binds (ps := ["forest", "plan"]) fun _ _ _ _ _ _ us hl => match us, hl with | [_, _], _ => rfl, PySem.W.mg_of X G ad10⟩⟩
  have Fd11 := fun_mk (st := sStack) ld11 od11 kd11
  have Dd11 : ∃ f fd, DefAt K mg "stack" sStack ["forest", "plan", "place"] f fd := ⟨_, _, ⟨Fd11, Fd11.binds (ps := ["forest", "plan", "place"]) fun _ _ _ _ _ _ us hl => match us, hl with | [_, _, _], _ => rfl, PySem.W.mg_of X G ad11⟩⟩
  have Fd12 := fun_mk (st := sNoteAt) ld12 od12 kd12
  have Dd12 : ∃ f fd, DefAt K mg "_note_at" sNoteAt ["forest", "found", "place"] f fd := ⟨_, _, ⟨Fd12, Fd12.binds (ps := ["forest", "found", "place"]) fun _ _ _ _ _ _ us hl => match us, hl with | [_, _, _], _ => rfl, PySem.W.mg_of X G ad12⟩⟩
  have Fd13 := fun_mk (st := sByPlace) ld13 od13 kd13
  have Dd13 : ∃ f fd, DefAt K mg "notes_by_place" sByPlace ["forest", "plan"] f fd := ⟨_, _, ⟨Fd13, Fd13.binds (ps := ["forest", "plan"]) fun _ _ _ _ _ _ us hl => match us, hl with | [_, _], _ => rfl, PySem.W.mg_of X G ad13⟩⟩
  have Fd14 := fun_mk (st := sNotesOf) ld14 od14 kd14
  have Dd14 : ∃ f fd, DefAt K mg "notes_of" sNotesOf ["forest", "plan"] f fd := ⟨_, _, ⟨Fd14, Fd14.binds (ps := ["forest", "plan"]) fun _ _ _ _ _ _ us hl => match us, hl with | [_, _], _ => rfl, PySem.W.mg_of X G ad14⟩⟩
  have Fd15 := fun_mk (st := sHand) ld15 od15 kd15
  have Dd15 : ∃ f fd, DefAt K mg "_law_hand" sHand ["_law_script"] f fd := ⟨_, _, ⟨Fd15, Fd15.binds (ps := ["_law_script"]) fun _ _ _ _ _ _ us hl => match us, hl with | [_], _ => rfl, PySem.W.mg_of X G ad15⟩⟩
  have Fd16 := fun_mk (st := sDraw) ld16 od16 kd16
  have Dd16 : ∃ f fd, DefAt K mg "_law_draw" sDraw ["_law_hand_here", "_law_many"] f fd := ⟨_, _, ⟨Fd16, Fd16.binds (ps := ["_law_hand_here", "_law_many"]) fun _ _ _ _ _ _ us hl => match us, hl with | [_, _], _ => rfl, PySem.W.mg_of X G ad16⟩⟩
  have Fd17 := fun_mk (st := sIs) ld17 od17 kd17
  have Dd17 : ∃ f fd, DefAt K mg "_law_is" sIs ["_law_told_here", "_law_due"] f fd := ⟨_, _, ⟨Fd17, Fd17.binds (ps := ["_law_told_here", "_law_due"]) fun _ _ _ _ _ _ us hl => match us, hl with | [_, _], _ => rfl, PySem.W.mg_of X G ad17⟩⟩
  have Fd18 := fun_mk (st := sParents) ld18 od18 kd18
  have Dd18 : ∃ f fd, DefAt K mg "_law_parents" sParents ["_law_hand_here", "_law_places"] f fd := ⟨_, _, ⟨Fd18, Fd18.binds (ps := ["_law_hand_here", "_law_places"]) fun _ _ _ _ _ _ us hl => match us, hl with | [_, _], _ => rfl, PySem.W.mg_of X G ad18⟩⟩
  have Fd19 := fun_mk (st := sLawLot) ld19 od19 kd19
  have Dd19 : ∃ f fd, DefAt K mg "_law_lot" sLawLot ["_law_hand_here", "_law_places", "_law_share"] f fd := ⟨_, _, ⟨Fd19, Fd19.binds (ps := ["_law_hand_here", "_law_places", "_law_share"]) fun _ _ _ _ _ _ us hl => match us, hl with | [_, _, _], _ => rfl, PySem.W.mg_of X G ad19⟩⟩
  have Fd20 := fun_mk (st := sTold) ld20 od20 kd20
  have Dd20 : ∃ f fd, DefAt K mg "_law_told" sTold ["_law_hand_here", "_law_most"] f fd := ⟨_, _, ⟨Fd20, Fd20.binds (ps := ["_law_hand_here", "_law_most"]) fun _ _ _ _ _ _ us hl => match us, hl with | [_, _], _ => rfl, PySem.W.mg_of X G ad20⟩⟩
  have Fd21 := fun_mk (st := sMade) ld21 od21 kd21
  have Dd21 : ∃ f fd, DefAt K mg "_law_made" sMade ["_law_told_here"] f fd := ⟨_, _, ⟨Fd21, Fd21.binds (ps := ["_law_told_here"]) fun _ _ _ _ _ _ us hl => match us, hl with | [_], _ => rfl, PySem.W.mg_of X G ad21⟩⟩
  have Fd22 := fun_mk (st := sRoad) ld22 od22 kd22
  have Dd22 : ∃ f fd, DefAt K mg "_law_road" sRoad ["_law_parents_here", "_law_place"] f fd := ⟨_, _, ⟨Fd22, Fd22.binds (ps := ["_law_parents_here", "_law_place"]) fun _ _ _ _ _ _ us hl => match us, hl with | [_, _], _ => rfl, PySem.W.mg_of X G ad22⟩⟩
  have Fd23 := fun_mk (st := sUnder) ld23 od23 kd23
  have Dd23 : ∃ f fd, DefAt K mg "under" sUnder ["forest", "place"] f fd := ⟨_, _, ⟨Fd23, Fd23.binds (ps := ["forest", "place"]) fun _ _ _ _ _ _ us hl => match us, hl with | [_, _], _ => rfl, PySem.W.mg_of X G ad23⟩⟩
  have Fd24 := fun_mk (st := sPairs) ld24 od24 kd24
  have Dd24 : ∃ f fd, DefAt K mg "pairs" sPairs ["forest"] f fd := ⟨_, _, ⟨Fd24, Fd24.binds (ps := ["forest"]) fun _ _ _ _ _ _ us hl => match us, hl with | [_], _ => rfl, PySem.W.mg_of X G ad24⟩⟩
  have Fd25 := fun_mk (st := sIsNotes) ld25 od25 kd25
  have Dd25 : ∃ f fd, DefAt K mg "is_notes" sIsNotes ["forest", "thing"] f fd := ⟨_, _, ⟨Fd25, Fd25.binds (ps := ["forest", "thing"]) fun _ _ _ _ _ _ us hl => match us, hl with | [_, _], _ => rfl, PySem.W.mg_of X G ad25⟩⟩
  have Fd26 := fun_mk (st := sIsNote) ld26 od26 kd26
  have Dd26 : ∃ f fd, DefAt K mg "_is_note" sIsNote ["served", "thing"] f fd := ⟨_, _, ⟨Fd26, Fd26.binds (ps := ["served", "thing"]) fun _ _ _ _ _ _ us hl => match us, hl with | [_, _], _ => rfl, PySem.W.mg_of X G ad26⟩⟩
  have Fd27 := fun_mk (st := sCounted) ld27 od27 kd27
  have Dd27 : ∃ f fd, DefAt K mg "_counted" sCounted ["forest", "notes"] f fd := ⟨_, _, ⟨Fd27, Fd27.binds (ps := ["forest", "notes"]) fun _ _ _ _ _ _ us hl => match us, hl with | [_, _], _ => rfl, PySem.W.mg_of X G ad27⟩⟩
  have Fd28 := fun_mk (st := sLacking0) ld28 od28 kd28
  have Dd28 : ∃ f fd, DefAt K mg "_lacking" sLacking0 ["forest", "notes"] f fd := ⟨_, _, ⟨Fd28, Fd28.binds (ps := ["forest", "notes"]) fun _ _ _ _ _ _ us hl => match us, hl with | [_, _], _ => rfl, PySem.W.mg_of X G ad28⟩⟩
  have Fd29 := fun_mk (st := sTwice0) ld29 od29 kd29
  have Dd29 : ∃ f fd, DefAt K mg "_twice" sTwice0 ["forest", "notes"] f fd := ⟨_, _, ⟨Fd29, Fd29.binds (ps := ["forest", "notes"]) fun _ _ _ _ _ _ us hl => match us, hl with | [_, _], _ => rfl, PySem.W.mg_of X G ad29⟩⟩
  have Fd30 := fun_mk (st := sIsKeeper) ld30 od30 kd30
  have Dd30 : ∃ f fd, DefAt K mg "is_keeper" sIsKeeper ["forest", "thing"] f fd := ⟨_, _, ⟨Fd30, Fd30.binds (ps := ["forest", "thing"]) fun _ _ _ _ _ _ us hl => match us, hl with | [_, _], _ => rfl, PySem.W.mg_of X G ad30⟩⟩
  have Fd31 := fun_mk (st := sIsSingle) ld31 od31 kd31
  have Dd31 : ∃ f fd, DefAt K mg "is_single" sIsSingle ["forest", "thing"] f fd := ⟨_, _, ⟨Fd31, Fd31.binds (ps := ["forest", "thing"]) fun _ _ _ _ _ _ us hl => match us, hl with | [_, _], _ => rfl, PySem.W.mg_of X G ad31⟩⟩
  have Fd32 := fun_mk (st := sMixed) ld32 od32 kd32
  have Dd32 : ∃ f fd, DefAt K mg "_law_mixed" sMixed ["_law_hand_here", "_law_things"] f fd := ⟨_, _, ⟨Fd32, Fd32.binds (ps := ["_law_hand_here", "_law_things"]) fun _ _ _ _ _ _ us hl => match us, hl with | [_, _], _ => rfl, PySem.W.mg_of X G ad32⟩⟩
  have Fd33 := fun_mk (st := sIsOver) ld33 od33 kd33
  have Dd33 : ∃ f fd, DefAt K mg "_law_is_over" sIsOver ["_law_parents_here", "_law_one", "_law_other"] f fd := ⟨_, _, ⟨Fd33, Fd33.binds (ps := ["_law_parents_here", "_law_one", "_law_other"]) fun _ _ _ _ _ _ us hl => match us, hl with | [_, _, _], _ => rfl, PySem.W.mg_of X G ad33⟩⟩
  have Fd34 := fun_mk (st := sCut) ld34 od34 kd34
  have Dd34 : ∃ f fd, DefAt K mg "_law_cut" sCut ["_law_parents_here", "_law_piece", "_law_place"] f fd := ⟨_, _, ⟨Fd34, Fd34.binds (ps := ["_law_parents_here", "_law_piece", "_law_place"]) fun _ _ _ _ _ _ us hl => match us, hl with | [_, _, _], _ => rfl, PySem.W.mg_of X G ad34⟩⟩
  have Fd35 := fun_mk (st := sCutting) ld35 od35 kd35
  have Dd35 : ∃ f fd, DefAt K mg "_law_cutting" sCutting ["_law_told_here", "_law_cuts"] f fd := ⟨_, _, ⟨Fd35, Fd35.binds (ps := ["_law_told_here", "_law_cuts"]) fun _ _ _ _ _ _ us hl => match us, hl with | [_, _], _ => rfl, PySem.W.mg_of X G ad35⟩⟩
  have Fd36 := fun_mk (st := sFirsts) ld36 od36 kd36
  have Dd36 : ∃ f fd, DefAt K mg "_law_first_ones" sFirsts ["_law_parents_here", "_law_cuts", "_law_place"] f fd := ⟨_, _, ⟨Fd36, Fd36.binds (ps := ["_law_parents_here", "_law_cuts", "_law_place"]) fun _ _ _ _ _ _ us hl => match us, hl with | [_, _, _], _ => rfl, PySem.W.mg_of X G ad36⟩⟩
  have Fd37 := fun_mk (st := sAlike) ld37 od37 kd37
  have Dd37 : ∃ f fd, DefAt K mg "_law_alike" sAlike ["_law_hand_here", "_law_parents_here", "_law_cuts"] f fd := ⟨_, _, ⟨Fd37, Fd37.binds (ps := ["_law_hand_here", "_law_parents_here", "_law_cuts"]) fun _ _ _ _ _ _ us hl => match us, hl with | [_, _, _], _ => rfl, PySem.W.mg_of X G ad37⟩⟩
  have Fd38 := fun_mk (st := sOrder) ld38 od38 kd38
  have Dd38 : ∃ f fd, DefAt K mg "_law_order" sOrder ["_law_hand_here", "_law_places"] f fd := ⟨_, _, ⟨Fd38, Fd38.binds (ps := ["_law_hand_here", "_law_places"]) fun _ _ _ _ _ _ us hl => match us, hl with | [_, _], _ => rfl, PySem.W.mg_of X G ad38⟩⟩
  have FW := fun_mk (st := sLaw) lW oW kW
  have FN := fun_mk (st := sInit) lN oN kN
  have bN := FN.binds (ps := ["self", "parents", "bearing", "asking"]) fun _ _ _ _ _ _ us hl => match us, hl with | [_, _, _, _], _ => rfl
  have T : FoT K mg C := ⟨⟨pg, hd, po, sa⟩, nP, nB, nA, PySem.W.mg_of X G aC⟩
  have B : Defs K mg C := ⟨NT, T, ⟨tm, PySem.W.mg_of X G mM⟩, ⟨tmMOST_NOTES, PySem.W.mg_of X G mMOST_NOTES⟩, ⟨_, _, FN, ⟨mk, aN, iN, kc⟩, bN⟩, Dd0, Dd1, Dd2, Dd3, Dd4, Dd5, Dd6, Dd7, Dd8, Dd9, Dd10, Dd11, Dd12, Dd13, Dd14, Dd15, Dd16, Dd17, Dd18, Dd19, Dd20, Dd21, Dd22, Dd23, Dd24, Dd25, Dd26, Dd27, Dd28, Dd29, Dd30, Dd31, Dd32, Dd33, Dd34, Dd35, Dd36, Dd37, Dd38⟩
  exact ⟨PySem.W.fnOf "law" "law" (defArgs sLaw) (defBody sLaw) (defScope sLaw) .none kVW dcW pmW anW cdW ctW, fun s v => .of_eq rfl, fun base _ _ => ok_law FW B⟩
theorem walk {l : PySem.W.OpenLaw} {q : Program} {loose : List Str} {XP : (Str → Option Value) → Heap → Prop} {YP : World → Heap → Prop} {d : DefRec} {K : Params → PySem.W.Frag} (hn : l.most = some 63) (hdf : d.params.defaults = [])
    (hY : ∀ (w : World) (h : Heap), YP w h → (K w.params).In h)
    (F : ∀ (w : World) (mg : Str → Option Value) (fa : Addr) (h : Heap), (K w.params).In h → h.Ns mainGlobals mg → mg d.name = some (.ref fa) →
      ∃ fd : FuncData, (∀ (s : Shared) (u : Value), BindsTo s fd ⟨[u], []⟩ [("_law_script", u)]) ∧ ∀ base : Heap, (K w.params).In base → base.Ns mainGlobals mg → FnOk l.prog w (K w.params) mg base CX0 10 fa fd ["_law_script"] (spLaw (K w.params))) :
    PySem.W.WalkO q loose XP YP l.row.toRowW d [] (fun f vs => PySem.call f vs) :=
  L2.walk_of (n := 63) (k := 10) (x := "_law_script") (CX := fun _ => CX0) (sp := fun w => spLaw (K w.params)) hn (by decide) hdf ⟨rfl, by decide, by decide⟩ hY F (fun _ _ a ns hl _ hS => ⟨a, ns, rfl, hS, hl, fun _ => rfl⟩) fun _ _ _ _ _ z => z
end Cn
open PySem PySem.W PyProof.Rows
set_option maxRecDepth 100000 in
set_option maxHeartbeats 0 in
theorem PySem.Challenge.cw_cutnotes_k04_whole_plans_by_cutting_piec_holds : PySem.Challenge.rw_cutnotes_k04_whole_plans_by_cutting_piec.Holds := by
  w_on; o_law; k_head; (case hw => w_witness2)
  k_fill
  refine Cn.walk (l := PySem.Challenge.rw_cutnotes_k04_whole_plans_by_cutting_piec) rfl rfl (fun w h Y => PySem.W.kIn_of Y) ?F
  case F =>
    intro w mg fa h KX G hmg
    refine' Cn.all_mk KX G hmg ?aC ?pg ?hd ?po ?sa ?mk ?kc ?nP ?nB ?nA ?mM ?mMOST_NOTES ?aN ?iN ?lN ?oN ?kN ?a_d0 ?l_d0 ?o_d0 ?k_d0 ?a_d1 ?l_d1 ?o_d1 ?k_d1 ?a_d2 ?l_d2 ?o_d2 ?k_d2 ?a_d3 ?l_d3 ?o_d3 ?k_d3 ?a_d4 ?l_d4 ?o_d4 ?k_d4 ?a_d5 ?l_d5 ?o_d5 ?k_d5 ?a_d6 ?l_d6 ?o_d6 ?k_d6 ?a_d7 ?l_d7 ?o_d7 ?k_d7 ?a_d8 ?l_d8 ?o_d8 ?k_d8 ?a_d9 ?l_d9 ?o_d9 ?k_d9 ?a_d10 ?l_d10 ?o_d10 ?k_d10 ?a_d11 ?l_d11 ?o_d11 ?k_d11 ?a_d12 ?l_d12 ?o_d12 ?k_d12 ?a_d13 ?l_d13 ?o_d13 ?k_d13 ?a_d14 ?l_d14 ?o_d14 ?k_d14 ?a_d15 ?l_d15 ?o_d15 ?k_d15 ?a_d16 ?l_d16 ?o_d16 ?k_d16 ?a_d17 ?l_d17 ?o_d17 ?k_d17 ?a_d18 ?l_d18 ?o_d18 ?k_d18 ?a_d19 ?l_d19 ?o_d19 ?k_d19 ?a_d20 ?l_d20 ?o_d20 ?k_d20 ?a_d21 ?l_d21 ?o_d21 ?k_d21 ?a_d22 ?l_d22 ?o_d22 ?k_d22 ?a_d23 ?l_d23 ?o_d23 ?k_d23 ?a_d24 ?l_d24 ?o_d24 ?k_d24 ?a_d25 ?l_d25 ?o_d25 ?k_d25 ?a_d26 ?l_d26 ?o_d26 ?k_d26 ?a_d27 ?l_d27 ?o_d27 ?k_d27 ?a_d28 ?l_d28 ?o_d28 ?k_d28 ?a_d29 ?l_d29 ?o_d29 ?k_d29 ?a_d30 ?l_d30 ?o_d30 ?k_d30 ?a_d31 ?l_d31 ?o_d31 ?k_d31 ?a_d32 ?l_d32 ?o_d32 ?k_d32 ?a_d33 ?l_d33 ?o_d33 ?k_d33 ?a_d34 ?l_d34 ?o_d34 ?k_d34 ?a_d35 ?l_d35 ?o_d35 ?k_d35 ?a_d36 ?l_d36 ?o_d36 ?k_d36 ?a_d37 ?l_d37 ?o_d37 ?k_d37 ?a_d38 ?l_d38 ?o_d38 ?k_d38 ?a_W ?l_W ?o_W ?k_W ?z_isinstance ?z_tuple ?z_list ?z_bool ?z_len ?z_all ?z_zip ?z_int ?z_abs ?z_range ?z_enumerate ?z_reversed ?z_sorted ?z_min
    (case aC => k_is); (case pg => k_is); (case hd => k_is); (case po => k_is); (case sa => k_is); (case mk => k_is); (case kc => k_is); (case nP => k_is)
    (case nB => k_is); (case nA => k_is); (case mM => k_is); (case mMOST_NOTES => k_is); (case aN => k_is); (case iN => k_is); (case lN => k_is); (case oN => k_is)
    (case kN => k_is); (case a_d0 => k_is); (case l_d0 => k_is); (case o_d0 => k_is); (case k_d0 => k_is); (case a_d1 => k_is); (case l_d1 => k_is); (case o_d1 => k_is)
    (case k_d1 => k_is); (case a_d2 => k_is); (case l_d2 => k_is); (case o_d2 => k_is); (case k_d2 => k_is); (case a_d3 => k_is); (case l_d3 => k_is); (case o_d3 => k_is)
    (case k_d3 => k_is); (case a_d4 => k_is); (case l_d4 => k_is); (case o_d4 => k_is); (case k_d4 => k_is); (case a_d5 => k_is); (case l_d5 => k_is); (case o_d5 => k_is)
    (case k_d5 => k_is); (case a_d6 => k_is); (case l_d6 => k_is); (case o_d6 => k_is); (case k_d6 => k_is); (case a_d7 => k_is); (case l_d7 => k_is); (case o_d7 => k_is)
    (case k_d7 => k_is); (case a_d8 => k_is); (case l_d8 => k_is); (case o_d8 => k_is); (case k_d8 => k_is); (case a_d9 => k_is); (case l_d9 => k_is); (case o_d9 => k_is)
    (case k_d9 => k_is); (case a_d10 => k_is); (case l_d10 => k_is); (case o_d10 => k_is); (case k_d10 => k_is); (case a_d11 => k_is); (case l_d11 => k_is); (case o_d11 => k_is)
    (case k_d11 => k_is); (case a_d12 => k_is); (case l_d12 => k_is); (case o_d12 => k_is); (case k_d12 => k_is); (case a_d13 => k_is); (case l_d13 => k_is); (case o_d13 => k_is)
    (case k_d13 => k_is); (case a_d14 => k_is); (case l_d14 => k_is); (case o_d14 => k_is); (case k_d14 => k_is); (case a_d15 => k_is); (case l_d15 => k_is); (case o_d15 => k_is)
    (case k_d15 => k_is); (case a_d16 => k_is); (case l_d16 => k_is); (case o_d16 => k_is); (case k_d16 => k_is); (case a_d17 => k_is); (case l_d17 => k_is); (case o_d17 => k_is)
    (case k_d17 => k_is); (case a_d18 => k_is); (case l_d18 => k_is); (case o_d18 => k_is); (case k_d18 => k_is); (case a_d19 => k_is); (case l_d19 => k_is); (case o_d19 => k_is)
    (case k_d19 => k_is); (case a_d20 => k_is); (case l_d20 => k_is); (case o_d20 => k_is); (case k_d20 => k_is); (case a_d21 => k_is); (case l_d21 => k_is); (case o_d21 => k_is)
    (case k_d21 => k_is); (case a_d22 => k_is); (case l_d22 => k_is); (case o_d22 => k_is); (case k_d22 => k_is); (case a_d23 => k_is); (case l_d23 => k_is); (case o_d23 => k_is)
    (case k_d23 => k_is); (case a_d24 => k_is); (case l_d24 => k_is); (case o_d24 => k_is); (case k_d24 => k_is); (case a_d25 => k_is); (case l_d25 => k_is); (case o_d25 => k_is)
    (case k_d25 => k_is); (case a_d26 => k_is); (case l_d26 => k_is); (case o_d26 => k_is); (case k_d26 => k_is); (case a_d27 => k_is); (case l_d27 => k_is); (case o_d27 => k_is)
    (case k_d27 => k_is); (case a_d28 => k_is); (case l_d28 => k_is); (case o_d28 => k_is); (case k_d28 => k_is); (case a_d29 => k_is); (case l_d29 => k_is); (case o_d29 => k_is)
    (case k_d29 => k_is); (case a_d30 => k_is); (case l_d30 => k_is); (case o_d30 => k_is); (case k_d30 => k_is); (case a_d31 => k_is); (case l_d31 => k_is); (case o_d31 => k_is)
    (case k_d31 => k_is); (case a_d32 => k_is); (case l_d32 => k_is); (case o_d32 => k_is); (case k_d32 => k_is); (case a_d33 => k_is); (case l_d33 => k_is); (case o_d33 => k_is)
    (case k_d33 => k_is); (case a_d34 => k_is); (case l_d34 => k_is); (case o_d34 => k_is); (case k_d34 => k_is); (case a_d35 => k_is); (case l_d35 => k_is); (case o_d35 => k_is)
    (case k_d35 => k_is); (case a_d36 => k_is); (case l_d36 => k_is); (case o_d36 => k_is); (case k_d36 => k_is); (case a_d37 => k_is); (case l_d37 => k_is); (case o_d37 => k_is)
    (case k_d37 => k_is); (case a_d38 => k_is); (case l_d38 => k_is); (case o_d38 => k_is); (case k_d38 => k_is); (case a_W => k_is); (case l_W => k_is); (case o_W => k_is)
    (case k_W => k_is); (case z_isinstance => k_is); (case z_tuple => k_is); (case z_list => k_is); (case z_bool => k_is); (case z_len => k_is); (case z_all => k_is); (case z_zip => k_is)
    (case z_int => k_is); (case z_abs => k_is); (case z_range => k_is); (case z_enumerate => k_is); (case z_reversed => k_is); (case z_sorted => k_is); (case z_min => k_is)
#print axioms PySem.Challenge.cw_cutnotes_k04_whole_plans_by_cutting_piec_holds
