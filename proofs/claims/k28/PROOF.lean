import PyProof.Rows.All
import Wide.All
import OpenK.AllK
import Wide.FinOn
import HandS.Base
import HandS.Call
import HandS.List
import HandS.Comp
import HandS.Ends
import HandS.Dict
import HandS.Iter
import HandS.Words
import HandS.WordsList
import PySem.Challenge.RW_cutnotes_k28_whole_tables_that_are_hiera
import HandS.Zip
import HandS.IsInst
import HandS.DeepEq
import HandS.Codes
import KE.GoesMore
import KE.GoesEnum
import PyProof.EnumMake
import PyProof.Draws
import HandS.TupAny
import HandS.Rev
import HandS.Conv
import HandS.Walk
import HandS.More
import HandS.Strs
import HandS.Flow
import HandS.Steps
import HandS.Style
import HandS.DictComp
import HandS.Set
import HandS.SetFor
import PyProof.WalksMore
import HandS.OwnEq
import PyProof.InstNe
import PyProof.DictValues
import KE.KDictSum
import PyProof.SumAny
import HandS.ExcValue
import HandS.ExcOwn
import HandS.SortRule
import HandS.Finally
import HandS.ForMost
set_option Elab.async false
set_option linter.all false
set_option maxRecDepth 100000
set_option maxHeartbeats 4000000
namespace Ck
def road (ps : List (Option Nat)) (i : Nat) : List Nat :=
  match ps[i]? with
  | some (some p) => if _h : p < i then road ps p ++ [i] else [i]
  | _ => [i]
termination_by i
def stk (ps : List (Option Nat)) (lv : List Nat) (i : Nat) : List Nat :=
  match ps[i]? with
  | some (some p) => if _h : p < i then (stk ps lv p).take (lv.getD i 0 - 1) ++ [i] else [i]
  | _ => [i]
termination_by i
def Ps (ps : List (Option Nat)) : Prop := ∀ (i p : Nat), ps[i]? = some (some p) → p < i
/-- the most that the level of i may be, by the levels ahead -/
def mostLv (lv : List Nat) : Option Nat → Nat
  | none => 1
  | some p => lv.getD p 0 + 1
def Lv (ps : List (Option Nat)) (lv : List Nat) : Prop := lv.length = ps.length ∧ ∀ (i l : Nat) (q : Option Nat), lv[i]? = some l → ps[i]? = some q → 1 ≤ l ∧ l ≤ mostLv lv q
section
variable {ps : List (Option Nat)} {lv : List Nat} {i p : Nat}
theorem road_none (h : ps[i]? = some none) : road ps i = [i] := by
  rw [road, h]
theorem road_some (hp : Ps ps) (h : ps[i]? = some (some p)) : road ps i = road ps p ++ [i] := by
  have hl := hp i p h
  rw [road, h]
  dsimp only
  rw [dif_pos hl]
theorem stk_none (h : ps[i]? = some none) : stk ps lv i = [i] := by
  rw [stk, h]
theorem stk_some (hp : Ps ps) (h : ps[i]? = some (some p)) : stk ps lv i = (stk ps lv p).take (lv.getD i 0 - 1) ++ [i] := by
  have hl := hp i p h
  rw [stk, h]
  dsimp only
  rw [dif_pos hl]
theorem opt_cases (hi : i < ps.length) : ps[i]? = some none ∨ ∃ p, ps[i]? = some (some p) := by
  rw [List.getElem?_eq_getElem hi]
  cases h : ps[i] with
  | none => exact .inl rfl
  | some p => exact .inr ⟨p, rfl⟩
theorem road_le (hp : Ps ps) : ∀ n, n < ps.length → ∀ x ∈ road ps n, x ≤ n := by
  intro n
  induction n using Nat.strongRecOn with
  | ind n ih =>
    intro hn x hx
    rcases opt_cases hn with h | ⟨p, h⟩
    · rw [road_none h] at hx
      exact Nat.le_of_eq (List.mem_singleton.mp hx)
    · rw [road_some hp h] at hx
      have hl := hp n p h
      rcases List.mem_append.mp hx with hx | hx
      · exact Nat.le_of_lt (Nat.lt_of_le_of_lt (ih p hl (Nat.lt_trans hl hn) x hx) hl)
      · exact Nat.le_of_eq (List.mem_singleton.mp hx)
theorem road_self (hp : Ps ps) (hi : i < ps.length) : i ∈ road ps i := by
  rcases opt_cases hi with h | ⟨p, h⟩
  · rw [road_none h]; exact List.mem_singleton.mpr rfl
  · rw [road_some hp h]; exact List.mem_append.mpr (.inr (List.mem_singleton.mpr rfl))
theorem road_ne (hp : Ps ps) (hi : i < ps.length) : road ps i ≠ [] := fun z => by
  have h := road_self hp hi
  rw [z] at h; cases h
theorem road_len (hp : Ps ps) : ∀ n, n < ps.length → (road ps n).length ≤ n + 1 := by
  intro n
  induction n using Nat.strongRecOn with
  | ind n ih =>
    intro hn
    rcases opt_cases hn with h | ⟨p, h⟩
    · rw [road_none h]; exact Nat.le_add_left _ _
    · have hl := hp n p h
      have := ih p hl (Nat.lt_trans hl hn)
      rw [road_some hp h, List.length_append, List.length_singleton]
      omega
theorem getD_of {xs : List Nat} {l : Nat} (h : xs[i]? = some l) : xs.getD i 0 = l := by
  rw [List.getD_eq_getElem?_getD, h]; rfl
theorem stk_len (hp : Ps ps) (hv : Lv ps lv) : ∀ n, n < ps.length → (stk ps lv n).length = lv.getD n 0 := by
  intro n
  induction n using Nat.strongRecOn with
  | ind n ih =>
    intro hn
    have hl : lv[n]? = some (lv.getD n 0) := by
      rw [List.getD_eq_getElem?_getD, List.getElem?_eq_getElem (by rw [hv.1]; exact hn)]; rfl
    rcases opt_cases hn with h | ⟨p, h⟩
    · have := hv.2 n _ _ hl h
      rw [stk_none h, List.length_singleton]
      have e : mostLv lv none = 1 := rfl
      omega
    · have hpn := hp n p h
      have := hv.2 n _ _ hl h
      have e := ih p hpn (Nat.lt_trans hpn hn)
      have e2 : mostLv lv (some p) = lv.getD p 0 + 1 := rfl
      rw [stk_some hp h, List.length_append, List.length_singleton, List.length_take, e]
      omega
theorem stk_sub (hp : Ps ps) : ∀ n, n < ps.length → ∀ x ∈ stk ps lv n, x ∈ road ps n := by
  intro n
  induction n using Nat.strongRecOn with
  | ind n ih =>
    intro hn x hx
    rcases opt_cases hn with h | ⟨p, h⟩
    · rw [stk_none h] at hx
      rw [road_none h]; exact hx
    · have hl := hp n p h
      rw [stk_some hp h] at hx
      rw [road_some hp h]
      rcases List.mem_append.mp hx with hx | hx
      · exact List.mem_append.mpr (.inl (ih p hl (Nat.lt_trans hl hn) x (List.mem_of_mem_take hx)))
      · exact List.mem_append.mpr (.inr hx)
end
/-! those of a list that rank below all behind them -/
def rlm (rk : Nat → Nat) : List Nat → List Nat
  | [] => []
  | x :: xs => if ∀ y ∈ xs, rk x < rk y then x :: rlm rk xs else rlm rk xs
section
variable {rk rk' : Nat → Nat}
theorem rlm_mem : ∀ {xs : List Nat} {x : Nat}, x ∈ rlm rk xs → x ∈ xs
  | [], _, h => by cases h
  | y :: ys, x, h => by
    unfold rlm at h
    split at h
    · rcases List.mem_cons.mp h with e | h
      · rw [e]; exact List.mem_cons_self
      · exact List.mem_cons_of_mem _ (rlm_mem h)
    · exact List.mem_cons_of_mem _ (rlm_mem h)
theorem rlm_sorted : ∀ xs : List Nat, (rlm rk xs).Pairwise (fun a b => rk a < rk b)
  | [] => .nil
  | y :: ys => by
    unfold rlm
    split
    · rename_i h
      exact .cons (fun z hz => h z (rlm_mem hz)) (rlm_sorted ys)
    · exact rlm_sorted ys
theorem rlm_congr : ∀ {xs : List Nat}, (∀ x ∈ xs, ∀ y ∈ xs, (rk x < rk y ↔ rk' x < rk' y)) → rlm rk xs = rlm rk' xs
  | [], _ => rfl
  | y :: ys, h => by
    have ih := rlm_congr (xs := ys) fun x hx z hz => h x (List.mem_cons_of_mem _ hx) z (List.mem_cons_of_mem _ hz)
    have e : (∀ z ∈ ys, rk y < rk z) ↔ (∀ z ∈ ys, rk' y < rk' z) := ⟨fun q z hz => (h y List.mem_cons_self z (List.mem_cons_of_mem _ hz)).mp (q z hz), fun q z hz => (h y List.mem_cons_self z (List.mem_cons_of_mem _ hz)).mpr (q z hz)⟩
    unfold rlm
    rw [ih]
    by_cases c : ∀ z ∈ ys, rk y < rk z
    · rw [if_pos c, if_pos (e.mp c)]
    · rw [if_neg c, if_neg (fun z => c (e.mpr z))]
theorem rlm_snoc (k : Nat) : ∀ xs : List Nat, rlm rk (xs ++ [k]) = (rlm rk xs).filter (fun x => decide (rk x < rk k)) ++ [k]
  | [] => by
    show (if ∀ y ∈ ([] : List Nat), rk k < rk y then k :: rlm rk [] else rlm rk []) = _
    rw [if_pos (fun y hy => by cases hy)]; rfl
  | y :: ys => by
    have ih := rlm_snoc k ys
    show (if ∀ z ∈ ys ++ [k], rk y < rk z then y :: rlm rk (ys ++ [k]) else rlm rk (ys ++ [k])) = (if ∀ z ∈ ys, rk y < rk z then y :: rlm rk ys else rlm rk ys).filter _ ++ [k]
    rw [ih]
    by_cases c : ∀ z ∈ ys, rk y < rk z
    · rw [if_pos c]
      by_cases d : rk y < rk k
      · rw [if_pos (fun z hz => by
          rcases List.mem_append.mp hz with hz | hz
          · exact c z hz
          · rw [List.mem_singleton.mp hz]; exact d), List.filter_cons_of_pos (by simpa using d)]
        rfl
      · rw [if_neg (fun q => d (q k (List.mem_append.mpr (.inr (List.mem_singleton.mpr rfl))))), List.filter_cons_of_neg (by simpa using d)]
    · rw [if_neg c, if_neg (fun q => c fun z hz => q z (List.mem_append.mpr (.inl hz)))]
end
theorem filter_take {f : Nat → Nat} : ∀ {L : List Nat} {m x : Nat}, L.Pairwise (fun a b => f a < f b) → L[m]? = some x → L.filter (fun y => decide (f y < f x)) = L.take m
  | [], m, x, _, h => by rw [List.getElem?_nil] at h; cases h
  | a :: L, 0, x, p, h => by
    cases h
    rw [List.take_zero, List.filter_eq_nil_iff]
    intro b hb
    rcases List.mem_cons.mp hb with e | hb
    · rw [e]; simp
    · have := (List.pairwise_cons.mp p).1 b hb
      simp; omega
  | a :: L, m + 1, x, p, h => by
    rw [List.getElem?_cons_succ] at h
    have hx : x ∈ L := List.mem_of_getElem? h
    have := (List.pairwise_cons.mp p).1 x hx
    rw [List.filter_cons_of_pos (by simpa using this), List.take_succ_cons, filter_take (List.pairwise_cons.mp p).2 h]
/-! one thing put into an order -/
theorem idx_ne {a x : Nat} {l : List Nat} (h : ¬ a = x) : (a :: l).idxOf x = l.idxOf x + 1 := by
  rw [List.idxOf_cons]
  have e : (a == x) = false := by simpa using h
  rw [e]; rfl
theorem getD_at {L : List Nat} {m : Nat} (h : m < L.length) : L[m]? = some (L.getD m 0) := by
  rw [List.getD_eq_getElem?_getD, List.getElem?_eq_getElem h]; rfl
def putAt (ord : List Nat) (j k : Nat) : List Nat := ord.take j ++ k :: ord.drop j
theorem putAt_new : ∀ {ord : List Nat} {j k : Nat}, k ∉ ord → j ≤ ord.length → (putAt ord j k).idxOf k = j
  | ord, 0, k, _, _ => by
    show (k :: ord.drop 0).idxOf k = 0
    rw [List.idxOf_cons_self]
  | [], j + 1, k, _, h => by cases h
  | a :: ord, j + 1, k, hk, hj => by
    have ne : ¬ a = k := fun e => hk (by rw [e]; exact List.mem_cons_self)
    show (a :: putAt ord j k).idxOf k = j + 1
    rw [idx_ne ne, putAt_new (fun h => hk (List.mem_cons_of_mem _ h)) (Nat.le_of_succ_le_succ hj)]
theorem putAt_old : ∀ {ord : List Nat} {j k x : Nat}, k ∉ ord → j ≤ ord.length → x ∈ ord → (putAt ord j k).idxOf x = if ord.idxOf x < j then ord.idxOf x else ord.idxOf x + 1
  | [], j, k, x, _, _, h => by cases h
  | a :: ord, 0, k, x, hk, _, hx => by
    have ne : ¬ k = x := fun e => hk (by rw [e]; exact hx)
    show (k :: a :: ord).idxOf x = _
    rw [idx_ne ne, if_neg (Nat.not_lt_zero _)]
  | a :: ord, j + 1, k, x, hk, hj, hx => by
    show (a :: putAt ord j k).idxOf x = _
    by_cases e : a = x
    · rw [e, List.idxOf_cons_self, List.idxOf_cons_self, if_pos (Nat.succ_pos _)]
    · have hx' : x ∈ ord := (List.mem_cons.mp hx).resolve_left fun z => e z.symm
      rw [idx_ne e, idx_ne e, putAt_old (fun h => hk (List.mem_cons_of_mem _ h)) (Nat.le_of_succ_le_succ hj) hx']
      by_cases c : ord.idxOf x < j
      · rw [if_pos c, if_pos (Nat.succ_lt_succ c)]
      · rw [if_neg c, if_neg fun z => c (Nat.lt_of_succ_lt_succ z)]
theorem putAt_mem {ord : List Nat} {j k x : Nat} : x ∈ putAt ord j k ↔ x = k ∨ x ∈ ord := by
  unfold putAt
  rw [List.mem_append, List.mem_cons]
  have h : x ∈ ord ↔ x ∈ ord.take j ∨ x ∈ ord.drop j := by
    rw [← List.mem_append, List.take_append_drop]
  rw [h]
  constructor
  · rintro (a | a | a)
    · exact .inr (.inl a)
    · exact .inl a
    · exact .inr (.inr a)
  · rintro (a | a | a)
    · exact .inr (.inl a)
    · exact .inl a
    · exact .inr (.inr a)
theorem putAt_nd {ord : List Nat} {j k : Nat} (h : ord.Nodup) (hk : k ∉ ord) : (putAt ord j k).Nodup := by
  unfold putAt
  have e : (ord.take j ++ ord.drop j).Nodup := by rw [List.take_append_drop]; exact h
  rw [List.nodup_append] at e ⊢
  refine ⟨e.1, List.nodup_cons.mpr ⟨fun z => hk (List.mem_of_mem_drop z), e.2.1⟩, fun a ha b hb => ?_⟩
  rcases List.mem_cons.mp hb with z | hb
  · intro q
    rw [q, z] at ha
    exact hk (List.mem_of_mem_take ha)
  · exact e.2.2 a ha b hb
theorem putAt_len {ord : List Nat} {j k : Nat} : (putAt ord j k).length = ord.length + 1 := by
  unfold putAt
  rw [List.length_append, List.length_cons, List.length_take, List.length_drop]
  omega
/-! the order that the levels tell -/
def above (ps : List (Option Nat)) (lv : List Nat) (i : Nat) : List Nat :=
  match ps[i]? with
  | some (some p) => stk ps lv p
  | _ => []
theorem above_none {ps : List (Option Nat)} {lv : List Nat} {i : Nat} (h : ps[i]? = some none) : above ps lv i = [] := by unfold above; rw [h]
theorem above_some {ps : List (Option Nat)} {lv : List Nat} {i p : Nat} (h : ps[i]? = some (some p)) : above ps lv i = stk ps lv p := by unfold above; rw [h]
def ordAt (ps : List (Option Nat)) (lv : List Nat) (ord : List Nat) (i : Nat) : Nat :=
  if lv.getD i 0 ≤ (above ps lv i).length then ord.idxOf ((above ps lv i).getD (lv.getD i 0 - 1) 0) else ord.length
def ordOf (ps : List (Option Nat)) (lv : List Nat) : Nat → List Nat
  | 0 => []
  | k + 1 => putAt (ordOf ps lv k) (ordAt ps lv (ordOf ps lv k) k) k
theorem ordAt_le {ps : List (Option Nat)} {lv ord : List Nat} {i : Nat} : ordAt ps lv ord i ≤ ord.length := by
  unfold ordAt
  split
  · exact List.idxOf_le_length
  · exact Nat.le_refl _
theorem ord_inv {ps : List (Option Nat)} {lv : List Nat} (hp : Ps ps) (hv : Lv ps lv) : ∀ k, k ≤ ps.length → (ordOf ps lv k).Nodup ∧ (∀ x, x ∈ ordOf ps lv k ↔ x < k) ∧ ∀ i, i < k → stk ps lv i = rlm (fun x => (ordOf ps lv k).idxOf x) (road ps i) := by
  intro k
  induction k with
  | zero => exact fun _ => ⟨List.nodup_nil, fun x => ⟨fun z => (by cases z), fun z => absurd z (Nat.not_lt_zero _)⟩, fun i z => absurd z (Nat.not_lt_zero _)⟩
  | succ k ih =>
    intro hk
    obtain ⟨nd, hm, hs⟩ := ih (Nat.le_of_succ_le hk)
    have kn : k ∉ ordOf ps lv k := fun z => Nat.lt_irrefl _ ((hm k).mp z)
    have jl := ordAt_le (ps := ps) (lv := lv) (ord := ordOf ps lv k) (i := k)
    show (putAt _ _ k).Nodup ∧ (∀ x, x ∈ putAt _ _ k ↔ x < k + 1) ∧ ∀ i, i < k + 1 → stk ps lv i = rlm (fun x => (putAt (ordOf ps lv k) (ordAt ps lv (ordOf ps lv k) k) k).idxOf x) (road ps i)
    have hj : ordAt ps lv (ordOf ps lv k) k = if lv.getD k 0 ≤ (above ps lv k).length then (ordOf ps lv k).idxOf ((above ps lv k).getD (lv.getD k 0 - 1) 0) else (ordOf ps lv k).length := rfl
    generalize ordOf ps lv k = ord at nd hm hs kn jl hj ⊢
    generalize ordAt ps lv ord k = j at jl hj ⊢
    have old : ∀ x, x < k → (putAt ord j k).idxOf x = if ord.idxOf x < j then ord.idxOf x else ord.idxOf x + 1 := fun x hx => putAt_old kn jl ((hm x).mpr hx)
    have cg : ∀ n, n < k → rlm (fun x => (putAt ord j k).idxOf x) (road ps n) = stk ps lv n := fun n hn => by
      rw [hs n hn]
      refine rlm_congr fun x hx y hy => ?_
      have h1 := Nat.lt_of_le_of_lt (road_le hp n (by omega) x hx) hn
      have h2 := Nat.lt_of_le_of_lt (road_le hp n (by omega) y hy) hn
      show (putAt ord j k).idxOf x < (putAt ord j k).idxOf y ↔ _
      rw [old x h1, old y h2]
      split <;> split <;> omega
    refine ⟨putAt_nd nd kn, fun x => ?_, fun i hi => ?_⟩
    · rw [putAt_mem, hm]
      omega
    · by_cases hik : i < k
      · exact (cg i hik).symm
      · have e : i = k := by omega
        subst e
        have hl : lv[i]? = some (lv.getD i 0) := by
          rw [List.getD_eq_getElem?_getD, List.getElem?_eq_getElem (by rw [hv.1]; omega)]; rfl
        rcases opt_cases (ps := ps) (i := i) (by omega) with h | ⟨p, h⟩
        · rw [stk_none h, road_none h]
          show _ = rlm _ ([] ++ [i])
          rw [rlm_snoc]; rfl
        · have hpi := hp i p h
          have hlv := hv.2 i _ _ hl h
          have hml : mostLv lv (some p) = lv.getD p 0 + 1 := rfl
          have ea : above ps lv i = stk ps lv p := by unfold above; rw [h]
          have hlen := stk_len hp hv p (by omega)
          rw [stk_some hp h, road_some hp h, rlm_snoc, cg p hpi, putAt_new kn jl]
          congr 1
          rw [ea] at hj
          have flt : ∀ x ∈ stk ps lv p, decide ((putAt ord j i).idxOf x < j) = decide (ord.idxOf x < j) := fun x hx => by
            have hx2 := Nat.lt_of_le_of_lt (road_le hp p (by omega) x (stk_sub hp p (by omega) x hx)) hpi
            rw [old x hx2]
            congr 1
            refine propext ⟨fun z => ?_, fun z => ?_⟩
            · split at z <;> omega
            · rw [if_pos z]; exact z
          rw [List.filter_congr flt]
          by_cases c : lv.getD i 0 ≤ (stk ps lv p).length
          · rw [if_pos c] at hj
            have hm2 : lv.getD i 0 - 1 < (stk ps lv p).length := by omega
            have hg := getD_at hm2
            rw [hj]
            refine (filter_take ?_ hg).symm
            rw [hs p hpi]
            exact rlm_sorted _
          · rw [if_neg c] at hj
            rw [List.take_of_length_le (by omega), List.filter_eq_self.mpr]
            intro x hx
            have hx2 := Nat.lt_of_le_of_lt (road_le hp p (by omega) x (stk_sub hp p (by omega) x hx)) hpi
            have := List.idxOf_lt_length_of_mem ((hm x).mpr hx2)
            rw [hj]
            exact decide_eq_true this
/-- what the order tells of each place: its level -/
theorem ord_lv {ps : List (Option Nat)} {lv : List Nat} (hp : Ps ps) (hv : Lv ps lv) {i : Nat} (hi : i < ps.length) : (rlm (fun x => (ordOf ps lv ps.length).idxOf x) (road ps i)).length = lv.getD i 0 := by
  rw [← (ord_inv hp hv ps.length (Nat.le_refl _)).2.2 i hi]
  exact stk_len hp hv i hi
theorem ord_len {ps : List (Option Nat)} {lv : List Nat} : ∀ k, (ordOf ps lv k).length = k
  | 0 => rfl
  | k + 1 => by
    show (putAt _ _ k).length = k + 1
    rw [putAt_len, ord_len k]
theorem above_sub {ps : List (Option Nat)} {lv : List Nat} {i x : Nat} (hp : Ps ps) (hi : i < ps.length) (hx : x ∈ above ps lv i) : x < i := by
  rcases opt_cases hi with h | ⟨p, h⟩
  · rw [above_none h] at hx; cases hx
  · rw [above_some h] at hx
    have hl := hp i p h
    exact Nat.lt_of_le_of_lt (road_le hp p (Nat.lt_trans hl hi) x (stk_sub hp p (Nat.lt_trans hl hi) x hx)) hl
theorem putAt_end {ord : List Nat} {k : Nat} : putAt ord ord.length k = ord ++ [k] := by
  unfold putAt
  rw [List.take_length, List.drop_length]
/-- how many are not above any behind them -/
def cntMin : List Nat → Nat
  | [] => 0
  | x :: xs => (if ∀ y ∈ xs, x ≤ y then 1 else 0) + cntMin xs
theorem cnt_rlm {rk : Nat → Nat} : ∀ {xs : List Nat}, xs.Nodup → (∀ x ∈ xs, ∀ y ∈ xs, x ≠ y → rk x ≠ rk y) → cntMin (xs.map rk) = (rlm rk xs).length
  | [], _, _ => rfl
  | x :: xs, nd, inj => by
    have ih := cnt_rlm (xs := xs) (List.nodup_cons.mp nd).2 fun a ha b hb => inj a (List.mem_cons_of_mem _ ha) b (List.mem_cons_of_mem _ hb)
    show (if ∀ y ∈ xs.map rk, rk x ≤ y then 1 else 0) + cntMin (xs.map rk) = (if ∀ y ∈ xs, rk x < rk y then x :: rlm rk xs else rlm rk xs).length
    have e : (∀ y ∈ xs.map rk, rk x ≤ y) ↔ ∀ y ∈ xs, rk x < rk y := by
      constructor
      · intro h y hy
        have h1 := h (rk y) (List.mem_map.mpr ⟨y, hy, rfl⟩)
        have h2 := inj x List.mem_cons_self y (List.mem_cons_of_mem _ hy) fun z => (List.nodup_cons.mp nd).1 (z ▸ hy)
        omega
      · intro h z hz
        obtain ⟨y, hy, rfl⟩ := List.mem_map.mp hz
        exact Nat.le_of_lt (h y hy)
    rw [ih]
    by_cases c : ∀ y ∈ xs, rk x < rk y
    · rw [if_pos (e.mpr c), if_pos c, List.length_cons]; omega
    · rw [if_neg (fun z => c (e.mp z)), if_neg c]; omega
theorem road_nd {ps : List (Option Nat)} (hp : Ps ps) : ∀ n, n < ps.length → (road ps n).Nodup := by
  intro n
  induction n using Nat.strongRecOn with
  | ind n ih =>
    intro hn
    rcases opt_cases hn with h | ⟨p, h⟩
    · rw [road_none h]; exact List.nodup_cons.mpr ⟨fun z => (by cases z), List.nodup_nil⟩
    · have hl := hp n p h
      rw [road_some hp h, List.nodup_append]
      refine ⟨ih p hl (Nat.lt_trans hl hn), List.nodup_cons.mpr ⟨fun z => (by cases z), List.nodup_nil⟩, fun a ha b hb => ?_⟩
      rw [List.mem_singleton.mp hb]
      have := road_le hp p (Nat.lt_trans hl hn) a ha
      omega
/-- one plan's levels under a place put for another's -/
def mixLv (ps : List (Option Nat)) (l1 l2 : List Nat) (i : Nat) (at_ : Nat) : Nat := if i ∈ road ps at_ then l2.getD at_ 0 else l1.getD at_ 0
theorem mix_ok {ps : List (Option Nat)} {l1 l2 : List Nat} {i : Nat} (hp : Ps ps) (h1 : Lv ps l1) (h2 : Lv ps l2) (hi : i < ps.length)
    (hc : ∀ p, ps[i]? = some (some p) → mixLv ps l1 l2 i i ≤ mixLv ps l1 l2 i p + 1) : Lv ps ((List.range ps.length).map (mixLv ps l1 l2 i)) := by
  refine ⟨by rw [List.length_map, List.length_range], fun j l q hl hq => ?_⟩
  have hj : j < ps.length := (List.getElem?_eq_some_iff.mp hq).1
  have hg : ∀ k, k < ps.length → ((List.range ps.length).map (mixLv ps l1 l2 i)).getD k 0 = mixLv ps l1 l2 i k := fun k hk => by
    rw [List.getD_eq_getElem?_getD, List.getElem?_map, List.getElem?_range hk]; rfl
  have el : l = mixLv ps l1 l2 i j := by rw [← hg j hj, getD_of hl]
  have a1 := h1.2 j _ q (getD_at (by rw [h1.1]; exact hj)) hq
  have a2 := h2.2 j _ q (getD_at (by rw [h2.1]; exact hj)) hq
  cases q with
  | none =>
    have e : ∀ lv, mostLv lv none = 1 := fun _ => rfl
    rw [e] at a1 a2 ⊢
    rw [el]
    unfold mixLv
    split <;> omega
  | some p =>
    have hpj := hp j p hq
    have e : ∀ lv, mostLv lv (some p) = lv.getD p 0 + 1 := fun _ => rfl
    rw [e] at a1 a2 ⊢
    rw [hg p (Nat.lt_trans hpj hj), el]
    by_cases ej : j = i
    · subst ej
      refine ⟨?_, hc p hq⟩
      unfold mixLv
      split <;> omega
    · have em : i ∈ road ps j ↔ i ∈ road ps p := by
        rw [road_some hp hq, List.mem_append]
        constructor
        · rintro (h | h)
          · exact h
          · exact absurd (List.mem_singleton.mp h).symm ej
        · exact fun h => .inl h
      unfold mixLv
      by_cases c : i ∈ road ps p
      · rw [if_pos (em.mpr c), if_pos c]; exact a2
      · rw [if_neg (fun z => c (em.mp z)), if_neg c]; exact a1
theorem cnt_cons_yes {x : Nat} {t : List Nat} (c : ∀ y ∈ t, x ≤ y) : cntMin (x :: t) = 1 + cntMin t := by
  show (if ∀ y ∈ t, x ≤ y then 1 else 0) + cntMin t = _
  rw [if_pos c]
theorem cnt_cons_no {x : Nat} {t : List Nat} (c : ¬ ∀ y ∈ t, x ≤ y) : cntMin (x :: t) = cntMin t := by
  show (if ∀ y ∈ t, x ≤ y then 1 else 0) + cntMin t = _
  rw [if_neg c, Nat.zero_add]
theorem cnt_yes {l : List Nat} {i x : Nat} (h : l[i]? = some x) (c : ∀ y ∈ l.drop (i + 1), x ≤ y) : cntMin (l.drop i) = 1 + cntMin (l.drop (i + 1)) := by
  obtain ⟨hi, e⟩ := List.getElem?_eq_some_iff.mp h
  rw [List.drop_eq_getElem_cons hi, e]
  exact cnt_cons_yes c
theorem cnt_no {l : List Nat} {i x : Nat} (h : l[i]? = some x) (c : ¬ ∀ y ∈ l.drop (i + 1), x ≤ y) : cntMin (l.drop i) = cntMin (l.drop (i + 1)) := by
  obtain ⟨hi, e⟩ := List.getElem?_eq_some_iff.mp h
  rw [List.drop_eq_getElem_cons hi, e]
  exact cnt_cons_no c
end Ck
namespace Cn
open PySem PySem.Spec PyProof.Rows L2
def topS (i : Nat) : Stmt := PySem.Challenge.pw_cutnotes_k28_whole_tables_that_are_hiera.main.body.getD i (.Pass ⟨0, 0, 0, 0⟩)

abbrev sSome : Stmt := topS 27
abbrev sIsInt : Stmt := topS 5
abbrev sIsBtw : Stmt := topS 6
abbrev sIsLot : Stmt := topS 7
abbrev sLotOf : Stmt := topS 11
abbrev sHand : Stmt := topS 21
abbrev sDraw : Stmt := topS 22
abbrev sIs : Stmt := topS 23
abbrev sLawLot : Stmt := topS 24
abbrev sRoad : Stmt := topS 25
abbrev sMixed : Stmt := topS 28
abbrev sIsTable : Stmt := topS 15
abbrev sAreCr : Stmt := topS 16
abbrev sLastW : Stmt := topS 19
abbrev sCross : Stmt := topS 17
abbrev sForOf : Stmt := topS 18
abbrev sLIsInt : Stmt := topS 26
abbrev sNested : Stmt := topS 29
abbrev sLTable : Stmt := topS 30
abbrev sLCross : Stmt := topS 31
abbrev sLIsForO : Stmt := topS 32
abbrev sInit : Stmt := inClass (topS 10) 0
abbrev sEqM : Stmt := inClass (topS 10) 1
abbrev sLaw : Stmt := topS 33
/-! heaps -/
theorem smUpd {H : Hp} {p : Addr} {o : HO} (h : H p = none) : Same H (upd H p o) := fun b x e => by
  rw [upd_ne (ne_of_none e h)]
  exact e
theorem cutTake (xs : List V) (n : Nat) : cutV xs none (some (n : Int)) = xs.take n := by
  unfold cutV
  rw [HT.sIx_none, HT.sIx_nat]
  show (xs.drop 0).take (min n xs.length - 0) = xs.take n
  rw [List.drop_zero, Nat.sub_zero]
  by_cases h : n ≤ xs.length
  · rw [Nat.min_eq_left h]
  · rw [Nat.min_eq_right (by omega), List.take_length, List.take_of_length_le (by omega)]
theorem getMap {xs : List Int} {i : Nat} {v : V} (h : (xs.map V.int)[i]? = some v) : ∃ z, xs[i]? = some z ∧ v = .int z := by
  rw [List.getElem?_map] at h
  cases e : xs[i]? with
  | none => rw [e] at h; cases h
  | some z => rw [e] at h; exact ⟨z, rfl, (Option.some.inj h).symm⟩
/-! the hand that deals -/
abbrev handL (c : Addr) (i g m t : Int) : HO := .lst [.ref c, .int i, .int g, .int m, .int t]
structure HandIn (H : Hp) (p c : Addr) (cells : List Int) : Prop where
  ob : ∃ i g m t : Int, H p = some (handL c i g m t) ∧ 0 ≤ i
  ce : H c = some (.lst (cells.map V.int))
  ne : p ≠ c
def spHand (K : PySem.W.Frag) : Sp := fun vs H Q _ => ∃ (a : Addr) (ns : List Int), vs = [.ref a] ∧ SqL K H a (ns.map V.int) ∧ ns.length ≤ 63 ∧
  ∀ (H' : Hp) (p c : Addr) (cells : List Int), Same H H' → H p = none → H c = none → HandIn H' p c cells → Q (.ref p) H'
def nHand : List Str := ["_law_script", "_law_cells", "_law_cell"]
theorem scHand : FnScope nHand ["_law_script"] (defScope sHand) := ⟨rfl, rfl, rfl, by decide +kernel, rfl, by decide +kernel, by decide +kernel⟩
section
variable {P : Program} {w : World} {K : PySem.W.Frag} {mg : Str → Option Value} {base : Heap}
theorem ok_hand {f : Addr} {fd : FuncData} (F : Fun K "_law_hand" "_law_hand" sHand f fd) (mAbs : mg "abs" = none) (mInt : mg "int" = none) (mLen : mg "len" = none) : FnOk P w K mg base CX0 1 f fd ["_law_script"] (spHand K) := by
  refine F.ok scHand (fun vs H Q E h => ?_) (fun cdv A outer s H vs Q E hr h => ?_)
  · obtain ⟨a, ns, rfl, _⟩ := h
    rfl
  · obtain ⟨a, ns, rfl, hS, hlen, k⟩ := h
    refine ⟨_, pss_cons (ps_setLc (i := 1) (own := [("_law_cell", 2)]) (g := gName 2) (tt := tYes) rfl scHand.nd rfl rfl (sw_true rfl rfl rfl (by decide +kernel))
        (pi_list (pe_slice sl_list (pv 0) po_none (po_some pe_int))) (blkOk_by (N := nHand) (sc := defScope sHand) (by decide +kernel))
        (fun _ _ _ _ _ => pg_name (i := 2) scHand.nd rfl (Or.inl rfl)) (fun _ _ _ _ _ => pts_nil)
        (fun _ _ _ _ _ => pe_callB call_abs (by rfl) mAbs (by decide +kernel) (pa_cons (pe_callTy call_int1 (by rfl) mInt (by decide +kernel) (pa_cons (pv 2) pa_nil)) pa_nil)))
      (pss_one (ps_ret (pe_lst (pa_cons (pv 1) (pa_cons pe_int (pa_cons pe_int (pa_cons (pe_op op_add pe_int (pe_callB call_len_seq (by rfl) mLen PySem.boot_len (pa_cons (pv 1) pa_nil))) (pa_cons pe_int pa_nil)))))))), ?_⟩
    refine ⟨.ref a, rfl, 63, rfl, a, ns.map V.int, rfl, hS, fun q nq => ?_⟩
    have ex : cutV (ns.map V.int) none (some 63) = (ns.take 63).map V.int := by
      rw [show (some (63 : Int)) = some ((63 : Nat) : Int) from rfl, cutTake, List.map_take]
    rw [ex]
    have s1 : Same H (upd H q (.lst ((ns.take 63).map V.int))) := smUpd nq
    refine ⟨_, rfl, ⟨_, .inl (.inl upd_same)⟩, fun D nD => ?_⟩
    have nDq : D ≠ q := fun e => by rw [e, upd_same] at nD; cases nD
    refine lc_list (K := K) (a := q) (xs := (ns.take 63).map V.int) (fun i H' => Same (upd H q (.lst ((ns.take 63).map V.int))) H' ∧ ∃ cs : List Int, H' D = some (.lst (cs.map V.int)) ∧ cs.length = i) ?_ ?_ ?_ ?_
    · exact ⟨smUpd nD, [], upd_same, rfl⟩
    · rintro i H' _ ⟨sm, _⟩
      exact .inl (.inl (sm _ _ upd_same))
    · rintro i x H' hx ⟨sm, cs, hD, hl⟩
      obtain ⟨z, hz, rfl⟩ := getMap hx
      have hi : i < 63 := by
        have e := (List.getElem?_eq_some_iff.mp hz).1
        rw [List.length_take] at e
        omega
      refine ⟨rfl, ⟨_, rfl, .inl ⟨z, rfl, z, rfl, cs.map V.int, hD, ?_, fun b o e => ?_, cs ++ [if z < 0 then -z else z], ?_, ?_⟩⟩⟩
      · rw [List.length_map]; exact small1000 (by omega)
      · have nb : b ≠ D := fun e' => by rw [e', nD] at e; cases e
        rw [upd_ne nb]
        exact sm b o e
      · rw [upd_same, List.map_append]; rfl
      · rw [List.length_append, hl]; rfl
    · rintro H' ⟨sm, cs, hD, hl⟩
      refine ⟨_, rfl, .ref D, rfl, D, cs.map V.int, rfl, .inl (.inl (.inl hD)), 1, _, rfl, rfl, by show 5 ≤ sizeLine; decide, fun p np => ?_⟩
      have npD : p ≠ D := fun e => by rw [e, hD] at np; cases np
      refine k _ p D cs (fun b o e => ?_) ?_ ?_ ⟨⟨0, 0, _, 0, upd_same, by decide⟩, by rw [upd_ne npD.symm]; exact hD, npD⟩
      · have e1 := sm b o (s1 b o e)
        rw [upd_ne (ne_of_none e1 np)]
        exact e1
      · cases e : H p with
        | none => rfl
        | some o => rw [sm p o (s1 p o e)] at np; cases np
      · cases e : H D with
        | none => rfl
        | some o => rw [s1 D o e] at nD; cases nD
end
end Cn
namespace Cn
open PySem PySem.Spec PyProof.Rows L2
/-! a statement, then the rest, by a word of what stands between -/
def tMid (t u : TS) : TS := fun D σ H => ∃ R : L2.St → Hp → Prop, t { nx := R, rt := D.rt, bk := D.bk, ct := D.ct } σ H ∧ ∀ σ2 H2, R σ2 H2 → u D σ2 H2
theorem psMid {X : Cx} {st : Stmt} {rest : List Stmt} {t u : TS} (a : PS X st t) (b : PSs X rest u) : PSs X (st :: rest) (tMid t u) := by
  constructor
  intro pins s σ H D I h
  obtain ⟨R, h1, h2⟩ := h
  refine wpAny_execs_cons (thn (a.run pins s σ H _ I h1) fun fl s1 q => ?_)
  cases fl with
  | next =>
    obtain ⟨σ2, H2, I2, q2⟩ := q
    exact b.run pins s1 σ2 H2 D I2 (h2 σ2 H2 q2)
  | brk => exact q
  | cont => exact q
  | ret u => exact q
def spDraw : Sp := fun vs H Q _ => ∃ (p c : Addr) (cells : List Int) (k : Int), vs = [.ref p, .int k] ∧ HandIn H p c cells ∧ 0 < k ∧ k < 1073741824 ∧
  ∀ (d i g m t : Int), 0 ≤ d → d < k → 0 ≤ i → Q (.int d) (upd H p (handL c i g m t))
def nDraw : List Str := ["_law_hand_here", "_law_many", "_law_cell", "_law_digit", "_law_number"]
theorem scDraw : FnScope nDraw ["_law_hand_here", "_law_many"] (defScope sDraw) := ⟨rfl, rfl, rfl, by decide +kernel, rfl, by decide +kernel, by decide +kernel⟩
theorem fmB {a k : Int} (h : 0 < k) : 0 ≤ a.fmod k ∧ a.fmod k < k := ⟨Int.fmod_nonneg_of_pos a h, Int.fmod_lt_of_pos a h⟩
theorem atNat {cs : List Int} {i : Int} (h0 : 0 ≤ i) (h1 : i < ((cs.map V.int).length : Int)) : ∃ z, atI (cs.map V.int) i = some (.int z) := by
  obtain ⟨n, rfl⟩ := Int.eq_ofNat_of_zero_le h0
  rw [List.length_map] at h1
  have hn : n < cs.length := by omega
  refine ⟨cs[n], ?_⟩
  unfold atI ixN
  rw [if_pos (by omega), List.length_map, if_pos (by omega)]
  show (cs.map V.int)[((n : Nat) : Int).toNat]? = _
  rw [Int.toNat_natCast, List.getElem?_map, List.getElem?_eq_getElem hn]
  rfl
section
variable {P : Program} {w : World} {K : PySem.W.Frag} {mg : Str → Option Value} {base : Heap}
theorem ok_draw {f : Addr} {fd : FuncData} (F : Fun K "_law_draw" "_law_draw" sDraw f fd) (mInt : mg "int" = none) (mLen : mg "len" = none) : FnOk P w K mg base CX0 1 f fd ["_law_hand_here", "_law_many"] spDraw := by
  refine F.ok scDraw (fun vs H Q E h => ?_) (fun cdv A outer s H vs Q E hr h => ?_)
  · obtain ⟨p, c, cells, k, rfl, _⟩ := h
    rfl
  · obtain ⟨p, c, cells, k, rfl, hI, k0, k1, q⟩ := h
    refine ⟨_, psMid (ps_if (PW.pt (pw_and (pt_cmpR op_eq (pe_ix ix_list (pv 0) pe_int (fun _ _ => rfl)) pe_int (nomark _))
            (pw_and1 (pt_cmpR op_lt (pe_ix ix_list (pv 0) pe_int (fun _ _ => rfl)) (pe_callB call_len_seq (by rfl) mLen PySem.boot_len (pa_cons (pe_ix ix_list (pv 0) pe_int (fun _ _ => rfl)) pa_nil)) (nomark _)))))
        (pss_cons (ps_set (i := 2) scDraw.nd rfl (Or.inl rfl) (pe_ix ix_list (pe_ix ix_list (pv 0) pe_int (fun _ _ => rfl)) (pe_ix ix_list (pv 0) pe_int (fun _ _ => rfl)) (fun _ _ => rfl)))
        (pss_cons (ps_asg (pe_op op_add (pe_ix ix_list (pv 0) pe_int (fun _ _ => rfl)) pe_int) (pg_sub (pv 0) pe_int set_list))
        (pss_cons (ps_asg (pe_op op_modN (pe_callTy call_int1 (by rfl) mInt (by decide +kernel) (pa_cons (pe_op op_add (pe_op op_add (pe_op op_mul (pe_ix ix_list (pv 0) pe_int (fun _ _ => rfl)) pe_int) (pv 2)) pe_int) pa_nil)) pe_int) (pg_sub (pv 0) pe_int set_list))
        (pss_one (ps_if (pt_cmpR op_ge (pv 2) (pe_op op_pow pe_int pe_int) (nomark _)) (pss_one (ps_asg (pv 2) (pg_sub (pv 0) pe_int set_list))) pss_nil)))))
        pss_nil)
      (pss_cons (ps_if (pt_cmpR op_gt (pe_ix ix_list (pv 0) pe_int (fun _ _ => rfl)) pe_int (nomark _))
        (pss_cons (ps_set (i := 3) scDraw.nd rfl (Or.inl rfl) (pe_op op_modN (pe_callTy call_int1 (by rfl) mInt (by decide +kernel) (pa_cons (pe_ix ix_list (pv 0) pe_int (fun _ _ => rfl)) pa_nil)) (pv 1)))
        (pss_cons (ps_asg (pe_op op_fdivN (pe_ix ix_list (pv 0) pe_int (fun _ _ => rfl)) (pv 1)) (pg_sub (pv 0) pe_int set_list))
        (pss_one (ps_ret (pv 3))))) pss_nil)
      (pss_cons (ps_asg (pe_op op_add (pe_ix ix_list (pv 0) pe_int (fun _ _ => rfl)) pe_int) (pg_sub (pv 0) pe_int set_list))
      (pss_cons (ps_set (i := 4) scDraw.nd rfl (Or.inl rfl) (pe_op op_modN (pe_callTy call_int1 (by rfl) mInt (by decide +kernel) (pa_cons (pe_op op_mul (pe_callTy call_int1 (by rfl) mInt (by decide +kernel) (pa_cons (pe_op op_add (pe_ix ix_list (pv 0) pe_int (fun _ _ => rfl)) (pe_op op_mul pe_int (pe_ix ix_list (pv 0) pe_int (fun _ _ => rfl)))) pa_nil)) pe_int) pa_nil)) pe_int))
      (pss_cons (ps_set (i := 4) scDraw.nd rfl (Or.inl rfl) (pe_op op_modN (pe_callTy call_int1 (by rfl) mInt (by decide +kernel) (pa_cons (pe_op op_mul (pv 4) (pe_op op_add (pe_op op_fdivN (pv 4) pe_int) pe_int)) pa_nil)) pe_int))
      (pss_cons (ps_set (i := 4) scDraw.nd rfl (Or.inl rfl) (pe_op op_modN (pe_callTy call_int1 (by rfl) mInt (by decide +kernel) (pa_cons (pe_op op_mul (pv 4) (pe_op op_add (pe_op op_fdivN (pv 4) pe_int) pe_int)) pa_nil)) pe_int))
      (pss_one (ps_ret (pe_op op_modN (pe_callTy call_int1 (by rfl) mInt (by decide +kernel) (pa_cons (pe_op op_fdivN (pv 4) pe_int) pa_nil)) (pv 1))))))))), ?_⟩
    obtain ⟨⟨i, g, m, t, hp, hi⟩, hc, ne⟩ := hI
    have sq : ∀ {H' : Hp} {a : Addr} {xs : List V}, H' a = some (.lst xs) → SqL K H' a xs := fun h => .inl (.inl h)
    have kn : k ≠ 0 := by omega
    have kb : k.natAbs < 1073741824 := by omega
    refine ⟨fun σ2 H2 => ∃ (cl : Option V) (i g m t : Int), 0 ≤ i ∧ σ2 = [some (.ref p), some (.int k), cl, none, none] ∧ H2 = upd H p (handL c i g m t), ?_, ?_⟩
    · have same : upd H p (handL c i g m t) = H := by
        funext b
        by_cases e : b = p
        · rw [e, upd_same, hp]
        · rw [upd_ne e]
      refine ⟨_, rfl, p, _, 2, _, rfl, rfl, sq hp, rfl, rfl, _, rfl, ?_⟩
      refine ite2 (fun _ => ?_) (fun _ => ⟨none, i, g, m, t, hi, rfl, same.symm⟩)
      refine ⟨_, rfl, p, _, 1, _, rfl, rfl, sq hp, rfl, _, rfl, p, _, 0, _, rfl, rfl, sq hp, rfl, c, _, rfl, .inl (sq hc), i, _, rfl, rfl, _, rfl, ?_⟩
      refine ite2 (fun hlt => ?_) (fun _ => ⟨none, i, g, m, t, hi, rfl, same.symm⟩)
      obtain ⟨z, hz⟩ := atNat hi (of_decide_eq_true hlt)
      refine ⟨_, rfl, p, _, 0, _, rfl, rfl, sq hp, rfl, _, rfl, p, _, 1, _, rfl, rfl, sq hp, rfl, c, _, i, _, rfl, rfl, sq hc, hz, ?_⟩
      refine ⟨_, rfl, p, _, 1, _, rfl, rfl, sq hp, rfl, _, _, rfl, rfl, _, rfl, p, _, 1, 1, rfl, rfl, hp, rfl, ?_⟩
      have st : ∀ (j : Nat) (v : V) (i g m t : Int), upd (upd H p (handL c i g m t)) p (.lst (List.set [.ref c, .int i, .int g, .int m, .int t] j v)) = upd H p (.lst (List.set [.ref c, .int i, .int g, .int m, .int t] j v)) := fun _ _ _ _ _ _ => upd_upd
      have s1 : upd H p (.lst (List.set [.ref c, .int i, .int g, .int m, .int t] 1 (.int (i + 1)))) = upd H p (handL c (i + 1) g m t) := rfl
      rw [s1]
      refine ⟨_, rfl, p, _, 3, _, rfl, rfl, sq upd_same, rfl, _, _, rfl, rfl, .inr (by decide), _, rfl, _, _, rfl, rfl, _, _, rfl, rfl, .inl ⟨_, rfl, _, _, rfl, rfl, (show (2147483629 : Int) ≠ 0 by decide), _, rfl, p, _, 3, 3, rfl, rfl, upd_same, rfl, ?_⟩⟩
      rw [st]
      refine ⟨_, rfl, _, _, rfl, rfl, ⟨by decide, by decide, by decide⟩, _, _, rfl, rfl, _, rfl, ?_⟩
      refine ite2 (fun _ => ?_) (fun _ => ⟨_, i + 1, g, _, t, by omega, rfl, rfl⟩)
      refine ⟨_, rfl, _, rfl, p, _, 2, 2, rfl, rfl, upd_same, rfl, ?_⟩
      exact ⟨_, i + 1, z, _, t, by omega, rfl, upd_upd⟩
    · rintro σ2 H2 ⟨cl, i, g, m, t, hi, rfl, rfl⟩
      have hp : upd H p (handL c i g m t) p = some (handL c i g m t) := upd_same
      refine ⟨_, rfl, p, _, 2, _, rfl, rfl, sq hp, rfl, _, _, rfl, rfl, _, rfl, ?_⟩
      refine ite2 (fun _ => ?_) (fun _ => ?_)
      · refine ⟨_, rfl, p, _, 2, _, rfl, rfl, sq hp, rfl, .inl ⟨_, rfl, _, rfl, _, _, rfl, rfl, kn, ?_⟩⟩
        refine ⟨_, rfl, p, _, 2, _, rfl, rfl, sq hp, rfl, _, rfl, _, _, rfl, rfl, ⟨kn, kb⟩, _, rfl, p, _, 2, 2, rfl, rfl, hp, rfl, _, rfl, ?_⟩
        rw [upd_upd]
        exact q _ i _ m t (fmB k0).1 (fmB k0).2 hi
      · refine ⟨_, rfl, p, _, 4, _, rfl, rfl, sq hp, rfl, _, _, rfl, rfl, _, rfl, p, _, 4, 4, rfl, rfl, hp, rfl, ?_⟩
        rw [upd_upd]
        refine ⟨_, rfl, p, _, 3, _, rfl, rfl, sq upd_same, rfl, _, rfl, p, _, 4, _, rfl, rfl, sq upd_same, rfl, _, _, rfl, rfl, .inl (by decide), _, _, rfl, rfl, .inl ⟨_, rfl, _, _, rfl, rfl, .inr (by decide), .inl ⟨_, rfl, _, _, rfl, rfl, (show (2147483647 : Int) ≠ 0 by decide), ?_⟩⟩⟩
        have b1 := fmB (a := (m + 7919 * (t + 1)) * 48271) (k := 2147483647) (by decide)
        refine ⟨_, rfl, _, rfl, _, _, rfl, rfl, ⟨by decide, by decide⟩, _, _, rfl, rfl, _, _, rfl, rfl, .inl ⟨by omega, by omega⟩, .inl ⟨_, rfl, _, _, rfl, rfl, (show (2147483647 : Int) ≠ 0 by decide), ?_⟩⟩
        have b2 := fmB (a := ((m + 7919 * (t + 1)) * 48271).fmod 2147483647 * ((((m + 7919 * (t + 1)) * 48271).fmod 2147483647).fdiv 1009 + 69621)) (k := 2147483647) (by decide)
        refine ⟨_, rfl, _, rfl, _, _, rfl, rfl, ⟨by decide, by decide⟩, _, _, rfl, rfl, _, _, rfl, rfl, .inl ⟨by omega, by omega⟩, .inl ⟨_, rfl, _, _, rfl, rfl, (show (2147483399 : Int) ≠ 0 by decide), ?_⟩⟩
        refine ⟨_, rfl, _, _, rfl, rfl, ⟨by decide, by decide⟩, .inl ⟨_, rfl, _, rfl, _, _, rfl, rfl, kn, ?_⟩⟩
        exact q _ i g m (t + 1) (fmB k0).1 (fmB k0).2 hi
end
end Cn
namespace Cn
open PySem PySem.Spec PyProof.Rows L2
theorem small4000 {n : Nat} (h : n ≤ 4000) : n < sizeLine := Nat.lt_of_le_of_lt h (by decide)
theorem OpR.orr {X : Cx} {f : Value → Value → Sem Value} {r r2 : R2} (h : OpR X f r) (k : OpR X f r2) : OpR X f (fun x y H Q => r x y H Q ∨ r2 x y H Q) := by
  intro pins s σ H x y v u Q I rx ry q
  rcases q with q | q
  · exact h pins s σ H x y v u Q I rx ry q
  · exact k pins s σ H x y v u Q I rx ry q
/-! two things that are alike, of nesting at most n: flat ones and dicts are the same -/
def DictOk (H : Hp) (x : V) : Prop := ∃ a kvs, x = .ref a ∧ H a = some (.dK kvs) ∧ (kvs = [] ∨ ∃ k u, kvs = [(k, u)] ∧ (flatV u = true ∨ ∃ b, u = .ref b))
def EqG (H : Hp) : Nat → V → V → Prop
  | 0 => fun x y => x = y ∧ (flatV x = true ∨ DictOk H x)
  | n + 1 => fun x y => EqG H n x y ∨ ∃ a b xs ys, x = .ref a ∧ y = .ref b ∧ ((H a = some (.lst xs) ∧ H b = some (.lst ys)) ∨ (H a = some (.tup xs) ∧ H b = some (.tup ys))) ∧ xs.length ≤ 4000 ∧ Paired (EqG H n) xs ys
theorem pairedSelf {F : V → V → Prop} : ∀ {xs : List V}, (∀ x ∈ xs, F x x) → Paired F xs xs
  | [], _ => .nil
  | x :: xs, h => .cons (h x List.mem_cons_self) (pairedSelf fun y hy => h y (List.mem_cons_of_mem _ hy))
theorem eqG_same {H H' : Hp} (s : Same H H') : ∀ {n : Nat} {x y : V}, EqG H n x y → EqG H' n x y
  | 0, x, y, h => by
    obtain ⟨e, h | ⟨a, kvs, e2, ha, hk⟩⟩ := h
    · exact ⟨e, .inl h⟩
    · exact ⟨e, .inr ⟨a, kvs, e2, s _ _ ha, hk⟩⟩
  | n + 1, x, y, h => by
    rcases h with h | ⟨a, b, xs, ys, e1, e2, h, hl, hp⟩
    · exact .inl (eqG_same s h)
    · exact .inr ⟨a, b, xs, ys, e1, e2, h.imp (fun z => ⟨s _ _ z.1, s _ _ z.2⟩) (fun z => ⟨s _ _ z.1, s _ _ z.2⟩), hl, Paired.mapP hp fun _ _ z => eqG_same s z⟩
/-- told and due, alike: True comes out, new things apart nothing is changed -/
def spIs (n : Nat) : Sp := fun vs H Q _ => ∃ (x y : V), vs = [x, y] ∧ EqG H n x y ∧ ∀ H', Same H H' → Q (.bl true) H'
/-- all([..]) over two lists, or two tuples, of things alike -/
def tAllIs (n : Nat) : TE := fun σ H Q => ∃ a b xs ys, σ[0]? = some (some (.ref a)) ∧ σ[1]? = some (some (.ref b)) ∧ ((H a = some (.lst xs) ∧ H b = some (.lst ys)) ∨ (H a = some (.tup xs) ∧ H b = some (.tup ys))) ∧ xs.length ≤ 4000 ∧ Paired (EqG H n) xs ys ∧ ∀ H', Same H H' → Q (.bl true) H'
/-! types -/
theorem kit2 {K : PySem.W.Frag} {T : String} {b : Bool} (h : ((kitB T "tuple").bind fun a => if a then some true else kitB T "list") = some b) : PySem.W.kitAny K (.type T) [.type "tuple", .type "list"] = some b := by
  cases e : kitB T "tuple" with
  | none => rw [e] at h; cases h
  | some a =>
    rw [e] at h
    cases a with
    | true =>
      have hb : b = true := (Option.some.inj h).symm
      subst hb
      exact kitAny_cons (kit_ty e) (fun z => nomatch z) fun _ => rfl
    | false =>
      have h : kitB T "list" = some b := h
      refine kitAny_cons (kit_ty e) (fun _ => kitAny_cons (kit_ty h) (fun z => ?_) (fun z => z)) (fun z => nomatch z)
      rw [z]; exact kitAny_nil
/-- a thing that is no list and no tuple -/
theorem leafTy {K : PySem.W.Frag} {H : Hp} {x : V} (h : flatV x = true ∨ DictOk H x) : ∃ T b, TyX K H x (.type T) ∧ PySem.W.kitAny K (.type T) [.type "tuple", .type "list"] = some false ∧ PySem.W.kitOne K (.type T) (.type "bool") = some b := by
  rcases h with h | ⟨a, kvs, rfl, ha, _⟩
  · cases x with
    | non => exact ⟨"NoneType", false, .base .non, kit2 (by decide +kernel), kit_ty (by decide +kernel)⟩
    | bl b => exact ⟨"bool", true, .base (.bl b), kit2 (by decide +kernel), kit_ty (by decide +kernel)⟩
    | int i => exact ⟨"int", false, .base (.int i), kit2 (by decide +kernel), kit_ty (by decide +kernel)⟩
    | str z => exact ⟨"str", false, .base (.str z), kit2 (by decide +kernel), kit_ty (by decide +kernel)⟩
    | _ => cases h
  · exact ⟨"dict", false, .base (.dK ha), kit2 (by decide +kernel), kit_ty (by decide +kernel)⟩
theorem seqTy {K : PySem.W.Frag} {H : Hp} {a : Addr} {xs : List V} {tu : Bool} (h : if tu = true then H a = some (.tup xs) else H a = some (.lst xs)) : ∃ T, TyX K H (.ref a) (.type T) ∧ PySem.W.kitAny K (.type T) [.type "tuple", .type "list"] = some true ∧ PySem.W.kitOne K (.type T) (.type "tuple") = some tu := by
  cases tu with
  | true => exact ⟨"tuple", .base (.tup (by simpa using h)), kit2 (by decide +kernel), kit_ty (by decide +kernel)⟩
  | false => exact ⟨"list", .base (.lst (by simpa using h)), kit2 (by decide +kernel), kit_ty (by decide +kernel)⟩
end Cn
namespace Cn
open PySem PySem.Spec PyProof.Rows L2
/-! comprehensions over zip -/
section
variable {K : PySem.W.Frag} {a b D : Addr} {xs ys : List V} {g : TG} {tt : TT} {te : TE} {vs : List Nat} {σ : L2.St} {H1 : Hp} {Qd : Hp → Prop}
def ZipTurn (Pv : Nat → Hp → Prop) (D : Addr) (g : TG) (tt : TT) (te : TE) (vs : List Nat) (σ : L2.St) (i : Nat) (x y : V) : Prop := ∀ (T : Addr) (H : Hp), Pv i H → H T = none → g (.ref T) (wipe σ vs) (upd H T (.tup [x, y])) fun σ2 H2 => wipe σ2 vs = wipe σ vs ∧ tt σ2 H2 fun k H3 =>
  if k = true then te σ2 H3 fun z H4 => ∃ acc, H4 D = some (.lst acc) ∧ acc.length < sizeLine ∧ Pv (i + 1) (upd H4 D (.lst (acc ++ [z]))) else Pv (i + 1) H3
theorem lcZipL (hl : xs.length = ys.length) (Pv : Nat → Hp → Prop) (h0 : Pv 0 (upd H1 D (.lst []))) (hq : ∀ i H, Pv i H → SqL K H a xs ∧ SqL K H b ys) (hs : ∀ i x y, xs[i]? = some x → ys[i]? = some y → ZipTurn Pv D g tt te vs σ i x y) (hd : ∀ H, Pv xs.length H → Qd H) :
    ∃ W : Nat → Nat → Hp → Prop, (∃ m, W 0 m (upd H1 D (.lst []))) ∧ ∀ i m H, W i m H → ((Itz K a b).stop i H ∧ Qd H) ∨ ((Itz K a b).go i H ∧ ∃ Nx : Hp → Prop, (∀ H', Nx H' → ∃ m', m' < m ∧ W (i + 1) m' H') ∧ ∀ x H', (Itz K a b).yld i H x H' → g x (wipe σ vs) H' fun σ2 H2 => wipe σ2 vs = wipe σ vs ∧ tt σ2 H2 fun k H3 =>
      if k = true then te σ2 H3 fun z H4 => ∃ acc, H4 D = some (.lst acc) ∧ acc.length < sizeLine ∧ Nx (upd H4 D (.lst (acc ++ [z]))) else Nx H3) := by
  refine ⟨fun i m H => m = xs.length - i ∧ i ≤ xs.length ∧ Pv i H, ⟨_, rfl, Nat.zero_le _, h0⟩, ?_⟩
  rintro i m H ⟨rfl, hi, p⟩
  obtain ⟨qa, qb⟩ := hq i H p
  rcases Nat.lt_or_ge i xs.length with lt | ge
  · have ea : xs[i]? = some xs[i] := List.getElem?_eq_getElem lt
    have lt2 : i < ys.length := by omega
    have eb : ys[i]? = some ys[i] := List.getElem?_eq_getElem lt2
    refine .inr ⟨⟨xs, ys, _, _, qa, qb, ea, eb⟩, Pv (i + 1), fun H' p' => ⟨xs.length - (i + 1), by omega, rfl, lt, p'⟩, ?_⟩
    rintro v H' ⟨T, u, z, rfl, nT, rfl, k1, k2⟩
    exact hs i u z (k1 xs qa) (k2 ys qb) T H p nT
  · have e : i = xs.length := by omega
    subst e
    exact .inl ⟨⟨xs, ys, qa, qb, .inl (Nat.le_refl _)⟩, hd H p⟩
theorem lcZipT (hl : xs.length = ys.length) (Pv : Nat → Hp → Prop) (h0 : Pv 0 (upd H1 D (.lst []))) (hq : ∀ i H, Pv i H → SqT K H a xs ∧ SqT K H b ys) (hs : ∀ i x y, xs[i]? = some x → ys[i]? = some y → ZipTurn Pv D g tt te vs σ i x y) (hd : ∀ H, Pv xs.length H → Qd H) :
    ∃ W : Nat → Nat → Hp → Prop, (∃ m, W 0 m (upd H1 D (.lst []))) ∧ ∀ i m H, W i m H → ((RZ.ItzT K a b).stop i H ∧ Qd H) ∨ ((RZ.ItzT K a b).go i H ∧ ∃ Nx : Hp → Prop, (∀ H', Nx H' → ∃ m', m' < m ∧ W (i + 1) m' H') ∧ ∀ x H', (RZ.ItzT K a b).yld i H x H' → g x (wipe σ vs) H' fun σ2 H2 => wipe σ2 vs = wipe σ vs ∧ tt σ2 H2 fun k H3 =>
      if k = true then te σ2 H3 fun z H4 => ∃ acc, H4 D = some (.lst acc) ∧ acc.length < sizeLine ∧ Nx (upd H4 D (.lst (acc ++ [z]))) else Nx H3) := by
  refine ⟨fun i m H => m = xs.length - i ∧ i ≤ xs.length ∧ Pv i H, ⟨_, rfl, Nat.zero_le _, h0⟩, ?_⟩
  rintro i m H ⟨rfl, hi, p⟩
  obtain ⟨qa, qb⟩ := hq i H p
  rcases Nat.lt_or_ge i xs.length with lt | ge
  · have ea : xs[i]? = some xs[i] := List.getElem?_eq_getElem lt
    have lt2 : i < ys.length := by omega
    have eb : ys[i]? = some ys[i] := List.getElem?_eq_getElem lt2
    refine .inr ⟨⟨xs, ys, _, _, qa, qb, ea, eb⟩, Pv (i + 1), fun H' p' => ⟨xs.length - (i + 1), by omega, rfl, lt, p'⟩, ?_⟩
    rintro v H' ⟨T, u, z, rfl, nT, rfl, k1, k2⟩
    exact hs i u z (k1 xs qa) (k2 ys qb) T H p nT
  · have e : i = xs.length := by omega
    subst e
    exact .inl ⟨⟨xs, ys, qa, qb, .inl (Nat.le_refl _)⟩, hd H p⟩
end
theorem pairedAt {F : V → V → Prop} : ∀ {xs ys : List V}, Paired F xs ys → ∀ {i : Nat} {x y : V}, xs[i]? = some x → ys[i]? = some y → F x y
  | _, _, .nil, i, x, y, h, _ => by simp at h
  | _, _, .cons h t, 0, x, y, h1, h2 => by
    cases (Option.some.inj h1)
    cases (Option.some.inj h2)
    exact h
  | _, _, .cons _ t, i + 1, x, y, h1, h2 => pairedAt t (i := i) (by simpa using h1) (by simpa using h2)
section
variable {P : Program} {w : World} {K : PySem.W.Frag} {mg : Str → Option Value} {base : Heap}
structure IsTxt (mg : Str → Option Value) : Prop where
  inst : mg "isinstance" = none
  tup : mg "tuple" = none
  lst : mg "list" = none
  bool : mg "bool" = none
  len : mg "len" = none
  all : mg "all" = none
  zip : mg "zip" = none
/-- the turn of the comprehension, by the promise of the next depth -/
theorem isTurn {n : Nat} {K' : PySem.W.Frag} {D : Addr} {xs ys : List V} {H0 : Hp} {u0 u1 z2 z3 : Option V} (hp : Paired (EqG H0 n) xs ys) (hx : xs.length ≤ 4000) (nD : H0 D = none) (i : Nat) (x y : V) (h1 : xs[i]? = some x) (h2 : ys[i]? = some y) :
    ZipTurn (fun i H' => Same H0 H' ∧ H' D = some (.lst ((List.replicate i true).map V.bl))) D (gTup K' 2 (gCons (gName 2) (gCons (gName 3) gNil))) tYes (tCall (spIs n) [] (fun _ _ _ => False) (tCons (tVar 2) (tCons (tVar 3) tNil))) [2, 3] [u0, u1, z2, z3] i x y := by
  rintro T H ⟨sm, hD⟩ nT
  have hi : i < 4000 := Nat.lt_of_lt_of_le (List.getElem?_eq_some_iff.mp h1).1 hx
  have sT : Same H (upd H T (.tup [x, y])) := smUpd nT
  refine ⟨T, [x, y], rfl, .inl (.inl upd_same), rfl, x, [y], rfl, y, [], rfl, rfl, rfl, x, rfl, y, rfl, x, y, rfl, eqG_same (sm.trans sT) (pairedAt hp h1 h2), fun H' s' => ?_⟩
  have hD' : H' D = some (.lst ((List.replicate i true).map V.bl)) := s' _ _ (sT _ _ hD)
  refine ⟨_, hD', by rw [List.length_map, List.length_replicate]; exact small4000 (by omega), fun b o e => ?_, ?_⟩
  · have nb : b ≠ D := fun z => by rw [z, nD] at e; cases e
    rw [upd_ne nb]
    exact s' _ _ (sT _ _ (sm _ _ e))
  · rw [upd_same, show List.replicate (i + 1) true = List.replicate i true ++ [true] from List.replicate_succ', List.map_append]
    rfl
theorem allRep (n : Nat) : (List.replicate n true).all id = true := by
  induction n with
  | zero => rfl
  | succ n ih => rw [List.replicate_succ, List.all_cons, ih]; rfl
theorem sameT {K : PySem.W.Frag} {H H' : Hp} {a : Addr} {xs : List V} (s : Same H H') (h : SqT K H a xs) : SqT K H' a xs := h.imp (fun r => r.imp (s _ _) (fun ⟨o, e⟩ => ⟨o, s _ _ e⟩)) (fun z => z)
theorem eqG_up {H : Hp} {n m : Nat} {x y : V} (h : EqG H n x y) (hm : n ≤ m) : EqG H m x y := by
  induction m with
  | zero =>
    have e : n = 0 := by omega
    rw [← e]; exact h
  | succ m ih =>
    by_cases e : n = m + 1
    · rw [← e]; exact h
    · exact .inl (ih (by omega))
theorem eqG_cases {H : Hp} : ∀ {n : Nat} {x y : V}, EqG H n x y → (x = y ∧ (flatV x = true ∨ DictOk H x)) ∨ ∃ m, n = m + 1 ∧ ∃ a b xs ys, x = .ref a ∧ y = .ref b ∧ ((H a = some (.lst xs) ∧ H b = some (.lst ys)) ∨ (H a = some (.tup xs) ∧ H b = some (.tup ys))) ∧ xs.length ≤ 4000 ∧ Paired (EqG H m) xs ys
  | 0, x, y, h => .inl h
  | n + 1, x, y, h => by
    rcases h with h | ⟨a, b, xs, ys, h⟩
    · rcases eqG_cases h with z | ⟨m, e, a, b, xs, ys, e1, e2, e3, e4, e5⟩
      · exact .inl z
      · exact .inr ⟨n, rfl, a, b, xs, ys, e1, e2, e3, e4, Paired.mapP e5 fun _ _ q => eqG_up q (by omega)⟩
    · exact .inr ⟨n, rfl, a, b, xs, ys, h⟩
/-- by the depth: nothing at 0 -/
def spJ : Nat → Sp
  | 0 => fun _ _ _ _ => False
  | n + 1 => spIs n
/-- the same flat thing, the same dict, compared -/
theorem leafEq {K : PySem.W.Frag} {H : Hp} {x : V} {Q : VK} (h : flatV x = true ∨ DictOk H x) (k : Q (.bl true) H) : rEq x x H Q ∨ rEqV K x x H Q := by
  rcases h with h | ⟨a, kvs, rfl, ha, hk⟩
  · left
    refine ⟨?_, ?_⟩
    · cases x <;> first | rfl | cases h
    · rw [decide_eq_true rfl]; exact k
  · right
    refine ⟨1, by decide, .inr ⟨a, a, kvs, kvs, rfl, rfl, ha, ha, rfl, fun q hq => ?_⟩, k⟩
    rcases hk with rfl | ⟨kk, u, rfl, hu⟩
    · cases hq
    · obtain rfl := List.mem_singleton.mp hq
      refine ⟨u, ?_, ?_⟩
      · show valV [(kk, u)] kk = some u
        unfold valV
        simp
      · rcases hu with hu | ⟨b, rfl⟩
        · refine .inl ⟨rfl, ?_⟩
          cases u <;> first | rfl | cases hu
        · exact .inr (.inl ⟨b, rfl, rfl⟩)
end
end Cn
namespace Cn
open PySem PySem.Spec PyProof.Rows L2
def nIs : List Str := ["_law_told", "_law_due", "_law_one", "_law_two"]
theorem scIs : FnScope nIs ["_law_told", "_law_due"] (defScope sIs) := ⟨rfl, rfl, rfl, by decide +kernel, rfl, by decide +kernel, by decide +kernel⟩
section
variable {P : Program} {w : World} {K : PySem.W.Frag} {mg : Str → Option Value} {base : Heap}
theorem ok_is {f : Addr} {fd : FuncData} (F : Fun K "_law_is" "_law_is" sIs f fd) (T : IsTxt mg) (g : mg "_law_is" = some (.ref f)) (bI : Binds K fd ["_law_told", "_law_due"] []) : ∀ n : Nat, FnOk P w K mg base CX0 (n + 2) f fd ["_law_told", "_law_due"] (spJ n) := by
  intro n
  induction n with
  | zero => exact ⟨fun _ _ _ _ z => z.elim, fun _ _ _ _ _ _ _ _ _ _ _ _ _ z => z.elim⟩
  | succ n ih =>
    refine F.ok scIs (fun vs H Q E h => ?_) (fun cdv A outer s H vs Q E hr h => ?_)
    · obtain ⟨x, y, rfl, _⟩ := h
      rfl
    · obtain ⟨x, y, rfl, hE, k⟩ := h
      refine ⟨_, pss_cons (ps_if (pt_val (pe_callB call_isiT (by rfl) T.inst (by decide +kernel) (pa_cons (pv 1) (pa_cons (pe_tup (pa_cons (pe_bltn (v := .ty "tuple") (by rfl) T.tup (by decide +kernel) rfl) (pa_cons (pe_bltn (v := .ty "list") (by rfl) T.lst (by decide +kernel) rfl) pa_nil))) pa_nil))))
          (pss_cons (ps_if (PW.pt (pw_or (pt_cmpR op_ne (pe_callB call_isi (by rfl) T.inst (by decide +kernel) (pa_cons (pv 0) (pa_cons (pe_bltn (v := .ty "tuple") (by rfl) T.tup (by decide +kernel) rfl) pa_nil))) (pe_callB call_isi (by rfl) T.inst (by decide +kernel) (pa_cons (pv 1) (pa_cons (pe_bltn (v := .ty "tuple") (by rfl) T.tup (by decide +kernel) rfl) pa_nil))) (nomark _))
              (pw_or1 (pt_not (pt_val (pe_callB call_isiT (by rfl) T.inst (by decide +kernel) (pa_cons (pv 0) (pa_cons (pe_tup (pa_cons (pe_bltn (v := .ty "tuple") (by rfl) T.tup (by decide +kernel) rfl) (pa_cons (pe_bltn (v := .ty "list") (by rfl) T.lst (by decide +kernel) rfl) pa_nil))) pa_nil))))))))
            (pss_one (ps_ret pe_bl)) pss_nil)
          (pss_one (ps_ret (pe_and (pe_cmpR op_eq (pe_callB call_len_seq (by rfl) T.len PySem.boot_len (pa_cons (pv 0) pa_nil)) (pe_callB call_len_seq (by rfl) T.len PySem.boot_len (pa_cons (pv 1) pa_nil)) (nomark _)) (pe_one
            (pe_callB (cr_all rfl) (by rfl) T.all (by decide +kernel) (pa_cons (pe_lc (own := [("_law_one", 2), ("_law_two", 3)]) (g := gTup K 2 (gCons (gName 2) (gCons (gName 3) gNil))) (tt := tYes) rfl scIs.nd (RZ.pi_zipA (by rfl) T.zip (pa_cons (pv 0) (pa_cons (pv 1) pa_nil)))
              (blkOk_by (N := nIs) (sc := defScope sIs) (by decide +kernel)) (fun _ _ _ _ _ => pg_tup rfl (pgs_cons (pg_name (i := 2) scIs.nd rfl (Or.inl rfl)) (pgs_cons (pg_name (i := 3) scIs.nd rfl (Or.inl rfl)) pgs_nil))) (fun _ _ _ _ _ => pts_nil)
              (fun _ _ _ _ _ => pe_call ih hr (by rfl) g F.kp bI .nil pass0 (pa_cons (pv 2) (pa_cons (pv 3) pa_nil)))) pa_nil)))))))
          pss_nil)
        (pss_one (ps_ret (pe_and (pe_cmpR op_eq (pe_callB call_isi (by rfl) T.inst (by decide +kernel) (pa_cons (pv 0) (pa_cons (pe_bltn (v := .ty "bool") (by rfl) T.bool (by decide +kernel) rfl) pa_nil))) (pe_callB call_isi (by rfl) T.inst (by decide +kernel) (pa_cons (pv 1) (pa_cons (pe_bltn (v := .ty "bool") (by rfl) T.bool (by decide +kernel) rfl) pa_nil))) (nomark _))
          (pe_one (pe_cmpR (Cn.OpR.orr op_eq (op_eqV hr.units)) (pv 0) (pv 1) (nomark _)))))), ?_⟩
      have cls2 : Paired ClsV [.ty "tuple", .ty "list"] [.type "tuple", .type "list"] := .cons (.ty _) (.cons (.ty _) .nil)
      refine ⟨_, rfl, by show 2 ≤ sizeLine; decide, fun t1 m1 => ?_⟩
      have S1 := smUpd (o := .tup [.ty "tuple", .ty "list"]) m1
      rcases eqG_cases hE with ⟨rfl, hL⟩ | ⟨m, rfl, a, b, xs, ys, rfl, rfl, hk, hx, hp⟩
      · have hL1 : flatV x = true ∨ DictOk (upd H t1 (.tup [.ty "tuple", .ty "list"])) x := hL.imp (fun z => z) fun ⟨a, kvs, e, ha, q⟩ => ⟨a, kvs, e, S1 _ _ ha, q⟩
        obtain ⟨Ty, bb, ty, k2, k3⟩ := leafTy (K := K) hL1
        refine ⟨x, t1, _, _, _, false, rfl, upd_same, cls2, ty, k2, false, rfl, ?_⟩
        refine iteF ?_
        refine ⟨_, rfl, x, .ty "bool", _, _, bb, rfl, .ty _, ty, k3, _, rfl, x, .ty "bool", _, _, bb, rfl, .ty _, ty, k3, rfl, _, rfl, ?_⟩
        rw [if_pos (decide_eq_true rfl)]
        exact ⟨_, rfl, _, rfl, leafEq hL1 (k _ S1)⟩
      · obtain ⟨tu, ha, hb⟩ : ∃ tu : Bool, (if tu = true then H a = some (.tup xs) else H a = some (.lst xs)) ∧ (if tu = true then H b = some (.tup ys) else H b = some (.lst ys)) := by
          rcases hk with ⟨z1, z2⟩ | ⟨z1, z2⟩
          · exact ⟨false, by simpa using z1, by simpa using z2⟩
          · exact ⟨true, by simpa using z1, by simpa using z2⟩
        have keep : ∀ {H1 : Hp} {c : Addr} {zs : List V}, Same H H1 → (if tu = true then H c = some (.tup zs) else H c = some (.lst zs)) → (if tu = true then H1 c = some (.tup zs) else H1 c = some (.lst zs)) := fun {H1 c zs} sm z => by
          cases tu with
          | true => rw [if_pos rfl] at z ⊢; exact sm _ _ z
          | false => rw [if_neg Bool.false_ne_true] at z ⊢; exact sm _ _ z
        obtain ⟨Tb, ty, k2, k3⟩ := seqTy (K := K) (keep S1 hb)
        refine ⟨_, t1, _, _, _, true, rfl, upd_same, cls2, ty, k2, true, rfl, ?_⟩
        refine iteT ?_
        obtain ⟨Ta, ty2, k4, k5⟩ := seqTy (K := K) (keep S1 ha)
        refine ⟨_, rfl, _, .ty "tuple", _, _, tu, rfl, .ty _, ty2, k5, _, rfl, _, .ty "tuple", _, _, tu, rfl, .ty _, ty, k3, rfl, _, rfl, ?_⟩
        rw [show (!decide (V.bl tu = V.bl tu)) = false from by rw [decide_eq_true rfl]; rfl]
        refine iteF ?_
        refine ⟨_, rfl, by show 2 ≤ sizeLine; decide, fun t2 m2 => ?_⟩
        have S2 := S1.trans (smUpd (o := .tup [.ty "tuple", .ty "list"]) m2)
        obtain ⟨Tc, ty3, k6, k7⟩ := seqTy (K := K) (keep S2 ha)
        refine ⟨_, t2, _, _, _, true, rfl, upd_same, cls2, ty3, k6, true, rfl, ?_⟩
        refine iteF ?_
        have hl : xs.length = ys.length := Paired.length hp
        generalize upd (upd H t1 (.tup [.ty "tuple", .ty "list"])) t2 (.tup [.ty "tuple", .ty "list"]) = H2 at *
        have hk2 : (SqL K H2 a xs ∧ SqL K H2 b ys) ∨ (SqT K H2 a xs ∧ SqT K H2 b ys) := by
          rcases hk with ⟨z1, z2⟩ | ⟨z1, z2⟩
          · exact .inl ⟨.inl (.inl (S2 _ _ z1)), .inl (.inl (S2 _ _ z2))⟩
          · exact .inr ⟨.inl (.inl (S2 _ _ z1)), .inl (.inl (S2 _ _ z2))⟩
        have la : SqL K H2 a xs ∨ SqT K H2 a xs := hk2.imp And.left And.left
        have lb : SqL K H2 b ys ∨ SqT K H2 b ys := hk2.imp And.right And.right
        refine ⟨_, rfl, a, xs, rfl, la, _, rfl, b, ys, rfl, lb, rfl, _, rfl, ?_⟩
        rw [if_pos (decide_eq_true (by rw [hl]))]
        have hp2 : Paired (EqG H2 m) xs ys := Paired.mapP hp fun _ _ z => eqG_same S2 z
        refine ⟨_, rfl, _, rfl, a, b, xs, ys, rfl, ?_⟩
        have fin : ∀ {D : Addr} {H3 : Hp}, Same H2 H3 → H3 D = some (.lst ((List.replicate xs.length true).map V.bl)) → rAll K [.ref D] H3 Q := fun {D H3} s3 hD =>
          ⟨D, List.replicate xs.length true, rfl, .inl (.inl hD), by rw [allRep]; exact k _ (S2.trans s3)⟩
        rcases hk2 with ⟨qa, qb⟩ | ⟨qa, qb⟩
        · refine .inl ⟨qa, qb, fun D nD => ?_⟩
          refine lcZipL hl (fun i H' => Same H2 H' ∧ H' D = some (.lst ((List.replicate i true).map V.bl))) ⟨smUpd nD, upd_same⟩ (fun i H' z => ⟨z.1.seq qa, z.1.seq qb⟩) (fun i x y h1 h2 => isTurn hp2 hx nD i x y h1 h2) (fun H' z => ?_)
          exact fin z.1 z.2
        · refine .inr ⟨qa, qb, fun D nD => ?_⟩
          refine lcZipT hl (fun i H' => Same H2 H' ∧ H' D = some (.lst ((List.replicate i true).map V.bl))) ⟨smUpd nD, upd_same⟩ (fun i H' z => ⟨sameT z.1 qa, sameT z.1 qb⟩) (fun i x y h1 h2 => isTurn hp2 hx nD i x y h1 h2) (fun H' z => ?_)
          exact fin z.1 z.2
end
end Cn
namespace Cn
open PySem PySem.Spec PyProof.Rows L2
section
open AutoSeq1 (wpAny_loadPart')
theorem meets_enum_tup (l : Addr) (items : Array Value) (n : Nat) (dct : Option Addr) (sl : Array (Option Value)) :
    Meets (Builtin.«enumerate.__new__» ⟨[.type "enumerate", .ref l], []⟩) (fun _ R s => s.heap.get? l = some { cls := .type "tuple", dict := dct, data := .seq items n, slots := sl } ∧
      R (.ok (.ret (.ref (s.heap.push { cls := .type "tuple_iterator", data := .fields #[.ref l, .int 0 0] }).objs.size)))
        { s with heap := (s.heap.push { cls := .type "tuple_iterator", data := .fields #[.ref l, .int 0 0] }).push { cls := .type "enumerate", data := .fields #[.none, .bool false, .ref s.heap.objs.size, rawInt 0, .none, .none] } }) :=
  .of_wp fun prog w A R s h => by
    obtain ⟨hp, g, d, tk, os⟩ := s; obtain ⟨hl, h⟩ := h
    have hsub := sub_enumerate
    have hL : Heap.IsTuple (Shared.heap ⟨hp, g, d, tk, os⟩) l items := ⟨_, hl, rfl, n, rfl⟩
    wp_walk using wpAny_loadPart' hl
    refine wpAny_stack_any fun st => wpAny_pure ?_
    split
    · rename_i c _ _ _ _ _
      cases (c == Value.type "enumerate")
      · wp_walk using wpAny_loadPart' hl, wpAny_pyIter_tuple hL
        exact ⟨_, rfl, h⟩
      · wp_walk using wpAny_loadPart' hl, wpAny_pyIter_tuple hL
        exact ⟨_, rfl, h⟩
    · wp_walk using wpAny_loadPart' hl, wpAny_pyIter_tuple hL
      exact ⟨_, rfl, h⟩
end
section
variable {prog : Program} {w : World} {A : Around} {E : Value → Shared → Prop} {s : Shared}
theorem call_enum_tup {l : Addr} {items : Array Value} {Q : Value → Shared → Prop} (hL : s.heap.IsTuple l items)
    (h : ∀ h', IsEnum h' (s.heap.objs.size + 1) s.heap.objs.size 0 .none → h'.IsTupleIter s.heap.objs.size l 0 → h'.objs.size = s.heap.objs.size + 2 →
      (∀ b o, s.heap.get? b = some o → h'.get? b = some o) → Q (.ref (s.heap.objs.size + 1)) { s with heap := h' }) :
    wpAny (model prog w) A (call (.type "enumerate") [.ref l]) Q E s := by
  obtain ⟨⟨c, dct, dt, sl⟩, hl, hc, n, hd⟩ := hL
  replace hc : c = .type "tuple" := hc
  replace hd : dt = .seq items n := hd
  subst hc hd
  refine callType_new F.called_enumerate (by decide) (F.typeCall_enumerate_1 _) (F.newCall_enumerate_1 _) (fun obj => F.args_object_init_2 obj _) F.entry_enumerate_new
    (meets_enum_tup l items n dct sl) ⟨hl, ?_⟩
  have hz : (s.heap.push { cls := .type "tuple_iterator", data := .fields #[.ref l, .int 0 0] }).objs.size = s.heap.objs.size + 1 := Heap.size_push ..
  show _ ∧ _
  rw [hz]
  have he : IsEnum ((s.heap.push { cls := .type "tuple_iterator", data := .fields #[.ref l, .int 0 0] }).push { cls := .type "enumerate", data := .fields #[.none, .bool false, .ref s.heap.objs.size, rawInt 0, .none, .none] }) (s.heap.objs.size + 1) s.heap.objs.size 0 .none := by
    have := Heap.get?_push_size (s.heap.push { cls := .type "tuple_iterator", data := .fields #[.ref l, .int 0 0] }) (o := { cls := .type "enumerate", data := .fields #[.none, .bool false, .ref s.heap.objs.size, rawInt 0, .none, .none] }) rfl
    rw [hz] at this; exact this
  refine ⟨⟨_, he, rfl⟩, h _ he ⟨_, Heap.get?_push_of_some _ (Heap.get?_push_size _ rfl), rfl, rfl⟩ (by rw [Heap.size_push, hz]) fun b o x => Heap.get?_push_of_some _ (Heap.get?_push_of_some _ x)⟩
theorem enumEndT {e it l : Addr} {i : Nat} {c : Int} {items : Array Value} {old : Value} {Q : Option Value → Shared → Prop} (hh : A.handled = none) (he : IsEnum s.heap e it c old) (hit : s.heap.IsTupleIter it l i) (hl : s.heap.IsTuple l items) (hx : items[i]? = none)
    (hQ : ∀ h', Heap.ExtBut it s.heap h' → Q none { s with heap := h' }) : wpAny (model prog w) A (pyNext (.ref e)) Q E s := by
  have hT : s.TypeIs (.ref e) "enumerate" := ⟨_, he, rfl⟩
  unfold pyNext
  refine wpAny_bind (wpAny_attempt (wpAny_callSpecial?_slot (name := Str.ofString "__next__") hT F.slot_enumerate_next
    (wpAny_call_entry F.slot_enumerate_next hT F.entry_enumerate_next ?_ (F.args_enumerate_next_1 _))))
  show wpAny _ _ (field (.ref e) 2 >>= _) _ _ _
  refine wpAny_bind (wpAny_field he rfl (x := .ref it) rfl ?_)
  refine wpAny_bind (wpAny_nextOf_tuple_end (A := A.in1) hh hit hl hx fun h' x he' hx' => ?_)
  obtain ⟨o, ho, hc⟩ := hx'
  refine wpAny_bind (wpAny_isInstance (T := "StopIteration") (b := true) ⟨o, ho, hc⟩ isSubtype_stop ?_)
  exact wpAny_pure (hQ _ he')
end
/-- the tuple at a, each item in a new pair -/
def IteT (K : PySem.W.Frag) (a : Addr) : It :=
  ⟨fun i H => ∃ (xs : List V) (x : V), SqT K H a xs ∧ xs[i]? = some x, fun i H v H' => ∃ T x, v = .ref T ∧ H T = none ∧ H' = upd H T (.tup [.int (i : Nat), x]) ∧ ∀ xs, SqT K H a xs → xs[i]? = some x, fun i H => ∃ xs : List V, SqT K H a xs ∧ xs.length ≤ i⟩
theorem turn_enumT {P : Program} {w : World} {K : PySem.W.Frag} {elts : List Expr} {kk : Nat} {tpos : Pos} (a e it : Addr) :
    Turn P w K (.Tuple elts kk tpos) (IteT K a) [e, it] e (fun i h => (∃ old, IsEnum h e it ((i : Nat) : Int) old) ∧ h.IsTupleIter it a i ∧ e ≠ it ∧ a ≠ it ∧ a ≠ e) where
  mem := by simp
  obj := fun i h st b hb => by
    obtain ⟨⟨old, he⟩, ⟨o, ho, hc, hd⟩, _⟩ := st
    have e' : b = e ∨ b = it := by simpa using hb
    rcases e' with z | z
    · rw [z]; exact ⟨_, he, fun v q => nomatch q⟩
    · rw [z]; exact ⟨o, ho, fun v q => by rw [hd] at q; cases q⟩
  keep := fun i h h' st k => let ⟨⟨old, he⟩, hi, hne⟩ := st; ⟨⟨old, k e (by simp) _ he⟩, hi.at fun o q => k it (by simp) o q, hne⟩
  item := by
    intro X hP hw hK hc i pins s σ H E I hf st hg
    subst hP hw hK
    obtain ⟨⟨old, he⟩, hit, hne, hai, hae⟩ := st
    obtain ⟨xs, x, hq, hx⟩ := hg
    obtain ⟨its, rv, p, hz⟩ := I.tuple hq
    obtain ⟨u, hu, ru⟩ := rv.get hx
    have hel : e < s.heap.objs.size := Heap.lt_size he
    have hil : it < s.heap.objs.size := by obtain ⟨_, q, _⟩ := hit; exact Heap.lt_size q
    have hlt : i < its.toArray.size := by
      have := (List.getElem?_eq_some_iff.mp hu).1
      simpa using this
    refine wpAny_pyNext_enum_itemC (c := ((i : Nat) : Int)) (Draws.tuple (A := X.A.in1) (I.ok.hd hc) it a hai its.toArray) he ⟨hit, p⟩ hlt hne (by simp [hne, Ne.symm hae]) fun x' h' tk hP ho hs' hT hsz hk => ?_
    have ex : x' = u := by
      have e1 : its.toArray[i]? = some u := by simpa using hu
      rw [e1] at hP
      exact (Option.some.inj hP).symm
    subst ex
    refine ⟨_, rfl, wpAny_letOwnedTupleGo_enum (s := { s with heap := h', toks := tk + 1 }) ho fun h'' he' sb => ?_⟩
    have hT2 : h''.get? s.heap.objs.size = some { cls := .type "tuple", data := .seq #[.int i tk, x'] } := (sb.2 _ (Nat.ne_of_gt hel)).trans hT
    have new : ObjOk X.prog X.w (upd H s.heap.objs.size (.tup [.int (i : Nat), x])) h'' s.heap.objs.size (.tup [.int (i : Nat), x]) :=
      ⟨by show 2 ≤ sizeLine; decide, [.int i tk, x'], .cons ⟨_, rfl⟩ (.cons ru .nil), ⟨_, hT2, rfl, _, rfl⟩⟩
    have I1 : Inv X pins σ (upd H s.heap.objs.size (.tup [.int (i : Nat), x])) { s with heap := h'', toks := tk + 1 } :=
      I.turnedNew (ch := [e, it]) (fun b ob hb q => (sb.2 b (fun z => hb (by simp [z]))).trans (hk b ob (fun z => hb (by simp [z])) (fun z => hb (by simp [z])) q)) hf (Nat.le_refl _) new
    refine ⟨.ref s.heap.objs.size, _, I1, rfl, ⟨_, x, rfl, I.hok.fresh (Nat.le_refl _), rfl, fun ys hy => by rw [I.tuple_inj hy hq]; exact hx⟩, ⟨⟨x', ?_⟩, hs'.1.at fun o q => (sb.2 it (Ne.symm hne)).trans q, hne, hai, hae⟩, fun b hb => ?_⟩
    · have e1 : ((i + 1 : Nat) : Int) = (i : Int) + 1 := by omega
      rw [e1]; exact he'
    · have hb' : b < s.heap.objs.size := by
        have e' : b = e ∨ b = it := by simpa using hb
        rcases e' with z | z
        · rw [z]; exact hel
        · rw [z]; exact hil
      rw [upd_ne (Nat.ne_of_lt hb')]
      exact (hf b hb).1
  done := by
    intro X hP hw hK hc i pins s σ H E I hf st hg
    subst hP hw hK
    obtain ⟨⟨old, he⟩, hit, hne, hai, hae⟩ := st
    obtain ⟨xs, hq, hx⟩ := hg
    obtain ⟨its, rv, p, hz⟩ := I.tuple hq
    obtain ⟨f0, f1, f2, f3, f4, f5⟩ := hf it (by simp)
    have hl := rv.length
    refine enumEndT (I.ok.hd hc) he hit p (by simp; omega) fun h' eb => ⟨rfl, I.turned (t' := s.toks) (fun b o hb q => eb b o hb q) f0 f1 f3 f4 f5⟩
  self := fun A i s Q E st h => let ⟨⟨_, he⟩, _⟩ := st; wpAny_pyIter_enum he h
def iEnumT (K : PySem.W.Frag) (ta : TA) : TI := fun σ H R => ta σ H fun vs H1 => ∃ a xs, vs = [.ref a] ∧ SqT K H1 a xs ∧ R (IteT K a) H1
theorem pi_enumT {X : Cx} {e : Expr} {ta : TA} {p pos tpos : Pos} {elts : List Expr} {kk : Nat} (hg : Gl X "enumerate") (hm : X.mg "enumerate" = none) (ha : PA X [e] ta) (hs : starEach [e] X.env = [(false, eval e X.env)] := by rfl) :
    PI X (.Tuple elts kk tpos) (.Call (.Name "enumerate" p) [e] [] pos) (iEnumT X.K ta) := by
  refine ⟨fun pins s σ H R I h => ?_⟩
  refine Call_ (ld_blt I hg hm boot_enumerate (PyProof.Rows.callWith_type1 (thn (ha.run pos pins s σ H _ I h) fun us s1 ⟨vs, H1, I1, r1, q1⟩ => ?_) hs rfl))
  obtain ⟨a, xs, ex, hq, q⟩ := q1
  subst ex
  cases r1 with
  | cons r rr =>
    cases rr
    cases r
    obtain ⟨its, rv, p', hz⟩ := I1.tuple hq
    have hal : a < s1.heap.objs.size := by obtain ⟨_, q, _⟩ := p'; exact Heap.lt_size q
    refine call_enum_tup p' fun h' he hit hsz hk => wpAny_pyIter_enum he ?_
    have I2 : Inv X pins σ H1 { s1 with heap := h' } := I1.kept (t' := s1.toks) hk
    refine ⟨s1.heap.objs.size + 1, [s1.heap.objs.size + 1, s1.heap.objs.size], _, _, H1, rfl, I2, turn_enumT a (s1.heap.objs.size + 1) s1.heap.objs.size, ⟨⟨.none, he⟩, hit, Nat.succ_ne_self _, Nat.ne_of_lt hal, Nat.ne_of_lt (Nat.lt_succ_of_lt hal)⟩, fun b hb => ?_, q⟩
    have e' : b = s1.heap.objs.size + 1 ∨ b = s1.heap.objs.size := by simpa using hb
    have hle : s1.heap.objs.size ≤ b := by
      rcases e' with z | z
      · rw [z]; exact Nat.le_add_right _ _
      · rw [z]; exact Nat.le_refl _
    exact I1.fpOk hle (I1.hok.fresh hle)
theorem walk_enumT {K : PySem.W.Frag} {a : Addr} {xs : List V} : Walk (IteT K a) xs.length (fun H => SqT K H a xs) (YPair (fun i => some (.int (i : Nat))) (fun i => xs[i]?)) := by
  refine ⟨fun i _ hi q => ⟨xs, xs[i], q, by simp [hi]⟩, fun _ q => ⟨xs, q, Nat.le_refl _⟩, fun i H v H' _ q y => ?_⟩
  obtain ⟨T, x, h1, h2, h3, h4⟩ := y
  exact ⟨T, .int (i : Nat), x, h1, h2, h3, rfl, h4 xs q⟩
/-! t.index(y) -/
def rTidx (K : PySem.W.Frag) : V → List V → Hp → VK → Prop := fun x xs H Q => ∃ (a : Addr) (ys : List V) (y : V) (j : Nat) (z : V), x = V.ref a ∧ xs = [y] ∧ SqT K H a ys ∧ flatV y = true ∧ ys.all flatV = true ∧ ys[j]? = some z ∧ eqV z y = true ∧
  (∀ (m : Nat) (z' : V), m < j → ys[m]? = some z' → eqV z' y = false) ∧ Q (.int (j : Nat)) H
theorem mt_tidx {X : Cx} : MtR X "tuple.index" (rTidx X.K) := by
  intro pins s σ H x xs v us Q I rx rxs h
  obtain ⟨a, ys, y, j, z, rfl, rfl, hs, fy, fys, hz, hzj, hno, q⟩ := h
  cases rx
  cases rxs with
  | cons ry rt =>
    rename_i uy ut
    cases rt
    obtain ⟨its, rv, pl, hlen⟩ := I.tuple hs
    obtain ⟨⟨cls, dd, dt, sl⟩, ho, hc, n, hd⟩ := pl
    simp only at hc hd
    subst hc hd
    obtain ⟨u, hu, ru⟩ := rv.get hz
    obtain ⟨hjl, hje⟩ := List.getElem?_eq_some_iff.mp hu
    have hvl := rv.length
    have hj : j < its.toArray.size := by simpa using hjl
    refine call_meets PySem.F.slot_tuple_index ⟨_, ho, rfl⟩ PySem.F.entry_tuple_index (PySem.F.args_tuple_index_2 _ _) (TI.tuple_indexAt a its.toArray n dd sl uy (eqU y) j hj ?_ ?_)
      ⟨ho, fun u' hu' => mem_eqAt ry fy rv fys u' (by simpa using hu'), ⟨.int (j : Nat), H, I.tok _, ⟨_, rfl⟩, q⟩⟩
    · have e1 : its.toArray[j] = u := by simpa using hje
      rw [e1, eqU_of ru (flat_at fys hz)]
      exact hzj
    · intro m hm hmj
      have hml : m < its.length := by simpa using hm
      have hmy : m < ys.length := by omega
      have hy' : ys[m]? = some ys[m] := List.getElem?_eq_getElem hmy
      obtain ⟨u2, hu2, ru2⟩ := rv.get hy'
      obtain ⟨_, hme⟩ := List.getElem?_eq_some_iff.mp hu2
      have e1 : its.toArray[m] = u2 := by simpa using hme
      rw [e1, eqU_of ru2 (flat_at fys hy')]
      exact hno m _ hmj hy'
/-! sorted(t), whole numbers -/
section
variable {prog : Program} {w : World} {A : Around} {E : Value → Shared → Prop} {s : Shared}
theorem collect_tup {l : Addr} {vs : List Value} {Q : List Value → Shared → Prop} (hl : s.heap.IsTuple l vs.toArray)
    (h : Q vs { s with heap := (s.heap.push (seqObj "list" #[] 0)).update s.heap.objs.size (Obj.mapSeq (· ++ vs.toArray)) }) (hsz : vs.length ≤ sizeLine) :
    wpAny (model prog w) A (collect (.ref l)) Q E s := by
  obtain ⟨o, ho, hc, n, hd⟩ := id hl
  unfold collect
  refine wpAny_bind (wpAny_runValue (codeAny_builtin entry_proto_collect' ?_))
  show wpAny _ _ (do again (.builtin "list.__iadd__" ⟨[← newList [], .ref l], []⟩)) _ _ s
  refine wpAny_bind (wpAny_newList (wpAny_pure ⟨Code.quiet_builtin _ (by decide +kernel), codeAny_builtin entry_list_iadd' ?_⟩))
  show wpAny _ _ (Builtin.List.listExtendWith (.ref s.heap.objs.size) (.ref l) (.ref s.heap.objs.size)) _ _ { s with heap := s.heap.push (seqObj "list" #[] 0) }
  unfold Builtin.List.listExtendWith
  have ho' : (s.heap.push (seqObj "list" #[] 0)).get? l = some o := Heap.get?_push_of_some _ ho
  refine wpAny_bind (wpAny_typeOf (T := "tuple") ⟨o, ho', hc⟩ ?_)
  have ht : (Value.type "tuple" == Value.type "tuple") = true := by rfl
  rw [if_pos (by rw [ht]; simp)]
  refine wpAny_bind (listItems_at ho' hd ?_)
  refine wpAny_bind (listItems_at (xs := #[]) (n := 0) (Heap.get?_push_size _ rfl) rfl ?_)
  rw [if_neg (by simp)]
  refine wpAny_bind (listUpdate_at (xs := #[]) (n := 0) (Heap.get?_push_size _ rfl) rfl ?_ (Nat.zero_le _) (by show (#[] ++ vs.toArray).size ≤ sizeLine + 1; simp only [Array.size_append, List.size_toArray, List.length_nil]; omega))
  refine wpAny_pure ?_
  show wpAny (model prog w) A (do
      let o ← load s.heap.objs.size
      match o.data with
      | .seq xs _ => pure xs.toList
      | _ => unsupported "internal:collect") Q E { s with heap := (s.heap.push (seqObj "list" #[] 0)).update s.heap.objs.size (Obj.mapSeq (· ++ vs.toArray)) }
  refine wpAny_bind (wpAny_load (get?_update_seq (Heap.get?_push_size _ rfl) _) ?_)
  show wpAny _ _ (pure ((#[] : Array Value) ++ vs.toArray).toList) Q E _
  rw [show ((#[] : Array Value) ++ vs.toArray).toList = vs by simp]
  exact wpAny_pure h
theorem sorted_tupI {l : Addr} {vs : List Value} {ns : List Int} {Q : Value → Shared → Prop} (hl : s.heap.IsTuple l vs.toArray) (hI : IntsAre vs ns) (h64 : vs.length < 64)
    (h : ∀ (out : Array Value) (ns' : List Int), IntsAre out.toList ns' → ns'.Perm ns → ns'.Pairwise (· ≤ ·) → Q (.ref (s.heap.objs.size + 1)) { s with heap := sortedAll s.heap vs out }) :
    wpAny (model prog w) A (call (.builtin "sorted") [.ref l]) Q E s := by
  refine Calls.call_function_entry kind_sorted plain_sorted entry_sorted (args_sorted1 _) ?_
  unfold Builtin.«sorted»
  refine wpAny_bind (m := checkCount "sorted" 1 1 _) (wpAny_pure ?_)
  refine wpAny_bind (collect_tup hl ?_ (small64 h64))
  refine wpAny_bind (wpAny_newList ?_)
  have hsz : ((s.heap.push (seqObj "list" #[] 0)).update s.heap.objs.size (Obj.mapSeq (· ++ vs.toArray))).objs.size = s.heap.objs.size + 1 := by
    rw [Heap.size_update, size_push']
  have hoL : (((s.heap.push (seqObj "list" #[] 0)).update s.heap.objs.size (Obj.mapSeq (· ++ vs.toArray))).push (seqObj "list" vs.toArray 0)).get? (s.heap.objs.size + 1) = some (seqObj "list" vs.toArray 0) := by
    rw [← hsz]; exact Heap.get?_push_size _ rfl
  show wpAny _ _ _ _ _ { s with heap := ((s.heap.push (seqObj "list" #[] 0)).update s.heap.objs.size (Obj.mapSeq (· ++ vs.toArray))).push (seqObj "list" vs.toArray 0) }
  rw [hsz]
  refine wpAny_bind (wpAny_holding (wpAny_call_entry slot_list_sort ⟨_, hoL, rfl⟩ entry_list_sort (list_sort_tree hoL hI h64 fun out ns' a1 a2 a3 => ⟨_, rfl, ?_⟩) (args_list_sort _)))
  exact wpAny_pure ⟨_, rfl, h out ns' a1 a2 a3⟩
end
def rSortTup (K : PySem.W.Frag) : List V → Hp → VK → Prop := fun vs H Q => ∃ (a : Addr) (ns : List Int), vs = [V.ref a] ∧ SqT K H a (ns.map V.int) ∧ ns.length < 64 ∧
  ∀ (ns' : List Int) (p : Addr), ns'.Perm ns → ns'.Pairwise (· ≤ ·) → H p = none → Q (.ref p) (upd H p (.lst (ns'.map V.int)))
theorem cr_sortTup {X : Cx} : CallR X (.builtin "sorted") (rSortTup X.K) := by
  intro pins s σ H vs us Q I r h
  obtain ⟨a, ns, rfl, hs, h64, q⟩ := h
  obtain ⟨its, rv, hl, _⟩ := I.tuple hs
  rw [Vals.ref1 r]
  have hi := rv.ints
  refine sorted_tupI hl hi (by rw [hi.length]; exact h64) fun out ns' h1 h2 h3 => ?_
  obtain ⟨ep, he'⟩ := PyProof.Rows.sortedAll_at s.heap its out
  have hlen : (ns'.map V.int).length ≤ sizeLine := by rw [List.length_map, h2.length_eq]; exact small64 h64
  exact ⟨.ref _, upd H (s.heap.objs.size + 1) (.lst (ns'.map V.int)), I.laid (t' := s.toks) (fun _ _ => PyProof.Rows.sortedAll_old) (Nat.le_succ _) ⟨hlen, out.toList, ep, vals_of_ints h1, he'⟩, rfl, q ns' _ h2 h3 (I.hok.fresh (Nat.le_succ _))⟩
/-! tuples of which it is known that they have no dict of their own: t.index(y) -/
def TD (H : Hp) (a : Addr) (xs : List V) : Prop := ∃ o : Obj, o.dict = none ∧ H a = some (.frz o (.tup xs))
theorem tdT {K : PySem.W.Frag} {H : Hp} {a : Addr} {xs : List V} (h : TD H a xs) : SqT K H a xs := by
  obtain ⟨o, _, e⟩ := h
  exact .inl (.inr ⟨o, e⟩)
theorem tdTy {K : PySem.W.Frag} {H : Hp} {a : Addr} {xs : List V} (h : TD H a xs) : TyX K H (.ref a) (.type "tuple") := by
  obtain ⟨o, _, e⟩ := h
  exact .fTuple e
theorem tdSame {H H' : Hp} {a : Addr} {xs : List V} (s : Same H H') (h : TD H a xs) : TD H' a xs := by
  obtain ⟨o, d, e⟩ := h
  exact ⟨o, d, s _ _ e⟩
abbrev tupO (its : List Value) : Obj := { cls := .type "tuple", data := .seq its.toArray }
theorem tdNew {H : Hp} {a : Addr} {its : List Value} {xs : List V} : TD (upd H a (.frz (tupO its) (.tup xs))) a xs := ⟨tupO its, rfl, upd_same⟩
/-- a new tuple, its dict known to be none -/
theorem laidTD {X : Cx} {pins : List (Addr × Obj)} {σ : L2.St} {H : Hp} {s : Shared} {h' : Heap} {tk : Nat} {xs : List V} {its : List Value} (I : Inv X pins σ H { s with heap := h', toks := tk }) (r : Vals xs its) (hz : xs.length ≤ sizeLine) :
    Inv X pins σ (upd H h'.objs.size (.frz (tupO its) (.tup xs))) { s with heap := h'.push (tupO its), toks := tk } := by
  have g : (h'.push (tupO its)).get? h'.objs.size = some (tupO its) := Heap.get?_push_size _ rfl
  exact I.laid (t' := tk) (fun b o e => Heap.get?_push_of_some _ e) (Nat.le_refl _) ⟨g, hz, its, r, ⟨_, g, rfl, 0, rfl⟩⟩
section
variable {X : Cx}
def rTupD (K : PySem.W.Frag) : List V → Hp → VK → Prop := fun xs H Q => ∃ p ys, xs = [.ref p] ∧ SqL K H p ys ∧ ∀ l H', Same H H' → TD H' l ys → Q (.ref l) H'
/-- tuple(a list) -/
theorem call_tupD : CallR X (.type "tuple") (rTupD X.K) := by
  intro pins s σ H xs us Q I r h
  obtain ⟨p, ys, rfl, hq, q⟩ := h
  obtain ⟨u, rfl, rx⟩ := vals1 r
  cases rx
  obtain ⟨its, r', pl, hz⟩ := I.list hq
  have hlen := r'.length
  refine call_tuple_list pl.isList (fun h' kp => ?_) (by simp only [List.size_toArray] <;> omega)
  have I1 : Inv X pins σ H { s with heap := h', toks := s.toks } := I.kept (t' := s.toks) kp
  have hn : H h'.objs.size = none := I1.hok.fresh (Nat.le_refl _)
  exact ⟨.ref h'.objs.size, _, laidTD I1 r' hz, rfl, q _ _ (smUpd hn) tdNew⟩
def tTupRevD (K : PySem.W.Frag) (te : TE) : TE := fun σ H Q => te σ H fun v H1 => ∃ (a : Addr) (xs : List V), v = .ref a ∧ SqL K H1 a xs ∧ ∀ l H', Same H1 H' → TD H' l xs.reverse → Q (.ref l) H'
/-- tuple(reversed(a list)) -/
theorem pe_tupRevD {e : Expr} {te : TE} {p p2 pos pos2 : Pos} (hc : X.calm = true) (hg : Gl X "tuple") (hm : X.mg "tuple" = none) (hg2 : Gl X "reversed") (hm2 : X.mg "reversed" = none) (he : PE X e te)
    (hs : starEach [e] X.env = (false, eval e X.env) :: starEach [] X.env := by rfl)
    (hs2 : starEach [.Call (.Name "reversed" p2) [e] [] pos2] X.env = (false, eval (.Call (.Name "reversed" p2) [e] [] pos2) X.env) :: starEach [] X.env := by rfl) :
    PE X (.Call (.Name "tuple" p) [.Call (.Name "reversed" p2) [e] [] pos2] [] pos) (tTupRevD X.K te) := by
  refine ⟨fun pins s σ H Q I h => ?_⟩
  refine Call_ (ld_blt I hg hm boot_tuple (callWith_type1 (args_cons (Call_ (ld_blt I hg2 hm2 boot_reversed (callWith_type1 (args_cons (thn (he.run pins s σ H _ I h) fun u s1 ⟨v, H1, I1, r1, q1⟩ => args_nil ?_) hs) hs rfl))) hs2) hs2 rfl))
  obtain ⟨l, ys, rfl, hl, q⟩ := q1
  cases (show u = Value.ref l from r1)
  obtain ⟨its, rv, pl, hz⟩ := I1.list hl
  refine call_reversed_list pl.isList (args_nil ?_)
  have I2 : Inv X pins σ H1 { s1 with heap := s1.heap.push (PySem.revObj l ((its.toArray.size : Int) - 1)) } := I1.kept (t' := s1.toks) fun b o z => Heap.get?_push_of_some _ z
  have hfr : H1 s1.heap.objs.size = none := I1.hok.fresh (Nat.le_refl _)
  obtain ⟨f0, f1, _, f3, f4, f5⟩ := I1.fpOk (H' := H1) (b := s1.heap.objs.size) (Nat.le_refl _) hfr
  have hne : l ≠ s1.heap.objs.size := by
    obtain ⟨_, z, _⟩ := pl.isList
    exact Nat.ne_of_lt (Heap.lt_size z)
  refine RT.call_tuple_rev (s := { s1 with heap := s1.heap.push (PySem.revObj l ((its.toArray.size : Int) - 1)) }) (I1.ok.hd hc) ⟨_, Heap.get?_push_size _ rfl, rfl, rfl⟩ (pl.isList.push _) hne (by rw [List.size_toArray, ← rv.length]; exact hz) fun h' tk acc hk hi => ?_
  have I3 : Inv X pins σ H1 { s1 with heap := h', toks := tk } := I2.turned (t' := tk) (fun b o hb z => hk b o hb z) f0 f1 f3 f4 f5
  have hn : H1 h'.objs.size = none := I3.hok.fresh (Nat.le_refl _)
  have I4 := laidTD I3 (RT.vals_rev rv hi) (by rw [List.length_reverse]; exact hz)
  refine ⟨.ref h'.objs.size, upd H1 h'.objs.size (.frz (tupO acc.toList) (.tup ys.reverse)), ?_, rfl, q _ _ (smUpd hn) tdNew⟩
  have ea : acc.toList.toArray = acc := Array.toArray_toList
  rw [← ea]
  exact I4
/-- t.m(..), t such a tuple -/
def tBT (r : V → List V → Hp → VK → Prop) (to : TE) (t : TA) : TE := fun σ H Q => to σ H fun x H1 => (∃ a xs, x = .ref a ∧ TD H1 a xs) ∧ t σ H1 fun xs H2 => r x xs H2 Q
variable {o e : Expr} {es : List Expr} {to : TE} {t : TA} {name : Str} {apos cpos : Pos} {id : String} {r : V → List V → Hp → VK → Prop}
theorem pe_bt (slot : Slot "tuple" name id) (hty : typeOf (.builtin id) = pure (.type "method_descriptor")) (hm : MtR X id r) (ho : PE X o to) (ha : PA X (e :: es) t)
    (hbase : attributeBase o name X.env (eval o X.env) = eval o X.env := by rfl)
    (hfew : ((backTo cpos (starEach (e :: es) X.env)).all (fun x => !x.1) && (backToKw cpos (keywordEach [] X.env)).all (fun x => x.1.isSome)
      && decide ((e :: es).length + ([] : List Keyword).length + (if ([] : List Keyword).isEmpty then 0 else 1) < 30)) = true := by rfl)
    (hline : (apos.endLine == cpos.line) = true := by rfl) (hs : starEach (e :: es) X.env = (false, eval e X.env) :: starEach es X.env := by rfl) (hplain : (backTo cpos (starEach es X.env)).any (·.1) = false := by rfl) :
    PE X (.Call (.Attribute o name apos) (e :: es) [] cpos) (tBT r to t) := by
  refine ⟨fun pins s σ H Q I h => ?_⟩
  refine wpAny_Call_method_late hbase hfew hline rfl (thn (ho.run pins s σ H _ I h) fun v s1 ⟨x, H1, I1, r1, ty, q1⟩ => ?_)
  obtain ⟨a, xs, rfl, ob, hd, hx⟩ := ty
  cases (show v = Value.ref a from r1)
  obtain ⟨g, _, its, _, hit⟩ := I1.hok a _ hx
  have hT : s1.TypeIs (.ref a) "tuple" := by
    obtain ⟨o', g', c, _⟩ := hit
    exact ⟨o', g', c⟩
  refine ⟨"tuple", id, PySem.F.plainAttrs_tuple, slot, hty, hT, fun b z => (by cases z; exact ⟨ob, g, hd⟩), ?_⟩
  have hA := ha.run cpos pins s1 σ H1 _ I1 q1
  rw [hs] at hA ⊢
  refine Calls.callWith_builtin (by show (false || (backTo cpos (starEach es X.env)).any (·.1)) = false; rw [hplain] <;> rfl) (Calls.evalArgs_plain ?_)
  exact thn hA fun us s2 ⟨vs, H2, I2, r2, q2⟩ => hm pins s2 σ H2 (.ref a) vs (.ref a) us Q I2 rfl r2 q2
end
end Cn
namespace Cn
open PySem PySem.Spec PyProof.Rows L2 Ck
theorem kitSelf {K : PySem.W.Frag} {a : Addr} : PySem.W.kitOne K (.ref a) (.ref a) = some true := by
  unfold PySem.W.kitOne
  simp
abbrev vn (n : Nat) : V := .int ((n : Nat) : Int)
def vp : Option Nat → V
  | none => .non
  | some n => vn n
def TN (H : Hp) (a : Addr) (ns : List Nat) : Prop := H a = some (.tup (ns.map vn))
def TP (H : Hp) (a : Addr) (ps : List (Option Nat)) : Prop := H a = some (.tup (ps.map vp))
def TDn (H : Hp) (a : Addr) (ns : List Nat) : Prop := TD H a (ns.map vn)
theorem tdL {K : PySem.W.Frag} {H : Hp} {a : Addr} {ns : List Nat} (h : TDn H a ns) : SqT K H a (ns.map vn) := tdT h
theorem tnL {K : PySem.W.Frag} {H : Hp} {a : Addr} {ns : List Nat} (h : TN H a ns) : SqT K H a (ns.map vn) := .inl (.inl h)
theorem tpL {K : PySem.W.Frag} {H : Hp} {a : Addr} {ps : List (Option Nat)} (h : TP H a ps) : SqT K H a (ps.map vp) := .inl (.inl h)
theorem vn_flat (ns : List Nat) : (ns.map vn).all flatV = true := by
  rw [List.all_eq_true]
  intro x hx
  obtain ⟨n, _, rfl⟩ := List.mem_map.mp hx
  rfl
theorem vn_at {ns : List Nat} {i n : Nat} (h : ns[i]? = some n) : (ns.map vn)[i]? = some (vn n) := by rw [List.getElem?_map, h]; rfl
theorem vp_at {ps : List (Option Nat)} {i : Nat} {q : Option Nat} (h : ps[i]? = some q) : (ps.map vp)[i]? = some (vp q) := by rw [List.getElem?_map, h]; rfl
theorem vn_ix {ns : List Nat} {i n : Nat} (h : ns[i]? = some n) : atI (ns.map vn) ((i : Nat) : Int) = some (vn n) := atI_nat (vn_at h)
theorem vp_ix {ps : List (Option Nat)} {i : Nat} {q : Option Nat} (h : ps[i]? = some q) : atI (ps.map vp) ((i : Nat) : Int) = some (vp q) := atI_nat (vp_at h)
theorem vn_get {ns : List Nat} {i : Nat} {x : V} (h : (ns.map vn)[i]? = some x) : ∃ n, ns[i]? = some n ∧ x = vn n := by
  rw [List.getElem?_map] at h
  obtain ⟨n, hn, e⟩ := Option.map_eq_some_iff.mp h
  exact ⟨n, hn, e.symm⟩
theorem vp_get {ps : List (Option Nat)} {i : Nat} {x : V} (h : (ps.map vp)[i]? = some x) : ∃ q, ps[i]? = some q ∧ x = vp q := by
  rw [List.getElem?_map] at h
  obtain ⟨n, hn, e⟩ := Option.map_eq_some_iff.mp h
  exact ⟨n, hn, e.symm⟩
theorem vn_inj {a b : Nat} : eqV (vn a) (vn b) = decide (a = b) := by
  show (((a : Nat) : Int) == ((b : Nat) : Int)) = decide (a = b)
  rw [Bool.eq_iff_iff, beq_iff_eq, decide_eq_true_iff]
  omega
/-- the first place of n -/
theorem vn_idx {ns : List Nat} {n : Nat} (h : n ∈ ns) : (ns.map vn)[ns.idxOf n]? = some (vn n) ∧ ∀ (m : Nat) (z : V), m < ns.idxOf n → (ns.map vn)[m]? = some z → eqV z (vn n) = false := by
  refine ⟨vn_at ?_, fun m z hm hz => ?_⟩
  · have hl := List.idxOf_lt_length_of_mem h
    rw [List.getElem?_eq_getElem hl, List.getElem_idxOf hl]
  · rw [List.getElem?_map] at hz
    obtain ⟨k, hk, rfl⟩ := Option.map_eq_some_iff.mp hz
    rw [vn_inj]
    refine decide_eq_false fun e => ?_
    subst e
    obtain ⟨hml, hme⟩ := List.getElem?_eq_some_iff.mp hk
    have := List.not_of_lt_findIdx (p := (· == k)) (xs := ns) (i := m) hm
    rw [hme] at this
    simp at this
theorem inV_vn {ns : List Nat} {n : Nat} : inV (vn n) (ns.map vn) = decide (n ∈ ns) := by
  unfold inV
  rw [Bool.eq_iff_iff, decide_eq_true_iff, List.any_eq_true]
  constructor
  · rintro ⟨x, hx, h⟩
    obtain ⟨m, hm, rfl⟩ := List.mem_map.mp hx
    rw [vn_inj, decide_eq_true_iff] at h
    rw [← h]; exact hm
  · intro h
    exact ⟨vn n, List.mem_map.mpr ⟨n, h, rfl⟩, by rw [vn_inj]; exact decide_eq_true rfl⟩
/-! the forest -/
def fields3 (ap ab aa : Addr) : List (Str × V) := [("parents", .ref ap), ("bearing", .ref ab), ("asking", .ref aa)]
structure Fo where
  ps : List (Option Nat)
  be : List Nat
  as : List Nat
/-- what a forest's data keep to -/
structure FoOk (f : Fo) : Prop where
  ps : Ps f.ps
  l0 : 1 ≤ f.ps.length
  l1 : f.ps.length ≤ 60
  be : f.be.Pairwise (· < ·)
  bl : ∀ x ∈ f.be, x < f.ps.length
  as : f.as.Pairwise (· < ·)
  al : ∀ x ∈ f.as, x < f.ps.length
def FoAt (C : Addr) (H : Hp) (a : Addr) (f : Fo) : Prop := ∃ dx ap ab aa, H a = some (.ins C dx (fields3 ap ab aa)) ∧ TP H ap f.ps ∧ TN H ab f.be ∧ TN H aa f.as
theorem foAt_same {C : Addr} {H H' : Hp} {a : Addr} {f : Fo} (s : Same H H') (h : FoAt C H a f) : FoAt C H' a f := by
  obtain ⟨dx, ap, ab, aa, h1, h2, h3, h4⟩ := h
  exact ⟨dx, ap, ab, aa, s _ _ h1, s _ _ h2, s _ _ h3, s _ _ h4⟩
structure FoT (K : PySem.W.Frag) (mg : Str → Option Value) (C : Addr) : Prop where
  cl : Cls K C
  nP : NoAttr K C "parents"
  nB : NoAttr K C "bearing"
  nA : NoAttr K C "asking"
  mgC : mg "Forest" = some (.ref C)
theorem fP {ap ab aa : Addr} : (fields3 ap ab aa).lookup ("parents" : Str) = some (.ref ap) := rfl
theorem fB {ap ab aa : Addr} : (fields3 ap ab aa).lookup ("bearing" : Str) = some (.ref ab) := rfl
theorem fA {ap ab aa : Addr} : (fields3 ap ab aa).lookup ("asking" : Str) = some (.ref aa) := rfl
/-- the builtins that the texts call -/
structure NamT (mg : Str → Option Value) : Prop where
  is : IsTxt mg
  int : mg "int" = none
  abs : mg "abs" = none
  range : mg "range" = none
  enum : mg "enumerate" = none
  rev : mg "reversed" = none
  sorted : mg "sorted" = none
  min : mg "min" = none
/-- a def and its name in the module -/
structure DefAt (K : PySem.W.Frag) (mg : Str → Option Value) (x : Str) (st : Stmt) (ps : List Str) (f : Addr) (fd : FuncData) : Prop where
  F : Fun K x x st f fd
  b : Binds K fd ps []
  g : mg x = some (.ref f)
theorem ifT {c : Prop} {_ : Decidable c} {a b : Prop} (h : c) (x : a) : if c then a else b := by rw [if_pos h]; exact x
theorem ifF {c : Prop} {_ : Decidable c} {a b : Prop} (h : ¬ c) (x : b) : if c then a else b := by rw [if_neg h]; exact x
/-! kinds -/
section
variable {P : Program} {w : World} {K : PySem.W.Frag} {mg : Str → Option Value} {base : Heap}
theorem intTy {H : Hp} {n : Int} : TyX K H (.int n) (.type "int") := .base (.int n)
def spIsInt : Sp := fun vs H Q _ => ∃ n : Int, vs = [.int n] ∧ Q (.bl true) H
theorem scIsInt : FnScope ["thing"] ["thing"] (defScope sIsInt) := ⟨rfl, rfl, rfl, by decide +kernel, rfl, by decide +kernel, by decide +kernel⟩
theorem ok_isInt {f : Addr} {fd : FuncData} (F : Fun K "is_integer" "is_integer" sIsInt f fd) (N : NamT mg) : FnOk P w K mg base CX0 1 f fd ["thing"] spIsInt := by
  refine F.ok scIsInt (fun vs H Q E h => ?_) (fun cdv A outer s H vs Q E hr h => ?_)
  · obtain ⟨n, rfl, _⟩ := h
    rfl
  · obtain ⟨n, rfl, k⟩ := h
    refine ⟨_, pss_one (ps_ret (pe_and (pe_callB call_isi (by rfl) N.is.inst (by decide +kernel) (pa_cons (pv 0) (pa_cons (pe_bltn (v := .ty "int") (by rfl) N.int (by decide +kernel) rfl) pa_nil))) (pe_one (pe_not (pe_callB call_isi (by rfl) N.is.inst (by decide +kernel) (pa_cons (pv 0) (pa_cons (pe_bltn (v := .ty "bool") (by rfl) N.is.bool (by decide +kernel) rfl) pa_nil))))))), ?_⟩
    refine ⟨_, rfl, _, .ty "int", _, _, true, rfl, .ty _, intTy, kit_ty (by decide +kernel), true, rfl, ?_⟩
    refine ifT rfl ?_
    exact ⟨_, rfl, _, .ty "bool", _, _, false, rfl, .ty _, intTy, kit_ty (by decide +kernel), false, rfl, k⟩
def spIsBtw : Sp := fun vs H Q _ => ∃ n a b : Int, vs = [.int n, .int a, .int b] ∧ Q (.bl (decide (a ≤ n ∧ n ≤ b))) H
theorem scIsBtw : FnScope ["thing", "least", "most"] ["thing", "least", "most"] (defScope sIsBtw) := ⟨rfl, rfl, rfl, by decide +kernel, rfl, by decide +kernel, by decide +kernel⟩
theorem ok_isBtw {f fI : Addr} {fd fdI : FuncData} (F : Fun K "is_between" "is_between" sIsBtw f fd) (N : NamT mg) (DI : DefAt K mg "is_integer" sIsInt ["thing"] fI fdI) : FnOk P w K mg base CX0 2 f fd ["thing", "least", "most"] spIsBtw := by
  have GI : FnOk P w K mg base CX0 1 fI fdI ["thing"] spIsInt := ok_isInt DI.F N
  refine F.ok scIsBtw (fun vs H Q E h => ?_) (fun cdv A outer s H vs Q E hr h => ?_)
  · obtain ⟨n, a, b, rfl, _⟩ := h
    rfl
  · obtain ⟨n, a, b, rfl, k⟩ := h
    refine ⟨_, pss_one (ps_ret (pe_and (pe_call GI hr (by rfl) DI.g DI.F.kp DI.b .nil pass0 (pa_cons (pv 0) pa_nil)) (pe_one (pe_chain op_le op_le (pv 1) (pv 0) (pv 2))))), ?_⟩
    refine ⟨_, rfl, n, rfl, true, rfl, ?_⟩
    refine ifT rfl ?_
    refine ⟨_, rfl, _, rfl, _, _, rfl, rfl, _, rfl, ?_⟩
    by_cases h1 : a ≤ n
    · refine ifT (decide_eq_true h1) ?_
      refine ⟨_, rfl, _, _, rfl, rfl, ?_⟩
      rw [show decide (a ≤ n ∧ n ≤ b) = decide (n ≤ b) from by simp [h1]] at k
      exact k
    · refine ifF (by rw [decide_eq_false h1]; exact Bool.false_ne_true) ?_
      rw [show decide (a ≤ n ∧ n ≤ b) = false from by simp [h1]] at k
      exact k
end
end Cn
namespace Cn
open PySem PySem.Spec PyProof.Rows L2 Ck
/-- the defs, as the text has them -/
structure Defs (K : PySem.W.Frag) (mg : Str → Option Value) (C : Addr) : Prop where
  N : NamT mg
  T : FoT K mg C
  mM : ∃ tm, mg "MOST_PLACES" = some (.int 60 tm)
  mAm : ∃ tm, mg "MOST_AMOUNTS" = some (.int 20 tm)
  mAsk : ∃ tm, mg "MOST_ASK" = some (.int 29 tm)
  zSet : mg "set" = none
  zSum : mg "sum" = none
  zDict : mg "dict" = none
  zValueerror : mg "ValueError" = none
  ini : ∃ f fd, Fun K "__init__" "Forest.__init__" sInit f fd ∧ Mk K C f ∧ Binds K fd ["self", "parents", "bearing", "asking"] []
  eqm : ∃ f fd, Fun K "__eq__" "Forest.__eq__" sEqM f fd ∧ PySem.W.findIn K (.ref C) "__eq__" = some (some (.ref f)) ∧ PySem.W.isFn K (.ref f) = true ∧ Binds K fd ["self", "other"] []
  ty5 : PySem.W.findIn K (.ref C) "__class__" = some (some (.builtin "object.__class__")) ∧ PySem.W.specialIn K (.builtin "object.__class__") "__get__" = some (some (.builtin "getset_descriptor.__get__")) ∧ PySem.W.takesIn K (.builtin "object.__class__") = some true ∧ PySem.W.mroIn K C (.type "object") = some true
  neF : PySem.W.findIn K (.ref C) "__ne__" = some (some (.builtin "object.__ne__"))
  som : ∃ f fd, DefAt K mg "_law_some" sSome ["_law_hand_here", "_law_things"] f fd
  I : ∃ f fd, DefAt K mg "is_integer" sIsInt ["thing"] f fd
  B : ∃ f fd, DefAt K mg "is_between" sIsBtw ["thing", "least", "most"] f fd
  L : ∃ f fd, DefAt K mg "is_lot" sIsLot ["thing"] f fd
  O : ∃ f fd, DefAt K mg "_is_lot_of_places" sLotOf ["thing", "many"] f fd
  ha : ∃ f fd, DefAt K mg "_law_hand" sHand ["_law_script"] f fd
  dr : ∃ f fd, DefAt K mg "_law_draw" sDraw ["_law_hand_here", "_law_many"] f fd
  is : ∃ f fd, DefAt K mg "_law_is" sIs ["_law_told", "_law_due"] f fd
  lo : ∃ f fd, DefAt K mg "_law_lot" sLawLot ["_law_hand_here", "_law_places", "_law_share"] f fd
  ro : ∃ f fd, DefAt K mg "_law_road" sRoad ["_law_parents", "_law_place"] f fd
  mx : ∃ f fd, DefAt K mg "_law_mixed" sMixed ["_law_hand_here", "_law_things"] f fd
  ist : ∃ f fd, DefAt K mg "is_table" sIsTable ["thing"] f fd
  acr : ∃ f fd, DefAt K mg "_are_crossing" sAreCr ["one", "other"] f fd
  lsw : ∃ f fd, DefAt K mg "_last_with" sLastW ["lots", "lot"] f fd
  crs : ∃ f fd, DefAt K mg "crossing" sCross ["table"] f fd
  fof : ∃ f fd, DefAt K mg "forest_of" sForOf ["table"] f fd
  lint : ∃ f fd, DefAt K mg "_law_is_int" sLIsInt ["_law_thing", "_law_least", "_law_most"] f fd
  nst : ∃ f fd, DefAt K mg "_law_nested" sNested ["_law_hand_here", "_law_lot_here"] f fd
  ltb : ∃ f fd, DefAt K mg "_law_table" sLTable ["_law_hand_here"] f fd
  lcrs : ∃ f fd, DefAt K mg "_law_crossing" sLCross ["_law_lots"] f fd
  lifo : ∃ f fd, DefAt K mg "_law_is_forest_of" sLIsForO ["_law_lots", "_law_thing"] f fd
end Cn
namespace Cn
open PySem PySem.Spec PyProof.Rows L2 Ck
/-! readings that leave all as it is, apart from new things -/
theorem cutDrop (xs : List V) (n : Nat) : cutV xs (some (n : Int)) none = xs.drop n := by
  unfold cutV
  rw [HT.sIx_none, HT.sIx_nat]
  by_cases h : n ≤ xs.length
  · rw [Nat.min_eq_left h]
    exact List.take_of_length_le (by rw [List.length_drop]; omega)
  · rw [Nat.min_eq_right (by omega), Nat.sub_self, List.take_zero, List.drop_of_length_le (by omega)]
theorem cutWhole {xs : List V} {lo hi : Option Int} (h : HT.sIx xs.length 0 lo = 0 ∧ HT.sIx xs.length xs.length hi = xs.length) : cutV xs lo hi = xs := by
  unfold cutV
  rw [h.1, h.2, List.drop_zero, Nat.sub_zero, List.take_length]
theorem slA {K : PySem.W.Frag} {H : Hp} {a : Addr} {xs : List V} {lo hi : Option Int} {Q : VK} (ha : H a = some (.tup xs)) (k : ∀ b H', Same H H' → H' b = some (.tup (cutV xs lo hi)) → Q (.ref b) H') : rSlA K (.ref a) lo hi H Q := by
  refine ⟨a, xs, rfl, .inl (.inl ha), fun h => k a H (Same.refl _) (by rw [cutWhole h]; exact ha), fun _ p np => k p _ (smUpd np) upd_same⟩
theorem slN {K : PySem.W.Frag} {σ : L2.St} {H : Hp} {a : Addr} {xs : List V} {lo : Option Int} {Q : VK} (ha : H a = some (.tup xs)) (k : ∀ b H', Same H H' → H' b = some (.tup (cutV xs lo none)) → Q (.ref b) H') : tNoPart σ H (fun u H3 => rSlA K (.ref a) lo u H3 Q) := slA (hi := none) ha k
theorem catA {K : PySem.W.Frag} {H : Hp} {a b : Addr} {xs ys : List V} {Q : VK} (ha : H a = some (.tup xs)) (hb : H b = some (.tup ys)) (hl : xs.length + ys.length ≤ 1000) (k : ∀ c H', Same H H' → H' c = some (.tup (xs ++ ys)) → Q (.ref c) H') : rCatA K (.ref a) (.ref b) H Q := by
  refine ⟨a, b, xs, ys, rfl, rfl, .inl (.inl ha), .inl (.inl hb), Nat.le_of_lt (small1000 hl), fun h => ?_, fun _ h => ?_, fun _ _ p np => k p _ (smUpd np) upd_same⟩
  · subst h
    exact k b H (Same.refl _) hb
  · subst h
    exact k a H (Same.refl _) (by rw [List.append_nil]; exact ha)
theorem walk_zipT {K : PySem.W.Frag} {a b : Addr} {xs ys : List V} {n : Nat} (hn : n = min xs.length ys.length) : Walk (RZ.ItzT K a b) n (fun H => SqT K H a xs ∧ SqT K H b ys) (YPair (fun i => xs[i]?) (fun i => ys[i]?)) := by
  subst hn
  refine ⟨fun i _ hi q => ?_, fun _ q => ⟨xs, ys, q.1, q.2, by omega⟩, fun i H v H' _ q y => ?_⟩
  · have h1 : i < xs.length := by omega
    have h2 : i < ys.length := by omega
    exact ⟨xs, ys, xs[i], ys[i], q.1, q.2, by simp [h1], by simp [h2]⟩
  · obtain ⟨T, x, z, h1, h2, h3, h4, h5⟩ := y
    exact ⟨T, x, z, h1, h2, h3, h4 xs q.1, h5 ys q.2⟩
section
variable {P : Program} {w : World} {K : PySem.W.Frag} {mg : Str → Option Value} {base : Heap}
theorem tupTy {H : Hp} {a : Addr} {xs : List V} (h : H a = some (.tup xs)) : TyX K H (.ref a) (.type "tuple") := .base (.tup h)
def spIsLot : Sp := fun vs H Q _ => ∃ (a : Addr) (ns : List Nat), vs = [.ref a] ∧ TN H a ns ∧ ns.Pairwise (· < ·) ∧ ns.length ≤ 1000 ∧ ∀ H', Same H H' → Q (.bl true) H'
def nLot : List Str := ["thing", "item", "one", "following"]
theorem scIsLot : FnScope nLot ["thing"] (defScope sIsLot) := ⟨rfl, rfl, rfl, by decide +kernel, rfl, by decide +kernel, by decide +kernel⟩
theorem ok_isLot {f fI : Addr} {fd fdI : FuncData} (F : Fun K "is_lot" "is_lot" sIsLot f fd) (N : NamT mg) (DI : DefAt K mg "is_integer" sIsInt ["thing"] fI fdI) : FnOk P w K mg base CX0 2 f fd ["thing"] spIsLot := by
  have GI : FnOk P w K mg base CX0 1 fI fdI ["thing"] spIsInt := ok_isInt DI.F N
  refine F.ok scIsLot (fun vs H Q E h => ?_) (fun cdv A outer s H vs Q E hr h => ?_)
  · obtain ⟨a, ns, rfl, _⟩ := h
    rfl
  · obtain ⟨a, ns, rfl, ha, hp, hl, k⟩ := h
    refine ⟨_, pss_cons (ps_if (pt_not (pt_val (pe_callB call_isi (by rfl) N.is.inst (by decide +kernel) (pa_cons (pv 0) (pa_cons (pe_bltn (v := .ty "tuple") (by rfl) N.is.tup (by decide +kernel) rfl) pa_nil))))) (pss_one ps_never) pss_nil)
      (pss_cons (ps_for PassesOwn.never rfl (pi_tup (pv 0)) (pg_name (i := 1) scIsLot.nd rfl (Or.inl rfl)) (pss_one (ps_if (pt_not (pt_val (pe_call GI hr (by rfl) DI.g DI.F.kp DI.b .nil pass0 (pa_cons (pv 1) pa_nil)))) (pss_one ps_never) pss_nil)))
      (pss_cons (ps_for PassesOwn.never rfl (RZ.pi_zipA (by rfl) N.is.zip (pa_cons (pv 0) (pa_cons (pe_slice sl_tupA (pv 0) (po_some pe_int) po_none) pa_nil))) (pg_tup rfl (pgs_cons (pg_name (i := 2) scIsLot.nd rfl (Or.inl rfl)) (pgs_cons (pg_name (i := 3) scIsLot.nd rfl (Or.inl rfl)) pgs_nil)))
        (pss_one (ps_if (pt_cmpR op_ge (pv 2) (pv 3) (nomark _)) (pss_one ps_never) pss_nil)))
      (pss_one (ps_ret pe_bl)))), ?_⟩
    refine ⟨_, rfl, _, .ty "tuple", _, _, true, rfl, .ty _, tupTy ha, kit_ty (by decide +kernel), true, rfl, ?_⟩
    refine ifF (by decide) ?_
    refine ⟨_, rfl, a, rfl, ⟨_, tnL ha⟩, ?_⟩
    refine for_it (walk_tup (xs := ns.map vn)) (fun _ σ H' => H' = H ∧ ∃ t1, σ = [some (.ref a), t1, none, none]) ⟨rfl, _, rfl⟩ (fun i σ H' _ z => by rw [z.1]; exact tnL ha) ?_ ?_
    · rintro i x σ H' H2 hi ⟨rfl, t1, rfl⟩ ⟨rfl, hx⟩
      rw [List.getElem?_map] at hx
      obtain ⟨n, _, rfl⟩ := Option.map_eq_some_iff.mp hx
      refine ⟨_, rfl, (n : Int), rfl, true, rfl, ?_⟩
      refine ifF (by decide) ?_
      exact ⟨rfl, _, rfl⟩
    · rintro σ H' ⟨rfl, t1, rfl⟩
      refine ⟨_, rfl, _, rfl, 1, rfl, ?_⟩
      refine slN ha fun b H1 s1 hb => ?_
      rw [show (some (1 : Int)) = some ((1 : Nat) : Int) from rfl, cutDrop] at hb
      have ha1 : TN H1 a ns := s1 _ _ ha
      refine ⟨a, b, ns.map vn, (ns.map vn).drop 1, rfl, .inr ⟨tnL ha1, .inl (.inl hb), ?_⟩⟩
      refine for_it (walk_zipT (xs := ns.map vn) (ys := (ns.map vn).drop 1) rfl) (fun _ σ H' => Same H1 H' ∧ ∃ t1 t2 t3, σ = [some (.ref a), t1, t2, t3]) ⟨Same.refl _, _, _, _, rfl⟩ (fun i σ H' _ z => ⟨tnL (z.1 _ _ ha1), .inl (.inl (z.1 _ _ hb))⟩) ?_ ?_
      · rintro i x σ H' H2 hi ⟨sm, t1, t2, t3, rfl⟩ ⟨T, x1, y1, rfl, nT, rfl, e1, e2⟩
        obtain ⟨n, hn, rfl⟩ := vn_get (i := i) e1
        have e2 : ((ns.map vn).drop 1)[i]? = some y1 := e2
        rw [List.getElem?_drop] at e2
        obtain ⟨m, hm, rfl⟩ := vn_get e2
        refine ⟨T, _, rfl, .inl (.inl upd_same), rfl, _, _, rfl, _, _, rfl, rfl, ?_⟩
        refine ⟨_, rfl, _, rfl, _, _, rfl, rfl, _, rfl, ?_⟩
        obtain ⟨q1, q2⟩ := List.getElem?_eq_some_iff.mp hn
        obtain ⟨q3, q4⟩ := List.getElem?_eq_some_iff.mp hm
        have := List.pairwise_iff_getElem.mp hp i (1 + i) q1 q3 (by omega)
        rw [q2, q4] at this
        refine ifF (by rw [decide_eq_true_iff]; show ¬ ((m : Int) ≤ (n : Int)); omega) ?_
        exact ⟨sm.trans (smUpd nT), _, _, _, rfl⟩
      · rintro σ H' ⟨sm, _⟩
        exact k _ (s1.trans sm)
end
end Cn
namespace Cn
open PySem PySem.Spec PyProof.Rows L2 Ck
theorem vn_last {ns : List Nat} {n : Nat} (h : ns ≠ []) (hn : ns.getLast h = n) : atI (ns.map vn) (-1) = some (vn n) := by
  rw [← hn, show ns.map vn = ns.dropLast.map vn ++ [vn (ns.getLast h)] from by rw [← List.map_singleton (f := vn), ← List.map_append, List.dropLast_concat_getLast]]
  exact atI_last _ _
theorem vp_ne {m : Nat} : decide (vp (some m) = V.non) = false := decide_eq_false fun z => nomatch (show vn m = V.non from z)
section
variable {P : Program} {w : World} {K : PySem.W.Frag} {mg : Str → Option Value} {base : Heap} {C : Addr}
def spLotOf : Sp := fun vs H Q _ => ∃ (a : Addr) (ns : List Nat) (n : Nat), vs = [.ref a, vn n] ∧ TN H a ns ∧ ns.Pairwise (· < ·) ∧ (∀ x ∈ ns, x < n) ∧ ns.length ≤ 1000 ∧ ∀ H', Same H H' → Q (.bl true) H'
theorem scLotOf : FnScope ["thing", "many"] ["thing", "many"] (defScope sLotOf) := ⟨rfl, rfl, rfl, by decide +kernel, rfl, by decide +kernel, by decide +kernel⟩
theorem ok_lotOf {f fI fL : Addr} {fd fdI fdL : FuncData} (F : Fun K "_is_lot_of_places" "_is_lot_of_places" sLotOf f fd) (N : NamT mg) (DI : DefAt K mg "is_integer" sIsInt ["thing"] fI fdI) (DL : DefAt K mg "is_lot" sIsLot ["thing"] fL fdL) : FnOk P w K mg base CX0 3 f fd ["thing", "many"] spLotOf := by
  have GL : FnOk P w K mg base CX0 2 fL fdL ["thing"] spIsLot := ok_isLot DL.F N DI
  refine F.ok scLotOf (fun vs H Q E h => ?_) (fun cdv A outer s H vs Q E hr h => ?_)
  · obtain ⟨a, ns, n, rfl, _⟩ := h
    rfl
  · obtain ⟨a, ns, n, rfl, ha, hp, hx, hl, k⟩ := h
    refine ⟨_, pss_one (ps_ret (pe_and (pe_call GL hr (by rfl) DL.g DL.F.kp DL.b .nil pass0 (pa_cons (pv 0) pa_nil)) (pe_one (pe_or (pe_notT (pv 0)) (pe_one (pe_and (pe_cmpR op_le pe_int (pe_ix ix_tup (pv 0) pe_int (fun _ _ => rfl)) (nomark _)) (pe_one (pe_cmpR op_lt (pe_ix ix_tup (pv 0) (pe_un un_neg pe_int) (fun _ _ => rfl)) (pv 1) (nomark _))))))))), ?_⟩
    refine ⟨_, rfl, a, ns, rfl, ha, hp, hl, fun H1 s1 => ⟨true, rfl, ?_⟩⟩
    refine ifT rfl ?_
    have ha1 : TN H1 a ns := s1 _ _ ha
    refine ⟨_, rfl, _, .inr (.inl ⟨_, tnL ha1, rfl⟩), _, rfl, ?_⟩
    by_cases hne : ns = []
    · refine ifT (by rw [hne]; rfl) ?_
      exact k H1 s1
    · obtain ⟨m, h0⟩ : ∃ m, ns[0]? = some m := ⟨_, List.getElem?_eq_getElem (List.length_pos_iff.mpr hne)⟩
      have hem : (ns.map vn).isEmpty = false := by
        cases ns with
        | nil => exact absurd rfl hne
        | cons _ _ => rfl
      refine ifF (by rw [hem]; decide) ?_
      refine ⟨_, rfl, a, _, (0 : Int), _, rfl, rfl, tnL ha1, vn_ix (i := 0) h0, _, _, rfl, rfl, _, rfl, ?_⟩
      refine ifT (by rw [decide_eq_true_iff]; show (0 : Int) ≤ ((m : Nat) : Int); omega) ?_
      have hg := hx _ (List.getLast_mem hne)
      have el := vn_last hne rfl
      refine ⟨_, rfl, _, rfl, a, _, _, _, rfl, rfl, tnL ha1, el, _, rfl, _, _, rfl, rfl, ?_⟩
      have hlt : (((ns.getLast hne : Nat) : Int)) < (n : Int) := by omega
      show Q (V.bl (decide ((((ns.getLast hne : Nat) : Int)) < (n : Int)))) H1
      rw [decide_eq_true hlt]
      exact k H1 s1
/-! Forest(parents, bearing, asking) -/
def spInit (C : Addr) : Sp := fun vs H Q _ => ∃ (p dx ap ab aa : Addr) (f : Fo), vs = [.ref p, .ref ap, .ref ab, .ref aa] ∧ H p = some (.ins C dx []) ∧ TP H ap f.ps ∧ TN H ab f.be ∧ TN H aa f.as ∧ FoOk f ∧
  ∀ H', FoAt C H' p f → (∀ b o, b ≠ p → H b = some o → H' b = some o) → Q .non H'
def nInit : List Str := ["self", "parents", "bearing", "asking", "place", "parent"]
theorem scInit : FnScope nInit ["self", "parents", "bearing", "asking"] (defScope sInit) := ⟨rfl, rfl, rfl, by decide +kernel, rfl, by decide +kernel, by decide +kernel⟩
theorem put3 {ap ab aa : Addr} : putF "asking" (.ref aa) (putF "bearing" (.ref ab) (putF "parents" (.ref ap) [])) = fields3 ap ab aa := rfl
theorem lotLen {ns : List Nat} {n : Nat} (hp : ns.Pairwise (· < ·)) (hx : ∀ x ∈ ns, x < n) : ns.length ≤ n := by
  have h : ∀ (k : Nat) (xs : List Nat), xs.Pairwise (· < ·) → (∀ x ∈ xs, k ≤ x ∧ x < n) → k ≤ n → xs.length + k ≤ n := by
    intro k xs
    induction xs generalizing k with
    | nil => intro _ _ h; rw [List.length_nil]; omega
    | cons y ys ih =>
      intro p q hk
      have hy := q y List.mem_cons_self
      have := ih (y + 1) (List.pairwise_cons.mp p).2 (fun x hx => ⟨(List.pairwise_cons.mp p).1 x hx, (q x (List.mem_cons_of_mem _ hx)).2⟩) hy.2
      rw [List.length_cons]
      omega
  have := h 0 ns hp (fun x hx' => ⟨Nat.zero_le _, hx x hx'⟩) (Nat.zero_le _)
  omega
theorem ok_init {f fI fL fB fO : Addr} {fd fdI fdL fdB fdO : FuncData} {tm : Tok} (F : Fun K "__init__" "Forest.__init__" sInit f fd) (N : NamT mg) (T : FoT K mg C) (mM : mg "MOST_PLACES" = some (.int 60 tm)) (DI : DefAt K mg "is_integer" sIsInt ["thing"] fI fdI) (DL : DefAt K mg "is_lot" sIsLot ["thing"] fL fdL)
    (DB : DefAt K mg "is_between" sIsBtw ["thing", "least", "most"] fB fdB) (DO : DefAt K mg "_is_lot_of_places" sLotOf ["thing", "many"] fO fdO) : FnOk P w K mg base CX0 4 f fd ["self", "parents", "bearing", "asking"] (spInit C) := by
  have GB : FnOk P w K mg base CX0 2 fB fdB ["thing", "least", "most"] spIsBtw := ok_isBtw DB.F N DI
  have GO : FnOk P w K mg base CX0 3 fO fdO ["thing", "many"] spLotOf := ok_lotOf DO.F N DI DL
  refine F.ok scInit (fun vs H Q E h => ?_) (fun cdv A outer s H vs Q E hr h => ?_)
  · obtain ⟨p, dx, ap, ab, aa, f, rfl, _⟩ := h
    rfl
  · obtain ⟨p, dx, ap, ab, aa, fo, rfl, hp, h1, h2, h3, ok, k⟩ := h
    have hr2 : Room 2 (A.deeper (envOfC "Forest.__init__" (defScope sInit) s.heap.objs.size f cdv)) := Room.mono hr (by decide)
    refine ⟨_, pss_cons (ps_if (PW.pt (pw_or (pt_not (pt_val (pe_callB call_isi (by rfl) N.is.inst (by decide +kernel) (pa_cons (pv 1) (pa_cons (pe_bltn (v := .ty "tuple") (by rfl) N.is.tup (by decide +kernel) rfl) pa_nil)))))
          (pw_or1 (pt_not (pt_chain op_le op_le pe_int (pe_callB call_len_seq (by rfl) N.is.len PySem.boot_len (pa_cons (pv 1) pa_nil)) (pe_glob (v := .int 60) (by rfl) mM ⟨_, rfl⟩)))))) (pss_one ps_never) pss_nil)
      (pss_cons (ps_for PassesOwn.never rfl (pi_enumT (by rfl) N.enum (pa_cons (pv 1) pa_nil)) (pg_tup rfl (pgs_cons (pg_name (i := 4) scInit.nd rfl (Or.inl rfl)) (pgs_cons (pg_name (i := 5) scInit.nd rfl (Or.inl rfl)) pgs_nil)))
        (pss_one (ps_if (PW.pt (pw_and (pt_cmpR op_notN (pv 5) pe_non (nomark _)) (pw_and1 (pt_not (pt_val (pe_call GB hr2 (by rfl) DB.g DB.F.kp DB.b .nil pass0 (pa_cons (pv 5) (pa_cons pe_int (pa_cons (pe_op op_sub (pv 4) pe_int) pa_nil))))))))) (pss_one ps_never) pss_nil)))
      (pss_cons (ps_if (pt_not (pt_val (pe_call GO hr (by rfl) DO.g DO.F.kp DO.b .nil pass0 (pa_cons (pv 2) (pa_cons (pe_callB call_len_seq (by rfl) N.is.len PySem.boot_len (pa_cons (pv 1) pa_nil)) pa_nil))))) (pss_one ps_never) pss_nil)
      (pss_cons (ps_if (pt_not (pt_val (pe_call GO hr (by rfl) DO.g DO.F.kp DO.b .nil pass0 (pa_cons (pv 3) (pa_cons (pe_callB call_len_seq (by rfl) N.is.len PySem.boot_len (pa_cons (pv 1) pa_nil)) pa_nil))))) (pss_one ps_never) pss_nil)
      (pss_cons (ps_fld (pv 0) (pv 1) rfl) (pss_cons (ps_fld (pv 0) (pv 2) rfl) (pss_one (ps_fld (pv 0) (pv 3) rfl))))))), ?_⟩
    have l1 : ((fo.ps.map vp).length : Int) ≤ 60 := by have := ok.l1; rw [List.length_map]; omega
    have l0 : (1 : Int) ≤ ((fo.ps.map vp).length : Int) := by have := ok.l0; rw [List.length_map]; omega
    refine ⟨_, rfl, _, .ty "tuple", _, _, true, rfl, .ty _, tupTy h1, kit_ty (by decide +kernel), true, rfl, ?_⟩
    refine ifF (by decide) ?_
    refine ⟨_, rfl, ap, _, rfl, .inr (tpL h1), _, _, rfl, rfl, _, rfl, ?_⟩
    refine ifT (decide_eq_true l0) ?_
    refine ⟨_, _, rfl, rfl, _, rfl, ?_⟩
    refine ifF (by rw [decide_eq_true l1]; decide) ?_
    refine ⟨_, rfl, ap, _, rfl, tpL h1, ?_⟩
    refine for_it (walk_enumT (xs := fo.ps.map vp)) (fun _ σ H' => Same H H' ∧ ∃ t4 t5, σ = [some (.ref p), some (.ref ap), some (.ref ab), some (.ref aa), t4, t5]) ⟨Same.refl _, _, _, rfl⟩ (fun i σ H' _ z => tpL (z.1 _ _ h1)) ?_ ?_
    · rintro i x σ H' H2 hi ⟨sm, t4, t5, rfl⟩ ⟨T, x1, y1, rfl, nT, rfl, e1, e2⟩
      cases e1
      obtain ⟨q, hq, rfl⟩ := vp_get (i := i) e2
      refine ⟨T, _, rfl, .inl (.inl upd_same), rfl, _, _, rfl, _, _, rfl, rfl, ?_⟩
      cases q with
      | none =>
        refine ⟨_, rfl, rfl, _, rfl, ?_⟩
        refine ifF (by decide) ?_
        exact ⟨sm.trans (smUpd nT), _, _, rfl⟩
      | some m =>
        refine ⟨_, rfl, rfl, _, rfl, ?_⟩
        refine ifT (by rw [vp_ne]; rfl) ?_
        refine ⟨_, rfl, _, rfl, _, _, rfl, rfl, (m : Int), 0, (i : Int) - 1, rfl, _, rfl, ?_⟩
        have := ok.ps i m hq
        refine ifF (by rw [decide_eq_true (by omega)]; decide) ?_
        exact ⟨sm.trans (smUpd nT), _, _, rfl⟩
    · rintro σ H' ⟨sm, t4, t5, rfl⟩
      refine ⟨_, rfl, _, rfl, ap, _, rfl, .inr (tpL (sm _ _ h1)), ab, fo.be, fo.ps.length, by rw [List.length_map]; rfl, sm _ _ h2, ok.be, ok.bl, Nat.le_trans (lotLen ok.be ok.bl) (by have := ok.l1; omega), fun H1 s1 => ⟨true, rfl, ?_⟩⟩
      refine ifF (by decide) ?_
      refine ⟨_, rfl, _, rfl, ap, _, rfl, .inr (tpL (s1 _ _ (sm _ _ h1))), aa, fo.as, fo.ps.length, by rw [List.length_map]; rfl, s1 _ _ (sm _ _ h3), ok.as, ok.al, Nat.le_trans (lotLen ok.as ok.al) (by have := ok.l1; omega), fun H3 s3 => ⟨true, rfl, ?_⟩⟩
      refine ifF (by decide) ?_
      have sm3 := (sm.trans s1).trans s3
      refine ⟨_, rfl, _, rfl, p, C, dx, [], rfl, sm3 _ _ hp, T.cl, T.nP, (by show 0 < 1000; decide), ?_⟩
      refine ⟨_, rfl, _, rfl, p, C, dx, _, rfl, upd_same, T.cl, T.nB, (by show 1 < 1000; decide), ?_⟩
      refine ⟨_, rfl, _, rfl, p, C, dx, _, rfl, upd_same, T.cl, T.nA, (by show 2 < 1000; decide), ?_⟩
      have kp : ∀ b o, b ≠ p → H b = some o → (upd (upd (upd H3 p (.ins C dx (putF "parents" (.ref ap) []))) p (.ins C dx (putF "bearing" (.ref ab) (putF "parents" (.ref ap) [])))) p (.ins C dx (fields3 ap ab aa))) b = some o := fun b o ne e => by
        rw [upd_ne ne, upd_ne ne, upd_ne ne]
        exact sm3 _ _ e
      have nt : ∀ {a : Addr} {xs : List V}, H a = some (.tup xs) → a ≠ p := fun {a xs} e z => by rw [z, hp] at e; cases e
      exact k _ ⟨dx, ap, ab, aa, upd_same, kp _ _ (nt h1) h1, kp _ _ (nt h2) h2, kp _ _ (nt h3) h3⟩ kp
end
end Cn
namespace Cn
open PySem PySem.Spec PyProof.Rows L2 Ck
section
variable {P : Program} {w : World} {K : PySem.W.Frag} {mg : Str → Option Value} {base : Heap} {C : Addr}
def Def (P : Program) (w : World) (K : PySem.W.Frag) (mg : Str → Option Value) (base : Heap) (x : Str) (k : Nat) (ps : List Str) (sp : Sp) : Prop :=
  ∃ f fd, FnOk P w K mg base CX0 k f fd ps sp ∧ mg x = some (.ref f) ∧ PySem.W.keepIn K (.ref f) = true ∧ Binds K fd ps []
theorem def_of {x : Str} {st : Stmt} {ps : List Str} {k : Nat} {sp : Sp} (h : ∃ f fd, DefAt K mg x st ps f fd) (g : ∀ f fd, Fun K x x st f fd → FnOk P w K mg base CX0 k f fd ps sp) : Def P w K mg base x k ps sp := by
  obtain ⟨f, fd, D⟩ := h
  exact ⟨f, fd, g f fd D.F, D.g, D.F.kp, D.b⟩
theorem ps_at {ps : List (Option Nat)} {i : Nat} (hi : i < ps.length) : ∃ q, ps[i]? = some q := ⟨_, List.getElem?_eq_getElem hi⟩
def UpAt (ps : List (Option Nat)) (i : Nat) (up : List Nat) : Option Nat → Prop
  | none => road ps i = up.reverse
  | some p => p < i ∧ road ps i = road ps p ++ up.reverse
theorem upStart {ps : List (Option Nat)} {i : Nat} {q : Option Nat} (hp : Ps ps) (h : ps[i]? = some q) : UpAt ps i [i] q := by
  cases q with
  | none => exact road_none h
  | some p => exact ⟨hp i p h, road_some hp h⟩
theorem upNext {ps : List (Option Nat)} {i p : Nat} {up : List Nat} {q : Option Nat} (hp : Ps ps) (h : UpAt ps i up (some p)) (hq : ps[p]? = some q) : UpAt ps i (up ++ [p]) q := by
  obtain ⟨hl, e⟩ := h
  cases q with
  | none =>
    show road ps i = (up ++ [p]).reverse
    rw [e, road_none hq, List.reverse_append]; rfl
  | some r =>
    refine ⟨Nat.lt_trans (hp p r hq) hl, ?_⟩
    rw [e, road_some hp hq, List.reverse_append, List.append_assoc]; rfl
def meas : L2.St → Nat := fun σ => match σ[3]? with
  | some (some (V.int n)) => n.toNat + 1
  | _ => 0
end
end Cn
namespace Cn
open PySem PySem.Spec PyProof.Rows L2 Ck
/-! data of whole numbers -/
def dn (ns : List Nat) : List PyData := ns.map fun n => PyData.int ((n : Nat) : Int)
theorem dpN {K : PySem.W.Frag} {H : Hp} : ∀ ns : List Nat, DpAll K H (ns.map vn) (dn ns)
  | [] => .nil
  | n :: ns => .cons (.int _) (dpN ns)
theorem dnLay : ∀ ns : List Nat, PyData.canLayAll0 (dn ns) = true
  | [] => rfl
  | n :: ns => by
    show (PyData.canLay0 (.int _) && PyData.canLayAll0 (dn ns)) = true
    rw [dnLay ns]; rfl
theorem dnDepth : ∀ ns : List Nat, PyData.depthAll (dn ns) = 0
  | [] => rfl
  | n :: ns => by
    show max (PyData.depth (.int _)) (PyData.depthAll (dn ns)) = 0
    rw [dnDepth ns]; rfl
theorem dnShL (ns : List Nat) : SeqAt.shaped (.list (dn ns)) = true := by
  show (PyData.canLayAll0 (dn ns) && decide (PyData.depthAll (dn ns) + 1 ≤ 64)) = true
  rw [dnLay, dnDepth]; rfl
theorem dnShT (ns : List Nat) : SeqAt.shaped (.tuple (dn ns)) = true := by
  show (PyData.canLayAll0 (dn ns) && decide (PyData.depthAll (dn ns) + 1 ≤ 64)) = true
  rw [dnLay, dnDepth]; rfl
theorem dnEqL (ns : List Nat) : PyData.eqv (.list (dn ns)) (.list (dn ns)) = true := SeqAt.eqv_refl (.list (dn ns)) (dnLay ns)
theorem dnEqT (ns : List Nat) : PyData.eqv (.tuple (dn ns)) (.tuple (dn ns)) = true := SeqAt.eqv_refl (.tuple (dn ns)) (dnLay ns)
/-- what is sorted and has just the numbers below n, each once -/
theorem sortedRange {ns : List Nat} {n : Nat} {zs : List Int} (nd : ns.Nodup) (hm : ∀ x, x ∈ ns ↔ x < n) (hp : zs.Perm (ns.map fun k => ((k : Nat) : Int))) (hs : zs.Pairwise (· ≤ ·)) : zs = (List.range n).map fun k => ((k : Nat) : Int) := by
  have h1 : ns.Perm (List.range n) := (List.perm_ext_iff_of_nodup nd List.nodup_range).mpr fun x => by rw [hm, List.mem_range]
  refine List.Perm.eq_of_pairwise (le := (· ≤ ·)) (fun a b _ _ p q => Int.le_antisymm p q) hs ?_ (hp.trans (h1.map _))
  rw [List.pairwise_map]
  exact List.pairwise_lt_range.imp fun h => by omega
theorem rgN (n : Nat) : rgV 0 (n : Int) = (List.range n).map vn := by
  unfold rgV
  rw [Int.sub_zero, Int.toNat_natCast]
  refine List.map_congr_left fun i _ => ?_
  show V.int (0 + (i : Int)) = V.int (i : Int)
  rw [Int.zero_add]
theorem mapIV (ns : List Nat) : (ns.map fun k => ((k : Nat) : Int)).map V.int = ns.map vn := by rw [List.map_map]; rfl
/-- cuts: all places, each once -/
structure CutsOk (n : Nat) (cs : List Nat) : Prop where
  len : cs.length = n
  nd : cs.Nodup
  mem : ∀ x, x ∈ cs ↔ x < n
section
variable {P : Program} {w : World} {K : PySem.W.Frag} {mg : Str → Option Value} {base : Heap} {C : Addr}
theorem dInt (B : Defs K mg C) : Def P w K mg base "is_integer" 1 ["thing"] spIsInt := def_of B.I fun f fd F => ok_isInt F B.N
end
end Cn
namespace Cn
open PySem PySem.Spec PyProof.Rows L2 Ck
theorem smOver {H1 H4 : Hp} {D : Addr} {o : HO} (nD : H1 D = none) (sm : Same H1 H4) : Same H1 (upd H4 D o) := fun b u e => by
  have nb : b ≠ D := fun z => by rw [z, nD] at e; cases e
  rw [upd_ne nb]
  exact sm b u e
end Cn
namespace Cn
open PySem PySem.Spec PyProof.Rows L2 Ck
def dPar (ps : List (Option Nat)) : List PyData := ps.map fun q => match q with | none => PyData.none | some n => PyData.int ((n : Nat) : Int)
theorem dpPar {K : PySem.W.Frag} {H : Hp} : ∀ ps : List (Option Nat), DpAll K H (ps.map vp) (dPar ps)
  | [] => .nil
  | none :: ps => .cons .non (dpPar ps)
  | some n :: ps => .cons (.int _) (dpPar ps)
theorem dParLay : ∀ ps : List (Option Nat), PyData.canLayAll0 (dPar ps) = true
  | [] => rfl
  | none :: ps => by
    show (PyData.canLay0 .none && PyData.canLayAll0 (dPar ps)) = true
    rw [dParLay ps]; rfl
  | some n :: ps => by
    show (PyData.canLay0 (.int _) && PyData.canLayAll0 (dPar ps)) = true
    rw [dParLay ps]; rfl
theorem dParDepth : ∀ ps : List (Option Nat), PyData.depthAll (dPar ps) = 0
  | [] => rfl
  | none :: ps => by
    show max (PyData.depth .none) (PyData.depthAll (dPar ps)) = 0
    rw [dParDepth ps]; rfl
  | some n :: ps => by
    show max (PyData.depth (.int _)) (PyData.depthAll (dPar ps)) = 0
    rw [dParDepth ps]; rfl
theorem dParSh (ps : List (Option Nat)) : SeqAt.shaped (.tuple (dPar ps)) = true := by
  show (PyData.canLayAll0 (dPar ps) && decide (PyData.depthAll (dPar ps) + 1 ≤ 64)) = true
  rw [dParLay, dParDepth]; rfl
theorem dParEq : ∀ {ps qs : List (Option Nat)}, PyData.eqvAll (dPar ps) (dPar qs) = true → ps = qs
  | [], [], _ => rfl
  | [], q :: qs, h => by cases q <;> simp [dPar, PyData.eqvAll] at h
  | p :: ps, [], h => by cases p <;> simp [dPar, PyData.eqvAll] at h
  | none :: ps, none :: qs, h => by
    have h2 : PyData.eqvAll (dPar ps) (dPar qs) = true := by
      have h1 : PyData.eqvAll (PyData.none :: dPar ps) (PyData.none :: dPar qs) = true := h
      simp only [PyData.eqvAll, Bool.and_eq_true] at h1
      exact h1.2
    rw [dParEq h2]
  | some p :: ps, some q :: qs, h => by
    have h1 : PyData.eqvAll (PyData.int ((p : Nat) : Int) :: dPar ps) (PyData.int ((q : Nat) : Int) :: dPar qs) = true := h
    simp only [PyData.eqvAll, PyData.eqv, Bool.and_eq_true, beq_iff_eq] at h1
    rw [dParEq h1.2, show p = q from by omega]
  | none :: ps, some q :: qs, h => by
    have h1 : PyData.eqvAll (PyData.none :: dPar ps) (PyData.int ((q : Nat) : Int) :: dPar qs) = true := h
    simp [PyData.eqvAll, PyData.eqv] at h1
  | some p :: ps, none :: qs, h => by
    have h1 : PyData.eqvAll (PyData.int ((p : Nat) : Int) :: dPar ps) (PyData.none :: dPar qs) = true := h
    simp [PyData.eqvAll, PyData.eqv] at h1
theorem dParEqT {ps qs : List (Option Nat)} (h : PyData.eqv (.tuple (dPar ps)) (.tuple (dPar qs)) = true) : ps = qs := dParEq (by simpa only [PyData.eqv] using h)
end Cn
namespace Cn
open PySem PySem.Spec PyProof.Rows L2 Ck
def rLenQ (K : PySem.W.Frag) : List V → Hp → VK → Prop := fun xs H Q => ∃ p ys, xs = [.ref p] ∧ (SqL K H p ys ∨ SqT K H p ys) ∧ Q (.int ys.length) H
theorem len_q {X : Cx} : CallR X (.builtin "len") (rLenQ X.K) := call_len_seq
/-- either a list or a tuple, in slot i -/
def iSeq (K : PySem.W.Frag) (i : Nat) : TI := fun σ H R => iList K (tVar i) σ H R ∨ iTup K (tVar i) σ H R
theorem lenZero {n : Nat} : decide (V.int (n : Int) = V.int 0) = decide (n = 0) := by
  rw [Bool.eq_iff_iff, decide_eq_true_iff, decide_eq_true_iff]
  exact ⟨fun z => by have := V.int.inj z; omega, fun z => by rw [z]; rfl⟩
end Cn
namespace Cn
open PySem PySem.Spec PyProof.Rows L2 Ck
/-- a list of tuples of numbers -/
def Rows (H : Hp) (g : Nat → List Nat) (n : Nat) (us : List V) : Prop := us.length = n ∧ ∀ i, i < n → ∃ t, us[i]? = some (.ref t) ∧ TN H t (g i)
theorem rows0 {H : Hp} {g : Nat → List Nat} : Rows H g 0 [] := ⟨rfl, fun i h => absurd h (Nat.not_lt_zero _)⟩
theorem rowsSame {H H' : Hp} {g : Nat → List Nat} {n : Nat} {us : List V} (s : Same H H') (h : Rows H g n us) : Rows H' g n us := ⟨h.1, fun i hi => by
  obtain ⟨t, e, ht⟩ := h.2 i hi
  exact ⟨t, e, s _ _ ht⟩⟩
theorem rowsAdd {H : Hp} {g : Nat → List Nat} {n : Nat} {us : List V} {t : Addr} (h : Rows H g n us) (ht : TN H t (g n)) : Rows H g (n + 1) (us ++ [.ref t]) := by
  refine ⟨by rw [List.length_append, h.1]; rfl, fun i hi => ?_⟩
  by_cases e : i < n
  · obtain ⟨t', e', ht'⟩ := h.2 i e
    exact ⟨t', by rw [List.getElem?_append_left (by rw [h.1]; exact e)]; exact e', ht'⟩
  · have : i = n := by omega
    subst this
    exact ⟨t, by rw [List.getElem?_append_right (by rw [h.1]; exact Nat.le_refl _), h.1, Nat.sub_self]; rfl, ht⟩
/-- what is written at D, elsewhere nothing -/
theorem rowsUpd {H0 H' : Hp} {g : Nat → List Nat} {n : Nat} {us : List V} {D : Addr} {o : HO} {xs : List V} (h : Rows H' g n us) (hD : H' D = some (.lst xs)) : Rows (upd H' D o) g n us := ⟨h.1, fun i hi => by
  obtain ⟨t, e, ht⟩ := h.2 i hi
  have ne : t ≠ D := fun z => by
    have ht : H' t = _ := ht
    rw [z, hD] at ht; cases ht
  refine ⟨t, e, ?_⟩
  show upd H' D o t = _
  rw [upd_ne ne]; exact ht⟩
theorem lvLe {ps : List (Option Nat)} {lv : List Nat} (hp : Ps ps) (hv : Lv ps lv) : ∀ i, i < ps.length → lv.getD i 0 ≤ i + 1 := by
  intro i
  induction i using Nat.strongRecOn with
  | ind i ih =>
    intro hi
    have hil : i < lv.length := by rw [hv.1]; exact hi
    rcases opt_cases hi with h | ⟨p, h⟩
    · have h2 := hv.2 i _ _ (getD_at hil) h
      have e : mostLv lv none = 1 := rfl
      omega
    · have h2 := hv.2 i _ _ (getD_at hil) h
      have e : mostLv lv (some p) = lv.getD p 0 + 1 := rfl
      have hl := hp i p h
      have := ih p hl (Nat.lt_trans hl hi)
      omega
theorem stkLe {ps : List (Option Nat)} {lv : List Nat} {i : Nat} (hp : Ps ps) (hv : Lv ps lv) (hl : ps.length ≤ 60) (hi : i < ps.length) : (stk ps lv i).length ≤ 60 := by
  rw [stk_len hp hv i hi]
  have := lvLe hp hv i hi
  omega
theorem tnAt {H : Hp} {a : Addr} {xs : List V} {ns : List Nat} (h : H a = some (.tup xs)) (e : xs = ns.map vn) : TN H a ns := by
  show H a = some (.tup (ns.map vn))
  rw [← e]; exact h
end Cn
namespace Cn
open PySem PySem.Spec PyProof.Rows L2 Ck
/-! a note, notes as the heap has them -/
def NoteR (H : Hp) (v : V) (p : List Nat × List Nat) : Prop := ∃ t x y, v = .ref t ∧ H t = some (.tup [.ref x, .ref y]) ∧ TN H x p.1 ∧ TN H y p.2
theorem noteSame {H H' : Hp} (s : Same H H') {v : V} {p : List Nat × List Nat} (h : NoteR H v p) : NoteR H' v p := by
  obtain ⟨t, x, y, e, h1, h2, h3⟩ := h
  exact ⟨t, x, y, e, s _ _ h1, s _ _ h2, s _ _ h3⟩
def NotesR (H : Hp) (us : List V) (ps : List (List Nat × List Nat)) : Prop := Paired (NoteR H) us ps
theorem notesSame {H H' : Hp} (s : Same H H') {us : List V} {ps : List (List Nat × List Nat)} (h : NotesR H us ps) : NotesR H' us ps := Paired.mapP h fun _ _ z => noteSame s z
theorem notesUpd {H' : Hp} {D : Addr} {o : HO} {xs us : List V} {ps : List (List Nat × List Nat)} (hD : H' D = some (.lst xs)) (h : NotesR H' us ps) : NotesR (upd H' D o) us ps := Paired.mapP h fun v p z => by
  obtain ⟨t, x, y, e, h1, h2, h3⟩ := z
  have ne : ∀ {a : Addr} {ys : List V}, H' a = some (.tup ys) → upd H' D o a = some (.tup ys) := fun {a ys} e2 => by
    have q : a ≠ D := fun z => by rw [z, hD] at e2; cases e2
    rw [upd_ne q]; exact e2
  exact ⟨t, x, y, e, ne h1, ne h2, ne h3⟩
theorem paired_snoc {α β : Type} {F : α → β → Prop} : ∀ {xs : List α} {ys : List β} {x : α} {y : β}, Paired F xs ys → F x y → Paired F (xs ++ [x]) (ys ++ [y])
  | _, _, _, _, .nil, h => .cons h .nil
  | _, _, _, _, .cons a t, h => .cons a (paired_snoc t h)
end Cn
namespace Cn
open PySem PySem.Spec PyProof.Rows L2 Ck
theorem slS {K : PySem.W.Frag} {H : Hp} {a : Addr} {xs : List V} {lo hi : Option Int} {Q : VK} (ha : SqT K H a xs) (k : ∀ b H', Same H H' → SqT K H' b (cutV xs lo hi) → Q (.ref b) H') : rSlA K (.ref a) lo hi H Q :=
  ⟨a, xs, rfl, ha, fun h => k a H (Same.refl _) (by rw [cutWhole h]; exact ha), fun _ p np => k p _ (smUpd np) (.inl (.inl upd_same))⟩
theorem slSN {K : PySem.W.Frag} {σ : L2.St} {H : Hp} {a : Addr} {xs : List V} {lo : Option Int} {Q : VK} (ha : SqT K H a xs) (k : ∀ b H', Same H H' → SqT K H' b (cutV xs lo none) → Q (.ref b) H') : tNoPart σ H (fun u H3 => rSlA K (.ref a) lo u H3 Q) := slS (hi := none) ha k
theorem cutInit (xs : List V) : cutV xs none (some (-1)) = xs.dropLast := by
  unfold cutV
  rw [HT.sIx_none]
  show (xs.drop 0).take (HT.sIx xs.length xs.length (some (-1)) - 0) = xs.dropLast
  have e : HT.sIx xs.length xs.length (some (-1)) = xs.length - 1 := by
    show (if (-1 : Int) < 0 then ((-1 : Int) + (xs.length : Int)).toNat else min (-1 : Int).toNat xs.length) = xs.length - 1
    rw [if_pos (by decide)]
    omega
  rw [e, List.drop_zero, Nat.sub_zero, List.dropLast_eq_take]
/-! the notes of a plan -/
def heldAt (ps : List (Option Nat)) (lv : List Nat) (i : Nat) : List Nat :=
  match (stk ps lv i).dropLast.getLast? with
  | none => road ps i
  | some x => (road ps i).drop ((road ps i).idxOf x + 1)
def noteAt (ps : List (Option Nat)) (be as lv : List Nat) (i : Nat) : List Nat × List Nat :=
  ((heldAt ps lv i).filter fun x => decide (x ∈ be), as.filter fun j => decide (i ∈ stk ps lv j))
def notesOf (ps : List (Option Nat)) (be as lv : List Nat) (n : Nat) : List (List Nat × List Nat) :=
  ((List.range n).map (noteAt ps be as lv)).filter fun p => !p.1.isEmpty && !p.2.isEmpty
theorem takeLe {α : Type} (xs : List α) (m : Nat) : (xs.take m).length ≤ xs.length := by rw [List.length_take]; omega
theorem heldLen {f : Fo} {lv : List Nat} {i : Nat} (ok : FoOk f) (hi : i < f.ps.length) : (heldAt f.ps lv i).length ≤ 1000 := by
  have h1 := road_len ok.ps i hi
  have h2 := ok.l1
  unfold heldAt
  split
  · omega
  · rw [List.length_drop]; omega
theorem lastDrop {xs : List Nat} (h : xs ≠ []) : xs.getLast? = some (xs.getLast h) := List.getLast?_eq_some_getLast h
end Cn
namespace Cn
open PySem PySem.Spec PyProof.Rows L2 Ck
theorem pairedGet {α β : Type} {F : α → β → Prop} : ∀ {xs : List α} {ys : List β} {i : Nat} {x : α}, Paired F xs ys → xs[i]? = some x → ∃ y, ys[i]? = some y ∧ F x y
  | _, _, i, x, .nil, h => by rw [List.getElem?_nil] at h; cases h
  | _, _, 0, x, .cons a t, h => by cases h; exact ⟨_, rfl, a⟩
  | _, _, i + 1, x, .cons a t, h => by
    rw [List.getElem?_cons_succ] at h
    obtain ⟨y, h1, h2⟩ := pairedGet t h
    exact ⟨y, by rw [List.getElem?_cons_succ]; exact h1, h2⟩
def kept2 (p : List Nat × List Nat) : Bool := !p.1.isEmpty && !p.2.isEmpty
theorem vnEmpty (ns : List Nat) : (ns.map vn).isEmpty = ns.isEmpty := by cases ns <;> rfl
theorem noteUpdN {H' : Hp} {D : Addr} {o : HO} (hD : ∀ ys, H' D ≠ some (.tup ys)) {v : V} {p : List Nat × List Nat} (h : NoteR H' v p) : NoteR (upd H' D o) v p := by
  obtain ⟨t, x, y, e, h1, h2, h3⟩ := h
  have ne : ∀ {a : Addr} {ys : List V}, H' a = some (.tup ys) → upd H' D o a = some (.tup ys) := fun {a ys} e2 => by
    have q : a ≠ D := fun z => hD ys (by rw [← z]; exact e2)
    rw [upd_ne q]
    exact e2
  exact ⟨t, x, y, e, ne h1, ne h2, ne h3⟩
end Cn
namespace Cn
open PySem PySem.Spec PyProof.Rows L2 Ck
/-! the hand, turned -/
def Kept (p : Addr) (H H' : Hp) : Prop := ∀ b o, b ≠ p → H b = some o → H' b = some o
theorem kept_same {p : Addr} {H H' : Hp} (h : Same H H') : Kept p H H' := fun b o _ e => h b o e
theorem kept_trans {p : Addr} {H H1 H2 : Hp} (h : Kept p H H1) (k : Kept p H1 H2) : Kept p H H2 := fun b o ne e => k b o ne (h b o ne e)
theorem kept_hand {p : Addr} {H : Hp} {o : HO} : Kept p H (upd H p o) := fun b u ne e => by rw [upd_ne ne]; exact e
theorem kept_over {p D : Addr} {H1 H4 : Hp} {o : HO} (nD : H1 D = none) (k : Kept p H1 H4) : Kept p H1 (upd H4 D o) := fun b u ne e => by
  have nb : b ≠ D := fun z => by rw [z, nD] at e; cases e
  rw [upd_ne nb]
  exact k b u ne e
theorem handIn_upd {H : Hp} {p c : Addr} {cells : List Int} (h : HandIn H p c cells) {i g m t : Int} (hi : 0 ≤ i) : HandIn (upd H p (handL c i g m t)) p c cells :=
  ⟨⟨i, g, m, t, upd_same, hi⟩, by rw [upd_ne h.ne.symm]; exact h.ce, h.ne⟩
theorem handIn_keep {H H' : Hp} {p c : Addr} {cells : List Int} (h : HandIn H p c cells) (k : Same H H') : HandIn H' p c cells := by
  obtain ⟨⟨i, g, m, t, hp, hi⟩, hc, ne⟩ := h
  exact ⟨⟨i, g, m, t, k _ _ hp, hi⟩, k _ _ hc, ne⟩
/-- written at D, which is neither the hand nor its cells -/
theorem handIn_write {H0 H : Hp} {p c D : Addr} {cells cells0 : List Int} {o : HO} (h0 : HandIn H0 p c cells0) (nD : H0 D = none) (h : HandIn H p c cells) : HandIn (upd H D o) p c cells := by
  obtain ⟨⟨i, g, m, t, hp, hi⟩, hc, ne⟩ := h
  have n1 : p ≠ D := fun z => by
    obtain ⟨_, _, _, _, e, _⟩ := h0.ob
    rw [z, nD] at e; cases e
  have n2 : c ≠ D := fun z => by
    have e := h0.ce
    rw [z, nD] at e; cases e
  exact ⟨⟨i, g, m, t, by rw [upd_ne n1]; exact hp, hi⟩, by rw [upd_ne n2]; exact hc, ne⟩
theorem hand_ne {H : Hp} {p c a : Addr} {cells : List Int} (h : HandIn H p c cells) (na : H a = none) : a ≠ p := fun z => by
  obtain ⟨_, _, _, _, e, _⟩ := h.ob
  rw [← z, na] at e; cases e
/-- what is no list is not the hand -/
theorem tup_ne {H : Hp} {p c a : Addr} {cells : List Int} {xs : List V} (h : HandIn H p c cells) (ha : H a = some (.tup xs)) : a ≠ p := fun z => by
  obtain ⟨_, _, _, _, e, _⟩ := h.ob
  rw [← z, ha] at e; cases e
theorem atMem {xs : List V} {d : Int} (h0 : 0 ≤ d) (h1 : d < (xs.length : Int)) : ∃ v, atI xs d = some v ∧ v ∈ xs := by
  obtain ⟨n, rfl⟩ := Int.eq_ofNat_of_zero_le h0
  have hn : n < xs.length := by omega
  exact ⟨xs[n], atI_nat (List.getElem?_eq_getElem hn), List.getElem_mem hn⟩
theorem glCons {R : V → Prop} {x : V} {xs : List V} (h : R x) (t : ∀ v ∈ xs, R v) : ∀ v ∈ x :: xs, R v := fun v hm => by
  rcases List.mem_cons.mp hm with e | hm
  · rw [e]; exact h
  · exact t v hm
theorem glNil {R : V → Prop} : ∀ v ∈ ([] : List V), R v := fun v hm => by cases hm
section
variable {P : Program} {w : World} {K : PySem.W.Frag} {mg : Str → Option Value} {base : Heap} {C : Addr}
theorem nOf (B : Defs K mg C) : NamT mg := B.N
theorem dDraw (B : Defs K mg C) : Def P w K mg base "_law_draw" 1 ["_law_hand_here", "_law_many"] spDraw := def_of B.dr fun f fd F => ok_draw F (nOf B).int (nOf B).is.len
end
end Cn
namespace Cn
open PySem PySem.Spec PyProof.Rows L2 Ck
section
variable {P : Program} {w : World} {K : PySem.W.Frag} {mg : Str → Option Value} {base : Heap} {C : Addr}
/-! the law's own road -/
def spRoad : Sp := fun vs H Q _ => ∃ (b : Addr) (ps : List (Option Nat)) (i : Nat), vs = [.ref b, vn i] ∧ TP H b ps ∧ Ps ps ∧ ps.length ≤ 60 ∧ i < ps.length ∧ ∀ r H', Same H H' → TN H' r (road ps i) → Q (.ref r) H'
def nRoad : List Str := ["_law_parents", "_law_place", "_law_found"]
theorem scRoad : FnScope nRoad ["_law_parents", "_law_place"] (defScope sRoad) := ⟨rfl, rfl, rfl, by decide +kernel, rfl, by decide +kernel, by decide +kernel⟩
def measR : L2.St → Hp → Nat := fun σ H => match σ[2]? with
  | some (some (V.ref D)) => (match H D with
    | some (.lst (V.int n :: _)) => n.toNat
    | _ => 0)
  | _ => 0
theorem dRoad (B : Defs K mg C) : Def P w K mg base "_law_road" 1 ["_law_parents", "_law_place"] spRoad := by
  have N := nOf B
  refine def_of B.ro fun f fd F => ?_
  refine F.ok scRoad (fun vs H Q E h => ?_) (fun cdv A outer s H vs Q E hr h => ?_)
  · obtain ⟨b, ps, i, rfl, _⟩ := h
    rfl
  · obtain ⟨b, ps, i, rfl, hb, hp, h60, hi, k⟩ := h
    refine ⟨_, pss_cons (ps_set (i := 2) scRoad.nd rfl (Or.inl rfl) (pe_lst (pa_cons (pv 1) pa_nil)))
      (pss_cons (ps_while PassesOwn.never (pt_cmpR op_notN (pe_ix ix_tup (pv 0) (pe_ix ix_list (pv 2) pe_int (fun _ _ => rfl)) (fun _ _ => rfl)) pe_non (nomark _))
        (pss_one (ps_set (i := 2) scRoad.nd rfl (Or.inl rfl) (pe_op op_cat (pe_lst (pa_cons (pe_ix ix_tup (pv 0) (pe_ix ix_list (pv 2) pe_int (fun _ _ => rfl)) (fun _ _ => rfl)) pa_nil)) (pv 2)))))
      (pss_one (ps_ret (pe_callTy call_tuple_of (by rfl) N.is.tup (by decide +kernel) (pa_cons (pv 2) pa_nil))))), ?_⟩
    refine ⟨_, rfl, by show 1 ≤ sizeLine; decide, fun D nD => ?_⟩
    refine while_by (fun σ H' => ∃ (D : Addr) (x : Nat) (rest : List Nat), σ = [some (.ref b), some (vn i), some (.ref D)] ∧ Same H H' ∧ H' D = some (.lst ((x :: rest).map vn)) ∧ x < ps.length ∧ road ps i = road ps x ++ rest) measR ⟨D, i, [], rfl, smUpd nD, upd_same, hi, (List.append_nil _).symm⟩ ?_ ?_
    · rintro σ H1 ⟨D, x, rest, rfl, sm, hD, hx, hr1⟩
      have hb1 := sm _ _ hb
      obtain ⟨q, hq⟩ := ps_at hx
      refine ⟨_, rfl, _, rfl, D, _, (0 : Int), _, rfl, rfl, .inl (.inl hD), vn_ix (i := 0) (ns := x :: rest) rfl, b, _, (x : Int), _, rfl, rfl, tpL hb1, vp_ix hq, rfl, _, rfl, ?_⟩
      cases q with
      | none =>
        refine ifF (by decide) ?_
        refine ⟨_, rfl, D, _, rfl, .inl ⟨.inl (.inl hD), fun r nr => ?_⟩⟩
        refine k r _ (sm.trans (smUpd nr)) ?_
        rw [hr1, road_none hq]
        exact upd_same
      | some p =>
        refine ifT (by rw [vp_ne]; rfl) ?_
        have hpx := hp x p hq
        refine ⟨_, rfl, _, rfl, D, _, (0 : Int), _, rfl, rfl, .inl (.inl hD), vn_ix (i := 0) (ns := x :: rest) rfl, b, _, (x : Int), _, rfl, rfl, tpL hb1, vp_ix hq, by show 1 ≤ sizeLine; decide, fun l nl => ?_⟩
        have S2 := smUpd (o := .lst [vp (some p)]) nl
        have hl2 : upd H1 l (.lst [vp (some p)]) l = some (.lst [vp (some p)]) := upd_same
        generalize upd H1 l (.lst [vp (some p)]) = H2 at S2 hl2 ⊢
        have hlen := road_len hp i hi
        have hxl := List.length_pos_iff.mpr (road_ne hp hx)
        rw [hr1, List.length_append] at hlen
        refine ⟨_, rfl, l, D, _, _, rfl, rfl, hl2, S2 _ _ hD, Nat.le_of_lt (small1000 (by rw [List.length_map]; show 1 + (rest.length + 1) ≤ 1000; omega)), fun e ne => ?_⟩
        refine ⟨⟨e, p, x :: rest, rfl, sm.trans (S2.trans (smUpd ne)), upd_same, Nat.lt_trans hpx hx, ?_⟩, ?_⟩
        · rw [hr1, road_some hp hq, List.append_assoc]; rfl
        · have m1 : measR [some (.ref b), some (vn i), some (.ref D)] H1 = x := by
            show (match H1 D with | some (.lst (V.int n :: _)) => n.toNat | _ => 0) = x
            rw [hD]
            exact Int.toNat_natCast x
          have m2 : measR [some (.ref b), some (vn i), some (.ref e)] (upd H2 e (.lst ([vp (some p)] ++ (x :: rest).map vn))) = p := by
            show (match upd H2 e (.lst ([vp (some p)] ++ (x :: rest).map vn)) e with | some (.lst (V.int n :: _)) => n.toNat | _ => 0) = p
            rw [upd_same]
            exact Int.toNat_natCast p
          show measR [some (.ref b), some (vn i), some (.ref e)] (upd H2 e (.lst ([vp (some p)] ++ (x :: rest).map vn))) < measR [some (.ref b), some (vn i), some (.ref D)] H1
          rw [m1, m2]
          exact hpx
    · rintro σ H' Q1 Q2 hq ⟨v, hv, u, hu, l, ys, j, z, e1, e2, e3, e4, p, xs, i, y, f1, f2, f3, f4, e5, kk, hk, qq⟩
      exact ⟨v, hv, u, hu, l, ys, j, z, e1, e2, e3, e4, p, xs, i, y, f1, f2, f3, f4, e5, kk, hk, hq _ _ qq⟩
end
end Cn
namespace Cn
open PySem PySem.Spec PyProof.Rows L2 Ck
/-! alike -/
theorem eqN {H : Hp} {a b : Addr} {ns : List Nat} (ha : TN H a ns) (hb : TN H b ns) (hl : ns.length ≤ 1000) : EqG H 1 (.ref a) (.ref b) :=
  .inr ⟨a, b, _, _, rfl, rfl, .inr ⟨ha, hb⟩, by rw [List.length_map]; exact Nat.le_trans hl (by decide), pairedSelf fun x hx => by
    obtain ⟨n, _, rfl⟩ := List.mem_map.mp hx
    exact ⟨rfl, .inl rfl⟩⟩
theorem eqL {H : Hp} {a b : Addr} {ns : List Nat} (ha : H a = some (.lst (ns.map vn))) (hb : H b = some (.lst (ns.map vn))) (hl : ns.length ≤ 1000) : EqG H 1 (.ref a) (.ref b) :=
  .inr ⟨a, b, _, _, rfl, rfl, .inl ⟨ha, hb⟩, by rw [List.length_map]; exact Nat.le_trans hl (by decide), pairedSelf fun x hx => by
    obtain ⟨n, _, rfl⟩ := List.mem_map.mp hx
    exact ⟨rfl, .inl rfl⟩⟩
theorem eqNote {H : Hp} {v u : V} {p : List Nat × List Nat} (h1 : p.1.length ≤ 1000) (h2 : p.2.length ≤ 1000) (hv : NoteR H v p) (hu : NoteR H u p) : EqG H 2 v u := by
  obtain ⟨t, x, y, rfl, e1, e2, e3⟩ := hv
  obtain ⟨t', x', y', rfl, f1, f2, f3⟩ := hu
  exact .inr ⟨t, t', _, _, rfl, rfl, .inr ⟨e1, f1⟩, by show 2 ≤ 4000; decide, .cons (eqN e2 f2 h1) (.cons (eqN e3 f3 h2) .nil)⟩
theorem eqNotes {H : Hp} : ∀ {us ws : List V} {ps : List (List Nat × List Nat)}, (∀ p ∈ ps, p.1.length ≤ 1000 ∧ p.2.length ≤ 1000) → NotesR H us ps → NotesR H ws ps → Paired (EqG H 2) us ws
  | _, _, _, _, .nil, .nil => .nil
  | _, _, _, b, .cons h1 t1, .cons h2 t2 => .cons (eqNote (b _ List.mem_cons_self).1 (b _ List.mem_cons_self).2 h1 h2) (eqNotes (fun p hp => b p (List.mem_cons_of_mem _ hp)) t1 t2)
section
variable {P : Program} {w : World} {K : PySem.W.Frag} {mg : Str → Option Value} {base : Heap} {C : Addr}
theorem dIs (B : Defs K mg C) : Def P w K mg base "_law_is" 6 ["_law_told", "_law_due"] (spJ 4) := by
  obtain ⟨f, fd, D⟩ := B.is
  exact ⟨f, fd, ok_is D.F (nOf B).is D.g D.b 4, D.g, D.F.kp, D.b⟩
end
end Cn
namespace Cn
open PySem PySem.Spec PyProof.Rows L2 Ck
def dwn (ps : List (Option Nat)) (i n : Nat) : List Nat := (List.range n).filter fun j => decide (i ∈ road ps j)
theorem dwn_mem {ps : List (Option Nat)} {i n j : Nat} : j ∈ dwn ps i n ↔ j < n ∧ i ∈ road ps j := by
  unfold dwn
  rw [List.mem_filter, List.mem_range, decide_eq_true_iff]
theorem dwn_len {ps : List (Option Nat)} {i n : Nat} : (dwn ps i n).length ≤ n := by
  have := List.length_filter_le (fun j => decide (i ∈ road ps j)) (List.range n)
  rw [List.length_range] at this
  exact this
theorem dwn_succ {ps : List (Option Nat)} {i j : Nat} : dwn ps i (j + 1) = dwn ps i j ++ if i ∈ road ps j then [j] else [] := by
  unfold dwn
  rw [List.range_succ, List.filter_append]
  by_cases c : i ∈ road ps j
  · rw [if_pos c, List.filter_cons_of_pos (by simpa using c)]; rfl
  · rw [if_neg c, List.filter_cons_of_neg (by simpa using c)]; rfl
theorem dwn_before {ps : List (Option Nat)} {i : Nat} (hp : Ps ps) (hi : i < ps.length) : ∀ j, j ≤ i → dwn ps i j = [] := by
  intro j
  induction j with
  | zero => intro _; rfl
  | succ j ih =>
    intro h
    rw [dwn_succ, ih (by omega), if_neg (fun z => by have := road_le hp j (by omega) i z; omega)]
    rfl
theorem dwn_start {ps : List (Option Nat)} {i : Nat} (hp : Ps ps) (hi : i < ps.length) : dwn ps i (i + 1) = [i] := by
  rw [dwn_succ, dwn_before hp hi i (Nat.le_refl _), if_pos (road_self hp hi)]
  rfl
theorem dwn_step {ps : List (Option Nat)} {i j : Nat} {q : Option Nat} (hp : Ps ps) (hij : i < j) (hj : j < ps.length) (h : ps[j]? = some q) : (i ∈ road ps j) ↔ ∃ p, q = some p ∧ p ∈ dwn ps i j := by
  cases q with
  | none =>
    rw [road_none h]
    constructor
    · intro z; have := List.mem_singleton.mp z; omega
    · rintro ⟨p, z, _⟩; cases z
  | some p =>
    rw [road_some hp h, List.mem_append, List.mem_singleton]
    constructor
    · rintro (z | z)
      · exact ⟨p, rfl, dwn_mem.mpr ⟨hp j p h, z⟩⟩
      · omega
    · rintro ⟨p', z, m⟩
      cases z
      exact .inl (dwn_mem.mp m).2
theorem inV_vp {ns : List Nat} {q : Option Nat} : inV (vp q) (ns.map vn) = decide (∃ p, q = some p ∧ p ∈ ns) := by
  cases q with
  | some p =>
    show inV (vn p) (ns.map vn) = _
    rw [inV_vn]
    by_cases c : p ∈ ns
    · rw [decide_eq_true c, decide_eq_true ⟨p, rfl, c⟩]
    · rw [decide_eq_false c, decide_eq_false (fun ⟨p', z, m⟩ => by cases z; exact c m)]
  | none =>
    rw [decide_eq_false (fun ⟨p', z, m⟩ => by cases z)]
    induction ns with
    | nil => rfl
    | cons n ns ih => exact ih
theorem vp_flat (q : Option Nat) : flatV (vp q) = true := by cases q <;> rfl
def pairsOf (ps : List (Option Nat)) (be as : List Nat) : List (Nat × Nat) := be.flatMap fun i => (as.filter fun j => decide (i ∈ road ps j)).map (Prod.mk i)
def PairR (H : Hp) (v : V) (p : Nat × Nat) : Prop := ∃ t, v = .ref t ∧ H t = some (.tup [vn p.1, vn p.2])
def PairsR (H : Hp) (us : List V) (ps : List (Nat × Nat)) : Prop := Paired (PairR H) us ps
theorem pairSame {H H' : Hp} (s : Same H H') {v : V} {p : Nat × Nat} (h : PairR H v p) : PairR H' v p := by
  obtain ⟨t, e, h1⟩ := h
  exact ⟨t, e, s _ _ h1⟩
theorem pairsSame {H H' : Hp} (s : Same H H') {us : List V} {ps : List (Nat × Nat)} (h : PairsR H us ps) : PairsR H' us ps := Paired.mapP h fun _ _ z => pairSame s z
theorem pairsUpd {H' : Hp} {D : Addr} {o : HO} {xs us : List V} {ps : List (Nat × Nat)} (hD : H' D = some (.lst xs)) (h : PairsR H' us ps) : PairsR (upd H' D o) us ps := Paired.mapP h fun v p z => by
  obtain ⟨t, e, h1⟩ := z
  have q : t ≠ D := fun z => by rw [z, hD] at h1; cases h1
  exact ⟨t, e, by rw [upd_ne q]; exact h1⟩
theorem pairedSnoc {α β : Type} {F : α → β → Prop} : ∀ {xs : List α} {ys : List β} {x : α} {y : β}, Paired F xs ys → F x y → Paired F (xs ++ [x]) (ys ++ [y])
  | _, _, _, _, .nil, h => .cons h .nil
  | _, _, _, _, .cons a t, h => .cons a (pairedSnoc t h)
theorem pairedApp {α β : Type} {F : α → β → Prop} : ∀ {xs xs' : List α} {ys ys' : List β}, Paired F xs ys → Paired F xs' ys' → Paired F (xs ++ xs') (ys ++ ys')
  | _, _, _, _, .nil, h => h
  | _, _, _, _, .cons a t, h => .cons a (pairedApp t h)
theorem pairsOf_len {ps : List (Option Nat)} {as : List Nat} : ∀ {be : List Nat}, (pairsOf ps be as).length ≤ be.length * as.length
  | [] => Nat.zero_le _
  | i :: be => by
    have h := pairsOf_len (ps := ps) (as := as) (be := be)
    show (((as.filter fun j => decide (i ∈ road ps j)).map (Prod.mk i)) ++ pairsOf ps be as).length ≤ (be.length + 1) * as.length
    rw [List.length_append, List.length_map, Nat.add_mul, Nat.one_mul]
    have := List.length_filter_le (fun j => decide (i ∈ road ps j)) as
    omega
theorem pairsOf_snoc {ps : List (Option Nat)} {be as : List Nat} {i : Nat} : pairsOf ps (be ++ [i]) as = pairsOf ps be as ++ (as.filter fun j => decide (i ∈ road ps j)).map (Prod.mk i) := by
  unfold pairsOf
  rw [List.flatMap_append, List.flatMap_singleton]
theorem pairs3600 {f : Fo} (ok : FoOk f) : (pairsOf f.ps f.be f.as).length ≤ 3600 := by
  have h := pairsOf_len (ps := f.ps) (as := f.as) (be := f.be)
  have h1 := lotLen ok.be ok.bl
  have h2 := lotLen ok.as ok.al
  have h3 := ok.l1
  exact Nat.le_trans h (Nat.mul_le_mul (Nat.le_trans h1 h3) (Nat.le_trans h2 h3))
section
variable {P : Program} {w : World} {K : PySem.W.Frag} {mg : Str → Option Value} {base : Heap} {C : Addr}
end
end Cn
namespace Cn
open PySem PySem.Spec PyProof.Rows L2 Ck
section
variable {P : Program} {w : World} {K : PySem.W.Frag} {mg : Str → Option Value} {base : Heap} {C : Addr}
end
end Cn
namespace Cn
open PySem PySem.Spec PyProof.Rows L2 Ck
/-! a dict made by a comprehension, its keys of any kind that a dict of the hand layer has (o0: the empty dict of that kind) -/
section
variable {X : Cx}
/-- stored by the comprehension -/
theorem putIn {pins : List (Addr × Obj)} {σ : L2.St} {H H' : Hp} {s : Shared} {E : Value → Shared → Prop} {D : Addr} {y z : V} {u r : Value} {Q : Unit → Shared → Prop} (hu : X.A.units + 1 < cLine) (I : Inv X pins σ H s) (put : DPut H D y z H') (ry : RelV y u) (rz : RelV z r) (k : ∀ s', Inv X pins σ H' s' → Q () s') : wpAny (model X.prog X.w) X.A (dictSet D u r) Q E s := by
  rcases put with ⟨kvs, q, hD, rfl, hl, rfl⟩ | ⟨kvs, q, b, hD, rfl, hb, hl, rfl⟩
  · exact L2.d_dictSet I hD hl ry rz k
  · cases (show u = Value.ref b from ry)
    obtain ⟨c1, c2, xs, rel, dd⟩ := dt_of I.hok hD
    have c3 : xs.length ≤ sizeLine := Paired.length rel ▸ c1
    have c4 : (putK kvs q z).length ≤ sizeLine := Nat.le_trans (length_putK kvs q z) hl
    refine wpAny_dictSet_heap (hsz := c3) (Nat.lt_of_succ_lt hu) (key_of I.hok hb) dd (fun g ⟨o, es, ep, e1, e2, e3, e4, _, e5⟩ same => k _ ?_)
    have kept : ∀ (c : Addr) (ys : List V), H c = some (.tup ys) → upd H D (.dT (putK kvs q z)) c = some (.tup ys) := fun c ys hc => (upd_ne (L2.ne_of hc hD nofun)).trans hc
    exact d_write I (hD ▸ True.intro) same ⟨o, e1⟩ ⟨c4, c2, _, (rel.put q hb rz).keeps fun c ys hc => kept c ys hc, o, es, ep, e1, e2, e3, e4, e5⟩
/-- a turn's word and the walk's, as for a list -/
def tDcP (o0 : HO) (wi : TI) (g : TG) (tt : TT) (tk tv : TE) (vs : List Nat) : TE := fun σ H Q => wi σ H fun J H1 => ∀ D, H1 D = none → ∃ W : Nat → Nat → Hp → Prop, (∃ m, W 0 m (upd H1 D o0)) ∧ ∀ i m G, W i m G → (J.stop i G ∧ Q (.ref D) G) ∨
  (J.go i G ∧ ∃ Nx : Hp → Prop, (∀ G', Nx G' → ∃ m', m' < m ∧ W (i + 1) m' G') ∧ ∀ x G', J.yld i G x G' → g x (wipe σ vs) G' fun τ G2 => wipe τ vs = wipe σ vs ∧ tt τ G2 fun b G3 => if b = true then tk τ G3 fun y G4 => tv τ G4 fun z G5 => ∃ G6, DPut G5 D y z G6 ∧ Nx G6 else Nx G3)
theorem dcP_core {pins : List (Addr × Obj)} {s : Shared} {σ : L2.St} {H : Hp} {Q : VK} {o0 : HO} {kx vx tg iter : Expr} {ifs : List Expr} {sc : Scope} {own : List (Str × Nat)} {pos ipos : Pos} {wi : TI} {g : TG} {tt : TT} {tk tv : TE} {use : Option (Value → Sem Unit)} {Qf : Value → Shared → Prop} (I : Inv X pins σ H s) (h0 : o0 = .dK [] ∨ o0 = .dT []) (hc : X.calm = true) (hu : X.A.units + 1 < cLine) (hN : X.N.Nodup) (hi : PI X tg iter wi) (ok : BlkOk X.N X.env.scope sc own)
    (hg : ∀ s H C cl fp, PG (X.blk s H sc (compEnvC sc cl C X.env) fp) tg g) (ht : ∀ s H C cl fp, PTs (X.blk s H sc (compEnvC sc cl C X.env) fp) ifs tt) (hk : ∀ s H C cl fp, PE (X.blk s H sc (compEnvC sc cl C X.env) fp) kx tk) (hv : ∀ s H C cl fp, PE (X.blk s H sc (compEnvC sc cl C X.env) fp) vx tv)
    (hs : ∀ x, foldedSetIterable iter X.env x = pure x) (hw : tDcP o0 wi g tt tk tv (own.map (·.2)) σ H Q)
    (last : ∀ D C t m G, Inv X pins σ G t → Q (.ref D) G → t.heap.Ns C m → FpOk X pins G C → compPost (model X.prog X.w) X.A X.xe use Qf (.ref D) C (.ok .next) t) :
    wpAny (model X.prog X.w) X.A (comprehension (.DictComp kx vx [⟨tg, iter, ifs, 0⟩] sc pos) sc X.env ipos newDict false (eval iter X.env) use) Qf X.xe s := by
  have cells : ∀ y ∈ sc.names, y.2 = .free → ∃ c, X.env.cells.lookup y.1 = some c := fun y hy e => (ok.free y hy e).elim (fun z => I.ok.has _ (.inl z)) (fun z => I.ok.has _ (.inr z))
  refine wpAny_comprehension_free (use := use) rfl hs (closure_ok cells) ok.kind (fun y hy e => (ok.uniq y hy).trans (congrArg some e)) ?_
  refine thn (hi.run pins s σ H _ I hw) fun _ sa wa => thn wa fun _ sb ⟨it, fp, tn, J, Ha, e, Ia, T, stA, okA, qq⟩ => ?_
  subst e
  refine wpAny_newObj_type (newEnv_comp ?_)
  obtain ⟨D, hD⟩ : ∃ D, sb.heap.objs.size = D := ⟨_, rfl⟩
  have fresh : Ha D = none := Ia.hok.fresh (Nat.le_of_eq hD)
  obtain ⟨W, ⟨m0, w0⟩, turn⟩ := qq D fresh
  obtain ⟨sd, ed⟩ : ∃ sd : Shared, ({ sb with heap := sb.heap.push { cls := .type "dict", data := .dict #[] } } : Shared) = sd := ⟨_, rfl⟩
  have heq : sd.heap = sb.heap.push { cls := .type "dict", data := .dict #[] } := ed ▸ rfl
  have Ib : Inv X pins σ (upd Ha D o0) sd := by
    subst ed hD
    refine Ia.laid (t' := sb.toks) (fun b o e => Heap.get?_push_of_some _ e) (Nat.le_refl _) ?_
    rcases h0 with rfl | rfl
    · exact dk_empty sb.heap Ia.big
    · exact dt_empty sb.heap Ia.big
  have below : ∀ b ∈ fp, b < sb.heap.objs.size := fun b hb => let ⟨_, e, _⟩ := T.obj _ _ stA b hb; Heap.lt_size e
  have okB : ∀ b ∈ fp, FpOk X pins (upd Ha D o0) b ∧ b < sd.heap.objs.size := fun b hb => by
    have lt := below b hb
    exact ⟨⟨(upd_ne (hD ▸ Nat.ne_of_lt lt)).trans (okA b hb).1, (okA b hb).2⟩, by rw [heq, Heap.size_push]; exact Nat.lt_succ_of_lt lt⟩
  have stB : tn 0 sd.heap := T.keep _ _ _ stA fun b _ o e => heq ▸ Heap.get?_push_of_some _ e
  have Ic := block_start Ib ok hN okB
  obtain ⟨C, hC⟩ : ∃ C, sd.heap.objs.size = C := ⟨_, rfl⟩
  rw [hC] at Ic
  obtain ⟨cl, hcl⟩ : ∃ cl, cellsFrom (C + 1) sc.names (cloFrom X.env.cells sc.names []) = cl := ⟨_, rfl⟩
  rw [hcl] at Ic
  obtain ⟨G, hG⟩ : ∃ G, upd Ha D o0 = G := ⟨_, rfl⟩
  rw [hG] at Ib Ic okB w0
  have rg := hg sd G C cl fp
  have rt := ht sd G C cl fp
  have rk := hk sd G C cl fp
  have rv := hv sd G C cl fp
  obtain ⟨ce, hce⟩ : ∃ ce, compEnvC sc cl C X.env = ce := ⟨_, rfl⟩
  have ceL : ce.locals = C := hce ▸ rfl
  rw [hce] at Ic rg rt rk rv
  obtain ⟨se, hse⟩ : ∃ se : Shared, ({ sd with heap := pushCells (sd.heap.push { cls := .type "dict", data := .dict #[] }) sc.names } : Shared) = se := ⟨_, rfl⟩
  rw [hse] at Ic
  have stC : tn 0 se.heap := T.keep _ _ _ stB fun b _ o e => hse ▸ pushCells_keeps _ _ _ _ (Heap.get?_push_of_some _ e)
  have none0 : ∀ b ∈ fp, G b = none := fun b hb => (okB b hb).1.1
  have looks : ∀ {σ' : L2.St} {H' : Hp} {s' : Shared}, Inv (X.blk sd G sc ce fp) [] σ' H' s' → (∀ b ∈ fp, H' b = none) → ∀ b ∈ fp, FpOk (X.blk sd G sc ce fp) [] H' b := fun I' z b hb =>
    ⟨z b hb, (I'.ok.exf b hb).1, I'.ok.exfs b hb, .inl hb, fun x c e => (I'.ok.exf b hb).2 x c e, fun p hp => nomatch (show p ∈ ([] : List (Addr × Obj)) from hp)⟩
  have whole : codeAny (model X.prog X.w) X.A (.compLoop (.DictComp kx vx [⟨tg, iter, ifs, 0⟩] sc pos) 0 (.ref it) (.ref D) ce) (compPost (model X.prog X.w) X.A X.xe use Qf (.ref D) C) se := by
    refine compLoop_anyD (fun n s' => ∃ i H', Inv (X.blk sd G sc ce fp) [] (wipe σ (own.map (·.2))) H' s' ∧ tn i s'.heap ∧ (∀ b ∈ fp, H' b = none) ∧ W i n H') ?_ m0 ⟨0, G, Ic, stC, none0, w0⟩
    rintro n t ⟨i, Ht, It, stT, noneT, wT⟩
    rcases turn i n Ht wT with ⟨stop, out⟩ | ⟨go, Nx, less, step⟩
    · refine thnF (T.done (X.blk sd G sc ce fp) rfl rfl rfl hc i [] t _ Ht (fun _ _ => False) It (looks It noneT) stT stop) fun r t' ⟨hr, Iu⟩ => ?_
      subst hr
      have back : Inv X pins σ Ht t' := Ib.call' (ch := fp) Iu.os Iu.base Iu.hok Iu.bare fun b hb => let z := (okB b hb).1.2; ⟨z.2.2.1, z.1, z.2.2.2.1, z.2.2.2.2⟩
      have gone : Ht C = none := ceL ▸ Iu.free
      obtain ⟨m, hm, _⟩ := Iu.loc
      have hm : t'.heap.Ns C m := ceL ▸ hm
      exact last D C t' m Ht back out hm (Ib.fpOk (Nat.le_of_eq hC) gone)
    · refine thnF (T.item (X.blk sd G sc ce fp) rfl rfl rfl hc i [] t _ Ht (fun _ _ => False) It (looks It noneT) stT go) fun r t1 ⟨u, hr, hh⟩ => ?_
      subst hr
      refine thnF hh fun _ t2 ⟨x, Hu, Iu, rx, yx, stU, noneU⟩ => ?_
      have Iw := Iu.pinned (looks Iu noneU) (T.obj _ _ stU)
      refine thnF (rg.run _ t2 _ Hu x u _ Iw rx (step x Hu yx)) fun _ t3 ⟨τ, Hv, Iv, wip, qv⟩ => ?_
      refine thnF (rt.run _ t3 τ Hv _ Iv qv) fun b t4 ⟨Hw, Ix, qw⟩ => ?_
      have onward : ∀ (t' : Shared) (H' : Hp), Inv (X.blk sd G sc ce fp) ([] ++ pinsAt fp t2.heap) τ H' t' → Nx H' → ∃ m, m < n ∧ ∃ i H', Inv (X.blk sd G sc ce fp) [] (wipe σ (own.map (·.2))) H' t' ∧ tn i t'.heap ∧ (∀ b ∈ fp, H' b = none) ∧ W i m H' := by
        intro t' H' I' nx
        obtain ⟨m, lt, wm⟩ := less H' nx
        have held : ∀ b ∈ fp, ∀ o, t2.heap.get? b = some o → t'.heap.get? b = some o ∧ H' b = none := fun b hb o e =>
          have z := I'.pin (b, o) (List.mem_append_right _ (List.mem_append_right _ (mem_pinsAt hb e)))
          ⟨z.1, z.2.1⟩
        refine ⟨m, lt, i + 1, H', (I'.unpinned (pins := [])).weak (by rw [← wip, wipe_length]) (fun j v e => (wipe_some (wip ▸ e : (wipe τ (own.map (·.2)))[j]? = some (some v))).1), T.keep _ _ _ stU fun b hb o e => (held b hb o e).1, fun b hb => ?_, wm⟩
        exact let ⟨o, e, _⟩ := T.obj _ _ stU b hb; (held b hb o e).2
      cases b with
      | false =>
        rw [if_neg Bool.false_ne_true] at qw
        rw [if_neg Bool.false_ne_true]
        exact onward t4 Hw Ix qw
      | true =>
        rw [if_pos rfl] at qw
        rw [if_pos rfl]
        refine thnF (rk.run _ t4 τ Hw _ Ix qw) fun z1 t5 ⟨y, Hy, Iy, ry, qy⟩ => ?_
        refine thnF (rv.run _ t5 τ Hy _ Iy qy) fun z2 t6 ⟨z, Hz, Iz, rz, He, put, nx⟩ => ?_
        exact putIn (X := X.blk sd G sc ce fp) hu Iz put ry rz fun t7 I7 => onward t7 He I7 nx
  have start := codeAny_compStart_dict whole (T.self X.A 0 _ _ _ stC whole)
  rw [← hC] at hcl
  subst hcl hce ed hse
  show codeAny _ _ _ _ _
  rw [hC] at start ⊢
  exact hD ▸ start
/-- as a value -/
theorem pe_dcP {o0 : HO} {kx vx tg iter : Expr} {ifs : List Expr} {sc : Scope} {own : List (Str × Nat)} {pos : Pos} {wi : TI} {g : TG} {tt : TT} {tk tv : TE} (h0 : o0 = .dK [] ∨ o0 = .dT []) (hc : X.calm = true) (hu : X.A.units + 1 < cLine) (hN : X.N.Nodup) (hi : PI X tg iter wi) (ok : BlkOk X.N X.env.scope sc own)
    (hg : ∀ s H C cl fp, PG (X.blk s H sc (compEnvC sc cl C X.env) fp) tg g) (ht : ∀ s H C cl fp, PTs (X.blk s H sc (compEnvC sc cl C X.env) fp) ifs tt) (hk : ∀ s H C cl fp, PE (X.blk s H sc (compEnvC sc cl C X.env) fp) kx tk) (hv : ∀ s H C cl fp, PE (X.blk s H sc (compEnvC sc cl C X.env) fp) vx tv)
    (hs : ∀ x, foldedSetIterable iter X.env x = pure x := by intro _; rfl) : PE X (.DictComp kx vx [⟨tg, iter, ifs, 0⟩] sc pos) (tDcP o0 wi g tt tk tv (own.map (·.2))) := by
  refine ⟨fun pins s σ H Q I hw => ?_⟩
  rw [arm_eval_DictComp]
  refine dcP_core I h0 hc hu hN hi ok hg ht hk hv hs hw fun D C t m G It q hm ⟨f0, f1, _, f3, f4, f5⟩ => ⟨m, hm, fun g' same => ?_⟩
  exact ⟨.ref D, G, It.turned (t' := t.toks) (fun b o hb e => (same.2 b hb).trans e) f0 f1 f3 f4 f5, rfl, q⟩
/-- stored under a name on its own row -/
theorem ps_setDcP {i : Nat} {y : Str} {py spos : Pos} {o0 : HO} {kx vx tg iter : Expr} {ifs : List Expr} {sc : Scope} {own : List (Str × Nat)} {pos : Pos} {wi : TI} {g : TG} {tt : TT} {tk tv : TE} (h0 : o0 = .dK [] ∨ o0 = .dT []) (hc : X.calm = true) (hu : X.A.units + 1 < cLine) (hN : X.N.Nodup) (hy : X.N[i]? = some y) (hl : X.env.scope.names.lookup y = some .local)
    (sw : swapsWith (.DictComp kx vx [⟨tg, iter, ifs, 0⟩] sc pos) (some (.Name y py)) spos.line X.env = pure true) (hi : PI X tg iter wi) (ok : BlkOk X.N X.env.scope sc own)
    (hg : ∀ s H C cl fp, PG (X.blk s H sc (compEnvC sc cl C X.env) fp) tg g) (ht : ∀ s H C cl fp, PTs (X.blk s H sc (compEnvC sc cl C X.env) fp) ifs tt) (hk : ∀ s H C cl fp, PE (X.blk s H sc (compEnvC sc cl C X.env) fp) kx tk) (hv : ∀ s H C cl fp, PE (X.blk s H sc (compEnvC sc cl C X.env) fp) vx tv)
    (hs : ∀ x, foldedSetIterable iter X.env x = pure x := by intro _; rfl) :
    PS X (.Assign [.Name y py] (.DictComp kx vx [⟨tg, iter, ifs, 0⟩] sc pos) spos) (tAsg (tDcP o0 wi g tt tk tv (own.map (·.2))) (gName i)) := by
  refine ⟨fun pins s σ H D I hw => ?_⟩
  rw [exec_Assign_Name_used _ _ _ _ sw]
  have hw : tDcP o0 wi g tt tk tv (own.map (·.2)) σ H (fun x G => gName i x σ G D.nx) := hw
  have go := dcP_core (pos := pos) (ipos := firstIterPos [⟨tg, iter, ifs, 0⟩] pos) (use := some (assign (.Name y py) X.env)) (Qf := fun _ s' => SP X pins D .next s') I h0 hc hu hN hi ok hg ht hk hv hs hw fun L C t m G It q hm f => by
    refine wpAny_assign_Name (store_ok2 (v := V.ref L) It hN hy (.inl hl) rfl (fun t2 I2 ⟨a, sb, ha⟩ => ?_) (.inr hl))
    have ne : C ≠ a := ha.elim (fun z => z ▸ f.2.1) (fun z e => f.2.2.2.2.1 y a z e.symm)
    exact ⟨m, hm.sameBut sb ne, fun g' same => ⟨_, G, I2.turned (t' := t2.toks) (fun b o hb e => (same.2 b hb).trans e) f.1 f.2.1 f.2.2.2.1 f.2.2.2.2.1 f.2.2.2.2.2, q⟩⟩
  exact wpAny_bind (wpAny_standAt (wpAny_bind (wpAny_bind (thn go fun _ _ z => wpAny_pure (wpAny_pure z)))))
theorem sw_dict {kx vx : Expr} {gs : List Comprehension} {sc : Scope} {pos py : Pos} {y : Str} {l : Nat} {env : Env} (hk : env.scope.kind = .function) (hy : env.scope.names.lookup y = some .local) (hl : (py.line == pos.line) = true) (ha : (sc.names.any fun q => q.1 == y && (q.2 == .local || q.2 == .cell)) = false) :
    swapsWith (.DictComp kx vx gs sc pos) (some (.Name y py)) l env = pure true := by
  have e1 : env.kindOf y = some .local := hy
  have e2 : env.blockKind = .function := by unfold Env.blockKind; rw [hk]; rfl
  show (pure (env.blockKind == ScopeKind.function && env.kindOf y == some NameKind.local && py.line == pos.line && !(sc.names.any fun q => q.1 == y && (q.2 == .local || q.2 == .cell))) : Sem Bool) = pure true
  rw [e1, e2, hl, ha]
  rfl
end
end Cn
namespace Cn
open PySem PySem.Spec PyProof.Rows L2 Ck
def pk (p : Nat × Nat) : List Key := [.inl (p.1 : Int), .inl (p.2 : Int)]
theorem pk_inj {p q : Nat × Nat} (h : pk p = pk q) : p = q := by
  unfold pk at h
  simp only [List.cons.injEq, Sum.inl.injEq, Int.natCast_inj] at h
  exact Prod.ext h.1 h.2.1
theorem pk_tup {p : Nat × Nat} : (pk p).map kV = [vn p.1, vn p.2] := rfl
def byPair (v : Nat × Nat → V) (prs : List (Nat × Nat)) : List (List Key × V) := prs.map fun p => (pk p, v p)
theorem byPair_no {v : Nat × Nat → V} {q : Nat × Nat} : ∀ {prs : List (Nat × Nat)}, q ∉ prs → valV (byPair v prs) (pk q) = none
  | [], _ => rfl
  | p :: prs, h => (valV_neg (p := (pk p, v p)) (fun z => h (pk_inj z ▸ List.mem_cons_self))).trans (byPair_no fun z => h (List.mem_cons_of_mem _ z))
theorem byPair_yes {v : Nat × Nat → V} {q : Nat × Nat} : ∀ {prs : List (Nat × Nat)}, q ∈ prs → valV (byPair v prs) (pk q) = some (v q)
  | p :: prs, h => by
    by_cases e : p = q
    · rw [e]
      exact valV_pos (p := (pk q, v q)) rfl
    · refine (valV_neg (p := (pk p, v p)) (fun z => e (pk_inj z))).trans (byPair_yes ?_)
      rcases List.mem_cons.mp h with z | z
      · exact absurd z.symm e
      · exact z
theorem byPair_put {v : Nat × Nat → V} {q : Nat × Nat} {prs : List (Nat × Nat)} (h : q ∉ prs) : putK (byPair v prs) (pk q) (v q) = byPair v (prs ++ [q]) := by
  rw [putK_new _ (byPair_no h)]
  unfold byPair
  rw [List.map_append]
  rfl
theorem byPair_set {v : Nat × Nat → V} {q : Nat × Nat} {prs : List (Nat × Nat)} {x : V} (h : q ∈ prs) : putK (byPair v prs) (pk q) x = byPair (fun p => if p = q then x else v p) prs := by
  unfold putK
  have a : ((byPair v prs).any fun kv => decide (kv.1 = pk q)) = true := by rw [valV_any, byPair_yes h]; rfl
  rw [if_pos a]
  unfold byPair
  rw [List.map_map]
  refine List.map_congr_left fun p _ => ?_
  show (if pk p = pk q then (pk p, x) else (pk p, v p)) = (pk p, if p = q then x else v p)
  by_cases e : p = q
  · rw [e, if_pos rfl, if_pos rfl]
  · rw [if_neg (fun z => e (pk_inj z)), if_neg e]
theorem byPair_len {v : Nat × Nat → V} {prs : List (Nat × Nat)} : (byPair v prs).length = prs.length := List.length_map ..
def lexLt (p q : Nat × Nat) : Prop := p.1 < q.1 ∨ (p.1 = q.1 ∧ p.2 < q.2)
theorem pairsOf_mem {ps : List (Option Nat)} {be as : List Nat} {i j : Nat} : (i, j) ∈ pairsOf ps be as ↔ i ∈ be ∧ j ∈ as ∧ i ∈ road ps j := by
  unfold pairsOf
  rw [List.mem_flatMap]
  constructor
  · rintro ⟨a, ha, h⟩
    obtain ⟨b, hb, e⟩ := List.mem_map.mp h
    obtain ⟨hb1, hb2⟩ := List.mem_filter.mp hb
    cases e
    exact ⟨ha, hb1, of_decide_eq_true hb2⟩
  · rintro ⟨h1, h2, h3⟩
    exact ⟨i, h1, List.mem_map.mpr ⟨j, List.mem_filter.mpr ⟨h2, decide_eq_true h3⟩, rfl⟩⟩
theorem pairsOf_asc {ps : List (Option Nat)} {as : List Nat} (ha : as.Pairwise (· < ·)) : ∀ {be : List Nat}, be.Pairwise (· < ·) → (pairsOf ps be as).Pairwise lexLt
  | [], _ => .nil
  | i :: be, hb => by
    obtain ⟨h1, h2⟩ := List.pairwise_cons.mp hb
    show (((as.filter fun j => decide (i ∈ road ps j)).map (Prod.mk i)) ++ pairsOf ps be as).Pairwise lexLt
    refine List.pairwise_append.mpr ⟨List.pairwise_map.mpr ((ha.filter _).imp fun h => .inr ⟨rfl, h⟩), pairsOf_asc ha h2, fun x hx y hy => ?_⟩
    obtain ⟨j, _, rfl⟩ := List.mem_map.mp hx
    exact .inl (h1 _ (pairsOf_mem.mp (show (y.1, y.2) ∈ _ from hy)).1)
theorem pairsOf_nd {f : Fo} (ok : FoOk f) : (pairsOf f.ps f.be f.as).Nodup := (pairsOf_asc ok.as ok.be).imp fun h e => by
  subst e
  rcases h with h | h <;> omega
theorem vnEm (ns : List Nat) : (ns.map vn).isEmpty = ns.isEmpty := by cases ns <;> rfl
structure NoteOk (prs : List (Nat × Nat)) (p : List Nat × List Nat) : Prop where
  a1 : p.1.Pairwise (· < ·)
  a2 : p.2.Pairwise (· < ·)
  n1 : p.1 ≠ []
  n2 : p.2 ≠ []
  l1 : p.1.length ≤ 60
  l2 : p.2.length ≤ 60
  sub : ∀ i ∈ p.1, ∀ j ∈ p.2, (i, j) ∈ prs
section
variable {P : Program} {w : World} {K : PySem.W.Frag} {mg : Str → Option Value} {base : Heap} {C : Addr}
end
end Cn
namespace Cn
open PySem PySem.Spec PyProof.Rows L2 Ck
theorem PI.orr {X : Cx} {tg e : Expr} {w1 w2 : TI} (h : PI X tg e w1) (k : PI X tg e w2) : PI X tg e (fun σ H R => w1 σ H R ∨ w2 σ H R) := ⟨fun pins s σ H R I q => q.elim (h.run pins s σ H R I) (k.run pins s σ H R I)⟩
theorem dcP_list {K : PySem.W.Frag} {o0 : HO} {a : Addr} {xs : List V} {g : TG} {tt : TT} {tk tv : TE} {vs : List Nat} {σ : L2.St} {H1 : Hp} {D : Addr} {Qd : Hp → Prop} (Pv : Nat → Hp → Prop) (h0 : Pv 0 (upd H1 D o0)) (hl : ∀ i H, i ≤ xs.length → Pv i H → SqL K H a xs)
    (hs : ∀ i x H, xs[i]? = some x → Pv i H → g x (wipe σ vs) H fun τ G2 => wipe τ vs = wipe σ vs ∧ tt τ G2 fun b G3 => if b = true then tk τ G3 fun y G4 => tv τ G4 fun z G5 => ∃ G6, DPut G5 D y z G6 ∧ Pv (i + 1) G6 else Pv (i + 1) G3) (hd : ∀ H, Pv xs.length H → Qd H) :
    ∃ W : Nat → Nat → Hp → Prop, (∃ m, W 0 m (upd H1 D o0)) ∧ ∀ i m G, W i m G → ((Itl K a).stop i G ∧ Qd G) ∨
      ((Itl K a).go i G ∧ ∃ Nx : Hp → Prop, (∀ G', Nx G' → ∃ m', m' < m ∧ W (i + 1) m' G') ∧ ∀ x G', (Itl K a).yld i G x G' → g x (wipe σ vs) G' fun τ G2 => wipe τ vs = wipe σ vs ∧ tt τ G2 fun b G3 => if b = true then tk τ G3 fun y G4 => tv τ G4 fun z G5 => ∃ G6, DPut G5 D y z G6 ∧ Nx G6 else Nx G3) := by
  refine ⟨fun i m G => m = xs.length - i ∧ i ≤ xs.length ∧ Pv i G, ⟨_, rfl, Nat.zero_le _, h0⟩, ?_⟩
  rintro i m G ⟨rfl, hi, p⟩
  have sq := hl i G hi p
  rcases Nat.lt_or_ge i xs.length with lt | ge
  · refine .inr ⟨⟨xs, xs[i], sq, List.getElem?_eq_getElem lt⟩, Pv (i + 1), fun G' p' => ⟨_, by omega, rfl, lt, p'⟩, ?_⟩
    rintro x G' ⟨rfl, y⟩
    exact hs i x _ (y xs sq) p
  · have e : i = xs.length := Nat.le_antisymm hi ge
    exact .inl ⟨⟨xs, sq, ge⟩, hd G (e ▸ p)⟩
def SeqH (H : Hp) (b : Addr) (us : List V) : Prop := H b = some (.lst us) ∨ H b = some (.tup us)
theorem seqSame {H H' : Hp} (s : Same H H') {b : Addr} {us : List V} (h : SeqH H b us) : SeqH H' b us := h.imp (s _ _) (s _ _)
theorem seqSq {K : PySem.W.Frag} {H : Hp} {b : Addr} {us : List V} (h : SeqH H b us) : SqL K H b us ∨ SqT K H b us := h.imp (fun z => .inl (.inl z)) (fun z => .inl (.inl z))
theorem seqWalk {K : PySem.W.Frag} {a : Addr} {xs : List V} {σ : L2.St} {H : Hp} {i : Nat} {R : It → Hp → Prop} {H0 : Hp} (hv : σ[i]? = some (some (.ref a))) (hq : SeqH H0 a xs) (s0 : Same H0 H) (k : ∀ J, Walk J xs.length (fun G => Same H0 G) (YAt xs) → R J H) : iList K (tVar i) σ H R ∨ iTup K (tVar i) σ H R :=
  hq.elim (fun z => .inl ⟨_, hv, a, rfl, ⟨xs, .inl (.inl (s0 _ _ z))⟩, k _ ((walk_list (K := K)).mono (fun _ (s : Same H0 _) => .inl (.inl (s _ _ z))) fun _ _ _ _ _ _ y => y)⟩) (fun z => .inr ⟨_, hv, a, rfl, ⟨xs, .inl (.inl (s0 _ _ z))⟩, k _ ((walk_tup (K := K)).mono (fun _ (s : Same H0 _) => .inl (.inl (s _ _ z))) fun _ _ _ _ _ _ y => y)⟩)
theorem seqTyB {K : PySem.W.Frag} {H : Hp} {b : Addr} {us : List V} (h : SeqH H b us) : ∃ t, TyX K H (.ref b) t ∧ PySem.W.kitAny K t [.type "list", .type "tuple"] = some true := by
  rcases h with h | h
  · exact ⟨.type "list", .base (.lst h), kitAny_cons (b := true) (kit_ty (by decide +kernel)) (fun z => absurd z (by decide)) fun _ => rfl⟩
  · exact ⟨.type "tuple", .base (.tup h), kitAny_cons (b := false) (kit_ty (by decide +kernel)) (fun _ => kitAny_cons (b := true) (kit_ty (by decide +kernel)) (fun z => absurd z (by decide)) fun _ => rfl) (fun z => absurd z (by decide))⟩
theorem pairedGetQ {α β : Type} {F : α → β → Prop} : ∀ {xs : List α} {ys : List β} {i : Nat} {x : α}, Paired F xs ys → xs[i]? = some x → ∃ y, ys[i]? = some y ∧ F x y
  | _, _, i, x, .nil, h => by rw [List.getElem?_nil] at h; cases h
  | _, _, 0, x, .cons a t, h => by cases h; exact ⟨_, rfl, a⟩
  | _, _, i + 1, x, .cons a t, h => by
    rw [List.getElem?_cons_succ] at h
    obtain ⟨y, h1, h2⟩ := pairedGetQ t h
    exact ⟨y, by rw [List.getElem?_cons_succ]; exact h1, h2⟩
theorem nd_take {α : Type} {xs : List α} {m : Nat} {x : α} (nd : xs.Nodup) (h : xs[m]? = some x) : x ∉ xs.take m := fun z => by
  obtain ⟨j, hj⟩ := List.getElem?_of_mem z
  rw [List.getElem?_take] at hj
  split at hj
  · have h1 := List.getElem?_eq_some_iff.mp h
    have h2 := List.getElem?_eq_some_iff.mp hj
    have := (List.getElem_inj (h₀ := h2.1) (h₁ := h1.1) nd).mp (h2.2.trans h1.2.symm)
    omega
  · cases hj
section
variable {P : Program} {w : World} {K : PySem.W.Frag} {mg : Str → Option Value} {base : Heap} {C : Addr}
structure NotesOk (prs : List (Nat × Nat)) (ns : List (List Nat × List Nat)) : Prop where
  len : ns.length ≤ 200
  all : ∀ p ∈ ns, NoteOk prs p
end
end Cn
namespace Cn
open PySem PySem.Spec PyProof.Rows L2 Ck
theorem ixNat {n i : Nat} (h : i < n) : ixN n (i : Int) = some i := by
  unfold ixN
  rw [if_pos (Int.natCast_nonneg _), if_pos (by omega), Int.toNat_natCast]
theorem noneBack {H H1 : Hp} {D : Addr} (s : Same H H1) (h : H1 D = none) : H D = none := by
  cases e : H D with
  | none => rfl
  | some o => rw [s _ _ e] at h; cases h
end Cn
namespace Cn
open PySem PySem.Spec PyProof.Rows L2 Ck
/-! two tuples of numbers side by side -/
theorem small6063 {m : Nat} (h : m ≤ 6100) : m < sizeLine := Nat.lt_of_le_of_lt h (by decide)
/-- budgets of so many places -/
def BuAt (H : Hp) (b : Addr) (T R : List Nat) : Prop := ∃ t r, H b = some (.tup [.ref t, .ref r]) ∧ TN H t T ∧ TN H r R
theorem buSame {H H' : Hp} {b : Addr} {T R : List Nat} (s : Same H H') (h : BuAt H b T R) : BuAt H' b T R := by
  obtain ⟨t, r, h1, h2, h3⟩ := h
  exact ⟨t, r, s _ _ h1, s _ _ h2, s _ _ h3⟩
/-- own look: at no place greater -/
def leB (n : Nat) (X Y : List Nat) : Bool := ((List.range n).map fun j => decide (X.getD j 0 ≤ Y.getD j 0)).all id
theorem leB_iff {n : Nat} {X Y : List Nat} : leB n X Y = true ↔ ∀ j, j < n → X.getD j 0 ≤ Y.getD j 0 := by
  unfold leB
  rw [List.all_eq_true]
  constructor
  · intro h j hj
    exact of_decide_eq_true (h _ (List.mem_map.mpr ⟨j, List.mem_range.mpr hj, rfl⟩))
  · intro h x hx
    obtain ⟨j, hj, rfl⟩ := List.mem_map.mp hx
    exact decide_eq_true (h j (List.mem_range.mp hj))
theorem pairedUnsnoc {α β : Type} {F : α → β → Prop} {y : β} : ∀ {us : List α} {ws : List β}, Paired F us (ws ++ [y]) → ∃ us' x, us = us' ++ [x] ∧ Paired F us' ws ∧ F x y
  | _, [], .cons a .nil => ⟨[], _, rfl, .nil, a⟩
  | _, z :: ws, .cons a t => by
    obtain ⟨us', x, rfl, h1, h2⟩ := pairedUnsnoc t
    exact ⟨_ :: us', x, rfl, .cons a h1, h2⟩
theorem lastG {us : List V} {v : V} : (us ++ [v])[(us ++ [v]).length - 1]? = some v := by
  rw [List.length_append]
  show (us ++ [v])[us.length + 1 - 1]? = some v
  rw [Nat.add_sub_cancel, List.getElem?_append_right (Nat.le_refl _), Nat.sub_self]
  rfl
end Cn
namespace Cn
open PySem PySem.Spec PyProof.Rows L2 Ck
/-! where a statement or a comprehension stands within a def -/
def stRhs : Stmt → Expr
  | .Assign _ e _ => e
  | .Return (some e) _ => e
  | .Expr e _ => e
  | _ => default
def stIn : Stmt → List Stmt
  | .For _ _ b _ _ => b
  | .If _ b _ _ => b
  | .While _ b _ _ => b
  | _ => []
def stElse : Stmt → List Stmt
  | .If _ _ b _ => b
  | _ => []
def lcScope : Expr → Scope
  | .ListComp _ _ sc _ => sc
  | _ => default
/-- the scope of a comprehension's block, within a def of the scope base -/
def relS (sc base : Scope) : Scope := { sc with names := sc.names.map fun (n, k) => if (k == .free && base.kind == .function && base.names.lookup n == some .cell) then (n, .cell) else (n, k) }
theorem natList : ∀ {ns : List Int}, (∀ k ∈ ns, 0 ≤ k) → ∃ xs : List Nat, ns = xs.map fun n => ((n : Nat) : Int)
  | [], _ => ⟨[], rfl⟩
  | n :: ns, h => by
    obtain ⟨k, hk⟩ := Int.eq_ofNat_of_zero_le (h n List.mem_cons_self)
    obtain ⟨xs, hx⟩ := natList (ns := ns) fun z hz => h z (List.mem_cons_of_mem _ hz)
    exact ⟨k :: xs, by rw [hk, hx]; rfl⟩
/-- sorted, out of a set of places -/
theorem setNat {os : List Nat} {ns : List Int} (asc : ns.Pairwise (· < ·)) (mem : ∀ k : Int, k ∈ ns ↔ decide (k ∈ os.map fun n => ((n : Nat) : Int)) = true) : ∃ xs : List Nat, ns.map V.int = xs.map vn ∧ xs.Pairwise (· < ·) ∧ (∀ x, x ∈ xs ↔ x ∈ os) ∧ xs.length = ns.length := by
  obtain ⟨xs, rfl⟩ := natList (ns := ns) fun k hk => by
    obtain ⟨n, _, rfl⟩ := List.mem_map.mp (of_decide_eq_true ((mem k).mp hk))
    exact Int.natCast_nonneg n
  refine ⟨xs, mapIV xs, ?_, fun x => ?_, by rw [List.length_map]⟩
  · rw [List.pairwise_map] at asc
    exact asc.imp fun h => by omega
  · have := mem (x : Int)
    rw [decide_eq_true_iff] at this
    have e : ∀ zs : List Nat, ((x : Int) ∈ zs.map fun n => ((n : Nat) : Int)) ↔ x ∈ zs := fun zs => by
      rw [List.mem_map]
      exact ⟨fun ⟨y, hy, ey⟩ => by have : y = x := by omega
                                   exact this ▸ hy, fun h => ⟨x, h, rfl⟩⟩
    rw [e, e] at this
    exact this
end Cn
namespace Cn
open PySem PySem.Spec PyProof.Rows L2 Ck
theorem seqIx {n : Nat} {d : Int} (h0 : 0 ≤ d) (h1 : d < (n : Int)) : seqIndex? d n = some d.toNat := by
  obtain ⟨k, rfl⟩ := Int.eq_ofNat_of_zero_le h0
  exact (ixN_seq (ixNat (by omega : k < n))).1
theorem erasePerm {α : Type} : ∀ (xs : List α) (n : Nat) (h : n < xs.length), (xs[n] :: xs.eraseIdx n).Perm xs
  | x :: xs, 0, _ => List.Perm.refl _
  | x :: xs, n + 1, h => (List.Perm.swap x (xs[n]'(Nat.lt_of_succ_lt_succ h)) (xs.eraseIdx n)).trans ((erasePerm xs n (Nat.lt_of_succ_lt_succ h)).cons x)
section
variable {P : Program} {w : World} {K : PySem.W.Frag} {mg : Str → Option Value} {base : Heap} {C : Addr}
def spMixed : Sp := fun vs H Q _ => ∃ (p c b : Addr) (cells : List Int) (us : List V), vs = [.ref p, .ref b] ∧ HandIn H p c cells ∧ SeqH H b us ∧ us.length ≤ 4000 ∧ ∀ r ws H', ws.Perm us → HandIn H' p c cells → Kept p H H' → H r = none → H' r = some (.lst ws) → Q (.ref r) H'
def nMixed : List Str := ["_law_hand_here", "_law_things", "_law_left", "_law_found", "_law_turn"]
theorem scMixed : FnScope nMixed ["_law_hand_here", "_law_things"] (defScope sMixed) := ⟨rfl, rfl, rfl, by decide +kernel, rfl, by decide +kernel, by decide +kernel⟩
theorem dMixed (B : Defs K mg C) : Def P w K mg base "_law_mixed" 2 ["_law_hand_here", "_law_things"] spMixed := by
  obtain ⟨fD, fdD, GD, gD, kD, bD⟩ := dDraw (P := P) (w := w) (base := base) B
  have N := B.N
  refine def_of B.mx fun f fd F => ?_
  refine F.ok scMixed (fun vs H Q E h => ?_) (fun cdv A outer s H vs Q E hr h => ?_)
  · obtain ⟨p, c, b, cells, us, rfl, _⟩ := h
    rfl
  · obtain ⟨p, c, b, cells, us, rfl, hI, hb, h4, k⟩ := h
    refine ⟨_, pss_cons (ps_set (i := 2) scMixed.nd rfl (Or.inl rfl) (pe_callTy call_list_of (by rfl) N.is.lst (by decide +kernel) (pa_cons (pv 1) pa_nil)))
      (pss_cons (ps_set (i := 3) scMixed.nd rfl (Or.inl rfl) (pe_lst pa_nil))
      (pss_cons (ps_for PassesOwn.never rfl (pi_range1 (by rfl) N.range (pa_cons (pe_callB call_len_seq (by rfl) N.is.len PySem.boot_len (pa_cons (pv 1) pa_nil)) pa_nil)) (pg_name (i := 4) scMixed.nd rfl (Or.inl rfl))
        (pss_one (ps_expr (pe_bm PySem.F.plainAttrs_list PySem.F.slot_list_append PySem.F.type_list_append mt_append (pv 3) (pa_cons
          (pe_bm PySem.F.plainAttrs_list PySem.F.slot_list_pop PySem.F.type_list_pop mt_popAt (pv 2) (pa_cons (pe_call GD hr (by rfl) gD kD bD .nil pass0 (pa_cons (pv 0) (pa_cons (pe_callB call_len_seq (by rfl) N.is.len PySem.boot_len (pa_cons (pv 2) pa_nil)) pa_nil))) pa_nil)) pa_nil)))))
      (pss_one (ps_ret (pv 3))))), ?_⟩
    refine ⟨_, rfl, b, us, rfl, seqSq hb, fun L nL => ?_⟩
    have S1 := smUpd (o := .lst us) nL
    have hL1 : upd H L (.lst us) L = some (.lst us) := upd_same
    generalize upd H L (.lst us) = H1 at S1 hL1 ⊢
    refine ⟨by show 0 ≤ sizeLine; decide, fun D nD => ?_⟩
    have S2 := S1.trans (smUpd (o := .lst []) nD)
    have hL2 := smUpd (o := .lst []) nD _ _ hL1
    have nD0 := noneBack S1 nD
    have neL : L ≠ D := fun z => by rw [z, nD] at hL1; cases hL1
    have hD2 : upd H1 D (.lst []) D = some (.lst []) := upd_same
    generalize upd H1 D (.lst []) = H2 at S2 hL2 hD2 ⊢
    have nLp := hand_ne hI nL
    have nDp := hand_ne hI nD0
    refine ⟨_, rfl, b, us, rfl, seqSq (seqSame S2 hb), (us.length : Int), rfl, by omega, by omega, ?_⟩
    rw [Int.toNat_natCast]
    refine for_range (lo := 0) (n := us.length) (fun i σ H' => ∃ t4 ls fs, σ = [some (.ref p), some (.ref b), some (.ref L), some (.ref D), t4] ∧ HandIn H' p c cells ∧ Kept p H H' ∧ H' L = some (.lst ls) ∧ H' D = some (.lst fs) ∧ fs.length = i ∧ (fs ++ ls).Perm us) ⟨none, us, [], rfl, handIn_keep hI S2, kept_same S2, hL2, hD2, rfl, List.Perm.refl _⟩ ?_ ?_
    · rintro i σ H3 hi ⟨t4, ls, fs, rfl, hI3, k3, hL, hD, hfl, hp⟩
      have hlen : fs.length + ls.length = us.length := by rw [← List.length_append]; exact hp.length_eq
      refine ⟨_, rfl, .inl ⟨rfl, _, .inl (.inl hD)⟩, _, rfl, .inl ⟨rfl, _, .inl (.inl hL)⟩, _, rfl, _, rfl, L, ls, rfl, .inl (.inl (.inl hL)), p, c, cells, (ls.length : Int), rfl, hI3, by omega, by omega, fun d a1 a2 a3 a4 d0 d1 a10 => ?_⟩
      have hI4 := handIn_upd (i := a1) (g := a2) (m := a3) (t := a4) hI3 a10
      have k4 := kept_trans k3 (kept_hand (p := p) (o := handL c a1 a2 a3 a4))
      have hL4 : upd H3 p (handL c a1 a2 a3 a4) L = some (.lst ls) := by rw [upd_ne nLp]; exact hL
      have hD4 : upd H3 p (handL c a1 a2 a3 a4) D = some (.lst fs) := by rw [upd_ne nDp]; exact hD
      generalize upd H3 p (handL c a1 a2 a3 a4) = H4 at hI4 k4 hL4 hD4 ⊢
      have hdl : d.toNat < ls.length := by omega
      refine ⟨L, ls, d, d.toNat, _, rfl, rfl, hL4, by omega, by omega, seqIx d0 d1, List.getElem?_eq_getElem hdl, ?_⟩
      have hD5 : upd H4 L (.lst (ls.eraseIdx d.toNat)) D = some (.lst fs) := by rw [upd_ne neL.symm]; exact hD4
      refine ⟨D, fs, _, rfl, rfl, hD5, small4000 (by omega), ?_⟩
      refine ⟨_, ls.eraseIdx d.toNat, fs ++ [ls[d.toNat]], rfl, handIn_write hI nD0 (handIn_write hI nL hI4), kept_over nD0 (kept_over nL k4), ?_, upd_same, by rw [List.length_append, hfl]; rfl, ?_⟩
      · rw [upd_ne neL, upd_same]
      · refine List.Perm.trans ?_ hp
        rw [List.append_assoc]
        exact List.Perm.append_left _ (erasePerm ls _ hdl)
    · rintro σ H3 ⟨t4, ls, fs, rfl, hI3, k3, hL, hD, hfl, hp⟩
      have hlen : fs.length + ls.length = us.length := by rw [← List.length_append]; exact hp.length_eq
      have e : ls = [] := List.eq_nil_of_length_eq_zero (by omega)
      rw [e, List.append_nil] at hp
      exact ⟨_, rfl, k D fs _ hp hI3 k3 nD0 hD⟩
end
end Cn
namespace L2
open PySem PySem.Spec PySem.Calls PyProof.Rows PyProof.V
/-! a set out of a list of ints -/
abbrev set0 (w : World) : Obj := { cls := .type "set", dict := none, data := .set #[] 0 (.fresh 0 0 (!w.params.followText "set-order")) }
theorem callSetL {P : Program} {w : World} {A : Around} {E : Value → Shared → Prop} {s : Shared} {l : Addr} {items : Array Value} (ns : List Int) {Q : Value → Shared → Prop} (hh : A.handled = none) (isl : s.heap.IsList l items) (iar : IntsAre items.toList ns) (few : ns.length + 1 < scanBound)
    (told : ∀ (g : Heap) (tk c : Nat), SetR w g s.heap.objs.size (fun j => decide (j ∈ ns)) c → c ≤ ns.length → (∀ b o, s.heap.get? b = some o → g.get? b = some o) → Q (.ref s.heap.objs.size) { s with heap := g, toks := tk }) : wpAny (model P w) A (call (.type "set") [.ref l]) Q E s := by
  have size : items.size = ns.length := Array.length_toList (xs := items) ▸ IntsAre.length iar
  obtain ⟨c, tl, hmro⟩ := F.called_set.mro
  have k1 := F.called_set.made
  have k2 := F.called_set.sub
  have k3 := F.called_set.notType
  have k4 := F.called_set.canCreate
  have k5 := F.typeCall_set_1 (.ref l)
  refine wpAny_call (codeAny_of_tree ?_)
  show wpAny _ _ (callAny (.type "set") _) _ _ _
  refine wpAny_pure ⟨Code.quiet_builtin _ (by decide +kernel), codeAny_builtin F.entry_type_call (Around.under_plain (weight_type_call_type "set" [.ref l] []) rfl ▸ ?_)⟩
  repeat (any_goals (first | assumption | wp_step))
  refine codeAny_mono (code_set_led1 (.ref l) (E := E) (Q₁ := fun v t => v = .ref s.heap.objs.size ∧ t = { s with heap := s.heap.push (set0 w) }) ⟨rfl, rfl⟩) fun r t hr => ?_
  cases r with
  | error e => exact hr
  | ok fl =>
    cases fl with
    | ret v =>
      obtain ⟨rfl, rfl⟩ := hr
      have at0 : (s.heap.push (set0 w)).get? s.heap.objs.size = some (set0 w) := Heap.get?_push_size _ rfl
      have typ : Shared.TypeIs { s with heap := s.heap.push (set0 w) } (.ref s.heap.objs.size) "set" := ⟨_, at0, rfl⟩
      have k6 := F.called_set.init.lookup
      have k7 := F.called_set.init.bind (.ref s.heap.objs.size)
      repeat (any_goals (first | assumption | wp_step))
      refine codeAny_mono (codeAny_call_builtin (R := wants (fun r t => r = .none ∧ ∃ g tk c, t = { s with heap := g, toks := tk } ∧ SetR w g s.heap.objs.size (fun j => decide (j ∈ ns)) c ∧ c ≤ ns.length ∧ ∀ b o, s.heap.get? b = some o → g.get? b = some o) E)
        F.called_set.init.plain F.entry_set_init (check_set_init_1 typ ?_)) fun r2 t2 hr2 => ?_
      · obtain ⟨⟨oc, od, ob, os⟩, hol, hcl, nl, hdl⟩ := isl
        simp only at hcl hdl
        subst hcl hdl
        have atL : (s.heap.push (set0 w)).get? l = some { cls := .type "list", dict := od, data := .seq items nl, slots := os } := Heap.get?_push_of_some _ hol
        have k8 := F.sub_list_set
        have k9 := F.sub_list_frozenset
        have kA : (Value.type "list" == Value.type "dict") = false := by decide
        have isl1 : (s.heap.push (set0 w)).IsList l items := ⟨_, atL, rfl, nl, rfl⟩
        have ltL : l < s.heap.objs.size := Heap.lt_size hol
        unfold Builtin.«set.__init__» noKeywords Builtin.Frozenset.updateFrom
        generalize hPI : pyIter = PI
        wp_walk
        subst hPI
        refine wpAny_pyIter_list isl1 (wpAny_bind (wpAny_runValue ?_))
        have sz1 : (s.heap.push (set0 w)).objs.size = s.heap.objs.size + 1 := Heap.size_push ..
        have neI : l ≠ (s.heap.push (set0 w)).objs.size := sz1 ▸ Nat.ne_of_lt (Nat.lt_succ_of_lt ltL)
        have out : s.heap.objs.size ∉ [(s.heap.push (set0 w)).objs.size, l] := fun z => by
          rcases List.mem_cons.mp z with z | z
          · exact absurd (z.trans sz1) (Nat.ne_of_lt (Nat.lt_succ_self _))
          · exact absurd (List.mem_singleton.mp z).symm (Nat.ne_of_lt ltL)
        have each : ∀ (i : Nat) (v : Value), items[i]? = some v → ∃ k t, ns[i]? = some k ∧ v = .int k t := fun i v hv => by
          have hi : i < ns.length := size ▸ (Array.getElem?_eq_some_iff.mp hv).1
          obtain ⟨t, e⟩ := PyProof.Rows.IntsAre.int_at iar i v (by rw [Array.getElem?_toList]; exact hv)
          exact ⟨ns[i], t, List.getElem?_eq_getElem hi, by rw [e, List.getD_eq_getElem?_getD, List.getElem?_eq_getElem hi] <;> rfl⟩
        refine set_update_ints ((Walks.list (by simp [hh]) _ l neI items).toS) s.heap.objs.size out ns size few each _ 0 _ rfl (Nat.zero_le _) ⟨⟨_, Heap.get?_push_size _ rfl, rfl, rfl⟩, isl1.push _⟩
          ⟨0, Nat.le_refl 0, setR_new_at (Heap.get?_push_of_some _ at0)⟩ fun t c mv hc hS => ?_
        obtain ⟨g, gs, dr, tk, oo⟩ := t
        have q1 : gs = s.gens := mv.gens
        have q2 : dr = s.drawn := mv.drawn
        have q3 : oo = s.os := mv.os
        subst q1 q2 q3
        refine wpAny_pure (wpAny_pure ⟨rfl, g, tk, c, rfl, hS, size ▸ hc, fun b o e => ?_⟩)
        have lt := Heap.lt_size e
        refine mv.heap b o (fun z => ?_) (Heap.get?_push_of_some _ (Heap.get?_push_of_some _ e))
        rcases List.mem_cons.mp z with z | z
        · exact absurd z (Nat.ne_of_lt lt)
        · exact absurd ((List.mem_singleton.mp z).trans sz1) (Nat.ne_of_lt (Nat.lt_succ_of_lt lt))
      · cases r2 with
        | error e => exact hr2
        | ok f2 =>
          cases f2 with
          | ret r =>
            obtain ⟨rfl, g, tk, c, rfl, hS, hc, keep⟩ := hr2
            repeat (any_goals (first | assumption | wp_step))
            exact told g tk c hS hc keep
          | _ => exact hr2.elim
    | _ => exact hr.elim
def rSetI (K : PySem.W.Frag) (w : World) : List V → Hp → VK → Prop := fun xs H Q => ∃ (l : Addr) (ns : List Int), xs = [V.ref l] ∧ SqL K H l (ns.map V.int) ∧ ns.length ≤ 1000 ∧ ∀ p c, H p = none → c ≤ ns.length → Q (.ref p) (upd H p (SetO w p (fun j => decide (j ∈ ns)) c))
theorem cr_setI {X : Cx} (hc : X.calm = true) : CallR X (.type "set") (rSetI X.K X.w) := by
  intro pins s σ H xs us Q I r h
  obtain ⟨l, ns, rfl, hl, len, q⟩ := h
  obtain ⟨its, rv, pl, _⟩ := I.list hl
  rw [Vals.ref1 r]
  refine callSetL ns (I.ok.hd hc) pl.isList (by simpa using ints_of_vals rv) (by unfold scanBound; omega) fun g tk c R hcn keep => ?_
  exact ⟨.ref _, _, I.laid (t' := tk) keep (Nat.le_refl _) (setO_new R), rfl, q _ c (I.hok.fresh (Nat.le_refl _)) hcn⟩
end L2
namespace L2
open PySem PySem.Spec PySem.Calls PyProof.Rows PyProof.V
/-! a set out of a tuple of ints -/
abbrev set0T (w : World) : Obj := { cls := .type "set", dict := none, data := .set #[] 0 (.fresh 0 0 (!w.params.followText "set-order")) }
theorem callSetT {P : Program} {w : World} {A : Around} {E : Value → Shared → Prop} {s : Shared} {l : Addr} {items : Array Value} (ns : List Int) {Q : Value → Shared → Prop} (hh : A.handled = none) (isl : IsTup s.heap l items) (iar : IntsAre items.toList ns) (few : ns.length + 1 < scanBound)
    (told : ∀ (g : Heap) (tk c : Nat), SetR w g s.heap.objs.size (fun j => decide (j ∈ ns)) c → c ≤ ns.length → (∀ b o, s.heap.get? b = some o → g.get? b = some o) → Q (.ref s.heap.objs.size) { s with heap := g, toks := tk }) : wpAny (model P w) A (call (.type "set") [.ref l]) Q E s := by
  have size : items.size = ns.length := Array.length_toList (xs := items) ▸ IntsAre.length iar
  obtain ⟨c, tl, hmro⟩ := F.called_set.mro
  have k1 := F.called_set.made
  have k2 := F.called_set.sub
  have k3 := F.called_set.notType
  have k4 := F.called_set.canCreate
  have k5 := F.typeCall_set_1 (.ref l)
  refine wpAny_call (codeAny_of_tree ?_)
  show wpAny _ _ (callAny (.type "set") _) _ _ _
  refine wpAny_pure ⟨Code.quiet_builtin _ (by decide +kernel), codeAny_builtin F.entry_type_call (Around.under_plain (weight_type_call_type "set" [.ref l] []) rfl ▸ ?_)⟩
  repeat (any_goals (first | assumption | wp_step))
  refine codeAny_mono (code_set_led1 (.ref l) (E := E) (Q₁ := fun v t => v = .ref s.heap.objs.size ∧ t = { s with heap := s.heap.push (set0T w) }) ⟨rfl, rfl⟩) fun r t hr => ?_
  cases r with
  | error e => exact hr
  | ok fl =>
    cases fl with
    | ret v =>
      obtain ⟨rfl, rfl⟩ := hr
      have at0 : (s.heap.push (set0T w)).get? s.heap.objs.size = some (set0T w) := Heap.get?_push_size _ rfl
      have typ : Shared.TypeIs { s with heap := s.heap.push (set0T w) } (.ref s.heap.objs.size) "set" := ⟨_, at0, rfl⟩
      have k6 := F.called_set.init.lookup
      have k7 := F.called_set.init.bind (.ref s.heap.objs.size)
      repeat (any_goals (first | assumption | wp_step))
      refine codeAny_mono (codeAny_call_builtin (R := wants (fun r t => r = .none ∧ ∃ g tk c, t = { s with heap := g, toks := tk } ∧ SetR w g s.heap.objs.size (fun j => decide (j ∈ ns)) c ∧ c ≤ ns.length ∧ ∀ b o, s.heap.get? b = some o → g.get? b = some o) E)
        F.called_set.init.plain F.entry_set_init (check_set_init_1 typ ?_)) fun r2 t2 hr2 => ?_
      · obtain ⟨⟨oc, od, ob, os⟩, hol, hcl, nl, hdl⟩ := isl
        simp only at hcl hdl
        subst hcl hdl
        have atL : (s.heap.push (set0T w)).get? l = some { cls := .type "tuple", dict := od, data := .seq items nl, slots := os } := Heap.get?_push_of_some _ hol
        have k8 := F.sub_tuple_set
        have k9 := F.sub_tuple_frozenset
        have kA : (Value.type "tuple" == Value.type "dict") = false := by decide
        have isl1 : (s.heap.push (set0T w)).IsTuple l items := ⟨_, atL, rfl, nl, rfl⟩
        have ltL : l < s.heap.objs.size := Heap.lt_size hol
        unfold Builtin.«set.__init__» noKeywords Builtin.Frozenset.updateFrom
        generalize hPI : pyIter = PI
        wp_walk
        subst hPI
        refine wpAny_pyIter_tuple isl1 (wpAny_bind (wpAny_runValue ?_))
        have sz1 : (s.heap.push (set0T w)).objs.size = s.heap.objs.size + 1 := Heap.size_push ..
        have neI : l ≠ (s.heap.push (set0T w)).objs.size := sz1 ▸ Nat.ne_of_lt (Nat.lt_succ_of_lt ltL)
        have out : s.heap.objs.size ∉ [(s.heap.push (set0T w)).objs.size, l] := fun z => by
          rcases List.mem_cons.mp z with z | z
          · exact absurd (z.trans sz1) (Nat.ne_of_lt (Nat.lt_succ_self _))
          · exact absurd (List.mem_singleton.mp z).symm (Nat.ne_of_lt ltL)
        have each : ∀ (i : Nat) (v : Value), items[i]? = some v → ∃ k t, ns[i]? = some k ∧ v = .int k t := fun i v hv => by
          have hi : i < ns.length := size ▸ (Array.getElem?_eq_some_iff.mp hv).1
          obtain ⟨t, e⟩ := PyProof.Rows.IntsAre.int_at iar i v (by rw [Array.getElem?_toList]; exact hv)
          exact ⟨ns[i], t, List.getElem?_eq_getElem hi, by rw [e, List.getD_eq_getElem?_getD, List.getElem?_eq_getElem hi] <;> rfl⟩
        refine set_update_ints ((Walks.tuple (by simp [hh]) _ l neI items).toS) s.heap.objs.size out ns size few each _ 0 _ rfl (Nat.zero_le _) ⟨⟨_, Heap.get?_push_size _ rfl, rfl, rfl⟩, isl1.push _⟩
          ⟨0, Nat.le_refl 0, setR_new_at (Heap.get?_push_of_some _ at0)⟩ fun t c mv hc hS => ?_
        obtain ⟨g, gs, dr, tk, oo⟩ := t
        have q1 : gs = s.gens := mv.gens
        have q2 : dr = s.drawn := mv.drawn
        have q3 : oo = s.os := mv.os
        subst q1 q2 q3
        refine wpAny_pure (wpAny_pure ⟨rfl, g, tk, c, rfl, hS, size ▸ hc, fun b o e => ?_⟩)
        have lt := Heap.lt_size e
        refine mv.heap b o (fun z => ?_) (Heap.get?_push_of_some _ (Heap.get?_push_of_some _ e))
        rcases List.mem_cons.mp z with z | z
        · exact absurd z (Nat.ne_of_lt lt)
        · exact absurd ((List.mem_singleton.mp z).trans sz1) (Nat.ne_of_lt (Nat.lt_succ_of_lt lt))
      · cases r2 with
        | error e => exact hr2
        | ok f2 =>
          cases f2 with
          | ret r =>
            obtain ⟨rfl, g, tk, c, rfl, hS, hc, keep⟩ := hr2
            repeat (any_goals (first | assumption | wp_step))
            exact told g tk c hS hc keep
          | _ => exact hr2.elim
    | _ => exact hr.elim
theorem setR_count {w : World} {h : Heap} {a : Addr} {ns : List Int} {c : Nat} (R : SetR w h a (fun j => decide (j ∈ ns)) c) : ∃ ks : List Int, ks.Nodup ∧ (∀ k, k ∈ ks ↔ k ∈ ns) ∧ ks.length = c := by
  obtain ⟨o, es, ep, t, _, _, _, _, nd, mem, _, _, sz, _⟩ := R
  refine ⟨es.toList.map keyOf, nd, fun k => ?_, by rw [List.length_map, Array.length_toList, sz]⟩
  rw [← mem k, decide_eq_true_iff]
def rSetIT (K : PySem.W.Frag) (w : World) : List V → Hp → VK → Prop := fun xs H Q => ∃ (l : Addr) (ns : List Int), xs = [V.ref l] ∧ (SqL K H l (ns.map V.int) ∨ SqT K H l (ns.map V.int)) ∧ ns.length ≤ 1000 ∧ ∀ p c (ks : List Int), H p = none → ks.Nodup → (∀ k, k ∈ ks ↔ k ∈ ns) → ks.length = c → Q (.ref p) (upd H p (SetO w p (fun j => decide (j ∈ ns)) c))
theorem cr_setIT {X : Cx} (hc : X.calm = true) : CallR X (.type "set") (rSetIT X.K X.w) := by
  intro pins s σ H xs us Q I r h
  obtain ⟨l, ns, rfl, hl, len, q⟩ := h
  rw [Vals.ref1 r]
  have fin : ∀ (g : Heap) (tk c : Nat), SetR X.w g s.heap.objs.size (fun j => decide (j ∈ ns)) c → c ≤ ns.length → (∀ b o, s.heap.get? b = some o → g.get? b = some o) → EP X pins σ Q (.ref s.heap.objs.size) { s with heap := g, toks := tk } := fun g tk c R hcn keep => by
    obtain ⟨ks, k1, k2, k3⟩ := setR_count R
    exact ⟨.ref _, _, I.laid (t' := tk) keep (Nat.le_refl _) (setO_new R), rfl, q _ c ks (I.hok.fresh (Nat.le_refl _)) k1 k2 k3⟩
  rcases hl with hl | hl
  · obtain ⟨its, rv, pl, _⟩ := I.list hl
    exact callSetL ns (I.ok.hd hc) pl.isList (by simpa using ints_of_vals rv) (by unfold scanBound; omega) fin
  · obtain ⟨its, rv, pl, _⟩ := I.tuple hl
    exact callSetT ns (I.ok.hd hc) pl (by simpa using ints_of_vals rv) (by unfold scanBound; omega) fin
theorem cr_lenSetO {X : Cx} : CallR X (.builtin "len") (fun xs H Q => ∃ (a : Addr) (S : Int → Bool) (n : Nat), xs = [.ref a] ∧ H a = some (SetO X.w a S n) ∧ Q (.int n) H) := by
  intro pins s σ H xs us Q I r h
  obtain ⟨a, S, n, rfl, ha, q⟩ := h
  rw [Vals.ref1 r]
  obtain ⟨o, es, ep, t, ho, hex, hd, _, _, _, sb, hf, hn, _⟩ := setO_get I ha
  refine call_len_set ho hex hd hf (by unfold scanBound at sb; omega) ⟨.int n, H, I.tok _, ⟨_, by rw [hn]⟩, q⟩
end L2
namespace Cn
/-! notes held, counted twice -/
theorem countP_or {α : Type} {f g : α → Bool} : ∀ {l : List α}, (∀ x ∈ l, ¬ (f x = true ∧ g x = true)) → (l.countP fun x => f x || g x) = l.countP f + l.countP g
  | [], _ => rfl
  | x :: l, h => by
    have ih := countP_or (f := f) (g := g) (l := l) fun y hy => h y (List.mem_cons_of_mem _ hy)
    have hx := h x List.mem_cons_self
    rw [List.countP_cons, List.countP_cons, List.countP_cons, ih]
    cases a : f x <;> cases b : g x <;> simp_all <;> omega
theorem countP_one {p : Nat × Nat} : ∀ {l : List (Nat × Nat)}, l.Nodup → p ∈ l → (l.countP fun q => decide (q = p)) = 1
  | x :: l, nd, h => by
    obtain ⟨n1, n2⟩ := List.nodup_cons.mp nd
    rw [List.countP_cons]
    by_cases e : x = p
    · subst e
      rw [List.countP_eq_zero.mpr fun q hq => by simp only [decide_eq_true_eq]; exact fun z => n1 (z ▸ hq)]
      simp
    · rw [countP_one n2 ((List.mem_cons.mp h).resolve_left fun z => e z.symm)]
      simp [e]
theorem countRow {i : Nat} {prs : List (Nat × Nat)} (nd : prs.Nodup) : ∀ {js : List Nat}, js.Nodup → (∀ j ∈ js, (i, j) ∈ prs) → (prs.countP fun q => decide (q.1 = i) && decide (q.2 ∈ js)) = js.length
  | [], _, _ => List.countP_eq_zero.mpr fun q _ => by simp
  | j :: js, h, m => by
    obtain ⟨n1, n2⟩ := List.nodup_cons.mp h
    have ih := countRow (js := js) nd n2 fun k hk => m k (List.mem_cons_of_mem _ hk)
    have e : (prs.countP fun q => decide (q.1 = i) && decide (q.2 ∈ j :: js)) = prs.countP fun q => decide (q = (i, j)) || (decide (q.1 = i) && decide (q.2 ∈ js)) := by
      refine List.countP_congr fun q _ => ?_
      simp only [Bool.and_eq_true, Bool.or_eq_true, decide_eq_true_eq, List.mem_cons]
      constructor
      · rintro ⟨a, b | b⟩
        · exact .inl (Prod.ext a b)
        · exact .inr ⟨a, b⟩
      · rintro (z | ⟨a, b⟩)
        · rw [z]; exact ⟨rfl, .inl rfl⟩
        · exact ⟨a, .inr b⟩
    rw [e, countP_or fun q _ => ?_, countP_one nd (m j List.mem_cons_self), ih, List.length_cons, Nat.add_comm]
    rintro ⟨a, b⟩
    simp only [Bool.and_eq_true, decide_eq_true_eq] at a b
    rw [a] at b
    exact n1 b.2
theorem countBox {prs : List (Nat × Nat)} {js : List Nat} (nd : prs.Nodup) (hj : js.Nodup) : ∀ {is : List Nat}, is.Nodup → (∀ i ∈ is, ∀ j ∈ js, (i, j) ∈ prs) → (prs.countP fun q => decide (q.1 ∈ is) && decide (q.2 ∈ js)) = is.length * js.length
  | [], _, _ => by rw [List.length_nil, Nat.zero_mul]; exact List.countP_eq_zero.mpr fun q _ => by simp
  | i :: is, h, m => by
    obtain ⟨n1, n2⟩ := List.nodup_cons.mp h
    have ih := countBox (is := is) nd hj n2 fun k hk => m k (List.mem_cons_of_mem _ hk)
    have e : (prs.countP fun q => decide (q.1 ∈ i :: is) && decide (q.2 ∈ js)) = prs.countP fun q => (decide (q.1 = i) && decide (q.2 ∈ js)) || (decide (q.1 ∈ is) && decide (q.2 ∈ js)) := by
      refine List.countP_congr fun q _ => ?_
      simp only [Bool.and_eq_true, Bool.or_eq_true, decide_eq_true_eq, List.mem_cons]
      constructor
      · rintro ⟨a | a, b⟩
        · exact .inl ⟨a, b⟩
        · exact .inr ⟨a, b⟩
      · rintro (⟨a, b⟩ | ⟨a, b⟩)
        · exact ⟨.inl a, b⟩
        · exact ⟨.inr a, b⟩
    rw [e, countP_or fun q _ => ?_, countRow nd hj (m i List.mem_cons_self), ih, List.length_cons, Nat.add_mul, Nat.one_mul, Nat.add_comm]
    rintro ⟨a, b⟩
    simp only [Bool.and_eq_true, decide_eq_true_eq] at a b
    rw [a.1] at b
    exact n1 b.1
theorem sumAdd {α : Type} {f g : α → Nat} : ∀ {l : List α}, (l.map fun x => f x + g x).sum = (l.map f).sum + (l.map g).sum
  | [] => rfl
  | x :: l => by
    have := sumAdd (f := f) (g := g) (l := l)
    simp only [List.map_cons, List.sum_cons]
    omega
theorem sumCount {α : Type} {c : α → Bool} : ∀ {l : List α}, (l.map fun x => if c x = true then 1 else 0).sum = l.countP c
  | [] => rfl
  | x :: l => by
    have := sumCount (c := c) (l := l)
    simp only [List.map_cons, List.sum_cons, List.countP_cons]
    omega
theorem sumLe {α : Type} {f : α → Nat} : ∀ {l : List α}, (∀ x ∈ l, 1 ≤ f x) → l.length ≤ (l.map f).sum ∧ ((l.map f).sum = l.length ↔ ∀ x ∈ l, f x ≤ 1)
  | [], _ => ⟨Nat.le_refl _, by simp⟩
  | x :: l, h => by
    obtain ⟨h1, h2⟩ := sumLe (l := l) fun y hy => h y (List.mem_cons_of_mem _ hy)
    have hx := h x List.mem_cons_self
    simp only [List.map_cons, List.sum_cons, List.length_cons, List.forall_mem_cons]
    refine ⟨by omega, fun e => ⟨by omega, h2.mp (by omega)⟩, fun ⟨a, b⟩ => ?_⟩
    have := h2.mpr b
    omega
end Cn
namespace Ck
/-! over and under, once more -/
section
variable {ps : List (Option Nat)}
theorem rd_cases (hp : Ps ps) {x y : Nat} (hy : y < ps.length) (h : x ∈ road ps y) : x = y ∨ ∃ p, ps[y]? = some (some p) ∧ p < y ∧ x ∈ road ps p := by
  rcases opt_cases hy with e | ⟨p, e⟩
  · rw [road_none e] at h
    exact .inl (List.mem_singleton.mp h)
  · rw [road_some hp e] at h
    rcases List.mem_append.mp h with h | h
    · exact .inr ⟨p, e, hp y p e, h⟩
    · exact .inl (List.mem_singleton.mp h)
theorem rd_up (hp : Ps ps) {x y p : Nat} (e : ps[y]? = some (some p)) (h : x ∈ road ps p) : x ∈ road ps y := by
  rw [road_some hp e]
  exact List.mem_append_left _ h
theorem rd_trans (hp : Ps ps) {x y : Nat} : ∀ z, z < ps.length → x ∈ road ps y → y ∈ road ps z → x ∈ road ps z := by
  intro z
  induction z using Nat.strongRecOn with
  | ind z ih =>
    intro hz hxy hyz
    rcases rd_cases hp hz hyz with rfl | ⟨p, e, hpz, h⟩
    · exact hxy
    · exact rd_up hp e (ih p hpz (Nat.lt_trans hpz hz) hxy h)
theorem rd_lin (hp : Ps ps) {x y : Nat} : ∀ z, z < ps.length → x ∈ road ps z → y ∈ road ps z → x ∈ road ps y ∨ y ∈ road ps x := by
  intro z
  induction z using Nat.strongRecOn with
  | ind z ih =>
    intro hz hx hy
    rcases rd_cases hp hz hx with rfl | ⟨p, e, hpz, h⟩
    · exact .inr hy
    · rcases rd_cases hp hz hy with rfl | ⟨p', e', _, h'⟩
      · exact .inl hx
      · rw [e] at e'
        cases e'
        exact ih p hpz (Nat.lt_trans hpz hz) h h'
theorem rd_anti (hp : Ps ps) {x y : Nat} (hx : x < ps.length) (hy : y < ps.length) (h : x ∈ road ps y) (k : y ∈ road ps x) : x = y := by
  have := road_le hp y hy x h
  have := road_le hp x hx y k
  omega
theorem rd_lt (hp : Ps ps) {x y : Nat} (hy : y < ps.length) (h : x ∈ road ps y) : x < ps.length := Nat.lt_of_le_of_lt (road_le hp y hy x h) hy
theorem road_asc (hp : Ps ps) : ∀ z, z < ps.length → (road ps z).Pairwise (· < ·) := by
  intro z
  induction z using Nat.strongRecOn with
  | ind z ih =>
    intro hz
    rcases opt_cases hz with e | ⟨p, e⟩
    · rw [road_none e]; exact List.pairwise_singleton _ _
    · have hl := hp z p e
      rw [road_some hp e, List.pairwise_append]
      refine ⟨ih p hl (Nat.lt_trans hl hz), List.pairwise_singleton _ _, fun a ha b hb => ?_⟩
      rw [List.mem_singleton.mp hb]
      exact Nat.lt_of_le_of_lt (road_le hp p (Nat.lt_trans hl hz) a ha) hl
end
/-! the topmost place up to which none is cut -/
def top (ps : List (Option Nat)) (cut : List Nat) (i : Nat) : Nat :=
  match ps[i]? with
  | some (some p) => if _h : p < i then (if p ∈ cut then i else top ps cut p) else i
  | _ => i
termination_by i
section
variable {ps : List (Option Nat)} {cut : List Nat}
theorem top_none {i : Nat} (h : ps[i]? = some none) : top ps cut i = i := by rw [top, h]
theorem top_cut {i p : Nat} (hp : Ps ps) (h : ps[i]? = some (some p)) (c : p ∈ cut) : top ps cut i = i := by
  rw [top, h]
  dsimp only
  rw [dif_pos (hp i p h), if_pos c]
theorem top_up {i p : Nat} (hp : Ps ps) (h : ps[i]? = some (some p)) (c : p ∉ cut) : top ps cut i = top ps cut p := by
  rw [top, h]
  dsimp only
  rw [dif_pos (hp i p h), if_neg c]
theorem top_road (hp : Ps ps) : ∀ x, x < ps.length → top ps cut x ∈ road ps x := by
  intro x
  induction x using Nat.strongRecOn with
  | ind x ih =>
    intro hx
    rcases opt_cases hx with e | ⟨p, e⟩
    · rw [top_none e]; exact road_self hp hx
    · by_cases c : p ∈ cut
      · rw [top_cut hp e c]; exact road_self hp hx
      · rw [top_up hp e c]
        exact rd_up hp e (ih p (hp x p e) (Nat.lt_trans (hp x p e) hx))
theorem top_free (hp : Ps ps) : ∀ x, x < ps.length → x ∉ cut → top ps cut x ∉ cut := by
  intro x
  induction x using Nat.strongRecOn with
  | ind x ih =>
    intro hx nx
    rcases opt_cases hx with e | ⟨p, e⟩
    · rw [top_none e]; exact nx
    · by_cases c : p ∈ cut
      · rw [top_cut hp e c]; exact nx
      · rw [top_up hp e c]
        exact ih p (hp x p e) (Nat.lt_trans (hp x p e) hx) c
/-- all from the topmost one down are alike -/
theorem top_seg (hp : Ps ps) {z : Nat} : ∀ x, x < ps.length → x ∉ cut → z ∈ road ps x → top ps cut x ∈ road ps z → z ∉ cut ∧ top ps cut z = top ps cut x := by
  intro x
  induction x using Nat.strongRecOn with
  | ind x ih =>
    intro hx nx hz ht
    rcases rd_cases hp hx hz with rfl | ⟨p, e, hpx, h⟩
    · exact ⟨nx, rfl⟩
    · by_cases c : p ∈ cut
      · rw [top_cut hp e c] at ht
        have h1 := road_le hp p (Nat.lt_trans hpx hx) z h
        have h2 := road_le hp z (Nat.lt_of_le_of_lt h1 (Nat.lt_trans hpx hx)) x ht
        omega
      · rw [top_up hp e c] at ht ⊢
        exact ih p hpx (Nat.lt_trans hpx hx) c h ht
theorem top_same (hp : Ps ps) {y : Nat} : ∀ x, x < ps.length → y ∈ road ps x → (∀ z ∈ road ps x, y ∈ road ps z → z ≠ x → z ∉ cut) → top ps cut x = top ps cut y := by
  intro x
  induction x using Nat.strongRecOn with
  | ind x ih =>
    intro hx hy hf
    rcases rd_cases hp hx hy with rfl | ⟨p, e, hpx, h⟩
    · rfl
    · have hpl := Nat.lt_trans hpx hx
      have c : p ∉ cut := hf p (rd_up hp e (road_self hp hpl)) h (Nat.ne_of_lt hpx)
      rw [top_up hp e c]
      refine ih p hpx hpl h fun z hz hyz _ => hf z (rd_up hp e hz) hyz fun e2 => ?_
      have := road_le hp p hpl z hz
      omega
/-- joined with a place over it just if none between is cut -/
theorem join_iff (hp : Ps ps) {x y : Nat} (hx : x < ps.length) (hy : y ∈ road ps x) : (x ∉ cut ∧ top ps cut x = top ps cut y) ↔ ∀ z ∈ road ps x, y ∈ road ps z → z ∉ cut := by
  have hyl := rd_lt hp hx hy
  constructor
  · rintro ⟨nx, e⟩ z hz hyz
    have hzl := rd_lt hp hx hz
    exact (top_seg hp x hx nx hz (e ▸ rd_trans hp z hzl (top_road hp y hyl) hyz)).1
  · intro h
    exact ⟨h x (road_self hp hx) hy, top_same hp x hx hy fun z hz hyz _ => h z hz hyz⟩
/-! one place more cut -/
theorem cut_far (hp : Ps ps) {x : Nat} : ∀ y, y < ps.length → ¬ (x ∈ road ps y ∧ top ps cut y = top ps cut x) → top ps (x :: cut) y = top ps cut y := by
  intro y
  induction y using Nat.strongRecOn with
  | ind y ih =>
    intro hy hn
    rcases opt_cases hy with e | ⟨p, e⟩
    · rw [top_none e, top_none e]
    · by_cases c : p ∈ cut
      · rw [top_cut hp e c, top_cut hp e (List.mem_cons_of_mem _ c)]
      · have hpy := hp y p e
        have hpl := Nat.lt_trans hpy hy
        have nx : p ≠ x := fun z => by
          subst z
          exact hn ⟨rd_up hp e (road_self hp hpl), top_up hp e c⟩
        rw [top_up hp e c, top_up hp e (fun z => (List.mem_cons.mp z).elim nx c)]
        exact ih p hpy hpl fun z => hn ⟨rd_up hp e z.1, by rw [top_up hp e c]; exact z.2⟩
theorem cut_near (hp : Ps ps) {x : Nat} : ∀ y, y < ps.length → y ∉ cut → y ≠ x → x ∈ road ps y → top ps cut y = top ps cut x → ps[top ps (x :: cut) y]? = some (some x) ∧ top ps (x :: cut) y ∈ road ps y ∧ ∀ c, ps[c]? = some (some x) → c ∈ road ps y → top ps (x :: cut) y = c := by
  intro y
  induction y using Nat.strongRecOn with
  | ind y ih =>
    intro hy ny ne hx ht
    rcases rd_cases hp hy hx with z | ⟨p, e, hpy, h⟩
    · exact absurd z.symm ne
    · have hpl := Nat.lt_trans hpy hy
      by_cases px : p = x
      · subst px
        have et : top ps (p :: cut) y = y := top_cut hp e List.mem_cons_self
        rw [et]
        refine ⟨e, road_self hp hy, fun c hc hcy => ?_⟩
        rcases rd_cases hp hy hcy with z | ⟨p', e', _, h'⟩
        · exact z.symm
        · rw [e] at e'
          cases e'
          have := road_le hp p hpl c h'
          have := hp c p hc
          omega
      · have c : p ∉ cut := fun c => by
          rw [top_cut hp e c] at ht
          have hxl := rd_lt hp hy hx
          have h1 := road_le hp x hxl _ (top_road (cut := cut) hp x hxl)
          have h2 := road_le hp p hpl x h
          omega
        have et : top ps (x :: cut) y = top ps (x :: cut) p := top_up hp e fun z => (List.mem_cons.mp z).elim px c
        rw [top_up hp e c] at ht
        obtain ⟨i1, i2, i3⟩ := ih p hpy hpl c px h ht
        rw [et]
        refine ⟨i1, rd_up hp e i2, fun c' hc hcy => ?_⟩
        rcases rd_cases hp hy hcy with z | ⟨p', e', _, h'⟩
        · subst z
          rw [e] at hc
          cases hc
          exact absurd rfl px
        · rw [e] at e'
          cases e'
          exact i3 c' hc h'
/-! the pieces -/
def comp (ps : List (Option Nat)) (cut : List Nat) (r : Nat) : List Nat := (List.range ps.length).filter fun y => decide (y ∉ cut) && decide (top ps cut y = r)
theorem comp_mem {r y : Nat} : y ∈ comp ps cut r ↔ y < ps.length ∧ y ∉ cut ∧ top ps cut y = r := by
  unfold comp
  rw [List.mem_filter, List.mem_range, Bool.and_eq_true, decide_eq_true_iff, decide_eq_true_iff]
/-- as the law cuts a piece at a place -/
def cutL (ps : List (Option Nat)) (pc : List Nat) (x : Nat) : List (List Nat) :=
  ((pc.filter fun y => !decide (y ∈ pc.filter fun y => decide (x ∈ road ps y))) ::
    ((pc.filter fun y => decide (x ∈ road ps y)).filter fun c => decide (ps[c]? = some (some x))).map fun c => (pc.filter fun y => decide (x ∈ road ps y)).filter fun y => decide (c ∈ road ps y)).filter fun l => !l.isEmpty
structure Tops (ps : List (Option Nat)) (cut : List Nat) (rs : List Nat) : Prop where
  nd : rs.Nodup
  mem : ∀ r, r ∈ rs ↔ r < ps.length ∧ r ∉ cut ∧ top ps cut r = r
theorem filter_eq {α : Type} {f g : α → Bool} {xs : List α} (h : ∀ x ∈ xs, f x = g x) : xs.filter f = xs.filter g := List.filter_congr h
/-- the piece of a place, cut at it -/
theorem cut_parts (hp : Ps ps) {x : Nat} (hx : x < ps.length) (nx : x ∉ cut) : cutL ps (comp ps cut (top ps cut x)) x = ((if top ps cut x = x then [] else [top ps cut x]) ++ (List.range ps.length).filter fun c => decide (c ∉ cut) && decide (ps[c]? = some (some x))).map (comp ps (x :: cut)) := by
  have hr := top_road (cut := cut) hp x hx
  have hrl := rd_lt hp hx hr
  have hrx := road_le hp x hx _ hr
  -- those under it
  have eu : ((comp ps cut (top ps cut x)).filter fun y => decide (x ∈ road ps y)).filter (fun c => decide (ps[c]? = some (some x))) = (List.range ps.length).filter fun c => decide (c ∉ cut) && decide (ps[c]? = some (some x)) := by
    unfold comp
    rw [List.filter_filter, List.filter_filter]
    refine List.filter_congr fun c hc => ?_
    have hcl := List.mem_range.mp hc
    rw [Bool.eq_iff_iff]
    simp only [Bool.and_eq_true, decide_eq_true_eq]
    constructor
    · rintro ⟨⟨a, b⟩, d, e⟩
      exact ⟨d, a⟩
    · rintro ⟨d, a⟩
      exact ⟨⟨a, rd_up hp a (road_self hp hx)⟩, d, top_up hp a nx⟩
  have ec : ∀ c, c < ps.length → c ∉ cut → ps[c]? = some (some x) → ((comp ps cut (top ps cut x)).filter fun y => decide (x ∈ road ps y)).filter (fun y => decide (c ∈ road ps y)) = comp ps (x :: cut) c := by
    intro c hc nc e
    have hxc := hp c x e
    unfold comp
    rw [List.filter_filter, List.filter_filter]
    refine List.filter_congr fun y hy => ?_
    have hyl := List.mem_range.mp hy
    rw [Bool.eq_iff_iff]
    simp only [Bool.and_eq_true, decide_eq_true_eq]
    constructor
    · rintro ⟨⟨a, b⟩, d, t⟩
      have ne : y ≠ x := fun z => by
        subst z
        have := road_le hp y hyl c a
        omega
      exact ⟨fun z => (List.mem_cons.mp z).elim ne d, (cut_near hp y hyl d ne b t).2.2 c e a⟩
    · rintro ⟨d, t⟩
      have dc : y ∉ cut := fun z => d (List.mem_cons_of_mem _ z)
      have hcy : c ∈ road ps y := t ▸ top_road hp y hyl
      have hxy : x ∈ road ps y := rd_trans hp y hyl (rd_up hp e (road_self hp hx)) hcy
      by_cases j : x ∈ road ps y ∧ top ps cut y = top ps cut x
      · exact ⟨⟨hcy, hxy⟩, dc, j.2⟩
      · have := cut_far hp y hyl j
        rw [t] at this
        have h2 := top_seg hp y hyl dc hcy (this ▸ road_self hp hc)
        rw [← h2.2, top_up hp e nx] at this
        exact absurd ⟨hxy, by rw [← h2.2, top_up hp e nx]⟩ j
  have er : ((comp ps cut (top ps cut x)).filter fun y => !decide (y ∈ (comp ps cut (top ps cut x)).filter fun y => decide (x ∈ road ps y))) = if top ps cut x = x then [] else comp ps (x :: cut) (top ps cut x) := by
    have e1 : ((comp ps cut (top ps cut x)).filter fun y => !decide (y ∈ (comp ps cut (top ps cut x)).filter fun y => decide (x ∈ road ps y))) = (comp ps cut (top ps cut x)).filter fun y => !decide (x ∈ road ps y) := by
      refine List.filter_congr fun y hy => ?_
      congr 1
      rw [Bool.eq_iff_iff, decide_eq_true_iff, decide_eq_true_iff, List.mem_filter, decide_eq_true_iff]
      exact ⟨fun z => z.2, fun z => ⟨hy, z⟩⟩
    rw [e1]
    by_cases c : top ps cut x = x
    · rw [if_pos c, List.filter_eq_nil_iff]
      intro y hy
      obtain ⟨hyl, _, t⟩ := comp_mem.mp hy
      have := top_road (cut := cut) hp y hyl
      rw [t, c] at this
      simpa using this
    · rw [if_neg c]
      have nr : x ∉ road ps (top ps cut x) := fun z => c (rd_anti hp hrl hx hr z)
      unfold comp
      rw [List.filter_filter]
      refine List.filter_congr fun y hy => ?_
      have hyl := List.mem_range.mp hy
      rw [Bool.eq_iff_iff]
      simp only [Bool.and_eq_true, decide_eq_true_eq, Bool.not_eq_true', decide_eq_false_iff_not]
      constructor
      · rintro ⟨a, d, t⟩
        refine ⟨fun z => (List.mem_cons.mp z).elim (fun z => a (by rw [← z]; exact road_self hp hyl)) d, ?_⟩
        rw [cut_far hp y hyl (fun z => a z.1)]
        exact t
      · rintro ⟨d, t⟩
        have dc : y ∉ cut := fun z => d (List.mem_cons_of_mem _ z)
        have ne : y ≠ x := fun z => d (z ▸ List.mem_cons_self)
        have j : ¬ (x ∈ road ps y ∧ top ps cut y = top ps cut x) := fun j => by
          have h1 := (cut_near hp y hyl dc ne j.1 j.2).1
          rw [t] at h1
          have := hp _ _ h1
          omega
        have e2 := cut_far hp y hyl j
        rw [t] at e2
        exact ⟨fun z => j ⟨z, e2.symm⟩, dc, e2.symm⟩
  unfold cutL
  rw [er, eu]
  have em : (((List.range ps.length).filter fun c => decide (c ∉ cut) && decide (ps[c]? = some (some x))).map fun c => ((comp ps cut (top ps cut x)).filter fun y => decide (x ∈ road ps y)).filter fun y => decide (c ∈ road ps y)) = ((List.range ps.length).filter fun c => decide (c ∉ cut) && decide (ps[c]? = some (some x))).map (comp ps (x :: cut)) := by
    refine List.map_congr_left fun c hc => ?_
    obtain ⟨h1, h2⟩ := List.mem_filter.mp hc
    simp only [Bool.and_eq_true, decide_eq_true_eq] at h2
    exact ec c (List.mem_range.mp h1) h2.1 h2.2
  rw [em]
  have ne : ∀ r, r < ps.length → r ∉ cut → r ≠ x → top ps (x :: cut) r = r → (!(comp ps (x :: cut) r).isEmpty) = true := fun r hr n1 n2 t => by
    have : r ∈ comp ps (x :: cut) r := comp_mem.mpr ⟨hr, fun z => (List.mem_cons.mp z).elim n2 n1, t⟩
    cases h : comp ps (x :: cut) r with
    | nil => rw [h] at this; cases this
    | cons _ _ => rfl
  have hch : (((List.range ps.length).filter fun c => decide (c ∉ cut) && decide (ps[c]? = some (some x))).map (comp ps (x :: cut))).filter (fun l => !l.isEmpty) = ((List.range ps.length).filter fun c => decide (c ∉ cut) && decide (ps[c]? = some (some x))).map (comp ps (x :: cut)) := by
    rw [List.filter_eq_self]
    intro l hl
    obtain ⟨c, hc, rfl⟩ := List.mem_map.mp hl
    obtain ⟨h1, h2⟩ := List.mem_filter.mp hc
    simp only [Bool.and_eq_true, decide_eq_true_eq] at h2
    have := hp c x h2.2
    exact ne c (List.mem_range.mp h1) h2.1 (by omega) (top_cut hp h2.2 List.mem_cons_self)
  by_cases c : top ps cut x = x
  · rw [if_pos c, if_pos c, List.filter_cons_of_neg (by simp), hch]
    rfl
  · rw [if_neg c, if_neg c, List.filter_cons_of_pos, hch]
    · rfl
    · have nr : x ∉ road ps (top ps cut x) := fun z => c (rd_anti hp hrl hx hr z)
      have tt : top ps cut (top ps cut x) = top ps cut x := (top_seg hp x hx nx hr (road_self hp hrl)).2
      exact ne _ hrl (top_free hp x hx nx) c (by rw [cut_far hp _ hrl (fun z => nr z.1)]; exact tt)
/-- the tops behind a cut -/
theorem tops_next (hp : Ps ps) {rs : List Nat} {x at_ : Nat} (T : Tops ps cut rs) (hx : x < ps.length) (nx : x ∉ cut) (ha : rs[at_]? = some (top ps cut x)) :
    ∃ rs', Tops ps (x :: cut) rs' ∧ (rs.map (comp ps cut)).take at_ ++ cutL ps (comp ps cut (top ps cut x)) x ++ (rs.map (comp ps cut)).drop (at_ + 1) = rs'.map (comp ps (x :: cut)) := by
  have hr := top_road (cut := cut) hp x hx
  have hrl := rd_lt hp hx hr
  have hrx := road_le hp x hx _ hr
  have hal := (List.getElem?_eq_some_iff.mp ha).1
  have hae := (List.getElem?_eq_some_iff.mp ha).2
  have split : rs = rs.take at_ ++ top ps cut x :: rs.drop (at_ + 1) := by
    rw [← hae, ← List.drop_eq_getElem_cons hal, List.take_append_drop]
  have nd := T.nd
  rw [split] at nd
  obtain ⟨nd1, nd2, nd3⟩ := List.nodup_append.mp nd
  obtain ⟨nd4, nd5⟩ := List.nodup_cons.mp nd2
  -- the others
  have far : ∀ r ∈ rs, r ≠ top ps cut x → comp ps cut r = comp ps (x :: cut) r ∧ r ≠ x ∧ top ps (x :: cut) r = r := by
    intro r hr' ne
    obtain ⟨h1, h2, h3⟩ := (T.mem r).mp hr'
    have rx : r ≠ x := fun z => ne (by rw [← z]; exact h3.symm)
    refine ⟨?_, rx, by rw [cut_far hp r h1 (fun z => ne (by rw [← z.2]; exact h3.symm))]; exact h3⟩
    unfold comp
    refine List.filter_congr fun y hy => ?_
    have hyl := List.mem_range.mp hy
    rw [Bool.eq_iff_iff]
    simp only [Bool.and_eq_true, decide_eq_true_eq]
    constructor
    · rintro ⟨d, t⟩
      have yx : y ≠ x := fun z => ne (by rw [← t, z])
      exact ⟨fun z => (List.mem_cons.mp z).elim yx d, by rw [cut_far hp y hyl (fun z => ne (by rw [← t]; exact z.2))]; exact t⟩
    · rintro ⟨d, t⟩
      have dc : y ∉ cut := fun z => d (List.mem_cons_of_mem _ z)
      have yx : y ≠ x := fun z => d (z ▸ List.mem_cons_self)
      by_cases j : x ∈ road ps y ∧ top ps cut y = top ps cut x
      · have h4 := (cut_near hp y hyl dc yx j.1 j.2).1
        rw [t] at h4
        have h5 := top_up (cut := cut) hp h4 nx
        rw [h3] at h5
        exact absurd h5 ne
      · have := cut_far hp y hyl j
        rw [t] at this
        exact ⟨dc, this.symm⟩
  have inT : ∀ r ∈ rs.take at_, r ∈ rs ∧ r ≠ top ps cut x := fun r h => ⟨List.mem_of_mem_take h, nd3 r h _ List.mem_cons_self⟩
  have inD : ∀ r ∈ rs.drop (at_ + 1), r ∈ rs ∧ r ≠ top ps cut x := fun r h => ⟨List.mem_of_mem_drop h, fun z => nd4 (z ▸ h)⟩
  refine ⟨rs.take at_ ++ (((if top ps cut x = x then [] else [top ps cut x]) ++ (List.range ps.length).filter fun c => decide (c ∉ cut) && decide (ps[c]? = some (some x))) ++ rs.drop (at_ + 1)), ⟨?_, fun r => ?_⟩, ?_⟩
  · have chn : ∀ c ∈ (List.range ps.length).filter (fun c => decide (c ∉ cut) && decide (ps[c]? = some (some x))), c ∉ rs ∧ c ≠ top ps cut x := fun c hc => by
      obtain ⟨h1, h2⟩ := List.mem_filter.mp hc
      simp only [Bool.and_eq_true, decide_eq_true_eq] at h2
      have h3 := hp c x h2.2
      have h4 := top_up (cut := cut) hp h2.2 nx
      exact ⟨fun z => by have := ((T.mem c).mp z).2.2; omega, by omega⟩
    rw [List.nodup_append, List.nodup_append, List.nodup_append]
    refine ⟨nd1, ⟨⟨?_, List.nodup_range.filter _, fun a ha b hb z => ?_⟩, nd5, fun a ha b hb z => ?_⟩, fun a ha b hb z => ?_⟩
    · split
      · exact List.nodup_nil
      · exact List.nodup_cons.mpr ⟨List.not_mem_nil, List.nodup_nil⟩
    · subst z
      split at ha
      · cases ha
      · exact (chn a hb).2 (List.mem_singleton.mp ha)
    · subst z
      rcases List.mem_append.mp ha with ha | ha
      · split at ha
        · cases ha
        · exact (inD a hb).2 (List.mem_singleton.mp ha)
      · exact (chn a ha).1 (inD a hb).1
    · subst z
      rcases List.mem_append.mp hb with hb | hb
      · rcases List.mem_append.mp hb with hb | hb
        · split at hb
          · cases hb
          · exact (inT a ha).2 (List.mem_singleton.mp hb)
        · exact (chn a hb).1 (inT a ha).1
      · exact nd3 a ha a (List.mem_cons_of_mem _ hb) rfl
  · rw [List.mem_append, List.mem_append, List.mem_append]
    constructor
    · rintro (h | (h | h) | h)
      · obtain ⟨a, b⟩ := inT r h
        obtain ⟨h1, h2, h3⟩ := (T.mem r).mp a
        obtain ⟨_, f2, f3⟩ := far r a b
        exact ⟨h1, fun z => (List.mem_cons.mp z).elim f2 h2, f3⟩
      · split at h
        · cases h
        · rename_i c
          rw [List.mem_singleton.mp h]
          have nr : x ∉ road ps (top ps cut x) := fun z => c (rd_anti hp hrl hx hr z)
          have tt : top ps cut (top ps cut x) = top ps cut x := (top_seg hp x hx nx hr (road_self hp hrl)).2
          exact ⟨hrl, fun z => (List.mem_cons.mp z).elim c (top_free hp x hx nx), by rw [cut_far hp _ hrl (fun z => nr z.1)]; exact tt⟩
      · obtain ⟨h1, h2⟩ := List.mem_filter.mp h
        simp only [Bool.and_eq_true, decide_eq_true_eq] at h2
        have h3 := hp r x h2.2
        exact ⟨List.mem_range.mp h1, fun z => (List.mem_cons.mp z).elim (by omega) h2.1, top_cut hp h2.2 List.mem_cons_self⟩
      · obtain ⟨a, b⟩ := inD r h
        obtain ⟨h1, h2, h3⟩ := (T.mem r).mp a
        obtain ⟨_, f2, f3⟩ := far r a b
        exact ⟨h1, fun z => (List.mem_cons.mp z).elim f2 h2, f3⟩
    · rintro ⟨h1, h2, h3⟩
      have dc : r ∉ cut := fun z => h2 (List.mem_cons_of_mem _ z)
      have rx : r ≠ x := fun z => h2 (z ▸ List.mem_cons_self)
      by_cases j : x ∈ road ps r ∧ top ps cut r = top ps cut x
      · have h4 := (cut_near hp r h1 dc rx j.1 j.2).1
        rw [h3] at h4
        exact .inr (.inl (.inr (List.mem_filter.mpr ⟨List.mem_range.mpr h1, by simp only [Bool.and_eq_true, decide_eq_true_eq]; exact ⟨dc, h4⟩⟩)))
      · have h4 := cut_far hp r h1 j
        rw [h3] at h4
        have hrs := (T.mem r).mpr ⟨h1, dc, h4.symm⟩
        by_cases e : r = top ps cut x
        · refine .inr (.inl (.inl ?_))
          rw [if_neg (fun z => rx (e.trans z))]
          exact List.mem_singleton.mpr e
        · rw [split] at hrs
          rcases List.mem_append.mp hrs with h | h
          · exact .inl h
          · exact .inr (.inr ((List.mem_cons.mp h).resolve_left e))
  · rw [cut_parts hp hx nx, ← List.map_take, ← List.map_drop]
    generalize ((if top ps cut x = x then [] else [top ps cut x]) ++ (List.range ps.length).filter fun c => decide (c ∉ cut) && decide (ps[c]? = some (some x))) = Y
    rw [List.map_append, List.map_append, List.append_assoc]
    congr 1
    · exact List.map_congr_left fun r h => (far r (inT r h).1 (inT r h).2).1
    · congr 1
      exact List.map_congr_left fun r h => (far r (inD r h).1 (inD r h).2).1
end
end Ck
namespace Cn
open PySem PySem.Spec PyProof.Rows L2 Ck
theorem root_comp {ps : List (Option Nat)} (hp : Ps ps) {r : Nat} (hr : ps[r]? = some none) : comp ps [] r = (List.range ps.length).filter fun y => decide (r ∈ road ps y) := by
  unfold comp
  refine List.filter_congr fun y hy => ?_
  have hyl := List.mem_range.mp hy
  rw [Bool.eq_iff_iff]
  simp only [Bool.and_eq_true, decide_eq_true_eq]
  constructor
  · rintro ⟨_, t⟩
    rw [← t]
    exact top_road hp y hyl
  · intro h
    refine ⟨List.not_mem_nil, ?_⟩
    rw [top_same hp y hyl h fun z _ _ _ => List.not_mem_nil, top_none hr]
theorem root_tops {ps : List (Option Nat)} (hp : Ps ps) : Tops ps [] ((List.range ps.length).filter fun r => decide (ps[r]? = some none)) := by
  refine ⟨List.nodup_range.filter _, fun r => ?_⟩
  rw [List.mem_filter, List.mem_range, decide_eq_true_iff]
  constructor
  · rintro ⟨h1, h2⟩
    exact ⟨h1, List.not_mem_nil, top_none h2⟩
  · rintro ⟨h1, _, h3⟩
    refine ⟨h1, ?_⟩
    rcases opt_cases h1 with e | ⟨p, e⟩
    · exact e
    · rw [top_up hp e List.not_mem_nil] at h3
      have hl := hp r p e
      have := road_le hp p (Nat.lt_trans hl h1) _ (top_road (cut := []) hp p (Nat.lt_trans hl h1))
      omega
theorem tops_len {ps : List (Option Nat)} {cut rs : List Nat} (T : Tops ps cut rs) : rs.length ≤ ps.length := by
  have h : rs.Subset (List.range ps.length) := fun r hr => List.mem_range.mpr ((T.mem r).mp hr).1
  have := T.nd.length_le_of_subset h
  rwa [List.length_range] at this
end Cn
namespace Cn
open PySem PySem.Spec PyProof.Rows L2 Ck
/-! dicts that tell which numbers are there -/
def ones (ns : List Nat) : List (L2.Key × V) := ns.map fun n => ((Sum.inl ((n : Nat) : Int) : L2.Key), V.bl true)
theorem ones_len {ns : List Nat} : (ones ns).length = ns.length := List.length_map _
theorem ones_get (n : Nat) : ∀ ns : List Nat, valV (ones ns) (Sum.inl ((n : Nat) : Int) : L2.Key) = if n ∈ ns then some (.bl true) else none
  | [] => rfl
  | m :: ns => by
    by_cases e : m = n
    · subst e
      rw [if_pos List.mem_cons_self]
      exact valV_pos (p := ((Sum.inl ((m : Nat) : Int) : L2.Key), V.bl true)) rfl
    · refine (valV_neg (p := ((Sum.inl ((m : Nat) : Int) : L2.Key), V.bl true)) (fun z => e (by have := Sum.inl.inj z; omega))).trans ((ones_get n ns).trans ?_)
      by_cases c : n ∈ ns
      · rw [if_pos c, if_pos (List.mem_cons_of_mem _ c)]
      · rw [if_neg c, if_neg (fun z => (List.mem_cons.mp z).elim (fun y => e y.symm) c)]
theorem ones_put {n : Nat} {ns : List Nat} (h : n ∉ ns) : putK (ones ns) (Sum.inl ((n : Nat) : Int) : L2.Key) (.bl true) = ones (ns ++ [n]) := by
  rw [putK_new _ (by rw [ones_get, if_neg h])]
  unfold ones
  rw [List.map_append]
  rfl
theorem ones_set {n : Nat} {ns : List Nat} (h : n ∈ ns) : putK (ones ns) (Sum.inl ((n : Nat) : Int) : L2.Key) (.bl true) = ones ns := by
  unfold putK
  rw [if_pos (by rw [valV_any, ones_get, if_pos h]; rfl)]
  unfold ones
  rw [List.map_map]
  refine List.map_congr_left fun m _ => ?_
  show (if (Sum.inl ((m : Nat) : Int) : L2.Key) = Sum.inl ((n : Nat) : Int) then ((Sum.inl ((m : Nat) : Int) : L2.Key), V.bl true) else ((Sum.inl ((m : Nat) : Int) : L2.Key), V.bl true)) = _
  split <;> rfl
def addN (ns : List Nat) (n : Nat) : List Nat := if n ∈ ns then ns else ns ++ [n]
theorem ones_add {n : Nat} {ns : List Nat} : putK (ones ns) (Sum.inl ((n : Nat) : Int) : L2.Key) (.bl true) = ones (addN ns n) := by
  unfold addN
  by_cases h : n ∈ ns
  · rw [if_pos h, ones_set h]
  · rw [if_neg h, ones_put h]
theorem addN_mem {n x : Nat} {ns : List Nat} : x ∈ addN ns n ↔ x = n ∨ x ∈ ns := by
  unfold addN
  by_cases h : n ∈ ns
  · rw [if_pos h]; exact ⟨.inr, fun z => z.elim (fun e => e ▸ h) id⟩
  · rw [if_neg h, List.mem_append, List.mem_singleton]; exact ⟨fun z => z.elim .inr .inl, fun z => z.elim .inr .inl⟩
def OnR (H : Hp) (v : V) (ns : List Nat) : Prop := ∃ d, v = .ref d ∧ H d = some (.dK (ones ns))
def OnsR (H : Hp) (us : List V) (ls : List (List Nat)) : Prop := Paired (OnR H) us ls
theorem onsSame {H H' : Hp} (s : Same H H') {us : List V} {ls : List (List Nat)} (h : OnsR H us ls) : OnsR H' us ls := Paired.mapP h fun _ _ ⟨a, e, h1⟩ => ⟨a, e, s _ _ h1⟩
theorem onsKept {H H' : Hp} {p : Addr} (s : ∀ b o, b ≠ p → H b = some o → H' b = some o) (hp : ∀ kvs, H p ≠ some (.dK kvs)) {us : List V} {ls : List (List Nat)} (h : OnsR H us ls) : OnsR H' us ls := Paired.mapP h fun _ _ ⟨a, e, h1⟩ => ⟨a, e, s _ _ (fun z => hp _ (z ▸ h1)) h1⟩
theorem onget {H : Hp} {d : Addr} {ns : List Nat} {n : Nat} (h : H d = some (.dK (ones ns))) : DGet H d (vn n) (if n ∈ ns then some (.bl true) else none) := ones_get n ns ▸ DGet.k (k := (Sum.inl ((n : Nat) : Int) : L2.Key)) h
theorem onb {n : Nat} {ns : List Nat} : (if n ∈ ns then some (V.bl true) else none : Option V).isSome = decide (n ∈ ns) := by
  by_cases c : n ∈ ns
  · rw [if_pos c, decide_eq_true c]; rfl
  · rw [if_neg c, decide_eq_false c]; rfl
/-- a dict comprehension over a walk -/
theorem dcP_it {J : It} {n : Nat} {G : Hp → Prop} {Y : Nat → Hp → V → Hp → Prop} (w : Walk J n G Y) {o0 : HO} {g : TG} {tt : TT} {tk tv : TE} {vs : List Nat} {σ : L2.St} {H1 : Hp} {D : Addr} {Qd : Hp → Prop} (Pv : Nat → Hp → Prop) (h0 : Pv 0 (upd H1 D o0)) (hG : ∀ i H, i ≤ n → Pv i H → G H)
    (hs : ∀ i x H H', i < n → Pv i H → Y i H x H' → g x (wipe σ vs) H' fun τ G2 => wipe τ vs = wipe σ vs ∧ tt τ G2 fun b G3 => if b = true then tk τ G3 fun y G4 => tv τ G4 fun z G5 => ∃ G6, DPut G5 D y z G6 ∧ Pv (i + 1) G6 else Pv (i + 1) G3) (hd : ∀ H, Pv n H → Qd H) :
    ∃ W : Nat → Nat → Hp → Prop, (∃ m, W 0 m (upd H1 D o0)) ∧ ∀ i m G, W i m G → (J.stop i G ∧ Qd G) ∨
      (J.go i G ∧ ∃ Nx : Hp → Prop, (∀ G', Nx G' → ∃ m', m' < m ∧ W (i + 1) m' G') ∧ ∀ x G', J.yld i G x G' → g x (wipe σ vs) G' fun τ G2 => wipe τ vs = wipe σ vs ∧ tt τ G2 fun b G3 => if b = true then tk τ G3 fun y G4 => tv τ G4 fun z G5 => ∃ G6, DPut G5 D y z G6 ∧ Nx G6 else Nx G3) := by
  refine ⟨fun i m H => m = n - i ∧ i ≤ n ∧ Pv i H, ⟨n, by simp, Nat.zero_le _, h0⟩, ?_⟩
  rintro i m H ⟨rfl, hi, p⟩
  have q := hG i H hi p
  by_cases hlt : i < n
  · refine .inr ⟨w.goes i H hlt q, Pv (i + 1), fun H' p' => ⟨n - (i + 1), by omega, rfl, hlt, p'⟩, fun x H' y => hs i x H H' hlt p (w.yields i H x H' hlt q y)⟩
  · have e : i = n := by omega
    subst e
    exact .inl ⟨w.stops H q, hd H p⟩
/-- {n: True for n in a tuple} -/
theorem dc_ones {K : PySem.W.Frag} {a D : Addr} {ns : List Nat} {g : TG} {tt : TT} {tk tv : TE} {vs : List Nat} {σ : L2.St} {H1 : Hp} {Qd : Hp → Prop} (ha : TN H1 a ns) (nD : H1 D = none) (nd : ns.Nodup) (hl : ns.length ≤ 1000)
    (hs : ∀ (n : Nat) (H : Hp) (Z : Hp → Prop), (∃ G6, DPut H D (vn n) (.bl true) G6 ∧ Z G6) → g (vn n) (wipe σ vs) H fun τ G2 => wipe τ vs = wipe σ vs ∧ tt τ G2 fun b G3 => if b = true then tk τ G3 fun y G4 => tv τ G4 fun z G5 => ∃ G6, DPut G5 D y z G6 ∧ Z G6 else Z G3)
    (hd : ∀ H, Same H1 H → H D = some (.dK (ones ns)) → Qd H) :
    ∃ W : Nat → Nat → Hp → Prop, (∃ m, W 0 m (upd H1 D (.dK []))) ∧ ∀ i m G, W i m G → ((Itt K a).stop i G ∧ Qd G) ∨
      ((Itt K a).go i G ∧ ∃ Nx : Hp → Prop, (∀ G', Nx G' → ∃ m', m' < m ∧ W (i + 1) m' G') ∧ ∀ x G', (Itt K a).yld i G x G' → g x (wipe σ vs) G' fun τ G2 => wipe τ vs = wipe σ vs ∧ tt τ G2 fun b G3 => if b = true then tk τ G3 fun y G4 => tv τ G4 fun z G5 => ∃ G6, DPut G5 D y z G6 ∧ Nx G6 else Nx G3) := by
  refine dcP_it (walk_tup (xs := ns.map vn)) (fun m H' => Same H1 H' ∧ H' D = some (.dK (ones (ns.take m)))) ⟨smUpd nD, upd_same⟩ (fun m H' _ z => tnL (z.1 _ _ ha)) ?_ ?_
  · rintro m x H H' hm ⟨sm, hD⟩ ⟨rfl, hx⟩
    obtain ⟨n, hn, rfl⟩ := vn_get hx
    refine hs n _ _ ⟨_, DPut.k (k := (Sum.inl ((n : Nat) : Int) : L2.Key)) hD (small1000 (by rw [ones_len, List.length_take]; omega)), smOver nD sm, ?_⟩
    rw [upd_same, ones_put (nd_take nd hn), List.take_add_one, hn]
    rfl
  · rintro H3 ⟨sm, hD⟩
    rw [List.length_map, List.take_length] at hD
    exact hd H3 sm hD
end Cn
namespace Cn
open PySem PySem.Spec PyProof.Rows L2 Ck
theorem foKept {C : Addr} {H H' : Hp} {p c a : Addr} {cells : List Int} {f : Fo} (hI : HandIn H p c cells) (k : Kept p H H') (h : FoAt C H a f) : FoAt C H' a f := by
  obtain ⟨dx, ap, ab, aa, h1, h2, h3, h4⟩ := h
  have ne : a ≠ p := fun z => by
    obtain ⟨_, _, _, _, e, _⟩ := hI.ob
    rw [← z, h1] at e; cases e
  exact ⟨dx, ap, ab, aa, k _ _ ne h1, k _ _ (tup_ne hI h2) h2, k _ _ (tup_ne hI h3) h3, k _ _ (tup_ne hI h4) h4⟩
/-- one of two numbers -/
theorem pickN {c : Prop} {_ : Decidable c} {σ : L2.St} {H : Hp} {Q : VK} {a b : Nat} (k : ∀ n : Nat, n = a ∨ n = b → Q (vn n) H) : if c then tC (.int (a : Int)) σ H Q else tC (.int (b : Int)) σ H Q := by
  by_cases h : c
  · rw [if_pos h]; exact k a (.inl rfl)
  · rw [if_neg h]; exact k b (.inr rfl)
def dNote (q : List Nat × List Nat) : PyData := .tuple [.tuple (dn q.1), .tuple (dn q.2)]
theorem dpNotes {K : PySem.W.Frag} {H : Hp} : ∀ {us : List V} {ns : List (List Nat × List Nat)}, NotesR H us ns → DpAll K H us (ns.map dNote)
  | _, _, .nil => .nil
  | _, _, .cons h t => by
    obtain ⟨a, x, y, rfl, h1, h2, h3⟩ := h
    exact .cons (.tup (.inl (.inl h1)) (.cons (.tup (tnL h2) (dpN _)) (.cons (.tup (tnL h3) (dpN _)) .nil))) (dpNotes t)
theorem dNoteLay : ∀ ns : List (List Nat × List Nat), PyData.canLayAll0 (ns.map dNote) = true
  | [] => rfl
  | q :: ns => by
    show ((PyData.canLayAll0 (dn q.1) && (PyData.canLayAll0 (dn q.2) && true)) && PyData.canLayAll0 (ns.map dNote)) = true
    rw [dNoteLay ns, dnLay, dnLay]; rfl
theorem dNoteDepth : ∀ ns : List (List Nat × List Nat), PyData.depthAll (ns.map dNote) ≤ 2
  | [] => by simp [PyData.depthAll]
  | q :: ns => by
    have h1 := dNoteDepth ns
    show max (max (PyData.depthAll (dn q.1) + 1) (max (PyData.depthAll (dn q.2) + 1) 0) + 1) (PyData.depthAll (ns.map dNote)) ≤ 2
    rw [dnDepth, dnDepth]
    omega
theorem dNoteSh (ns : List (List Nat × List Nat)) : SeqAt.shaped (.tuple (ns.map dNote)) = true := by
  show (PyData.canLayAll0 (ns.map dNote) && decide (PyData.depthAll (ns.map dNote) + 1 ≤ 64)) = true
  have := dNoteDepth ns
  rw [dNoteLay, decide_eq_true (by omega)]; rfl
theorem dNoteEq (ns : List (List Nat × List Nat)) : PyData.eqv (.tuple (ns.map dNote)) (.tuple (ns.map dNote)) = true := SeqAt.eqv_refl (.tuple (ns.map dNote)) (dNoteLay ns)
section
variable {P : Program} {w : World} {K : PySem.W.Frag} {mg : Str → Option Value} {base : Heap} {C : Addr}
theorem dHand (B : Defs K mg C) : Def P w K mg base "_law_hand" 1 ["_law_script"] (spHand K) := def_of B.ha fun f fd F => ok_hand F (nOf B).abs (nOf B).int (nOf B).is.len
def spLaw (K : PySem.W.Frag) : Sp := fun vs H Q _ => ∃ (a : Addr) (ns : List Int), vs = [.ref a] ∧ SqL K H a (ns.map V.int) ∧ ns.length ≤ 63 ∧ ∀ H', Q (.bl true) H'
end
end Cn
namespace L2
open PySem PySem.Spec PyProof.Rows
/-! own == that may tell no -/
def spEqC (R : Addr → Addr → Bool → Hp → Prop) : Sp := fun vs H Q _ => ∃ a b c, vs = [.ref a, .ref b] ∧ R a b c H ∧ ∀ H', Ext H H' → Q (.bl c) H'
def rEqC (C : Addr) (R : Addr → Addr → Bool → Hp → Prop) : R2 := fun x y H Q => ∃ a b c dx dy fs gs, x = .ref a ∧ y = .ref b ∧ H a = some (.ins C dx fs) ∧ H b = some (.ins C dy gs) ∧ R a b c H ∧ ∀ H', Ext H H' → Q (.bl c) H'
section
variable {X : Cx} {n : Nat}
theorem op_eqC {CX : CXT} {C f : Addr} {fd : FuncData} {ps : List Str} {R : Addr → Addr → Bool → Hp → Prop} {E : XK} (F : FnOk X.prog X.w X.K X.mg X.base CX n f fd ps (spEqC R))
    (hs : PySem.W.findIn X.K (.ref C) "__eq__" = some (some (.ref f))) (hf : PySem.W.isFn X.K (.ref f) = true) (hb : Binds X.K fd ps []) (hx : Passes CX X E) (hr : Room n X.A) : OpR X (compareOp .Eq) (rEqC C R) := by
  intro pins s σ H x y v u Q I rx ry hq
  obtain ⟨a, b, c, dx, dy, fs, gs, rfl, rfl, ha, hb', hR, q⟩ := hq
  cases rx
  cases ry
  show wpAny (model X.prog X.w) X.A (richCompare .Eq (.ref a) (.ref b)) (EP X pins σ Q) X.xe s
  obtain ⟨mA, J, _⟩ := ins_get I.hok ha
  obtain ⟨mB, J', _⟩ := ins_get I.hok hb'
  obtain ⟨od, J, _⟩ := J.look
  obtain ⟨od', J', _⟩ := J'.look
  obtain ⟨m, hF⟩ := I.fr
  refine PySem.W.cmp_K (op := .Eq) (tb := .ref C) hr.units0 hF I.ok.mod.kin J J'.type (by simp [PySem.W.notFirst]) hs hf ?_
  have hsp : spEqC R [.ref a, .ref b] H (fun v H' => v = .bl c ∧ Ext H H') E := ⟨a, b, c, rfl, hR, fun H' e => ⟨rfl, e⟩⟩
  have hl := F.len _ _ _ _ hsp
  have r2 : Vals [V.ref a, V.ref b] [Value.ref a, Value.ref b] := .cons rfl (.cons rfl .nil)
  refine wpAny_call (codeAny_mono (F.run X.A X.stack s H ⟨[.ref a, .ref b], []⟩ [.ref a, .ref b] [.ref a, .ref b] _ E hr I.env0 (by
    have := hb s [.ref a, .ref b] I.kIn (by simpa using hl)
    simpa using this) r2 hsp) fun r s' hq => ?_)
  cases r with
  | error e => exact hx pins σ H s e s' I hq
  | ok fl =>
    cases fl with
    | ret w =>
      obtain ⟨z, H', I', rz, ez, ex⟩ := I.after hq
      subst ez
      cases rz
      exact ⟨.bl c, H', I', rfl, q H' ex⟩
    | next => exact False.elim hq
    | brk => exact False.elim hq
    | cont => exact False.elim hq
end
end L2
namespace Cn
open PySem PySem.Spec PyProof.Rows L2 Ck
theorem dnEqvB : ∀ {a b : List Nat}, PyData.eqvAll (dn a) (dn b) = true → a = b
  | [], [], _ => rfl
  | [], y :: b, h => by
    have : PyData.eqvAll (dn []) (dn (y :: b)) = false := by simp [dn, PyData.eqvAll]
    rw [this] at h; cases h
  | x :: a, [], h => by
    have : PyData.eqvAll (dn (x :: a)) (dn []) = false := by simp [dn, PyData.eqvAll]
    rw [this] at h; cases h
  | x :: a, y :: b, h => by
    have e : PyData.eqvAll (dn (x :: a)) (dn (y :: b)) = (PyData.eqv (.int ((x : Nat) : Int)) (.int ((y : Nat) : Int)) && PyData.eqvAll (dn a) (dn b)) := by
      show PyData.eqvAll (PyData.int _ :: dn a) (PyData.int _ :: dn b) = _
      rw [PyData.eqvAll]
    rw [e, Bool.and_eq_true] at h
    have e2 : PyData.eqv (.int ((x : Nat) : Int)) (.int ((y : Nat) : Int)) = (((x : Nat) : Int) == ((y : Nat) : Int)) := by rw [PyData.eqv]
    rw [e2, beq_iff_eq] at h
    rw [dnEqvB h.2, show x = y by omega]
theorem dnEqD (a b : List Nat) : PyData.eqv (.tuple (dn a)) (.tuple (dn b)) = decide (a = b) := by
  by_cases c : a = b
  · subst c
    rw [dnEqT, decide_eq_true rfl]
  · rw [decide_eq_false c]
    cases h : PyData.eqv (.tuple (dn a)) (.tuple (dn b)) with
    | false => rfl
    | true => exact absurd (dnEqvB (by simpa only [PyData.eqv] using h)) c
theorem dParEqD (a b : List (Option Nat)) : PyData.eqv (.tuple (dPar a)) (.tuple (dPar b)) = decide (a = b) := by
  by_cases c : a = b
  · subst c
    rw [show PyData.eqv (.tuple (dPar a)) (.tuple (dPar a)) = true from SeqAt.eqv_refl (.tuple (dPar a)) (dParLay _), decide_eq_true rfl]
  · rw [decide_eq_false c]
    cases h : PyData.eqv (.tuple (dPar a)) (.tuple (dPar b)) with
    | false => rfl
    | true => exact absurd (dParEqT h) c
def nEqM : List Str := ["self", "other"]
theorem scEqM : FnScope nEqM ["self", "other"] (defScope sEqM) := ⟨rfl, rfl, rfl, by decide +kernel, rfl, by decide +kernel, by decide +kernel⟩
def foB (f g : Fo) : Bool := decide (f.ps = g.ps) && (decide (f.be = g.be) && decide (f.as = g.as))
def FoCmp (C : Addr) (a b : Addr) (c : Bool) (H : Hp) : Prop := ∃ f g, FoAt C H a f ∧ FoAt C H b g ∧ c = foB f g
section
variable {P : Program} {w : World} {K : PySem.W.Frag} {mg : Str → Option Value} {base : Heap} {C : Addr}
theorem ok_eqC (B : Defs K mg C) {f : Addr} {fd : FuncData} (F : Fun K "__eq__" "Forest.__eq__" sEqM f fd) : FnOk P w K mg base CX0 1 f fd ["self", "other"] (spEqC (FoCmp C)) := by
  have N := B.N
  have T := B.T
  refine F.ok scEqM (fun vs H Q E h => ?_) (fun cdv A outer s H vs Q E hr h => ?_)
  · obtain ⟨a, b, c, rfl, _⟩ := h
    rfl
  · obtain ⟨a, b, c, rfl, ⟨fo, go, ⟨dx, ap, ab, aa, h0, h1, h2, h3⟩, ⟨dy, bp, bb, ba, g0, g1, g2, g3⟩, rfl⟩, k⟩ := h
    refine ⟨_, pss_one (ps_ret (pe_and (pe_callB call_isi (by rfl) N.is.inst (by decide +kernel) (pa_cons (pv 1) (pa_cons (pe_glob (v := .ref C) (by rfl) T.mgC rfl) pa_nil)))
      (pe_and (pe_cmpR (op_eqD hr.units) (pe_fld (pv 0) rfl) (pe_fld (pv 1) rfl) (nomark _))
      (pe_and (pe_cmpR (op_eqD hr.units) (pe_fld (pv 0) rfl) (pe_fld (pv 1) rfl) (nomark _))
      (pe_one (pe_cmpR (op_eqD hr.units) (pe_fld (pv 0) rfl) (pe_fld (pv 1) rfl) (nomark _))))))), ?_⟩
    refine ⟨_, rfl, _, .ref C, _, _, true, rfl, .own C, .base (.ins g0 T.cl B.ty5.1 B.ty5.2.1 B.ty5.2.2.1 B.ty5.2.2.2), kitSelf, true, rfl, ?_⟩
    refine ifT rfl ?_
    refine ⟨_, rfl, a, C, dx, _, _, rfl, h0, T.cl, T.nP, fP, _, rfl, b, C, dy, _, _, rfl, g0, T.cl, T.nP, fP, _, _, .tup (tpL h1) (dpPar _), .tup (tpL g1) (dpPar _), dParSh _, dParSh _, ?_⟩
    rw [dParEqD]
    refine ⟨_, rfl, ?_⟩
    by_cases c1 : fo.ps = go.ps
    · refine ifT (decide_eq_true c1) ?_
      refine ⟨_, rfl, a, C, dx, _, _, rfl, h0, T.cl, T.nB, fB, _, rfl, b, C, dy, _, _, rfl, g0, T.cl, T.nB, fB, _, _, .tup (tnL h2) (dpN _), .tup (tnL g2) (dpN _), dnShT _, dnShT _, ?_⟩
      rw [dnEqD]
      refine ⟨_, rfl, ?_⟩
      by_cases c2 : fo.be = go.be
      · refine ifT (decide_eq_true c2) ?_
        refine ⟨_, rfl, a, C, dx, _, _, rfl, h0, T.cl, T.nA, fA, _, rfl, b, C, dy, _, _, rfl, g0, T.cl, T.nA, fA, _, _, .tup (tnL h3) (dpN _), .tup (tnL g3) (dpN _), dnShT _, dnShT _, ?_⟩
        rw [dnEqD]
        have := k H Ext.rfl'
        unfold foB at this
        rw [decide_eq_true c1, decide_eq_true c2, Bool.true_and, Bool.true_and] at this
        exact this
      · refine ifF (by rw [decide_eq_false c2]; decide) ?_
        have := k H Ext.rfl'
        unfold foB at this
        rw [decide_eq_true c1, decide_eq_false c2, Bool.true_and, Bool.false_and] at this
        exact this
    · refine ifF (by rw [decide_eq_false c1]; decide) ?_
      have := k H Ext.rfl'
      unfold foB at this
      rw [decide_eq_false c1, Bool.false_and] at this
      exact this
end
end Cn
namespace Cn
open PySem PySem.Spec PyProof.Rows L2 Ck
/-! tables -/
def TbR (H : Hp) (us : List V) (L : List (List Nat)) : Prop := Paired (fun (v : V) (ns : List Nat) => ∃ t, v = .ref t ∧ TN H t ns) us L
theorem tbSame {H H' : Hp} {us : List V} {L : List (List Nat)} (s : Same H H') (h : TbR H us L) : TbR H' us L := Paired.mapP h fun _ _ ⟨t, e, h⟩ => ⟨t, e, s _ _ h⟩
structure TbOk (L : List (List Nat)) : Prop where
  l0 : 1 ≤ L.length
  l1 : L.length ≤ 20
  asc : ∀ ns ∈ L, ns.Pairwise (· < ·)
  lt : ∀ ns ∈ L, ∀ x ∈ ns, x < 30
theorem pairGetT {α β : Type} {F : α → β → Prop} : ∀ {xs : List α} {ys : List β} {i : Nat} {x : α}, Paired F xs ys → xs[i]? = some x → ∃ y, ys[i]? = some y ∧ F x y
  | _, _, i, x, .nil, h => by rw [List.getElem?_nil] at h; cases h
  | _, _, 0, x, .cons a t, h => by cases h; exact ⟨_, rfl, a⟩
  | _, _, i + 1, x, .cons a t, h => by
    rw [List.getElem?_cons_succ] at h
    obtain ⟨y, h1, h2⟩ := pairGetT t h
    exact ⟨y, by rw [List.getElem?_cons_succ]; exact h1, h2⟩
section
variable {P : Program} {w : World} {K : PySem.W.Frag} {mg : Str → Option Value} {base : Heap} {C : Addr}
theorem dLotS (B : Defs K mg C) : Def P w K mg base "is_lot" 2 ["thing"] spIsLot := by
  obtain ⟨fI, fdI, DI⟩ := B.I
  exact def_of B.L fun f fd F => ok_isLot F B.N DI
def spIsTable : Sp := fun vs H Q _ => ∃ (a : Addr) (us : List V) (L : List (List Nat)), vs = [.ref a] ∧ H a = some (.tup us) ∧ TbR H us L ∧ TbOk L ∧ ∀ H', Same H H' → Q (.bl true) H'
def nIsTable : List Str := ["thing", "item"]
theorem scIsTable : FnScope nIsTable ["thing"] (defScope sIsTable) := ⟨rfl, rfl, rfl, by decide +kernel, rfl, by decide +kernel, by decide +kernel⟩
theorem dIsTable (B : Defs K mg C) : Def P w K mg base "is_table" 3 ["thing"] spIsTable := by
  obtain ⟨fL, fdL, GL, gL, kL, bL⟩ := dLotS (P := P) (w := w) (base := base) B
  obtain ⟨tA, mA⟩ := B.mAm
  obtain ⟨tB, mB⟩ := B.mAsk
  have N := B.N
  have nd := scIsTable.nd
  refine def_of B.ist fun f fd F => ?_
  refine F.ok scIsTable (fun vs H Q E h => ?_) (fun cdv A outer s H vs Q E hr h => ?_)
  · obtain ⟨a, us, L, rfl, _⟩ := h
    rfl
  · obtain ⟨a, us, L, rfl, ha, hT, ok, k⟩ := h
    refine ⟨_, pss_cons (ps_if (PW.pt (pw_or (pt_not (pt_val (pe_callB call_isi (by rfl) N.is.inst (by decide +kernel) (pa_cons (pv 0) (pa_cons (pe_bltn (v := .ty "tuple") (by rfl) N.is.tup (by decide +kernel) rfl) pa_nil)))))
          (pw_or1 (pt_not (pt_chain op_le op_le pe_int (pe_callB call_len_seq (by rfl) N.is.len PySem.boot_len (pa_cons (pv 0) pa_nil)) (pe_glob (v := .int 20) (by rfl) mA ⟨_, rfl⟩)))))) (pss_one ps_never) pss_nil)
      (pss_one (ps_ret (pe_callB (r := rAll K) (cr_all rfl) (by rfl) N.is.all (by decide +kernel) (pa_cons (pe_lc (own := [("item", 1)]) (g := gName 1) (tt := tYes) (te := tAndV (tCall spIsLot [] (fun _ _ _ => False) (tCons (tVar 1) tNil)) (tOrV (tNotT K (tVar 1)) (tAndV (tOp (rI0 fun i j => V.bl (decide (i ≤ j))) (tC (.int 0)) (tOp (rIxT K) (tVar 1) (tC (.int 0)))) (tOp (rI0 fun i j => V.bl (decide (i ≤ j))) (tOp (rIxT K) (tVar 1) (tUn (rU fun i => V.int (-i)) (tC (.int 1)))) (tC (.int 29)))))) rfl nd (pi_tup (pv 0))
        (blkOk_by (N := nIsTable) (sc := defScope sIsTable) (by decide +kernel)) (fun _ _ _ _ _ => pg_name (i := 1) nd rfl (Or.inl rfl)) (fun _ _ _ _ _ => pts_nil)
        (fun _ _ _ _ _ => pe_and (pe_call GL hr (by rfl) gL kL bL .nil pass0 (pa_cons (pv 1) pa_nil)) (pe_one (pe_or (pe_notT (pv 1)) (pe_one (pe_and (pe_cmpR op_le pe_int (pe_ix (r := rIxT K) ix_tup (pv 1) pe_int (fun _ _ => rfl)) (nomark _)) (pe_one (pe_cmpR op_le (pe_ix (r := rIxT K) ix_tup (pv 1) (pe_un un_neg pe_int) (fun _ _ => rfl)) (pe_glob (v := .int 29) (by rfl) mB ⟨_, rfl⟩) (nomark _))))))))) pa_nil)))), ?_⟩
    have lu : us.length = L.length := Paired.length hT
    have l0 := ok.l0
    have l1 := ok.l1
    refine ⟨_, rfl, _, .ty "tuple", _, _, true, rfl, .ty _, tupTy ha, kit_ty (by decide +kernel), true, rfl, ?_⟩
    refine ifF (by decide) ?_
    refine ⟨_, rfl, a, _, rfl, .inr (.inl (.inl ha)), _, _, rfl, rfl, _, rfl, ?_⟩
    refine ifT (decide_eq_true (show ((1 : Int) ≤ (us.length : Int)) from by omega)) ?_
    refine ⟨_, _, rfl, rfl, _, rfl, ?_⟩
    refine ifF (by rw [decide_eq_true (show ((us.length : Int) ≤ (20 : Int)) from by omega)]; decide) ?_
    refine ⟨_, rfl, a, rfl, ⟨_, .inl (.inl ha)⟩, fun D nD => ?_⟩
    refine lc_tup (xs := us) (fun m G => Same H G ∧ G D = some (.lst ((List.replicate m true).map V.bl))) ⟨smUpd nD, upd_same⟩ (fun m G _ z => .inl (.inl (z.1 _ _ ha))) ?_ ?_
    · rintro m x G hx ⟨sm, hD⟩
      obtain ⟨ns, hns, t, rfl, ht⟩ := pairGetT (tbSame sm hT) hx
      have hm := (List.getElem?_eq_some_iff.mp hns).1
      have mem := List.mem_of_getElem? hns
      have asc := ok.asc ns mem
      have lt := ok.lt ns mem
      have len := lotLen asc lt
      refine ⟨rfl, ?_⟩
      show tYes _ _ _
      have fin : ∀ (G2 : Hp) (b : Bool), Same G G2 → b = true → ∃ acc, G2 D = some (.lst acc) ∧ acc.length < sizeLine ∧ Same H (upd G2 D (.lst (acc ++ [V.bl b]))) ∧ upd G2 D (.lst (acc ++ [V.bl b])) D = some (.lst ((List.replicate (m + 1) true).map V.bl)) := fun G2 b s2 hb =>
        ⟨_, s2 _ _ hD, small1000 (by rw [List.length_map, List.length_replicate]; omega), smOver nD (sm.trans s2), by rw [upd_same, List.replicate_succ', List.map_append, hb]; rfl⟩
      refine ⟨_, rfl, t, ns, rfl, ht, asc, by omega, fun G2 s2 => ⟨true, rfl, ?_⟩⟩
      refine ifT rfl ?_
      have ht2 := s2 _ _ ht
      refine ⟨_, rfl, _, .inr (.inl ⟨_, tnL ht2, rfl⟩), _, rfl, ?_⟩
      by_cases hne : ns = []
      · refine ifT (by rw [hne]; rfl) ?_
        exact fin G2 _ s2 rfl
      obtain ⟨q, h0⟩ : ∃ q, ns[0]? = some q := ⟨_, List.getElem?_eq_getElem (List.length_pos_iff.mpr hne)⟩
      have hem : (ns.map vn).isEmpty = false := by
        cases ns with
        | nil => exact absurd rfl hne
        | cons _ _ => rfl
      refine ifF (by rw [hem]; decide) ?_
      refine ⟨_, rfl, t, _, (0 : Int), _, rfl, rfl, tnL ht2, vn_ix (i := 0) h0, _, _, rfl, rfl, _, rfl, ?_⟩
      refine ifT (by rw [decide_eq_true_iff]; show (0 : Int) ≤ ((q : Nat) : Int); omega) ?_
      have hg := lt _ (List.getLast_mem hne)
      have el := vn_last hne rfl
      refine ⟨_, rfl, _, rfl, t, _, _, _, rfl, rfl, tnL ht2, el, _, _, rfl, rfl, ?_⟩
      exact fin G2 _ s2 (decide_eq_true (show (((ns.getLast hne : Nat) : Int)) ≤ (29 : Int) from by omega))
    · rintro G ⟨sm, hD⟩
      refine ⟨D, List.replicate us.length true, rfl, .inl (.inl hD), ?_⟩
      rw [show (List.replicate us.length true).all id = true from by rw [List.all_eq_true]; intro b hb; rw [List.eq_of_mem_replicate hb]; rfl]
      exact k G sm
end
end Cn
namespace Cn
open PySem PySem.Spec PyProof.Rows L2 Ck
def comL (one other : List Nat) : List Nat := one.filter fun x => decide (x ∈ other)
def crossB (one other : List Nat) : Bool := decide (0 < (comL one other).length ∧ (comL one other).length < min one.length other.length)
theorem filterTakeS {α : Type} {c : α → Bool} {xs : List α} {m : Nat} {x : α} (h : xs[m]? = some x) : (xs.take (m + 1)).filter c = (xs.take m).filter c ++ if c x = true then [x] else [] := by
  rw [List.take_add_one, h, List.filter_append]
  by_cases e : c x = true
  · rw [if_pos e]; simp [e]
  · rw [if_neg e]; simp [e]
section
variable {P : Program} {w : World} {K : PySem.W.Frag} {mg : Str → Option Value} {base : Heap} {C : Addr}
def spAreCr : Sp := fun vs H Q _ => ∃ (a b : Addr) (one other : List Nat), vs = [.ref a, .ref b] ∧ TN H a one ∧ TN H b other ∧ one.length ≤ 60 ∧ other.length ≤ 60 ∧ ∀ H', Same H H' → Q (.bl (crossB one other)) H'
def nAreCr : List Str := ["one", "other", "common", "ask"]
theorem scAreCr : FnScope nAreCr ["one", "other"] (defScope sAreCr) := ⟨rfl, rfl, rfl, by decide +kernel, rfl, by decide +kernel, by decide +kernel⟩
theorem dAreCr (B : Defs K mg C) : Def P w K mg base "_are_crossing" 1 ["one", "other"] spAreCr := by
  have N := B.N
  have nd := scAreCr.nd
  refine def_of B.acr fun f fd F => ?_
  refine F.ok scAreCr (fun vs H Q E h => ?_) (fun cdv A outer s H vs Q E hr h => ?_)
  · obtain ⟨a, b, one, other, rfl, _⟩ := h
    rfl
  · obtain ⟨a, b, one, other, rfl, ha, hb, l1, l2, k⟩ := h
    refine ⟨_, pss_cons (ps_setLc (i := 2) (own := [("ask", 3)]) (g := gName 3) (tt := tTest (tOp (rIn K false) (tVar 3) (tVar 1))) (te := tVar 3) rfl nd rfl rfl (sw_true rfl rfl rfl (by decide +kernel)) (pi_tup (pv 0))
          (blkOk_by (N := nAreCr) (sc := defScope sAreCr) (by decide +kernel)) (fun _ _ _ _ _ => pg_name (i := 3) nd rfl (Or.inl rfl)) (fun _ _ _ _ _ => pts_one (pt_cmpR op_in_seq (pv 3) (pv 1) (by rfl))) (fun _ _ _ _ _ => pv 3))
      (pss_one (ps_ret (pe_chain op_lt op_lt pe_int (pe_callB call_len_seq (by rfl) N.is.len PySem.boot_len (pa_cons (pv 2) pa_nil)) (pe_callB (call_min2 rfl) (by rfl) N.min (by decide +kernel) (pa_cons (pe_callB call_len_seq (by rfl) N.is.len PySem.boot_len (pa_cons (pv 0) pa_nil)) (pa_cons (pe_callB call_len_seq (by rfl) N.is.len PySem.boot_len (pa_cons (pv 1) pa_nil)) pa_nil)))))), ?_⟩
    obtain ⟨g, hg⟩ : ∃ g : Nat → Bool, g = fun x => decide (x ∈ other) := ⟨_, rfl⟩
    have ek : comL one other = one.filter g := by rw [hg]; rfl
    refine ⟨_, rfl, a, rfl, ⟨_, tnL ha⟩, fun D nD => ?_⟩
    refine lc_tup (xs := one.map vn) (fun m G => Same H G ∧ G D = some (.lst (((one.take m).filter g).map vn))) ⟨smUpd nD, upd_same⟩ (fun m G _ z => tnL (z.1 _ _ ha)) ?_ ?_
    · rintro m x G hx ⟨sm, hD⟩
      obtain ⟨y, hy, rfl⟩ := vn_get hx
      have et := filterTakeS (c := g) hy
      have fl : ((one.take m).filter g).length ≤ 60 := by
        have q1 := List.length_filter_le g (one.take m)
        rw [List.length_take] at q1
        omega
      refine ⟨rfl, _, rfl, _, rfl, b, _, rfl, .inr (tnL (sm _ _ hb)), rfl, vn_flat _, _, rfl, ?_⟩
      by_cases c : y ∈ other
      · refine ifT (by show inV (vn y) _ = true; rw [inV_vn]; exact decide_eq_true c) ?_
        refine ⟨_, rfl, _, hD, small1000 (by rw [List.length_map]; omega), smOver nD sm, ?_⟩
        rw [upd_same, et, if_pos (by rw [hg]; exact decide_eq_true c), List.map_append]
        rfl
      · refine ifF (by rw [inV_vn]; simpa using c) ⟨sm, ?_⟩
        rw [et, if_neg (by rw [hg]; simpa using c), List.append_nil]
        exact hD
    · rintro G ⟨sm, hD⟩
      rw [List.length_map, List.take_length, ← ek] at hD
      refine ⟨_, rfl, D, _, rfl, .inl (.inl (.inl hD)), _, _, rfl, rfl, _, rfl, ?_⟩
      rw [List.length_map]
      have k := k G sm
      unfold crossB at k
      by_cases c0 : 0 < (comL one other).length
      rotate_left
      · refine ifF (by rw [decide_eq_true_iff]; show ¬ ((0 : Int) < ((comL one other).length : Int)); omega) ?_
        rw [decide_eq_false (fun z => c0 z.1)] at k
        exact k
      · refine ifT (decide_eq_true (show ((0 : Int) < ((comL one other).length : Int)) from by omega)) ?_
        refine ⟨_, rfl, a, _, rfl, .inr (tnL (sm _ _ ha)), _, rfl, b, _, rfl, .inr (tnL (sm _ _ hb)), _, _, rfl, ?_⟩
        rw [List.length_map, List.length_map]
        refine ⟨_, _, rfl, rfl, ?_⟩
        have e : decide (((comL one other).length : Int) < (if (other.length : Int) < (one.length : Int) then (other.length : Int) else (one.length : Int))) = decide (0 < (comL one other).length ∧ (comL one other).length < min one.length other.length) := by
          rw [Bool.eq_iff_iff, decide_eq_true_iff, decide_eq_true_iff]
          split <;> omega
        rw [← e] at k
        exact k
/-- the last of the first m lots that holds all of a lot -/
def lastM (lots : List (List Nat)) (lot : List Nat) : Nat → Option Nat
  | 0 => none
  | m + 1 => if (lot.all fun x => decide (x ∈ lots.getD m [])) = true then some m else lastM lots lot m
def spLastW : Sp := fun vs H Q _ => ∃ (a b : Addr) (us : List V) (lots : List (List Nat)) (lot : List Nat), vs = [.ref a, .ref b] ∧ H a = some (.lst us) ∧ TbR H us lots ∧ TN H b lot ∧ lots.length ≤ 60 ∧ lot.length ≤ 60 ∧ ∀ H', Same H H' → Q (vp (lastM lots lot lots.length)) H'
def nLastW : List Str := ["lots", "lot", "found", "number", "other", "ask"]
theorem scLastW : FnScope nLastW ["lots", "lot"] (defScope sLastW) := ⟨rfl, rfl, rfl, by decide +kernel, rfl, by decide +kernel, by decide +kernel⟩
theorem dLastW (B : Defs K mg C) : Def P w K mg base "_last_with" 1 ["lots", "lot"] spLastW := by
  have N := B.N
  have nd := scLastW.nd
  refine def_of B.lsw fun f fd F => ?_
  refine F.ok scLastW (fun vs H Q E h => ?_) (fun cdv A outer s H vs Q E hr h => ?_)
  · obtain ⟨a, b, us, lots, lot, rfl, _⟩ := h
    rfl
  · obtain ⟨a, b, us, lots, lot, rfl, ha, hT, hb, l1, l2, k⟩ := h
    refine ⟨_, pss_cons (ps_set (i := 2) nd rfl (Or.inl rfl) pe_non)
      (pss_cons (ps_for PassesOwn.never rfl (pi_enum (by rfl) N.enum (pa_cons (pv 0) pa_nil)) (pg_tup rfl (pgs_cons (pg_name (i := 3) nd rfl (Or.inl rfl)) (pgs_cons (pg_name (i := 4) nd rfl (Or.inr rfl)) pgs_nil)))
        (pss_one (ps_if (pt_val (pe_callB (r := rAll K) (cr_all rfl) (by rfl) N.is.all (by decide +kernel) (pa_cons (pe_lc (own := [("ask", 5)]) (g := gName 5) (tt := tYes) (te := tOp (rIn K false) (tVar 5) (tVar 4)) rfl nd (pi_tup (pv 1))
            (blkOk_by (N := nLastW) (sc := defScope sLastW) (by decide +kernel)) (fun _ _ _ _ _ => pg_name (i := 5) nd rfl (Or.inl rfl)) (fun _ _ _ _ _ => pts_nil) (fun _ _ _ _ _ => pe_cmpR op_in_seq (pv 5) (pv 4) (by rfl))) pa_nil)))
          (pss_one (ps_set (i := 2) nd rfl (Or.inl rfl) (pv 3))) pss_nil)))
      (pss_one (ps_ret (pv 2)))), ?_⟩
    have lu : us.length = lots.length := Paired.length hT
    refine ⟨_, rfl, a, us, rfl, .inl (.inl ha), ?_⟩
    refine for_it (walk_enum (xs := us)) (fun m σ G => Same H G ∧ ∃ t3 t4, σ = [some (.ref a), some (.ref b), some (vp (lastM lots lot m)), t3, t4, none]) ⟨Same.refl _, none, none, rfl⟩ (fun i σ G _ z => .inl (.inl (z.1 _ _ ha))) ?_ ?_
    · rintro m x σ G G2 hm ⟨sm, t3, t4, rfl⟩ ⟨T1, x1, y1, rfl, nT, rfl, e1, e2⟩
      cases e1
      obtain ⟨ns, hns, t, rfl, ht⟩ := pairGetT hT (show us[m]? = some y1 from e2)
      refine ⟨T1, _, rfl, .inl (.inl upd_same), rfl, _, _, rfl, _, _, rfl, rfl, ?_⟩
      have s2 := sm.trans (smUpd (o := .tup [.int (m : Nat), .ref t]) nT)
      generalize upd G T1 (.tup [.int (m : Nat), .ref t]) = G3 at s2 ⊢
      have ht3 := s2 _ _ ht
      refine ⟨_, rfl, b, rfl, ⟨_, tnL (s2 _ _ hb)⟩, fun D nD => ?_⟩
      refine lc_tup (xs := lot.map vn) (fun i J => Same G3 J ∧ J D = some (.lst (((lot.take i).map fun x => decide (x ∈ ns)).map V.bl))) ⟨smUpd nD, upd_same⟩ (fun i J _ z => tnL (z.1 _ _ (s2 _ _ hb))) ?_ ?_
      · rintro i v J hv ⟨sj, hD⟩
        obtain ⟨y, hy, rfl⟩ := vn_get hv
        have hi := (List.getElem?_eq_some_iff.mp hy).1
        refine ⟨rfl, ?_⟩
        show tYes _ _ _
        refine ⟨_, rfl, _, rfl, t, _, rfl, .inr (tnL (sj _ _ ht3)), rfl, vn_flat _, ?_⟩
        refine ⟨_, hD, small1000 (by rw [List.length_map, List.length_map, List.length_take]; omega), smOver nD sj, ?_⟩
        rw [upd_same, List.take_add_one, hy, List.map_append, List.map_append]
        show some (HO.lst (_ ++ [V.bl (inV (vn y) (ns.map vn))])) = _
        rw [inV_vn]
        rfl
      · rintro J ⟨sj, hD⟩
        rw [List.length_map, List.take_length] at hD
        refine ⟨D, _, rfl, .inl (.inl hD), _, rfl, ?_⟩
        have ea : (lot.map fun x => decide (x ∈ ns)).all id = lot.all fun x => decide (x ∈ lots.getD m []) := by
          rw [List.all_map, List.getD_eq_getElem?_getD, hns]; rfl
        rw [ea]
        by_cases c : (lot.all fun x => decide (x ∈ lots.getD m [])) = true
        · have em : lastM lots lot (m + 1) = some m := by
            show (if _ then some m else _) = _
            rw [if_pos c]
          exact ifT c ⟨_, rfl, s2.trans sj, some (vn m), some (.ref t), by rw [em]; rfl⟩
        · have em : lastM lots lot (m + 1) = lastM lots lot m := by
            show (if _ then some m else _) = _
            rw [if_neg c]
          exact ifF c ⟨s2.trans sj, some (vn m), some (.ref t), by rw [em]; rfl⟩
    · rintro σ G ⟨sm, t3, t4, rfl⟩
      rw [lu]
      exact ⟨_, rfl, k G sm⟩
end
end Cn
namespace Cn
open PySem PySem.Spec PyProof.Rows L2 Ck
/-! the first crossing of a table -/
def crossAt (L : List (List Nat)) (a b : Nat) : Bool := crossB (L.getD a []) (L.getD b [])
def crossRow (L : List (List Nat)) (a : Nat) : Nat → Option Nat
  | 0 => none
  | m + 1 => match crossRow L a m with
    | some b => some b
    | none => if crossAt L a (a + 1 + m) = true then some (a + 1 + m) else none
def crossTo (L : List (List Nat)) : Nat → Option (Nat × Nat)
  | 0 => none
  | m + 1 => match crossTo L m with
    | some p => some p
    | none => (crossRow L m (L.length - (m + 1))).map fun b => (m, b)
/-- once found, found -/
theorem row_stay {L : List (List Nat)} {a m b : Nat} (h : crossRow L a m = some b) : ∀ k, crossRow L a (m + k) = some b
  | 0 => h
  | k + 1 => by
    show (match crossRow L a (m + k) with | some b => some b | none => _) = _
    rw [row_stay h k]
theorem to_stay {L : List (List Nat)} {m : Nat} {p : Nat × Nat} (h : crossTo L m = some p) : ∀ k, crossTo L (m + k) = some p
  | 0 => h
  | k + 1 => by
    show (match crossTo L (m + k) with | some b => some b | none => _) = _
    rw [to_stay h k]
def PairO (H : Hp) (v : V) : Option (Nat × Nat) → Prop
  | none => v = .non
  | some p => ∃ t, v = .ref t ∧ H t = some (.tup [vn p.1, vn p.2])
section
variable {P : Program} {w : World} {K : PySem.W.Frag} {mg : Str → Option Value} {base : Heap} {C : Addr}
def spCross : Sp := fun vs H Q _ => ∃ (a : Addr) (us : List V) (L : List (List Nat)), vs = [.ref a] ∧ H a = some (.tup us) ∧ TbR H us L ∧ TbOk L ∧ ∀ v H', Same H H' → PairO H' v (crossTo L L.length) → Q v H'
def nCross : List Str := ["table", "a", "lot", "b"]
theorem scCross : FnScope nCross ["table"] (defScope sCross) := ⟨rfl, rfl, rfl, by decide +kernel, rfl, by decide +kernel, by decide +kernel⟩
theorem dCross (B : Defs K mg C) : Def P w K mg base "crossing" 4 ["table"] spCross := by
  obtain ⟨fT, fdT, GT, gT, kT, bT⟩ := dIsTable (P := P) (w := w) (base := base) B
  obtain ⟨fA, fdA, GA, gA, kA, bA⟩ := dAreCr (P := P) (w := w) (base := base) B
  have N := B.N
  have nd := scCross.nd
  refine def_of B.crs fun f fd F => ?_
  refine F.ok scCross (fun vs H Q E h => ?_) (fun cdv A outer s H vs Q E hr h => ?_)
  · obtain ⟨a, us, L, rfl, _⟩ := h
    rfl
  · obtain ⟨a, us, L, rfl, ha, hT, ok, k⟩ := h
    have hr1 : Room 1 (A.deeper (envOfC "crossing" (defScope sCross) s.heap.objs.size f cdv)) := Room.mono hr (by decide)
    refine ⟨_, pss_cons (ps_if (pt_not (pt_val (pe_call GT hr (by rfl) gT kT bT .nil pass0 (pa_cons (pv 0) pa_nil)))) (pss_one ps_never) pss_nil)
      (pss_cons (ps_for PassesOwn.never rfl (pi_enumT (by rfl) N.enum (pa_cons (pv 0) pa_nil)) (pg_tup rfl (pgs_cons (pg_name (i := 1) nd rfl (Or.inl rfl)) (pgs_cons (pg_name (i := 2) nd rfl (Or.inl rfl)) pgs_nil)))
        (pss_one (ps_for PassesOwn.never rfl (pi_range2 (by rfl) N.range (pa_cons (pe_op op_add (pv 1) pe_int) (pa_cons (pe_callB call_len_seq (by rfl) N.is.len PySem.boot_len (pa_cons (pv 0) pa_nil)) pa_nil))) (pg_name (i := 3) nd rfl (Or.inl rfl))
          (pss_one (ps_if (pt_val (pe_call GA hr1 (by rfl) gA kA bA .nil pass0 (pa_cons (pv 2) (pa_cons (pe_ix ix_tup (pv 0) (pv 3) (fun _ _ => rfl)) pa_nil)))) (pss_one (ps_ret (pe_tup (pa_cons (pv 1) (pa_cons (pv 3) pa_nil))))) pss_nil)))))
      (pss_one (ps_ret pe_non))), ?_⟩
    have lu : us.length = L.length := Paired.length hT
    have l1 := ok.l1
    refine ⟨_, rfl, a, us, L, rfl, ha, hT, ok, fun H1 s1 => ⟨true, rfl, ?_⟩⟩
    refine ifF (by decide) ?_
    have ha1 := s1 _ _ ha
    have hT1 := tbSame s1 hT
    refine ⟨_, rfl, a, us, rfl, .inl (.inl ha1), ?_⟩
    refine for_it (walk_enumT (xs := us)) (fun m σ G => Same H1 G ∧ crossTo L m = none ∧ ∃ t1 t2 t3, σ = [some (.ref a), t1, t2, t3]) ⟨Same.refl _, rfl, none, none, none, rfl⟩ (fun i σ G _ z => .inl (.inl (z.1 _ _ ha1))) ?_ ?_
    · rintro m x σ G G2 hm ⟨sm, hto, t1, t2, t3, rfl⟩ ⟨T1, x1, y1, rfl, nT, rfl, e1, e2⟩
      cases e1
      obtain ⟨ns, hns, t, rfl, ht⟩ := pairGetT hT1 (show us[m]? = some y1 from e2)
      refine ⟨T1, _, rfl, .inl (.inl upd_same), rfl, _, _, rfl, _, _, rfl, rfl, ?_⟩
      have s2 := sm.trans (smUpd (o := .tup [.int (m : Nat), .ref t]) nT)
      generalize upd G T1 (.tup [.int (m : Nat), .ref t]) = G3 at s2 ⊢
      refine ⟨_, rfl, _, _, rfl, rfl, _, rfl, a, _, rfl, .inr (.inl (.inl (s2 _ _ ha1))), (m : Int) + 1, (us.length : Int), rfl, ⟨by omega, by omega, by omega, by omega⟩, ?_⟩
      rw [show ((us.length : Int) - ((m : Int) + 1)).toNat = L.length - (m + 1) from by omega]
      refine for_range (lo := (m : Int) + 1) (n := L.length - (m + 1)) (fun i σ J => Same H1 J ∧ crossRow L m i = none ∧ ∃ t3, σ = [some (.ref a), some (.int (m : Nat)), some (.ref t), t3]) ⟨s2, rfl, t3, rfl⟩ ?_ ?_
      · rintro i σ J hi ⟨sj, hrow, t3, rfl⟩
        have hb : m + 1 + i < L.length := by omega
        have hub : us[m + 1 + i]? = some us[m + 1 + i] := List.getElem?_eq_getElem (by omega)
        obtain ⟨ms, hms, t', e', ht'⟩ := pairGetT hT1 hub
        have hub' : us[m + 1 + i]? = some (.ref t') := by rw [hub, e']
        have em : ((m : Int) + 1 + (i : Int)) = ((m + 1 + i : Nat) : Int) := by omega
        rw [em]
        have lms := lotLen (ok.asc ms (List.mem_of_getElem? hms)) (ok.lt ms (List.mem_of_getElem? hms))
        have lns := lotLen (ok.asc ns (List.mem_of_getElem? hns)) (ok.lt ns (List.mem_of_getElem? hns))
        refine ⟨_, rfl, _, rfl, _, rfl, a, _, ((m + 1 + i : Nat) : Int), _, rfl, rfl, .inl (.inl (sj _ _ ha1)), atI_nat hub', t, t', ns, ms, rfl, sj _ _ ht, sj _ _ ht', by omega, by omega, fun J2 s3 => ⟨_, rfl, ?_⟩⟩
        have ec : crossAt L m (m + 1 + i) = crossB ns ms := by
          unfold crossAt
          rw [List.getD_eq_getElem?_getD, List.getD_eq_getElem?_getD, hns, hms]; rfl
        rw [← ec]
        by_cases c : crossAt L m (m + 1 + i) = true
        · refine ifT c ?_
          refine ⟨_, rfl, _, rfl, by show 2 ≤ sizeLine; decide, fun q nq => ?_⟩
          have er : crossRow L m (i + 1) = some (m + 1 + i) := by
            show (match crossRow L m i with | some b => some b | none => _) = _
            rw [hrow]
            show (if _ then _ else _) = _
            rw [if_pos c]
          have e1 := row_stay er (L.length - (m + 1) - (i + 1))
          rw [show i + 1 + (L.length - (m + 1) - (i + 1)) = L.length - (m + 1) from by omega] at e1
          have e2 : crossTo L (m + 1) = some (m, m + 1 + i) := by
            show (match crossTo L m with | some p => some p | none => _) = _
            rw [hto]
            show (crossRow L m _).map _ = _
            rw [e1]; rfl
          have e3 := to_stay e2 (L.length - (m + 1))
          rw [show m + 1 + (L.length - (m + 1)) = L.length from by omega] at e3
          refine k _ _ (((s1.trans sj).trans s3).trans (smUpd nq)) ?_
          rw [e3]
          exact ⟨q, rfl, upd_same⟩
        · refine ifF c ⟨sj.trans s3, ?_, _, rfl⟩
          show (match crossRow L m i with | some b => some b | none => _) = _
          rw [hrow]
          show (if _ then _ else _) = _
          rw [if_neg c]
      · rintro σ J ⟨sj, hrow, t3, rfl⟩
        refine ⟨sj, ?_, _, _, _, rfl⟩
        show (match crossTo L m with | some p => some p | none => _) = _
        rw [hto]
        show (crossRow L m _).map _ = _
        rw [hrow]; rfl
    · rintro σ G ⟨sm, hto, t1, t2, t3, rfl⟩
      rw [lu] at hto
      refine k _ _ (s1.trans sm) ?_
      rw [hto]
      rfl
end
end Cn
namespace Cn
open PySem PySem.Spec PyProof.Rows L2 Ck
section
variable {P : Program} {w : World} {K : PySem.W.Frag} {mg : Str → Option Value} {base : Heap} {C : Addr}
def spLIsInt : Sp := fun vs H Q _ => ∃ n a b : Int, vs = [.int n, .int a, .int b] ∧ Q (.bl (decide (a ≤ n ∧ n ≤ b))) H
def nLIsInt : List Str := ["_law_thing", "_law_least", "_law_most"]
theorem scLIsInt : FnScope nLIsInt ["_law_thing", "_law_least", "_law_most"] (defScope sLIsInt) := ⟨rfl, rfl, rfl, by decide +kernel, rfl, by decide +kernel, by decide +kernel⟩
theorem dLIsInt (B : Defs K mg C) : Def P w K mg base "_law_is_int" 1 ["_law_thing", "_law_least", "_law_most"] spLIsInt := by
  have N := B.N
  refine def_of B.lint fun f fd F => ?_
  refine F.ok scLIsInt (fun vs H Q E h => ?_) (fun cdv A outer s H vs Q E hr h => ?_)
  · obtain ⟨n, a, b, rfl, _⟩ := h
    rfl
  · obtain ⟨n, a, b, rfl, k⟩ := h
    refine ⟨_, pss_one (ps_ret (pe_and (pe_callB call_isi (by rfl) N.is.inst (by decide +kernel) (pa_cons (pv 0) (pa_cons (pe_bltn (v := .ty "int") (by rfl) N.int (by decide +kernel) rfl) pa_nil)))
      (pe_and (pe_not (pe_callB call_isi (by rfl) N.is.inst (by decide +kernel) (pa_cons (pv 0) (pa_cons (pe_bltn (v := .ty "bool") (by rfl) N.is.bool (by decide +kernel) rfl) pa_nil)))) (pe_one (pe_chain op_le op_le (pv 1) (pv 0) (pv 2)))))), ?_⟩
    refine ⟨_, rfl, _, .ty "int", _, _, true, rfl, .ty _, .base (.int n), kit_ty (by decide +kernel), true, rfl, ?_⟩
    refine ifT rfl ?_
    refine ⟨_, rfl, _, .ty "bool", _, _, false, rfl, .ty _, .base (.int n), kit_ty (by decide +kernel), _, rfl, _, rfl, ?_⟩
    refine ifT rfl ?_
    refine ⟨_, rfl, _, rfl, _, _, rfl, rfl, _, rfl, ?_⟩
    by_cases c : a ≤ n
    · refine ifT (decide_eq_true c) ?_
      refine ⟨_, rfl, _, _, rfl, rfl, ?_⟩
      rw [show decide (a ≤ n ∧ n ≤ b) = decide (n ≤ b) from by simp [c]] at k
      exact k
    · refine ifF (by rw [decide_eq_false c]; decide) ?_
      rw [show decide (a ≤ n ∧ n ≤ b) = false from by simp [c]] at k
      exact k
def spLCross : Sp := fun vs H Q _ => ∃ (a : Addr) (us : List V) (L : List (List Nat)), vs = [.ref a] ∧ H a = some (.tup us) ∧ TbR H us L ∧ TbOk L ∧ ∀ v H', Same H H' → PairO H' v (crossTo L L.length) → Q v H'
def nLCross : List Str := ["_law_lots", "_law_first", "_law_second", "_law_one", "_law_other", "_law_common", "_law_number"]
theorem scLCross : FnScope nLCross ["_law_lots"] (defScope sLCross) := ⟨rfl, rfl, rfl, by decide +kernel, rfl, by decide +kernel, by decide +kernel⟩
theorem dLCross (B : Defs K mg C) : Def P w K mg base "_law_crossing" 1 ["_law_lots"] spLCross := by
  have N := B.N
  have nd := scLCross.nd
  refine def_of B.lcrs fun f fd F => ?_
  refine F.ok scLCross (fun vs H Q E h => ?_) (fun cdv A outer s H vs Q E hr h => ?_)
  · obtain ⟨a, us, L, rfl, _⟩ := h
    rfl
  · obtain ⟨a, us, L, rfl, ha, hT, ok, k⟩ := h
    refine ⟨_, pss_cons (ps_for PassesOwn.never rfl (pi_range1 (by rfl) N.range (pa_cons (pe_callB call_len_seq (by rfl) N.is.len PySem.boot_len (pa_cons (pv 0) pa_nil)) pa_nil)) (pg_name (i := 1) nd rfl (Or.inl rfl))
        (pss_one (ps_for PassesOwn.never rfl (pi_range2 (by rfl) N.range (pa_cons (pe_op op_add (pv 1) pe_int) (pa_cons (pe_callB call_len_seq (by rfl) N.is.len PySem.boot_len (pa_cons (pv 0) pa_nil)) pa_nil))) (pg_name (i := 2) nd rfl (Or.inl rfl))
          (pss_cons (ps_asg (pe_tup (pa_cons (pe_ix ix_tup (pv 0) (pv 1) (fun _ _ => rfl)) (pa_cons (pe_ix ix_tup (pv 0) (pv 2) (fun _ _ => rfl)) pa_nil))) (pg_tup rfl (pgs_cons (pg_name (i := 3) nd rfl (Or.inl rfl)) (pgs_cons (pg_name (i := 4) nd rfl (Or.inr rfl)) pgs_nil))))
          (pss_cons (ps_setLc (i := 5) (own := [("_law_number", 6)]) (g := gName 6) (tt := tTest (tOp (rIn K false) (tVar 6) (tVar 4))) (te := tVar 6) rfl nd rfl rfl (sw_true rfl rfl rfl (by decide +kernel)) (pi_tup (pv 3))
            (blkOk_by (N := nLCross) (sc := defScope sLCross) (by decide +kernel)) (fun _ _ _ _ _ => pg_name (i := 6) nd rfl (Or.inl rfl)) (fun _ _ _ _ _ => pts_one (pt_cmpR op_in_seq (pv 6) (pv 4) (by rfl))) (fun _ _ _ _ _ => pv 6))
          (pss_one (ps_if (pt_chain op_lt op_lt pe_int (pe_callB call_len_seq (by rfl) N.is.len PySem.boot_len (pa_cons (pv 5) pa_nil)) (pe_callB (call_min2 rfl) (by rfl) N.min (by decide +kernel) (pa_cons (pe_callB call_len_seq (by rfl) N.is.len PySem.boot_len (pa_cons (pv 3) pa_nil)) (pa_cons (pe_callB call_len_seq (by rfl) N.is.len PySem.boot_len (pa_cons (pv 4) pa_nil)) pa_nil))))
            (pss_one (ps_ret (pe_tup (pa_cons (pv 1) (pa_cons (pv 2) pa_nil))))) pss_nil)))))))
      (pss_one (ps_ret pe_non)), ?_⟩
    have lu : us.length = L.length := Paired.length hT
    have l1 := ok.l1
    refine ⟨_, rfl, a, us, rfl, .inr (.inl (.inl ha)), (us.length : Int), rfl, by omega, by omega, ?_⟩
    rw [Int.toNat_natCast, lu]
    refine for_range (lo := 0) (n := L.length) (fun m σ G => Same H G ∧ crossTo L m = none ∧ ∃ t1 t2 t3 t4 t5, σ = [some (.ref a), t1, t2, t3, t4, t5, none]) ⟨Same.refl _, rfl, none, none, none, none, none, rfl⟩ ?_ ?_
    · rintro m σ G hm ⟨sm, hto, t1, t2, t3, t4, t5, rfl⟩
      have hum : us[m]? = some us[m] := List.getElem?_eq_getElem (by omega)
      obtain ⟨ns, hns, t, e0, ht⟩ := pairGetT hT hum
      have hum' : us[m]? = some (.ref t) := by rw [hum, e0]
      rw [show (0 : Int) + (m : Int) = (m : Int) from Int.zero_add _]
      refine ⟨_, rfl, _, _, rfl, rfl, _, rfl, a, _, rfl, .inr (.inl (.inl (sm _ _ ha))), (m : Int) + 1, (us.length : Int), rfl, ⟨by omega, by omega, by omega, by omega⟩, ?_⟩
      rw [show ((us.length : Int) - ((m : Int) + 1)).toNat = L.length - (m + 1) from by omega]
      refine for_range (lo := (m : Int) + 1) (n := L.length - (m + 1)) (fun i σ J => Same H J ∧ crossRow L m i = none ∧ ∃ t2 t3 t4 t5, σ = [some (.ref a), some (.int (m : Nat)), t2, t3, t4, t5, none]) ⟨sm, rfl, t2, t3, t4, t5, rfl⟩ ?_ ?_
      · rintro i σ J hi ⟨sj, hrow, t2, t3, t4, t5, rfl⟩
        have hb : m + 1 + i < L.length := by omega
        have hub : us[m + 1 + i]? = some us[m + 1 + i] := List.getElem?_eq_getElem (by omega)
        obtain ⟨ms, hms, t', e', ht'⟩ := pairGetT hT hub
        have hub' : us[m + 1 + i]? = some (.ref t') := by rw [hub, e']
        have em : ((m : Int) + 1 + (i : Int)) = ((m + 1 + i : Nat) : Int) := by omega
        rw [em]
        have lms := lotLen (ok.asc ms (List.mem_of_getElem? hms)) (ok.lt ms (List.mem_of_getElem? hms))
        have lns := lotLen (ok.asc ns (List.mem_of_getElem? hns)) (ok.lt ns (List.mem_of_getElem? hns))
        refine ⟨_, rfl, _, rfl, a, _, (m : Int), _, rfl, rfl, .inl (.inl (sj _ _ ha)), atI_nat hum', _, rfl, _, rfl, a, _, ((m + 1 + i : Nat) : Int), _, rfl, rfl, .inl (.inl (sj _ _ ha)), atI_nat hub', by show 2 ≤ sizeLine; decide, fun Z nZ => ?_⟩
        have s3 := sj.trans (smUpd (o := .tup [.ref t, .ref t']) nZ)
        have hZ : upd J Z (.tup [.ref t, .ref t']) Z = some (.tup [.ref t, .ref t']) := upd_same
        generalize upd J Z (.tup [.ref t, .ref t']) = J3 at s3 hZ ⊢
        refine ⟨Z, _, rfl, .inl (.inl hZ), rfl, _, _, rfl, _, _, rfl, rfl, ?_⟩
        obtain ⟨g, hg⟩ : ∃ g : Nat → Bool, g = fun x => decide (x ∈ ms) := ⟨_, rfl⟩
        have ek : comL ns ms = ns.filter g := by rw [hg]; rfl
        have hx3 := s3 _ _ ht
        have hy3 := s3 _ _ ht'
        refine ⟨_, rfl, t, rfl, ⟨_, tnL hx3⟩, fun D nD => ?_⟩
        refine lc_tup (xs := ns.map vn) (fun j G => Same J3 G ∧ G D = some (.lst (((ns.take j).filter g).map vn))) ⟨smUpd nD, upd_same⟩ (fun j G _ z => tnL (z.1 _ _ hx3)) ?_ ?_
        · rintro j x G hx ⟨sm2, hD⟩
          obtain ⟨y, hy, rfl⟩ := vn_get hx
          have et := filterTakeS (c := g) hy
          have fl : ((ns.take j).filter g).length ≤ 60 := by
            have q1 := List.length_filter_le g (ns.take j)
            rw [List.length_take] at q1
            omega
          refine ⟨rfl, _, rfl, _, rfl, t', _, rfl, .inr (tnL (sm2 _ _ hy3)), rfl, vn_flat _, _, rfl, ?_⟩
          by_cases c : y ∈ ms
          · refine ifT (by show inV (vn y) _ = true; rw [inV_vn]; exact decide_eq_true c) ?_
            refine ⟨_, rfl, _, hD, small1000 (by rw [List.length_map]; omega), smOver nD sm2, ?_⟩
            rw [upd_same, et, if_pos (by rw [hg]; exact decide_eq_true c), List.map_append]
            rfl
          · refine ifF (by rw [inV_vn]; simpa using c) ⟨sm2, ?_⟩
            rw [et, if_neg (by rw [hg]; simpa using c), List.append_nil]
            exact hD
        · rintro G ⟨sm2, hD⟩
          rw [List.length_map, List.take_length, ← ek] at hD
          have ec : crossAt L m (m + 1 + i) = crossB ns ms := by
            unfold crossAt
            rw [List.getD_eq_getElem?_getD, List.getD_eq_getElem?_getD, hns, hms]; rfl
          have no : crossB ns ms = false → Same H G ∧ crossRow L m (i + 1) = none := fun c => ⟨s3.trans sm2, by
            show (match crossRow L m i with | some b => some b | none => _) = _
            rw [hrow]
            show (if _ then _ else _) = _
            rw [if_neg (by rw [ec, c]; decide)]⟩
          refine ⟨_, rfl, D, _, rfl, .inl (.inl (.inl hD)), _, _, rfl, rfl, _, rfl, ?_⟩
          rw [List.length_map]
          by_cases c0 : 0 < (comL ns ms).length
          rotate_left
          · refine ifF (by rw [decide_eq_true_iff]; show ¬ ((0 : Int) < ((comL ns ms).length : Int)); omega) ?_
            obtain ⟨n1, n2⟩ := no (by unfold crossB; rw [decide_eq_false (fun z => c0 z.1)])
            exact ⟨false, rfl, ifF (show ¬ (false = true) from by decide) ⟨n1, n2, _, _, _, _, rfl⟩⟩
          refine ifT (decide_eq_true (show ((0 : Int) < ((comL ns ms).length : Int)) from by omega)) ?_
          refine ⟨_, rfl, t, _, rfl, .inr (tnL (sm2 _ _ hx3)), _, rfl, t', _, rfl, .inr (tnL (sm2 _ _ hy3)), _, _, rfl, ?_⟩
          rw [List.length_map, List.length_map]
          refine ⟨_, _, rfl, rfl, _, rfl, ?_⟩
          have e : decide (((comL ns ms).length : Int) < (if (ms.length : Int) < (ns.length : Int) then (ms.length : Int) else (ns.length : Int))) = crossB ns ms := by
            unfold crossB
            rw [Bool.eq_iff_iff, decide_eq_true_iff, decide_eq_true_iff]
            split <;> omega
          cases c : crossB ns ms with
          | false =>
            obtain ⟨n1, n2⟩ := no c
            refine ifF ?_ ⟨n1, n2, _, _, _, _, rfl⟩
            intro z
            have z : decide (((comL ns ms).length : Int) < (if (ms.length : Int) < (ns.length : Int) then (ms.length : Int) else (ns.length : Int))) = true := z
            rw [e, c] at z
            cases z
          | true =>
            refine ifT (e.trans c) ?_
            refine ⟨_, rfl, _, rfl, by show 2 ≤ sizeLine; decide, fun q nq => ?_⟩
            have er : crossRow L m (i + 1) = some (m + 1 + i) := by
              show (match crossRow L m i with | some b => some b | none => _) = _
              rw [hrow]
              show (if _ then _ else _) = _
              rw [if_pos (ec.trans c)]
            have e1 := row_stay er (L.length - (m + 1) - (i + 1))
            rw [show i + 1 + (L.length - (m + 1) - (i + 1)) = L.length - (m + 1) from by omega] at e1
            have e2 : crossTo L (m + 1) = some (m, m + 1 + i) := by
              show (match crossTo L m with | some p => some p | none => _) = _
              rw [hto]
              show (crossRow L m _).map _ = _
              rw [e1]; rfl
            have e3 := to_stay e2 (L.length - (m + 1))
            rw [show m + 1 + (L.length - (m + 1)) = L.length from by omega] at e3
            refine k _ _ ((s3.trans sm2).trans (smUpd nq)) ?_
            rw [e3]
            exact ⟨q, rfl, upd_same⟩
      · rintro σ J ⟨sj, hrow, t2, t3, t4, t5, rfl⟩
        refine ⟨sj, ?_, _, _, _, _, _, rfl⟩
        show (match crossTo L m with | some p => some p | none => _) = _
        rw [hto]
        show (crossRow L m _).map _ = _
        rw [hrow]; rfl
    · rintro σ G ⟨sm, hto, t1, t2, t3, t4, t5, rfl⟩
      refine k _ _ sm ?_
      rw [hto]
      rfl
end
end Cn
namespace Cn
open PySem PySem.Spec PyProof.Rows L2 Ck
/-! lots of which none cross: the ways that the last lot ahead gives -/
theorem interPerm {a b : List Nat} (ha : a.Nodup) (hb : b.Nodup) : (comL a b).Perm (comL b a) := by
  unfold comL
  refine (List.perm_ext_iff_of_nodup (ha.filter _) (hb.filter _)).mpr fun x => ?_
  rw [List.mem_filter, List.mem_filter, decide_eq_true_iff, decide_eq_true_iff]
  exact ⟨fun h => ⟨h.2, h.1⟩, fun h => ⟨h.2, h.1⟩⟩
theorem comAll {a b : List Nat} (h : a.length ≤ (comL a b).length) : ∀ x ∈ a, x ∈ b := by
  have h2 : (a.filter fun x => decide (x ∈ b)).length = a.length := Nat.le_antisymm (List.length_filter_le _ _) h
  have := List.length_filter_eq_length_iff.mp h2
  exact fun x hx => of_decide_eq_true (this x hx)
theorem comSelf {a b : List Nat} (h : ∀ x ∈ a, x ∈ b) : comL a b = a := by
  unfold comL
  exact List.filter_eq_self.mpr fun x hx => decide_eq_true (h x hx)
/-- two that share something and do not cross: the longer holds the shorter -/
theorem lamSub {a b : List Nat} (ha : a.Nodup) (hb : b.Nodup) (hc : crossB a b = false) (hl : b.length ≤ a.length) {x : Nat} (h1 : x ∈ a) (h2 : x ∈ b) : ∀ y ∈ b, y ∈ a := by
  unfold crossB at hc
  have hc := of_decide_eq_false hc
  have pos : 0 < (comL a b).length := List.length_pos_iff_exists_mem.mpr ⟨x, by unfold comL; exact List.mem_filter.mpr ⟨h1, decide_eq_true h2⟩⟩
  have e := (interPerm ha hb).length_eq
  exact comAll (by omega)
theorem crossSym {a b : List Nat} (ha : a.Nodup) (hb : b.Nodup) : crossB a b = crossB b a := by
  unfold crossB
  rw [(interPerm ha hb).length_eq, Nat.min_comm]
theorem lastM_some {lots : List (List Nat)} {lot : List Nat} : ∀ {m j : Nat}, lastM lots lot m = some j → j < m ∧ (∀ x ∈ lot, x ∈ lots.getD j []) ∧ ∀ i, j < i → i < m → ¬ ∀ x ∈ lot, x ∈ lots.getD i []
  | 0, j, h => by cases h
  | m + 1, j, h => by
    have h : (if (lot.all fun x => decide (x ∈ lots.getD m [])) = true then some m else lastM lots lot m) = some j := h
    by_cases c : (lot.all fun x => decide (x ∈ lots.getD m [])) = true
    · rw [if_pos c] at h
      cases h
      refine ⟨Nat.lt_succ_self _, fun x hx => of_decide_eq_true (List.all_eq_true.mp c x hx), fun i h1 h2 => by omega⟩
    · rw [if_neg c] at h
      obtain ⟨h1, h2, h3⟩ := lastM_some h
      refine ⟨by omega, h2, fun i h4 h5 => ?_⟩
      by_cases e : i = m
      · subst e
        exact fun z => c (List.all_eq_true.mpr fun x hx => decide_eq_true (z x hx))
      · exact h3 i h4 (by omega)
theorem lastM_none {lots : List (List Nat)} {lot : List Nat} : ∀ {m : Nat}, lastM lots lot m = none → ∀ i, i < m → ¬ ∀ x ∈ lot, x ∈ lots.getD i []
  | 0, h, i, hi => by omega
  | m + 1, h, i, hi => by
    have h : (if (lot.all fun x => decide (x ∈ lots.getD m [])) = true then some m else lastM lots lot m) = none := h
    by_cases c : (lot.all fun x => decide (x ∈ lots.getD m [])) = true
    · rw [if_pos c] at h; cases h
    · rw [if_neg c] at h
      by_cases e : i = m
      · subst e
        exact fun z => c (List.all_eq_true.mpr fun x hx => decide_eq_true (z x hx))
      · exact lastM_none h i (by omega)
/-- lots in falling length, none crossing -/
structure Lam (A : List (List Nat)) : Prop where
  nd : ∀ i, i < A.length → (A.getD i []).Nodup
  fall : ∀ i j, i < j → j < A.length → (A.getD j []).length ≤ (A.getD i []).length
  no : ∀ i j, i < j → j < A.length → crossB (A.getD i []) (A.getD j []) = false
theorem Lam.sub {A : List (List Nat)} (h : Lam A) {i j x : Nat} (hij : i ≤ j) (hj : j < A.length) (h1 : x ∈ A.getD i []) (h2 : x ∈ A.getD j []) : ∀ y ∈ A.getD j [], y ∈ A.getD i [] := by
  rcases Nat.lt_or_ge i j with c | c
  · exact lamSub (h.nd i (by omega)) (h.nd j hj) (h.no i j c hj) (h.fall i j c hj) h1 h2
  · rw [show i = j from by omega]
    exact fun y hy => hy
section
variable {ps : List (Option Nat)} {A : List (List Nat)}
/-- the way to a lot: the lots at it or ahead that hold it -/
theorem roadLots (hp : Ps ps) (h : Lam A) (ha : ∀ k, k < A.length → ps[k]? = some (lastM A (A.getD k []) k)) : ∀ k, k < A.length → A.getD k [] ≠ [] → ∀ j, j ∈ road ps k ↔ j ≤ k ∧ ∀ x ∈ A.getD k [], x ∈ A.getD j [] := by
  intro k
  induction k using Nat.strongRecOn with
  | ind k ih =>
    intro hk ne j
    have pk := ha k hk
    obtain ⟨x0, hx0⟩ := List.exists_mem_of_ne_nil _ ne
    cases hl : lastM A (A.getD k []) k with
    | none =>
      rw [hl] at pk
      rw [road_none pk, List.mem_singleton]
      refine ⟨fun e => by rw [e]; exact ⟨Nat.le_refl _, fun x hx => hx⟩, fun ⟨h1, h2⟩ => ?_⟩
      rcases Nat.lt_or_ge j k with c | c
      · exact absurd h2 (lastM_none hl j c)
      · omega
    | some p =>
      rw [hl] at pk
      obtain ⟨l1, l2, l3⟩ := lastM_some hl
      rw [road_some hp pk, List.mem_append, List.mem_singleton]
      have pne : A.getD p [] ≠ [] := fun z => by
        have := l2 x0 hx0
        rw [z] at this
        cases this
      rw [ih p l1 (by omega) pne j]
      constructor
      · rintro (⟨h1, h2⟩ | e)
        · exact ⟨by omega, fun x hx => h2 x (l2 x hx)⟩
        · rw [e]; exact ⟨Nat.le_refl _, fun x hx => hx⟩
      · rintro ⟨h1, h2⟩
        rcases Nat.lt_or_ge j k with c | c
        · have jp : j ≤ p := Nat.le_of_not_lt fun z => l3 j z c h2
          exact .inl ⟨jp, h.sub jp (by omega) (h2 x0 hx0) (l2 x0 hx0)⟩
        · exact .inr (by omega)
/-- the way to what asks for a number: the lots that have it -/
theorem askRoad (hp : Ps ps) (h : Lam A) (ha : ∀ k, k < A.length → ps[k]? = some (lastM A (A.getD k []) k)) {q x : Nat} (hq : A.length ≤ q) (pq : ps[q]? = some (lastM A [x] A.length)) {j : Nat} (hj : j < A.length) : j ∈ road ps q ↔ x ∈ A.getD j [] := by
  cases hl : lastM A [x] A.length with
  | none =>
    rw [hl] at pq
    rw [road_none pq, List.mem_singleton]
    have := lastM_none hl j hj
    constructor
    · intro e; omega
    · intro hx
      exact absurd (fun y hy => by rw [List.mem_singleton.mp hy]; exact hx) this
  | some p =>
    rw [hl] at pq
    obtain ⟨l1, l2, l3⟩ := lastM_some hl
    have xp := l2 x (List.mem_singleton.mpr rfl)
    have pne : A.getD p [] ≠ [] := fun z => by
      rw [z] at xp
      cases xp
    rw [road_some hp pq, List.mem_append, List.mem_singleton, roadLots hp h ha p l1 pne j]
    constructor
    · rintro (⟨_, h2⟩ | e)
      · exact h2 x xp
      · omega
    · intro hx
      have jp : j ≤ p := Nat.le_of_not_lt fun z => l3 j z hj fun y hy => by rw [List.mem_singleton.mp hy]; exact hx
      exact .inl ⟨jp, h.sub jp l1 hx xp⟩
end
end Cn
namespace Cn
open PySem PySem.Spec PyProof.Rows L2 Ck
section
variable {P : Program} {w : World} {K : PySem.W.Frag} {mg : Str → Option Value} {base : Heap} {C : Addr}
/-! a drawn lot -/
def spLawLot : Sp := fun vs H Q _ => ∃ (p c : Addr) (cells : List Int) (n sh : Nat), vs = [.ref p, vn n, vn sh] ∧ HandIn H p c cells ∧ n ≤ 60 ∧
  ∀ r ns H', ns.Pairwise (· < ·) → (∀ x ∈ ns, x < n) → HandIn H' p c cells → Kept p H H' → TN H' r ns → Q (.ref r) H'
def nLawLot : List Str := ["_law_hand_here", "_law_places", "_law_share", "_law_place"]
theorem scLawLot : FnScope nLawLot ["_law_hand_here", "_law_places", "_law_share"] (defScope sLawLot) := ⟨rfl, rfl, rfl, by decide +kernel, rfl, by decide +kernel, by decide +kernel⟩
theorem dLawLot (B : Defs K mg C) : Def P w K mg base "_law_lot" 2 ["_law_hand_here", "_law_places", "_law_share"] spLawLot := by
  obtain ⟨fD, fdD, GD, gD, kD, bD⟩ := dDraw (P := P) (w := w) (base := base) B
  have N := nOf B
  refine def_of B.lo fun f fd F => ?_
  refine F.ok scLawLot (fun vs H Q E h => ?_) (fun cdv A outer s H vs Q E hr h => ?_)
  · obtain ⟨p, c, cells, n, sh, rfl, _⟩ := h
    rfl
  · obtain ⟨p, c, cells, n, sh, rfl, hI, h60, k⟩ := h
    refine ⟨_, pss_one (ps_ret (pe_callTy call_tuple_of (by rfl) N.is.tup (by decide +kernel) (pa_cons (pe_lc (own := [("_law_place", 3)]) (g := gName 3) rfl scLawLot.nd (pi_range1 (by rfl) N.range (pa_cons (pv 1) pa_nil))
        (blkOk_by (N := nLawLot) (sc := defScope sLawLot) (by decide +kernel)) (fun _ _ _ _ _ => pg_name (i := 3) scLawLot.nd rfl (Or.inl rfl)) (fun _ _ _ _ _ => pts_one (pt_cmpR op_lt (pe_call GD hr (by rfl) gD kD bD .nil pass0 (pa_cons (pv 0) (pa_cons pe_int pa_nil))) (pv 2) (nomark _))) (fun _ _ _ _ _ => pv 3)) pa_nil))), ?_⟩
    refine ⟨_, rfl, (n : Int), rfl, by omega, by omega, fun D nD => ?_⟩
    rw [Int.toNat_natCast]
    have nDp := hand_ne hI nD
    refine lc_range (lo := 0) (n := n) (fun i H' => HandIn H' p c cells ∧ Kept p H H' ∧ ∃ ns : List Nat, H' D = some (.lst (ns.map vn)) ∧ ns.length ≤ i ∧ ns.Pairwise (· < ·) ∧ ∀ x ∈ ns, x < i) ⟨handIn_keep hI (smUpd nD), kept_same (smUpd nD), [], upd_same, Nat.zero_le _, .nil, fun x hx => by cases hx⟩ ?_ ?_
    · rintro i H1 hi ⟨hI1, k1, ns, hD, hl, hp, hx⟩
      refine ⟨rfl, _, rfl, p, c, cells, 6, rfl, hI1, by decide, by decide, fun d a1 a2 a3 a4 d0 d1 a10 => ?_⟩
      have hI2 := handIn_upd (i := a1) (g := a2) (m := a3) (t := a4) hI1 a10
      have k2 := kept_trans k1 (kept_hand (p := p) (o := handL c a1 a2 a3 a4))
      have hD2 : (upd H1 p (handL c a1 a2 a3 a4)) D = some (.lst (ns.map vn)) := by rw [upd_ne nDp]; exact hD
      generalize upd H1 p (handL c a1 a2 a3 a4) = H2 at hI2 k2 hD2 ⊢
      refine ⟨_, rfl, _, _, rfl, rfl, _, rfl, ?_⟩
      refine ite2 (fun _ => ?_) (fun _ => ⟨hI2, k2, ns, hD2, by omega, hp, fun x h => Nat.lt_succ_of_lt (hx x h)⟩)
      refine ⟨_, rfl, _, hD2, small1000 (by rw [List.length_map]; omega), handIn_write hI nD hI2, kept_over nD k2, ns ++ [i], ?_, by rw [List.length_append]; show ns.length + 1 ≤ i + 1; omega, ?_, fun x h => ?_⟩
      · rw [upd_same, List.map_append]
        show some (HO.lst (ns.map vn ++ [V.int (0 + (i : Int))])) = some (HO.lst (ns.map vn ++ [V.int (i : Int)]))
        rw [Int.zero_add]
      · rw [List.pairwise_append]
        exact ⟨hp, List.pairwise_singleton _ _, fun x h y hy => by rw [List.mem_singleton.mp hy]; exact hx x h⟩
      · rcases List.mem_append.mp h with h | h
        · exact Nat.lt_succ_of_lt (hx x h)
        · rw [List.mem_singleton.mp h]; exact Nat.lt_succ_self _
    · rintro H1 ⟨hI1, k1, ns, hD, hl, hp, hx⟩
      refine ⟨D, _, rfl, .inl ⟨.inl (.inl hD), fun r nr => ?_⟩⟩
      exact k r ns _ hp hx (handIn_keep hI1 (smUpd nr)) (kept_trans k1 (kept_same (smUpd nr))) upd_same
def spSome (K : PySem.W.Frag) : Sp := fun vs H Q _ => ∃ (p c b : Addr) (cells : List Int) (xs : List V), vs = [.ref p, .ref b] ∧ HandIn H p c cells ∧ b ≠ p ∧ H b = some (.lst xs) ∧ 0 < xs.length ∧ xs.length ≤ 1000000 ∧
  ∀ (i : Nat) (v : V) H', xs[i]? = some v → HandIn H' p c cells → Kept p H H' → H' b = some (.lst xs) → Q v H'
def nSome : List Str := ["_law_hand_here", "_law_things"]
theorem scSome : FnScope nSome ["_law_hand_here", "_law_things"] (defScope sSome) := ⟨rfl, rfl, rfl, by decide +kernel, rfl, by decide +kernel, by decide +kernel⟩
theorem dSome (B : Defs K mg C) : Def P w K mg base "_law_some" 2 ["_law_hand_here", "_law_things"] (spSome K) := by
  obtain ⟨fD, fdD, GD, gD, kD, bD⟩ := dDraw (P := P) (w := w) (base := base) B
  have N := B.N
  refine def_of B.som fun f fd F => ?_
  refine F.ok scSome (fun vs H Q E h => ?_) (fun cdv A outer s H vs Q E hr h => ?_)
  · obtain ⟨p, c, b, cells, xs, rfl, _⟩ := h
    rfl
  · obtain ⟨p, c, b, cells, xs, rfl, hI, hbp, hb, h0, hl, k⟩ := h
    refine ⟨_, pss_one (ps_ret (pe_ix ix_list (pv 1) (pe_call GD hr (by rfl) gD kD bD .nil pass0 (pa_cons (pv 0) (pa_cons (pe_callB call_len_seq (by rfl) N.is.len PySem.boot_len (pa_cons (pv 1) pa_nil)) pa_nil))) (fun _ _ => rfl))), ?_⟩
    refine ⟨_, rfl, _, rfl, _, rfl, b, xs, rfl, .inl (.inl (.inl hb)), p, c, cells, (xs.length : Int), rfl, hI, by omega, by omega, fun d a1 a2 a3 a4 hd0 hd1 a0 => ?_⟩
    have hI1 := handIn_upd (i := a1) (g := a2) (m := a3) (t := a4) hI a0
    have k1 : Kept p H (upd H p (handL c a1 a2 a3 a4)) := kept_hand
    generalize upd H p (handL c a1 a2 a3 a4) = H1 at hI1 k1 ⊢
    have hb1 : H1 b = some (.lst xs) := k1 _ _ hbp hb
    obtain ⟨i, rfl⟩ : ∃ i : Nat, d = (i : Int) := ⟨d.toNat, by omega⟩
    have hi : i < xs.length := by omega
    exact ⟨b, xs, (i : Int), xs[i], rfl, rfl, .inl (.inl hb1), atI_nat (List.getElem?_eq_getElem hi), k i _ H1 (List.getElem?_eq_getElem hi) hI1 k1 hb1⟩
end
end Cn
namespace Cn
open PySem PySem.Spec PyProof.Rows L2 Ck
/-- lists of numbers, none of them the hand -/
def LlR (p : Addr) (H : Hp) (us : List V) (L : List (List Nat)) : Prop := Paired (fun (v : V) (ns : List Nat) => ∃ t, v = .ref t ∧ t ≠ p ∧ H t = some (.lst (ns.map vn))) us L
theorem llKept {p : Addr} {H H' : Hp} {us : List V} {L : List (List Nat)} (k : Kept p H H') (h : LlR p H us L) : LlR p H' us L := Paired.mapP h fun _ _ ⟨t, e, ne, h⟩ => ⟨t, e, ne, k _ _ ne h⟩
theorem llApp {p : Addr} {H : Hp} {us vs : List V} {L M : List (List Nat)} (h : LlR p H us L) (k : LlR p H vs M) : LlR p H (us ++ vs) (L ++ M) := by
  unfold LlR at h k ⊢
  induction h with
  | nil => exact k
  | cons a t ih => exact .cons a ih
section
variable {P : Program} {w : World} {K : PySem.W.Frag} {mg : Str → Option Value} {base : Heap} {C : Addr}
def spNested (m : Nat) : Sp := fun vs H Q _ => ∃ (p c l : Addr) (cells : List Int) (xs : List Nat), vs = [.ref p, .ref l] ∧ HandIn H p c cells ∧ l ≠ p ∧ H l = some (.lst (xs.map vn)) ∧ 1 ≤ xs.length ∧ xs.length ≤ m ∧ xs.length ≤ 30 ∧ xs.Nodup ∧
  ∀ r us L H', HandIn H' p c cells → Kept p H H' → r ≠ p → H' r = some (.lst us) → LlR p H' us L → us.length + 1 ≤ 2 * xs.length → 1 ≤ us.length → (∀ ns ∈ L, ns.Nodup ∧ ∀ x ∈ ns, x ∈ xs) → Q (.ref r) H'
def nNested : List Str := ["_law_hand_here", "_law_lot_here", "_law_found", "_law_cut", "_law_some_here"]
theorem scNested : FnScope nNested ["_law_hand_here", "_law_lot_here"] (defScope sNested) := ⟨rfl, rfl, rfl, by decide +kernel, rfl, by decide +kernel, by decide +kernel⟩
theorem ok_nested (B : Defs K mg C) {f : Addr} {fd : FuncData} (F : Fun K "_law_nested" "_law_nested" sNested f fd) (g : mg "_law_nested" = some (.ref f)) (bR : Binds K fd ["_law_hand_here", "_law_lot_here"] []) : ∀ m : Nat, FnOk P w K mg base CX0 (m + 2) f fd ["_law_hand_here", "_law_lot_here"] (spNested m) := by
  obtain ⟨fD, fdD, GD, gD, kD, bD⟩ := dDraw (P := P) (w := w) (base := base) B
  have N := B.N
  have nd := scNested.nd
  have kp := F.kp
  intro m
  induction m with
  | zero =>
    refine F.ok scNested (fun vs H Q E h => ?_) (fun cdv A outer s H vs Q E hr h => ?_)
    · obtain ⟨p, c, l, cells, xs, rfl, _⟩ := h
      rfl
    · obtain ⟨p, c, l, cells, xs, rfl, hI, nl, hl, l1, l2, _⟩ := h
      omega
  | succ m ih =>
    refine F.ok scNested (fun vs H Q E h => ?_) (fun cdv A outer s H vs Q E hr h => ?_)
    · obtain ⟨p, c, l, cells, xs, rfl, _⟩ := h
      rfl
    · obtain ⟨p, c, l, cells, xs, rfl, hI, nl, hl, l1, l2, l30, xnd, k⟩ := h
      have h1 : Room 1 (A.deeper (envOfC "_law_nested" (defScope sNested) s.heap.objs.size f cdv)) := Room.mono hr (by omega)
      refine ⟨_, pss_cons (ps_set (i := 2) nd rfl (Or.inl rfl) (pe_lst (pa_cons (pv 1) pa_nil)))
        (psMid (ps_if (pt_cmpR op_gt (pe_callB call_len_seq (by rfl) N.is.len PySem.boot_len (pa_cons (pv 1) pa_nil)) pe_int (nomark _))
          (pss_cons (ps_set (i := 3) nd rfl (Or.inl rfl) (pe_op op_add pe_int (pe_call GD h1 (by rfl) gD kD bD .nil pass0 (pa_cons (pv 0) (pa_cons (pe_op op_sub (pe_callB call_len_seq (by rfl) N.is.len PySem.boot_len (pa_cons (pv 1) pa_nil)) pe_int) pa_nil)))))
          (pss_one (ps_for PassesOwn.never rfl (pi_list (pe_lst (pa_cons (pe_slice sl_list (pv 1) po_none (po_some (pv 3))) (pa_cons (pe_slice sl_list (pv 1) (po_some (pv 3)) po_none) pa_nil)))) (pg_name (i := 4) nd rfl (Or.inl rfl))
            (pss_one (ps_if (pt_cmpR op_gt (pe_call GD h1 (by rfl) gD kD bD .nil pass0 (pa_cons (pv 0) (pa_cons pe_int pa_nil))) pe_int (nomark _)) (pss_one (ps_set (i := 2) nd rfl (Or.inl rfl) (pe_op op_cat (pv 2) (pe_call ih hr (by rfl) g kp bR .nil pass0 (pa_cons (pv 0) (pa_cons (pv 4) pa_nil)))))) pss_nil))))) pss_nil)
        (pss_one (ps_ret (pv 2)))), ?_⟩
      refine ⟨_, rfl, by show 1 ≤ sizeLine; decide, fun r0 nr0 => ?_⟩
      have S1 := smUpd (o := .lst [.ref l]) nr0
      have r0p := hand_ne hI nr0
      have hI1 := handIn_keep hI S1
      have hr0 : upd H r0 (.lst [.ref l]) r0 = some (.lst [.ref l]) := upd_same
      have hl1 := S1 _ _ hl
      generalize upd H r0 (.lst [.ref l]) = H1 at S1 hI1 hr0 hl1 ⊢
      have base0 : LlR p H1 [.ref l] [xs] := .cons ⟨l, rfl, nl, hl1⟩ .nil
      have k1 : Kept p H H1 := kept_same S1
      obtain ⟨Mid, eMid⟩ : ∃ Mid : L2.St → Hp → Prop, Mid = fun σ G => ∃ (r : Addr) (us : List V) (L : List (List Nat)) (t3 t4 : Option V), σ = [some (.ref p), some (.ref l), some (.ref r), t3, t4] ∧ HandIn G p c cells ∧ Kept p H G ∧ r ≠ p ∧ G r = some (.lst us) ∧ LlR p G us L ∧ us.length + 1 ≤ 2 * xs.length ∧ 1 ≤ us.length ∧ ∀ ns ∈ L, ns.Nodup ∧ ∀ x ∈ ns, x ∈ xs := ⟨_, rfl⟩
      refine ⟨Mid, ?_, ?_⟩
      rotate_left
      · rw [eMid]
        rintro σ G ⟨r, us, L, t3, t4, rfl, b1, b2, b3, b4, b5, b6, b7, b8⟩
        exact ⟨_, rfl, k r us L G b1 b2 b3 b4 b5 b6 b7 b8⟩
      refine ⟨_, rfl, l, _, rfl, .inl (.inl (.inl hl1)), _, _, rfl, rfl, _, rfl, ?_⟩
      rw [List.length_map]
      by_cases c1 : 1 < xs.length
      rotate_left
      · refine ifF (by rw [decide_eq_true_iff]; show ¬ ((1 : Int) < (xs.length : Int)); omega) ?_
        rw [eMid]
        exact ⟨r0, [.ref l], [xs], none, none, rfl, hI1, k1, r0p, hr0, base0, by show 1 + 1 ≤ 2 * xs.length; omega, Nat.le_refl _, fun ns h => by rw [List.mem_singleton.mp h]; exact ⟨xnd, fun x hx => hx⟩⟩
      refine ifT (decide_eq_true (show ((1 : Int) < (xs.length : Int)) from by omega)) ?_
      refine ⟨_, rfl, _, rfl, l, _, rfl, .inl (.inl (.inl hl1)), _, _, rfl, rfl, p, c, cells, _, rfl, hI1, by rw [List.length_map]; omega, by rw [List.length_map]; omega, fun d a1 a2 a3 a4 d0 d1 a10 => ⟨_, _, rfl, rfl, ?_⟩⟩
      rw [List.length_map] at d1
      have kk := kept_hand (p := p) (H := H1) (o := handL c a1 a2 a3 a4)
      have hI2 := handIn_upd (i := a1) (g := a2) (m := a3) (t := a4) hI1 a10
      have k2 := kept_trans k1 kk
      have hl2 := kk _ _ nl hl1
      have hr2 := kk _ _ r0p hr0
      have base2 := llKept kk base0
      generalize upd H1 p (handL c a1 a2 a3 a4) = H2 at hI2 k2 hl2 hr2 base2 ⊢
      obtain ⟨d, rfl⟩ := Int.eq_ofNat_of_zero_le d0
      have dl : d + 1 < xs.length := by omega
      show gName 3 (V.int (1 + (d : Int))) _ _ _
      rw [show ((1 : Int) + (d : Int)) = ((d + 1 : Nat) : Int) from by omega]
      refine ⟨_, rfl, _, rfl, ((d + 1 : Nat) : Int), rfl, l, _, rfl, .inl (.inl hl2), fun P1 n1 => ?_⟩
      rw [cutTake, ← List.map_take]
      have s1 := smUpd (o := .lst ((xs.take (d + 1)).map vn)) n1
      have p1p := hand_ne hI2 n1
      have hP1 : upd H2 P1 (.lst ((xs.take (d + 1)).map vn)) P1 = some (.lst ((xs.take (d + 1)).map vn)) := upd_same
      have hI3 := handIn_keep hI2 s1
      generalize upd H2 P1 (.lst ((xs.take (d + 1)).map vn)) = H3 at s1 hP1 hI3 ⊢
      refine ⟨_, rfl, _, rfl, ((d + 1 : Nat) : Int), rfl, l, _, rfl, .inl (.inl (s1 _ _ hl2)), fun P2 n2 => ?_⟩
      rw [cutDrop, ← List.map_drop]
      have s2 := s1.trans (smUpd (o := .lst ((xs.drop (d + 1)).map vn)) n2)
      have p2p := hand_ne hI3 n2
      have hP1 := smUpd (o := .lst ((xs.drop (d + 1)).map vn)) n2 _ _ hP1
      have hP2 : upd H3 P2 (.lst ((xs.drop (d + 1)).map vn)) P2 = some (.lst ((xs.drop (d + 1)).map vn)) := upd_same
      have hI4 := handIn_keep hI2 s2
      generalize upd H3 P2 (.lst ((xs.drop (d + 1)).map vn)) = H4 at s2 hP1 hP2 hI4 ⊢
      refine ⟨by show 2 ≤ sizeLine; decide, fun Z nZ => ?_⟩
      have s3 := s2.trans (smUpd (o := .lst [.ref P1, .ref P2]) nZ)
      have zp := hand_ne hI4 nZ
      have hP1 := smUpd (o := .lst [.ref P1, .ref P2]) nZ _ _ hP1
      have hP2 := smUpd (o := .lst [.ref P1, .ref P2]) nZ _ _ hP2
      have hZ : upd H4 Z (.lst [.ref P1, .ref P2]) Z = some (.lst [.ref P1, .ref P2]) := upd_same
      have hI5 := handIn_keep hI2 s3
      have k5 := kept_trans k2 (kept_same (p := p) s3)
      have hr5 := s3 _ _ hr2
      have base5 := llKept (kept_same (p := p) s3) base2
      generalize upd H4 Z (.lst [.ref P1, .ref P2]) = H5 at s3 hP1 hP2 hZ hI5 k5 hr5 base5 ⊢
      refine ⟨Z, rfl, ⟨_, .inl (.inl hZ)⟩, ?_⟩
      refine for_list (K := K) (a := Z) (xs := [.ref P1, .ref P2]) (fun m2 σ G => ∃ (r : Addr) (us : List V) (L : List (List Nat)) (t4 : Option V), σ = [some (.ref p), some (.ref l), some (.ref r), some (.int ((d + 1 : Nat) : Int)), t4] ∧ HandIn G p c cells ∧ Kept p H5 G ∧ r ≠ p ∧ G r = some (.lst us) ∧ LlR p G us L ∧ us.length ≤ (if m2 = 0 then 1 else if m2 = 1 then 2 * (d + 1) else 2 * xs.length - 1) ∧ 1 ≤ us.length ∧ ∀ ns ∈ L, ns.Nodup ∧ ∀ x ∈ ns, x ∈ xs)
        ⟨r0, [.ref l], [xs], none, rfl, hI5, fun _ _ _ e => e, r0p, hr5, base5, Nat.le_refl _, Nat.le_refl _, fun ns h => by rw [List.mem_singleton.mp h]; exact ⟨xnd, fun x hx => hx⟩⟩ (fun m2 σ G _ z => by
          obtain ⟨_, _, _, _, _, _, kG, _⟩ := z
          exact .inl (.inl (kG _ _ zp hZ))) ?_ ?_
      · rintro m2 x σ G hx ⟨r, us, L, t4, rfl, hG, kG, rp, hr, hL, ul, u1, sub⟩
        obtain ⟨Pm, ys, rfl, pp, hPm, y1, yl, ym, bnd⟩ : ∃ (Pm : Addr) (ys : List Nat), x = .ref Pm ∧ Pm ≠ p ∧ H5 Pm = some (.lst (ys.map vn)) ∧ 1 ≤ ys.length ∧ ys.length + 1 ≤ xs.length ∧ (ys.Nodup ∧ ∀ z ∈ ys, z ∈ xs) ∧ (if m2 = 0 then 1 else if m2 = 1 then 2 * (d + 1) else 2 * xs.length - 1) + (2 * ys.length - 1) ≤ (if m2 + 1 = 0 then 1 else if m2 + 1 = 1 then 2 * (d + 1) else 2 * xs.length - 1) := by
          rcases m2 with _ | _ | m2
          · cases hx
            have tl : (xs.take (d + 1)).length = d + 1 := by rw [List.length_take]; omega
            refine ⟨P1, _, rfl, p1p, hP1, by omega, by omega, ⟨xnd.sublist (List.take_sublist _ _), fun z hz => List.mem_of_mem_take hz⟩, ?_⟩
            rw [tl]
            show 1 + (2 * (d + 1) - 1) ≤ 2 * (d + 1)
            omega
          · cases hx
            have tl : (xs.drop (d + 1)).length = xs.length - (d + 1) := List.length_drop
            refine ⟨P2, _, rfl, p2p, hP2, by omega, by omega, ⟨xnd.sublist (List.drop_sublist _ _), fun z hz => List.mem_of_mem_drop hz⟩, ?_⟩
            rw [tl]
            show 2 * (d + 1) + (2 * (xs.length - (d + 1)) - 1) ≤ 2 * xs.length - 1
            omega
          · simp at hx
        refine ⟨_, rfl, p, c, cells, 4, rfl, hG, by decide, by decide, fun e a1 a2 a3 a4 e0 e1 a10 => ⟨_, _, rfl, rfl, _, rfl, ?_⟩⟩
        have kk := kept_hand (p := p) (H := G) (o := handL c a1 a2 a3 a4)
        have hG2 := handIn_upd (i := a1) (g := a2) (m := a3) (t := a4) hG a10
        have kG2 := kept_trans kG kk
        have hr2 := kk _ _ rp hr
        have hL2 := llKept kk hL
        generalize upd G p (handL c a1 a2 a3 a4) = G2 at hG2 kG2 hr2 hL2 ⊢
        refine ite2 (fun _ => ?_) (fun _ => ⟨r, us, L, _, rfl, hG2, kG2, rp, hr2, hL2, by omega, u1, sub⟩)
        refine ⟨_, rfl, _, rfl, _, rfl, p, c, Pm, cells, ys, rfl, hG2, pp, kG2 _ _ pp hPm, y1, by omega, by omega, ym.1, fun r2 us2 L2 G3 hI3' k3 r2p hr3 hL3 len2 pos2 sub2 => ?_⟩
        have lbig : (if m2 = 0 then 1 else if m2 = 1 then 2 * (d + 1) else 2 * xs.length - 1) ≤ 100 := by
          split
          · decide
          · split <;> omega
        refine ⟨r, r2, us, us2, rfl, rfl, k3 _ _ rp hr2, hr3, Nat.le_of_lt (small1000 (by omega)), fun r3 nr3 => ?_⟩
        have S6 := smUpd (o := .lst (us ++ us2)) nr3
        refine ⟨r3, us ++ us2, L ++ L2, _, rfl, handIn_keep hI3' S6, kept_trans (kept_trans kG2 k3) (kept_same S6), hand_ne hI3' nr3, upd_same, llKept (kept_same (p := p) S6) (llApp (llKept k3 hL2) hL3), by rw [List.length_append]; omega, by rw [List.length_append]; omega, fun ns hns => ?_⟩
        rcases List.mem_append.mp hns with h | h
        · exact sub ns h
        · exact ⟨(sub2 ns h).1, fun z hz => ym.2 z ((sub2 ns h).2 z hz)⟩
      · rintro σ G ⟨r, us, L, t4, rfl, hG, kG, rp, hr, hL, ul, u1, sub⟩
        rw [eMid]
        refine ⟨r, us, L, _, _, rfl, hG, kept_trans k5 kG, rp, hr, hL, ?_, u1, sub⟩
        have ul : us.length ≤ 2 * xs.length - 1 := ul
        omega
theorem dNested (B : Defs K mg C) : Def P w K mg base "_law_nested" 32 ["_law_hand_here", "_law_lot_here"] (spNested 30) := by
  obtain ⟨f, fd, D⟩ := B.nst
  exact ⟨f, fd, ok_nested B D.F D.g D.b 30, D.g, D.F.kp, D.b⟩
end
end Cn
namespace Cn
open PySem PySem.Spec PyProof.Rows L2 Ck
theorem rgVnS (n : Nat) : rgV 0 (n : Int) = (List.range n).map vn := by
  unfold rgV
  rw [show ((n : Int) - 0).toNat = n from by omega]
  refine List.map_congr_left fun i _ => ?_
  show V.int (0 + (i : Int)) = V.int (i : Int)
  rw [Int.zero_add]
theorem tbSet {H : Hp} {us : List V} {L : List (List Nat)} {v : V} {ns : List Nat} (h : TbR H us L) (a : ∃ t, v = .ref t ∧ TN H t ns) : ∀ {i : Nat}, TbR H (us.set i v) (L.set i ns) := by
  unfold TbR at h ⊢
  induction h with
  | nil => exact .nil
  | cons b t ih =>
    intro i
    cases i with
    | zero => exact .cons a t
    | succ i => exact .cons b ih
theorem ndPerm {ns : List Nat} {n : Nat} (nd : ns.Nodup) (h : ∀ x ∈ ns, x < n) : ns.Perm ((List.range n).filter fun x => decide (x ∈ ns)) := by
  refine (List.perm_ext_iff_of_nodup nd (List.nodup_range.filter _)).mpr fun x => ?_
  rw [List.mem_filter, List.mem_range, decide_eq_true_iff]
  exact ⟨fun q => ⟨h x q, q⟩, fun q => q.2⟩
theorem sortNat {ns : List Nat} {zs : List Int} {n : Nat} (nd : ns.Nodup) (h : ∀ x ∈ ns, x < n) (hp : zs.Perm (ns.map fun k => ((k : Nat) : Int))) (hs : zs.Pairwise (· ≤ ·)) : ∃ ms : List Nat, zs = ms.map (fun k => ((k : Nat) : Int)) ∧ ms.Pairwise (· < ·) ∧ ∀ x, x ∈ ms ↔ x ∈ ns := by
  refine ⟨(List.range n).filter fun x => decide (x ∈ ns), ?_, (List.pairwise_lt_range (n := n)).filter _, fun x => ?_⟩
  · have pq := ndPerm nd h
    refine List.Perm.eq_of_pairwise (le := (· ≤ ·)) (fun a b _ _ p q => Int.le_antisymm p q) hs ?_ (hp.trans (pq.map _))
    rw [List.pairwise_map]
    exact ((List.pairwise_lt_range (n := n)).filter _).imp fun h => by omega
  · rw [List.mem_filter, List.mem_range, decide_eq_true_iff]
    exact ⟨fun q => q.2, fun q => ⟨h x q, q⟩⟩
theorem natIntS (ns : List Nat) : ns.map vn = (ns.map fun n => ((n : Nat) : Int)).map V.int := by rw [List.map_map]; rfl
theorem permVn {ws : List V} {ns : List Nat} (h : ws.Perm (ns.map vn)) : ∃ xs : List Nat, ws = xs.map vn ∧ xs.Perm ns := by
  have all : ∀ {ws : List V}, (∀ v ∈ ws, ∃ n : Nat, v = vn n) → ∃ xs : List Nat, ws = xs.map vn := by
    intro ws
    induction ws with
    | nil => exact fun _ => ⟨[], rfl⟩
    | cons v ws ih =>
      intro hv
      obtain ⟨n, rfl⟩ := hv v List.mem_cons_self
      obtain ⟨xs, rfl⟩ := ih fun u hu => hv u (List.mem_cons_of_mem _ hu)
      exact ⟨n :: xs, rfl⟩
  obtain ⟨xs, rfl⟩ := all fun v hv => by
    obtain ⟨n, _, e⟩ := List.mem_map.mp (h.mem_iff.mp hv)
    exact ⟨n, e.symm⟩
  refine ⟨xs, rfl, ?_⟩
  have g := h.map fun v => match v with | V.int i => i.toNat | _ => 0
  rw [List.map_map, List.map_map] at g
  have id1 : ∀ zs : List Nat, zs.map ((fun v => match v with | V.int i => i.toNat | _ => 0) ∘ vn) = zs := fun zs => by
    induction zs with
    | nil => rfl
    | cons z zs ih =>
      rw [List.map_cons, ih]
      rfl
  rwa [id1, id1] at g
theorem tbKept {p c : Addr} {cells : List Int} {H H' : Hp} {us : List V} {L : List (List Nat)} (hI : HandIn H p c cells) (k : Kept p H H') (h : TbR H us L) : TbR H' us L := Paired.mapP h fun _ _ ⟨t, e, h⟩ => ⟨t, e, k _ _ (tup_ne hI h) h⟩
theorem tbUpd {H : Hp} {D : Addr} {xs : List V} {o : HO} {us : List V} {L : List (List Nat)} (hD : H D = some (.lst xs)) (h : TbR H us L) : TbR (upd H D o) us L := Paired.mapP h fun _ _ ⟨t, e, h⟩ => ⟨t, e, by
  unfold TN at h ⊢
  rw [upd_ne (fun z => by rw [z, hD] at h; cases h)]
  exact h⟩
theorem tbSnoc {H : Hp} {us : List V} {L : List (List Nat)} {v : V} {ns : List Nat} (h : TbR H us L) (a : ∃ t, v = .ref t ∧ TN H t ns) : TbR H (us ++ [v]) (L ++ [ns]) := by
  unfold TbR at h ⊢
  induction h with
  | nil => exact .cons a .nil
  | cons b t ih => exact .cons b ih
section
variable {P : Program} {w : World} {K : PySem.W.Frag} {mg : Str → Option Value} {base : Heap} {C : Addr}
def rTupOf (K : PySem.W.Frag) : List V → Hp → VK → Prop := fun xs H Q => ∃ p ys, xs = [.ref p] ∧ ((SqL K H p ys ∧ ∀ l, H l = none → Q (.ref l) (upd H l (.tup ys))) ∨ (SqT K H p ys ∧ Q (.ref p) H))
def spLTable : Sp := fun vs H Q _ => ∃ (p c : Addr) (cells : List Int), vs = [.ref p] ∧ HandIn H p c cells ∧ ∀ r us L H', HandIn H' p c cells → Kept p H H' → H' r = some (.tup us) → TbR H' us L → TbOk L → Q (.ref r) H'
def nLTable : List Str := ["_law_hand_here", "_law_many", "_law_numbers", "_law_lots", "_law_found", "_law_at", "_law_number", "_law_left", "_law_turn", "_law_lot_here", "_law_one"]
theorem scLTable : FnScope nLTable ["_law_hand_here"] (defScope sLTable) := ⟨rfl, rfl, rfl, by decide +kernel, rfl, by decide +kernel, by decide +kernel⟩
theorem dLTable (B : Defs K mg C) : Def P w K mg base "_law_table" 33 ["_law_hand_here"] spLTable := by
  obtain ⟨fD, fdD, GD, gD, kD, bD⟩ := dDraw (P := P) (w := w) (base := base) B
  obtain ⟨fL, fdL, GL, gL, kL, bL⟩ := dLawLot (P := P) (w := w) (base := base) B
  obtain ⟨fM, fdM, GM, gM, kM, bM⟩ := dMixed (P := P) (w := w) (base := base) B
  obtain ⟨fN, fdN, GN, gN, kN, bN⟩ := dNested (P := P) (w := w) (base := base) B
  obtain ⟨fS, fdS, GS, gS, kS, bS⟩ := dSome (P := P) (w := w) (base := base) B
  have N := B.N
  have nd := scLTable.nd
  refine def_of B.ltb fun f fd F => ?_
  refine F.ok scLTable (fun vs H Q E h => ?_) (fun cdv A outer s H vs Q E hr h => ?_)
  · obtain ⟨p, c, cells, rfl, _⟩ := h
    rfl
  · obtain ⟨p, c, cells, rfl, hI, k⟩ := h
    have h1 : Room 1 (A.deeper (envOfC "_law_table" (defScope sLTable) s.heap.objs.size f cdv)) := Room.mono hr (by decide)
    have h2 : Room 2 (A.deeper (envOfC "_law_table" (defScope sLTable) s.heap.objs.size f cdv)) := Room.mono hr (by decide)
    refine ⟨_, pss_cons (ps_set (i := 1) nd rfl (Or.inl rfl) (pe_op op_add pe_int (pe_call GD h1 (by rfl) gD kD bD .nil pass0 (pa_cons (pv 0) (pa_cons (pe_ix ix_list (pe_lst (pa_cons pe_int (pa_cons pe_int (pa_cons pe_int pa_nil)))) (pe_call GD h1 (by rfl) gD kD bD .nil pass0 (pa_cons (pv 0) (pa_cons pe_int pa_nil))) (fun _ _ => rfl)) pa_nil)))))
      (pss_cons (ps_if (pt_cmpR op_eq (pe_call GD h1 (by rfl) gD kD bD .nil pass0 (pa_cons (pv 0) (pa_cons pe_int pa_nil))) pe_int (nomark _))
        (pss_one (ps_ret (pe_callTy call_tuple_of (by rfl) N.is.tup (by decide +kernel) (pa_cons (pe_lc (own := [("_law_turn", 8)]) (g := gName 8) (tt := tYes) (te := tCall spLawLot [] (fun _ _ _ => False) (tCons (tVar 0) (tCons (tOp (rI0 fun i j => V.int (i + j)) (tC (.int 2)) (tCall spDraw [] (fun _ _ _ => False) (tCons (tVar 0) (tCons (tC (.int 29)) tNil)))) (tCons (tOp (rI0 fun i j => V.int (i + j)) (tC (.int 1)) (tCall spDraw [] (fun _ _ _ => False) (tCons (tVar 0) (tCons (tC (.int 3)) tNil)))) tNil)))) rfl nd (pi_range1 (by rfl) N.range (pa_cons (pv 1) pa_nil))
          (blkOk_by (N := nLTable) (sc := defScope sLTable) (by decide +kernel)) (fun _ _ _ _ _ => pg_name (i := 8) nd rfl (Or.inl rfl)) (fun _ _ _ _ _ => pts_nil) (fun _ _ _ _ _ => pe_call GL h2 (by rfl) gL kL bL .nil pass0 (pa_cons (pv 0) (pa_cons (pe_op op_add pe_int (pe_call GD h1 (by rfl) gD kD bD .nil pass0 (pa_cons (pv 0) (pa_cons pe_int pa_nil)))) (pa_cons (pe_op op_add pe_int (pe_call GD h1 (by rfl) gD kD bD .nil pass0 (pa_cons (pv 0) (pa_cons pe_int pa_nil)))) pa_nil))))) pa_nil)))) pss_nil)
      (pss_cons (ps_set (i := 2) nd rfl (Or.inl rfl) (pe_slice sl_list (pe_call GM h2 (by rfl) gM kM bM .nil pass0 (pa_cons (pv 0) (pa_cons (pe_listRg rfl (by rfl) N.is.lst (prg_1 (by rfl) N.range pe_int)) pa_nil))) po_none (po_some (pe_op op_add pe_int (pe_call GD h1 (by rfl) gD kD bD .nil pass0 (pa_cons (pv 0) (pa_cons pe_int pa_nil)))))))
      (pss_cons (ps_set (i := 3) nd rfl (Or.inr rfl) (pe_op op_cat (pe_lc (own := [("_law_lot_here", 9)]) (g := gName 9) (tt := tYes) (te := tCB (rTupOf K) (tCons (tCB (rSorted K) (tCons (tVar 9) tNil)) tNil)) rfl nd (pi_list (pe_call GN hr (by rfl) gN kN bN .nil pass0 (pa_cons (pv 0) (pa_cons (pv 2) pa_nil))))
          (blkOk_by (N := nLTable) (sc := defScope sLTable) (by decide +kernel)) (fun _ _ _ _ _ => pg_name (i := 9) nd rfl (Or.inl rfl)) (fun _ _ _ _ _ => pts_nil) (fun _ _ _ _ _ => pe_callTy (r := rTupOf K) call_tuple_of (by rfl) N.is.tup (by decide +kernel) (pa_cons (pe_callB (r := rSorted K) cr_sorted (by rfl) N.sorted (by decide +kernel) (pa_cons (pv 9) pa_nil)) pa_nil))) (pe_lst (pa_cons (pe_tup pa_nil) pa_nil))))
      (pss_cons (ps_setLc (i := 4) (own := [("_law_turn", 8)]) (g := gName 8) (tt := tYes) (te := tCall (spSome K) [] (fun _ _ _ => False) (tCons (tVar 0) (tCons (tVar 3) tNil))) rfl nd rfl rfl (sw_true rfl rfl rfl (by decide +kernel)) (pi_range1 (by rfl) N.range (pa_cons (pv 1) pa_nil))
          (blkOk_by (N := nLTable) (sc := defScope sLTable) (by decide +kernel)) (fun _ _ _ _ _ => pg_name (i := 8) nd rfl (Or.inl rfl)) (fun _ _ _ _ _ => pts_nil) (fun _ _ _ _ _ => pe_call GS h2 (by rfl) gS kS bS .nil pass0 (pa_cons (pv 0) (pa_cons (pv 3) pa_nil))))
      (psMid (ps_if (pt_cmpR op_eq (pe_call GD h1 (by rfl) gD kD bD .nil pass0 (pa_cons (pv 0) (pa_cons pe_int pa_nil))) pe_int (nomark _))
        (pss_cons (ps_set (i := 5) nd rfl (Or.inl rfl) (pe_call GD h1 (by rfl) gD kD bD .nil pass0 (pa_cons (pv 0) (pa_cons (pv 1) pa_nil))))
        (pss_cons (ps_set (i := 6) nd rfl (Or.inr rfl) (pe_call GD h1 (by rfl) gD kD bD .nil pass0 (pa_cons (pv 0) (pa_cons pe_int pa_nil))))
        (pss_cons (ps_setLc (i := 7) (own := [("_law_one", 10)]) (g := gName 10) (tt := tTest (tOp rNe (tVar 10) (tVar 6))) (te := tVar 10) rfl nd rfl rfl (sw_true rfl rfl rfl (by decide +kernel)) (pi_tup (pe_ix ix_list (pv 4) (pv 5) (fun _ _ => rfl)))
          (blkOk_by (N := nLTable) (sc := defScope sLTable) (by decide +kernel)) (fun _ _ _ _ _ => pg_name (i := 10) nd rfl (Or.inl rfl)) (fun _ _ _ _ _ => pts_one (pt_cmpR op_ne (pv 10) (pv 6) (nomark _))) (fun _ _ _ _ _ => pv 10))
        (pss_one (ps_asg (pe_callTy (r := rTupOf K) call_tuple_of (by rfl) N.is.tup (by decide +kernel) (pa_cons (pe_ifExp (pt_cmpR op_in_seq (pv 6) (pe_ix (r := rIxL K) ix_list (pv 4) (pv 5) (fun _ _ => rfl)) (by rfl)) (pv 7) (pe_callB (r := rSorted K) cr_sorted (by rfl) N.sorted (by decide +kernel) (pa_cons (pe_op op_cat (pv 7) (pe_lst (pa_cons (pv 6) pa_nil))) pa_nil))) pa_nil)) (pg_sub (pv 4) (pv 5) set_list)))))) pss_nil)
      (pss_one (ps_ret (pe_callTy call_tuple_of (by rfl) N.is.tup (by decide +kernel) (pa_cons (pv 4) pa_nil))))))))), ?_⟩
    refine ⟨_, rfl, by show 3 ≤ sizeLine; decide, fun z0 nz0 => ?_⟩
    have S1 := smUpd (o := .lst [.int 4, .int 8, .int 20]) nz0
    have z0p := hand_ne hI nz0
    have hz0 : upd H z0 (.lst [.int 4, .int 8, .int 20]) z0 = some (.lst [.int 4, .int 8, .int 20]) := upd_same
    have hI1 := handIn_keep hI S1
    have k1 : Kept p H (upd H z0 (.lst [.int 4, .int 8, .int 20])) := kept_same S1
    generalize upd H z0 (.lst [.int 4, .int 8, .int 20]) = H1 at S1 hz0 hI1 k1 ⊢
    refine ⟨_, rfl, p, c, cells, 3, rfl, hI1, by decide, by decide, fun d0 a1 a2 a3 a4 d00 d01 a10 => ?_⟩
    have kk := kept_hand (p := p) (H := H1) (o := handL c a1 a2 a3 a4)
    have hI2 := handIn_upd (i := a1) (g := a2) (m := a3) (t := a4) hI1 a10
    have k2 := kept_trans k1 kk
    have hz2 := kk _ _ z0p hz0
    generalize upd H1 p (handL c a1 a2 a3 a4) = H2 at hI2 k2 hz2 ⊢
    obtain ⟨v, hv, hm⟩ := atMem (xs := [.int 4, .int 8, .int 20]) d00 d01
    obtain ⟨q, rfl, q4, q20⟩ : ∃ q : Int, v = .int q ∧ 4 ≤ q ∧ q ≤ 20 := by
      rcases List.mem_cons.mp hm with e | hm
      · exact ⟨4, e, by decide, by decide⟩
      rcases List.mem_cons.mp hm with e | hm
      · exact ⟨8, e, by decide, by decide⟩
      · exact ⟨20, List.mem_singleton.mp hm, by decide, by decide⟩
    refine ⟨z0, _, d0, _, rfl, rfl, .inl (.inl hz2), hv, p, c, cells, q, rfl, hI2, by omega, by omega, fun d1 a1 a2 a3 a4 d10 d11 a10 => ⟨_, _, rfl, rfl, ?_⟩⟩
    have kk := kept_hand (p := p) (H := H2) (o := handL c a1 a2 a3 a4)
    have hI3 := handIn_upd (i := a1) (g := a2) (m := a3) (t := a4) hI2 a10
    have k3 := kept_trans k2 kk
    generalize upd H2 p (handL c a1 a2 a3 a4) = H3 at hI3 k3 ⊢
    obtain ⟨d1, rfl⟩ := Int.eq_ofNat_of_zero_le d10
    obtain ⟨many, em⟩ : ∃ many : Nat, many = d1 + 1 := ⟨_, rfl⟩
    have m20 : many ≤ 20 := by omega
    have m1 : 1 ≤ many := by omega
    show gName 1 (V.int (1 + (d1 : Int))) _ _ _
    rw [show ((1 : Int) + (d1 : Int)) = (many : Int) from by omega]
    refine ⟨_, rfl, p, c, cells, 5, rfl, hI3, by decide, by decide, fun d2 a1 a2 a3 a4 d20 d21 a10 => ⟨rfl, _, rfl, ?_⟩⟩
    have kk := kept_hand (p := p) (H := H3) (o := handL c a1 a2 a3 a4)
    have hI4 := handIn_upd (i := a1) (g := a2) (m := a3) (t := a4) hI3 a10
    have k4 := kept_trans k3 kk
    generalize upd H3 p (handL c a1 a2 a3 a4) = H4 at hI4 k4 ⊢
    refine ite2 (fun _ => ?_) (fun _ => ?_)
    · refine ⟨_, rfl, (many : Int), rfl, by omega, by omega, fun D nD => ?_⟩
      rw [Int.toNat_natCast]
      have nDp := hand_ne hI4 nD
      refine lc_range (lo := 0) (n := many) (fun m G => HandIn G p c cells ∧ Kept p H4 G ∧ ∃ (us : List V) (L : List (List Nat)), G D = some (.lst us) ∧ TbR G us L ∧ L.length = m ∧ (∀ ns ∈ L, ns.Pairwise (· < ·)) ∧ ∀ ns ∈ L, ∀ x ∈ ns, x < 30) ⟨handIn_keep hI4 (smUpd nD), kept_same (smUpd nD), [], [], upd_same, .nil, rfl, fun ns h => (by cases h), fun ns h => (by cases h)⟩ ?_ ?_
      · rintro m G hm' ⟨hG, kG, us, L, hD, hT, hl, ha, hx⟩
        refine ⟨rfl, ?_⟩
        show tYes _ _ _
        refine ⟨_, rfl, _, rfl, p, c, cells, 29, rfl, hG, by decide, by decide, fun e a1 a2 a3 a4 e0 e1 a10 => ⟨_, _, rfl, rfl, ?_⟩⟩
        have kk := kept_hand (p := p) (H := G) (o := handL c a1 a2 a3 a4)
        have hG2 := handIn_upd (i := a1) (g := a2) (m := a3) (t := a4) hG a10
        have kG2 := kept_trans kG kk
        have hD2 := kk _ _ nDp hD
        have hT2 := tbKept hG kk hT
        generalize upd G p (handL c a1 a2 a3 a4) = G2 at hG2 kG2 hD2 hT2 ⊢
        refine ⟨_, rfl, p, c, cells, 3, rfl, hG2, by decide, by decide, fun f0 a1 a2 a3 a4 f00 f01 a10 => ⟨_, _, rfl, rfl, ?_⟩⟩
        have kk := kept_hand (p := p) (H := G2) (o := handL c a1 a2 a3 a4)
        have hG3 := handIn_upd (i := a1) (g := a2) (m := a3) (t := a4) hG2 a10
        have kG3 := kept_trans kG2 kk
        have hD3 := kk _ _ nDp hD2
        have hT3 := tbKept hG2 kk hT2
        generalize upd G2 p (handL c a1 a2 a3 a4) = G3 at hG3 kG3 hD3 hT3 ⊢
        obtain ⟨e, rfl⟩ := Int.eq_ofNat_of_zero_le e0
        obtain ⟨f0, rfl⟩ := Int.eq_ofNat_of_zero_le f00
        refine ⟨p, c, cells, e + 2, f0 + 1, ?_, hG3, by omega, fun r ns G4 asc lt hG4 k34 hr => ?_⟩
        · show [V.ref p, V.int (2 + (e : Int)), V.int (1 + (f0 : Int))] = [V.ref p, V.int ((e + 2 : Nat) : Int), V.int ((f0 + 1 : Nat) : Int)]
          rw [show (2 + (e : Int)) = ((e + 2 : Nat) : Int) from by omega, show (1 + (f0 : Int)) = ((f0 + 1 : Nat) : Int) from by omega]
        have hD4 := k34 _ _ nDp hD3
        have hT4 := tbKept hG3 k34 hT3
        have ul : us.length = m := (Paired.length hT).trans hl
        refine ⟨_, hD4, small1000 (by omega), handIn_write hI4 nD hG4, kept_over nD (kept_trans kG3 k34), us ++ [.ref r], L ++ [ns], upd_same, ?_, by rw [List.length_append, hl]; rfl, fun x hx' => ?_, fun x hx' => ?_⟩
        · exact tbSnoc (tbUpd hD4 hT4) ⟨r, rfl, by unfold TN; rw [upd_ne (fun z => by rw [z] at hr; rw [show G4 D = _ from hr] at hD4; cases hD4)]; exact hr⟩
        · rcases List.mem_append.mp hx' with h | h
          · exact ha x h
          · rw [List.mem_singleton.mp h]; exact asc
        · rcases List.mem_append.mp hx' with h | h
          · exact hx x h
          · rw [List.mem_singleton.mp h]
            intro y hy
            have := lt y hy
            omega
      · rintro G ⟨hG, kG, us, L, hD, hT, hl, ha, hx⟩
        refine ⟨D, _, rfl, .inl ⟨.inl (.inl hD), fun r nr => ?_⟩⟩
        exact k r us L _ (handIn_keep hG (smUpd nr)) (kept_trans k4 (kept_trans kG (kept_same (smUpd nr)))) upd_same (tbSame (smUpd nr) hT) ⟨by omega, by omega, ha, hx⟩
    refine ⟨_, rfl, 30, rfl, RgOk.of_le (by decide) (by decide) (by decide) (by decide), fun l0 nl0 => ?_⟩
    rw [show rgV 0 (30 : Int) = (List.range 30).map vn from rgVnS 30]
    have S5 := smUpd (o := .lst ((List.range 30).map vn)) nl0
    have hl0 : upd H4 l0 (.lst ((List.range 30).map vn)) l0 = some (.lst ((List.range 30).map vn)) := upd_same
    have hI5 := handIn_keep hI4 S5
    have k5 := kept_trans k4 (kept_same (p := p) S5)
    generalize upd H4 l0 (.lst ((List.range 30).map vn)) = H5 at S5 hl0 hI5 k5 ⊢
    refine ⟨p, c, l0, cells, _, rfl, hI5, .inl hl0, by rw [List.length_map, List.length_range]; decide, fun r ws H6 perm hI6 k56 nr hr => ?_⟩
    obtain ⟨xs, rfl, px⟩ := permVn perm
    have xl : xs.length = 30 := by rw [px.length_eq, List.length_range]
    have xnd : xs.Nodup := px.nodup_iff.mpr List.nodup_range
    have xlt : ∀ x ∈ xs, x < 30 := fun x hx => List.mem_range.mp (px.mem_iff.mp hx)
    have rp := hand_ne hI5 nr
    have k6 := kept_trans k5 k56
    refine ⟨_, rfl, p, c, cells, 30, rfl, hI6, by decide, by decide, fun e a1 a2 a3 a4 e0 e1 a10 => ⟨_, _, rfl, rfl, ?_⟩⟩
    have kk := kept_hand (p := p) (H := H6) (o := handL c a1 a2 a3 a4)
    have hI7 := handIn_upd (i := a1) (g := a2) (m := a3) (t := a4) hI6 a10
    have k7 := kept_trans k6 kk
    have hr7 := kk _ _ rp hr
    generalize upd H6 p (handL c a1 a2 a3 a4) = H7 at hI7 k7 hr7 ⊢
    obtain ⟨e, rfl⟩ := Int.eq_ofNat_of_zero_le e0
    refine ⟨(1 + (e : Int)), rfl, r, _, rfl, .inl (.inl hr7), fun P1 n1 => ?_⟩
    rw [show ((1 : Int) + (e : Int)) = ((e + 1 : Nat) : Int) from by omega, cutTake, ← List.map_take]
    obtain ⟨ys, eys⟩ : ∃ ys, ys = xs.take (e + 1) := ⟨_, rfl⟩
    rw [← eys]
    have yl : ys.length = e + 1 := by rw [eys, List.length_take]; omega
    have ynd : ys.Nodup := by rw [eys]; exact xnd.sublist (List.take_sublist _ _)
    have ylt : ∀ y ∈ ys, y < 30 := fun y hy => xlt y (by rw [eys] at hy; exact List.mem_of_mem_take hy)
    have S8 := smUpd (o := .lst (ys.map vn)) n1
    have p1p := hand_ne hI7 n1
    have hP1 : upd H7 P1 (.lst (ys.map vn)) P1 = some (.lst (ys.map vn)) := upd_same
    have hI8 := handIn_keep hI7 S8
    have k8 := kept_trans k7 (kept_same (p := p) S8)
    generalize upd H7 P1 (.lst (ys.map vn)) = H8 at S8 hP1 hI8 k8 ⊢
    refine ⟨_, rfl, _, rfl, p, c, P1, cells, ys, rfl, hI8, p1p, hP1, by omega, by omega, by omega, ynd, fun r9 us9 L9 H9 hI9 k89 r9p hr9 hL9 len9 pos9 sub9 => ?_⟩
    have k9 := kept_trans k8 k89
    refine ⟨r9, rfl, ⟨_, .inl (.inl hr9)⟩, fun D nD => ?_⟩
    have nDp := hand_ne hI9 nD
    have hdp := hI9
    refine lc_list (xs := us9) (fun m G => Same H9 G ∧ ∃ (us : List V) (L : List (List Nat)), G D = some (.lst us) ∧ TbR G us L ∧ L.length = m ∧ (∀ ns ∈ L, ns.Pairwise (· < ·)) ∧ ∀ ns ∈ L, ∀ x ∈ ns, x < 30) ⟨smUpd nD, [], [], upd_same, .nil, rfl, fun ns h => (by cases h), fun ns h => (by cases h)⟩ (fun m G _ z => .inl (.inl (z.1 _ _ hr9))) ?_ ?_
    · rintro m v G hv ⟨sm, us, L, hD, hT, hl, ha, hx⟩
      obtain ⟨ns, hns, t, rfl, tp, ht⟩ := pairGetT hL9 hv
      have mem := List.mem_of_getElem? hns
      obtain ⟨nn, nsub⟩ := sub9 ns mem
      have nlt : ∀ x ∈ ns, x < 30 := fun x hx => ylt x (nsub x hx)
      have nlen : ns.length ≤ 30 := by
        have pq := ndPerm nn nlt
        rw [pq.length_eq]
        exact Nat.le_trans (List.length_filter_le _ _) (by rw [List.length_range]; decide)
      have hml := (List.getElem?_eq_some_iff.mp hv).1
      refine ⟨rfl, ?_⟩
      show tYes _ _ _
      refine ⟨_, rfl, t, ns.map (fun n => ((n : Nat) : Int)), rfl, .inl (.inl (by rw [← natIntS]; exact sm _ _ ht)), by rw [List.length_map]; omega, fun zs q perm asc nq => ?_⟩
      obtain ⟨zn, rfl, zasc, zm⟩ := sortNat nn nlt perm asc
      rw [← natIntS]
      have s6 := sm.trans (smUpd (o := .lst (zn.map vn)) nq)
      have hD6 := smUpd (o := .lst (zn.map vn)) nq _ _ hD
      have hT6 := tbSame (smUpd (o := .lst (zn.map vn)) nq) hT
      refine ⟨q, _, rfl, .inl ⟨.inl (.inl upd_same), fun q2 nq2 => ?_⟩⟩
      have s7 := s6.trans (smUpd (o := .tup (zn.map vn)) nq2)
      have hD7 := smUpd (o := .tup (zn.map vn)) nq2 _ _ hD6
      have hT7 := tbSame (smUpd (o := .tup (zn.map vn)) nq2) hT6
      have hq7 : TN (upd (upd G q (.lst (zn.map vn))) q2 (.tup (zn.map vn))) q2 zn := by
        show upd _ q2 _ q2 = _
        rw [upd_same]
      generalize upd (upd G q (.lst (zn.map vn))) q2 (.tup (zn.map vn)) = G7 at s7 hD7 hT7 hq7 ⊢
      have ul : us.length = m := (Paired.length hT).trans hl
      refine ⟨_, hD7, small1000 (by omega), smOver nD s7, us ++ [.ref q2], L ++ [zn], upd_same, ?_, by rw [List.length_append, hl]; rfl, fun x hx' => ?_, fun x hx' => ?_⟩
      · exact tbSnoc (tbUpd hD7 hT7) ⟨q2, rfl, by unfold TN; rw [upd_ne (fun z => by rw [z] at hq7; rw [show G7 D = _ from hq7] at hD7; cases hD7)]; exact hq7⟩
      · rcases List.mem_append.mp hx' with h | h
        · exact ha x h
        · rw [List.mem_singleton.mp h]; exact zasc
      · rcases List.mem_append.mp hx' with h | h
        · exact hx x h
        · rw [List.mem_singleton.mp h]
          exact fun y hy => nlt y ((zm y).mp hy)
    rintro Ga ⟨sa, us, L, hD, hT, hl, ha, hx⟩
    have ul9 : us.length = us9.length := (Paired.length hT).trans hl
    have y30 : ys.length ≤ 30 := by omega
    refine ⟨by show 0 ≤ sizeLine; decide, fun e1 ne1 => ?_⟩
    have s1 := sa.trans (smUpd (o := .tup []) ne1)
    have he1 : upd Ga e1 (.tup []) e1 = some (.tup []) := upd_same
    have hD := smUpd (o := .tup []) ne1 _ _ hD
    have hT := tbSame (smUpd (o := .tup []) ne1) hT
    generalize upd Ga e1 (.tup []) = Gb at s1 he1 hD hT ⊢
    refine ⟨by show 1 ≤ sizeLine; decide, fun e2 ne2 => ?_⟩
    have s2 := s1.trans (smUpd (o := .lst [.ref e1]) ne2)
    have he2 : upd Gb e2 (.lst [.ref e1]) e2 = some (.lst [.ref e1]) := upd_same
    have he1 := smUpd (o := .lst [.ref e1]) ne2 _ _ he1
    have hD := smUpd (o := .lst [.ref e1]) ne2 _ _ hD
    have hT := tbSame (smUpd (o := .lst [.ref e1]) ne2) hT
    generalize upd Gb e2 (.lst [.ref e1]) = Gc at s2 he1 he2 hD hT ⊢
    refine ⟨D, e2, _, _, rfl, rfl, hD, he2, Nat.le_of_lt (small1000 (by show us.length + 1 ≤ 1000; omega)), fun r10 nr10 => ?_⟩
    have s3 := s2.trans (smUpd (o := .lst (us ++ [.ref e1])) nr10)
    have hr10 : upd Gc r10 (.lst (us ++ [.ref e1])) r10 = some (.lst (us ++ [.ref e1])) := upd_same
    have hIc := handIn_keep hI9 s2
    have r10p := hand_ne hIc nr10
    have he1n : TN (upd Gc r10 (.lst (us ++ [.ref e1]))) e1 [] := by
      show upd Gc r10 (.lst (us ++ [.ref e1])) e1 = some (.tup [])
      exact smUpd (o := .lst (us ++ [.ref e1])) nr10 _ _ he1
    have hT : TbR (upd Gc r10 (.lst (us ++ [.ref e1]))) (us ++ [.ref e1]) (L ++ [[]]) := tbSnoc (tbSame (smUpd nr10) hT) ⟨e1, rfl, he1n⟩
    have hId := handIn_keep hI9 s3
    have kd := kept_trans k9 (kept_same (p := p) s3)
    generalize upd Gc r10 (.lst (us ++ [.ref e1])) = Gd at s3 hr10 hT hId kd ⊢
    have lots : ∀ ns ∈ L ++ [[]], ns.Pairwise (· < ·) ∧ ∀ x ∈ ns, x < 30 := fun ns h => by
      rcases List.mem_append.mp h with h | h
      · exact ⟨ha ns h, hx ns h⟩
      · rw [List.mem_singleton.mp h]
        exact ⟨.nil, fun x hx => by cases hx⟩
    -- found
    refine ⟨_, rfl, (many : Int), rfl, by omega, by omega, fun D2 nD2 => ?_⟩
    rw [Int.toNat_natCast]
    have nD2p := hand_ne hId nD2
    refine lc_range (lo := 0) (n := many) (fun m G => HandIn G p c cells ∧ Kept p Gd G ∧ ∃ (us : List V) (L : List (List Nat)), G D2 = some (.lst us) ∧ TbR G us L ∧ L.length = m ∧ (∀ ns ∈ L, ns.Pairwise (· < ·)) ∧ ∀ ns ∈ L, ∀ x ∈ ns, x < 30) ⟨handIn_keep hId (smUpd nD2), kept_same (smUpd nD2), [], [], upd_same, .nil, rfl, fun ns h => (by cases h), fun ns h => (by cases h)⟩ ?_ ?_
    · rintro m G hm' ⟨hG, kG, us', L', hD2, hT2, hl2, ha2, hx2⟩
      refine ⟨rfl, ?_⟩
      show tYes _ _ _
      refine ⟨_, rfl, _, rfl, p, c, r10, cells, _, rfl, hG, r10p, kG _ _ r10p hr10, by rw [List.length_append]; exact Nat.succ_pos _, by rw [List.length_append]; show us.length + 1 ≤ 1000000; omega, fun j v G2 hv hG2 kG2 _ => ?_⟩
      obtain ⟨ns, hns, t, rfl, ht⟩ := pairGetT hT hv
      obtain ⟨n1, n2⟩ := lots ns (List.mem_of_getElem? hns)
      have ht2 : TN G2 t ns := (kept_trans kG kG2) _ _ (tup_ne hId ht) ht
      have hD3 := kG2 _ _ nD2p hD2
      have hT3 := tbKept hG kG2 hT2
      have ul : us'.length = m := (Paired.length hT2).trans hl2
      refine ⟨_, hD3, small1000 (by omega), handIn_write hId nD2 hG2, kept_over nD2 (kept_trans kG kG2), us' ++ [.ref t], L' ++ [ns], upd_same, ?_, by rw [List.length_append, hl2]; rfl, fun x hx' => ?_, fun x hx' => ?_⟩
      · exact tbSnoc (tbUpd hD3 hT3) ⟨t, rfl, by unfold TN; rw [upd_ne (fun z => by rw [z] at ht2; rw [show G2 D2 = _ from ht2] at hD3; cases hD3)]; exact ht2⟩
      · rcases List.mem_append.mp hx' with h | h
        · exact ha2 x h
        · rw [List.mem_singleton.mp h]; exact n1
      · rcases List.mem_append.mp hx' with h | h
        · exact hx2 x h
        · rw [List.mem_singleton.mp h]; exact n2
    rintro Ge ⟨hIe, ke, us2, LL2, hD2, hT2, hl2, ha2, hx2⟩
    have kE := kept_trans kd ke
    have ul2 : us2.length = many := (Paired.length hT2).trans hl2
    obtain ⟨Mid, eMid⟩ : ∃ Mid : L2.St → Hp → Prop, Mid = fun σ G => ∃ (t5 t6 t7 : Option V) (us : List V) (L : List (List Nat)), σ = [some (.ref p), some (.int (many : Nat)), some (.ref P1), some (.ref r10), some (.ref D2), t5, t6, t7, none, none, none] ∧ HandIn G p c cells ∧ Kept p H G ∧ G D2 = some (.lst us) ∧ TbR G us L ∧ L.length = many ∧ (∀ ns ∈ L, ns.Pairwise (· < ·)) ∧ ∀ ns ∈ L, ∀ x ∈ ns, x < 30 := ⟨_, rfl⟩
    refine ⟨Mid, ?_, ?_⟩
    rotate_left
    · rw [eMid]
      rintro σ G ⟨t5, t6, t7, us, L, rfl, hG, kG, hD, hT, hl, ha, hx⟩
      refine ⟨_, rfl, D2, _, rfl, .inl ⟨.inl (.inl hD), fun r nr => ?_⟩⟩
      exact k r us L _ (handIn_keep hG (smUpd nr)) (kept_trans kG (kept_same (smUpd nr))) upd_same (tbSame (smUpd nr) hT) ⟨by omega, by omega, ha, hx⟩
    refine ⟨_, rfl, p, c, cells, 3, rfl, hIe, by decide, by decide, fun d3 a1 a2 a3 a4 d30 d31 a10 => ⟨rfl, _, rfl, ?_⟩⟩
    have kk := kept_hand (p := p) (H := Ge) (o := handL c a1 a2 a3 a4)
    have hIf := handIn_upd (i := a1) (g := a2) (m := a3) (t := a4) hIe a10
    have kF := kept_trans kE kk
    have ke := kept_trans ke kk
    have hD2 := kk _ _ nD2p hD2
    have hT2 := tbKept hIe kk hT2
    generalize upd Ge p (handL c a1 a2 a3 a4) = Gf at hIf kF ke hD2 hT2 ⊢
    refine ite2 (fun _ => ?_) (fun _ => ?_)
    rotate_left
    · rw [eMid]
      exact ⟨none, none, none, us2, LL2, rfl, hIf, kF, hD2, hT2, hl2, ha2, hx2⟩
    refine ⟨_, rfl, _, rfl, p, c, cells, (many : Int), rfl, hIf, by omega, by omega, fun d4 a1 a2 a3 a4 d40 d41 a10 => ?_⟩
    have kk := kept_hand (p := p) (H := Gf) (o := handL c a1 a2 a3 a4)
    have hIg := handIn_upd (i := a1) (g := a2) (m := a3) (t := a4) hIf a10
    have kG := kept_trans kF kk
    have ke := kept_trans ke kk
    have hD2 := kk _ _ nD2p hD2
    have hT2 := tbKept hIf kk hT2
    generalize upd Gf p (handL c a1 a2 a3 a4) = Gg at hIg kG ke hD2 hT2 ⊢
    refine ⟨_, rfl, p, c, cells, 30, rfl, hIg, by decide, by decide, fun d5 a1 a2 a3 a4 d50 d51 a10 => ?_⟩
    have kk := kept_hand (p := p) (H := Gg) (o := handL c a1 a2 a3 a4)
    have hIh := handIn_upd (i := a1) (g := a2) (m := a3) (t := a4) hIg a10
    have kH := kept_trans kG kk
    have ke := kept_trans ke kk
    have hD2 := kk _ _ nD2p hD2
    have hT2 := tbKept hIg kk hT2
    generalize upd Gg p (handL c a1 a2 a3 a4) = Gh at hIh kH ke hD2 hT2 ⊢
    obtain ⟨ix, rfl⟩ := Int.eq_ofNat_of_zero_le d40
    obtain ⟨num, rfl⟩ := Int.eq_ofNat_of_zero_le d50
    have ixl : ix < us2.length := by omega
    have hux : us2[ix]? = some us2[ix] := List.getElem?_eq_getElem ixl
    obtain ⟨ns, hns, t, et, ht⟩ := pairGetT hT2 hux
    have hux : us2[ix]? = some (.ref t) := by rw [hux, et]
    have nasc := ha2 ns (List.mem_of_getElem? hns)
    have nlt := hx2 ns (List.mem_of_getElem? hns)
    have nlen := lotLen nasc nlt
    obtain ⟨g, hg⟩ : ∃ g : Nat → Bool, g = fun x => !decide (x = num) := ⟨_, rfl⟩
    refine ⟨_, rfl, _, rfl, D2, _, (ix : Int), _, rfl, rfl, .inl (.inl hD2), atI_nat hux, t, rfl, ⟨_, tnL ht⟩, fun D3 nD3 => ?_⟩
    refine lc_tup (xs := ns.map vn) (fun j G => Same Gh G ∧ G D3 = some (.lst (((ns.take j).filter g).map vn))) ⟨smUpd nD3, upd_same⟩ (fun j G _ z => tnL (z.1 _ _ ht)) ?_ ?_
    · rintro j v G hv ⟨sm, hD3⟩
      obtain ⟨y, hy, rfl⟩ := vn_get hv
      have et2 := filterTakeS (c := g) hy
      have fl : ((ns.take j).filter g).length ≤ 60 := by
        have q1 := List.length_filter_le g (ns.take j)
        rw [List.length_take] at q1
        omega
      have ev : decide (vn y = vn num) = decide (y = num) := by rw [Bool.eq_iff_iff, decide_eq_true_iff, decide_eq_true_iff]; exact ⟨fun z => by have := V.int.inj z; omega, fun z => by rw [z]⟩
      refine ⟨rfl, _, rfl, _, rfl, rfl, _, rfl, ?_⟩
      by_cases cy : y = num
      · refine ifF (by show ¬ (!decide (vn y = vn num)) = true; rw [ev, decide_eq_true cy]; decide) ⟨sm, ?_⟩
        rw [et2, if_neg (by rw [hg]; show ¬ (!decide (y = num)) = true; rw [decide_eq_true cy]; decide), List.append_nil]
        exact hD3
      · refine ifT (by show (!decide (vn y = vn num)) = true; rw [ev, decide_eq_false cy]; rfl) ?_
        refine ⟨_, rfl, _, hD3, small1000 (by rw [List.length_map]; omega), smOver nD3 sm, ?_⟩
        rw [upd_same, et2, if_pos (by rw [hg]; show (!decide (y = num)) = true; rw [decide_eq_false cy]; rfl), List.map_append]
        rfl
    rintro Gi ⟨si, hD3⟩
    rw [List.length_map, List.take_length] at hD3
    have fmem : ∀ x, x ∈ ns.filter g ↔ x ∈ ns ∧ x ≠ num := fun x => by
      rw [List.mem_filter, hg]
      show x ∈ ns ∧ (!decide (x = num)) = true ↔ _
      rw [Bool.not_eq_true', decide_eq_false_iff_not]
    have fl : (ns.filter g).length ≤ 30 := Nat.le_trans (List.length_filter_le _ _) nlen
    have fasc : (ns.filter g).Pairwise (· < ·) := nasc.filter _
    have hD2i := si _ _ hD2
    have hT2i := tbSame si hT2
    have fin : ∀ (G : Hp) (q : Addr) (zn : List Nat), Same Gi G → TN G q zn → zn.Pairwise (· < ·) → (∀ x ∈ zn, x < 30) → Mid [some (.ref p), some (.int (many : Nat)), some (.ref P1), some (.ref r10), some (.ref D2), some (.int (ix : Nat)), some (.int (num : Nat)), some (.ref D3), none, none, none] (upd G D2 (.lst (us2.set ix (.ref q)))) := fun G q zn sg hq zasc zlt => by
      rw [eMid]
      have hDG := sg _ _ hD2i
      have hTG := tbSame sg hT2i
      have hqn : TN (upd G D2 (.lst (us2.set ix (.ref q)))) q zn := by
        unfold TN
        rw [upd_ne (fun z => by rw [z] at hq; rw [show G D2 = _ from hq] at hDG; cases hDG)]
        exact hq
      refine ⟨_, _, _, us2.set ix (.ref q), LL2.set ix zn, rfl, handIn_write hId nD2 (handIn_keep hIh (si.trans sg)), ?_, upd_same, tbSet (tbUpd hDG hTG) ⟨q, rfl, hqn⟩, by rw [List.length_set]; exact hl2, fun x hx' => ?_, fun x hx' => ?_⟩
      · exact kept_trans kd (kept_over nD2 (kept_trans ke (kept_same (si.trans sg))))
      · rcases List.mem_or_eq_of_mem_set hx' with h | h
        · exact ha2 x h
        · rw [h]; exact zasc
      · rcases List.mem_or_eq_of_mem_set hx' with h | h
        · exact hx2 x h
        · rw [h]; exact zlt
    have ixs : ixN us2.length (ix : Int) = some ix := by
      unfold ixN
      rw [if_pos (by omega), if_pos (by omega), Int.toNat_natCast]
    refine ⟨_, rfl, _, rfl, _, rfl, D2, _, (ix : Int), _, rfl, rfl, .inl (.inl hD2i), atI_nat hux, t, _, rfl, .inr (tnL (si _ _ ht)), rfl, vn_flat _, _, rfl, ?_⟩
    by_cases cn : num ∈ ns
    · refine ifT (by show inV (vn num) _ = true; rw [inV_vn]; exact decide_eq_true cn) ?_
      refine ⟨_, rfl, D3, _, rfl, .inl ⟨.inl (.inl hD3), fun q nq => ?_⟩⟩
      refine ⟨_, rfl, _, rfl, D2, _, _, ix, rfl, rfl, smUpd nq _ _ hD2i, ixs, ?_⟩
      exact fin _ q (ns.filter g) (smUpd nq) upd_same fasc fun x hx' => nlt x ((fmem x).mp hx').1
    · refine ifF (by show ¬ inV (vn num) _ = true; rw [inV_vn]; simpa using cn) ?_
      refine ⟨_, rfl, _, rfl, by show 1 ≤ sizeLine; decide, fun w1 nw1 => ?_⟩
      have sw := smUpd (o := .lst [vn num]) nw1
      have hw1 : upd Gi w1 (.lst [vn num]) w1 = some (.lst [vn num]) := upd_same
      generalize upd Gi w1 (.lst [vn num]) = Gj at sw hw1 ⊢
      refine ⟨D3, w1, _, _, rfl, rfl, sw _ _ hD3, hw1, Nat.le_of_lt (small1000 (by rw [List.length_map]; show (ns.filter g).length + 1 ≤ 1000; omega)), fun w2 nw2 => ?_⟩
      have sw2 := sw.trans (smUpd (o := .lst ((ns.filter g).map vn ++ [vn num])) nw2)
      have hw2 : upd Gj w2 (.lst ((ns.filter g).map vn ++ [vn num])) w2 = some (.lst ((ns.filter g ++ [num]).map vn)) := by rw [upd_same, List.map_append]; rfl
      generalize upd Gj w2 (.lst ((ns.filter g).map vn ++ [vn num])) = Gk at sw2 hw2 ⊢
      have nn : (ns.filter g ++ [num]).Nodup := by
        refine List.nodup_append.mpr ⟨fasc.imp fun h e => by omega, List.nodup_cons.mpr ⟨List.not_mem_nil, List.nodup_nil⟩, fun a ha' b hb' e => ?_⟩
        rw [List.mem_singleton.mp hb'] at e
        exact ((fmem a).mp ha').2 e
      have nl : ∀ x ∈ ns.filter g ++ [num], x < 30 := fun x hx' => by
        rcases List.mem_append.mp hx' with h | h
        · exact nlt x ((fmem x).mp h).1
        · rw [List.mem_singleton.mp h]; omega
      refine ⟨w2, (ns.filter g ++ [num]).map (fun n => ((n : Nat) : Int)), rfl, .inl (.inl (by rw [← natIntS]; exact hw2)), by rw [List.length_map, List.length_append]; show (ns.filter g).length + 1 < 64; omega, fun zs q0 perm asc nq0 => ?_⟩
      obtain ⟨zn, rfl, zasc, zm⟩ := sortNat nn nl perm asc
      rw [← natIntS]
      have sw3 := sw2.trans (smUpd (o := .lst (zn.map vn)) nq0)
      refine ⟨q0, _, rfl, .inl ⟨.inl (.inl upd_same), fun q nq => ?_⟩⟩
      have sw4 := sw3.trans (smUpd (o := .tup (zn.map vn)) nq)
      refine ⟨_, rfl, _, rfl, D2, _, _, ix, rfl, rfl, sw4 _ _ hD2i, ixs, ?_⟩
      exact fin _ q zn sw4 upd_same zasc fun x hx' => nl x ((zm x).mp hx')
end
end Cn
namespace L2
open PySem PySem.Spec PyProof.Rows
/-! {k: v for .. if .. for .. if ..}: a dict out of two walks, one in the other -/
section
variable {P : Program} {w : World} {A : Around} {R : Result → Shared → Prop} {s : Shared} {kx vx t0 i0 t1 i1 : Expr} {c0 c1 : List Expr} {scope : Scope} {pos : Pos} {it : Value} {D : Addr} {env : Env}
abbrev dc2 (kx vx t0 i0 t1 i1 : Expr) (c0 c1 : List Expr) (scope : Scope) (pos : Pos) : Expr := .DictComp kx vx [⟨t0, i0, c0, 0⟩, ⟨t1, i1, c1, 0⟩] scope pos
theorem dc2_outer : compTurn (dc2 kx vx t0 i0 t1 i1 c0 c1 scope pos) 0 it (.ref D) env = (do
    standAt i0.pos
    match ← pyNext it with
    | none => pure (.done .next)
    | some v =>
      letOwnedTupleGo t0 it v
      assign t0 env v
      let mut yes := true
      for c in c0 do
        if yes then yes ← isTrue c env (eval c env)
      if yes then
        let y ← eval i1 env
        standAt i1.pos
        let y ← foldedSetIterable i1 env y
        let _ ← runOwn (.compStart (dc2 kx vx t0 i0 t1 i1 c0 c1 scope pos) 1 (← holding [y] (pyIter y)) (.ref D) env) env
      again (.compLoop (dc2 kx vx t0 i0 t1 i1 c0 c1 scope pos) 0 it (.ref D) env)) := by rfl
theorem dc2_inner : compTurn (dc2 kx vx t0 i0 t1 i1 c0 c1 scope pos) 1 it (.ref D) env = (do
    standAt i1.pos
    match ← pyNext it with
    | none => pure (.done .next)
    | some v =>
      letOwnedTupleGo t1 it v
      assign t1 env v
      let mut yes := true
      for c in c1 do
        if yes then yes ← isTrue c env (eval c env)
      if yes then
        (do
          let a ← eval kx env
          let b ← holding [a] (eval vx env)
          standAt { kx.pos with endLine := vx.pos.endLine, endCol := vx.pos.endCol }
          holding [a, b] (dictSet D a b))
      again (.compLoop (dc2 kx vx t0 i0 t1 i1 c0 c1 scope pos) 1 it (.ref D) env)) := by rfl
/-- what a raise in a turn leads to -/
abbrev dcErr (P : Program) (w : World) (A : Around) (env : Env) (R : Result → Shared → Prop) : Value → Shared → Prop := notedBy (model P w) A env fun e s' => R (.error e) s'
abbrev dcTests (cs : List Expr) (env : Env) : Sem Bool := forIn cs true fun c r => if r = true then do let ok ← isTrue c env (eval c env); pure (ForInStep.yield ok) else pure (ForInStep.yield r)
theorem dc2_loop0 (plain : ∀ x, foldedSetIterable i1 env x = pure x) (J : Nat → Shared → Prop)
    (turn : ∀ n s, J n s → wpAny (model P w) A (pyNext it) (fun r s₁ => match r with
      | none => R (.ok .next) s₁
      | some v => wpAny (model P w) A (letOwnedTupleGo t0 it v) (fun _ s₂ => wpAny (model P w) A (assign t0 env v) (fun _ s₃ => wpAny (model P w) A (dcTests c0 env) (fun yes s₄ =>
          if yes = true then wpAny (model P w) A (eval i1 env) (fun y s₅ => wpAny (model P w) A (pyIter y) (fun it1 s₆ =>
            codeAny (model P w) A (.compStart (dc2 kx vx t0 i0 t1 i1 c0 c1 scope pos) 1 it1 (.ref D) env) (fun r s' => match r with
              | .ok _ => ∃ m, m < n ∧ J m s'
              | .error _ => False) s₆) (dcErr P w A env R) s₅) (dcErr P w A env R) s₄
          else ∃ m, m < n ∧ J m s₄) (dcErr P w A env R) s₃) (dcErr P w A env R) s₂) (dcErr P w A env R) s₁) (dcErr P w A env R) s)
    (n : Nat) (h : J n s) : codeAny (model P w) A (.compLoop (dc2 kx vx t0 i0 t1 i1 c0 c1 scope pos) 0 it (.ref D) env) R s := by
  refine codeAny_loop rfl J (fun n s hJ => ?_) n h
  show wpAny _ A ((compTurn (dc2 kx vx t0 i0 t1 i1 c0 c1 scope pos) 0 it (.ref D) env).onRaise (fun x => do noteFrame x env; theTreesLotGoes x)) _ _ s
  refine wpAny_noted ?_
  rw [dc2_outer]
  refine wpAny_bind (wpAny_standAt (wpAny_bind (wpAny_mono (turn n s hJ) (fun r s₁ h₁ => ?_) fun _ _ z => z)))
  cases r with
  | none => exact wpAny_pure h₁
  | some v =>
    refine wpAny_bind (wpAny_mono h₁ (fun _ s₂ h₂ => wpAny_bind (wpAny_mono h₂ (fun _ s₃ h₃ => wpAny_bind (wpAny_mono h₃ (fun yes s₄ h₄ => ?_) fun _ _ z => z)) fun _ _ z => z)) fun _ _ z => z)
    cases yes with
    | false => exact wpAny_pure ⟨rfl, h₄⟩
    | true =>
      refine wpAny_bind (wpAny_mono h₄ (fun y s₅ h₅ => wpAny_bind (wpAny_standAt (wpAny_bind (wpAny_of_eq (plain y) (wpAny_bind (wpAny_holding (wpAny_mono h₅ (fun it1 s₆ h₆ => ?_) fun _ _ z => z))))))) fun _ _ z => z)
      refine wpAny_bind (wpAny_runOwn ?_)
      rw [Around.mark_none]
      refine codeAny_mono h₆ fun r s' hr => ?_
      cases r with
      | ok f => first
        | exact wpAny_pure ⟨rfl, hr⟩
        | exact wpAny_bind (wpAny_pure (wpAny_pure ⟨rfl, hr⟩))
      | error e => exact hr.elim
theorem dc2_loop1 (J : Nat → Shared → Prop)
    (turn : ∀ n s, J n s → wpAny (model P w) A (pyNext it) (fun r s₁ => match r with
      | none => R (.ok .next) s₁
      | some v => wpAny (model P w) A (letOwnedTupleGo t1 it v) (fun _ s₂ => wpAny (model P w) A (assign t1 env v) (fun _ s₃ => wpAny (model P w) A (dcTests c1 env) (fun yes s₄ =>
          if yes = true then wpAny (model P w) A (eval kx env) (fun a s₅ => wpAny (model P w) A (eval vx env) (fun b s₆ => wpAny (model P w) A (dictSet D a b) (fun _ s₇ => ∃ m, m < n ∧ J m s₇) (dcErr P w A env R) s₆) (dcErr P w A env R) s₅) (dcErr P w A env R) s₄
          else ∃ m, m < n ∧ J m s₄) (dcErr P w A env R) s₃) (dcErr P w A env R) s₂) (dcErr P w A env R) s₁) (dcErr P w A env R) s)
    (n : Nat) (h : J n s) : codeAny (model P w) A (.compLoop (dc2 kx vx t0 i0 t1 i1 c0 c1 scope pos) 1 it (.ref D) env) R s := by
  refine codeAny_loop rfl J (fun n s hJ => ?_) n h
  show wpAny _ A ((compTurn (dc2 kx vx t0 i0 t1 i1 c0 c1 scope pos) 1 it (.ref D) env).onRaise (fun x => do noteFrame x env; theTreesLotGoes x)) _ _ s
  refine wpAny_noted ?_
  rw [dc2_inner]
  refine wpAny_bind (wpAny_standAt (wpAny_bind (wpAny_mono (turn n s hJ) (fun r s₁ h₁ => ?_) fun _ _ z => z)))
  cases r with
  | none => exact wpAny_pure h₁
  | some v =>
    refine wpAny_bind (wpAny_mono h₁ (fun _ s₂ h₂ => wpAny_bind (wpAny_mono h₂ (fun _ s₃ h₃ => wpAny_bind (wpAny_mono h₃ (fun yes s₄ h₄ => ?_) fun _ _ z => z)) fun _ _ z => z)) fun _ _ z => z)
    cases yes with
    | false => exact wpAny_pure ⟨rfl, h₄⟩
    | true => exact wpAny_bind (wpAny_bind (wpAny_mono h₄ (fun a s₅ h₅ => wpAny_bind (wpAny_holding (wpAny_mono h₅ (fun b s₆ h₆ => wpAny_bind (wpAny_standAt (wpAny_holding (wpAny_mono h₆ (fun _ s₇ h₇ => wpAny_pure ⟨rfl, h₇⟩) fun _ _ z => z)))) fun _ _ z => z))) fun _ _ z => z))
theorem dc2_start1 (h0 : codeAny (model P w) A (.compLoop (dc2 kx vx t0 i0 t1 i1 c0 c1 scope pos) 1 it (.ref D) env) R s)
    (h : wpAny (model P w) A (pyIter it) (fun it' s' => codeAny (model P w) A (.compLoop (dc2 kx vx t0 i0 t1 i1 c0 c1 scope pos) 1 it' (.ref D) env) R s') (dcErr P w A env R) s) :
    codeAny (model P w) A (.compStart (dc2 kx vx t0 i0 t1 i1 c0 c1 scope pos) 1 it (.ref D) env) R s := by
  refine codeAny_of_tree ?_
  show wpAny _ _ ((compStart (dc2 kx vx t0 i0 t1 i1 c0 c1 scope pos) 1 it (.ref D) env).onRaise (fun x => do noteFrame x env; standAt theWindowsPlace)) _ _ s
  refine wpAny_notedAt ?_
  unfold compStart
  show wpAny _ _ (ask >>= _) _ _ s
  refine wpAny_bind (wpAny_askSetting (wpAny_ite ?_))
  split
  · first
      | exact wpAny_bind (wpAny_pure (wpAny_pure (And.intro rfl h0)))
      | exact wpAny_pure (And.intro rfl h0)
  · first
      | exact wpAny_bind (wpAny_rule (wpAny_bind (wpAny_standAt (wpAny_bind (wpAny_mono h (fun it' s' z => wpAny_pure (And.intro rfl z)) fun _ _ x => x)))))
      | (refine wpAny_bind (wpAny_rule ?_); show wpAny _ _ (standAt i1.pos >>= _) _ _ s; exact wpAny_bind (wpAny_standAt (wpAny_bind (wpAny_mono h (fun it' s' z => wpAny_pure (And.intro rfl z)) fun _ _ x => x))))
end
section
variable {X : Cx}
def tDc2 (wi : TI) (g : TG) (tt : TT) (wi1 : TI) (g1 : TG) (tt1 : TT) (tk tv : TE) (vs vs1 : List Nat) : TE := fun σ H Q => wi σ H fun J H1 => ∀ D, H1 D = none → ∃ W : Nat → Nat → Hp → Prop, (∃ m, W 0 m (upd H1 D (.dK []))) ∧ ∀ i m H, W i m H →
  (J.stop i H ∧ Q (.ref D) H) ∨ (J.go i H ∧ ∃ Nx : Hp → Prop, (∀ H', Nx H' → ∃ m', m' < m ∧ W (i + 1) m' H') ∧ ∀ x H', J.yld i H x H' → g x (wipe σ vs) H' fun σ2 H2 => wipe σ2 vs = wipe σ vs ∧ tt σ2 H2 fun b H3 =>
    if b = true then wi1 σ2 H3 fun J1 H4 => ∃ W1 : Nat → Nat → Hp → Prop, (∃ m, W1 0 m H4) ∧ ∀ j k H, W1 j k H →
      (J1.stop j H ∧ Nx H) ∨ (J1.go j H ∧ ∃ Nx1 : Hp → Prop, (∀ H', Nx1 H' → ∃ k', k' < k ∧ W1 (j + 1) k' H') ∧ ∀ x H', J1.yld j H x H' → g1 x (wipe σ2 vs1) H' fun σ3 H5 => wipe σ3 vs1 = wipe σ2 vs1 ∧ tt1 σ3 H5 fun b H6 =>
        if b = true then tk σ3 H6 fun y H7 => tv σ3 H7 fun z H8 => ∃ kvs q, y = kV q ∧ H8 D = some (.dK kvs) ∧ kvs.length < sizeLine ∧ Nx1 (upd H8 D (.dK (putK kvs q z))) else Nx1 H6)
    else Nx H3)
theorem pe_dc2 {kx vx tg iter tg1 iter1 : Expr} {ifs ifs1 : List Expr} {scope : Scope} {own : List (Str × Nat)} {vs1 : List Nat} {pos : Pos} {wi wi1 : TI} {g g1 : TG} {tt tt1 : TT} {tk tv : TE} (hc : X.calm = true) (hN : X.N.Nodup) (hi : PI X tg iter wi) (ok : BlkOk X.N X.env.scope scope own) (hv : ∀ i ∈ vs1, i ∈ own.map (·.2))
    (hg : ∀ (s : Shared) (H : Hp) (C : Addr) (cl : List (Str × Addr)) (fp : List Addr), PG (X.blk s H scope (compEnvC scope cl C X.env) fp) tg g) (ht : ∀ (s : Shared) (H : Hp) (C : Addr) (cl : List (Str × Addr)) (fp : List Addr), PTs (X.blk s H scope (compEnvC scope cl C X.env) fp) ifs tt)
    (hi1 : ∀ (s : Shared) (H : Hp) (C : Addr) (cl : List (Str × Addr)) (fp : List Addr), PI (X.blk s H scope (compEnvC scope cl C X.env) fp) tg1 iter1 wi1)
    (hg1 : ∀ (s : Shared) (H : Hp) (C : Addr) (cl : List (Str × Addr)) (fp : List Addr), PG (X.blk s H scope (compEnvC scope cl C X.env) fp) tg1 g1) (ht1 : ∀ (s : Shared) (H : Hp) (C : Addr) (cl : List (Str × Addr)) (fp : List Addr), PTs (X.blk s H scope (compEnvC scope cl C X.env) fp) ifs1 tt1)
    (hk : ∀ (s : Shared) (H : Hp) (C : Addr) (cl : List (Str × Addr)) (fp : List Addr), PE (X.blk s H scope (compEnvC scope cl C X.env) fp) kx tk)
    (he : ∀ (s : Shared) (H : Hp) (C : Addr) (cl : List (Str × Addr)) (fp : List Addr), PE (X.blk s H scope (compEnvC scope cl C X.env) fp) vx tv) (hs : ∀ x, foldedSetIterable iter X.env x = pure x := by intro _; rfl) (hs1 : ∀ env x, foldedSetIterable iter1 env x = pure x := by intro _ _; rfl) :
    PE X (dc2 kx vx tg iter tg1 iter1 ifs ifs1 scope pos) (tDc2 wi g tt wi1 g1 tt1 tk tv (own.map (·.2)) vs1) := by
  refine ⟨fun pins s σ H Q I h => ?_⟩
  rw [arm_eval_DictComp]
  have clo : ∀ y ∈ scope.names, y.2 = .free → ∃ c, X.env.cells.lookup y.1 = some c := fun y hy e => (ok.free y hy e).elim (fun k => I.ok.has _ (.inl k)) fun k => I.ok.has _ (.inr k)
  refine wpAny_comprehension_free (use := none) rfl hs (closure_ok clo) ok.kind (fun y hy e => by rw [ok.uniq y hy, e]) (thn (hi.run pins s σ H _ I h) fun xv s1 hx => thn hx fun itv s2 h2 => ?_)
  obtain ⟨it, fp, tn, J, H2, e, I2, T, st2, f2, q⟩ := h2
  subst e
  refine wpAny_newObj_type (newEnv_comp ?_)
  obtain ⟨D, hD⟩ : ∃ D, D = s2.heap.objs.size := ⟨_, rfl⟩
  rw [← hD]
  obtain ⟨W, ⟨m0, w0⟩, turn⟩ := q D (I2.hok.fresh (Nat.le_of_eq hD.symm))
  obtain ⟨s3, es3⟩ : ∃ s3 : Shared, s3 = { s2 with heap := s2.heap.push { cls := .type "dict", data := .dict #[] } } := ⟨_, rfl⟩
  have h3 : s3.heap = s2.heap.push { cls := .type "dict", data := .dict #[] } := by rw [es3]
  have I3 : Inv X pins σ (upd H2 D (.dK [])) s3 := by
    rw [es3]
    refine I2.laid (t' := s2.toks) (fun b o e => Heap.get?_push_of_some _ e) (Nat.le_of_eq hD.symm) ?_
    rw [hD]
    exact dk_empty s2.heap I2.big
  have f3 : ∀ b ∈ fp, FpOk X pins (upd H2 D (.dK [])) b ∧ b < s3.heap.objs.size := fun b hb => by
    obtain ⟨o, e, _⟩ := T.obj _ _ st2 b hb
    have lt := Heap.lt_size e
    refine ⟨⟨?_, (f2 b hb).2⟩, by rw [h3, Heap.size_push]; exact Nat.lt_succ_of_lt lt⟩
    rw [upd_ne (by rw [hD]; exact Nat.ne_of_lt lt)]
    exact (f2 b hb).1
  have st3 : tn 0 s3.heap := T.keep _ _ _ st2 fun b _ o e => by rw [h3]; exact Heap.get?_push_of_some _ e
  have I4 := block_start I3 ok hN f3
  obtain ⟨cl, hcl⟩ : ∃ cl, cl = cellsFrom (s3.heap.objs.size + 1) scope.names (cloFrom X.env.cells scope.names []) := ⟨_, rfl⟩
  obtain ⟨C, hC⟩ : ∃ C, C = s3.heap.objs.size := ⟨_, rfl⟩
  rw [← hcl, ← hC] at I4
  have pg := hg s3 (upd H2 D (.dK [])) C cl fp
  have pt := ht s3 (upd H2 D (.dK [])) C cl fp
  have pk := hk s3 (upd H2 D (.dK [])) C cl fp
  have pv := he s3 (upd H2 D (.dK [])) C cl fp
  have pi1 := hi1 s3 (upd H2 D (.dK [])) C cl fp
  have pg1 := hg1 s3 (upd H2 D (.dK [])) C cl fp
  have pt1 := ht1 s3 (upd H2 D (.dK [])) C cl fp
  have nfp : ∀ b ∈ fp, (upd H2 D (.dK [])) b = none := fun b hb => (f3 b hb).1.1
  have goal : ∀ s4 : Shared, s4 = { s3 with heap := pushCells (s3.heap.push { cls := .type "dict", data := .dict #[] }) scope.names } → codeAny (model X.prog X.w) X.A (.compStart (dc2 kx vx tg iter tg1 iter1 ifs ifs1 scope pos) 0 (.ref it) (.ref D) (compEnvC scope cl C X.env)) (compPost (model X.prog X.w) X.A X.xe none (fun v s' => EP X pins σ Q v s') (.ref D) C) s4 := by
    intro s4 es4
    rw [← es4] at I4
    have cL : (compEnvC scope cl C X.env).locals = C := rfl
    generalize compEnvC scope cl C X.env = ce at I4 pg pt pk pv pi1 pg1 pt1 cL ⊢
    generalize upd H2 D (.dK []) = H3 at I3 I4 pg pt pk pv pi1 pg1 pt1 w0 nfp f3
    have st4 : tn 0 s4.heap := T.keep _ _ _ st3 fun b _ o e => by rw [es4]; exact pushCells_keeps _ _ _ _ (Heap.get?_push_of_some _ e)
    have stat : ∀ {σ' : St} {H' : Hp} {s' : Shared}, Inv (X.blk s3 H3 scope ce fp) [] σ' H' s' → (∀ b ∈ fp, H' b = none) → ∀ b ∈ fp, FpOk (X.blk s3 H3 scope ce fp) [] H' b := fun {σ' H' s'} I' hn b hb =>
      ⟨hn b hb, (I'.ok.exf b hb).1, I'.ok.exfs b hb, .inl hb, fun x c e => (I'.ok.exf b hb).2 x c e, fun p hp => absurd (show p ∈ ([] : List (Addr × Obj)) ++ [] from hp) (by simp)⟩
    have loop : codeAny (model X.prog X.w) X.A (.compLoop (dc2 kx vx tg iter tg1 iter1 ifs ifs1 scope pos) 0 (.ref it) (.ref D) ce) (compPost (model X.prog X.w) X.A X.xe none (fun v s' => EP X pins σ Q v s') (.ref D) C) s4 := by
      refine dc2_loop0 (hs1 ce) (fun n s' => ∃ i H', Inv (X.blk s3 H3 scope ce fp) [] (wipe σ (own.map (·.2))) H' s' ∧ tn i s'.heap ∧ (∀ b ∈ fp, H' b = none) ∧ W i n H') ?_ m0 ⟨0, H3, I4, st4, nfp, w0⟩
      rintro n s5 ⟨i, H5, I5, st5, n5, w5⟩
      rcases turn i n H5 w5 with ⟨stop, qq⟩ | ⟨go, Nx, hNx, step⟩
      · refine thnF (T.done (X.blk s3 H3 scope ce fp) rfl rfl rfl hc i [] s5 _ H5 (fun _ _ => False) I5 (stat I5 n5) st5 stop) fun r s6 ⟨hr, I6⟩ => ?_
        subst hr
        have I7 : Inv X pins σ H5 s6 := I3.call' (ch := fp) I6.os I6.base I6.hok I6.bare fun b hb => ⟨(f3 b hb).1.2.2.2.1, (f3 b hb).1.2.1, (f3 b hb).1.2.2.2.2.1, (f3 b hb).1.2.2.2.2.2⟩
        have nC : H5 C = none := cL ▸ I6.free
        obtain ⟨m, hn, _⟩ := I6.loc
        have hn : s6.heap.Ns ce.locals m := hn
        rw [cL] at hn
        obtain ⟨g0, g1, g2, g3, g4, g5⟩ := I3.fpOk (H' := H5) (Nat.le_of_eq hC.symm) nC
        refine ⟨m, hn, fun h'' sb => ?_⟩
        exact ⟨.ref D, H5, I7.turned (t' := s6.toks) (fun b o hb e => (sb.2 b hb).trans e) g0 g1 g3 g4 g5, rfl, qq⟩
      · refine thnF (T.item (X.blk s3 H3 scope ce fp) rfl rfl rfl hc i [] s5 _ H5 (fun _ _ => False) I5 (stat I5 n5) st5 go) fun r s6 ⟨u, hr, h6⟩ => ?_
        subst hr
        refine thnF h6 fun _ s7 ⟨x, H7, I7, r7, y7, st7, n7⟩ => ?_
        refine thnF (pg.run _ s7 _ H7 x u _ (I7.pinned (stat I7 n7) (T.obj _ _ st7)) r7 (step x H7 y7)) fun _ s8 ⟨σ8, H8, I8, hw8, q8⟩ => ?_
        refine thnF (pt.run _ s8 σ8 H8 _ I8 q8) fun b s9 ⟨H9, I9, q9⟩ => ?_
        have fin : ∀ {σ9 : St} {s' : Shared} {H' : Hp}, Inv (X.blk s3 H3 scope ce fp) ([] ++ pinsAt fp s7.heap) σ9 H' s' → (wipe σ (own.map (·.2))).length = σ9.length → (∀ (j : Nat) v, (wipe σ (own.map (·.2)))[j]? = some (some v) → σ9[j]? = some (some v)) → Nx H' →
            ∃ m, m < n ∧ ∃ i H', Inv (X.blk s3 H3 scope ce fp) [] (wipe σ (own.map (·.2))) H' s' ∧ tn i s'.heap ∧ (∀ b ∈ fp, H' b = none) ∧ W i m H' := fun {σ9 s' H'} I' hl hk nx => by
          obtain ⟨m', hm, w'⟩ := hNx H' nx
          have pin' : ∀ b ∈ fp, ∀ o, s7.heap.get? b = some o → s'.heap.get? b = some o ∧ H' b = none := fun b hb o e =>
            let z := I'.pin (b, o) (List.mem_append_right _ (List.mem_append_right _ (mem_pinsAt hb e)))
            ⟨z.1, z.2.1⟩
          refine ⟨m', hm, i + 1, H', (I'.unpinned (pins := [])).weak hl hk, T.keep _ _ _ st7 fun b hb o e => (pin' b hb o e).1, fun b hb => ?_, w'⟩
          obtain ⟨o, e, _⟩ := T.obj _ _ st7 b hb
          exact (pin' b hb o e).2
        have hl8 : (wipe σ (own.map (·.2))).length = σ8.length := by rw [← hw8, wipe_length]
        have hk8 : ∀ (j : Nat) v, (wipe σ (own.map (·.2)))[j]? = some (some v) → σ8[j]? = some (some v) := fun j v e => by
          rw [← hw8] at e
          exact (wipe_some e).1
        have hk9 : ∀ (j : Nat) v, (wipe σ (own.map (·.2)))[j]? = some (some v) → (wipe σ8 vs1)[j]? = some (some v) := fun j v e => by
          rw [← hw8] at e
          obtain ⟨e1, e2⟩ := wipe_some e
          rw [wipe_out fun z => e2 (hv j z)]
          exact e1
        cases b with
        | false =>
          simp only [Bool.false_eq_true, if_false] at q9 ⊢
          exact fin I9 hl8 hk8 q9
        | true =>
          simp only [if_true] at q9 ⊢
          refine thnF (pi1.run _ s9 σ8 H9 _ I9 q9) fun xv s10 hx => thnF hx fun itv s11 h11 => ?_
          obtain ⟨it1, fp1, tn1, J1, H11, e1, I11, T1, st11, f11, W1, ⟨m1, w1⟩, turn1⟩ := h11
          subst e1
          have stat1 : ∀ {H' : Hp}, (∀ b ∈ fp1, H' b = none) → ∀ b ∈ fp1, FpOk (X.blk s3 H3 scope ce fp) ([] ++ pinsAt fp s7.heap) H' b := fun hn b hb => ⟨hn b hb, (f11 b hb).2⟩
          have loop1 : codeAny (model X.prog X.w) X.A (.compLoop (dc2 kx vx tg iter tg1 iter1 ifs ifs1 scope pos) 1 (.ref it1) (.ref D) ce)
              (fun r s' => match r with
                | .ok _ => ∃ m, m < n ∧ ∃ i H', Inv (X.blk s3 H3 scope ce fp) [] (wipe σ (own.map (·.2))) H' s' ∧ tn i s'.heap ∧ (∀ b ∈ fp, H' b = none) ∧ W i m H'
                | .error _ => False) s11 := by
            refine dc2_loop1 (fun k s' => ∃ j H', Inv (X.blk s3 H3 scope ce fp) ([] ++ pinsAt fp s7.heap) (wipe σ8 vs1) H' s' ∧ tn1 j s'.heap ∧ (∀ b ∈ fp1, H' b = none) ∧ W1 j k H') ?_ m1 ⟨0, H11, I11.weak (wipe_length _ _) (fun j v e => (wipe_some e).1), st11, fun b hb => (f11 b hb).1, w1⟩
            rintro k s12 ⟨j, H12, I12, st12, n12, w12⟩
            rcases turn1 j k H12 w12 with ⟨stop1, nx1⟩ | ⟨go1, Nx1, hNx1, step1⟩
            · refine thnF (T1.done (X.blk s3 H3 scope ce fp) rfl rfl rfl hc j _ s12 (wipe σ8 vs1) H12 (fun _ _ => False) I12 (stat1 n12) st12 stop1) fun r s13 ⟨hr, I13⟩ => ?_
              subst hr
              exact fin I13 (hl8.trans (wipe_length σ8 vs1).symm) hk9 nx1
            · refine thnF (T1.item (X.blk s3 H3 scope ce fp) rfl rfl rfl hc j _ s12 (wipe σ8 vs1) H12 (fun _ _ => False) I12 (stat1 n12) st12 go1) fun r s13 ⟨u1, hr, h13⟩ => ?_
              subst hr
              refine thnF h13 fun _ s14 ⟨x1, H14, I14, r14, y14, st14, n14⟩ => ?_
              refine thnF (pg1.run _ s14 (wipe σ8 vs1) H14 x1 u1 _ (I14.pinned (stat1 n14) (T1.obj _ _ st14)) r14 (step1 x1 H14 y14)) fun _ s15 ⟨σ15, H15, I15, hw15, q15⟩ => ?_
              refine thnF (pt1.run _ s15 σ15 H15 _ I15 q15) fun b1 s16 ⟨H16, I16, q16⟩ => ?_
              have fin1 : ∀ {s' : Shared} {H' : Hp}, Inv (X.blk s3 H3 scope ce fp) (([] ++ pinsAt fp s7.heap) ++ pinsAt fp1 s14.heap) σ15 H' s' → Nx1 H' → ∃ m, m < k ∧ ∃ j H', Inv (X.blk s3 H3 scope ce fp) ([] ++ pinsAt fp s7.heap) (wipe σ8 vs1) H' s' ∧ tn1 j s'.heap ∧ (∀ b ∈ fp1, H' b = none) ∧ W1 j m H' := fun {s' H'} I' nx => by
                obtain ⟨m', hm, w'⟩ := hNx1 H' nx
                have pin' : ∀ b ∈ fp1, ∀ o, s14.heap.get? b = some o → s'.heap.get? b = some o ∧ H' b = none := fun b hb o e =>
                  let z := I'.pin (b, o) (List.mem_append_right _ (List.mem_append_right _ (mem_pinsAt hb e)))
                  ⟨z.1, z.2.1⟩
                refine ⟨m', hm, j + 1, H', I'.unpinned.weak (by rw [← hw15, wipe_length]) (fun j v e => by rw [← hw15] at e; exact (wipe_some e).1), T1.keep _ _ _ st14 fun b hb o e => (pin' b hb o e).1, fun b hb => ?_, w'⟩
                obtain ⟨o, e, _⟩ := T1.obj _ _ st14 b hb
                exact (pin' b hb o e).2
              cases b1 with
              | false =>
                simp only [Bool.false_eq_true, if_false] at q16 ⊢
                exact fin1 I16 q16
              | true =>
                simp only [if_true] at q16 ⊢
                refine thnF (pk.run _ s16 σ15 H16 _ I16 q16) fun z s17 ⟨yk, H17, I17, r17, q17⟩ => ?_
                refine thnF (pv.run _ s17 σ15 H17 _ I17 q17) fun z2 s18 ⟨yv, H18, I18, r18, kvs, k0, ek, hD18, hz18, nx⟩ => ?_
                subst ek
                exact d_dictSet (X := X.blk s3 H3 scope ce fp) I18 hD18 hz18 r17 r18 fun s19 I19 => fin1 I19 nx
          exact dc2_start1 loop1 (T1.self X.A 0 _ _ _ st11 loop1)
    exact codeAny_compStart_dict loop (T.self X.A 0 _ _ _ st4 loop)
  subst es3
  rw [hcl, hC] at goal
  exact goal _ rfl
end
end L2
namespace L2
open PySem PySem.Spec PyProof.Rows
/-! own != of a class that has an == of its own, and no __ne__ -/
theorem slot_objne : PySem.Slot "object" "__ne__" "object.__ne__" :=
  PySem.Slot.of (owner := "object") (n := "__ne__") (by rw [typeLookup_type, builtinLookup_eq_fast]; kernel_rfl) (by decide +kernel) (by decide +kernel) (by decide +kernel) (.inl (by decide +kernel)) (by rw [isSubtype_type]; kernel_rfl)
section
variable {P : Program} {w : World} {A : Around} {E : Value → Shared → Prop} {s : Shared} {K : PySem.W.Frag} {a C f : Addr} {ox : Obj} {od : Option Obj} {b : Value}
theorem ifBound_ne {M : Model} {args : List Value} {Q : Option Value → Shared → Prop} (X : K.In s.heap) (I : PySem.W.InstAt s.heap a ox C od) (hs : PySem.W.findIn K (.ref C) "__ne__" = some (some (.builtin "object.__ne__")))
    (h : wpAny M A (call (.builtin "object.__ne__") (.ref a :: args)) (fun v => Q (some v)) E s) : wpAny M A (callSpecialIfBound? (.ref a) "__ne__" args) Q E s := by
  simp only [callSpecialIfBound?, bindSpecialIfBound?]
  refine wpAny_holding (wpAny_bind (wpAny_bind (wpAny_bind (I.type.here ((PySem.W.looks_findIn X hs).here ?_)))))
  simp only [slot_objne.bind]
  refine wpAny_bind (wpAny_askSetting (wpAny_ite ?_))
  have fin : wpAny M A (call (.builtin "object.__ne__") ([.ref a] ++ args) >>= fun v => pure (some v)) Q E s := wpAny_bind (wpAny_mono h (fun v s' z => wpAny_pure z) fun _ _ z => z)
  split
  · exact wpAny_bind (wpAny_pure (wpAny_pure fin))
  · exact wpAny_tryCatch (wpAny_bind (wpAny_pure (wpAny_pure fin)))
theorem ne_K {Q : Value → Shared → Prop} (hu : A.units + 1 < cLine) (X : K.In s.heap) (I : PySem.W.InstAt s.heap a ox C od) {tb : Value} (hb : PySem.W.Looks (model P w) s.heap (typeOf b) tb) (hn : PySem.W.notFirst K C tb = true)
    (hs : PySem.W.findIn K (.ref C) "__eq__" = some (some (.ref f))) (hf : PySem.W.isFn K (.ref f) = true) (hne : PySem.W.findIn K (.ref C) "__ne__" = some (some (.builtin "object.__ne__"))) (hm : PySem.W.mroIn K C (.type "object") = some true)
    (h : wpAny (model P w) A.in1 (call (.ref f) [.ref a, b]) (fun v s' => ∃ c, v = .bool c ∧ Q (.bool (!c)) s') E s) : wpAny (model P w) A (richCompare .NotEq (.ref a) b) Q E s := by
  have body : wpAny (model P w) A.in1 (Builtin.«object.__ne__» ⟨[.ref a, b], []⟩) (fun fin s' => ∃ c, fin = .done (.ret (.bool (!c))) ∧ Q (.bool (!c)) s') E s := by
    have hu1 : A.in1.units < cLine := hu
    unfold Builtin.«object.__ne__»
    repeat (first
      | with_reducible refine wpAny_cRoomFor hu1 ?_
      | (refine wpAny_bind (m := callSpecialIfBound? (.ref a) (Str.ofString "__eq__") [b]) (PySem.W.ifBound_K X I hs hf (wpAny_mono h (fun r s' hr => by
          obtain ⟨c, rfl, hq⟩ := hr
          repeat (first | exact ⟨c, rfl, hq⟩ | exact wpAny_pure ⟨c, rfl, hq⟩ | exact wpAny_truthy_bool ⟨c, rfl, hq⟩ | (refine wpAny_bind (m := truthy (.bool _)) (wpAny_truthy_bool ?_)) | wp_step)) fun _ _ e => e)))
      | wp_step)
  have one : wpAny (model P w) A (tryCompare (.ref a) "__ne__" b) (fun r s' => ∃ c, r = some (.bool c) ∧ Q (.bool c) s') E s := by
    unfold tryCompare
    refine wpAny_bind (ifBound_ne X I hne (wpAny_call (codeAny_call_builtin slot_objne.plain F.cmpEntry_ne (PySem.W.check_slot F.cmpKind_ne F.cmpSplit_ne (I.type.andThen (PySem.W.looks_mroIn X hm)) (F.cmpArgs_ne _ _) (wpAny_mono body (fun fin s' hq => ?_) fun _ _ z => z)))))
    obtain ⟨c, rfl, hq⟩ := hq
    exact wpAny_pure ⟨_, rfl, hq⟩
  unfold richCompare
  simp only [oneThing_ref]
  refine wpAny_holding (wpAny_bind (wpAny_cRoomFor (by omega) ?_))
  refine wpAny_bind (I.type.here (wpAny_bind (hb.here ?_)))
  split
  · rename_i q
    have e : PySem.W.subIn K tb (.ref C) = some false := by
      rcases Bool.or_eq_true_iff.mp hn with e | e
      · rw [beq_iff_eq.mp e] at q; simp at q
      · exact beq_iff_eq.mp e
    refine wpAny_bind ((PySem.W.looks_subIn X e).here ?_)
    simp only [Bool.false_eq_true, if_false]
    refine wpAny_bind (wpAny_mono one (fun r s' z => ?_) fun _ _ e => e)
    obtain ⟨c, rfl, hq⟩ := z
    exact wpAny_pure hq
  · refine wpAny_bind (wpAny_pure ?_)
    simp only [Bool.false_eq_true, if_false]
    refine wpAny_bind (wpAny_mono one (fun r s' z => ?_) fun _ _ e => e)
    obtain ⟨c, rfl, hq⟩ := z
    exact wpAny_pure hq
end
def rNeC (C : Addr) (R : Addr → Addr → Bool → Hp → Prop) : R2 := fun x y H Q => ∃ a b c dx dy fs gs, x = .ref a ∧ y = .ref b ∧ H a = some (.ins C dx fs) ∧ H b = some (.ins C dy gs) ∧ R a b c H ∧ ∀ H', Ext H H' → Q (.bl (!c)) H'
section
variable {X : Cx} {n : Nat}
theorem op_neC {CX : CXT} {C f : Addr} {fd : FuncData} {ps : List Str} {R : Addr → Addr → Bool → Hp → Prop} {E : XK} (F : FnOk X.prog X.w X.K X.mg X.base CX n f fd ps (spEqC R))
    (hs : PySem.W.findIn X.K (.ref C) "__eq__" = some (some (.ref f))) (hf : PySem.W.isFn X.K (.ref f) = true) (hne : PySem.W.findIn X.K (.ref C) "__ne__" = some (some (.builtin "object.__ne__"))) (hm : PySem.W.mroIn X.K C (.type "object") = some true)
    (hb : Binds X.K fd ps []) (hx : Passes CX X E) (hr : Room (n + 1) X.A) : OpR X (compareOp .NotEq) (rNeC C R) := by
  intro pins s σ H x y v u Q I rx ry hq
  obtain ⟨a, b, c, dx, dy, fs, gs, rfl, rfl, ha, hb', hR, q⟩ := hq
  cases rx
  cases ry
  show wpAny (model X.prog X.w) X.A (richCompare .NotEq (.ref a) (.ref b)) (EP X pins σ Q) X.xe s
  obtain ⟨mA, J, _⟩ := ins_get I.hok ha
  obtain ⟨mB, J', _⟩ := ins_get I.hok hb'
  obtain ⟨od, J, _⟩ := J.look
  obtain ⟨od', J', _⟩ := J'.look
  refine ne_K (tb := .ref C) (by have := hr.units0; have := hr.un; omega) I.kIn J J'.type (by simp [PySem.W.notFirst]) hs hf hne hm ?_
  have hsp : spEqC R [.ref a, .ref b] H (fun v H' => v = .bl c ∧ Ext H H') E := ⟨a, b, c, rfl, hR, fun H' e => ⟨rfl, e⟩⟩
  have hl := F.len _ _ _ _ hsp
  have r2 : Vals [V.ref a, V.ref b] [Value.ref a, Value.ref b] := .cons rfl (.cons rfl .nil)
  refine wpAny_call (codeAny_mono (F.run X.A.in1 X.stack s H ⟨[.ref a, .ref b], []⟩ [.ref a, .ref b] [.ref a, .ref b] _ E hr.in1 I.env0.in1 (by
    have := hb s [.ref a, .ref b] I.kIn (by simpa using hl)
    simpa using this) r2 hsp) fun r s' hq => ?_)
  cases r with
  | error e => exact hx pins σ H s e s' I hq
  | ok fl =>
    cases fl with
    | ret w =>
      obtain ⟨z, H', I', rz, ez, ex⟩ := I.after hq
      subst ez
      cases rz
      exact ⟨c, rfl, .bl (!c), H', I', rfl, q H' ex⟩
    | next => exact False.elim hq
    | brk => exact False.elim hq
    | cont => exact False.elim hq
end
end L2
namespace L2
open PySem PySem.Spec PyProof.Rows
/-! d.values(), list(..) and sorted(..) of it -/
def vwO (p d : Addr) : HO := .ext fun h => h.get? p = some { cls := .type "dict_values", data := .fields #[.ref d] }
theorem kv_snd {kvs : List (Key × V)} {vs : List (Key × Value)} (r : KV kvs vs) : Vals (kvs.map Prod.snd) (vs.map Prod.snd) := by
  induction r with
  | nil => exact .nil
  | cons a t ih => exact .cons a.2 ih
section
variable {X : Cx}
def rDVals : V → List V → Hp → VK → Prop := fun x xs H Q => ∃ a kvs, x = .ref a ∧ xs = [] ∧ Rd H a (.dK kvs) ∧ ∀ p, H p = none → Q (.ref p) (upd H p (vwO p a))
theorem mtd_values : MtR X "dict.values" rDVals := by
  intro pins s σ H x vs v us Q I rx rv h
  obtain ⟨a, kvs, ex, ev, e, q⟩ := h
  subst ex
  subst ev
  obtain rfl : v = Value.ref a := rx
  rw [rv.zero]
  obtain ⟨_, lo, ys, _, dd⟩ := dk_rd I.hok e
  refine call_meetsIn PySem.F.slot_dict_values dd.typeIs PySem.F.entry_dict_values (PySem.F.args_dict_values_1 _) (meets_dict_values (mixKind X.prog X.w) a lo) ⟨⟨ys, dd⟩, ?_⟩
  have at0 : (s.heap.push { cls := .type "dict_values", data := .fields #[.ref a] }).get? s.heap.objs.size = some { cls := .type "dict_values", data := .fields #[.ref a] } := Heap.get?_push_size _ rfl
  refine ⟨.ref s.heap.objs.size, _, I.laid (t' := s.toks) (o := vwO s.heap.objs.size a) (fun b u e => Heap.get?_push_of_some _ e) (Nat.le_refl _) ?_, rfl, q _ (I.hok.fresh (Nat.le_refl _))⟩
  exact ⟨at0, ⟨_, at0⟩, fun h1 h2 q k => k _ q⟩
theorem pe_dvals {o : Expr} {to : TE} {apos cpos : Pos} (ho : PE X o to) (hbase : attributeBase o "values" X.env (eval o X.env) = eval o X.env := by rfl) (hline : (apos.endLine == cpos.line) = true := by rfl) : PE X (.Call (.Attribute o "values" apos) [] [] cpos) (tBM0 X.K "dict" rDVals to) :=
  pe_bm0 PySem.F.plainAttrs_dict PySem.F.slot_dict_values PySem.F.type_dict_values mtd_values ho hbase hline
theorem vw_at {P : Program} {w : World} {H : Hp} {h : Heap} {p d : Addr} (ok : HOk P w H h) (e : H p = some (vwO p d)) : h.IsValuesView p d :=
  ⟨_, (show ObjOk P w H h p (vwO p d) from ok p _ e).1, rfl, rfl⟩
theorem cr_listDV (hc : X.calm = true) : CallR X (.type "list") (fun xs H Q => ∃ (p a : Addr) (kvs : List (Key × V)), xs = [.ref p] ∧ H p = some (vwO p a) ∧ Rd H a (.dK kvs) ∧ kvs.length ≤ 1000 ∧ ∀ q, H q = none → Q (.ref q) (upd H q (.lst (kvs.map Prod.snd)))) := by
  intro pins s σ H xs us Q I r q
  obtain ⟨p, a, kvs, rfl, hp, hd, hl, q⟩ := q
  rw [Vals.ref1 r]
  obtain ⟨_, lo, vs, rel, dd⟩ := dk_rd I.hok hd
  obtain ⟨ep, hat⟩ := dd.dictAt
  have vl : vs.length ≤ sizeLine := by rw [← rel.length, sizeLine_eq]; omega
  refine PySem.W.kdl_call (PySem.W.kdl_values (knd := mixKind X.prog X.w) (kvs := vs) (ep := ep)) (I.ok.hd hc) ⟨vw_at I.hok hp, hat⟩ vl fun h' tk acc c hk hS hacc => ?_
  have ea : acc.toList = vs.map (·.2) := PySem.W.kdl_vals_eq acc.toList (by rw [Array.length_toList]; exact hacc.1) fun j v e => hacc.2 j v (by rw [← Array.getElem?_toList]; exact e)
  refine ⟨.ref s.heap.objs.size, _, I.laid (t' := tk) (o := .lst (kvs.map Prod.snd)) hk (Nat.le_refl _) ?_, rfl, q _ (I.hok.fresh (Nat.le_refl _))⟩
  refine ⟨by rw [List.length_map, sizeLine_eq]; omega, acc.toList, c, ?_, by rw [Array.toArray_toList]; exact hS⟩
  rw [ea]
  exact kv_snd rel
theorem cr_sortedDV (hc : X.calm = true) : CallR X (.builtin "sorted") (fun xs H Q => ∃ (p a : Addr) (kvs : List (Key × V)) (ns : List Int), xs = [.ref p] ∧ H p = some (vwO p a) ∧ Rd H a (.dK kvs) ∧ kvs.map Prod.snd = ns.map V.int ∧ ns.length < 64 ∧
    ∀ (ys : List Int) (q : Addr), ys.Perm ns → ys.Pairwise (· ≤ ·) → H q = none → Q (.ref q) (upd H q (.lst (ys.map V.int)))) := by
  intro pins s σ H xs us Q I r q
  obtain ⟨p, a, kvs, ns, rfl, hp, hd, hns, h64, q⟩ := q
  rw [Vals.ref1 r]
  obtain ⟨_, lo, vs, rel, dd⟩ := dk_rd I.hok hd
  obtain ⟨ep, hat⟩ := dd.dictAt
  have ll : ns.length = vs.length := by
    have := congrArg List.length hns
    rw [List.length_map, List.length_map] at this
    rw [← this, rel.length]
  refine Calls.call_function_entry PyProof.Rows.kind_sorted PyProof.Rows.plain_sorted PyProof.Rows.entry_sorted (PyProof.Rows.args_sorted1 _) ?_
  unfold Builtin.«sorted»
  refine wpAny_bind (m := checkCount "sorted" 1 1 _) (wpAny_pure ?_)
  refine wpAny_bind (PySem.W.kdu_collect (A := X.A.in1) (PySem.W.kdl_values (knd := mixKind X.prog X.w) (kvs := vs) (ep := ep)) (I.ok.hd hc) ⟨vw_at I.hok hp, hat⟩ (by rw [← ll, sizeLine_eq]; omega) fun h' tk acc hk hacc => ?_)
  have ea : acc.toList = vs.map (·.2) := PySem.W.kdl_vals_eq acc.toList (by rw [Array.length_toList]; exact hacc.1) fun j v e => hacc.2 j v (by rw [← Array.getElem?_toList]; exact e)
  have hal : acc.toList.length = ns.length := by rw [ea, List.length_map, ll]
  have hS : IntsAre acc.toList ns := by
    rw [ea]
    have z := kv_snd rel
    rw [hns] at z
    exact ints_of_vals z
  have I1 : Inv X pins σ H { s with heap := h', toks := tk } := I.kept hk
  refine wpAny_bind (wpAny_newList ?_ (by rw [hal, sizeLine_eq]; omega))
  have hoL : (h'.push (seqObj "list" acc.toList.toArray 0)).get? h'.objs.size = some (seqObj "list" acc.toList.toArray 0) := Heap.get?_push_size _ rfl
  show wpAny _ _ _ _ _ { s with heap := h'.push (seqObj "list" acc.toList.toArray 0), toks := tk }
  refine wpAny_bind (wpAny_holding (wpAny_call_entry PyProof.Rows.slot_list_sort ⟨_, hoL, rfl⟩ PyProof.Rows.entry_list_sort
    (PyProof.Rows.list_sort_tree (s := { s with heap := h'.push (seqObj "list" acc.toList.toArray 0), toks := tk }) hoL hS (by rw [hal]; exact h64) fun out ys g1 g2 g3 => ⟨_, rfl, ?_⟩) (PyProof.Rows.args_list_sort _)))
  obtain ⟨e', he'⟩ := PyProof.Rows.sortedHeap_at (vs := acc.toList) (out := out) hoL
  have hlen : (ys.map V.int).length ≤ sizeLine := by
    rw [List.length_map, g2.length_eq]
    exact Nat.le_trans (Nat.le_of_lt h64) (by decide)
  refine wpAny_pure ⟨_, rfl, .ref h'.objs.size, upd H h'.objs.size (.lst (ys.map V.int)), I1.laid (t' := tk) (fun b u e => ?_) (Nat.le_refl _)
    (show ObjOk X.prog X.w _ _ _ (.lst (ys.map V.int)) from ⟨hlen, out.toList, e', vals_of_ints g1, by rw [Array.toArray_toList]; exact he'⟩), rfl, q ys _ g2 g3 (I1.hok.fresh (Nat.le_refl _))⟩
  have hb : b < h'.objs.size := Heap.lt_size e
  rw [PyProof.Rows.sortedHeap_old (Nat.ne_of_lt hb) (by rw [size_push']; exact Nat.lt_succ_of_lt hb)]
  exact Heap.get?_push_of_some _ e
end
end L2
namespace L2
open PySem PySem.Spec PySem.Calls PyProof.Rows PyProof.V HT
/-! sum(a tuple of tuples, ()) -/
section
variable {P : Program} {w : World} {A : Around} {E : Value → Shared → Prop} {R : Result → Shared → Prop} {I S l : Addr} {H : Hp} {h0 : Heap}
/-- what is summed: tuples of ints that are tracked -/
def SumSrc (H : Hp) (h0 : Heap) (items : List Value) (lots : List (List Int)) : Prop := Paired (fun (v : Value) (ns : List Int) => ∃ b xs, v = .ref b ∧ H b = some (.tup (ns.map V.int)) ∧ IsTup h0 b (xs : List Value).toArray ∧ IntsAre xs ns) items lots
/-- the sum so far -/
def SumAt (H : Hp) (h0 h : Heap) (a : Addr) (xs : List Value) (ns : List Int) : Prop := IsTup h a xs.toArray ∧ IntsAre xs ns ∧ (H a = some (.tup (ns.map V.int)) ∨ h0.get? a = none)
theorem isTup_at {h h' : Heap} {a : Addr} {its : Array Value} (x : IsTup h a its) (e : ∀ o, h.get? a = some o → h'.get? a = some o) : IsTup h' a its := let ⟨o, ho, r⟩ := x; ⟨o, e o ho, r⟩
theorem src_at : ∀ {items : List Value} {lots : List (List Int)} {i : Nat} {v : Value}, SumSrc H h0 items lots → items[i]? = some v → ∃ ns b xs, lots[i]? = some ns ∧ v = .ref b ∧ H b = some (.tup (ns.map V.int)) ∧ IsTup h0 b (xs : List Value).toArray ∧ IntsAre xs ns
  | _, _, i, v, .nil, h => by rw [List.getElem?_nil] at h; cases h
  | _, _, 0, v, .cons a t, h => by
    cases h
    obtain ⟨b, xs, h1, h2, h3, h4⟩ := a
    exact ⟨_, b, xs, rfl, h1, h2, h3, h4⟩
  | _, _, i + 1, v, .cons a t, h => by
    rw [List.getElem?_cons_succ] at h
    obtain ⟨ns, b, xs, h1, r⟩ := src_at t h
    exact ⟨ns, b, xs, by rw [List.getElem?_cons_succ]; exact h1, r⟩
theorem loopSumT {items : List Value} {lots : List (List Int)} {St : Nat → Heap → Prop} (W : Walks P w A.in1 I [I, l] [I] items.length (fun i v => items.toArray[i]? = some v) St) (src : SumSrc H h0 items lots) (nI : h0.get? I = none) (nS : h0.get? S = none) (SI : S ≠ I) (Sl : S ≠ l) (stI : ∀ i h, St i h → ∃ o, h.get? I = some o) (big : lots.flatten.length ≤ 100000) :
    ∀ (k i : Nat) (s : Shared) (a : Addr) (c : Nat) (xs : List Value), items.length - i = k → i ≤ items.length → St i s.heap → (∀ b o, h0.get? b = some o → s.heap.get? b = some o) → s.heap.get? S = some { cls := .type "list", dict := none, data := .seq #[.ref a] c, slots := #[] } →
    a ≠ S → a ≠ I → SumAt H h0 s.heap a xs (lots.take i).flatten →
    (∀ h' tk b ys, (∀ b o, h0.get? b = some o → h'.get? b = some o) → SumAt H h0 h' b ys lots.flatten → R (.ok (.ret (.ref b))) { s with heap := h', toks := tk }) → codeAny (model P w) A (.builtin "sum.loop" ⟨[.ref I, .ref S, rawInt 2, rawInt 0], []⟩) R s := by
  have len : items.length = lots.length := Paired.length src
  have hSf : S ∉ [I, l] := by simp only [List.mem_cons, List.not_mem_nil, or_false, not_or]; exact ⟨SI, Sl⟩
  have hSw : S ∉ [I] := by rw [List.mem_singleton]; exact SI
  intro k
  induction k with
  | zero =>
    intro i s a c xs hk hi hst hkeep hS aS aI ⟨h1, h2, h3⟩ hR
    have ei : i = items.length := by omega
    subst ei
    rw [len, List.take_length] at h2 h3
    refine codeAny_builtin PySem.F.entry_sum_loop ?_
    rw [Around.under_plainId PySem.F.plain_sum_loop _]
    show wpAny _ A.in1 (seqItems? (.ref S) >>= _) _ _ s
    refine wpAny_bind (wpAny_seqItems hS rfl ?_)
    show wpAny _ A.in1 (tryCatch (pyNext (.ref I)) _ >>= _) _ _ s
    refine wpAny_bind (wpAny_tryCatch (W.done s _ _ hst fun h' tk hm => ?_))
    exact wpAny_pure (hR h' tk a xs (fun b o e => hm b o (fun z => by rw [List.mem_singleton.mp z, nI] at e; cases e) (hkeep b o e)) ⟨isTup_at h1 fun o e => hm a o (by rw [List.mem_singleton]; exact aI) e, h2, h3⟩)
  | succ k ih =>
    intro i s a c xs hk hi hst hkeep hS aS aI ⟨h1, h2, h3⟩ hR
    have hlt : i < items.length := by omega
    refine codeAny_builtin PySem.F.entry_sum_loop ?_
    rw [Around.under_plainId PySem.F.plain_sum_loop _]
    show wpAny _ A.in1 (seqItems? (.ref S) >>= _) _ _ s
    refine wpAny_bind (wpAny_seqItems hS rfl ?_)
    show wpAny _ A.in1 (tryCatch (pyNext (.ref I)) _ >>= _) _ _ s
    refine wpAny_bind (wpAny_tryCatch (W.item i s _ _ hlt hst fun v h1' tk1 hP hst1 hm => ?_))
    have hP : items[i]? = some v := by simpa using hP
    obtain ⟨ns, b, ys, hns, rfl, tb, ib, jb⟩ := src_at src hP
    have keep1 : ∀ b o, h0.get? b = some o → h1'.get? b = some o := fun b o e => hm b o (fun z => by rw [List.mem_singleton.mp z, nI] at e; cases e) (hkeep b o e)
    have hS1 := hm S _ hSw hS
    have ta1 : IsTup h1' a xs.toArray := isTup_at h1 fun o e => hm a o (by rw [List.mem_singleton]; exact aI) e
    have tb1 : IsTup h1' b ys.toArray := isTup_at ib fun o e => keep1 b o e
    have bS : b ≠ S := fun z => by obtain ⟨o, ho, _⟩ := ib; rw [z, nS] at ho; cases ho
    have bI : b ≠ I := fun z => by obtain ⟨o, ho, _⟩ := ib; rw [z, nI] at ho; cases ho
    have et : (lots.take (i + 1)).flatten = (lots.take i).flatten ++ ns := by
      rw [List.take_add_one, hns, List.flatten_append]
      simp
    -- behind the addition
    have fin : ∀ (h2' : Heap) (d : Addr) (zs : List Value), (∀ b o, h1'.get? b = some o → h2'.get? b = some o) → d ≠ S → d ≠ I → SumAt H h0 h2' d zs (lots.take (i + 1)).flatten →
        wpAny (model P w) A.in1 (do updateSeq S (fun _ => #[Value.ref d]); letGo [.ref a, .ref b]; updateSeq S (fun _ => #[Value.ref d]); again (.builtin "sum.loop" ⟨[.ref I, .ref S, rawInt 2, rawInt 0], []⟩))
          (fun fin s' => match fin with | .done f => R (.ok f) s' | .again c' => c'.quiet = true ∧ codeAny (model P w) A c' R s') (fun e s' => R (.error e) s') { s with heap := h2', toks := tk1 } := fun h2' d zs k2 dS dI ⟨g1, g2, g3⟩ => by
      have hS2 := k2 S _ hS1
      refine wpAny_bind (wpAny_updateSeq hS2 rfl ?_)
      have hS3 := Heap.get?_update_self (Obj.mapSeq fun _ => #[Value.ref d]) hS2 rfl
      refine wpAny_bind (wpAny_letGo ?_)
      refine wpAny_bind (wpAny_updateSeq hS3 rfl (wpAny_pure ⟨plainId_quiet PySem.F.plain_sum_loop _, ?_⟩))
      have oth : ∀ b o, b ≠ S → h2'.get? b = some o → ((h2'.update S (Obj.mapSeq fun _ => #[Value.ref d])).update S (Obj.mapSeq fun _ => #[Value.ref d])).get? b = some o := fun b o hb e =>
        (Heap.get?_update_other _ _ (Ne.symm hb)).trans ((Heap.get?_update_other _ _ (Ne.symm hb)).trans e)
      refine ih (i + 1) _ d _ zs (by omega) hlt (W.frame _ _ _ hst1 fun b hb o e => oth b o (fun z => hSf (z ▸ hb)) (k2 b o e)) (fun b o e => oth b o (fun z => by rw [z, nS] at e; cases e) (k2 b o (keep1 b o e))) (Heap.get?_update_self _ hS3 rfl) dS dI
        ⟨isTup_at g1 fun o e => oth d o dS e, g2, g3⟩ fun h' tk b ys kk sm => hR h' tk b ys kk sm
    have l1 : (lots.take i).flatten.length + ns.length ≤ 100000 := by
      rw [← List.length_append, ← et]
      refine Nat.le_trans ?_ big
      rw [show lots.flatten = (lots.take (i + 1)).flatten ++ (lots.drop (i + 1)).flatten from by rw [← List.flatten_append, List.take_append_drop], List.length_append]
      exact Nat.le_add_right _ _
    have lx : xs.length = (lots.take i).flatten.length := IntsAre.length h2
    have ly : ys.length = ns.length := IntsAre.length jb
    show wpAny _ A.in1 ((holding [Value.ref b] (binaryOp .Add (.ref a) (.ref b))).attempt >>= _) _ _ _
    refine wpAny_bind (wpAny_attempt (wpAny_holding ?_))
    by_cases cx : xs = []
    · subst cx
      have e0 : (lots.take i).flatten = [] := List.eq_nil_of_length_eq_zero (by rw [← lx]; rfl)
      refine cat_tup0 ta1 tb1 ?_
      exact fin h1' b ys (fun _ _ e => e) bS bI ⟨tb1, by rw [et, e0, List.nil_append]; exact jb, by rw [et, e0, List.nil_append]; exact .inl tb⟩
    · refine HT.cat_tup ta1 tb1 cx (fun e => ?_) (fun e => ?_) (by rw [sizeLine_eq]; omega)
      · have e0 : ns = [] := List.eq_nil_of_length_eq_zero (by rw [← ly, e]; rfl)
        exact fin h1' a xs (fun _ _ e => e) aS aI ⟨ta1, by rw [et, e0, List.append_nil]; exact h2, by rw [et, e0, List.append_nil]; exact h3⟩
      · have fresh : h0.get? h1'.objs.size = none := by
          cases q : h0.get? h1'.objs.size with
          | none => rfl
          | some o => exact absurd (Heap.lt_size (keep1 _ _ q)) (Nat.lt_irrefl _)
        refine fin _ h1'.objs.size (xs ++ ys) (fun b o e => Heap.get?_push_of_some _ e) (fun z => ?_) (fun z => ?_) ⟨⟨_, Heap.get?_push_size _ rfl, rfl, _, rfl⟩, by rw [et]; exact IntsAre.append h2 jb, .inr fresh⟩
        · exact absurd (Heap.lt_size hS1) (by rw [← z]; exact Nat.lt_irrefl _)
        · obtain ⟨o, ho⟩ := stI _ _ hst1
          exact absurd (Heap.lt_size ho) (by rw [← z]; exact Nat.lt_irrefl _)
theorem sub_tup_str : isSubtype (.type "tuple") (.type "str") = pure false := by rw [isSubtype_type]; kernel_rfl
theorem sub_tup_bytes : isSubtype (.type "tuple") (.type "bytes") = pure false := by rw [isSubtype_type]; kernel_rfl
theorem sub_tup_bytearray : isSubtype (.type "tuple") (.type "bytearray") = pure false := by rw [isSubtype_type]; kernel_rfl
theorem args_sum2 (a b : Value) : argsOk "sum" ⟨[a, b], []⟩ := by unfold argsOk; kernel_rfl
end
def rSumT : List V → Hp → VK → Prop := fun vs H Q => ∃ (a z : Addr) (us : List V) (lots : List (List Int)), vs = [.ref a, .ref z] ∧ H a = some (.tup us) ∧ H z = some (.tup []) ∧ Paired (fun (v : V) (ns : List Int) => ∃ t, v = .ref t ∧ H t = some (.tup (ns.map V.int))) us lots ∧ lots.flatten.length ≤ 100000 ∧
  ∀ p H', (H' = H ∧ H p = some (.tup (lots.flatten.map V.int)) ∨ H p = none ∧ H' = upd H p (.tup (lots.flatten.map V.int))) → Q (.ref p) H'
theorem src_of {X : Cx} {pins : List (Addr × Obj)} {σ : St} {H : Hp} {s : Shared} (I : Inv X pins σ H s) : ∀ {us : List V} {lots : List (List Int)} {its : List Value}, Paired (fun (v : V) (ns : List Int) => ∃ t, v = .ref t ∧ H t = some (.tup (ns.map V.int))) us lots → Vals us its → SumSrc H s.heap its lots
  | _, _, _, .nil, r => by cases r; exact .nil
  | _, _, _, .cons a t, r => by
    cases r with
    | cons b u =>
      obtain ⟨q, rfl, hq⟩ := a
      cases b
      obtain ⟨xs, rv, it, _⟩ := I.tuple (SqT.of hq)
      exact .cons ⟨q, xs, rfl, hq, it, ints_of_vals rv⟩ (src_of I t u)
theorem cr_sumT {X : Cx} (hc : X.calm = true) : CallR X (.builtin "sum") rSumT := by
  intro pins s σ H vs us Q I r q
  obtain ⟨a, z, uu, lots, rfl, ha, hz, hp, big, q⟩ := q
  obtain ⟨u1, u2, rfl, r1, r2⟩ := vals2 r
  cases r1
  cases r2
  obtain ⟨its, rv, ta, _⟩ := I.tuple (SqT.of ha)
  obtain ⟨itz, rz, tz, _⟩ := I.tuple (SqT.of hz)
  cases rz
  refine call_function_tree PySem.F.kind_sum PySem.F.plain_sum PySem.F.entry_sum (args_sum2 _ _) ?_
  unfold Builtin.«sum»
  simp only [List.length_cons, List.length_nil]
  rw [if_neg (by decide)]
  refine wpAny_bind (wpAny_of_eq (show Builtin.Builtins.bindParams "sum" ["start"] 0 ⟨[.ref z], []⟩ = pure [some (.ref z)] from rfl) ?_)
  obtain ⟨oz, hoz, hcz, nz, hdz⟩ := id tz
  have zT : ∀ tk h', (∀ b o, s.heap.get? b = some o → h'.get? b = some o) → Shared.TypeIs { s with heap := h', toks := tk } (.ref z) "tuple" := fun tk h' k => ⟨oz, k _ _ hoz, hcz⟩
  refine wpAny_bind (wpAny_pyIter_tuple (let ⟨o, ho, hc, n, hd⟩ := ta; ⟨o, ho, hc, n, hd⟩) ?_)
  refine wpAny_bind (wpAny_pure ?_)
  simp only [List.forIn_cons, List.forIn_nil]
  obtain ⟨hh, gs, dr, tk, os⟩ := s
  obtain ⟨J, hJ⟩ : ∃ J, J = hh.objs.size := ⟨_, rfl⟩
  obtain ⟨io, hio⟩ : ∃ io : Obj, io = { cls := .type "tuple_iterator", data := .fields #[.ref a, .int 0 0] } := ⟨_, rfl⟩
  simp only [← hJ, ← hio]
  have kp : ∀ b o, hh.get? b = some o → (hh.push io).get? b = some o := fun b o e => Heap.get?_push_of_some _ e
  have zt : Shared.TypeIs ⟨hh.push io, gs, dr, tk, os⟩ (.ref z) "tuple" := ⟨oz, kp _ _ hoz, hcz⟩
  refine wpAny_bind (wpAny_bind (wpAny_bind (wpAny_isInstance (T := "tuple") (b := false) zt sub_tup_str ?_)))
  simp only [Bool.false_eq_true, if_false]
  refine wpAny_pure (wpAny_bind (wpAny_bind (wpAny_isInstance (T := "tuple") (b := false) zt sub_tup_bytes ?_)))
  simp only [Bool.false_eq_true, if_false]
  refine wpAny_pure (wpAny_bind (wpAny_bind (wpAny_isInstance (T := "tuple") (b := false) zt sub_tup_bytearray ?_)))
  simp only [Bool.false_eq_true, if_false]
  refine wpAny_pure (wpAny_pure ?_)
  refine wpAny_bind (wpAny_newObj_type ?_)
  refine wpAny_pure ⟨plainId_quiet PySem.F.plain_sum_loop _, ?_⟩
  have sz : (hh.push io).objs.size = J + 1 := by rw [Heap.size_push, hJ]
  have la : a < J := by obtain ⟨o, ho, _⟩ := ta; rw [hJ]; exact Heap.lt_size ho
  have lz : z < J := by rw [hJ]; exact Heap.lt_size hoz
  have fr : ∀ b, J ≤ b → hh.get? b = none := fun b hb => by
    cases q : hh.get? b with
    | none => rfl
    | some o => exact absurd (Heap.lt_size q) (Nat.not_lt.mpr (hJ ▸ hb))
  have kp2 : ∀ lo : Obj, ∀ b o, hh.get? b = some o → ((hh.push io).push lo).get? b = some o := fun lo b o e => Heap.get?_push_of_some _ (kp b o e)
  have src := src_of I hp rv
  have hits : its.toArray.size = its.length := by simp
  refine loopSumT (H := H) (h0 := hh) (I := J) (S := (hh.push io).objs.size) (l := a) (items := its) (lots := lots) (hits ▸ Walks.tuple (A := X.A.in1) (by simpa using I.ok.hd hc) J a (Nat.ne_of_lt la) its.toArray) src (fr J (Nat.le_refl _)) (fr _ (by rw [sz]; exact Nat.le_succ _)) (by rw [sz]; exact Nat.succ_ne_self _) (by rw [sz]; exact Nat.ne_of_gt (Nat.lt_succ_of_lt la))
    (fun i h st => let ⟨⟨o, ho, _⟩, _⟩ := st; ⟨o, ho⟩) big its.length 0 _ z 0 [] rfl (Nat.zero_le _) ?_ (fun b o e => kp2 _ b o e) (Heap.get?_push_size _ rfl) (by rw [sz]; exact Nat.ne_of_lt (Nat.lt_succ_of_lt lz)) (Nat.ne_of_lt lz) ⟨isTup_at tz fun o e => kp2 _ _ o e, .nil, .inl hz⟩ fun h' tk' b ys kk ⟨g1, g2, g3⟩ => ?_
  · refine ⟨⟨io, Heap.get?_push_of_some _ ?_, by rw [hio], by rw [hio]; rfl⟩, isTup_at ta fun o e => kp2 _ _ o e⟩
    rw [hJ]
    exact Heap.get?_push_size _ (by rw [hio]; rfl)
  · rcases g3 with g3 | g3
    · exact ⟨.ref b, H, I.kept kk, rfl, q b H (.inl ⟨rfl, g3⟩)⟩
    · have nb : H b = none := HOk.gone I.hok g3
      refine ⟨.ref b, upd H b (.tup (lots.flatten.map V.int)), I.laidN (t' := tk') kk g3 nb ?_, rfl, q b _ (.inr ⟨nb, rfl⟩)⟩
      exact ⟨by rw [List.length_map, sizeLine_eq]; omega, ys, vals_of_ints g2, g1⟩
end L2
namespace Cn
open PySem PySem.Spec PyProof.Rows L2 Ck
/-! the forest that is made of a table -/
theorem crossRow_none {L : List (List Nat)} {a : Nat} : ∀ {m : Nat}, crossRow L a m = none → ∀ i, i < m → crossAt L a (a + 1 + i) = false
  | 0, _, i, hi => absurd hi (Nat.not_lt_zero i)
  | m + 1, h, i, hi => by
    have h : (match crossRow L a m with | some b => some b | none => if crossAt L a (a + 1 + m) = true then some (a + 1 + m) else none) = none := h
    cases e : crossRow L a m with
    | some b => rw [e] at h; cases h
    | none =>
      rw [e] at h
      by_cases c : crossAt L a (a + 1 + m) = true
      · rw [show (match (none : Option Nat) with | some b => some b | none => if crossAt L a (a + 1 + m) = true then some (a + 1 + m) else none) = some (a + 1 + m) from if_pos c] at h
        cases h
      · rcases Nat.lt_or_ge i m with q | q
        · exact crossRow_none e i q
        · rw [show i = m from by omega]
          exact Bool.eq_false_iff.mpr c
theorem crossTo_none {L : List (List Nat)} : ∀ {m : Nat}, crossTo L m = none → ∀ a, a < m → ∀ b, a < b → b < L.length → crossAt L a b = false
  | 0, _, a, ha, _, _, _ => absurd ha (Nat.not_lt_zero a)
  | m + 1, h, a, ha, b, hab, hb => by
    have h : (match crossTo L m with | some p => some p | none => (crossRow L m (L.length - (m + 1))).map fun b => (m, b)) = none := h
    cases e : crossTo L m with
    | some p => rw [e] at h; cases h
    | none =>
      rw [e] at h
      rcases Nat.lt_or_ge a m with q | q
      · exact crossTo_none e a q b hab hb
      · have ea : a = m := by omega
        subst ea
        have h : (crossRow L a (L.length - (a + 1))).map (fun b => (a, b)) = none := h
        rw [Option.map_eq_none_iff] at h
        have := crossRow_none h (b - (a + 1)) (by omega)
        rwa [show a + 1 + (b - (a + 1)) = b from by omega] at this
/-- wider lots first, then by their places -/
structure OrdOk (L : List (List Nat)) (ord : List Nat) : Prop where
  perm : ord.Perm (List.range L.length)
  srt : ord.Pairwise fun i j => (L.getD j []).length < (L.getD i []).length ∨ ((L.getD j []).length = (L.getD i []).length ∧ i < j)
theorem ord_uniq {L : List (List Nat)} {a b : List Nat} (ha : OrdOk L a) (hb : OrdOk L b) : a = b := by
  refine List.Perm.eq_of_pairwise (le := fun i j => (L.getD j []).length < (L.getD i []).length ∨ ((L.getD j []).length = (L.getD i []).length ∧ i < j)) (fun x y _ _ p q => ?_) ha.srt hb.srt (ha.perm.trans hb.perm.symm)
  omega
def alot (L : List (List Nat)) (ord : List Nat) : List (List Nat) := ord.map fun i => L.getD i []
def numsL (L : List (List Nat)) : List Nat := (List.range 30).filter fun x => decide (∃ lot ∈ L, x ∈ lot)
def parF (L : List (List Nat)) (ord : List Nat) : List (Option Nat) := ((List.range ord.length).map fun k => lastM (alot L ord) (L.getD (ord.getD k 0) []) k) ++ (numsL L).map fun x => lastM (alot L ord) [x] ord.length
def foT (L : List (List Nat)) (ord : List Nat) : Fo := ⟨parF L ord, List.range L.length, (List.range (numsL L).length).map fun j => L.length + j⟩
def plF (L : List (List Nat)) (ord : List Nat) : List Nat := (List.range L.length).map fun i => ord.idxOf i
/-- numbers as keys, to numbers that count up -/
def keyed : Nat → List Nat → List (L2.Key × V)
  | _, [] => []
  | c, x :: ks => ((Sum.inl ((x : Nat) : Int) : L2.Key), vn c) :: keyed (c + 1) ks
theorem keyed_len : ∀ {c : Nat} {ks : List Nat}, (keyed c ks).length = ks.length
  | _, [] => rfl
  | c, x :: ks => by
    show (keyed (c + 1) ks).length + 1 = ks.length + 1
    rw [keyed_len]
theorem keyed_app : ∀ {c : Nat} {a b : List Nat}, keyed c (a ++ b) = keyed c a ++ keyed (c + a.length) b
  | c, [], b => rfl
  | c, x :: a, b => by
    show _ :: keyed (c + 1) (a ++ b) = _ :: (keyed (c + 1) a ++ keyed (c + (a.length + 1)) b)
    rw [keyed_app, show c + 1 + a.length = c + (a.length + 1) from by omega]
theorem key_inj {x y : Nat} : ((Sum.inl ((x : Nat) : Int) : L2.Key) = Sum.inl ((y : Nat) : Int)) ↔ x = y := ⟨fun e => by have := Sum.inl.inj e; omega, fun e => by rw [e]⟩
theorem keyed_get (x : Nat) : ∀ {c : Nat} {ks : List Nat}, valV (keyed c ks) (Sum.inl ((x : Nat) : Int) : L2.Key) = if x ∈ ks then some (vn (c + ks.idxOf x)) else none
  | _, [] => rfl
  | c, y :: ks => by
    by_cases e : y = x
    · subst e
      rw [if_pos List.mem_cons_self, show keyed c (y :: ks) = ((Sum.inl ((y : Nat) : Int) : L2.Key), vn c) :: keyed (c + 1) ks from rfl, valV_pos rfl, List.idxOf_cons_self]
      rfl
    · rw [show keyed c (y :: ks) = ((Sum.inl ((y : Nat) : Int) : L2.Key), vn c) :: keyed (c + 1) ks from rfl, valV_neg (fun z => e (key_inj.mp z)), keyed_get x, List.idxOf_cons, show (y == x) = false from beq_eq_false_iff_ne.mpr e]
      by_cases h : x ∈ ks
      · rw [if_pos h, if_pos (List.mem_cons_of_mem _ h), show c + 1 + ks.idxOf x = c + (ks.idxOf x + 1) from by omega]
        rfl
      · rw [if_neg h, if_neg (fun z => (List.mem_cons.mp z).elim (fun q => e q.symm) h)]
theorem keyed_put {c x : Nat} {ks : List Nat} (h : x ∉ ks) : putK (keyed c ks) (Sum.inl ((x : Nat) : Int) : L2.Key) (vn (c + ks.length)) = keyed c (ks ++ [x]) := by
  rw [putK_new _ (by rw [keyed_get, if_neg h]), keyed_app]
  rfl
theorem keyed_snd : ∀ {c : Nat} {ks : List Nat}, (keyed c ks).map Prod.snd = ((List.range ks.length).map fun j => c + j).map vn
  | _, [] => rfl
  | c, x :: ks => by
    rw [show (keyed c (x :: ks)).map Prod.snd = vn c :: (keyed (c + 1) ks).map Prod.snd from rfl, keyed_snd, List.length_cons, List.range_succ_eq_map, List.map_cons, List.map_cons, List.map_map, List.map_map, List.map_map, Nat.add_zero]
    congr 1
    refine List.map_congr_left fun j _ => ?_
    show vn (c + 1 + j) = vn (c + (j + 1))
    rw [show c + 1 + j = c + (j + 1) from by omega]
theorem keyed_fst : ∀ {c : Nat} {ks : List Nat}, (keyed c ks).map Prod.fst = ks.map fun (x : Nat) => (Sum.inl ((x : Nat) : Int) : L2.Key)
  | _, [] => rfl
  | c, x :: ks => by
    show _ :: (keyed (c + 1) ks).map Prod.fst = _ :: _
    rw [keyed_fst]
def askF (L : List (List Nat)) : List (L2.Key × V) := keyed L.length (numsL L)
section
variable {L : List (List Nat)} {ord : List Nat}
theorem ord_len (o : OrdOk L ord) : ord.length = L.length := by rw [o.perm.length_eq, List.length_range]
theorem ord_nd (o : OrdOk L ord) : ord.Nodup := o.perm.nodup_iff.mpr List.nodup_range
theorem ord_mem (o : OrdOk L ord) {i : Nat} : i ∈ ord ↔ i < L.length := by rw [o.perm.mem_iff, List.mem_range]
theorem alot_len (o : OrdOk L ord) : (alot L ord).length = L.length := by unfold alot; rw [List.length_map, ord_len o]
theorem alot_at {k : Nat} (h : k < ord.length) : (alot L ord).getD k [] = L.getD (ord.getD k 0) [] := by
  unfold alot
  rw [List.getD_eq_getElem?_getD, List.getElem?_map, List.getElem?_eq_getElem h, List.getD_eq_getElem?_getD (l := ord), List.getElem?_eq_getElem h]
  rfl
theorem getD_lt {α : Type} {xs : List α} {d : α} {k : Nat} (h : k < xs.length) : xs.getD k d = xs[k] := by
  rw [List.getD_eq_getElem?_getD, List.getElem?_eq_getElem h]; rfl
theorem nums_len : (numsL L).length ≤ 30 := by
  unfold numsL
  refine Nat.le_trans (List.length_filter_le _ _) ?_
  rw [List.length_range]; exact Nat.le_refl _
theorem nums_asc : (numsL L).Pairwise (· < ·) := by unfold numsL; exact List.pairwise_lt_range.filter _
theorem nums_mem (ok : TbOk L) {x : Nat} : x ∈ numsL L ↔ ∃ lot ∈ L, x ∈ lot := by
  unfold numsL
  rw [List.mem_filter, List.mem_range, decide_eq_true_iff]
  exact ⟨fun h => h.2, fun h => ⟨let ⟨lot, h1, h2⟩ := h; ok.lt lot h1 x h2, h⟩⟩
theorem lam_of (ok : TbOk L) (no : crossTo L L.length = none) (o : OrdOk L ord) : Lam (alot L ord) := by
  have ol := ord_len o
  have al := alot_len o
  have nd : ∀ i, i < L.length → (L.getD i []).Nodup := fun i hi => by
    rw [getD_lt hi]
    exact (ok.asc _ (List.getElem_mem hi)).imp fun h => Nat.ne_of_lt h
  have at' : ∀ k, k < (alot L ord).length → ∃ i, i < L.length ∧ ord[k]? = some i ∧ (alot L ord).getD k [] = L.getD i [] := fun k hk => by
    have hk' : k < ord.length := by omega
    refine ⟨ord[k], (ord_mem o).mp (List.getElem_mem hk'), List.getElem?_eq_getElem hk', ?_⟩
    rw [alot_at hk', getD_lt hk']
  have pw := fun (i j : Nat) (hij : i < j) (hj : j < ord.length) => List.pairwise_iff_getElem.mp o.srt i j (by omega) hj hij
  refine ⟨fun k hk => ?_, fun i j hij hj => ?_, fun i j hij hj => ?_⟩
  · obtain ⟨i, hi, _, e⟩ := at' k hk
    rw [e]; exact nd i hi
  · have hj' : j < ord.length := by omega
    have := pw i j hij hj'
    rw [alot_at hj', alot_at (show i < ord.length by omega), getD_lt hj', getD_lt (show i < ord.length by omega)]
    omega
  · obtain ⟨x, hx, ex, e1⟩ := at' i (by omega)
    obtain ⟨y, hy, ey, e2⟩ := at' j hj
    rw [e1, e2]
    have ne : x ≠ y := fun z => by
      have := (List.getElem?_inj (show i < ord.length by omega) (ord_nd o)).mp (ex.trans (by rw [z, ey]))
      omega
    rcases Nat.lt_or_gt_of_ne ne with c | c
    · exact crossTo_none no x hx y c hy
    · rw [crossSym (nd x hx) (nd y hy)]
      exact crossTo_none no y hy x c hx
theorem parF_len (o : OrdOk L ord) : (parF L ord).length = L.length + (numsL L).length := by
  unfold parF
  rw [List.length_append, List.length_map, List.length_map, List.length_range, ord_len o]
theorem parF_lot (o : OrdOk L ord) {k : Nat} (hk : k < (alot L ord).length) : (parF L ord)[k]? = some (lastM (alot L ord) ((alot L ord).getD k []) k) := by
  have hk' : k < ord.length := by rw [ord_len o, ← alot_len o]; exact hk
  unfold parF
  rw [List.getElem?_append_left (by rw [List.length_map, List.length_range]; exact hk'), List.getElem?_map, List.getElem?_range hk', alot_at hk']
  rfl
theorem parF_ask (o : OrdOk L ord) {j x : Nat} (hx : (numsL L)[j]? = some x) : (parF L ord)[L.length + j]? = some (lastM (alot L ord) [x] (alot L ord).length) := by
  unfold parF
  have e : L.length + j = ((List.range ord.length).map fun k => lastM (alot L ord) (L.getD (ord.getD k 0) []) k).length + j := by rw [List.length_map, List.length_range, ord_len o]
  rw [e, List.getElem?_append_right (Nat.le_add_right _ _), Nat.add_sub_cancel_left, List.getElem?_map, hx, alot_len o, ord_len o]
  rfl
theorem parF_ps (o : OrdOk L ord) : Ps (parF L ord) := by
  intro i p h
  have hl := (List.getElem?_eq_some_iff.mp h).1
  rw [parF_len o] at hl
  have al := alot_len o
  rcases Nat.lt_or_ge i L.length with c | c
  · rw [parF_lot o (by omega)] at h
    exact (lastM_some (Option.some.inj h)).1
  · have hj : i - L.length < (numsL L).length := by omega
    have := parF_ask o (List.getElem?_eq_getElem hj)
    rw [show L.length + (i - L.length) = i from by omega] at this
    rw [this] at h
    have := (lastM_some (Option.some.inj h)).1
    omega
theorem foT_ok (ok : TbOk L) (o : OrdOk L ord) : FoOk (foT L ord) := by
  have e := parF_len o
  have n30 := nums_len (L := L)
  have l0 := ok.l0
  have l1 := ok.l1
  refine ⟨parF_ps o, by show 1 ≤ (parF L ord).length; omega, by show (parF L ord).length ≤ 60; omega, List.pairwise_lt_range, fun x hx => ?_, ?_, fun x hx => ?_⟩
  · have := List.mem_range.mp hx
    show x < (parF L ord).length
    omega
  · exact List.pairwise_map.mpr (List.pairwise_lt_range.imp fun h => by omega)
  · obtain ⟨j, hj, rfl⟩ := List.mem_map.mp hx
    have := List.mem_range.mp hj
    show L.length + j < (parF L ord).length
    omega
theorem idx_at (o : OrdOk L ord) {i : Nat} (hi : i < L.length) : ord.idxOf i < ord.length ∧ ord[ord.idxOf i]? = some i := by
  have h := List.idxOf_lt_length_of_mem ((ord_mem o).mpr hi)
  exact ⟨h, by rw [List.getElem?_eq_getElem h, List.getElem_idxOf h]⟩
/-- the word of the law: an amount's place is over an ask's just if the ask is in its lot -/
theorem foT_right (ok : TbOk L) (no : crossTo L L.length = none) (o : OrdOk L ord) {i j x : Nat} (hi : i < L.length) (hx : (numsL L)[j]? = some x) : ord.idxOf i ∈ road (parF L ord) (L.length + j) ↔ x ∈ L.getD i [] := by
  have al := alot_len o
  obtain ⟨h1, h2⟩ := idx_at o hi
  have ol := ord_len o
  rw [askRoad (parF_ps o) (lam_of ok no o) (fun k hk => parF_lot o hk) (show (alot L ord).length ≤ L.length + j by omega) (parF_ask o hx) (show ord.idxOf i < (alot L ord).length by omega), alot_at h1, List.getD_eq_getElem?_getD (l := ord), h2]
  rfl
theorem lastM_take {A : List (List Nat)} {lot : List Nat} {k : Nat} : ∀ {m : Nat}, m ≤ k → lastM (A.take k) lot m = lastM A lot m
  | 0, _ => rfl
  | m + 1, h => by
    show (if _ then _ else _) = if _ then _ else _
    rw [lastM_take (show m ≤ k by omega), List.getD_eq_getElem?_getD, List.getElem?_take_of_lt (by omega), ← List.getD_eq_getElem?_getD]
theorem plF_perm (o : OrdOk L ord) : (plF L ord).Perm (List.range L.length) := by
  have ol := ord_len o
  refine (List.perm_ext_iff_of_nodup ?_ List.nodup_range).mpr fun x => ?_
  · unfold plF
    refine List.pairwise_map.mpr (List.Pairwise.imp_of_mem (fun {a b} ha hb ne e => ne ?_) List.nodup_range)
    have h1 := (idx_at o (List.mem_range.mp ha)).2
    have h2 := (idx_at o (List.mem_range.mp hb)).2
    rw [e, h2] at h1
    exact (Option.some.inj h1).symm
  · unfold plF
    rw [List.mem_map, List.mem_range]
    constructor
    · rintro ⟨i, hi, rfl⟩
      have := (idx_at o (List.mem_range.mp hi)).1
      omega
    · intro hx
      have hx' : x < ord.length := by omega
      refine ⟨ord[x], List.mem_range.mpr ((ord_mem o).mp (List.getElem_mem hx')), ?_⟩
      exact List.Nodup.idxOf_getElem (ord_nd o) x hx'
/-! the order, out of what is sorted -/
def kP (H : Hp) (v : V) : Int × Int := match v with
  | .ref t => (match H t with
    | some (.tup [.int i, .int j]) => (i, j)
    | _ => (0, 0))
  | _ => (0, 0)
def OrdAt (H : Hp) (L : List (List Nat)) (v : V) (i : Nat) : Prop := ∃ t, v = .ref t ∧ H t = some (.tup [.int (-((L.getD i []).length : Int)), vn i])
theorem kP_at {H : Hp} {v : V} {i : Nat} (h : OrdAt H L v i) : kP H v = (-((L.getD i []).length : Int), (i : Int)) := by
  obtain ⟨t, rfl, h⟩ := h
  show (match H t with | some (.tup [.int i, .int j]) => (i, j) | _ => (0, 0)) = _
  rw [h]
theorem ord_of {H : Hp} {xs ys : List V} (hl : xs.length = L.length) (hx : ∀ (m : Nat) (v : V), xs[m]? = some v → OrdAt H L v m) (hs : SrtO.Srtd (ltP (kP H)) ys) (hp : ys.Perm xs) : ∃ ord, OrdOk L ord ∧ Paired (OrdAt H L) ys ord := by
  have at' : ∀ v ∈ ys, ∃ i, i < L.length ∧ OrdAt H L v i := fun v hv => by
    obtain ⟨m, hm⟩ := List.mem_iff_getElem?.mp (hp.mem_iff.mp hv)
    exact ⟨m, by have := (List.getElem?_eq_some_iff.mp hm).1; omega, hx m v hm⟩
  have snd : ∀ v i, OrdAt H L v i → (kP H v).2.toNat = i := fun v i h => by rw [kP_at h]; exact Int.toNat_natCast i
  have pr : ∀ zs : List V, (∀ v ∈ zs, ∃ i, i < L.length ∧ OrdAt H L v i) → Paired (OrdAt H L) zs (zs.map fun v => (kP H v).2.toNat) := by
    intro zs
    induction zs with
    | nil => exact fun _ => .nil
    | cons v zs ih =>
      intro h
      obtain ⟨i, _, hi⟩ := h v List.mem_cons_self
      refine .cons ?_ (ih fun u hu => h u (List.mem_cons_of_mem _ hu))
      show OrdAt H L v (kP H v).2.toNat
      rw [snd v i hi]
      exact hi
  have ex : xs.map (fun v => (kP H v).2.toNat) = List.range L.length := by
    refine List.ext_getElem? fun m => ?_
    rw [List.getElem?_map]
    cases q : xs[m]? with
    | none =>
      have := List.getElem?_eq_none_iff.mp q
      rw [List.getElem?_eq_none (by rw [List.length_range]; omega)]; rfl
    | some v =>
      have := (List.getElem?_eq_some_iff.mp q).1
      rw [List.getElem?_range (by omega)]
      show some (kP H v).2.toNat = _
      rw [snd v m (hx m v q)]
  have pe := hp.map fun v => (kP H v).2.toNat
  rw [ex] at pe
  refine ⟨_, ⟨pe, ?_⟩, pr ys at'⟩
  have nd : (ys.map fun v => (kP H v).2.toNat).Nodup := pe.nodup_iff.mpr List.nodup_range
  refine List.pairwise_map.mpr (List.Pairwise.imp_of_mem (fun {a b} ha hb h => ?_) (hs.and (List.pairwise_map.mp nd)))
  obtain ⟨i, hi, ai⟩ := at' a ha
  obtain ⟨j, hj, aj⟩ := at' b hb
  obtain ⟨h1, h2⟩ := h
  rw [snd a i ai, snd b j aj] at h2 ⊢
  have := SrtO.lexB_no.mp h1
  rw [kP_at ai, kP_at aj] at this
  simp only at this
  omega
end
end Cn
namespace Cn
open PySem PySem.Spec PyProof.Rows L2 Ck
/-- a walk of any kind, whatever its body -/
theorem anyWalk {J : It} {n : Nat} {G : Hp → Prop} {Y : Nat → Hp → V → Hp → Prop} (w : Walk J n G Y) {H0 : Hp} {Qd : Hp → Prop} {Body : (Hp → Prop) → V → Hp → Prop} (Pv : Nat → Hp → Prop) (start : Pv 0 H0) (still : ∀ i H, i ≤ n → Pv i H → G H)
    (turn : ∀ i x H H', i < n → Pv i H → Y i H x H' → Body (Pv (i + 1)) x H') (over : ∀ H, Pv n H → Qd H) :
    ∃ W : Nat → Nat → Hp → Prop, (∃ m, W 0 m H0) ∧ ∀ i m H, W i m H → (J.stop i H ∧ Qd H) ∨ (J.go i H ∧ ∃ Nx : Hp → Prop, (∀ H', Nx H' → ∃ m', m' < m ∧ W (i + 1) m' H') ∧ ∀ x H', J.yld i H x H' → Body Nx x H') := by
  refine ⟨fun i m H => m + i = n ∧ Pv i H, ⟨n, Nat.add_zero n, start⟩, fun i m H hW => ?_⟩
  obtain ⟨sum, here⟩ := hW
  have st := still i H (by omega) here
  cases m with
  | zero =>
    have ei : i = n := by omega
    subst ei
    exact .inl ⟨w.stops H st, over H here⟩
  | succ m => exact .inr ⟨w.goes i H (by omega) st, Pv (i + 1), fun H' later => ⟨m, Nat.lt_succ_self m, by omega, later⟩, fun x H' y => turn i x H H' (by omega) here (w.yields i H x H' (by omega) st y)⟩
theorem addN_nd {n : Nat} {ns : List Nat} (h : ns.Nodup) : (addN ns n).Nodup := by
  unfold addN
  by_cases c : n ∈ ns
  · rw [if_pos c]; exact h
  · rw [if_neg c]
    exact List.nodup_append.mpr ⟨h, List.nodup_cons.mpr ⟨List.not_mem_nil, List.nodup_nil⟩, fun a ha b hb e => c (by rw [List.mem_singleton.mp hb] at e; rw [← e]; exact ha)⟩
theorem lenLt {ns : List Nat} (h : ns.Nodup) (hl : ∀ x ∈ ns, x < 30) : ns.length ≤ 30 := by
  rw [(ndPerm h hl).length_eq]
  refine Nat.le_trans (List.length_filter_le _ _) ?_
  rw [List.length_range]; exact Nat.le_refl _
theorem ascExt {a b : List Nat} (ha : a.Pairwise (· < ·)) (hb : b.Pairwise (· < ·)) (h : ∀ x, x ∈ a ↔ x ∈ b) : a = b :=
  List.Perm.eq_of_pairwise (le := (· < ·)) (fun x y _ _ p q => absurd (Nat.lt_trans p q) (Nat.lt_irrefl _)) ha hb ((List.perm_ext_iff_of_nodup (ha.imp fun h => Nat.ne_of_lt h) (hb.imp fun h => Nat.ne_of_lt h)).mpr h)
theorem sortVn {zs : List Int} {ns : List Nat} (hp : zs.Perm (ns.map fun k => ((k : Nat) : Int))) (hs : zs.Pairwise (· ≤ ·)) (asc : ns.Pairwise (· < ·)) : zs = ns.map fun k => ((k : Nat) : Int) :=
  List.Perm.eq_of_pairwise (le := (· ≤ ·)) (fun a b _ _ p q => Int.le_antisymm p q) hs (List.pairwise_map.mpr (asc.imp fun h => by omega)) hp
section
variable {P : Program} {w : World} {K : PySem.W.Frag} {mg : Str → Option Value} {base : Heap} {C : Addr}
def spForOf (C : Addr) : Sp := fun vs H Q _ => ∃ (a : Addr) (us : List V) (L : List (List Nat)), vs = [.ref a] ∧ H a = some (.tup us) ∧ TbR H us L ∧ TbOk L ∧
  (∀ p, crossTo L L.length = some p → ∀ H', Same H H' → Q .non H') ∧
  (crossTo L L.length = none → ∀ ord r F pl d H', OrdOk L ord → Same H H' → H' r = some (.tup [.ref F, .ref pl, .ref d]) → FoAt C H' F (foT L ord) → TN H' pl (plF L ord) → H' d = some (.dK (askF L)) → H d = none → Q (.ref r) H')
def nForOf : List Str := ["table", "amount", "order", "ahead", "parents", "bearing", "_", "asks", "ask", "places", "lot"]
theorem scForOf : FnScope nForOf ["table"] (defScope sForOf) := ⟨rfl, rfl, rfl, by decide +kernel, rfl, by decide +kernel, by decide +kernel⟩
theorem dForOf (B : Defs K mg C) : Def P w K mg base "forest_of" 6 ["table"] (spForOf C) := by
  obtain ⟨fX, fdX, GX, gX, kX, bX⟩ := dCross (P := P) (w := w) (base := base) B
  obtain ⟨fW, fdW, GW, gW, kW, bW⟩ := dLastW (P := P) (w := w) (base := base) B
  obtain ⟨fN, fdN, FN, MN, bN⟩ := B.ini
  obtain ⟨tm, mM⟩ := B.mM
  obtain ⟨fI, fdI, DI⟩ := B.I
  obtain ⟨fL, fdL, DL⟩ := B.L
  obtain ⟨fB, fdB, DB⟩ := B.B
  obtain ⟨fO, fdO, DO⟩ := B.O
  have GN : FnOk P w K mg base CX0 4 fN fdN ["self", "parents", "bearing", "asking"] (spInit C) := ok_init FN B.N B.T mM DI DL DB DO
  have N := B.N
  have nd := scForOf.nd
  refine def_of B.fof fun f fd F => ?_
  refine F.ok scForOf (fun vs H Q E h => ?_) (fun cdv A outer s H vs Q E hr h => ?_)
  · obtain ⟨a, us, L, rfl, _⟩ := h
    rfl
  · obtain ⟨a, us, L, rfl, ha, hT, ok, kN, kS⟩ := h
    have hr4 : Room 4 (A.deeper (envOfC "forest_of" (defScope sForOf) s.heap.objs.size f cdv)) := Room.mono hr (by decide)
    have hr1 : Room 1 (A.deeper (envOfC "forest_of" (defScope sForOf) s.heap.objs.size f cdv)) := Room.mono hr (by decide)
    have hu := hu_of hr
    refine ⟨_, pss_cons (ps_if (pt_cmpR op_notN (pe_call GX hr4 (by rfl) gX kX bX .nil pass0 (pa_cons (pv 0) pa_nil)) pe_non (nomark _)) (pss_one (ps_ret pe_non)) pss_nil)
      (pss_cons (ps_set (i := 2) nd rfl (Or.inl rfl) (pe_callB (r := rSortedPO K) cr_sortedPO (by rfl) N.sorted (by decide +kernel) (pa_cons (pe_lc (own := [("amount", 1), ("lot", 10)]) (g := gTup K 2 (gCons (gName 1) (gCons (gName 10) gNil))) (tt := tYes) (te := tTup (tCons (tUn (rU fun i => V.int (-i)) (tCB (rLenQ K) (tCons (tVar 10) tNil))) (tCons (tVar 1) tNil))) rfl nd (pi_enumT (by rfl) N.enum (pa_cons (pv 0) pa_nil))
          (blkOk_by (N := nForOf) (sc := defScope sForOf) (by decide +kernel)) (fun _ _ _ _ _ => pg_tup rfl (pgs_cons (pg_name (i := 1) nd rfl (Or.inl rfl)) (pgs_cons (pg_name (i := 10) nd rfl (Or.inl rfl)) pgs_nil))) (fun _ _ _ _ _ => pts_nil)
          (fun _ _ _ _ _ => pe_tup (pa_cons (pe_un un_neg (pe_callB (r := rLenQ K) len_q (by rfl) N.is.len PySem.boot_len (pa_cons (pv 10) pa_nil))) (pa_cons (pv 1) pa_nil)))) pa_nil)))
      (pss_cons (ps_set (i := 3) nd rfl (Or.inl rfl) (pe_lst pa_nil))
      (pss_cons (ps_set (i := 4) nd rfl (Or.inl rfl) (pe_lst pa_nil))
      (pss_cons (ps_set (i := 5) nd rfl (Or.inr rfl) pe_dnewK)
      (pss_cons (ps_for PassesOwn.never rfl (pi_list (pv 2)) (pg_tup rfl (pgs_cons (pg_name (i := 6) nd rfl (Or.inl rfl)) (pgs_cons (pg_name (i := 1) nd rfl (Or.inl rfl)) pgs_nil)))
        (pss_cons (ps_expr (pe_bm PySem.F.plainAttrs_list PySem.F.slot_list_append PySem.F.type_list_append mt_append (pv 4) (pa_cons (pe_call GW hr1 (by rfl) gW kW bW .nil pass0 (pa_cons (pv 3) (pa_cons (pe_ix ix_tup (pv 0) (pv 1) (fun _ _ => rfl)) pa_nil))) pa_nil)))
        (pss_cons (ps_dput hu (pv 5) (pv 1) (pe_callB call_len_seq (by rfl) N.is.len PySem.boot_len (pa_cons (pv 3) pa_nil)) rfl)
        (pss_one (ps_expr (pe_bm PySem.F.plainAttrs_list PySem.F.slot_list_append PySem.F.type_list_append mt_append (pv 3) (pa_cons (pe_ix ix_tup (pv 0) (pv 1) (fun _ _ => rfl)) pa_nil)))))))
      (pss_cons (ps_set (i := 7) nd rfl (Or.inl rfl) pe_dnewK)
      (pss_cons (ps_for PassesOwn.never rfl (pi_list (pe_callB (call_sortedDI rfl) (by rfl) N.sorted (by decide +kernel) (pa_cons (pe_dc2 (own := [("lot", 10), ("ask", 8)]) (vs1 := [8]) (g := gName 10) (tt := tYes) (wi1 := iTup K (tVar 10)) (g1 := gName 8) (tt1 := tYes) (tk := tVar 8) (tv := tC (.bl true)) rfl nd (pi_tup (pv 0))
            (blkOk_by (N := nForOf) (sc := defScope sForOf) (by decide +kernel)) (by decide) (fun _ _ _ _ _ => pg_name (i := 10) nd rfl (Or.inl rfl)) (fun _ _ _ _ _ => pts_nil) (fun _ _ _ _ _ => pi_tup (pv 10)) (fun _ _ _ _ _ => pg_name (i := 8) nd rfl (Or.inl rfl)) (fun _ _ _ _ _ => pts_nil) (fun _ _ _ _ _ => pv 8) (fun _ _ _ _ _ => pe_bl)) pa_nil))) (pg_name (i := 8) nd rfl (Or.inl rfl))
        (pss_cons (ps_dput hu (pv 7) (pv 8) (pe_callB call_len_seq (by rfl) N.is.len PySem.boot_len (pa_cons (pv 4) pa_nil)) rfl)
        (pss_one (ps_expr (pe_bm PySem.F.plainAttrs_list PySem.F.slot_list_append PySem.F.type_list_append mt_append (pv 4) (pa_cons (pe_call GW hr1 (by rfl) gW kW bW .nil pass0 (pa_cons (pv 3) (pa_cons (pe_tup (pa_cons (pv 8) pa_nil)) pa_nil))) pa_nil))))))
      (pss_cons (ps_set (i := 9) nd rfl (Or.inl rfl) (pe_callTy call_tuple_of (by rfl) N.is.tup (by decide +kernel) (pa_cons (pe_lc (own := [("amount", 1)]) (g := gName 1) (tt := tYes) (te := tDGet (tVar 5) (tVar 1)) rfl nd (pi_range1 (by rfl) N.range (pa_cons (pe_callB call_len_seq (by rfl) N.is.len PySem.boot_len (pa_cons (pv 0) pa_nil)) pa_nil))
          (blkOk_by (N := nForOf) (sc := defScope sForOf) (by decide +kernel)) (fun _ _ _ _ _ => pg_name (i := 1) nd rfl (Or.inl rfl)) (fun _ _ _ _ _ => pts_nil) (fun _ _ _ _ _ => pe_dget hu (pv 5) (pv 1) (fun _ _ => rfl))) pa_nil)))
      (pss_one (ps_ret (pe_tup (pa_cons (pe_make MN GN hr (by rfl) B.T.mgC bN .nil pass0 (pa_cons (pe_callTy call_tuple_of (by rfl) N.is.tup (by decide +kernel) (pa_cons (pv 4) pa_nil)) (pa_cons (pe_callTy call_tuple_of (by rfl) N.is.tup (by decide +kernel) (pa_cons (pe_callB cr_sortTup (by rfl) N.sorted (by decide +kernel) (pa_cons (pv 9) pa_nil)) pa_nil)) (pa_cons (pe_callTy call_tuple_of (by rfl) N.is.tup (by decide +kernel) (pa_cons (pe_callB (cr_sortedDV rfl) (by rfl) N.sorted (by decide +kernel) (pa_cons (pe_dvals (pv 7)) pa_nil)) pa_nil)) pa_nil)))) (pa_cons (pv 9) (pa_cons (pv 7) pa_nil)))))))))))))), ?_⟩
    have lu : us.length = L.length := Paired.length hT
    have l0 := ok.l0
    have l1 := ok.l1
    refine ⟨_, rfl, a, us, L, rfl, ha, hT, ok, fun v H1 s1 hv => ?_⟩
    refine ⟨rfl, _, rfl, ?_⟩
    cases cr : crossTo L L.length with
    | some p =>
      rw [cr] at hv
      obtain ⟨t, rfl, _⟩ := hv
      refine ifT (by rfl) ?_
      exact kN p cr H1 s1
    | none =>
      rw [cr] at hv
      obtain rfl : v = .non := hv
      refine ifF (by decide) ?_
      have ha1 := s1 _ _ ha
      have hT1 := tbSame s1 hT
      have nsl : ∀ ns ∈ L, ns.length ≤ 30 := fun ns h => lotLen (ok.asc ns h) (ok.lt ns h)
      refine ⟨_, rfl, a, us, rfl, .inl (.inl ha1), fun D nD => ?_⟩
      refine lc_it (walk_enumT (xs := us)) (fun m G => Same H1 G ∧ ∃ xs : List V, G D = some (.lst xs) ∧ xs.length = m ∧ ∀ j v, xs[j]? = some v → OrdAt G L v j) ⟨smUpd nD, [], upd_same, rfl, fun j v z => by rw [List.getElem?_nil] at z; cases z⟩ (fun m G _ z => .inl (.inl (z.1 _ _ ha1))) ?_ ?_
      · rintro m x G G2 hm ⟨sm, xs, hD, hl, hx⟩ ⟨T, x1, y1, rfl, nT, rfl, e1, e2⟩
        cases e1
        obtain ⟨ns, hns, t, rfl, ht⟩ := pairGetT hT1 (show us[m]? = some y1 from e2)
        have S2 := sm.trans (smUpd (o := .tup [.int (m : Nat), .ref t]) nT)
        refine ⟨T, _, rfl, .inl (.inl upd_same), rfl, _, _, rfl, _, _, rfl, rfl, rfl, ?_⟩
        show tYes _ _ _
        have hD2 := smUpd (o := .tup [.int (m : Nat), .ref t]) nT _ _ hD
        have hx2 : ∀ j v, xs[j]? = some v → OrdAt (upd G T (.tup [.int (m : Nat), .ref t])) L v j := fun j v z => let ⟨q, e, hq⟩ := hx j v z; ⟨q, e, smUpd nT _ _ hq⟩
        generalize upd G T (.tup [.int (m : Nat), .ref t]) = G3 at S2 hD2 hx2 ⊢
        refine ⟨_, rfl, t, _, rfl, .inr (tnL (S2 _ _ ht)), _, rfl, _, rfl, by show 2 ≤ sizeLine; decide, fun q nq => ?_⟩
        have S4 := smUpd (o := .tup [.int (-((ns.map vn).length : Int)), .int (m : Nat)]) nq
        refine ⟨xs, S4 _ _ hD2, small1000 (by omega), smOver nD (S2.trans S4), xs ++ [.ref q], upd_same, by rw [List.length_append, hl]; rfl, fun j v z => ?_⟩
        have qD : q ≠ D := fun z => by rw [z, hD2] at nq; cases nq
        rcases Nat.lt_or_ge j xs.length with c | c
        · rw [List.getElem?_append_left c] at z
          obtain ⟨r, e, hr⟩ := hx2 j v z
          have hr4 := S4 _ _ hr
          exact ⟨r, e, by rw [upd_ne (fun y => by rw [y, S4 _ _ hD2] at hr4; cases hr4)]; exact hr4⟩
        · have ej : j = m := by
            have := (List.getElem?_eq_some_iff.mp z).1
            rw [List.length_append] at this
            simp at this
            omega
          rw [List.getElem?_append_right c, ej, hl, Nat.sub_self] at z
          cases z
          refine ⟨q, rfl, ?_⟩
          rw [upd_ne qD, upd_same, ej, List.length_map, List.getD_eq_getElem?_getD, hns]
          rfl
      rintro G ⟨sm, xs, hD, hl, hx⟩
      refine ⟨D, xs, kP G, rfl, .inl (.inl hD), fun x hx' => ?_, fun ys o sr st no => ?_⟩
      · obtain ⟨m, hm⟩ := List.mem_iff_getElem?.mp hx'
        have h1 := hx m x hm
        obtain ⟨t, e, ht⟩ := id h1
        refine ⟨t, e, ?_⟩
        rw [kP_at h1]
        exact ht
      obtain ⟨ord, oo, hP⟩ := ord_of (hl.trans lu) hx sr st.perm
      have S2 : Same H1 (upd G o (.lst ys)) := sm.trans (smUpd no)
      have hP2 : Paired (OrdAt (upd G o (.lst ys)) L) ys ord := Paired.mapP hP fun _ _ ⟨t, e, h⟩ => ⟨t, e, smUpd no _ _ h⟩
      have ho2 : upd G o (.lst ys) o = some (.lst ys) := upd_same
      generalize upd G o (.lst ys) = H2 at S2 hP2 ho2 ⊢
      have ol := ord_len oo
      have al := alot_len oo
      have ha2 := S2 _ _ ha1
      have hT2 := tbSame S2 hT1
      have lys : ys.length = ord.length := Paired.length hP2
      refine ⟨by show 0 ≤ sizeLine; decide, fun p3 n3 => ?_⟩
      refine ⟨by show 0 ≤ sizeLine; decide, fun p4 n4 => ?_⟩
      intro p5 n5
      have n43 : p4 ≠ p3 := fun z => by rw [z, upd_same] at n4; cases n4
      have n53 : p5 ≠ p3 := fun z => by rw [z, upd_ne (fun y => n43 y.symm), upd_same] at n5; cases n5
      have n54 : p5 ≠ p4 := fun z => by rw [z, upd_same] at n5; cases n5
      have m4 : H2 p4 = none := by rw [upd_ne n43] at n4; exact n4
      have m5 : H2 p5 = none := by rw [upd_ne n54, upd_ne n53] at n5; exact n5
      have g3 : upd (upd (upd H2 p3 (.lst [])) p4 (.lst [])) p5 (.dK []) p3 = some (.lst []) := by rw [upd_ne (Ne.symm n53), upd_ne (Ne.symm n43), upd_same]
      have g4 : upd (upd (upd H2 p3 (.lst [])) p4 (.lst [])) p5 (.dK []) p4 = some (.lst []) := by rw [upd_ne (Ne.symm n54), upd_same]
      have g5 : upd (upd (upd H2 p3 (.lst [])) p4 (.lst [])) p5 (.dK []) p5 = some (.dK []) := upd_same
      have S3 : Same H2 (upd (upd (upd H2 p3 (.lst [])) p4 (.lst [])) p5 (.dK [])) := smOver m5 (smOver m4 (smUpd n3))
      generalize upd (upd (upd H2 p3 (.lst [])) p4 (.lst [])) p5 (.dK []) = H3 at g3 g4 g5 S3 ⊢
      refine ⟨_, rfl, o, rfl, ⟨_, .inl (.inl (S3 _ _ ho2))⟩, ?_⟩
      refine for_list (K := K) (a := o) (xs := ys) (fun m σ G => Same H2 G ∧ ∃ (us3 : List V) (t1 t6 : Option V), σ = [some (.ref a), t1, some (.ref o), some (.ref p3), some (.ref p4), some (.ref p5), t6, none, none, none, none] ∧ G p3 = some (.lst us3) ∧ TbR H2 us3 ((alot L ord).take m) ∧ G p4 = some (.lst (((List.range m).map fun k => lastM (alot L ord) (L.getD (ord.getD k 0) []) k).map vp)) ∧ G p5 = some (.dK (keyed 0 (ord.take m))))
        ⟨S3, [], none, none, rfl, g3, .nil, g4, g5⟩ (fun m σ G _ z => .inl (.inl (z.1 _ _ ho2))) ?_ ?_
      · rintro m v σ G hv ⟨sm, us3, t1, t6, rfl, h3, hT3, h4, h5⟩
        have hm := (List.getElem?_eq_some_iff.mp hv).1
        have hmo : m < ord.length := by omega
        obtain ⟨im, him, t, rfl, ht⟩ := pairGetT hP2 hv
        have ilt : im < L.length := (ord_mem oo).mp (List.mem_of_getElem? him)
        have hui : us[im]? = some us[im] := List.getElem?_eq_getElem (by omega)
        obtain ⟨lot, hlot, tl, etl, htl⟩ := pairGetT hT2 hui
        rw [etl] at hui
        have elot : L.getD im [] = lot := by rw [List.getD_eq_getElem?_getD, hlot]; rfl
        have eim : ord.getD m 0 = im := by rw [List.getD_eq_getElem?_getD, him]; rfl
        have hA : (alot L ord)[m]? = some lot := by unfold alot; rw [List.getElem?_map, him, ← elot]; rfl
        have tA : (alot L ord).take (m + 1) = (alot L ord).take m ++ [lot] := by rw [List.take_add_one, hA]; rfl
        have lA : ((alot L ord).take m).length = m := by rw [List.length_take]; omega
        have l3 : us3.length = m := by rw [Paired.length hT3, lA]
        have lr : ((List.range m).map fun k => lastM (alot L ord) (L.getD (ord.getD k 0) []) k).length = m := by rw [List.length_map, List.length_range]
        refine ⟨t, _, rfl, .inl (.inl (sm _ _ ht)), rfl, _, _, rfl, _, _, rfl, rfl, ?_⟩
        refine ⟨_, rfl, .inl ⟨rfl, _, .inl (.inl h4)⟩, _, rfl, _, rfl, _, rfl, a, us, ((im : Nat) : Int), _, rfl, rfl, .inl (.inl (sm _ _ ha2)), atI_nat hui, p3, tl, us3, (alot L ord).take m, lot, rfl, h3, tbSame sm hT3, sm _ _ htl, by omega, by have := nsl lot (List.mem_of_getElem? hlot); omega, fun G1 s1 => ?_⟩
        have h31 := s1 _ _ h3
        have h41 := s1 _ _ h4
        have h51 := s1 _ _ h5
        have sm1 := sm.trans s1
        refine ⟨p4, _, _, rfl, rfl, h41, small1000 (by rw [List.length_map, lr]; omega), ?_⟩
        rw [lA, lastM_take (Nat.le_refl m)]
        have e4 : upd G1 p4 (.lst (((List.range m).map fun k => lastM (alot L ord) (L.getD (ord.getD k 0) []) k).map vp ++ [vp (lastM (alot L ord) lot m)])) p4 = some (.lst (((List.range (m + 1)).map fun k => lastM (alot L ord) (L.getD (ord.getD k 0) []) k).map vp)) := by
          rw [upd_same, List.range_succ, List.map_append, List.map_append, ← elot, ← eim]
          rfl
        have h32 : upd G1 p4 (.lst (((List.range m).map fun k => lastM (alot L ord) (L.getD (ord.getD k 0) []) k).map vp ++ [vp (lastM (alot L ord) lot m)])) p3 = some (.lst us3) := by rw [upd_ne (Ne.symm n43)]; exact h31
        have h52 : upd G1 p4 (.lst (((List.range m).map fun k => lastM (alot L ord) (L.getD (ord.getD k 0) []) k).map vp ++ [vp (lastM (alot L ord) lot m)])) p5 = some (.dK (keyed 0 (ord.take m))) := by rw [upd_ne n54]; exact h51
        have sm2 : Same H2 (upd G1 p4 (.lst (((List.range m).map fun k => lastM (alot L ord) (L.getD (ord.getD k 0) []) k).map vp ++ [vp (lastM (alot L ord) lot m)]))) := smOver m4 sm1
        generalize upd G1 p4 (.lst (((List.range m).map fun k => lastM (alot L ord) (L.getD (ord.getD k 0) []) k).map vp ++ [vp (lastM (alot L ord) lot m)])) = G2 at e4 h32 h52 sm2 ⊢
        refine ⟨_, rfl, p3, _, rfl, .inl (.inl (.inl h32)), _, rfl, _, rfl, p5, _, rfl, DPut.k (k := (Sum.inl ((im : Nat) : Int) : L2.Key)) h52 (small1000 (by rw [keyed_len, List.length_take]; omega)), ?_⟩
        have ek : putK (keyed 0 (ord.take m)) (Sum.inl ((im : Nat) : Int) : L2.Key) (V.int (us3.length : Int)) = keyed 0 (ord.take (m + 1)) := by
          have lt : (ord.take m).length = m := by rw [List.length_take]; omega
          rw [List.take_add_one, him]
          have := keyed_put (c := 0) (x := im) (nd_take (ord_nd oo) him)
          rw [lt, Nat.zero_add] at this
          rw [l3]
          exact this
        rw [ek]
        refine ⟨_, rfl, .inl ⟨rfl, _, .inl (.inl (by rw [upd_ne (Ne.symm n53)]; exact h32))⟩, _, rfl, _, rfl, a, us, ((im : Nat) : Int), _, rfl, rfl, .inl (.inl (smOver m5 sm2 _ _ ha2)), atI_nat hui, p3, _, _, rfl, rfl, by rw [upd_ne (Ne.symm n53)]; exact h32, small1000 (by omega), ?_⟩
        refine ⟨smOver n3 (smOver m5 sm2), us3 ++ [.ref tl], _, _, rfl, upd_same, ?_, ?_, ?_⟩
        · rw [tA]
          exact pairedSnoc hT3 ⟨tl, rfl, htl⟩
        · rw [upd_ne n43, upd_ne (Ne.symm n54)]
          exact e4
        · rw [upd_ne n53, upd_same]
      rintro σ G3 ⟨sm3, us3, t1, t6, rfl, h3, hT3, h4, h5⟩
      have tw : (alot L ord).take ys.length = alot L ord := by rw [lys, List.take_of_length_le (by omega)]
      rw [tw] at hT3
      rw [lys, List.take_length] at h5
      rw [lys] at h4
      have l3 : us3.length = L.length := by rw [Paired.length hT3, al]
      obtain ⟨N0, eN⟩ : ∃ N0, N0 = numsL L := ⟨_, rfl⟩
      have nlen : N0.length ≤ 30 := by rw [eN]; exact nums_len
      have nasc : N0.Pairwise (· < ·) := by rw [eN]; exact nums_asc
      obtain ⟨P0, eP⟩ : ∃ P0 : List (Option Nat), P0 = (List.range ord.length).map fun k => lastM (alot L ord) (L.getD (ord.getD k 0) []) k := ⟨_, rfl⟩
      have lP : P0.length = L.length := by rw [eP, List.length_map, List.length_range, ol]
      rw [← eP] at h4
      intro p7 n7
      have n74 : p7 ≠ p4 := fun z => by rw [z, h4] at n7; cases n7
      have n73 : p7 ≠ p3 := fun z => by rw [z, h3] at n7; cases n7
      have n75 : p7 ≠ p5 := fun z => by rw [z, h5] at n7; cases n7
      have S7 := smUpd (o := .dK []) n7
      have m7 : H2 p7 = none := by
        cases q : H2 p7 with
        | none => rfl
        | some o => rw [sm3 _ _ q] at n7; cases n7
      have sm7 := sm3.trans S7
      have h37 := S7 _ _ h3
      have h47 := S7 _ _ h4
      have h57 := S7 _ _ h5
      have h77 : upd G3 p7 (.dK []) p7 = some (.dK []) := upd_same
      generalize upd G3 p7 (.dK []) = G7 at sm7 h37 h47 h57 h77 ⊢
      refine ⟨_, rfl, a, rfl, ⟨_, .inl (.inl (sm7 _ _ ha2))⟩, fun D2 nD2 => ?_⟩
      refine anyWalk (walk_tup (xs := us)) (fun m G => Same G7 G ∧ ∃ ks : List Nat, G D2 = some (.dK (ones ks)) ∧ ks.Nodup ∧ ∀ x, x ∈ ks ↔ ∃ lot ∈ L.take m, x ∈ lot) ⟨smUpd nD2, [], upd_same, List.nodup_nil, fun x => ⟨(fun z => nomatch z), (fun ⟨_, z, _⟩ => nomatch z)⟩⟩ (fun m G _ z => .inl (.inl (z.1 _ _ (sm7 _ _ ha2)))) ?_ ?_
      · rintro m x G G' hm ⟨sm, ks, hD, hks, hmem⟩ ⟨rfl, hx⟩
        obtain ⟨lot, hlot, tl, rfl, htl⟩ := pairGetT hT2 hx
        have lasc := ok.asc lot (List.mem_of_getElem? hlot)
        have llt := ok.lt lot (List.mem_of_getElem? hlot)
        have lim := nsl lot (List.mem_of_getElem? hlot)
        refine ⟨rfl, ?_⟩
        show tYes _ _ _
        refine ⟨_, rfl, tl, rfl, ⟨_, tnL (sm _ _ (sm7 _ _ htl))⟩, ?_⟩
        have hall : ∀ x ∈ ks, x < 30 := fun x hx => let ⟨lot, h1, h2⟩ := (hmem x).mp hx; ok.lt lot (List.mem_of_mem_take h1) x h2
        refine anyWalk (walk_tup (xs := lot.map vn)) (fun j J => Same G7 J ∧ ∃ ks : List Nat, J D2 = some (.dK (ones ks)) ∧ ks.Nodup ∧ (∀ x ∈ ks, x < 30) ∧ ∀ x, x ∈ ks ↔ (∃ lot ∈ L.take m, x ∈ lot) ∨ x ∈ lot.take j) ⟨sm, ks, hD, hks, hall, fun x => by rw [hmem x, List.take_zero]; exact ⟨.inl, fun z => z.elim id fun q => nomatch q⟩⟩ (fun j J _ z => tnL (z.1 _ _ (sm7 _ _ htl))) ?_ ?_
        · rintro j x J J' hj ⟨smj, ks, hD, hks, hlt, hmem⟩ ⟨rfl, hx⟩
          obtain ⟨y, hy, rfl⟩ := vn_get hx
          have kl : ks.length ≤ 30 := lenLt hks hlt
          refine ⟨rfl, ?_⟩
          show tYes _ _ _
          refine ⟨_, rfl, ones ks, (Sum.inl ((y : Nat) : Int) : L2.Key), rfl, hD, small1000 (by rw [ones_len]; omega), ?_⟩
          rw [ones_add]
          refine ⟨smOver nD2 smj, addN ks y, upd_same, addN_nd hks, fun x hx => ?_, fun x => ?_⟩
          · rcases addN_mem.mp hx with e | h
            · rw [e]; exact llt y (List.mem_of_getElem? hy)
            · exact hlt x h
          · rw [addN_mem, hmem x, List.take_add_one, hy, List.mem_append]
            show _ ↔ _ ∨ (_ ∨ x ∈ [y])
            rw [List.mem_singleton]
            exact ⟨fun z => z.elim (fun e => .inr (.inr e)) fun z => z.elim .inl fun q => .inr (.inl q), fun z => z.elim (fun q => .inr (.inl q)) fun z => z.elim (fun q => .inr (.inr q)) .inl⟩
        · rintro J ⟨smj, ks, hD, hks, hlt, hmem⟩
          rw [List.length_map, List.take_length] at hmem
          refine ⟨smj, ks, hD, hks, fun x => ?_⟩
          rw [hmem x, List.take_add_one, hlot]
          show _ ↔ ∃ l ∈ L.take m ++ [lot], x ∈ l
          constructor
          · rintro (⟨l, h1, h2⟩ | h)
            · exact ⟨l, List.mem_append_left _ h1, h2⟩
            · exact ⟨lot, List.mem_append_right _ List.mem_cons_self, h⟩
          · rintro ⟨l, h1, h2⟩
            rcases List.mem_append.mp h1 with h1 | h1
            · exact .inl ⟨l, h1, h2⟩
            · rw [List.mem_singleton.mp h1] at h2; exact .inr h2
      rintro G8 ⟨sm8, ks, hD2, hks, hmem⟩
      rw [lu, List.take_length] at hmem
      have hlt : ∀ x ∈ ks, x < 30 := fun x hx => let ⟨lot, h1, h2⟩ := (hmem x).mp hx; ok.lt lot h1 x h2
      have kl : ks.length ≤ 30 := lenLt hks hlt
      refine ⟨D2, ones ks, ks.map (fun k => ((k : Nat) : Int)), rfl, .inl hD2, by rw [List.map_map]; unfold ones; rw [List.map_map]; rfl, by rw [List.length_map]; omega, fun zs q perm asc nq => ?_⟩
      obtain ⟨ms, rfl, masc, mm⟩ := sortNat hks hlt perm asc
      obtain rfl : N0 = ms := (ascExt masc nasc fun x => by rw [mm, hmem x, eN, nums_mem ok]).symm
      rw [← natIntS]
      have S9 := smUpd (o := .lst (N0.map vn)) nq
      have hq9 : upd G8 q (.lst (N0.map vn)) q = some (.lst (N0.map vn)) := upd_same
      have sm9 := (sm7.trans sm8).trans S9
      have h39 := S9 _ _ (sm8 _ _ h37)
      have h49 := S9 _ _ (sm8 _ _ h47)
      have h59 := S9 _ _ (sm8 _ _ h57)
      have h79 := S9 _ _ (sm8 _ _ h77)
      generalize upd G8 q (.lst (N0.map vn)) = G9 at hq9 sm9 h39 h49 h59 h79 ⊢
      have q4 : q ≠ p4 := fun z => by rw [z, sm8 _ _ h47] at nq; cases nq
      have q7 : q ≠ p7 := fun z => by rw [z, sm8 _ _ h77] at nq; cases nq
      refine ⟨q, rfl, ⟨_, .inl (.inl hq9)⟩, ?_⟩
      refine for_list (K := K) (a := q) (xs := N0.map vn) (fun m σ G => Same H2 G ∧ ∃ (t8 : Option V), σ = [some (.ref a), t1, some (.ref o), some (.ref p3), some (.ref p4), some (.ref p5), t6, some (.ref p7), t8, none, none] ∧ G p3 = some (.lst us3) ∧ G p5 = some (.dK (keyed 0 ord)) ∧ G q = some (.lst (N0.map vn)) ∧ G p4 = some (.lst ((P0 ++ (N0.take m).map fun x => lastM (alot L ord) [x] ord.length).map vp)) ∧ G p7 = some (.dK (keyed L.length (N0.take m))))
        ⟨sm9, none, rfl, h39, h59, hq9, by rw [List.take_zero, List.map_nil, List.append_nil]; exact h49, h79⟩ (fun m σ G _ z => by
          obtain ⟨_, _, _, _, _, z, _⟩ := z
          exact .inl (.inl z)) ?_ ?_
      · rintro m v σ G hv ⟨sm, t8, rfl, g3, g5, gq, g4, g7⟩
        obtain ⟨x, hx, rfl⟩ := vn_get hv
        have hm := (List.getElem?_eq_some_iff.mp hx).1
        have lt : (N0.take m).length = m := by rw [List.length_take]; omega
        have lp4 : (P0 ++ (N0.take m).map fun x => lastM (alot L ord) [x] ord.length).length = L.length + m := by rw [List.length_append, List.length_map, lP, lt]
        refine ⟨_, rfl, p4, _, rfl, .inl (.inl (.inl g4)), _, rfl, _, rfl, p7, _, rfl, DPut.k (k := (Sum.inl ((x : Nat) : Int) : L2.Key)) g7 (small1000 (by rw [keyed_len, lt]; omega)), ?_⟩
        have ek : putK (keyed L.length (N0.take m)) (Sum.inl ((x : Nat) : Int) : L2.Key) (V.int (((P0 ++ (N0.take m).map fun x => lastM (alot L ord) [x] ord.length).map vp).length : Int)) = keyed L.length (N0.take (m + 1)) := by
          rw [List.length_map, lp4, List.take_add_one, hx]
          have := keyed_put (c := L.length) (x := x) (nd_take (nasc.imp fun h => Nat.ne_of_lt h) hx)
          rw [lt] at this
          exact this
        rw [ek]
        have sm1 : Same H2 (upd G p7 (.dK (keyed L.length (N0.take (m + 1))))) := smOver m7 sm
        have f3 : upd G p7 (.dK (keyed L.length (N0.take (m + 1)))) p3 = some (.lst us3) := by rw [upd_ne (Ne.symm n73)]; exact g3
        have f4 : upd G p7 (.dK (keyed L.length (N0.take (m + 1)))) p4 = _ := (upd_ne (Ne.symm n74)).trans g4
        have f5 : upd G p7 (.dK (keyed L.length (N0.take (m + 1)))) p5 = _ := (upd_ne (Ne.symm n75)).trans g5
        have fq : upd G p7 (.dK (keyed L.length (N0.take (m + 1)))) q = _ := (upd_ne q7).trans gq
        have f7 : upd G p7 (.dK (keyed L.length (N0.take (m + 1)))) p7 = some (.dK (keyed L.length (N0.take (m + 1)))) := upd_same
        generalize upd G p7 (.dK (keyed L.length (N0.take (m + 1)))) = G1 at sm1 f3 f4 f5 fq f7 ⊢
        refine ⟨_, rfl, .inl ⟨rfl, _, .inl (.inl f4)⟩, _, rfl, _, rfl, by show 1 ≤ sizeLine; decide, fun u nu => ?_⟩
        have Su := smUpd (o := .tup [vn x]) nu
        have hu1 : TN (upd G1 u (.tup [vn x])) u [x] := upd_same
        have sm2 := sm1.trans Su
        refine ⟨p3, u, us3, alot L ord, [x], rfl, Su _ _ f3, tbSame sm2 hT3, hu1, by omega, by show 1 ≤ 60; decide, fun G2 s2 => ?_⟩
        have Sv := Su.trans s2
        refine ⟨p4, _, _, rfl, rfl, Sv _ _ f4, small1000 (by rw [List.length_map, lp4]; omega), ?_⟩
        refine ⟨smOver m4 (sm1.trans Sv), _, rfl, (upd_ne (Ne.symm n43)).trans (Sv _ _ f3), (upd_ne n54).trans (Sv _ _ f5), (upd_ne q4).trans (Sv _ _ fq), ?_, (upd_ne n74).trans (Sv _ _ f7)⟩
        rw [upd_same, List.take_add_one, hx, al, ol]
        simp only [List.map_append, Option.toList_some, List.map_cons, List.map_nil, List.append_assoc]
      rintro σ G ⟨sm, t8, rfl, g3, g5, gq, g4, g7⟩
      rw [List.length_map, List.take_length] at g4 g7
      have epar : P0 ++ N0.map (fun x => lastM (alot L ord) [x] ord.length) = parF L ord := by rw [eP, eN]; rfl
      rw [epar] at g4
      have ga := sm _ _ ha2
      refine ⟨_, rfl, a, us, rfl, .inr (.inl (.inl ga)), (us.length : Int), rfl, by omega, by omega, fun D3 nD3 => ?_⟩
      rw [Int.toNat_natCast, lu]
      refine lc_range (lo := 0) (n := L.length) (fun m J => Same G J ∧ J D3 = some (.lst (((List.range m).map fun i => ord.idxOf i).map vn))) ⟨smUpd nD3, upd_same⟩ ?_ ?_
      · rintro m J hm ⟨smj, hD⟩
        rw [show (0 : Int) + (m : Int) = (m : Int) from Int.zero_add _]
        refine ⟨rfl, ?_⟩
        show tYes _ _ _
        have g := keyed_get m (c := 0) (ks := ord)
        rw [if_pos ((ord_mem oo).mpr hm), Nat.zero_add] at g
        refine ⟨_, rfl, _, rfl, p5, vn (ord.idxOf m), rfl, g ▸ DGet.k (k := (Sum.inl ((m : Nat) : Int) : L2.Key)) (smj _ _ g5), _, hD, small1000 (by rw [List.length_map, List.length_map, List.length_range]; omega), smOver nD3 smj, ?_⟩
        rw [upd_same, List.range_succ, List.map_append, List.map_append]
        rfl
      rintro J ⟨smj, hD⟩
      rw [show (List.range L.length).map (fun i => ord.idxOf i) = plF L ord from rfl] at hD
      have lpl : (plF L ord).length = L.length := by unfold plF; rw [List.length_map, List.length_range]
      refine ⟨D3, _, rfl, .inl ⟨.inl (.inl hD), fun p9 n9 => ?_⟩⟩
      have T1 := smj.trans (smUpd (o := .tup ((plF L ord).map vn)) n9)
      have k9 : upd J p9 (.tup ((plF L ord).map vn)) p9 = some (.tup ((plF L ord).map vn)) := upd_same
      generalize upd J p9 (.tup ((plF L ord).map vn)) = J1 at T1 k9 ⊢
      -- the forest's parts
      refine ⟨_, rfl, p4, _, rfl, .inl ⟨.inl (.inl (T1 _ _ g4)), fun r4 nr4 => ?_⟩⟩
      have T2 := T1.trans (smUpd (o := .tup ((parF L ord).map vp)) nr4)
      have k9' := smUpd (o := .tup ((parF L ord).map vp)) nr4 _ _ k9
      have kr4 : upd J1 r4 (.tup ((parF L ord).map vp)) r4 = some (.tup ((parF L ord).map vp)) := upd_same
      generalize upd J1 r4 (.tup ((parF L ord).map vp)) = J2 at T2 k9' kr4 ⊢
      refine ⟨_, rfl, p9, (plF L ord).map (fun k => ((k : Nat) : Int)), rfl, .inl (.inl (by rw [← natIntS]; exact k9')), by rw [List.length_map]; omega, fun zs u1 perm asc nu1 => ?_⟩
      obtain rfl : zs = (List.range L.length).map fun k => ((k : Nat) : Int) := sortVn (perm.trans ((plF_perm oo).map _)) asc List.pairwise_lt_range
      rw [← natIntS]
      have U1 := smUpd (o := .lst ((List.range L.length).map vn)) nu1
      refine ⟨u1, _, rfl, .inl ⟨.inl (.inl upd_same), fun r5 nr5 => ?_⟩⟩
      have U2 := U1.trans (smUpd (o := .tup ((List.range L.length).map vn)) nr5)
      have T3 := T2.trans U2
      have k9'' := U2 _ _ k9'
      have kr4' := U2 _ _ kr4
      have kr5 : upd (upd J2 u1 (.lst ((List.range L.length).map vn))) r5 (.tup ((List.range L.length).map vn)) r5 = some (.tup ((List.range L.length).map vn)) := upd_same
      generalize upd (upd J2 u1 (.lst ((List.range L.length).map vn))) r5 (.tup ((List.range L.length).map vn)) = J3 at T3 k9'' kr4' kr5 ⊢
      have g7' := T3 _ _ g7
      refine ⟨_, rfl, .inr (.inr (.inl ⟨rfl, .inl ⟨_, g7'⟩⟩)), p7, _, rfl, rfl, .inl g7', fun vw nvw => ?_⟩
      have V1 := smUpd (o := vwO vw p7) nvw
      refine ⟨vw, p7, _, ((List.range N0.length).map fun j => L.length + j).map (fun k => ((k : Nat) : Int)), rfl, upd_same, .inl (V1 _ _ g7'), by rw [keyed_snd, natIntS], by rw [List.length_map, List.length_map, List.length_range]; omega, fun zs u2 perm asc nu2 => ?_⟩
      obtain rfl : zs = ((List.range N0.length).map fun j => L.length + j).map fun k => ((k : Nat) : Int) := sortVn perm asc (List.pairwise_map.mpr (List.pairwise_lt_range.imp fun h => by omega))
      rw [← natIntS]
      have V2 := V1.trans (smUpd (o := .lst (((List.range N0.length).map fun j => L.length + j).map vn)) nu2)
      refine ⟨u2, _, rfl, .inl ⟨.inl (.inl upd_same), fun r6 nr6 => ?_⟩⟩
      have V3 := V2.trans (smUpd (o := .tup (((List.range N0.length).map fun j => L.length + j).map vn)) nr6)
      have T4 := T3.trans V3
      have k9a := V3 _ _ k9''
      have kr4a := V3 _ _ kr4'
      have kr5a := V3 _ _ kr5
      have kr6a : upd (upd (upd J3 vw (vwO vw p7)) u2 (.lst (((List.range N0.length).map fun j => L.length + j).map vn))) r6 (.tup (((List.range N0.length).map fun j => L.length + j).map vn)) r6 = some (.tup (((List.range N0.length).map fun j => L.length + j).map vn)) := upd_same
      generalize upd (upd (upd J3 vw (vwO vw p7)) u2 (.lst (((List.range N0.length).map fun j => L.length + j).map vn))) r6 (.tup (((List.range N0.length).map fun j => L.length + j).map vn)) = J4 at T4 k9a kr4a kr5a kr6a ⊢
      intro x dx nx ndx nex
      have W1 := smUpd (o := .own x) ndx
      have nx1 : (upd J4 dx (.own x)) x = none := by rw [upd_ne (Ne.symm nex)]; exact nx
      have W2 := W1.trans (smUpd (o := .ins C dx []) nx1)
      refine ⟨x, dx, r4, r5, r6, foT L ord, rfl, upd_same, W2 _ _ kr4a, W2 _ _ kr5a, ?_, foT_ok ok oo, fun J7 hF kp => ⟨rfl, ?_⟩⟩
      · rw [eN] at kr6a
        exact W2 _ _ kr6a
      have T5 : Same J4 J7 := fun b o z => kp b o (fun y => by rw [y, nx] at z; cases z) (W2 _ _ z)
      refine ⟨_, rfl, _, rfl, by show 3 ≤ sizeLine; decide, fun r nr => ?_⟩
      have T6 := T5.trans (smUpd (o := .tup [.ref x, .ref p9, .ref p7]) nr)
      have T7 := T4.trans T6
      have H7 : H p7 = none := by
        cases q0 : H p7 with
        | none => rfl
        | some o => rw [S2 _ _ (s1 _ _ q0)] at m7; cases m7
      refine kS cr ord r x p9 p7 _ oo (s1.trans (S2.trans (sm.trans T7))) upd_same (foAt_same (smUpd nr) hF) (T6 _ _ k9a) ?_ H7
      rw [T7 _ _ g7, eN]
      rfl
end
end Cn
namespace Cn
open PySem PySem.Spec PyProof.Rows L2 Ck
theorem kdTy {K : PySem.W.Frag} {H : Hp} {a : Addr} {kvs : List (L2.Key × V)} (h : H a = some (.dK kvs)) : TyX K H (.ref a) (.type "dict") := .base (.dK h)
theorem replB {n : Nat} : (List.replicate n true).all id = true := by rw [List.all_eq_true]; intro b hb; rw [List.eq_of_mem_replicate hb]; rfl
theorem sameBackS {H H' : Hp} {d : Addr} {u : HO} (k : Kept d H H') (h : H d = some u) : Same H (upd H' d u) := fun c o e => by
  by_cases z : c = d
  · rw [z] at e ⊢
    rw [h] at e
    rw [upd_same, e]
  · rw [upd_ne z]
    exact k c o z e
theorem flatLen : ∀ {L : List (List Nat)}, (∀ ns ∈ L, ns.length ≤ 30) → ((L.map fun (ns : List Nat) => ns.map fun (k : Nat) => ((k : Nat) : Int)).flatten).length ≤ 30 * L.length
  | [], _ => Nat.le_refl _
  | ns :: L, h => by
    rw [List.map_cons, List.flatten_cons, List.length_append, List.length_map, List.length_cons]
    have h1 := h ns List.mem_cons_self
    have h2 := flatLen fun ms hm => h ms (List.mem_cons_of_mem _ hm)
    omega
theorem flatMem {L : List (List Nat)} {k : Int} : k ∈ (L.map fun (ns : List Nat) => ns.map fun (k : Nat) => ((k : Nat) : Int)).flatten ↔ ∃ x : Nat, (∃ lot ∈ L, x ∈ lot) ∧ k = (x : Int) := by
  rw [List.mem_flatten]
  constructor
  · rintro ⟨l, hl, hk⟩
    obtain ⟨ns, hns, rfl⟩ := List.mem_map.mp hl
    obtain ⟨x, hx, e⟩ := List.mem_map.mp hk
    exact ⟨x, ⟨ns, hns, hx⟩, e.symm⟩
  · rintro ⟨x, ⟨lot, h1, h2⟩, rfl⟩
    exact ⟨_, List.mem_map.mpr ⟨lot, h1, rfl⟩, List.mem_map.mpr ⟨x, h2, rfl⟩⟩
theorem ascI {zs : List Int} {ns : List Nat} (hz : zs.Pairwise (· < ·)) (hn : ns.Pairwise (· < ·)) (h : ∀ k : Int, k ∈ zs ↔ ∃ x : Nat, x ∈ ns ∧ k = (x : Int)) : zs = ns.map fun k => ((k : Nat) : Int) := by
  refine sortVn ((List.perm_ext_iff_of_nodup (hz.imp fun h => Int.ne_of_lt h) (List.pairwise_map.mpr (hn.imp fun h e => by omega))).mpr fun k => ?_) (hz.imp fun h => Int.le_of_lt h) hn
  rw [h k, List.mem_map]
  exact ⟨fun ⟨x, a, b⟩ => ⟨x, a, b.symm⟩, fun ⟨x, a, b⟩ => ⟨x, a, b.symm⟩⟩
/-- what was made of a table -/
structure ForMade (C : Addr) (H : Hp) (r F pl d : Addr) (L : List (List Nat)) (ord : List Nat) : Prop where
  r : H r = some (.tup [.ref F, .ref pl, .ref d])
  F : FoAt C H F (foT L ord)
  pl : TN H pl (plF L ord)
  d : H d = some (.dK (askF L))
section
variable {P : Program} {w : World} {K : PySem.W.Frag} {mg : Str → Option Value} {base : Heap} {C : Addr}
def spLIsForO (C : Addr) : Sp := fun vs H Q _ => ∃ (a r F pl d : Addr) (us : List V) (L : List (List Nat)) (ord : List Nat), vs = [.ref a, .ref r] ∧ H a = some (.tup us) ∧ TbR H us L ∧ TbOk L ∧ crossTo L L.length = none ∧ OrdOk L ord ∧ ForMade C H r F pl d L ord ∧ ∀ H', Same H H' → Q (.bl true) H'
def nLIsForO : List Str := ["_law_lots", "_law_thing", "_law_made", "_law_bearers", "_law_askers", "_law_place", "_law_numbers", "_law_places", "_law_number", "_law_road_here", "_law_lot_here", "_law_one"]
theorem scLIsForO : FnScope nLIsForO ["_law_lots", "_law_thing"] (defScope sLIsForO) := ⟨rfl, rfl, rfl, by decide +kernel, rfl, by decide +kernel, by decide +kernel⟩
theorem dLIsForO (B : Defs K mg C) : Def P w K mg base "_law_is_forest_of" 2 ["_law_lots", "_law_thing"] (spLIsForO C) := by
  obtain ⟨fR, fdR, GR, gR, kR, bR⟩ := dRoad (P := P) (w := w) (base := base) B
  obtain ⟨fI, fdI, GI, gI, kI, bI⟩ := dLIsInt (P := P) (w := w) (base := base) B
  have N := B.N
  have T := B.T
  have nd := scLIsForO.nd
  refine def_of B.lifo fun f fd F => ?_
  refine F.ok scLIsForO (fun vs H Q E h => ?_) (fun cdv A outer s H vs Q E hr h => ?_)
  · obtain ⟨a, r, F, pl, d, us, L, ord, rfl, _⟩ := h
    rfl
  · obtain ⟨a, r, F, pl, d, us, L, ord, rfl, ha, hT, ok, no, oo, M, k⟩ := h
    have hu := hu_of hr
    refine ⟨_, pss_cons (ps_if (PW.pt (pw_or (pt_not (pt_val (pe_callB call_isi (by rfl) N.is.inst (by decide +kernel) (pa_cons (pv 1) (pa_cons (pe_bltn (v := .ty "tuple") (by rfl) N.is.tup (by decide +kernel) rfl) pa_nil)))))
        (pw_or (pt_cmpR op_ne (pe_callB call_len_seq (by rfl) N.is.len PySem.boot_len (pa_cons (pv 1) pa_nil)) pe_int (nomark _))
        (pw_or1 (pt_not (pt_val (pe_callB call_isi (by rfl) N.is.inst (by decide +kernel) (pa_cons (pe_ix ix_tup (pv 1) pe_int (fun _ _ => rfl)) (pa_cons (pe_glob (v := .ref C) (by rfl) T.mgC rfl) pa_nil)))))))))
        (pss_one ps_never) pss_nil)
      (pss_cons (ps_asg (pv 1) (pg_tup rfl (pgs_cons (pg_name (i := 2) nd rfl (Or.inr rfl)) (pgs_cons (pg_name (i := 3) nd rfl (Or.inl rfl)) (pgs_cons (pg_name (i := 4) nd rfl (Or.inl rfl)) pgs_nil)))))
      (pss_cons (ps_if (PW.pt (pw_or (pt_not (pt_val (pe_callB call_isi (by rfl) N.is.inst (by decide +kernel) (pa_cons (pv 3) (pa_cons (pe_bltn (v := .ty "tuple") (by rfl) N.is.tup (by decide +kernel) rfl) pa_nil)))))
        (pw_or (pt_cmpR op_ne (pe_callB call_len_seq (by rfl) N.is.len PySem.boot_len (pa_cons (pv 3) pa_nil)) (pe_callB call_len_seq (by rfl) N.is.len PySem.boot_len (pa_cons (pv 0) pa_nil)) (nomark _))
        (pw_or1 (pt_cmpR op_ne (pe_callB cr_lenSetO (by rfl) N.is.len PySem.boot_len (pa_cons (pe_callTy (r := rSetIT K w) (cr_setIT rfl) (by rfl) B.zSet (by decide +kernel) (pa_cons (pv 3) pa_nil)) pa_nil)) (pe_callB call_len_seq (by rfl) N.is.len PySem.boot_len (pa_cons (pv 0) pa_nil)) (nomark _))))))
        (pss_one ps_never) pss_nil)
      (pss_cons (ps_if (pt_not (pt_val (pe_callB (r := rAll K) (cr_all rfl) (by rfl) N.is.all (by decide +kernel) (pa_cons (pe_lc (own := [("_law_place", 5)]) (g := gName 5) (tt := tYes) (te := tAndV (tCall spLIsInt [] (fun _ _ _ => False) (tCons (tVar 5) (tCons (tC (.int 0)) (tCons (tC (.int 99)) tNil)))) (tOp (rIn K false) (tVar 5) (tFld K (tVar 2) "bearing"))) rfl nd (pi_tup (pv 3))
          (blkOk_by (N := nLIsForO) (sc := defScope sLIsForO) (by decide +kernel)) (fun _ _ _ _ _ => pg_name (i := 5) nd rfl (Or.inl rfl)) (fun _ _ _ _ _ => pts_nil)
          (fun _ _ _ _ _ => pe_and (pe_call GI hr (by rfl) gI kI bI .nil pass0 (pa_cons (pv 5) (pa_cons pe_int (pa_cons pe_int pa_nil)))) (pe_one (pe_cmpR op_in_seq (pv 5) (pe_fld (pv 2) rfl) (by rfl))))) pa_nil)))) (pss_one ps_never) pss_nil)
      (pss_cons (ps_set (i := 6) nd rfl (Or.inl rfl) (pe_callB (r := rSortedSet w) (cr_sortedSet rfl) (by rfl) N.sorted (by decide +kernel) (pa_cons (pe_callTy (r := rSetIT K w) (cr_setIT rfl) (by rfl) B.zSet (by decide +kernel) (pa_cons (pe_callB (cr_sumT rfl) (by rfl) B.zSum (by decide +kernel) (pa_cons (pv 0) (pa_cons (pe_tup pa_nil) pa_nil))) pa_nil)) pa_nil)))
      (pss_cons (ps_if (PW.pt (pw_or (pt_not (pt_val (pe_callB call_isi (by rfl) N.is.inst (by decide +kernel) (pa_cons (pv 4) (pa_cons (pe_bltn (v := .ty "dict") (by rfl) B.zDict (by decide +kernel) rfl) pa_nil)))))
        (pw_or1 (pt_not (pt_val (pe_callB (r := rAll K) (cr_all rfl) (by rfl) N.is.all (by decide +kernel) (pa_cons (pe_lock (pe_lc (own := [("_law_one", 11)]) (g := gName 11) (tt := tYes) (te := tCall spLIsInt [] (fun _ _ _ => False) (tCons (tVar 11) (tCons (tC (.int 0)) (tCons (tC (.int 29)) tNil)))) rfl nd (pi_keys (pv 4))
          (blkOk_by (N := nLIsForO) (sc := defScope sLIsForO) (by decide +kernel)) (fun _ _ _ _ _ => pg_name (i := 11) nd rfl (Or.inl rfl)) (fun _ _ _ _ _ => pts_nil)
          (fun _ _ _ _ _ => pe_call GI hr (by rfl) gI kI bI .nil pass0 (pa_cons (pv 11) (pa_cons pe_int (pa_cons pe_int pa_nil)))))) pa_nil))))))) (pss_one ps_never) pss_nil)
      (pss_cons (ps_if (pt_cmpR (op_neD hr.units) (pe_callB (r := rSorted K) cr_sorted (by rfl) N.sorted (by decide +kernel) (pa_cons (pe_callTy (call_listD rfl) (by rfl) N.is.lst (by decide +kernel) (pa_cons (pv 4) pa_nil)) pa_nil)) (pv 6) (nomark _)) (pss_one ps_never) pss_nil)
      (pss_cons (ps_set (i := 7) nd rfl (Or.inl rfl) (pe_callTy (cr_listDV rfl) (by rfl) N.is.lst (by decide +kernel) (pa_cons (pe_dvals (pv 4)) pa_nil)))
      (pss_cons (ps_if (PW.pt (pw_or (pt_cmpR op_ne (pe_callB cr_lenSetO (by rfl) N.is.len PySem.boot_len (pa_cons (pe_callTy (r := rSetIT K w) (cr_setIT rfl) (by rfl) B.zSet (by decide +kernel) (pa_cons (pv 7) pa_nil)) pa_nil)) (pe_callB call_len_seq (by rfl) N.is.len PySem.boot_len (pa_cons (pv 7) pa_nil)) (nomark _))
        (pw_or1 (pt_not (pt_val (pe_callB (r := rAll K) (cr_all rfl) (by rfl) N.is.all (by decide +kernel) (pa_cons (pe_lc (own := [("_law_place", 5)]) (g := gName 5) (tt := tYes) (te := tCall spLIsInt [] (fun _ _ _ => False) (tCons (tVar 5) (tCons (tC (.int 0)) (tCons (tC (.int 99)) tNil)))) rfl nd (pi_list (pv 7))
          (blkOk_by (N := nLIsForO) (sc := defScope sLIsForO) (by decide +kernel)) (fun _ _ _ _ _ => pg_name (i := 5) nd rfl (Or.inl rfl)) (fun _ _ _ _ _ => pts_nil)
          (fun _ _ _ _ _ => pe_call GI hr (by rfl) gI kI bI .nil pass0 (pa_cons (pv 5) (pa_cons pe_int (pa_cons pe_int pa_nil))))) pa_nil))))))) (pss_one ps_never) pss_nil)
      (pss_cons (ps_for PassesOwn.never rfl (pi_list (pv 6)) (pg_name (i := 8) nd rfl (Or.inl rfl))
        (pss_cons (ps_if (pt_cmpR op_notIn_seq (pe_dget hu (pv 4) (pv 8) (fun _ _ => rfl)) (pe_fld (pv 2) rfl) (by rfl)) (pss_one ps_never) pss_nil)
        (pss_cons (ps_set (i := 9) nd rfl (Or.inl rfl) (pe_call GR hr (by rfl) gR kR bR .nil pass0 (pa_cons (pe_fld (pv 2) rfl) (pa_cons (pe_dget hu (pv 4) (pv 8) (fun _ _ => rfl)) pa_nil))))
        (pss_one (ps_for PassesOwn.never rfl (RZ.pi_zipA (by rfl) N.is.zip (pa_cons (pv 0) (pa_cons (pv 3) pa_nil))) (pg_tup rfl (pgs_cons (pg_name (i := 10) nd rfl (Or.inl rfl)) (pgs_cons (pg_name (i := 5) nd rfl (Or.inl rfl)) pgs_nil)))
          (pss_one (ps_if (pt_cmpR op_ne (pe_cmpR op_in_seq (pv 5) (pv 9) (by rfl)) (pe_cmpR op_in_seq (pv 8) (pv 10) (by rfl)) (nomark _)) (pss_one ps_never) pss_nil)))))))
      (pss_one (ps_ret pe_bl))))))))))), ?_⟩
    obtain ⟨mr, mF, mpl, md⟩ := M
    obtain ⟨dx, ap, ab, aa, h0, h1, h2, h3⟩ := id mF
    have lu : us.length = L.length := Paired.length hT
    have l0 := ok.l0
    have l1 := ok.l1
    have ol := ord_len oo
    obtain ⟨N0, eN⟩ : ∃ N0, N0 = numsL L := ⟨_, rfl⟩
    have nlen : N0.length ≤ 30 := by rw [eN]; exact nums_len
    have nasc : N0.Pairwise (· < ·) := by rw [eN]; exact nums_asc
    have nmem : ∀ x, x ∈ N0 ↔ ∃ lot ∈ L, x ∈ lot := fun x => by rw [eN]; exact nums_mem ok
    have n30 : ∀ x ∈ N0, x < 30 := fun x hx => let ⟨lot, a, b⟩ := (nmem x).mp hx; ok.lt lot a x b
    have lpl : (plF L ord).length = L.length := by unfold plF; rw [List.length_map, List.length_range]
    have plt : ∀ x, x ∈ plF L ord ↔ x < L.length := fun x => by rw [(plF_perm oo).mem_iff, List.mem_range]
    have eA : askF L = keyed L.length N0 := by rw [eN]; rfl
    rw [eA] at md
    have ebe : (foT L ord).be = List.range L.length := rfl
    have eas : (foT L ord).as = (List.range N0.length).map fun j => L.length + j := by rw [eN]; rfl
    -- the first test
    refine ⟨_, rfl, _, .ty "tuple", _, _, true, rfl, .ty _, tupTy mr, kit_ty (by decide +kernel), true, rfl, ?_⟩
    refine ifF (by decide) ?_
    refine ⟨_, rfl, r, _, rfl, .inr (.inl (.inl mr)), rfl, _, rfl, ?_⟩
    refine ifF (by show ¬ (!decide (V.int ((3 : Nat) : Int) = V.int 3)) = true; decide) ?_
    refine ⟨_, rfl, r, _, (0 : Int), _, rfl, rfl, .inl (.inl mr), rfl, _, .ref C, _, _, true, rfl, .own C, .base (.ins h0 T.cl B.ty5.1 B.ty5.2.1 B.ty5.2.2.1 B.ty5.2.2.2), kitSelf, true, rfl, ?_⟩
    refine ifF (by decide) ?_
    refine ⟨_, rfl, r, _, rfl, .inl (.inl mr), rfl, _, _, rfl, _, _, rfl, _, _, rfl, rfl, ?_⟩
    -- the amounts' places
    refine ⟨_, rfl, _, .ty "tuple", _, _, true, rfl, .ty _, tupTy mpl, kit_ty (by decide +kernel), true, rfl, ?_⟩
    refine ifF (by decide) ?_
    refine ⟨_, rfl, pl, _, rfl, .inr (tnL mpl), _, rfl, a, _, rfl, .inr (.inl (.inl ha)), rfl, _, rfl, ?_⟩
    refine ifF (by rw [List.length_map, lpl, lu, decide_eq_true rfl]; decide) ?_
    refine ⟨_, rfl, pl, (plF L ord).map (fun k => ((k : Nat) : Int)), rfl, .inr (by rw [← natIntS]; exact tnL mpl), by rw [List.length_map]; omega, fun p1 c1 ks np1 knd kmem kc => ?_⟩
    have ec1 : c1 = L.length := by
      rw [← kc, ← lpl, ← List.length_map (f := fun (k : Nat) => ((k : Nat) : Int)) (as := plF L ord)]
      refine List.Perm.length_eq ((List.perm_ext_iff_of_nodup knd ?_).mpr kmem)
      exact List.pairwise_map.mpr (((plF_perm oo).nodup_iff.mpr List.nodup_range).imp fun h e => h (by omega))
    have S1 := smUpd (o := SetO w p1 (fun j => decide (j ∈ (plF L ord).map fun k => ((k : Nat) : Int))) c1) np1
    refine ⟨p1, _, c1, rfl, upd_same, _, rfl, a, _, rfl, .inr (.inl (.inl (S1 _ _ ha))), rfl, _, rfl, ?_⟩
    refine ifF (by rw [ec1, lu, decide_eq_true rfl]; decide) ?_
    generalize upd H p1 (SetO w p1 (fun j => decide (j ∈ (plF L ord).map fun k => ((k : Nat) : Int))) c1) = H1 at S1 ⊢
    refine ⟨_, rfl, pl, rfl, ⟨_, tnL (S1 _ _ mpl)⟩, fun D1 nD1 => ?_⟩
    refine lc_tup (xs := (plF L ord).map vn) (fun m G => Same H1 G ∧ G D1 = some (.lst ((List.replicate m true).map V.bl))) ⟨smUpd nD1, upd_same⟩ (fun m G _ z => tnL (z.1 _ _ (S1 _ _ mpl))) ?_ ?_
    · rintro m x G hx ⟨sm, hD⟩
      obtain ⟨y, hy, rfl⟩ := vn_get hx
      have hm := (List.getElem?_eq_some_iff.mp hy).1
      have ylt := (plt y).mp (List.mem_of_getElem? hy)
      have S2 := S1.trans sm
      refine ⟨rfl, ?_⟩
      show tYes _ _ _
      refine ⟨_, rfl, (y : Int), 0, 99, rfl, _, rfl, ?_⟩
      refine ifT (decide_eq_true (show (0 : Int) ≤ (y : Int) ∧ (y : Int) ≤ 99 from by omega)) ?_
      refine ⟨_, rfl, _, rfl, F, C, dx, _, _, rfl, S2 _ _ h0, T.cl, T.nB, fB, ab, _, rfl, .inr (tnL (S2 _ _ h2)), rfl, vn_flat _, ?_⟩
      refine ⟨_, hD, small1000 (by rw [List.length_map, List.length_replicate]; omega), smOver nD1 sm, ?_⟩
      rw [upd_same, List.replicate_succ', List.map_append, inV_vn, ebe, decide_eq_true (List.mem_range.mpr ylt)]
      rfl
    rintro G1 ⟨sm1, hD1⟩
    rw [List.length_map] at hD1
    refine ⟨D1, List.replicate (plF L ord).length true, rfl, .inl (.inl hD1), ?_⟩
    rw [replB]
    refine ⟨true, rfl, ?_⟩
    refine ifF (by decide) ?_
    have S3 := S1.trans sm1
    -- the numbers
    have nsl : ∀ ns ∈ L, ns.length ≤ 30 := fun ns h => lotLen (ok.asc ns h) (ok.lt ns h)
    have fl := flatLen nsl
    obtain ⟨fz, efz⟩ : ∃ fz, fz = (L.map fun (ns : List Nat) => ns.map fun (k : Nat) => ((k : Nat) : Int)).flatten := ⟨_, rfl⟩
    have fm : ∀ k : Int, k ∈ fz ↔ ∃ x : Nat, x ∈ N0 ∧ k = (x : Int) := fun k => by
      rw [efz, flatMem]
      exact ⟨fun ⟨x, a, b⟩ => ⟨x, (nmem x).mpr a, b⟩, fun ⟨x, a, b⟩ => ⟨x, (nmem x).mp a, b⟩⟩
    rw [← efz] at fl
    refine ⟨_, rfl, by show 0 ≤ sizeLine; decide, fun z nz => ?_⟩
    have S4 := S3.trans (smUpd (o := .tup []) nz)
    have hz : upd G1 z (.tup []) z = some (.tup []) := upd_same
    generalize upd G1 z (.tup []) = G2 at S4 hz ⊢
    refine ⟨a, z, us, _, rfl, S4 _ _ ha, hz, ?_, by rw [← efz]; omega, fun p2 G3 h23 => ?_⟩
    · have hT4 := tbSame S4 hT
      have go : ∀ {us : List V} {L : List (List Nat)}, TbR G2 us L → Paired (fun (v : V) (ns : List Int) => ∃ t, v = .ref t ∧ G2 t = some (.tup (ns.map V.int))) us (L.map fun (ns : List Nat) => ns.map fun (k : Nat) => ((k : Nat) : Int)) := fun {us L} h => by
        unfold TbR at h
        induction h with
        | nil => exact .nil
        | cons a t ih =>
          obtain ⟨q, e, hq⟩ := a
          exact .cons ⟨q, e, by rw [← natIntS]; exact hq⟩ ih
      exact go hT4
    rw [← efz] at h23
    have S5 : Same H G3 ∧ G3 p2 = some (.tup (fz.map V.int)) := by
      rcases h23 with ⟨rfl, h⟩ | ⟨h, rfl⟩
      · exact ⟨S4, h⟩
      · exact ⟨S4.trans (smUpd h), upd_same⟩
    obtain ⟨S5, hp2⟩ := S5
    refine ⟨p2, fz, rfl, .inr (.inl (.inl hp2)), by omega, fun p3 c3 ks3 np3 knd3 kmem3 kc3 => ?_⟩
    have ec3 : c3 = N0.length := by
      rw [← kc3, ← List.length_map (f := fun (k : Nat) => ((k : Nat) : Int)) (as := N0)]
      refine List.Perm.length_eq ((List.perm_ext_iff_of_nodup knd3 (List.pairwise_map.mpr (nasc.imp fun h e => by omega))).mpr fun k => ?_)
      rw [kmem3 k, fm k, List.mem_map]
      exact ⟨fun ⟨x, a, b⟩ => ⟨x, a, b.symm⟩, fun ⟨x, a, b⟩ => ⟨x, a, b.symm⟩⟩
    have S6 := S5.trans (smUpd (o := SetO w p3 (fun j => decide (j ∈ fz)) c3) np3)
    refine ⟨p3, _, c3, rfl, upd_same, by omega, fun zs p6 zasc zmem zl np6 => ?_⟩
    obtain rfl : zs = N0.map fun k => ((k : Nat) : Int) := ascI zasc nasc fun k => by rw [zmem k, decide_eq_true_iff]; exact fm k
    rw [← natIntS]
    have S7 := S6.trans (smUpd (o := .lst (N0.map vn)) np6)
    have hp6 : upd (upd G3 p3 (SetO w p3 (fun j => decide (j ∈ fz)) c3)) p6 (.lst (N0.map vn)) p6 = some (.lst (N0.map vn)) := upd_same
    generalize upd (upd G3 p3 (SetO w p3 (fun j => decide (j ∈ fz)) c3)) p6 (.lst (N0.map vn)) = G4 at S7 hp6 ⊢
    -- the asks
    have md7 := S7 _ _ md
    refine ⟨_, rfl, _, .ty "dict", _, _, true, rfl, .ty _, kdTy md7, kit_ty (by decide +kernel), true, rfl, ?_⟩
    refine ifF (by decide) ?_
    refine ⟨d, _, md7, trivial, fun od => ?_⟩
    have hL : upd G4 d (.frz od (.dK (keyed L.length N0))) d = some (.frz od (.dK (keyed L.length N0))) := upd_same
    have KL : Kept d G4 (upd G4 d (.frz od (.dK (keyed L.length N0)))) := kept_hand
    generalize upd G4 d (.frz od (.dK (keyed L.length N0))) = GL at hL KL ⊢
    refine ⟨_, rfl, d, od, rfl, .inl ⟨_, hL, fun D2 nD2 => ?_⟩⟩
    have nDd : D2 ≠ d := fun z => by rw [z, hL] at nD2; cases nD2
    refine lc_it walk_keys (fun m G => Kept d G4 G ∧ G d = some (.frz od (.dK (keyed L.length N0))) ∧ G D2 = some (.lst ((List.replicate m true).map V.bl))) ⟨kept_trans KL (kept_same (smUpd nD2)), (smUpd nD2) _ _ hL, upd_same⟩ (fun m G _ z => z.2.1) ?_ ?_
    · rintro m x G G' hm ⟨kg, hd, hD⟩ ⟨rfl, key, v, hkv, rfl⟩
      have hk1 : ((keyed L.length N0).map Prod.fst)[m]? = some key := by rw [List.getElem?_map, hkv]; rfl
      rw [keyed_fst, List.getElem?_map] at hk1
      obtain ⟨y, hy, rfl⟩ := Option.map_eq_some_iff.mp hk1
      have y30 := n30 y (List.mem_of_getElem? hy)
      rw [keyed_len] at hm
      refine ⟨rfl, ?_⟩
      show tYes _ _ _
      refine ⟨_, rfl, (y : Int), 0, 29, rfl, ?_⟩
      have n4 : G4 D2 = none := by
        cases q : G4 D2 with
        | none => rfl
        | some o => rw [KL _ _ nDd q] at nD2; cases nD2
      refine ⟨_, hD, small1000 (by rw [List.length_map, List.length_replicate]; omega), fun c o z e => by rw [upd_ne (fun y => by rw [y, n4] at e; cases e)]; exact kg c o z e, by rw [upd_ne (Ne.symm nDd)]; exact hd, ?_⟩
      rw [upd_same, List.replicate_succ', List.map_append, decide_eq_true (show (0 : Int) ≤ (y : Int) ∧ (y : Int) ≤ 29 from by omega)]
      rfl
    rintro G5 ⟨kg, hd5, hD5⟩
    refine ⟨hd5, D2, List.replicate (keyed L.length N0).length true, rfl, .inl (.inl (by rw [upd_ne nDd]; exact hD5)), ?_⟩
    rw [replB]
    refine ⟨true, rfl, ?_⟩
    refine ifF (by decide) ?_
    have S8 : Same G4 (upd G5 d (.dK (keyed L.length N0))) := sameBackS kg md7
    generalize upd G5 d (.dK (keyed L.length N0)) = G6 at S8 ⊢
    have md8 := S8 _ _ md7
    refine ⟨_, rfl, d, _, rfl, .inl md8, fun q1 nq1 => ?_⟩
    have ekeys : (keyed L.length N0).map (fun kv => kV kv.1) = N0.map vn := by
      rw [show (keyed L.length N0).map (fun kv => kV kv.1) = ((keyed L.length N0).map Prod.fst).map kV from by rw [List.map_map]; rfl, keyed_fst, List.map_map]
      rfl
    rw [ekeys]
    have S9 := smUpd (o := .lst (N0.map vn)) nq1
    refine ⟨q1, N0.map (fun k => ((k : Nat) : Int)), rfl, .inl (.inl (by rw [← natIntS]; exact upd_same)), by rw [List.length_map]; omega, fun zs q2 perm asc nq2 => ?_⟩
    obtain rfl : zs = N0.map fun k => ((k : Nat) : Int) := sortVn perm asc nasc
    rw [← natIntS]
    have S10 := (S8.trans S9).trans (smUpd (o := .lst (N0.map vn)) nq2)
    have hq2 : upd (upd G6 q1 (.lst (N0.map vn))) q2 (.lst (N0.map vn)) q2 = some (.lst (N0.map vn)) := upd_same
    generalize upd (upd G6 q1 (.lst (N0.map vn))) q2 (.lst (N0.map vn)) = G7 at S10 hq2 ⊢
    refine ⟨_, rfl, _, _, .lst (.inl (.inl hq2)) (dpN _), .lst (.inl (.inl (S10 _ _ hp6))) (dpN _), dnShL _, dnShL _, _, rfl, ?_⟩
    refine ifF (by rw [dnEqL]; decide) ?_
    have S11 := S7.trans S10
    have md11 := S11 _ _ md
    refine ⟨_, rfl, .inr (.inr (.inl ⟨rfl, .inl ⟨_, md11⟩⟩)), d, _, rfl, rfl, .inl md11, fun vw nvw => ?_⟩
    have S12 := smUpd (o := vwO vw d) nvw
    refine ⟨vw, d, _, rfl, upd_same, .inl (S12 _ _ md11), by rw [keyed_len]; omega, fun q3 nq3 => ?_⟩
    rw [keyed_snd]
    obtain ⟨pls, epl⟩ : ∃ pls, pls = (List.range N0.length).map fun j => L.length + j := ⟨_, rfl⟩
    rw [← epl]
    have lpls : pls.length = N0.length := by rw [epl, List.length_map, List.length_range]
    have pasc : pls.Pairwise (· < ·) := by rw [epl]; exact List.pairwise_map.mpr (List.pairwise_lt_range.imp fun h => by omega)
    have plt2 : ∀ x ∈ pls, x < 60 := fun x hx => by
      rw [epl] at hx
      obtain ⟨j, hj, rfl⟩ := List.mem_map.mp hx
      have := List.mem_range.mp hj
      omega
    have S13 := S12.trans (smUpd (o := .lst (pls.map vn)) nq3)
    have hq3 : upd (upd G7 vw (vwO vw d)) q3 (.lst (pls.map vn)) q3 = some (.lst (pls.map vn)) := upd_same
    have S14 := S11.trans S13
    have hp6b := S13 _ _ (S10 _ _ hp6)
    generalize upd (upd G7 vw (vwO vw d)) q3 (.lst (pls.map vn)) = G8 at S14 hq3 hp6b ⊢
    refine ⟨_, rfl, q3, pls.map (fun k => ((k : Nat) : Int)), rfl, .inl (.inl (.inl (by rw [← natIntS]; exact hq3))), by rw [List.length_map]; omega, fun p8 c8 ks8 np8 knd8 kmem8 kc8 => ?_⟩
    have ec8 : c8 = pls.length := by
      rw [← kc8, ← List.length_map (f := fun (k : Nat) => ((k : Nat) : Int)) (as := pls)]
      exact List.Perm.length_eq ((List.perm_ext_iff_of_nodup knd8 (List.pairwise_map.mpr (pasc.imp fun h e => by omega))).mpr kmem8)
    have S15 := smUpd (o := SetO w p8 (fun j => decide (j ∈ pls.map fun k => ((k : Nat) : Int))) c8) np8
    refine ⟨p8, _, c8, rfl, upd_same, _, rfl, q3, _, rfl, .inl (.inl (.inl (S15 _ _ hq3))), rfl, _, rfl, ?_⟩
    refine ifF (by rw [ec8, List.length_map, decide_eq_true rfl]; decide) ?_
    have hq3b := S15 _ _ hq3
    have hp6c := S15 _ _ hp6b
    have S16 := S14.trans S15
    generalize upd G8 p8 (SetO w p8 (fun j => decide (j ∈ pls.map fun k => ((k : Nat) : Int))) c8) = G9 at S16 hq3b hp6c ⊢
    refine ⟨_, rfl, q3, rfl, ⟨_, .inl (.inl hq3b)⟩, fun D4 nD4 => ?_⟩
    refine lc_list (xs := pls.map vn) (fun m G => Same G9 G ∧ G D4 = some (.lst ((List.replicate m true).map V.bl))) ⟨smUpd nD4, upd_same⟩ (fun m G _ z => .inl (.inl (z.1 _ _ hq3b))) ?_ ?_
    · rintro m x G hx ⟨sm, hD⟩
      obtain ⟨y, hy, rfl⟩ := vn_get hx
      have hm := (List.getElem?_eq_some_iff.mp hy).1
      have ylt := plt2 y (List.mem_of_getElem? hy)
      refine ⟨rfl, ?_⟩
      show tYes _ _ _
      refine ⟨_, rfl, (y : Int), 0, 99, rfl, ?_⟩
      refine ⟨_, hD, small1000 (by rw [List.length_map, List.length_replicate]; omega), smOver nD4 sm, ?_⟩
      rw [upd_same, List.replicate_succ', List.map_append, decide_eq_true (show (0 : Int) ≤ (y : Int) ∧ (y : Int) ≤ 99 from by omega)]
      rfl
    rintro G10 ⟨sm10, hD10⟩
    rw [List.length_map] at hD10
    refine ⟨D4, List.replicate pls.length true, rfl, .inl (.inl hD10), ?_⟩
    rw [replB]
    refine ⟨true, rfl, ?_⟩
    refine ifF (by decide) ?_
    have S17 := S16.trans sm10
    have hp6d := sm10 _ _ hp6c
    -- each number
    refine ⟨_, rfl, p6, rfl, ⟨_, .inl (.inl hp6d)⟩, ?_⟩
    refine for_list (K := K) (a := p6) (xs := N0.map vn) (fun m σ G => Same G10 G ∧ ∃ (t5 t8 t9 t10 : Option V), σ = [some (.ref a), some (.ref r), some (.ref F), some (.ref pl), some (.ref d), t5, some (.ref p6), some (.ref q3), t8, t9, t10, none]) ⟨Same.refl _, none, none, none, none, rfl⟩ (fun m σ G _ z => .inl (.inl (z.1 _ _ hp6d))) ?_ ?_
    · rintro m v σ G hv ⟨sm, t5, t8, t9, t10, rfl⟩
      obtain ⟨x, hx, rfl⟩ := vn_get hv
      have hm := (List.getElem?_eq_some_iff.mp hx).1
      have xm := List.mem_of_getElem? hx
      have S18 := S17.trans sm
      have g := keyed_get x (c := L.length) (ks := N0)
      have exi : N0.idxOf x = m := by
        have h1 := List.idxOf_lt_length_of_mem xm
        have h2 : N0[N0.idxOf x]? = some x := by rw [List.getElem?_eq_getElem h1, List.getElem_idxOf h1]
        exact (List.getElem?_inj h1 (nasc.imp fun h => Nat.ne_of_lt h)).mp (h2.trans hx.symm)
      rw [if_pos xm, exi] at g
      have dg : ∀ {G : Hp}, Same H G → DGet G d (vn x) (some (vn (L.length + m))) := fun s => g ▸ DGet.k (k := (Sum.inl ((x : Nat) : Int) : L2.Key)) (s _ _ md)
      refine ⟨_, rfl, _, rfl, d, _, rfl, dg S18, _, rfl, F, C, dx, _, _, rfl, S18 _ _ h0, T.cl, T.nA, fA, aa, _, rfl, .inr (tnL (S18 _ _ h3)), rfl, vn_flat _, _, rfl, ?_⟩
      refine ifF (by rw [inV_vn, eas, decide_eq_true (List.mem_map.mpr ⟨m, List.mem_range.mpr hm, rfl⟩)]; decide) ?_
      have pl60 := (foT_ok ok oo).l1
      have plen := parF_len oo
      refine ⟨_, rfl, F, C, dx, _, _, rfl, S18 _ _ h0, T.cl, T.nP, fP, _, rfl, _, rfl, d, _, rfl, dg S18, ap, parF L ord, L.length + m, rfl, S18 _ _ h1, parF_ps oo, pl60, by rw [plen, ← eN]; omega, fun r9 G11 s11 hr9 => ?_⟩
      have S19 := S18.trans s11
      refine ⟨_, rfl, _, rfl, a, pl, _, _, rfl, .inr ⟨.inl (.inl (S19 _ _ ha)), tnL (S19 _ _ mpl), ?_⟩⟩
      refine for_it (walk_zipT (xs := us) (ys := (plF L ord).map vn) rfl) (fun i σ J => Same G11 J ∧ ∃ (t5 t10 : Option V), σ = [some (.ref a), some (.ref r), some (.ref F), some (.ref pl), some (.ref d), t5, some (.ref p6), some (.ref q3), some (vn x), some (.ref r9), t10, none]) ⟨Same.refl _, t5, t10, rfl⟩ (fun i σ J _ z => ⟨.inl (.inl (z.1 _ _ (S19 _ _ ha))), tnL (z.1 _ _ (S19 _ _ mpl))⟩) ?_ ?_
      · rintro i v σ J J2 hi ⟨sj, t5, t10, rfl⟩ ⟨T1, x1, y1, rfl, nT, rfl, e1, e2⟩
        obtain ⟨lot, hlot, tl, rfl, htl⟩ := pairGetT hT (show us[i]? = some x1 from e1)
        obtain ⟨y, hy, rfl⟩ := vn_get (show ((plF L ord).map vn)[i]? = some y1 from e2)
        have hil := (List.getElem?_eq_some_iff.mp hlot).1
        have ey : y = ord.idxOf i := by
          unfold plF at hy
          rw [List.getElem?_map, List.getElem?_range hil] at hy
          exact (Option.some.inj hy).symm
        have sj2 := sj.trans (smUpd (o := .tup [.ref tl, vn y]) nT)
        have S20 := S19.trans sj2
        refine ⟨T1, _, rfl, .inl (.inl upd_same), rfl, _, _, rfl, _, _, rfl, rfl, ?_⟩
        generalize upd J T1 (.tup [.ref tl, vn y]) = J3 at sj2 S20 ⊢
        refine ⟨_, rfl, _, rfl, r9, _, rfl, .inr (tnL (sj2 _ _ hr9)), rfl, vn_flat _, _, rfl, _, rfl, tl, _, rfl, .inr (tnL (S20 _ _ htl)), rfl, vn_flat _, rfl, _, rfl, ?_⟩
        have hw := foT_right ok no oo hil (j := m) (x := x) (by rw [← eN]; exact hx)
        rw [List.getD_eq_getElem?_getD, hlot, ← ey] at hw
        refine ifF ?_ ⟨sj2, _, _, rfl⟩
        rw [inV_vn, inV_vn, show decide (y ∈ road (parF L ord) (L.length + m)) = decide (x ∈ lot) from by rw [Bool.eq_iff_iff, decide_eq_true_iff, decide_eq_true_iff]; exact hw, decide_eq_true rfl]
        decide
      · rintro σ J ⟨sj, t5, t10, rfl⟩
        exact ⟨(sm.trans s11).trans sj, _, _, _, _, rfl⟩
    · rintro σ G ⟨sm, t5, t8, t9, t10, rfl⟩
      exact k _ (S17.trans sm)
end
end Cn
namespace Cn
open PySem PySem.Spec PyProof.Rows L2 Ck
theorem foAt_keptD {C : Addr} {H H' : Hp} {d a : Addr} {kvs : List (L2.Key × V)} {f : Fo} (hd : H d = some (.dK kvs)) (k : Kept d H H') (h : FoAt C H a f) : FoAt C H' a f := by
  obtain ⟨dx, ap, ab, aa, h1, h2, h3, h4⟩ := h
  have ne : ∀ {b : Addr} {o : HO}, H b = some o → (∀ kvs, o ≠ .dK kvs) → b ≠ d := fun e n z => by rw [z, hd] at e; cases e; exact n _ rfl
  exact ⟨dx, ap, ab, aa, k _ _ (ne h1 fun _ z => nomatch z) h1, k _ _ (ne h2 fun _ z => nomatch z) h2, k _ _ (ne h3 fun _ z => nomatch z) h3, k _ _ (ne h4 fun _ z => nomatch z) h4⟩
theorem eqPairO {H : Hp} {x y : V} {o : Option (Nat × Nat)} (h1 : PairO H x o) (h2 : PairO H y o) : EqG H 1 x y := by
  cases o with
  | none =>
    cases h1
    cases h2
    exact .inl ⟨rfl, .inl rfl⟩
  | some p =>
    obtain ⟨t, rfl, ht⟩ := h1
    obtain ⟨u, rfl, hu⟩ := h2
    exact eqN (ns := [p.1, p.2]) ht hu (by show 2 ≤ 1000; decide)
theorem pairOSame {H H' : Hp} (s : Same H H') {v : V} : ∀ {o : Option (Nat × Nat)}, PairO H v o → PairO H' v o
  | none, h => h
  | some _, ⟨t, e, h⟩ => ⟨t, e, s _ _ h⟩
theorem keyedAll {c : Nat} {ks : List Nat} (nd : ks.Nodup) : ∀ p ∈ keyed c ks, valV (keyed c ks) p.1 = some p.2 ∧ flatB p.2 = true := by
  intro p hp
  obtain ⟨m, hm⟩ := List.mem_iff_getElem?.mp hp
  have h1 : ((keyed c ks).map Prod.fst)[m]? = some p.1 := by rw [List.getElem?_map, hm]; rfl
  have h2 : ((keyed c ks).map Prod.snd)[m]? = some p.2 := by rw [List.getElem?_map, hm]; rfl
  rw [keyed_fst, List.getElem?_map] at h1
  obtain ⟨y, hy, e⟩ := Option.map_eq_some_iff.mp h1
  have ml := (List.getElem?_eq_some_iff.mp hy).1
  rw [keyed_snd, List.map_map, List.getElem?_map, List.getElem?_range ml] at h2
  have e2 := Option.some.inj h2
  rw [← e, ← e2, keyed_get, if_pos (List.mem_of_getElem? hy)]
  have h3 := List.idxOf_lt_length_of_mem (List.mem_of_getElem? hy)
  have h4 : ks[ks.idxOf y]? = some y := by rw [List.getElem?_eq_getElem h3, List.getElem_idxOf h3]
  rw [(List.getElem?_inj h3 nd).mp (h4.trans hy.symm)]
  exact ⟨rfl, rfl⟩
section
variable {P : Program} {w : World} {K : PySem.W.Frag} {mg : Str → Option Value} {base : Heap} {C : Addr}
def nLaw : List Str := ["_law_script", "_law_hand_here", "_law_turn", "_law_lots", "_law_due", "_law_told", "_law_kept", "_law_again"]
theorem scLaw : FnScope nLaw ["_law_script"] (defScope sLaw) := ⟨rfl, rfl, rfl, by decide +kernel, rfl, by decide +kernel, by decide +kernel⟩
theorem ok_law {f : Addr} {fd : FuncData} (F : Fun K "law" "law" sLaw f fd) (B : Defs K mg C) : FnOk P w K mg base CX0 34 f fd ["_law_script"] (spLaw K) := by
  obtain ⟨fH, fdH, GH, gH, kH, bH⟩ := dHand (P := P) (w := w) (base := base) B
  obtain ⟨fT, fdT, GT, gT, kT, bT⟩ := dLTable (P := P) (w := w) (base := base) B
  obtain ⟨fX, fdX, GX, gX, kX, bX⟩ := dCross (P := P) (w := w) (base := base) B
  obtain ⟨fY, fdY, GY, gY, kY, bY⟩ := dLCross (P := P) (w := w) (base := base) B
  obtain ⟨fI, fdI, GI, gI, kI, bI⟩ := dIs (P := P) (w := w) (base := base) B
  obtain ⟨fO, fdO, GO, gO, kO, bO⟩ := dForOf (P := P) (w := w) (base := base) B
  obtain ⟨fZ, fdZ, GZ, gZ, kZ, bZ⟩ := dLIsForO (P := P) (w := w) (base := base) B
  obtain ⟨fe, fde, Fe, he1, he2, be⟩ := B.eqm
  have Ge : FnOk P w K mg base CX0 1 fe fde ["self", "other"] (spEqC (FoCmp C)) := ok_eqC B Fe
  have N := nOf B
  have nd := scLaw.nd
  refine F.ok scLaw (fun vs H Q E h => ?_) (fun cdv A outer s H vs Q E hr h => ?_)
  · obtain ⟨a, ns, rfl, _⟩ := h
    rfl
  · obtain ⟨a, ns, rfl, hs, hl, k⟩ := h
    have h1 : Room 1 (A.deeper (envOfC "law" (defScope sLaw) s.heap.objs.size f cdv)) := Room.mono hr (by decide)
    have h2 : Room 2 (A.deeper (envOfC "law" (defScope sLaw) s.heap.objs.size f cdv)) := Room.mono hr (by decide)
    have h4 : Room 4 (A.deeper (envOfC "law" (defScope sLaw) s.heap.objs.size f cdv)) := Room.mono hr (by decide)
    have h6 : Room 6 (A.deeper (envOfC "law" (defScope sLaw) s.heap.objs.size f cdv)) := Room.mono hr (by decide)
    refine ⟨_, pss_cons (ps_set (i := 1) nd rfl (Or.inl rfl) (pe_call GH h1 (by rfl) gH kH bH .nil pass0 (pa_cons (pv 0) pa_nil)))
      (pss_cons (ps_for PassesOwn.never rfl (pi_range1 (by rfl) N.range (pa_cons pe_int pa_nil)) (pg_name (i := 2) nd rfl (Or.inl rfl))
        (pss_cons (ps_set (i := 3) nd rfl (Or.inl rfl) (pe_call GT hr (by rfl) gT kT bT .nil pass0 (pa_cons (pv 1) pa_nil)))
        (pss_cons (ps_set (i := 4) nd rfl (Or.inl rfl) (pe_call GY h1 (by rfl) gY kY bY .nil pass0 (pa_cons (pv 3) pa_nil)))
        (pss_cons (ps_if (pt_not (pt_val (pe_call GI h6 (by rfl) gI kI bI .nil pass0 (pa_cons (pe_lst (pa_cons (pe_call GX h4 (by rfl) gX kX bX .nil pass0 (pa_cons (pv 3) pa_nil)) pa_nil)) (pa_cons (pe_lst (pa_cons (pv 4) pa_nil)) pa_nil))))) (pss_one ps_never) pss_nil)
        (pss_cons (ps_set (i := 5) nd rfl (Or.inl rfl) (pe_call GO h6 (by rfl) gO kO bO .nil pass0 (pa_cons (pv 3) pa_nil)))
        (pss_one (ps_if (pt_cmpR op_notN (pv 4) pe_non (nomark _))
          (pss_one (ps_if (pt_cmpR op_notN (pv 5) pe_non (nomark _)) (pss_one ps_never) pss_nil))
          (pss_cons (ps_if (pt_not (pt_val (pe_call GZ h2 (by rfl) gZ kZ bZ .nil pass0 (pa_cons (pv 3) (pa_cons (pv 5) pa_nil))))) (pss_one ps_never) pss_nil)
          (pss_cons (ps_set (i := 6) nd rfl (Or.inl rfl) (pe_callTy call_dictD (by rfl) B.zDict (by decide +kernel) (pa_cons (pe_ix ix_tup (pv 5) pe_int (fun _ _ => rfl)) pa_nil)))
          (pss_cons (ps_expr (pe_dclear (pe_ix ix_tup (pv 5) pe_int (fun _ _ => rfl))))
          (pss_cons (ps_set (i := 7) nd rfl (Or.inl rfl) (pe_call GO h6 (by rfl) gO kO bO .nil pass0 (pa_cons (pv 3) pa_nil)))
          (pss_one (ps_if (PW.pt (pw_or (pt_cmpR (op_neC (C := C) (R := FoCmp C) Ge he1 he2 B.neF B.ty5.2.2.2 be pass0 h2) (pe_ix ix_tup (pv 7) pe_int (fun _ _ => rfl)) (pe_ix ix_tup (pv 5) pe_int (fun _ _ => rfl)) (nomark _))
            (pw_or (pt_cmpR (op_neD hr.units) (pe_ix ix_tup (pv 7) pe_int (fun _ _ => rfl)) (pe_ix ix_tup (pv 5) pe_int (fun _ _ => rfl)) (nomark _))
            (pw_or1 (pt_cmpR (op_ne_dictA hr.units0) (pe_ix ix_tup (pv 7) pe_int (fun _ _ => rfl)) (pv 6) (nomark _)))))) (pss_one ps_never) pss_nil)))))))))))))
      (pss_one (ps_ret pe_bl))), ?_⟩
    refine ⟨_, rfl, a, ns, rfl, hs, hl, fun H1 p c cells s1 np nc hI => ⟨4, rfl, by decide, by decide, ?_⟩⟩
    refine for_range (lo := 0) (n := 4) (fun _ σ G => HandIn G p c cells ∧ ∃ t2 t3 t4 t5 t6 t7 : Option V, σ = [some (.ref a), some (.ref p), t2, t3, t4, t5, t6, t7]) ⟨hI, _, _, _, _, _, _, rfl⟩ ?_ ?_
    · rintro j σ H2 hj ⟨hI2, t2, t3, t4, t5, t6, t7, rfl⟩
      refine ⟨_, rfl, p, c, cells, rfl, hI2, fun r us L H3 hI3 k3 hr3 hT3 ok => ?_⟩
      refine ⟨_, rfl, r, us, L, rfl, hr3, hT3, ok, fun v H4 s4 hv4 => ?_⟩
      refine ⟨_, rfl, r, us, L, rfl, s4 _ _ hr3, tbSame s4 hT3, ok, fun v' H5 s5 hv5 => ?_⟩
      refine ⟨by show 1 ≤ sizeLine; decide, fun q1 nq1 => ?_⟩
      have S6 := s5.trans (smUpd (o := .lst [v']) nq1)
      have hq1 : upd H5 q1 (.lst [v']) q1 = some (.lst [v']) := upd_same
      have hv6 := pairOSame (smUpd (o := .lst [v']) nq1) hv5
      generalize upd H5 q1 (.lst [v']) = H6 at S6 hq1 hv6 ⊢
      refine ⟨_, rfl, by show 1 ≤ sizeLine; decide, fun q2 nq2 => ?_⟩
      have S7 := smUpd (o := .lst [v]) nq2
      have hq2 : upd H6 q2 (.lst [v]) q2 = some (.lst [v]) := upd_same
      have S47 := S6.trans S7
      have hq17 := S7 _ _ hq1
      have hv7 := pairOSame S7 hv6
      have hv7' := pairOSame S47 hv4
      generalize upd H6 q2 (.lst [v]) = H7 at S7 S47 hq2 hq17 hv7 hv7' ⊢
      refine ⟨_, _, rfl, eqG_up (n := 2) (.inr ⟨q1, q2, _, _, rfl, rfl, .inl ⟨hq17, hq2⟩, by show 1 ≤ 4000; decide, .cons (eqPairO hv7 hv7') .nil⟩) (by decide), fun H8 s8 => ⟨true, rfl, ?_⟩⟩
      refine ifF (by decide) ?_
      have S38 := s4.trans (S47.trans s8)
      have hr8 := S38 _ _ hr3
      have hT8 := tbSame S38 hT3
      have hI8 := handIn_keep hI3 S38
      have hv8 := pairOSame s8 hv7'
      refine ⟨_, rfl, r, us, L, rfl, hr8, hT8, ok, fun pp hpp H9 s9 => ?_, fun no ord x F pl d H9 oo s9 hx9 hF9 hpl9 hd9 nd9 => ?_⟩
      · rw [hpp] at hv8
        obtain ⟨t, rfl, ht⟩ := hv8
        refine ⟨_, rfl, rfl, _, rfl, ?_⟩
        refine ifT (by rfl) ?_
        refine ⟨_, rfl, rfl, _, rfl, ?_⟩
        refine ifF (by decide) ?_
        exact ⟨handIn_keep hI8 s9, _, _, _, _, _, _, rfl⟩
      · rw [no] at hv8
        obtain rfl : v = .non := hv8
        refine ⟨_, rfl, rfl, _, rfl, ?_⟩
        refine ifF (by decide) ?_
        refine ⟨_, rfl, _, rfl, r, x, F, pl, d, us, L, ord, rfl, s9 _ _ hr8, tbSame s9 hT8, ok, no, oo, ⟨hx9, hF9, hpl9, hd9⟩, fun H10 s10 => ⟨true, rfl, ?_⟩⟩
        refine ifF (by decide) ?_
        have hx10 := s10 _ _ hx9
        have hd10 := s10 _ _ hd9
        refine ⟨_, rfl, x, _, (2 : Int), _, rfl, rfl, .inl (.inl hx10), rfl, d, _, rfl, .inl hd10, fun e ne => ?_⟩
        have S11 := s10.trans (smUpd (o := .dK (askF L)) ne)
        have he11 : upd H10 e (.dK (askF L)) e = some (.dK (askF L)) := upd_same
        have ned : e ≠ d := fun z => by rw [z, hd10] at ne; cases ne
        generalize upd H10 e (.dK (askF L)) = H11 at S11 he11 ⊢
        have hx11 := S11 _ _ hx9
        have hd11 := S11 _ _ hd9
        refine ⟨_, rfl, x, _, (2 : Int), _, rfl, rfl, .inl (.inl hx11), rfl, .inr (.inr (.inl ⟨rfl, .inl ⟨_, hd11⟩⟩)), d, _, rfl, rfl, hd11, ?_⟩
        have K12 : Kept d H11 (upd H11 d (.dK [])) := kept_hand
        have hI12 : HandIn (upd H11 d (.dK [])) p c cells := handIn_write hI8 nd9 (handIn_keep hI8 (s9.trans S11))
        have hF12 := foAt_keptD hd11 K12 (foAt_same S11 hF9)
        have he12 : upd H11 d (.dK []) e = some (.dK (askF L)) := K12 _ _ ned he11
        have tupK : ∀ {b : Addr} {xs : List V}, H11 b = some (.tup xs) → upd H11 d (.dK []) b = some (.tup xs) := fun h => K12 _ _ (fun z => by rw [z, hd11] at h; cases h) h
        have hx12 := tupK hx11
        have hpl12 := tupK (S11 _ _ hpl9)
        have hr12 := tupK ((s9.trans S11) _ _ hr8)
        have hT12 : TbR (upd H11 d (.dK [])) us L := Paired.mapP (tbSame (s9.trans S11) hT8) fun _ _ ⟨t, e, h⟩ => ⟨t, e, tupK h⟩
        generalize upd H11 d (.dK []) = H12 at hI12 hF12 he12 hx12 hpl12 hr12 hT12 ⊢
        refine ⟨_, rfl, r, us, L, rfl, hr12, hT12, ok, (fun pp hpp => by rw [no] at hpp; cases hpp), fun _ ord' y G ql g H13 oo' s13 hy hG hql hg _ => ?_⟩
        obtain rfl := ord_uniq oo oo'
        obtain ⟨gx, _, _, _, g0, _⟩ := id hG
        have hF13 := foAt_same s13 hF12
        obtain ⟨fx, _, _, _, f0, _⟩ := id hF13
        refine ⟨_, rfl, y, _, (0 : Int), _, rfl, rfl, .inl (.inl hy), rfl, _, rfl, x, _, (0 : Int), _, rfl, rfl, .inl (.inl (s13 _ _ hx12)), rfl, G, F, true, gx, fx, _, _, rfl, rfl, g0, f0, ⟨_, _, hG, hF13, by unfold foB; rw [decide_eq_true rfl, decide_eq_true rfl, decide_eq_true rfl]; rfl⟩, fun H14 e14 => ⟨_, rfl, ?_⟩⟩
        refine ifF (by decide) ?_
        have s14 : Same H13 H14 := e14
        refine ⟨_, rfl, y, _, (1 : Int), _, rfl, rfl, .inl (.inl (s14 _ _ hy)), rfl, _, rfl, x, _, (1 : Int), _, rfl, rfl, .inl (.inl ((s13.trans s14) _ _ hx12)), rfl, _, _, .tup (tnL (s14 _ _ hql)) (dpN _), .tup (tnL ((s13.trans s14) _ _ hpl12)) (dpN _), dnShT _, dnShT _, _, rfl, ?_⟩
        refine ifF (by rw [dnEqT]; decide) ?_
        refine ⟨_, rfl, y, _, (2 : Int), _, rfl, rfl, .inl (.inl (s14 _ _ hy)), rfl, _, rfl, g, e, _, _, rfl, rfl, s14 _ _ hg, (s13.trans s14) _ _ he12, rfl, keyedAll (nums_asc.imp fun h => Nat.ne_of_lt h), _, rfl, ?_⟩
        refine ifF (by decide) ?_
        exact ⟨handIn_keep hI12 (s13.trans s14), _, _, _, _, _, _, rfl⟩
    · rintro σ H2 ⟨hI2, t2, t3, t4, t5, t6, t7, rfl⟩
      exact k _
end
end Cn
namespace Cn
open PySem PySem.Spec PyProof.Rows L2 Ck
/-- all the facts of the top, and the law's own promise -/
theorem all_mk {P : Program} {w : World} {K : PySem.W.Frag} {h : Heap} {mg : Str → Option Value} {fa C : Addr} {tm tmMOST_AMOUNTS tmMOST_ASK : Tok} (X : K.In h) (G : h.Ns mainGlobals mg) (hfa : mg "law" = some (.ref fa))
    {fd0 : Addr} {ocd0 kVd0 dcd0 pmd0 cdd0 ctd0 : Value} {odd0 and0 : Option Addr} {sld0 : Array (Option Value)}
    {fd1 : Addr} {ocd1 kVd1 dcd1 pmd1 cdd1 ctd1 : Value} {odd1 and1 : Option Addr} {sld1 : Array (Option Value)}
    {fd2 : Addr} {ocd2 kVd2 dcd2 pmd2 cdd2 ctd2 : Value} {odd2 and2 : Option Addr} {sld2 : Array (Option Value)}
    {fd3 : Addr} {ocd3 kVd3 dcd3 pmd3 cdd3 ctd3 : Value} {odd3 and3 : Option Addr} {sld3 : Array (Option Value)}
    {fd4 : Addr} {ocd4 kVd4 dcd4 pmd4 cdd4 ctd4 : Value} {odd4 and4 : Option Addr} {sld4 : Array (Option Value)}
    {fd5 : Addr} {ocd5 kVd5 dcd5 pmd5 cdd5 ctd5 : Value} {odd5 and5 : Option Addr} {sld5 : Array (Option Value)}
    {fd6 : Addr} {ocd6 kVd6 dcd6 pmd6 cdd6 ctd6 : Value} {odd6 and6 : Option Addr} {sld6 : Array (Option Value)}
    {fd7 : Addr} {ocd7 kVd7 dcd7 pmd7 cdd7 ctd7 : Value} {odd7 and7 : Option Addr} {sld7 : Array (Option Value)}
    {fd8 : Addr} {ocd8 kVd8 dcd8 pmd8 cdd8 ctd8 : Value} {odd8 and8 : Option Addr} {sld8 : Array (Option Value)}
    {fd9 : Addr} {ocd9 kVd9 dcd9 pmd9 cdd9 ctd9 : Value} {odd9 and9 : Option Addr} {sld9 : Array (Option Value)}
    {fd10 : Addr} {ocd10 kVd10 dcd10 pmd10 cdd10 ctd10 : Value} {odd10 and10 : Option Addr} {sld10 : Array (Option Value)}
    {fd11 : Addr} {ocd11 kVd11 dcd11 pmd11 cdd11 ctd11 : Value} {odd11 and11 : Option Addr} {sld11 : Array (Option Value)}
    {fd12 : Addr} {ocd12 kVd12 dcd12 pmd12 cdd12 ctd12 : Value} {odd12 and12 : Option Addr} {sld12 : Array (Option Value)}
    {fd13 : Addr} {ocd13 kVd13 dcd13 pmd13 cdd13 ctd13 : Value} {odd13 and13 : Option Addr} {sld13 : Array (Option Value)}
    {fd14 : Addr} {ocd14 kVd14 dcd14 pmd14 cdd14 ctd14 : Value} {odd14 and14 : Option Addr} {sld14 : Array (Option Value)}
    {fd15 : Addr} {ocd15 kVd15 dcd15 pmd15 cdd15 ctd15 : Value} {odd15 and15 : Option Addr} {sld15 : Array (Option Value)}
    {fd16 : Addr} {ocd16 kVd16 dcd16 pmd16 cdd16 ctd16 : Value} {odd16 and16 : Option Addr} {sld16 : Array (Option Value)}
    {fd17 : Addr} {ocd17 kVd17 dcd17 pmd17 cdd17 ctd17 : Value} {odd17 and17 : Option Addr} {sld17 : Array (Option Value)}
    {fd18 : Addr} {ocd18 kVd18 dcd18 pmd18 cdd18 ctd18 : Value} {odd18 and18 : Option Addr} {sld18 : Array (Option Value)}
    {fd19 : Addr} {ocd19 kVd19 dcd19 pmd19 cdd19 ctd19 : Value} {odd19 and19 : Option Addr} {sld19 : Array (Option Value)}
    {fd20 : Addr} {ocd20 kVd20 dcd20 pmd20 cdd20 ctd20 : Value} {odd20 and20 : Option Addr} {sld20 : Array (Option Value)}
    {fW : Addr} {ocW kVW dcW pmW cdW ctW : Value} {odW anW : Option Addr} {slW : Array (Option Value)}
    {fN : Addr} {ocN kVN dcN pmN cdN ctN : Value} {odN anN : Option Addr} {slN : Array (Option Value)}
    {fE : Addr} {ocE kVE dcE pmE cdE ctE : Value} {odE anE : Option Addr} {slE : Array (Option Value)}
    (aC : PySem.W.nsIn K mainGlobals "Forest" = some (some (.ref C))) (pg : PySem.W.plainGet K C Str.empty = true) (hd : PySem.W.hasDictIn K C = true) (po : PySem.W.plainOver K C = true) (sa : PySem.W.findIn K (.ref C) "__setattr__" = some (some (.builtin "object.__setattr__")))
    (mk : PySem.W.makesIn K C = true) (kc : PySem.W.keepIn K (.ref C) = true) (nP : PySem.W.findIn K (.ref C) "parents" = some none) (nB : PySem.W.findIn K (.ref C) "bearing" = some none) (nA : PySem.W.findIn K (.ref C) "asking" = some none)
    (mM : PySem.W.nsIn K mainGlobals "MOST_PLACES" = some (some (.int 60 tm))) (mMOST_AMOUNTS : PySem.W.nsIn K mainGlobals "MOST_AMOUNTS" = some (some (.int 20 tmMOST_AMOUNTS))) (mMOST_ASK : PySem.W.nsIn K mainGlobals "MOST_ASK" = some (some (.int 29 tmMOST_ASK)))
    (aN : PySem.W.findIn K (.ref C) "__init__" = some (some (.ref fN))) (iN : PySem.W.isFn K (.ref fN) = true) (lN : K.lookup fN = some ⟨ocN, odN, .func (PySem.W.fnOf "__init__" "Forest.__init__" (defArgs sInit) (defBody sInit) (defScope sInit) .none kVN dcN pmN anN cdN ctN), slN⟩) (oN : PySem.W.codeIn K cdN "Forest.__init__" = true) (kN : PySem.W.keepIn K (.ref fN) = true)
    (aE : PySem.W.findIn K (.ref C) "__eq__" = some (some (.ref fE))) (iE : PySem.W.isFn K (.ref fE) = true) (lE : K.lookup fE = some ⟨ocE, odE, .func (PySem.W.fnOf "__eq__" "Forest.__eq__" (defArgs sEqM) (defBody sEqM) (defScope sEqM) .none kVE dcE pmE anE cdE ctE), slE⟩) (oE : PySem.W.codeIn K cdE "Forest.__eq__" = true) (kE : PySem.W.keepIn K (.ref fE) = true)
    (y1 : PySem.W.findIn K (.ref C) "__class__" = some (some (.builtin "object.__class__"))) (y2 : PySem.W.specialIn K (.builtin "object.__class__") "__get__" = some (some (.builtin "getset_descriptor.__get__"))) (y3 : PySem.W.takesIn K (.builtin "object.__class__") = some true) (y4 : PySem.W.mroIn K C (.type "object") = some true)
    (neF : PySem.W.findIn K (.ref C) "__ne__" = some (some (.builtin "object.__ne__")))
    (ad0 : PySem.W.nsIn K mainGlobals "_law_some" = some (some (.ref fd0))) (ld0 : K.lookup fd0 = some ⟨ocd0, odd0, .func (PySem.W.fnOf "_law_some" "_law_some" (defArgs sSome) (defBody sSome) (defScope sSome) .none kVd0 dcd0 pmd0 and0 cdd0 ctd0), sld0⟩) (od0 : PySem.W.codeIn K cdd0 "_law_some" = true) (kd0 : PySem.W.keepIn K (.ref fd0) = true)
    (ad1 : PySem.W.nsIn K mainGlobals "is_integer" = some (some (.ref fd1))) (ld1 : K.lookup fd1 = some ⟨ocd1, odd1, .func (PySem.W.fnOf "is_integer" "is_integer" (defArgs sIsInt) (defBody sIsInt) (defScope sIsInt) .none kVd1 dcd1 pmd1 and1 cdd1 ctd1), sld1⟩) (od1 : PySem.W.codeIn K cdd1 "is_integer" = true) (kd1 : PySem.W.keepIn K (.ref fd1) = true)
    (ad2 : PySem.W.nsIn K mainGlobals "is_between" = some (some (.ref fd2))) (ld2 : K.lookup fd2 = some ⟨ocd2, odd2, .func (PySem.W.fnOf "is_between" "is_between" (defArgs sIsBtw) (defBody sIsBtw) (defScope sIsBtw) .none kVd2 dcd2 pmd2 and2 cdd2 ctd2), sld2⟩) (od2 : PySem.W.codeIn K cdd2 "is_between" = true) (kd2 : PySem.W.keepIn K (.ref fd2) = true)
    (ad3 : PySem.W.nsIn K mainGlobals "is_lot" = some (some (.ref fd3))) (ld3 : K.lookup fd3 = some ⟨ocd3, odd3, .func (PySem.W.fnOf "is_lot" "is_lot" (defArgs sIsLot) (defBody sIsLot) (defScope sIsLot) .none kVd3 dcd3 pmd3 and3 cdd3 ctd3), sld3⟩) (od3 : PySem.W.codeIn K cdd3 "is_lot" = true) (kd3 : PySem.W.keepIn K (.ref fd3) = true)
    (ad4 : PySem.W.nsIn K mainGlobals "_is_lot_of_places" = some (some (.ref fd4))) (ld4 : K.lookup fd4 = some ⟨ocd4, odd4, .func (PySem.W.fnOf "_is_lot_of_places" "_is_lot_of_places" (defArgs sLotOf) (defBody sLotOf) (defScope sLotOf) .none kVd4 dcd4 pmd4 and4 cdd4 ctd4), sld4⟩) (od4 : PySem.W.codeIn K cdd4 "_is_lot_of_places" = true) (kd4 : PySem.W.keepIn K (.ref fd4) = true)
    (ad5 : PySem.W.nsIn K mainGlobals "_law_hand" = some (some (.ref fd5))) (ld5 : K.lookup fd5 = some ⟨ocd5, odd5, .func (PySem.W.fnOf "_law_hand" "_law_hand" (defArgs sHand) (defBody sHand) (defScope sHand) .none kVd5 dcd5 pmd5 and5 cdd5 ctd5), sld5⟩) (od5 : PySem.W.codeIn K cdd5 "_law_hand" = true) (kd5 : PySem.W.keepIn K (.ref fd5) = true)
    (ad6 : PySem.W.nsIn K mainGlobals "_law_draw" = some (some (.ref fd6))) (ld6 : K.lookup fd6 = some ⟨ocd6, odd6, .func (PySem.W.fnOf "_law_draw" "_law_draw" (defArgs sDraw) (defBody sDraw) (defScope sDraw) .none kVd6 dcd6 pmd6 and6 cdd6 ctd6), sld6⟩) (od6 : PySem.W.codeIn K cdd6 "_law_draw" = true) (kd6 : PySem.W.keepIn K (.ref fd6) = true)
    (ad7 : PySem.W.nsIn K mainGlobals "_law_is" = some (some (.ref fd7))) (ld7 : K.lookup fd7 = some ⟨ocd7, odd7, .func (PySem.W.fnOf "_law_is" "_law_is" (defArgs sIs) (defBody sIs) (defScope sIs) .none kVd7 dcd7 pmd7 and7 cdd7 ctd7), sld7⟩) (od7 : PySem.W.codeIn K cdd7 "_law_is" = true) (kd7 : PySem.W.keepIn K (.ref fd7) = true)
    (ad8 : PySem.W.nsIn K mainGlobals "_law_lot" = some (some (.ref fd8))) (ld8 : K.lookup fd8 = some ⟨ocd8, odd8, .func (PySem.W.fnOf "_law_lot" "_law_lot" (defArgs sLawLot) (defBody sLawLot) (defScope sLawLot) .none kVd8 dcd8 pmd8 and8 cdd8 ctd8), sld8⟩) (od8 : PySem.W.codeIn K cdd8 "_law_lot" = true) (kd8 : PySem.W.keepIn K (.ref fd8) = true)
    (ad9 : PySem.W.nsIn K mainGlobals "_law_road" = some (some (.ref fd9))) (ld9 : K.lookup fd9 = some ⟨ocd9, odd9, .func (PySem.W.fnOf "_law_road" "_law_road" (defArgs sRoad) (defBody sRoad) (defScope sRoad) .none kVd9 dcd9 pmd9 and9 cdd9 ctd9), sld9⟩) (od9 : PySem.W.codeIn K cdd9 "_law_road" = true) (kd9 : PySem.W.keepIn K (.ref fd9) = true)
    (ad10 : PySem.W.nsIn K mainGlobals "_law_mixed" = some (some (.ref fd10))) (ld10 : K.lookup fd10 = some ⟨ocd10, odd10, .func (PySem.W.fnOf "_law_mixed" "_law_mixed" (defArgs sMixed) (defBody sMixed) (defScope sMixed) .none kVd10 dcd10 pmd10 and10 cdd10 ctd10), sld10⟩) (od10 : PySem.W.codeIn K cdd10 "_law_mixed" = true) (kd10 : PySem.W.keepIn K (.ref fd10) = true)
    (ad11 : PySem.W.nsIn K mainGlobals "is_table" = some (some (.ref fd11))) (ld11 : K.lookup fd11 = some ⟨ocd11, odd11, .func (PySem.W.fnOf "is_table" "is_table" (defArgs sIsTable) (defBody sIsTable) (defScope sIsTable) .none kVd11 dcd11 pmd11 and11 cdd11 ctd11), sld11⟩) (od11 : PySem.W.codeIn K cdd11 "is_table" = true) (kd11 : PySem.W.keepIn K (.ref fd11) = true)
    (ad12 : PySem.W.nsIn K mainGlobals "_are_crossing" = some (some (.ref fd12))) (ld12 : K.lookup fd12 = some ⟨ocd12, odd12, .func (PySem.W.fnOf "_are_crossing" "_are_crossing" (defArgs sAreCr) (defBody sAreCr) (defScope sAreCr) .none kVd12 dcd12 pmd12 and12 cdd12 ctd12), sld12⟩) (od12 : PySem.W.codeIn K cdd12 "_are_crossing" = true) (kd12 : PySem.W.keepIn K (.ref fd12) = true)
    (ad13 : PySem.W.nsIn K mainGlobals "_last_with" = some (some (.ref fd13))) (ld13 : K.lookup fd13 = some ⟨ocd13, odd13, .func (PySem.W.fnOf "_last_with" "_last_with" (defArgs sLastW) (defBody sLastW) (defScope sLastW) .none kVd13 dcd13 pmd13 and13 cdd13 ctd13), sld13⟩) (od13 : PySem.W.codeIn K cdd13 "_last_with" = true) (kd13 : PySem.W.keepIn K (.ref fd13) = true)
    (ad14 : PySem.W.nsIn K mainGlobals "crossing" = some (some (.ref fd14))) (ld14 : K.lookup fd14 = some ⟨ocd14, odd14, .func (PySem.W.fnOf "crossing" "crossing" (defArgs sCross) (defBody sCross) (defScope sCross) .none kVd14 dcd14 pmd14 and14 cdd14 ctd14), sld14⟩) (od14 : PySem.W.codeIn K cdd14 "crossing" = true) (kd14 : PySem.W.keepIn K (.ref fd14) = true)
    (ad15 : PySem.W.nsIn K mainGlobals "forest_of" = some (some (.ref fd15))) (ld15 : K.lookup fd15 = some ⟨ocd15, odd15, .func (PySem.W.fnOf "forest_of" "forest_of" (defArgs sForOf) (defBody sForOf) (defScope sForOf) .none kVd15 dcd15 pmd15 and15 cdd15 ctd15), sld15⟩) (od15 : PySem.W.codeIn K cdd15 "forest_of" = true) (kd15 : PySem.W.keepIn K (.ref fd15) = true)
    (ad16 : PySem.W.nsIn K mainGlobals "_law_is_int" = some (some (.ref fd16))) (ld16 : K.lookup fd16 = some ⟨ocd16, odd16, .func (PySem.W.fnOf "_law_is_int" "_law_is_int" (defArgs sLIsInt) (defBody sLIsInt) (defScope sLIsInt) .none kVd16 dcd16 pmd16 and16 cdd16 ctd16), sld16⟩) (od16 : PySem.W.codeIn K cdd16 "_law_is_int" = true) (kd16 : PySem.W.keepIn K (.ref fd16) = true)
    (ad17 : PySem.W.nsIn K mainGlobals "_law_nested" = some (some (.ref fd17))) (ld17 : K.lookup fd17 = some ⟨ocd17, odd17, .func (PySem.W.fnOf "_law_nested" "_law_nested" (defArgs sNested) (defBody sNested) (defScope sNested) .none kVd17 dcd17 pmd17 and17 cdd17 ctd17), sld17⟩) (od17 : PySem.W.codeIn K cdd17 "_law_nested" = true) (kd17 : PySem.W.keepIn K (.ref fd17) = true)
    (ad18 : PySem.W.nsIn K mainGlobals "_law_table" = some (some (.ref fd18))) (ld18 : K.lookup fd18 = some ⟨ocd18, odd18, .func (PySem.W.fnOf "_law_table" "_law_table" (defArgs sLTable) (defBody sLTable) (defScope sLTable) .none kVd18 dcd18 pmd18 and18 cdd18 ctd18), sld18⟩) (od18 : PySem.W.codeIn K cdd18 "_law_table" = true) (kd18 : PySem.W.keepIn K (.ref fd18) = true)
    (ad19 : PySem.W.nsIn K mainGlobals "_law_crossing" = some (some (.ref fd19))) (ld19 : K.lookup fd19 = some ⟨ocd19, odd19, .func (PySem.W.fnOf "_law_crossing" "_law_crossing" (defArgs sLCross) (defBody sLCross) (defScope sLCross) .none kVd19 dcd19 pmd19 and19 cdd19 ctd19), sld19⟩) (od19 : PySem.W.codeIn K cdd19 "_law_crossing" = true) (kd19 : PySem.W.keepIn K (.ref fd19) = true)
    (ad20 : PySem.W.nsIn K mainGlobals "_law_is_forest_of" = some (some (.ref fd20))) (ld20 : K.lookup fd20 = some ⟨ocd20, odd20, .func (PySem.W.fnOf "_law_is_forest_of" "_law_is_forest_of" (defArgs sLIsForO) (defBody sLIsForO) (defScope sLIsForO) .none kVd20 dcd20 pmd20 and20 cdd20 ctd20), sld20⟩) (od20 : PySem.W.codeIn K cdd20 "_law_is_forest_of" = true) (kd20 : PySem.W.keepIn K (.ref fd20) = true)
    (aW : PySem.W.nsIn K mainGlobals "law" = some (some (.ref fW))) (lW : K.lookup fW = some ⟨ocW, odW, .func (PySem.W.fnOf "law" "law" (defArgs sLaw) (defBody sLaw) (defScope sLaw) .none kVW dcW pmW anW cdW ctW), slW⟩) (oW : PySem.W.codeIn K cdW "law" = true) (kW : PySem.W.keepIn K (.ref fW) = true)
    (zisinstance : PySem.W.nsIn K mainGlobals "isinstance" = some none) (ztuple : PySem.W.nsIn K mainGlobals "tuple" = some none) (zlist : PySem.W.nsIn K mainGlobals "list" = some none) (zbool : PySem.W.nsIn K mainGlobals "bool" = some none) (zlen : PySem.W.nsIn K mainGlobals "len" = some none) (zall : PySem.W.nsIn K mainGlobals "all" = some none) (zzip : PySem.W.nsIn K mainGlobals "zip" = some none) (zint : PySem.W.nsIn K mainGlobals "int" = some none) (zabs : PySem.W.nsIn K mainGlobals "abs" = some none) (zrange : PySem.W.nsIn K mainGlobals "range" = some none) (zenumerate : PySem.W.nsIn K mainGlobals "enumerate" = some none) (zreversed : PySem.W.nsIn K mainGlobals "reversed" = some none) (zsorted : PySem.W.nsIn K mainGlobals "sorted" = some none) (zmin : PySem.W.nsIn K mainGlobals "min" = some none) (zset : PySem.W.nsIn K mainGlobals "set" = some none) (zsum : PySem.W.nsIn K mainGlobals "sum" = some none) (zdict : PySem.W.nsIn K mainGlobals "dict" = some none) (zValueError : PySem.W.nsIn K mainGlobals "ValueError" = some none)
    : ∃ fd : FuncData, (∀ (s : Shared) (v : Value), BindsTo s fd ⟨[v], []⟩ [("_law_script", v)]) ∧ ∀ base : Heap, K.In base → base.Ns mainGlobals mg → FnOk P w K mg base CX0 34 fa fd ["_law_script"] (spLaw K) := by
  have e := hfa.symm.trans (PySem.W.mg_of X G aW)
  cases e
  have IT : IsTxt mg := ⟨PySem.W.mg_none_of X G zisinstance, PySem.W.mg_none_of X G ztuple, PySem.W.mg_none_of X G zlist, PySem.W.mg_none_of X G zbool, PySem.W.mg_none_of X G zlen, PySem.W.mg_none_of X G zall, PySem.W.mg_none_of X G zzip⟩
  have NT : NamT mg := ⟨IT, PySem.W.mg_none_of X G zint, PySem.W.mg_none_of X G zabs, PySem.W.mg_none_of X G zrange, PySem.W.mg_none_of X G zenumerate, PySem.W.mg_none_of X G zreversed, PySem.W.mg_none_of X G zsorted, PySem.W.mg_none_of X G zmin⟩
  have Fd0 := fun_mk (st := sSome) ld0 od0 kd0
  have Dd0 : ∃ f fd, DefAt K mg "_law_some" sSome ["_law_hand_here", "_law_things"] f fd := ⟨_, _, ⟨Fd0, Fd0.binds (ps := ["_law_hand_here", "_law_things"]) fun _ _ _ _ _ _ us hl => match us, hl with | [_, _], _ => rfl, PySem.W.mg_of X G ad0⟩⟩
  have Fd1 := fun_mk (st := sIsInt) ld1 od1 kd1
  have Dd1 : ∃ f fd, DefAt K mg "is_integer" sIsInt ["thing"] f fd := ⟨_, _, ⟨Fd1, Fd1.binds (ps := ["thing"]) fun _ _ _ _ _ _ us hl => match us, hl with | [_], _ => rfl, PySem.W.mg_of X G ad1⟩⟩
  have Fd2 := fun_mk (st := sIsBtw) ld2 od2 kd2
  have Dd2 : ∃ f fd, DefAt K mg "is_between" sIsBtw ["thing", "least", "most"] f fd := ⟨_, _, ⟨Fd2, Fd2.binds (ps := ["thing", "least", "most"]) fun _ _ _ _ _ _ us hl => match us, hl with | [_, _, _], _ => rfl, PySem.W.mg_of X G ad2⟩⟩
  have Fd3 := fun_mk (st := sIsLot) ld3 od3 kd3
  have Dd3 : ∃ f fd, DefAt K mg "is_lot" sIsLot ["thing"] f fd := ⟨_, _, ⟨Fd3, Fd3.binds (ps := ["thing"]) fun _ _ _ _ _ _ us hl => match us, hl with | [_], _ => rfl, PySem.W.mg_of X G ad3⟩⟩
  have Fd4 := fun_mk (st := sLotOf) ld4 od4 kd4
  have Dd4 : ∃ f fd, DefAt K mg "_is_lot_of_places" sLotOf ["thing", "many"] f fd := ⟨_, _, ⟨Fd4, Fd4.binds (ps := ["thing", "many"]) fun _ _ _ _ _ _ us hl => match us, hl with | [_, _], _ => rfl, PySem.W.mg_of X G ad4⟩⟩
  have Fd5 := fun_mk (st := sHand) ld5 od5 kd5
  have Dd5 : ∃ f fd, DefAt K mg "_law_hand" sHand ["_law_script"] f fd := ⟨_, _, ⟨Fd5, Fd5.binds (ps := ["_law_script"]) fun _ _ _ _ _ _ us hl => match us, hl with | [_], _ => rfl, PySem.W.mg_of X G ad5⟩⟩
  have Fd6 := fun_mk (st := sDraw) ld6 od6 kd6
  have Dd6 : ∃ f fd, DefAt K mg "_law_draw" sDraw ["_law_hand_here", "_law_many"] f fd := ⟨_, _, ⟨Fd6, Fd6.binds (ps := ["_law_hand_here", "_law_many"]) fun _ _ _ _ _ _ us hl => match us, hl with | [_, _], _ => rfl, PySem.W.mg_of X G ad6⟩⟩
  have Fd7 := fun_mk (st := sIs) ld7 od7 kd7
  have Dd7 : ∃ f fd, DefAt K mg "_law_is" sIs ["_law_told", "_law_due"] f fd := ⟨_, _, ⟨Fd7, Fd7.binds (ps := ["_law_told", "_law_due"]) fun _ _ _ _ _ _ us hl => match us, hl with | [_, _], _ => rfl, PySem.W.mg_of X G ad7⟩⟩
  have Fd8 := fun_mk (st := sLawLot) ld8 od8 kd8
  have Dd8 : ∃ f fd, DefAt K mg "_law_lot" sLawLot ["_law_hand_here", "_law_places", "_law_share"] f fd := ⟨_, _, ⟨Fd8, Fd8.binds (ps := ["_law_hand_here", "_law_places", "_law_share"]) fun _ _ _ _ _ _ us hl => match us, hl with | [_, _, _], _ => rfl, PySem.W.mg_of X G ad8⟩⟩
  have Fd9 := fun_mk (st := sRoad) ld9 od9 kd9
  have Dd9 : ∃ f fd, DefAt K mg "_law_road" sRoad ["_law_parents", "_law_place"] f fd := ⟨_, _, ⟨Fd9, Fd9.binds (ps := ["_law_parents", "_law_place"]) fun _ _ _ _ _ _ us hl => match us, hl with | [_, _], _ => rfl, PySem.W.mg_of X G ad9⟩⟩
  have Fd10 := fun_mk (st := sMixed) ld10 od10 kd10
  have Dd10 : ∃ f fd, DefAt K mg "_law_mixed" sMixed ["_law_hand_here", "_law_things"] f fd := ⟨_, _, ⟨Fd10, Fd10.binds (ps := ["_law_hand_here", "_law_things"]) fun _ _ _ _ _ _ us hl => match us, hl with | [_, _], _ => rfl, PySem.W.mg_of X G ad10⟩⟩
  have Fd11 := fun_mk (st := sIsTable) ld11 od11 kd11
  have Dd11 : ∃ f fd, DefAt K mg "is_table" sIsTable ["thing"] f fd := ⟨_, _, ⟨Fd11, Fd11.binds (ps := ["thing"]) fun _ _ _ _ _ _ us hl => match us, hl with | [_], _ => rfl, PySem.W.mg_of X G ad11⟩⟩
  have Fd12 := fun_mk (st := sAreCr) ld12 od12 kd12
  have Dd12 : ∃ f fd, DefAt K mg "_are_crossing" sAreCr ["one", "other"] f fd := ⟨_, _, ⟨Fd12, Fd12.binds (ps := ["one", "other"]) fun _ _ _ _ _ _ us hl => match us, hl with | [_, _], _ => rfl, PySem.W.mg_of X G ad12⟩⟩
  have Fd13 := fun_mk (st := sLastW) ld13 od13 kd13
  have Dd13 : ∃ f fd, DefAt K mg "_last_with" sLastW ["lots", "lot"] f fd := ⟨_, _, ⟨Fd13, Fd13.binds (ps := ["lots", "lot"]) fun _ _ _ _ _ _ us hl => match us, hl with | [_, _], _ => rfl, PySem.W.mg_of X G ad13⟩⟩
  have Fd14 := fun_mk (st := sCross) ld14 od14 kd14
  have Dd14 : ∃ f fd, DefAt K mg "crossing" sCross ["table"] f fd := ⟨_, _, ⟨Fd14, Fd14.binds (ps := ["table"]) fun _ _ _ _ _ _ us hl => match us, hl with | [_], _ => rfl, PySem.W.mg_of X G ad14⟩⟩
  have Fd15 := fun_mk (st := sForOf) ld15 od15 kd15
  have Dd15 : ∃ f fd, DefAt K mg "forest_of" sForOf ["table"] f fd := ⟨_, _, ⟨Fd15, Fd15.binds (ps := ["table"]) fun _ _ _ _ _ _ us hl => match us, hl with | [_], _ => rfl, PySem.W.mg_of X G ad15⟩⟩
  have Fd16 := fun_mk (st := sLIsInt) ld16 od16 kd16
  have Dd16 : ∃ f fd, DefAt K mg "_law_is_int" sLIsInt ["_law_thing", "_law_least", "_law_most"] f fd := ⟨_, _, ⟨Fd16, Fd16.binds (ps := ["_law_thing", "_law_least", "_law_most"]) fun _ _ _ _ _ _ us hl => match us, hl with | [_, _, _], _ => rfl, PySem.W.mg_of X G ad16⟩⟩
  have Fd17 := fun_mk (st := sNested) ld17 od17 kd17
  have Dd17 : ∃ f fd, DefAt K mg "_law_nested" sNested ["_law_hand_here", "_law_lot_here"] f fd := ⟨_, _, ⟨Fd17, Fd17.binds (ps := ["_law_hand_here", "_law_lot_here"]) fun _ _ _ _ _ _ us hl => match us, hl with | [_, _], _ => rfl, PySem.W.mg_of X G ad17⟩⟩
  have Fd18 := fun_mk (st := sLTable) ld18 od18 kd18
  have Dd18 : ∃ f fd, DefAt K mg "_law_table" sLTable ["_law_hand_here"] f fd := ⟨_, _, ⟨Fd18, Fd18.binds (ps := ["_law_hand_here"]) fun _ _ _ _ _ _ us hl => match us, hl with | [_], _ => rfl, PySem.W.mg_of X G ad18⟩⟩
  have Fd19 := fun_mk (st := sLCross) ld19 od19 kd19
  have Dd19 : ∃ f fd, DefAt K mg "_law_crossing" sLCross ["_law_lots"] f fd := ⟨_, _, ⟨Fd19, Fd19.binds (ps := ["_law_lots"]) fun _ _ _ _ _ _ us hl => match us, hl with | [_], _ => rfl, PySem.W.mg_of X G ad19⟩⟩
  have Fd20 := fun_mk (st := sLIsForO) ld20 od20 kd20
  have Dd20 : ∃ f fd, DefAt K mg "_law_is_forest_of" sLIsForO ["_law_lots", "_law_thing"] f fd := ⟨_, _, ⟨Fd20, Fd20.binds (ps := ["_law_lots", "_law_thing"]) fun _ _ _ _ _ _ us hl => match us, hl with | [_, _], _ => rfl, PySem.W.mg_of X G ad20⟩⟩
  have FW := fun_mk (st := sLaw) lW oW kW
  have FN := fun_mk (st := sInit) lN oN kN
  have bN := FN.binds (ps := ["self", "parents", "bearing", "asking"]) fun _ _ _ _ _ _ us hl => match us, hl with | [_, _, _, _], _ => rfl
  have FE := fun_mk (st := sEqM) lE oE kE
  have bE := FE.binds (ps := ["self", "other"]) fun _ _ _ _ _ _ us hl => match us, hl with | [_, _], _ => rfl
  have T : FoT K mg C := ⟨⟨pg, hd, po, sa⟩, nP, nB, nA, PySem.W.mg_of X G aC⟩
  have B : Defs K mg C := ⟨NT, T, ⟨tm, PySem.W.mg_of X G mM⟩, ⟨tmMOST_AMOUNTS, PySem.W.mg_of X G mMOST_AMOUNTS⟩, ⟨tmMOST_ASK, PySem.W.mg_of X G mMOST_ASK⟩, PySem.W.mg_none_of X G zset, PySem.W.mg_none_of X G zsum, PySem.W.mg_none_of X G zdict, PySem.W.mg_none_of X G zValueError, ⟨_, _, FN, ⟨mk, aN, iN, kc⟩, bN⟩, ⟨_, _, FE, aE, iE, bE⟩, ⟨y1, y2, y3, y4⟩, neF, Dd0, Dd1, Dd2, Dd3, Dd4, Dd5, Dd6, Dd7, Dd8, Dd9, Dd10, Dd11, Dd12, Dd13, Dd14, Dd15, Dd16, Dd17, Dd18, Dd19, Dd20⟩
  exact ⟨PySem.W.fnOf "law" "law" (defArgs sLaw) (defBody sLaw) (defScope sLaw) .none kVW dcW pmW anW cdW ctW, fun s v => .of_eq rfl, fun base _ _ => ok_law FW B⟩
theorem walk {l : PySem.W.OpenLaw} {q : Program} {loose : List Str} {XP : (Str → Option Value) → Heap → Prop} {YP : World → Heap → Prop} {d : DefRec} {K : Params → PySem.W.Frag} (hn : l.most = some 63) (hdf : d.params.defaults = [])
    (hY : ∀ (w : World) (h : Heap), YP w h → (K w.params).In h)
    (F : ∀ (w : World) (mg : Str → Option Value) (fa : Addr) (h : Heap), (K w.params).In h → h.Ns mainGlobals mg → mg d.name = some (.ref fa) →
      ∃ fd : FuncData, (∀ (s : Shared) (u : Value), BindsTo s fd ⟨[u], []⟩ [("_law_script", u)]) ∧ ∀ base : Heap, (K w.params).In base → base.Ns mainGlobals mg → FnOk l.prog w (K w.params) mg base CX0 34 fa fd ["_law_script"] (spLaw (K w.params))) :
    PySem.W.WalkO q loose XP YP l.row.toRowW d [] (fun f vs => PySem.call f vs) :=
  L2.walk_of (n := 63) (k := 34) (x := "_law_script") (CX := fun _ => CX0) (sp := fun w => spLaw (K w.params)) hn (by decide) hdf ⟨rfl, by decide, by decide⟩ hY F (fun _ _ a ns hl _ hS => ⟨a, ns, rfl, hS, hl, fun _ => rfl⟩) fun _ _ _ _ _ z => z
end Cn
open PySem PySem.W PyProof.Rows
set_option maxRecDepth 100000 in
set_option maxHeartbeats 0 in
theorem PySem.Challenge.cw_cutnotes_k28_whole_tables_that_are_hiera_holds : PySem.Challenge.rw_cutnotes_k28_whole_tables_that_are_hiera.Holds := by
  w_on; o_law; k_head; (case hw => w_witness2)
  k_fill
  refine Cn.walk (l := PySem.Challenge.rw_cutnotes_k28_whole_tables_that_are_hiera) rfl rfl (fun w h Y => PySem.W.kIn_of Y) ?F
  case F =>
    intro w mg fa h KX G hmg
    refine' Cn.all_mk KX G hmg ?aC ?pg ?hd ?po ?sa ?mk ?kc ?nP ?nB ?nA ?mM ?mMOST_AMOUNTS ?mMOST_ASK ?aN ?iN ?lN ?oN ?kN ?aE ?iE ?lE ?oE ?kE ?y1 ?y2 ?y3 ?y4 ?neF ?a_d0 ?l_d0 ?o_d0 ?k_d0 ?a_d1 ?l_d1 ?o_d1 ?k_d1 ?a_d2 ?l_d2 ?o_d2 ?k_d2 ?a_d3 ?l_d3 ?o_d3 ?k_d3 ?a_d4 ?l_d4 ?o_d4 ?k_d4 ?a_d5 ?l_d5 ?o_d5 ?k_d5 ?a_d6 ?l_d6 ?o_d6 ?k_d6 ?a_d7 ?l_d7 ?o_d7 ?k_d7 ?a_d8 ?l_d8 ?o_d8 ?k_d8 ?a_d9 ?l_d9 ?o_d9 ?k_d9 ?a_d10 ?l_d10 ?o_d10 ?k_d10 ?a_d11 ?l_d11 ?o_d11 ?k_d11 ?a_d12 ?l_d12 ?o_d12 ?k_d12 ?a_d13 ?l_d13 ?o_d13 ?k_d13 ?a_d14 ?l_d14 ?o_d14 ?k_d14 ?a_d15 ?l_d15 ?o_d15 ?k_d15 ?a_d16 ?l_d16 ?o_d16 ?k_d16 ?a_d17 ?l_d17 ?o_d17 ?k_d17 ?a_d18 ?l_d18 ?o_d18 ?k_d18 ?a_d19 ?l_d19 ?o_d19 ?k_d19 ?a_d20 ?l_d20 ?o_d20 ?k_d20 ?a_W ?l_W ?o_W ?k_W ?z_isinstance ?z_tuple ?z_list ?z_bool ?z_len ?z_all ?z_zip ?z_int ?z_abs ?z_range ?z_enumerate ?z_reversed ?z_sorted ?z_min ?z_set ?z_sum ?z_dict ?z_ValueError
    (case aC => k_is); (case pg => k_is); (case hd => k_is); (case po => k_is); (case sa => k_is); (case mk => k_is); (case kc => k_is); (case nP => k_is)
    (case nB => k_is); (case nA => k_is); (case mM => k_is); (case mMOST_AMOUNTS => k_is); (case mMOST_ASK => k_is); (case aN => k_is); (case iN => k_is); (case lN => k_is)
    (case oN => k_is); (case kN => k_is); (case aE => k_is); (case iE => k_is); (case lE => k_is); (case oE => k_is); (case kE => k_is); (case y1 => k_is)
    (case y2 => k_is); (case y3 => k_is); (case y4 => k_is); (case neF => k_is); (case a_d0 => k_is); (case l_d0 => k_is); (case o_d0 => k_is); (case k_d0 => k_is)
    (case a_d1 => k_is); (case l_d1 => k_is); (case o_d1 => k_is); (case k_d1 => k_is); (case a_d2 => k_is); (case l_d2 => k_is); (case o_d2 => k_is); (case k_d2 => k_is)
    (case a_d3 => k_is); (case l_d3 => k_is); (case o_d3 => k_is); (case k_d3 => k_is); (case a_d4 => k_is); (case l_d4 => k_is); (case o_d4 => k_is); (case k_d4 => k_is)
    (case a_d5 => k_is); (case l_d5 => k_is); (case o_d5 => k_is); (case k_d5 => k_is); (case a_d6 => k_is); (case l_d6 => k_is); (case o_d6 => k_is); (case k_d6 => k_is)
    (case a_d7 => k_is); (case l_d7 => k_is); (case o_d7 => k_is); (case k_d7 => k_is); (case a_d8 => k_is); (case l_d8 => k_is); (case o_d8 => k_is); (case k_d8 => k_is)
    (case a_d9 => k_is); (case l_d9 => k_is); (case o_d9 => k_is); (case k_d9 => k_is); (case a_d10 => k_is); (case l_d10 => k_is); (case o_d10 => k_is); (case k_d10 => k_is)
    (case a_d11 => k_is); (case l_d11 => k_is); (case o_d11 => k_is); (case k_d11 => k_is); (case a_d12 => k_is); (case l_d12 => k_is); (case o_d12 => k_is); (case k_d12 => k_is)
    (case a_d13 => k_is); (case l_d13 => k_is); (case o_d13 => k_is); (case k_d13 => k_is); (case a_d14 => k_is); (case l_d14 => k_is); (case o_d14 => k_is); (case k_d14 => k_is)
    (case a_d15 => k_is); (case l_d15 => k_is); (case o_d15 => k_is); (case k_d15 => k_is); (case a_d16 => k_is); (case l_d16 => k_is); (case o_d16 => k_is); (case k_d16 => k_is)
    (case a_d17 => k_is); (case l_d17 => k_is); (case o_d17 => k_is); (case k_d17 => k_is); (case a_d18 => k_is); (case l_d18 => k_is); (case o_d18 => k_is); (case k_d18 => k_is)
    (case a_d19 => k_is); (case l_d19 => k_is); (case o_d19 => k_is); (case k_d19 => k_is); (case a_d20 => k_is); (case l_d20 => k_is); (case o_d20 => k_is); (case k_d20 => k_is)
    (case a_W => k_is); (case l_W => k_is); (case o_W => k_is); (case k_W => k_is); (case z_isinstance => k_is); (case z_tuple => k_is); (case z_list => k_is); (case z_bool => k_is)
    (case z_len => k_is); (case z_all => k_is); (case z_zip => k_is); (case z_int => k_is); (case z_abs => k_is); (case z_range => k_is); (case z_enumerate => k_is); (case z_reversed => k_is)
    (case z_sorted => k_is); (case z_min => k_is); (case z_set => k_is); (case z_sum => k_is); (case z_dict => k_is); (case z_ValueError => k_is)
#print axioms PySem.Challenge.cw_cutnotes_k28_whole_tables_that_are_hiera_holds
