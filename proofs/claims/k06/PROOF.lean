import PyProof.Rows.All
import Wide.All
import OpenK.AllK
import Wide.FinOn
import HandS.Base
import HandS.Call
import HandS.List
import HandS.Comp
import HandS.Ends
import HandS.Dict
import HandS.Iter
import HandS.Words
import HandS.WordsList
import PySem.Challenge.RW_cutnotes_k06_whole_plans_counted_and_num
import HandS.Zip
import HandS.IsInst
import HandS.DeepEq
import HandS.Codes
import KE.GoesMore
import KE.GoesEnum
import PyProof.EnumMake
import PyProof.Draws
import HandS.TupAny
import HandS.Rev
import HandS.Conv
import HandS.Walk
import HandS.More
import HandS.Strs
import HandS.Flow
import HandS.Style
import HandS.DictComp
import HandS.Wide
import HandS.RevRange
import PyProof.ListMulRoad
import PyProof.FactsAll.tuple_2
import HandS.TupMul
import HandS.ForMost
set_option Elab.async false
set_option linter.all false
set_option maxRecDepth 100000
set_option maxHeartbeats 4000000
namespace Ck
def road (ps : List (Option Nat)) (i : Nat) : List Nat :=
  match ps[i]? with
  | some (some p) => if _h : p < i then road ps p ++ [i] else [i]
  | _ => [i]
termination_by i
def stk (ps : List (Option Nat)) (lv : List Nat) (i : Nat) : List Nat :=
  match ps[i]? with
  | some (some p) => if _h : p < i then (stk ps lv p).take (lv.getD i 0 - 1) ++ [i] else [i]
  | _ => [i]
termination_by i
def Ps (ps : List (Option Nat)) : Prop := ∀ (i p : Nat), ps[i]? = some (some p) → p < i
/-- the most that the level of i may be, by the levels ahead -/
def mostLv (lv : List Nat) : Option Nat → Nat
  | none => 1
  | some p => lv.getD p 0 + 1
def Lv (ps : List (Option Nat)) (lv : List Nat) : Prop := lv.length = ps.length ∧ ∀ (i l : Nat) (q : Option Nat), lv[i]? = some l → ps[i]? = some q → 1 ≤ l ∧ l ≤ mostLv lv q
section
variable {ps : List (Option Nat)} {lv : List Nat} {i p : Nat}
theorem road_none (h : ps[i]? = some none) : road ps i = [i] := by
  rw [road, h]
theorem road_some (hp : Ps ps) (h : ps[i]? = some (some p)) : road ps i = road ps p ++ [i] := by
  have hl := hp i p h
  rw [road, h]
  dsimp only
  rw [dif_pos hl]
theorem stk_none (h : ps[i]? = some none) : stk ps lv i = [i] := by
  rw [stk, h]
theorem stk_some (hp : Ps ps) (h : ps[i]? = some (some p)) : stk ps lv i = (stk ps lv p).take (lv.getD i 0 - 1) ++ [i] := by
  have hl := hp i p h
  rw [stk, h]
  dsimp only
  rw [dif_pos hl]
theorem opt_cases (hi : i < ps.length) : ps[i]? = some none ∨ ∃ p, ps[i]? = some (some p) := by
  rw [List.getElem?_eq_getElem hi]
  cases h : ps[i] with
  | none => exact .inl rfl
  | some p => exact .inr ⟨p, rfl⟩
theorem road_le (hp : Ps ps) : ∀ n, n < ps.length → ∀ x ∈ road ps n, x ≤ n := by
  intro n
  induction n using Nat.strongRecOn with
  | ind n ih =>
    intro hn x hx
    rcases opt_cases hn with h | ⟨p, h⟩
    · rw [road_none h] at hx
      exact Nat.le_of_eq (List.mem_singleton.mp hx)
    · rw [road_some hp h] at hx
      have hl := hp n p h
      rcases List.mem_append.mp hx with hx | hx
      · exact Nat.le_of_lt (Nat.lt_of_le_of_lt (ih p hl (Nat.lt_trans hl hn) x hx) hl)
      · exact Nat.le_of_eq (List.mem_singleton.mp hx)
theorem road_self (hp : Ps ps) (hi : i < ps.length) : i ∈ road ps i := by
  rcases opt_cases hi with h | ⟨p, h⟩
  · rw [road_none h]; exact List.mem_singleton.mpr rfl
  · rw [road_some hp h]; exact List.mem_append.mpr (.inr (List.mem_singleton.mpr rfl))
theorem road_ne (hp : Ps ps) (hi : i < ps.length) : road ps i ≠ [] := fun z => by
  have h := road_self hp hi
  rw [z] at h; cases h
theorem road_len (hp : Ps ps) : ∀ n, n < ps.length → (road ps n).length ≤ n + 1 := by
  intro n
  induction n using Nat.strongRecOn with
  | ind n ih =>
    intro hn
    rcases opt_cases hn with h | ⟨p, h⟩
    · rw [road_none h]; exact Nat.le_add_left _ _
    · have hl := hp n p h
      have := ih p hl (Nat.lt_trans hl hn)
      rw [road_some hp h, List.length_append, List.length_singleton]
      omega
theorem getD_of {xs : List Nat} {l : Nat} (h : xs[i]? = some l) : xs.getD i 0 = l := by
  rw [List.getD_eq_getElem?_getD, h]; rfl
theorem stk_len (hp : Ps ps) (hv : Lv ps lv) : ∀ n, n < ps.length → (stk ps lv n).length = lv.getD n 0 := by
  intro n
  induction n using Nat.strongRecOn with
  | ind n ih =>
    intro hn
    have hl : lv[n]? = some (lv.getD n 0) := by
      rw [List.getD_eq_getElem?_getD, List.getElem?_eq_getElem (by rw [hv.1]; exact hn)]; rfl
    rcases opt_cases hn with h | ⟨p, h⟩
    · have := hv.2 n _ _ hl h
      rw [stk_none h, List.length_singleton]
      have e : mostLv lv none = 1 := rfl
      omega
    · have hpn := hp n p h
      have := hv.2 n _ _ hl h
      have e := ih p hpn (Nat.lt_trans hpn hn)
      have e2 : mostLv lv (some p) = lv.getD p 0 + 1 := rfl
      rw [stk_some hp h, List.length_append, List.length_singleton, List.length_take, e]
      omega
theorem stk_sub (hp : Ps ps) : ∀ n, n < ps.length → ∀ x ∈ stk ps lv n, x ∈ road ps n := by
  intro n
  induction n using Nat.strongRecOn with
  | ind n ih =>
    intro hn x hx
    rcases opt_cases hn with h | ⟨p, h⟩
    · rw [stk_none h] at hx
      rw [road_none h]; exact hx
    · have hl := hp n p h
      rw [stk_some hp h] at hx
      rw [road_some hp h]
      rcases List.mem_append.mp hx with hx | hx
      · exact List.mem_append.mpr (.inl (ih p hl (Nat.lt_trans hl hn) x (List.mem_of_mem_take hx)))
      · exact List.mem_append.mpr (.inr hx)
end
/-! those of a list that rank below all behind them -/
def rlm (rk : Nat → Nat) : List Nat → List Nat
  | [] => []
  | x :: xs => if ∀ y ∈ xs, rk x < rk y then x :: rlm rk xs else rlm rk xs
section
variable {rk rk' : Nat → Nat}
theorem rlm_mem : ∀ {xs : List Nat} {x : Nat}, x ∈ rlm rk xs → x ∈ xs
  | [], _, h => by cases h
  | y :: ys, x, h => by
    unfold rlm at h
    split at h
    · rcases List.mem_cons.mp h with e | h
      · rw [e]; exact List.mem_cons_self
      · exact List.mem_cons_of_mem _ (rlm_mem h)
    · exact List.mem_cons_of_mem _ (rlm_mem h)
theorem rlm_sorted : ∀ xs : List Nat, (rlm rk xs).Pairwise (fun a b => rk a < rk b)
  | [] => .nil
  | y :: ys => by
    unfold rlm
    split
    · rename_i h
      exact .cons (fun z hz => h z (rlm_mem hz)) (rlm_sorted ys)
    · exact rlm_sorted ys
theorem rlm_congr : ∀ {xs : List Nat}, (∀ x ∈ xs, ∀ y ∈ xs, (rk x < rk y ↔ rk' x < rk' y)) → rlm rk xs = rlm rk' xs
  | [], _ => rfl
  | y :: ys, h => by
    have ih := rlm_congr (xs := ys) fun x hx z hz => h x (List.mem_cons_of_mem _ hx) z (List.mem_cons_of_mem _ hz)
    have e : (∀ z ∈ ys, rk y < rk z) ↔ (∀ z ∈ ys, rk' y < rk' z) := ⟨fun q z hz => (h y List.mem_cons_self z (List.mem_cons_of_mem _ hz)).mp (q z hz), fun q z hz => (h y List.mem_cons_self z (List.mem_cons_of_mem _ hz)).mpr (q z hz)⟩
    unfold rlm
    rw [ih]
    by_cases c : ∀ z ∈ ys, rk y < rk z
    · rw [if_pos c, if_pos (e.mp c)]
    · rw [if_neg c, if_neg (fun z => c (e.mpr z))]
theorem rlm_snoc (k : Nat) : ∀ xs : List Nat, rlm rk (xs ++ [k]) = (rlm rk xs).filter (fun x => decide (rk x < rk k)) ++ [k]
  | [] => by
    show (if ∀ y ∈ ([] : List Nat), rk k < rk y then k :: rlm rk [] else rlm rk []) = _
    rw [if_pos (fun y hy => by cases hy)]; rfl
  | y :: ys => by
    have ih := rlm_snoc k ys
    show (if ∀ z ∈ ys ++ [k], rk y < rk z then y :: rlm rk (ys ++ [k]) else rlm rk (ys ++ [k])) = (if ∀ z ∈ ys, rk y < rk z then y :: rlm rk ys else rlm rk ys).filter _ ++ [k]
    rw [ih]
    by_cases c : ∀ z ∈ ys, rk y < rk z
    · rw [if_pos c]
      by_cases d : rk y < rk k
      · rw [if_pos (fun z hz => by
          rcases List.mem_append.mp hz with hz | hz
          · exact c z hz
          · rw [List.mem_singleton.mp hz]; exact d), List.filter_cons_of_pos (by simpa using d)]
        rfl
      · rw [if_neg (fun q => d (q k (List.mem_append.mpr (.inr (List.mem_singleton.mpr rfl))))), List.filter_cons_of_neg (by simpa using d)]
    · rw [if_neg c, if_neg (fun q => c fun z hz => q z (List.mem_append.mpr (.inl hz)))]
end
theorem filter_take {f : Nat → Nat} : ∀ {L : List Nat} {m x : Nat}, L.Pairwise (fun a b => f a < f b) → L[m]? = some x → L.filter (fun y => decide (f y < f x)) = L.take m
  | [], m, x, _, h => by rw [List.getElem?_nil] at h; cases h
  | a :: L, 0, x, p, h => by
    cases h
    rw [List.take_zero, List.filter_eq_nil_iff]
    intro b hb
    rcases List.mem_cons.mp hb with e | hb
    · rw [e]; simp
    · have := (List.pairwise_cons.mp p).1 b hb
      simp; omega
  | a :: L, m + 1, x, p, h => by
    rw [List.getElem?_cons_succ] at h
    have hx : x ∈ L := List.mem_of_getElem? h
    have := (List.pairwise_cons.mp p).1 x hx
    rw [List.filter_cons_of_pos (by simpa using this), List.take_succ_cons, filter_take (List.pairwise_cons.mp p).2 h]
/-! one thing put into an order -/
theorem idx_ne {a x : Nat} {l : List Nat} (h : ¬ a = x) : (a :: l).idxOf x = l.idxOf x + 1 := by
  rw [List.idxOf_cons]
  have e : (a == x) = false := by simpa using h
  rw [e]; rfl
theorem getD_at {L : List Nat} {m : Nat} (h : m < L.length) : L[m]? = some (L.getD m 0) := by
  rw [List.getD_eq_getElem?_getD, List.getElem?_eq_getElem h]; rfl
def putAt (ord : List Nat) (j k : Nat) : List Nat := ord.take j ++ k :: ord.drop j
theorem putAt_new : ∀ {ord : List Nat} {j k : Nat}, k ∉ ord → j ≤ ord.length → (putAt ord j k).idxOf k = j
  | ord, 0, k, _, _ => by
    show (k :: ord.drop 0).idxOf k = 0
    rw [List.idxOf_cons_self]
  | [], j + 1, k, _, h => by cases h
  | a :: ord, j + 1, k, hk, hj => by
    have ne : ¬ a = k := fun e => hk (by rw [e]; exact List.mem_cons_self)
    show (a :: putAt ord j k).idxOf k = j + 1
    rw [idx_ne ne, putAt_new (fun h => hk (List.mem_cons_of_mem _ h)) (Nat.le_of_succ_le_succ hj)]
theorem putAt_old : ∀ {ord : List Nat} {j k x : Nat}, k ∉ ord → j ≤ ord.length → x ∈ ord → (putAt ord j k).idxOf x = if ord.idxOf x < j then ord.idxOf x else ord.idxOf x + 1
  | [], j, k, x, _, _, h => by cases h
  | a :: ord, 0, k, x, hk, _, hx => by
    have ne : ¬ k = x := fun e => hk (by rw [e]; exact hx)
    show (k :: a :: ord).idxOf x = _
    rw [idx_ne ne, if_neg (Nat.not_lt_zero _)]
  | a :: ord, j + 1, k, x, hk, hj, hx => by
    show (a :: putAt ord j k).idxOf x = _
    by_cases e : a = x
    · rw [e, List.idxOf_cons_self, List.idxOf_cons_self, if_pos (Nat.succ_pos _)]
    · have hx' : x ∈ ord := (List.mem_cons.mp hx).resolve_left fun z => e z.symm
      rw [idx_ne e, idx_ne e, putAt_old (fun h => hk (List.mem_cons_of_mem _ h)) (Nat.le_of_succ_le_succ hj) hx']
      by_cases c : ord.idxOf x < j
      · rw [if_pos c, if_pos (Nat.succ_lt_succ c)]
      · rw [if_neg c, if_neg fun z => c (Nat.lt_of_succ_lt_succ z)]
theorem putAt_mem {ord : List Nat} {j k x : Nat} : x ∈ putAt ord j k ↔ x = k ∨ x ∈ ord := by
  unfold putAt
  rw [List.mem_append, List.mem_cons]
  have h : x ∈ ord ↔ x ∈ ord.take j ∨ x ∈ ord.drop j := by
    rw [← List.mem_append, List.take_append_drop]
  rw [h]
  constructor
  · rintro (a | a | a)
    · exact .inr (.inl a)
    · exact .inl a
    · exact .inr (.inr a)
  · rintro (a | a | a)
    · exact .inr (.inl a)
    · exact .inl a
    · exact .inr (.inr a)
theorem putAt_nd {ord : List Nat} {j k : Nat} (h : ord.Nodup) (hk : k ∉ ord) : (putAt ord j k).Nodup := by
  unfold putAt
  have e : (ord.take j ++ ord.drop j).Nodup := by rw [List.take_append_drop]; exact h
  rw [List.nodup_append] at e ⊢
  refine ⟨e.1, List.nodup_cons.mpr ⟨fun z => hk (List.mem_of_mem_drop z), e.2.1⟩, fun a ha b hb => ?_⟩
  rcases List.mem_cons.mp hb with z | hb
  · intro q
    rw [q, z] at ha
    exact hk (List.mem_of_mem_take ha)
  · exact e.2.2 a ha b hb
theorem putAt_len {ord : List Nat} {j k : Nat} : (putAt ord j k).length = ord.length + 1 := by
  unfold putAt
  rw [List.length_append, List.length_cons, List.length_take, List.length_drop]
  omega
/-! the order that the levels tell -/
def above (ps : List (Option Nat)) (lv : List Nat) (i : Nat) : List Nat :=
  match ps[i]? with
  | some (some p) => stk ps lv p
  | _ => []
theorem above_none {ps : List (Option Nat)} {lv : List Nat} {i : Nat} (h : ps[i]? = some none) : above ps lv i = [] := by unfold above; rw [h]
theorem above_some {ps : List (Option Nat)} {lv : List Nat} {i p : Nat} (h : ps[i]? = some (some p)) : above ps lv i = stk ps lv p := by unfold above; rw [h]
def ordAt (ps : List (Option Nat)) (lv : List Nat) (ord : List Nat) (i : Nat) : Nat :=
  if lv.getD i 0 ≤ (above ps lv i).length then ord.idxOf ((above ps lv i).getD (lv.getD i 0 - 1) 0) else ord.length
def ordOf (ps : List (Option Nat)) (lv : List Nat) : Nat → List Nat
  | 0 => []
  | k + 1 => putAt (ordOf ps lv k) (ordAt ps lv (ordOf ps lv k) k) k
theorem ordAt_le {ps : List (Option Nat)} {lv ord : List Nat} {i : Nat} : ordAt ps lv ord i ≤ ord.length := by
  unfold ordAt
  split
  · exact List.idxOf_le_length
  · exact Nat.le_refl _
theorem ord_inv {ps : List (Option Nat)} {lv : List Nat} (hp : Ps ps) (hv : Lv ps lv) : ∀ k, k ≤ ps.length → (ordOf ps lv k).Nodup ∧ (∀ x, x ∈ ordOf ps lv k ↔ x < k) ∧ ∀ i, i < k → stk ps lv i = rlm (fun x => (ordOf ps lv k).idxOf x) (road ps i) := by
  intro k
  induction k with
  | zero => exact fun _ => ⟨List.nodup_nil, fun x => ⟨fun z => (by cases z), fun z => absurd z (Nat.not_lt_zero _)⟩, fun i z => absurd z (Nat.not_lt_zero _)⟩
  | succ k ih =>
    intro hk
    obtain ⟨nd, hm, hs⟩ := ih (Nat.le_of_succ_le hk)
    have kn : k ∉ ordOf ps lv k := fun z => Nat.lt_irrefl _ ((hm k).mp z)
    have jl := ordAt_le (ps := ps) (lv := lv) (ord := ordOf ps lv k) (i := k)
    show (putAt _ _ k).Nodup ∧ (∀ x, x ∈ putAt _ _ k ↔ x < k + 1) ∧ ∀ i, i < k + 1 → stk ps lv i = rlm (fun x => (putAt (ordOf ps lv k) (ordAt ps lv (ordOf ps lv k) k) k).idxOf x) (road ps i)
    have hj : ordAt ps lv (ordOf ps lv k) k = if lv.getD k 0 ≤ (above ps lv k).length then (ordOf ps lv k).idxOf ((above ps lv k).getD (lv.getD k 0 - 1) 0) else (ordOf ps lv k).length := rfl
    generalize ordOf ps lv k = ord at nd hm hs kn jl hj ⊢
    generalize ordAt ps lv ord k = j at jl hj ⊢
    have old : ∀ x, x < k → (putAt ord j k).idxOf x = if ord.idxOf x < j then ord.idxOf x else ord.idxOf x + 1 := fun x hx => putAt_old kn jl ((hm x).mpr hx)
    have cg : ∀ n, n < k → rlm (fun x => (putAt ord j k).idxOf x) (road ps n) = stk ps lv n := fun n hn => by
      rw [hs n hn]
      refine rlm_congr fun x hx y hy => ?_
      have h1 := Nat.lt_of_le_of_lt (road_le hp n (by omega) x hx) hn
      have h2 := Nat.lt_of_le_of_lt (road_le hp n (by omega) y hy) hn
      show (putAt ord j k).idxOf x < (putAt ord j k).idxOf y ↔ _
      rw [old x h1, old y h2]
      split <;> split <;> omega
    refine ⟨putAt_nd nd kn, fun x => ?_, fun i hi => ?_⟩
    · rw [putAt_mem, hm]
      omega
    · by_cases hik : i < k
      · exact (cg i hik).symm
      · have e : i = k := by omega
        subst e
        have hl : lv[i]? = some (lv.getD i 0) := by
          rw [List.getD_eq_getElem?_getD, List.getElem?_eq_getElem (by rw [hv.1]; omega)]; rfl
        rcases opt_cases (ps := ps) (i := i) (by omega) with h | ⟨p, h⟩
        · rw [stk_none h, road_none h]
          show _ = rlm _ ([] ++ [i])
          rw [rlm_snoc]; rfl
        · have hpi := hp i p h
          have hlv := hv.2 i _ _ hl h
          have hml : mostLv lv (some p) = lv.getD p 0 + 1 := rfl
          have ea : above ps lv i = stk ps lv p := by unfold above; rw [h]
          have hlen := stk_len hp hv p (by omega)
          rw [stk_some hp h, road_some hp h, rlm_snoc, cg p hpi, putAt_new kn jl]
          congr 1
          rw [ea] at hj
          have flt : ∀ x ∈ stk ps lv p, decide ((putAt ord j i).idxOf x < j) = decide (ord.idxOf x < j) := fun x hx => by
            have hx2 := Nat.lt_of_le_of_lt (road_le hp p (by omega) x (stk_sub hp p (by omega) x hx)) hpi
            rw [old x hx2]
            congr 1
            refine propext ⟨fun z => ?_, fun z => ?_⟩
            · split at z <;> omega
            · rw [if_pos z]; exact z
          rw [List.filter_congr flt]
          by_cases c : lv.getD i 0 ≤ (stk ps lv p).length
          · rw [if_pos c] at hj
            have hm2 : lv.getD i 0 - 1 < (stk ps lv p).length := by omega
            have hg := getD_at hm2
            rw [hj]
            refine (filter_take ?_ hg).symm
            rw [hs p hpi]
            exact rlm_sorted _
          · rw [if_neg c] at hj
            rw [List.take_of_length_le (by omega), List.filter_eq_self.mpr]
            intro x hx
            have hx2 := Nat.lt_of_le_of_lt (road_le hp p (by omega) x (stk_sub hp p (by omega) x hx)) hpi
            have := List.idxOf_lt_length_of_mem ((hm x).mpr hx2)
            rw [hj]
            exact decide_eq_true this
/-- what the order tells of each place: its level -/
theorem ord_lv {ps : List (Option Nat)} {lv : List Nat} (hp : Ps ps) (hv : Lv ps lv) {i : Nat} (hi : i < ps.length) : (rlm (fun x => (ordOf ps lv ps.length).idxOf x) (road ps i)).length = lv.getD i 0 := by
  rw [← (ord_inv hp hv ps.length (Nat.le_refl _)).2.2 i hi]
  exact stk_len hp hv i hi
theorem ord_len {ps : List (Option Nat)} {lv : List Nat} : ∀ k, (ordOf ps lv k).length = k
  | 0 => rfl
  | k + 1 => by
    show (putAt _ _ k).length = k + 1
    rw [putAt_len, ord_len k]
theorem above_sub {ps : List (Option Nat)} {lv : List Nat} {i x : Nat} (hp : Ps ps) (hi : i < ps.length) (hx : x ∈ above ps lv i) : x < i := by
  rcases opt_cases hi with h | ⟨p, h⟩
  · rw [above_none h] at hx; cases hx
  · rw [above_some h] at hx
    have hl := hp i p h
    exact Nat.lt_of_le_of_lt (road_le hp p (Nat.lt_trans hl hi) x (stk_sub hp p (Nat.lt_trans hl hi) x hx)) hl
theorem putAt_end {ord : List Nat} {k : Nat} : putAt ord ord.length k = ord ++ [k] := by
  unfold putAt
  rw [List.take_length, List.drop_length]
/-- how many are not above any behind them -/
def cntMin : List Nat → Nat
  | [] => 0
  | x :: xs => (if ∀ y ∈ xs, x ≤ y then 1 else 0) + cntMin xs
theorem cnt_rlm {rk : Nat → Nat} : ∀ {xs : List Nat}, xs.Nodup → (∀ x ∈ xs, ∀ y ∈ xs, x ≠ y → rk x ≠ rk y) → cntMin (xs.map rk) = (rlm rk xs).length
  | [], _, _ => rfl
  | x :: xs, nd, inj => by
    have ih := cnt_rlm (xs := xs) (List.nodup_cons.mp nd).2 fun a ha b hb => inj a (List.mem_cons_of_mem _ ha) b (List.mem_cons_of_mem _ hb)
    show (if ∀ y ∈ xs.map rk, rk x ≤ y then 1 else 0) + cntMin (xs.map rk) = (if ∀ y ∈ xs, rk x < rk y then x :: rlm rk xs else rlm rk xs).length
    have e : (∀ y ∈ xs.map rk, rk x ≤ y) ↔ ∀ y ∈ xs, rk x < rk y := by
      constructor
      · intro h y hy
        have h1 := h (rk y) (List.mem_map.mpr ⟨y, hy, rfl⟩)
        have h2 := inj x List.mem_cons_self y (List.mem_cons_of_mem _ hy) fun z => (List.nodup_cons.mp nd).1 (z ▸ hy)
        omega
      · intro h z hz
        obtain ⟨y, hy, rfl⟩ := List.mem_map.mp hz
        exact Nat.le_of_lt (h y hy)
    rw [ih]
    by_cases c : ∀ y ∈ xs, rk x < rk y
    · rw [if_pos (e.mpr c), if_pos c, List.length_cons]; omega
    · rw [if_neg (fun z => c (e.mp z)), if_neg c]; omega
theorem road_nd {ps : List (Option Nat)} (hp : Ps ps) : ∀ n, n < ps.length → (road ps n).Nodup := by
  intro n
  induction n using Nat.strongRecOn with
  | ind n ih =>
    intro hn
    rcases opt_cases hn with h | ⟨p, h⟩
    · rw [road_none h]; exact List.nodup_cons.mpr ⟨fun z => (by cases z), List.nodup_nil⟩
    · have hl := hp n p h
      rw [road_some hp h, List.nodup_append]
      refine ⟨ih p hl (Nat.lt_trans hl hn), List.nodup_cons.mpr ⟨fun z => (by cases z), List.nodup_nil⟩, fun a ha b hb => ?_⟩
      rw [List.mem_singleton.mp hb]
      have := road_le hp p (Nat.lt_trans hl hn) a ha
      omega
/-- one plan's levels under a place put for another's -/
def mixLv (ps : List (Option Nat)) (l1 l2 : List Nat) (i : Nat) (at_ : Nat) : Nat := if i ∈ road ps at_ then l2.getD at_ 0 else l1.getD at_ 0
theorem mix_ok {ps : List (Option Nat)} {l1 l2 : List Nat} {i : Nat} (hp : Ps ps) (h1 : Lv ps l1) (h2 : Lv ps l2) (hi : i < ps.length)
    (hc : ∀ p, ps[i]? = some (some p) → mixLv ps l1 l2 i i ≤ mixLv ps l1 l2 i p + 1) : Lv ps ((List.range ps.length).map (mixLv ps l1 l2 i)) := by
  refine ⟨by rw [List.length_map, List.length_range], fun j l q hl hq => ?_⟩
  have hj : j < ps.length := (List.getElem?_eq_some_iff.mp hq).1
  have hg : ∀ k, k < ps.length → ((List.range ps.length).map (mixLv ps l1 l2 i)).getD k 0 = mixLv ps l1 l2 i k := fun k hk => by
    rw [List.getD_eq_getElem?_getD, List.getElem?_map, List.getElem?_range hk]; rfl
  have el : l = mixLv ps l1 l2 i j := by rw [← hg j hj, getD_of hl]
  have a1 := h1.2 j _ q (getD_at (by rw [h1.1]; exact hj)) hq
  have a2 := h2.2 j _ q (getD_at (by rw [h2.1]; exact hj)) hq
  cases q with
  | none =>
    have e : ∀ lv, mostLv lv none = 1 := fun _ => rfl
    rw [e] at a1 a2 ⊢
    rw [el]
    unfold mixLv
    split <;> omega
  | some p =>
    have hpj := hp j p hq
    have e : ∀ lv, mostLv lv (some p) = lv.getD p 0 + 1 := fun _ => rfl
    rw [e] at a1 a2 ⊢
    rw [hg p (Nat.lt_trans hpj hj), el]
    by_cases ej : j = i
    · subst ej
      refine ⟨?_, hc p hq⟩
      unfold mixLv
      split <;> omega
    · have em : i ∈ road ps j ↔ i ∈ road ps p := by
        rw [road_some hp hq, List.mem_append]
        constructor
        · rintro (h | h)
          · exact h
          · exact absurd (List.mem_singleton.mp h).symm ej
        · exact fun h => .inl h
      unfold mixLv
      by_cases c : i ∈ road ps p
      · rw [if_pos (em.mpr c), if_pos c]; exact a2
      · rw [if_neg (fun z => c (em.mp z)), if_neg c]; exact a1
theorem cnt_cons_yes {x : Nat} {t : List Nat} (c : ∀ y ∈ t, x ≤ y) : cntMin (x :: t) = 1 + cntMin t := by
  show (if ∀ y ∈ t, x ≤ y then 1 else 0) + cntMin t = _
  rw [if_pos c]
theorem cnt_cons_no {x : Nat} {t : List Nat} (c : ¬ ∀ y ∈ t, x ≤ y) : cntMin (x :: t) = cntMin t := by
  show (if ∀ y ∈ t, x ≤ y then 1 else 0) + cntMin t = _
  rw [if_neg c, Nat.zero_add]
theorem cnt_yes {l : List Nat} {i x : Nat} (h : l[i]? = some x) (c : ∀ y ∈ l.drop (i + 1), x ≤ y) : cntMin (l.drop i) = 1 + cntMin (l.drop (i + 1)) := by
  obtain ⟨hi, e⟩ := List.getElem?_eq_some_iff.mp h
  rw [List.drop_eq_getElem_cons hi, e]
  exact cnt_cons_yes c
theorem cnt_no {l : List Nat} {i x : Nat} (h : l[i]? = some x) (c : ¬ ∀ y ∈ l.drop (i + 1), x ≤ y) : cntMin (l.drop i) = cntMin (l.drop (i + 1)) := by
  obtain ⟨hi, e⟩ := List.getElem?_eq_some_iff.mp h
  rw [List.drop_eq_getElem_cons hi, e]
  exact cnt_cons_no c
end Ck
namespace Cn
open PySem PySem.Spec PyProof.Rows L2
def topS (i : Nat) : Stmt := PySem.Challenge.pw_cutnotes_k06_whole_plans_counted_and_num.main.body.getD i (.Pass ⟨0, 0, 0, 0⟩)
abbrev sIsInt : Stmt := topS 8
abbrev sIsBtw : Stmt := topS 9
abbrev sIsLot : Stmt := topS 10
abbrev sLotOf : Stmt := topS 14
abbrev sIsPlace : Stmt := topS 15
abbrev sWay : Stmt := topS 16
abbrev sIsPlan : Stmt := topS 18
abbrev sHand : Stmt := topS 28
abbrev sDraw : Stmt := topS 29
abbrev sIs : Stmt := topS 30
abbrev sParents : Stmt := topS 31
abbrev sLawLot : Stmt := topS 32
abbrev sLevels : Stmt := topS 34
abbrev sTold : Stmt := topS 35
abbrev sMade : Stmt := topS 36
abbrev sPlans : Stmt := topS 33
abbrev sWays : Stmt := topS 21
abbrev sTotal : Stmt := topS 22
abbrev sCountPlans : Stmt := topS 23
abbrev sPlanAt : Stmt := topS 24
abbrev sPlanNumber : Stmt := topS 25
abbrev sAllPlans : Stmt := topS 26
abbrev sLCounted : Stmt := topS 38
abbrev sGreatP : Stmt := topS 39
abbrev sBrk : Stmt := topS 40
abbrev sLast : Stmt := topS 41
abbrev sLNumber : Stmt := topS 42
abbrev sGreatR : Stmt := topS 43
abbrev sInit : Stmt := inClass (topS 13) 0
abbrev sEqM : Stmt := inClass (topS 13) 1
abbrev sLaw : Stmt := topS 44
/-! heaps -/
theorem smUpd {H : Hp} {p : Addr} {o : HO} (h : H p = none) : Same H (upd H p o) := fun b x e => by
  rw [upd_ne (ne_of_none e h)]
  exact e
theorem cutTake (xs : List V) (n : Nat) : cutV xs none (some (n : Int)) = xs.take n := by
  unfold cutV
  rw [HT.sIx_none, HT.sIx_nat]
  show (xs.drop 0).take (min n xs.length - 0) = xs.take n
  rw [List.drop_zero, Nat.sub_zero]
  by_cases h : n ≤ xs.length
  · rw [Nat.min_eq_left h]
  · rw [Nat.min_eq_right (by omega), List.take_length, List.take_of_length_le (by omega)]
theorem getMap {xs : List Int} {i : Nat} {v : V} (h : (xs.map V.int)[i]? = some v) : ∃ z, xs[i]? = some z ∧ v = .int z := by
  rw [List.getElem?_map] at h
  cases e : xs[i]? with
  | none => rw [e] at h; cases h
  | some z => rw [e] at h; exact ⟨z, rfl, (Option.some.inj h).symm⟩
/-! the hand that deals -/
abbrev handL (c : Addr) (i g m t : Int) : HO := .lst [.ref c, .int i, .int g, .int m, .int t]
structure HandIn (H : Hp) (p c : Addr) (cells : List Int) : Prop where
  ob : ∃ i g m t : Int, H p = some (handL c i g m t) ∧ 0 ≤ i
  ce : H c = some (.lst (cells.map V.int))
  ne : p ≠ c
def spHand (K : PySem.W.Frag) : Sp := fun vs H Q _ => ∃ (a : Addr) (ns : List Int), vs = [.ref a] ∧ SqL K H a (ns.map V.int) ∧ ns.length ≤ 63 ∧
  ∀ (H' : Hp) (p c : Addr) (cells : List Int), Same H H' → H p = none → H c = none → HandIn H' p c cells → Q (.ref p) H'
def nHand : List Str := ["_law_script", "_law_cells", "_law_cell"]
theorem scHand : FnScope nHand ["_law_script"] (defScope sHand) := ⟨rfl, rfl, rfl, by decide +kernel, rfl, by decide +kernel, by decide +kernel⟩
section
variable {P : Program} {w : World} {K : PySem.W.Frag} {mg : Str → Option Value} {base : Heap}
theorem ok_hand {f : Addr} {fd : FuncData} (F : Fun K "_law_hand" "_law_hand" sHand f fd) (mAbs : mg "abs" = none) (mInt : mg "int" = none) (mLen : mg "len" = none) : FnOk P w K mg base CX0 1 f fd ["_law_script"] (spHand K) := by
  refine F.ok scHand (fun vs H Q E h => ?_) (fun cdv A outer s H vs Q E hr h => ?_)
  · obtain ⟨a, ns, rfl, _⟩ := h
    rfl
  · obtain ⟨a, ns, rfl, hS, hlen, k⟩ := h
    refine ⟨_, pss_cons (ps_setLc (i := 1) (own := [("_law_cell", 2)]) (g := gName 2) (tt := tYes) rfl scHand.nd rfl rfl (sw_true rfl rfl rfl (by decide +kernel))
        (pi_list (pe_slice sl_list (pv 0) po_none (po_some pe_int))) (blkOk_by (N := nHand) (sc := defScope sHand) (by decide +kernel))
        (fun _ _ _ _ _ => pg_name (i := 2) scHand.nd rfl (Or.inl rfl)) (fun _ _ _ _ _ => pts_nil)
        (fun _ _ _ _ _ => pe_callB call_abs (by rfl) mAbs (by decide +kernel) (pa_cons (pe_callTy call_int1 (by rfl) mInt (by decide +kernel) (pa_cons (pv 2) pa_nil)) pa_nil)))
      (pss_one (ps_ret (pe_lst (pa_cons (pv 1) (pa_cons pe_int (pa_cons pe_int (pa_cons (pe_op op_add pe_int (pe_callB call_len_seq (by rfl) mLen PySem.boot_len (pa_cons (pv 1) pa_nil))) (pa_cons pe_int pa_nil)))))))), ?_⟩
    refine ⟨.ref a, rfl, 63, rfl, a, ns.map V.int, rfl, hS, fun q nq => ?_⟩
    have ex : cutV (ns.map V.int) none (some 63) = (ns.take 63).map V.int := by
      rw [show (some (63 : Int)) = some ((63 : Nat) : Int) from rfl, cutTake, List.map_take]
    rw [ex]
    have s1 : Same H (upd H q (.lst ((ns.take 63).map V.int))) := smUpd nq
    refine ⟨_, rfl, ⟨_, .inl (.inl upd_same)⟩, fun D nD => ?_⟩
    have nDq : D ≠ q := fun e => by rw [e, upd_same] at nD; cases nD
    refine lc_list (K := K) (a := q) (xs := (ns.take 63).map V.int) (fun i H' => Same (upd H q (.lst ((ns.take 63).map V.int))) H' ∧ ∃ cs : List Int, H' D = some (.lst (cs.map V.int)) ∧ cs.length = i) ?_ ?_ ?_ ?_
    · exact ⟨smUpd nD, [], upd_same, rfl⟩
    · rintro i H' _ ⟨sm, _⟩
      exact .inl (.inl (sm _ _ upd_same))
    · rintro i x H' hx ⟨sm, cs, hD, hl⟩
      obtain ⟨z, hz, rfl⟩ := getMap hx
      have hi : i < 63 := by
        have e := (List.getElem?_eq_some_iff.mp hz).1
        rw [List.length_take] at e
        omega
      refine ⟨rfl, ⟨_, rfl, .inl ⟨z, rfl, z, rfl, cs.map V.int, hD, ?_, fun b o e => ?_, cs ++ [if z < 0 then -z else z], ?_, ?_⟩⟩⟩
      · rw [List.length_map]; exact small1000 (by omega)
      · have nb : b ≠ D := fun e' => by rw [e', nD] at e; cases e
        rw [upd_ne nb]
        exact sm b o e
      · rw [upd_same, List.map_append]; rfl
      · rw [List.length_append, hl]; rfl
    · rintro H' ⟨sm, cs, hD, hl⟩
      refine ⟨_, rfl, .ref D, rfl, D, cs.map V.int, rfl, .inl (.inl (.inl hD)), 1, _, rfl, rfl, by show 5 ≤ sizeLine; decide, fun p np => ?_⟩
      have npD : p ≠ D := fun e => by rw [e, hD] at np; cases np
      refine k _ p D cs (fun b o e => ?_) ?_ ?_ ⟨⟨0, 0, _, 0, upd_same, by decide⟩, by rw [upd_ne npD.symm]; exact hD, npD⟩
      · have e1 := sm b o (s1 b o e)
        rw [upd_ne (ne_of_none e1 np)]
        exact e1
      · cases e : H p with
        | none => rfl
        | some o => rw [sm p o (s1 p o e)] at np; cases np
      · cases e : H D with
        | none => rfl
        | some o => rw [s1 D o e] at nD; cases nD
end
end Cn
namespace Cn
open PySem PySem.Spec PyProof.Rows L2
/-! a statement, then the rest, by a word of what stands between -/
def tMid (t u : TS) : TS := fun D σ H => ∃ R : L2.St → Hp → Prop, t { nx := R, rt := D.rt, bk := D.bk, ct := D.ct } σ H ∧ ∀ σ2 H2, R σ2 H2 → u D σ2 H2
theorem psMid {X : Cx} {st : Stmt} {rest : List Stmt} {t u : TS} (a : PS X st t) (b : PSs X rest u) : PSs X (st :: rest) (tMid t u) := by
  constructor
  intro pins s σ H D I h
  obtain ⟨R, h1, h2⟩ := h
  refine wpAny_execs_cons (thn (a.run pins s σ H _ I h1) fun fl s1 q => ?_)
  cases fl with
  | next =>
    obtain ⟨σ2, H2, I2, q2⟩ := q
    exact b.run pins s1 σ2 H2 D I2 (h2 σ2 H2 q2)
  | brk => exact q
  | cont => exact q
  | ret u => exact q
def spDraw : Sp := fun vs H Q _ => ∃ (p c : Addr) (cells : List Int) (k : Int), vs = [.ref p, .int k] ∧ HandIn H p c cells ∧ 0 < k ∧ k < 1073741824 ∧
  ∀ (d i g m t : Int), 0 ≤ d → d < k → 0 ≤ i → Q (.int d) (upd H p (handL c i g m t))
def nDraw : List Str := ["_law_hand_here", "_law_many", "_law_cell", "_law_digit", "_law_number_here"]
theorem scDraw : FnScope nDraw ["_law_hand_here", "_law_many"] (defScope sDraw) := ⟨rfl, rfl, rfl, by decide +kernel, rfl, by decide +kernel, by decide +kernel⟩
theorem fmB {a k : Int} (h : 0 < k) : 0 ≤ a.fmod k ∧ a.fmod k < k := ⟨Int.fmod_nonneg_of_pos a h, Int.fmod_lt_of_pos a h⟩
theorem atNat {cs : List Int} {i : Int} (h0 : 0 ≤ i) (h1 : i < ((cs.map V.int).length : Int)) : ∃ z, atI (cs.map V.int) i = some (.int z) := by
  obtain ⟨n, rfl⟩ := Int.eq_ofNat_of_zero_le h0
  rw [List.length_map] at h1
  have hn : n < cs.length := by omega
  refine ⟨cs[n], ?_⟩
  unfold atI ixN
  rw [if_pos (by omega), List.length_map, if_pos (by omega)]
  show (cs.map V.int)[((n : Nat) : Int).toNat]? = _
  rw [Int.toNat_natCast, List.getElem?_map, List.getElem?_eq_getElem hn]
  rfl
section
variable {P : Program} {w : World} {K : PySem.W.Frag} {mg : Str → Option Value} {base : Heap}
theorem ok_draw {f : Addr} {fd : FuncData} (F : Fun K "_law_draw" "_law_draw" sDraw f fd) (mInt : mg "int" = none) (mLen : mg "len" = none) : FnOk P w K mg base CX0 1 f fd ["_law_hand_here", "_law_many"] spDraw := by
  refine F.ok scDraw (fun vs H Q E h => ?_) (fun cdv A outer s H vs Q E hr h => ?_)
  · obtain ⟨p, c, cells, k, rfl, _⟩ := h
    rfl
  · obtain ⟨p, c, cells, k, rfl, hI, k0, k1, q⟩ := h
    refine ⟨_, psMid (ps_if (PW.pt (pw_and (pt_cmpR op_eq (pe_ix ix_list (pv 0) pe_int (fun _ _ => rfl)) pe_int (nomark _))
            (pw_and1 (pt_cmpR op_lt (pe_ix ix_list (pv 0) pe_int (fun _ _ => rfl)) (pe_callB call_len_seq (by rfl) mLen PySem.boot_len (pa_cons (pe_ix ix_list (pv 0) pe_int (fun _ _ => rfl)) pa_nil)) (nomark _)))))
        (pss_cons (ps_set (i := 2) scDraw.nd rfl (Or.inl rfl) (pe_ix ix_list (pe_ix ix_list (pv 0) pe_int (fun _ _ => rfl)) (pe_ix ix_list (pv 0) pe_int (fun _ _ => rfl)) (fun _ _ => rfl)))
        (pss_cons (ps_asg (pe_op op_add (pe_ix ix_list (pv 0) pe_int (fun _ _ => rfl)) pe_int) (pg_sub (pv 0) pe_int set_list))
        (pss_cons (ps_asg (pe_op op_modN (pe_callTy call_int1 (by rfl) mInt (by decide +kernel) (pa_cons (pe_op op_add (pe_op op_add (pe_op op_mul (pe_ix ix_list (pv 0) pe_int (fun _ _ => rfl)) pe_int) (pv 2)) pe_int) pa_nil)) pe_int) (pg_sub (pv 0) pe_int set_list))
        (pss_one (ps_if (pt_cmpR op_ge (pv 2) (pe_op op_pow pe_int pe_int) (nomark _)) (pss_one (ps_asg (pv 2) (pg_sub (pv 0) pe_int set_list))) pss_nil)))))
        pss_nil)
      (pss_cons (ps_if (pt_cmpR op_gt (pe_ix ix_list (pv 0) pe_int (fun _ _ => rfl)) pe_int (nomark _))
        (pss_cons (ps_set (i := 3) scDraw.nd rfl (Or.inl rfl) (pe_op op_modN (pe_callTy call_int1 (by rfl) mInt (by decide +kernel) (pa_cons (pe_ix ix_list (pv 0) pe_int (fun _ _ => rfl)) pa_nil)) (pv 1)))
        (pss_cons (ps_asg (pe_op op_fdivN (pe_ix ix_list (pv 0) pe_int (fun _ _ => rfl)) (pv 1)) (pg_sub (pv 0) pe_int set_list))
        (pss_one (ps_ret (pv 3))))) pss_nil)
      (pss_cons (ps_asg (pe_op op_add (pe_ix ix_list (pv 0) pe_int (fun _ _ => rfl)) pe_int) (pg_sub (pv 0) pe_int set_list))
      (pss_cons (ps_set (i := 4) scDraw.nd rfl (Or.inl rfl) (pe_op op_modN (pe_callTy call_int1 (by rfl) mInt (by decide +kernel) (pa_cons (pe_op op_mul (pe_callTy call_int1 (by rfl) mInt (by decide +kernel) (pa_cons (pe_op op_add (pe_ix ix_list (pv 0) pe_int (fun _ _ => rfl)) (pe_op op_mul pe_int (pe_ix ix_list (pv 0) pe_int (fun _ _ => rfl)))) pa_nil)) pe_int) pa_nil)) pe_int))
      (pss_cons (ps_set (i := 4) scDraw.nd rfl (Or.inl rfl) (pe_op op_modN (pe_callTy call_int1 (by rfl) mInt (by decide +kernel) (pa_cons (pe_op op_mul (pv 4) (pe_op op_add (pe_op op_fdivN (pv 4) pe_int) pe_int)) pa_nil)) pe_int))
      (pss_cons (ps_set (i := 4) scDraw.nd rfl (Or.inl rfl) (pe_op op_modN (pe_callTy call_int1 (by rfl) mInt (by decide +kernel) (pa_cons (pe_op op_mul (pv 4) (pe_op op_add (pe_op op_fdivN (pv 4) pe_int) pe_int)) pa_nil)) pe_int))
      (pss_one (ps_ret (pe_op op_modN (pe_callTy call_int1 (by rfl) mInt (by decide +kernel) (pa_cons (pe_op op_fdivN (pv 4) pe_int) pa_nil)) (pv 1))))))))), ?_⟩
    obtain ⟨⟨i, g, m, t, hp, hi⟩, hc, ne⟩ := hI
    have sq : ∀ {H' : Hp} {a : Addr} {xs : List V}, H' a = some (.lst xs) → SqL K H' a xs := fun h => .inl (.inl h)
    have kn : k ≠ 0 := by omega
    have kb : k.natAbs < 1073741824 := by omega
    refine ⟨fun σ2 H2 => ∃ (cl : Option V) (i g m t : Int), 0 ≤ i ∧ σ2 = [some (.ref p), some (.int k), cl, none, none] ∧ H2 = upd H p (handL c i g m t), ?_, ?_⟩
    · have same : upd H p (handL c i g m t) = H := by
        funext b
        by_cases e : b = p
        · rw [e, upd_same, hp]
        · rw [upd_ne e]
      refine ⟨_, rfl, p, _, 2, _, rfl, rfl, sq hp, rfl, rfl, _, rfl, ?_⟩
      refine ite2 (fun _ => ?_) (fun _ => ⟨none, i, g, m, t, hi, rfl, same.symm⟩)
      refine ⟨_, rfl, p, _, 1, _, rfl, rfl, sq hp, rfl, _, rfl, p, _, 0, _, rfl, rfl, sq hp, rfl, c, _, rfl, .inl (sq hc), i, _, rfl, rfl, _, rfl, ?_⟩
      refine ite2 (fun hlt => ?_) (fun _ => ⟨none, i, g, m, t, hi, rfl, same.symm⟩)
      obtain ⟨z, hz⟩ := atNat hi (of_decide_eq_true hlt)
      refine ⟨_, rfl, p, _, 0, _, rfl, rfl, sq hp, rfl, _, rfl, p, _, 1, _, rfl, rfl, sq hp, rfl, c, _, i, _, rfl, rfl, sq hc, hz, ?_⟩
      refine ⟨_, rfl, p, _, 1, _, rfl, rfl, sq hp, rfl, _, _, rfl, rfl, _, rfl, p, _, 1, 1, rfl, rfl, hp, rfl, ?_⟩
      have st : ∀ (j : Nat) (v : V) (i g m t : Int), upd (upd H p (handL c i g m t)) p (.lst (List.set [.ref c, .int i, .int g, .int m, .int t] j v)) = upd H p (.lst (List.set [.ref c, .int i, .int g, .int m, .int t] j v)) := fun _ _ _ _ _ _ => upd_upd
      have s1 : upd H p (.lst (List.set [.ref c, .int i, .int g, .int m, .int t] 1 (.int (i + 1)))) = upd H p (handL c (i + 1) g m t) := rfl
      rw [s1]
      refine ⟨_, rfl, p, _, 3, _, rfl, rfl, sq upd_same, rfl, _, _, rfl, rfl, .inr (by decide), _, rfl, _, _, rfl, rfl, _, _, rfl, rfl, .inl ⟨_, rfl, _, _, rfl, rfl, (show (2147483629 : Int) ≠ 0 by decide), _, rfl, p, _, 3, 3, rfl, rfl, upd_same, rfl, ?_⟩⟩
      rw [st]
      refine ⟨_, rfl, _, _, rfl, rfl, ⟨by decide, by decide, by decide⟩, _, _, rfl, rfl, _, rfl, ?_⟩
      refine ite2 (fun _ => ?_) (fun _ => ⟨_, i + 1, g, _, t, by omega, rfl, rfl⟩)
      refine ⟨_, rfl, _, rfl, p, _, 2, 2, rfl, rfl, upd_same, rfl, ?_⟩
      exact ⟨_, i + 1, z, _, t, by omega, rfl, upd_upd⟩
    · rintro σ2 H2 ⟨cl, i, g, m, t, hi, rfl, rfl⟩
      have hp : upd H p (handL c i g m t) p = some (handL c i g m t) := upd_same
      refine ⟨_, rfl, p, _, 2, _, rfl, rfl, sq hp, rfl, _, _, rfl, rfl, _, rfl, ?_⟩
      refine ite2 (fun _ => ?_) (fun _ => ?_)
      · refine ⟨_, rfl, p, _, 2, _, rfl, rfl, sq hp, rfl, .inl ⟨_, rfl, _, rfl, _, _, rfl, rfl, kn, ?_⟩⟩
        refine ⟨_, rfl, p, _, 2, _, rfl, rfl, sq hp, rfl, _, rfl, _, _, rfl, rfl, ⟨kn, kb⟩, _, rfl, p, _, 2, 2, rfl, rfl, hp, rfl, _, rfl, ?_⟩
        rw [upd_upd]
        exact q _ i _ m t (fmB k0).1 (fmB k0).2 hi
      · refine ⟨_, rfl, p, _, 4, _, rfl, rfl, sq hp, rfl, _, _, rfl, rfl, _, rfl, p, _, 4, 4, rfl, rfl, hp, rfl, ?_⟩
        rw [upd_upd]
        refine ⟨_, rfl, p, _, 3, _, rfl, rfl, sq upd_same, rfl, _, rfl, p, _, 4, _, rfl, rfl, sq upd_same, rfl, _, _, rfl, rfl, .inl (by decide), _, _, rfl, rfl, .inl ⟨_, rfl, _, _, rfl, rfl, .inr (by decide), .inl ⟨_, rfl, _, _, rfl, rfl, (show (2147483647 : Int) ≠ 0 by decide), ?_⟩⟩⟩
        have b1 := fmB (a := (m + 7919 * (t + 1)) * 48271) (k := 2147483647) (by decide)
        refine ⟨_, rfl, _, rfl, _, _, rfl, rfl, ⟨by decide, by decide⟩, _, _, rfl, rfl, _, _, rfl, rfl, .inl ⟨by omega, by omega⟩, .inl ⟨_, rfl, _, _, rfl, rfl, (show (2147483647 : Int) ≠ 0 by decide), ?_⟩⟩
        have b2 := fmB (a := ((m + 7919 * (t + 1)) * 48271).fmod 2147483647 * ((((m + 7919 * (t + 1)) * 48271).fmod 2147483647).fdiv 1009 + 69621)) (k := 2147483647) (by decide)
        refine ⟨_, rfl, _, rfl, _, _, rfl, rfl, ⟨by decide, by decide⟩, _, _, rfl, rfl, _, _, rfl, rfl, .inl ⟨by omega, by omega⟩, .inl ⟨_, rfl, _, _, rfl, rfl, (show (2147483399 : Int) ≠ 0 by decide), ?_⟩⟩
        refine ⟨_, rfl, _, _, rfl, rfl, ⟨by decide, by decide⟩, .inl ⟨_, rfl, _, rfl, _, _, rfl, rfl, kn, ?_⟩⟩
        exact q _ i g m (t + 1) (fmB k0).1 (fmB k0).2 hi
end
end Cn
namespace Cn
open PySem PySem.Spec PyProof.Rows L2
theorem small4000 {n : Nat} (h : n ≤ 4000) : n < sizeLine := Nat.lt_of_le_of_lt h (by decide)
theorem OpR.orr {X : Cx} {f : Value → Value → Sem Value} {r r2 : R2} (h : OpR X f r) (k : OpR X f r2) : OpR X f (fun x y H Q => r x y H Q ∨ r2 x y H Q) := by
  intro pins s σ H x y v u Q I rx ry q
  rcases q with q | q
  · exact h pins s σ H x y v u Q I rx ry q
  · exact k pins s σ H x y v u Q I rx ry q
/-! two things that are alike, of nesting at most n: flat ones and dicts are the same -/
def DictOk (H : Hp) (x : V) : Prop := ∃ a kvs, x = .ref a ∧ H a = some (.dK kvs) ∧ (kvs = [] ∨ ∃ k u, kvs = [(k, u)] ∧ (flatV u = true ∨ ∃ b, u = .ref b))
def EqG (H : Hp) : Nat → V → V → Prop
  | 0 => fun x y => x = y ∧ (flatV x = true ∨ DictOk H x)
  | n + 1 => fun x y => EqG H n x y ∨ ∃ a b xs ys, x = .ref a ∧ y = .ref b ∧ ((H a = some (.lst xs) ∧ H b = some (.lst ys)) ∨ (H a = some (.tup xs) ∧ H b = some (.tup ys))) ∧ xs.length ≤ 4000 ∧ Paired (EqG H n) xs ys
theorem pairedSelf {F : V → V → Prop} : ∀ {xs : List V}, (∀ x ∈ xs, F x x) → Paired F xs xs
  | [], _ => .nil
  | x :: xs, h => .cons (h x List.mem_cons_self) (pairedSelf fun y hy => h y (List.mem_cons_of_mem _ hy))
theorem eqG_same {H H' : Hp} (s : Same H H') : ∀ {n : Nat} {x y : V}, EqG H n x y → EqG H' n x y
  | 0, x, y, h => by
    obtain ⟨e, h | ⟨a, kvs, e2, ha, hk⟩⟩ := h
    · exact ⟨e, .inl h⟩
    · exact ⟨e, .inr ⟨a, kvs, e2, s _ _ ha, hk⟩⟩
  | n + 1, x, y, h => by
    rcases h with h | ⟨a, b, xs, ys, e1, e2, h, hl, hp⟩
    · exact .inl (eqG_same s h)
    · exact .inr ⟨a, b, xs, ys, e1, e2, h.imp (fun z => ⟨s _ _ z.1, s _ _ z.2⟩) (fun z => ⟨s _ _ z.1, s _ _ z.2⟩), hl, Paired.mapP hp fun _ _ z => eqG_same s z⟩
/-- told and due, alike: True comes out, new things apart nothing is changed -/
def spIs (n : Nat) : Sp := fun vs H Q _ => ∃ (x y : V), vs = [x, y] ∧ EqG H n x y ∧ ∀ H', Same H H' → Q (.bl true) H'
/-- all([..]) over two lists, or two tuples, of things alike -/
def tAllIs (n : Nat) : TE := fun σ H Q => ∃ a b xs ys, σ[0]? = some (some (.ref a)) ∧ σ[1]? = some (some (.ref b)) ∧ ((H a = some (.lst xs) ∧ H b = some (.lst ys)) ∨ (H a = some (.tup xs) ∧ H b = some (.tup ys))) ∧ xs.length ≤ 4000 ∧ Paired (EqG H n) xs ys ∧ ∀ H', Same H H' → Q (.bl true) H'
/-! types -/
theorem kit2 {K : PySem.W.Frag} {T : String} {b : Bool} (h : ((kitB T "tuple").bind fun a => if a then some true else kitB T "list") = some b) : PySem.W.kitAny K (.type T) [.type "tuple", .type "list"] = some b := by
  cases e : kitB T "tuple" with
  | none => rw [e] at h; cases h
  | some a =>
    rw [e] at h
    cases a with
    | true =>
      have hb : b = true := (Option.some.inj h).symm
      subst hb
      exact kitAny_cons (kit_ty e) (fun z => nomatch z) fun _ => rfl
    | false =>
      have h : kitB T "list" = some b := h
      refine kitAny_cons (kit_ty e) (fun _ => kitAny_cons (kit_ty h) (fun z => ?_) (fun z => z)) (fun z => nomatch z)
      rw [z]; exact kitAny_nil
/-- a thing that is no list and no tuple -/
theorem leafTy {K : PySem.W.Frag} {H : Hp} {x : V} (h : flatV x = true ∨ DictOk H x) : ∃ T b, TyX K H x (.type T) ∧ PySem.W.kitAny K (.type T) [.type "tuple", .type "list"] = some false ∧ PySem.W.kitOne K (.type T) (.type "bool") = some b := by
  rcases h with h | ⟨a, kvs, rfl, ha, _⟩
  · cases x with
    | non => exact ⟨"NoneType", false, .base .non, kit2 (by decide +kernel), kit_ty (by decide +kernel)⟩
    | bl b => exact ⟨"bool", true, .base (.bl b), kit2 (by decide +kernel), kit_ty (by decide +kernel)⟩
    | int i => exact ⟨"int", false, .base (.int i), kit2 (by decide +kernel), kit_ty (by decide +kernel)⟩
    | str z => exact ⟨"str", false, .base (.str z), kit2 (by decide +kernel), kit_ty (by decide +kernel)⟩
    | _ => cases h
  · exact ⟨"dict", false, .base (.dK ha), kit2 (by decide +kernel), kit_ty (by decide +kernel)⟩
theorem seqTy {K : PySem.W.Frag} {H : Hp} {a : Addr} {xs : List V} {tu : Bool} (h : if tu = true then H a = some (.tup xs) else H a = some (.lst xs)) : ∃ T, TyX K H (.ref a) (.type T) ∧ PySem.W.kitAny K (.type T) [.type "tuple", .type "list"] = some true ∧ PySem.W.kitOne K (.type T) (.type "tuple") = some tu := by
  cases tu with
  | true => exact ⟨"tuple", .base (.tup (by simpa using h)), kit2 (by decide +kernel), kit_ty (by decide +kernel)⟩
  | false => exact ⟨"list", .base (.lst (by simpa using h)), kit2 (by decide +kernel), kit_ty (by decide +kernel)⟩
end Cn
namespace Cn
open PySem PySem.Spec PyProof.Rows L2
/-! comprehensions over zip -/
section
variable {K : PySem.W.Frag} {a b D : Addr} {xs ys : List V} {g : TG} {tt : TT} {te : TE} {vs : List Nat} {σ : L2.St} {H1 : Hp} {Qd : Hp → Prop}
def ZipTurn (Pv : Nat → Hp → Prop) (D : Addr) (g : TG) (tt : TT) (te : TE) (vs : List Nat) (σ : L2.St) (i : Nat) (x y : V) : Prop := ∀ (T : Addr) (H : Hp), Pv i H → H T = none → g (.ref T) (wipe σ vs) (upd H T (.tup [x, y])) fun σ2 H2 => wipe σ2 vs = wipe σ vs ∧ tt σ2 H2 fun k H3 =>
  if k = true then te σ2 H3 fun z H4 => ∃ acc, H4 D = some (.lst acc) ∧ acc.length < sizeLine ∧ Pv (i + 1) (upd H4 D (.lst (acc ++ [z]))) else Pv (i + 1) H3
theorem lcZipL (hl : xs.length = ys.length) (Pv : Nat → Hp → Prop) (h0 : Pv 0 (upd H1 D (.lst []))) (hq : ∀ i H, Pv i H → SqL K H a xs ∧ SqL K H b ys) (hs : ∀ i x y, xs[i]? = some x → ys[i]? = some y → ZipTurn Pv D g tt te vs σ i x y) (hd : ∀ H, Pv xs.length H → Qd H) :
    ∃ W : Nat → Nat → Hp → Prop, (∃ m, W 0 m (upd H1 D (.lst []))) ∧ ∀ i m H, W i m H → ((Itz K a b).stop i H ∧ Qd H) ∨ ((Itz K a b).go i H ∧ ∃ Nx : Hp → Prop, (∀ H', Nx H' → ∃ m', m' < m ∧ W (i + 1) m' H') ∧ ∀ x H', (Itz K a b).yld i H x H' → g x (wipe σ vs) H' fun σ2 H2 => wipe σ2 vs = wipe σ vs ∧ tt σ2 H2 fun k H3 =>
      if k = true then te σ2 H3 fun z H4 => ∃ acc, H4 D = some (.lst acc) ∧ acc.length < sizeLine ∧ Nx (upd H4 D (.lst (acc ++ [z]))) else Nx H3) := by
  refine ⟨fun i m H => m = xs.length - i ∧ i ≤ xs.length ∧ Pv i H, ⟨_, rfl, Nat.zero_le _, h0⟩, ?_⟩
  rintro i m H ⟨rfl, hi, p⟩
  obtain ⟨qa, qb⟩ := hq i H p
  rcases Nat.lt_or_ge i xs.length with lt | ge
  · have ea : xs[i]? = some xs[i] := List.getElem?_eq_getElem lt
    have lt2 : i < ys.length := by omega
    have eb : ys[i]? = some ys[i] := List.getElem?_eq_getElem lt2
    refine .inr ⟨⟨xs, ys, _, _, qa, qb, ea, eb⟩, Pv (i + 1), fun H' p' => ⟨xs.length - (i + 1), by omega, rfl, lt, p'⟩, ?_⟩
    rintro v H' ⟨T, u, z, rfl, nT, rfl, k1, k2⟩
    exact hs i u z (k1 xs qa) (k2 ys qb) T H p nT
  · have e : i = xs.length := by omega
    subst e
    exact .inl ⟨⟨xs, ys, qa, qb, .inl (Nat.le_refl _)⟩, hd H p⟩
theorem lcZipT (hl : xs.length = ys.length) (Pv : Nat → Hp → Prop) (h0 : Pv 0 (upd H1 D (.lst []))) (hq : ∀ i H, Pv i H → SqT K H a xs ∧ SqT K H b ys) (hs : ∀ i x y, xs[i]? = some x → ys[i]? = some y → ZipTurn Pv D g tt te vs σ i x y) (hd : ∀ H, Pv xs.length H → Qd H) :
    ∃ W : Nat → Nat → Hp → Prop, (∃ m, W 0 m (upd H1 D (.lst []))) ∧ ∀ i m H, W i m H → ((RZ.ItzT K a b).stop i H ∧ Qd H) ∨ ((RZ.ItzT K a b).go i H ∧ ∃ Nx : Hp → Prop, (∀ H', Nx H' → ∃ m', m' < m ∧ W (i + 1) m' H') ∧ ∀ x H', (RZ.ItzT K a b).yld i H x H' → g x (wipe σ vs) H' fun σ2 H2 => wipe σ2 vs = wipe σ vs ∧ tt σ2 H2 fun k H3 =>
      if k = true then te σ2 H3 fun z H4 => ∃ acc, H4 D = some (.lst acc) ∧ acc.length < sizeLine ∧ Nx (upd H4 D (.lst (acc ++ [z]))) else Nx H3) := by
  refine ⟨fun i m H => m = xs.length - i ∧ i ≤ xs.length ∧ Pv i H, ⟨_, rfl, Nat.zero_le _, h0⟩, ?_⟩
  rintro i m H ⟨rfl, hi, p⟩
  obtain ⟨qa, qb⟩ := hq i H p
  rcases Nat.lt_or_ge i xs.length with lt | ge
  · have ea : xs[i]? = some xs[i] := List.getElem?_eq_getElem lt
    have lt2 : i < ys.length := by omega
    have eb : ys[i]? = some ys[i] := List.getElem?_eq_getElem lt2
    refine .inr ⟨⟨xs, ys, _, _, qa, qb, ea, eb⟩, Pv (i + 1), fun H' p' => ⟨xs.length - (i + 1), by omega, rfl, lt, p'⟩, ?_⟩
    rintro v H' ⟨T, u, z, rfl, nT, rfl, k1, k2⟩
    exact hs i u z (k1 xs qa) (k2 ys qb) T H p nT
  · have e : i = xs.length := by omega
    subst e
    exact .inl ⟨⟨xs, ys, qa, qb, .inl (Nat.le_refl _)⟩, hd H p⟩
end
theorem pairedAt {F : V → V → Prop} : ∀ {xs ys : List V}, Paired F xs ys → ∀ {i : Nat} {x y : V}, xs[i]? = some x → ys[i]? = some y → F x y
  | _, _, .nil, i, x, y, h, _ => by simp at h
  | _, _, .cons h t, 0, x, y, h1, h2 => by
    cases (Option.some.inj h1)
    cases (Option.some.inj h2)
    exact h
  | _, _, .cons _ t, i + 1, x, y, h1, h2 => pairedAt t (i := i) (by simpa using h1) (by simpa using h2)
section
variable {P : Program} {w : World} {K : PySem.W.Frag} {mg : Str → Option Value} {base : Heap}
structure IsTxt (mg : Str → Option Value) : Prop where
  inst : mg "isinstance" = none
  tup : mg "tuple" = none
  lst : mg "list" = none
  bool : mg "bool" = none
  len : mg "len" = none
  all : mg "all" = none
  zip : mg "zip" = none
/-- the turn of the comprehension, by the promise of the next depth -/
theorem isTurn {n : Nat} {K' : PySem.W.Frag} {D : Addr} {xs ys : List V} {H0 : Hp} {u0 u1 z2 z3 : Option V} (hp : Paired (EqG H0 n) xs ys) (hx : xs.length ≤ 4000) (nD : H0 D = none) (i : Nat) (x y : V) (h1 : xs[i]? = some x) (h2 : ys[i]? = some y) :
    ZipTurn (fun i H' => Same H0 H' ∧ H' D = some (.lst ((List.replicate i true).map V.bl))) D (gTup K' 2 (gCons (gName 2) (gCons (gName 3) gNil))) tYes (tCall (spIs n) [] (fun _ _ _ => False) (tCons (tVar 2) (tCons (tVar 3) tNil))) [2, 3] [u0, u1, z2, z3] i x y := by
  rintro T H ⟨sm, hD⟩ nT
  have hi : i < 4000 := Nat.lt_of_lt_of_le (List.getElem?_eq_some_iff.mp h1).1 hx
  have sT : Same H (upd H T (.tup [x, y])) := smUpd nT
  refine ⟨T, [x, y], rfl, .inl (.inl upd_same), rfl, x, [y], rfl, y, [], rfl, rfl, rfl, x, rfl, y, rfl, x, y, rfl, eqG_same (sm.trans sT) (pairedAt hp h1 h2), fun H' s' => ?_⟩
  have hD' : H' D = some (.lst ((List.replicate i true).map V.bl)) := s' _ _ (sT _ _ hD)
  refine ⟨_, hD', by rw [List.length_map, List.length_replicate]; exact small4000 (by omega), fun b o e => ?_, ?_⟩
  · have nb : b ≠ D := fun z => by rw [z, nD] at e; cases e
    rw [upd_ne nb]
    exact s' _ _ (sT _ _ (sm _ _ e))
  · rw [upd_same, show List.replicate (i + 1) true = List.replicate i true ++ [true] from List.replicate_succ', List.map_append]
    rfl
theorem allRep (n : Nat) : (List.replicate n true).all id = true := by
  induction n with
  | zero => rfl
  | succ n ih => rw [List.replicate_succ, List.all_cons, ih]; rfl
theorem sameT {K : PySem.W.Frag} {H H' : Hp} {a : Addr} {xs : List V} (s : Same H H') (h : SqT K H a xs) : SqT K H' a xs := h.imp (fun r => r.imp (s _ _) (fun ⟨o, e⟩ => ⟨o, s _ _ e⟩)) (fun z => z)
theorem eqG_up {H : Hp} {n m : Nat} {x y : V} (h : EqG H n x y) (hm : n ≤ m) : EqG H m x y := by
  induction m with
  | zero =>
    have e : n = 0 := by omega
    rw [← e]; exact h
  | succ m ih =>
    by_cases e : n = m + 1
    · rw [← e]; exact h
    · exact .inl (ih (by omega))
theorem eqG_cases {H : Hp} : ∀ {n : Nat} {x y : V}, EqG H n x y → (x = y ∧ (flatV x = true ∨ DictOk H x)) ∨ ∃ m, n = m + 1 ∧ ∃ a b xs ys, x = .ref a ∧ y = .ref b ∧ ((H a = some (.lst xs) ∧ H b = some (.lst ys)) ∨ (H a = some (.tup xs) ∧ H b = some (.tup ys))) ∧ xs.length ≤ 4000 ∧ Paired (EqG H m) xs ys
  | 0, x, y, h => .inl h
  | n + 1, x, y, h => by
    rcases h with h | ⟨a, b, xs, ys, h⟩
    · rcases eqG_cases h with z | ⟨m, e, a, b, xs, ys, e1, e2, e3, e4, e5⟩
      · exact .inl z
      · exact .inr ⟨n, rfl, a, b, xs, ys, e1, e2, e3, e4, Paired.mapP e5 fun _ _ q => eqG_up q (by omega)⟩
    · exact .inr ⟨n, rfl, a, b, xs, ys, h⟩
/-- by the depth: nothing at 0 -/
def spJ : Nat → Sp
  | 0 => fun _ _ _ _ => False
  | n + 1 => spIs n
/-- the same flat thing, the same dict, compared -/
theorem leafEq {K : PySem.W.Frag} {H : Hp} {x : V} {Q : VK} (h : flatV x = true ∨ DictOk H x) (k : Q (.bl true) H) : rEq x x H Q ∨ rEqV K x x H Q := by
  rcases h with h | ⟨a, kvs, rfl, ha, hk⟩
  · left
    refine ⟨?_, ?_⟩
    · cases x <;> first | rfl | cases h
    · rw [decide_eq_true rfl]; exact k
  · right
    refine ⟨1, by decide, .inr ⟨a, a, kvs, kvs, rfl, rfl, ha, ha, rfl, fun q hq => ?_⟩, k⟩
    rcases hk with rfl | ⟨kk, u, rfl, hu⟩
    · cases hq
    · obtain rfl := List.mem_singleton.mp hq
      refine ⟨u, ?_, ?_⟩
      · show valV [(kk, u)] kk = some u
        unfold valV
        simp
      · rcases hu with hu | ⟨b, rfl⟩
        · refine .inl ⟨rfl, ?_⟩
          cases u <;> first | rfl | cases hu
        · exact .inr (.inl ⟨b, rfl, rfl⟩)
end
end Cn
namespace Cn
open PySem PySem.Spec PyProof.Rows L2
def nIs : List Str := ["_law_told_here", "_law_due", "_law_one", "_law_two"]
theorem scIs : FnScope nIs ["_law_told_here", "_law_due"] (defScope sIs) := ⟨rfl, rfl, rfl, by decide +kernel, rfl, by decide +kernel, by decide +kernel⟩
section
variable {P : Program} {w : World} {K : PySem.W.Frag} {mg : Str → Option Value} {base : Heap}
theorem ok_is {f : Addr} {fd : FuncData} (F : Fun K "_law_is" "_law_is" sIs f fd) (T : IsTxt mg) (g : mg "_law_is" = some (.ref f)) (bI : Binds K fd ["_law_told_here", "_law_due"] []) : ∀ n : Nat, FnOk P w K mg base CX0 (n + 2) f fd ["_law_told_here", "_law_due"] (spJ n) := by
  intro n
  induction n with
  | zero => exact ⟨fun _ _ _ _ z => z.elim, fun _ _ _ _ _ _ _ _ _ _ _ _ _ z => z.elim⟩
  | succ n ih =>
    refine F.ok scIs (fun vs H Q E h => ?_) (fun cdv A outer s H vs Q E hr h => ?_)
    · obtain ⟨x, y, rfl, _⟩ := h
      rfl
    · obtain ⟨x, y, rfl, hE, k⟩ := h
      refine ⟨_, pss_cons (ps_if (pt_val (pe_callB call_isiT (by rfl) T.inst (by decide +kernel) (pa_cons (pv 1) (pa_cons (pe_tup (pa_cons (pe_bltn (v := .ty "tuple") (by rfl) T.tup (by decide +kernel) rfl) (pa_cons (pe_bltn (v := .ty "list") (by rfl) T.lst (by decide +kernel) rfl) pa_nil))) pa_nil))))
          (pss_cons (ps_if (PW.pt (pw_or (pt_cmpR op_ne (pe_callB call_isi (by rfl) T.inst (by decide +kernel) (pa_cons (pv 0) (pa_cons (pe_bltn (v := .ty "tuple") (by rfl) T.tup (by decide +kernel) rfl) pa_nil))) (pe_callB call_isi (by rfl) T.inst (by decide +kernel) (pa_cons (pv 1) (pa_cons (pe_bltn (v := .ty "tuple") (by rfl) T.tup (by decide +kernel) rfl) pa_nil))) (nomark _))
              (pw_or1 (pt_not (pt_val (pe_callB call_isiT (by rfl) T.inst (by decide +kernel) (pa_cons (pv 0) (pa_cons (pe_tup (pa_cons (pe_bltn (v := .ty "tuple") (by rfl) T.tup (by decide +kernel) rfl) (pa_cons (pe_bltn (v := .ty "list") (by rfl) T.lst (by decide +kernel) rfl) pa_nil))) pa_nil))))))))
            (pss_one (ps_ret pe_bl)) pss_nil)
          (pss_one (ps_ret (pe_and (pe_cmpR op_eq (pe_callB call_len_seq (by rfl) T.len PySem.boot_len (pa_cons (pv 0) pa_nil)) (pe_callB call_len_seq (by rfl) T.len PySem.boot_len (pa_cons (pv 1) pa_nil)) (nomark _)) (pe_one
            (pe_callB (cr_all rfl) (by rfl) T.all (by decide +kernel) (pa_cons (pe_lc (own := [("_law_one", 2), ("_law_two", 3)]) (g := gTup K 2 (gCons (gName 2) (gCons (gName 3) gNil))) (tt := tYes) rfl scIs.nd (RZ.pi_zipA (by rfl) T.zip (pa_cons (pv 0) (pa_cons (pv 1) pa_nil)))
              (blkOk_by (N := nIs) (sc := defScope sIs) (by decide +kernel)) (fun _ _ _ _ _ => pg_tup rfl (pgs_cons (pg_name (i := 2) scIs.nd rfl (Or.inl rfl)) (pgs_cons (pg_name (i := 3) scIs.nd rfl (Or.inl rfl)) pgs_nil))) (fun _ _ _ _ _ => pts_nil)
              (fun _ _ _ _ _ => pe_call ih hr (by rfl) g F.kp bI .nil pass0 (pa_cons (pv 2) (pa_cons (pv 3) pa_nil)))) pa_nil)))))))
          pss_nil)
        (pss_one (ps_ret (pe_and (pe_cmpR op_eq (pe_callB call_isi (by rfl) T.inst (by decide +kernel) (pa_cons (pv 0) (pa_cons (pe_bltn (v := .ty "bool") (by rfl) T.bool (by decide +kernel) rfl) pa_nil))) (pe_callB call_isi (by rfl) T.inst (by decide +kernel) (pa_cons (pv 1) (pa_cons (pe_bltn (v := .ty "bool") (by rfl) T.bool (by decide +kernel) rfl) pa_nil))) (nomark _))
          (pe_one (pe_cmpR (Cn.OpR.orr op_eq (op_eqV hr.units)) (pv 0) (pv 1) (nomark _)))))), ?_⟩
      have cls2 : Paired ClsV [.ty "tuple", .ty "list"] [.type "tuple", .type "list"] := .cons (.ty _) (.cons (.ty _) .nil)
      refine ⟨_, rfl, by show 2 ≤ sizeLine; decide, fun t1 m1 => ?_⟩
      have S1 := smUpd (o := .tup [.ty "tuple", .ty "list"]) m1
      rcases eqG_cases hE with ⟨rfl, hL⟩ | ⟨m, rfl, a, b, xs, ys, rfl, rfl, hk, hx, hp⟩
      · have hL1 : flatV x = true ∨ DictOk (upd H t1 (.tup [.ty "tuple", .ty "list"])) x := hL.imp (fun z => z) fun ⟨a, kvs, e, ha, q⟩ => ⟨a, kvs, e, S1 _ _ ha, q⟩
        obtain ⟨Ty, bb, ty, k2, k3⟩ := leafTy (K := K) hL1
        refine ⟨x, t1, _, _, _, false, rfl, upd_same, cls2, ty, k2, false, rfl, ?_⟩
        refine iteF ?_
        refine ⟨_, rfl, x, .ty "bool", _, _, bb, rfl, .ty _, ty, k3, _, rfl, x, .ty "bool", _, _, bb, rfl, .ty _, ty, k3, rfl, _, rfl, ?_⟩
        rw [if_pos (decide_eq_true rfl)]
        exact ⟨_, rfl, _, rfl, leafEq hL1 (k _ S1)⟩
      · obtain ⟨tu, ha, hb⟩ : ∃ tu : Bool, (if tu = true then H a = some (.tup xs) else H a = some (.lst xs)) ∧ (if tu = true then H b = some (.tup ys) else H b = some (.lst ys)) := by
          rcases hk with ⟨z1, z2⟩ | ⟨z1, z2⟩
          · exact ⟨false, by simpa using z1, by simpa using z2⟩
          · exact ⟨true, by simpa using z1, by simpa using z2⟩
        have keep : ∀ {H1 : Hp} {c : Addr} {zs : List V}, Same H H1 → (if tu = true then H c = some (.tup zs) else H c = some (.lst zs)) → (if tu = true then H1 c = some (.tup zs) else H1 c = some (.lst zs)) := fun {H1 c zs} sm z => by
          cases tu with
          | true => rw [if_pos rfl] at z ⊢; exact sm _ _ z
          | false => rw [if_neg Bool.false_ne_true] at z ⊢; exact sm _ _ z
        obtain ⟨Tb, ty, k2, k3⟩ := seqTy (K := K) (keep S1 hb)
        refine ⟨_, t1, _, _, _, true, rfl, upd_same, cls2, ty, k2, true, rfl, ?_⟩
        refine iteT ?_
        obtain ⟨Ta, ty2, k4, k5⟩ := seqTy (K := K) (keep S1 ha)
        refine ⟨_, rfl, _, .ty "tuple", _, _, tu, rfl, .ty _, ty2, k5, _, rfl, _, .ty "tuple", _, _, tu, rfl, .ty _, ty, k3, rfl, _, rfl, ?_⟩
        rw [show (!decide (V.bl tu = V.bl tu)) = false from by rw [decide_eq_true rfl]; rfl]
        refine iteF ?_
        refine ⟨_, rfl, by show 2 ≤ sizeLine; decide, fun t2 m2 => ?_⟩
        have S2 := S1.trans (smUpd (o := .tup [.ty "tuple", .ty "list"]) m2)
        obtain ⟨Tc, ty3, k6, k7⟩ := seqTy (K := K) (keep S2 ha)
        refine ⟨_, t2, _, _, _, true, rfl, upd_same, cls2, ty3, k6, true, rfl, ?_⟩
        refine iteF ?_
        have hl : xs.length = ys.length := Paired.length hp
        generalize upd (upd H t1 (.tup [.ty "tuple", .ty "list"])) t2 (.tup [.ty "tuple", .ty "list"]) = H2 at *
        have hk2 : (SqL K H2 a xs ∧ SqL K H2 b ys) ∨ (SqT K H2 a xs ∧ SqT K H2 b ys) := by
          rcases hk with ⟨z1, z2⟩ | ⟨z1, z2⟩
          · exact .inl ⟨.inl (.inl (S2 _ _ z1)), .inl (.inl (S2 _ _ z2))⟩
          · exact .inr ⟨.inl (.inl (S2 _ _ z1)), .inl (.inl (S2 _ _ z2))⟩
        have la : SqL K H2 a xs ∨ SqT K H2 a xs := hk2.imp And.left And.left
        have lb : SqL K H2 b ys ∨ SqT K H2 b ys := hk2.imp And.right And.right
        refine ⟨_, rfl, a, xs, rfl, la, _, rfl, b, ys, rfl, lb, rfl, _, rfl, ?_⟩
        rw [if_pos (decide_eq_true (by rw [hl]))]
        have hp2 : Paired (EqG H2 m) xs ys := Paired.mapP hp fun _ _ z => eqG_same S2 z
        refine ⟨_, rfl, _, rfl, a, b, xs, ys, rfl, ?_⟩
        have fin : ∀ {D : Addr} {H3 : Hp}, Same H2 H3 → H3 D = some (.lst ((List.replicate xs.length true).map V.bl)) → rAll K [.ref D] H3 Q := fun {D H3} s3 hD =>
          ⟨D, List.replicate xs.length true, rfl, .inl (.inl hD), by rw [allRep]; exact k _ (S2.trans s3)⟩
        rcases hk2 with ⟨qa, qb⟩ | ⟨qa, qb⟩
        · refine .inl ⟨qa, qb, fun D nD => ?_⟩
          refine lcZipL hl (fun i H' => Same H2 H' ∧ H' D = some (.lst ((List.replicate i true).map V.bl))) ⟨smUpd nD, upd_same⟩ (fun i H' z => ⟨z.1.seq qa, z.1.seq qb⟩) (fun i x y h1 h2 => isTurn hp2 hx nD i x y h1 h2) (fun H' z => ?_)
          exact fin z.1 z.2
        · refine .inr ⟨qa, qb, fun D nD => ?_⟩
          refine lcZipT hl (fun i H' => Same H2 H' ∧ H' D = some (.lst ((List.replicate i true).map V.bl))) ⟨smUpd nD, upd_same⟩ (fun i H' z => ⟨sameT z.1 qa, sameT z.1 qb⟩) (fun i x y h1 h2 => isTurn hp2 hx nD i x y h1 h2) (fun H' z => ?_)
          exact fin z.1 z.2
end
end Cn
namespace Cn
open PySem PySem.Spec PyProof.Rows L2
section
open AutoSeq1 (wpAny_loadPart')
theorem meets_enum_tup (l : Addr) (items : Array Value) (n : Nat) (dct : Option Addr) (sl : Array (Option Value)) :
    Meets (Builtin.«enumerate.__new__» ⟨[.type "enumerate", .ref l], []⟩) (fun _ R s => s.heap.get? l = some { cls := .type "tuple", dict := dct, data := .seq items n, slots := sl } ∧
      R (.ok (.ret (.ref (s.heap.push { cls := .type "tuple_iterator", data := .fields #[.ref l, .int 0 0] }).objs.size)))
        { s with heap := (s.heap.push { cls := .type "tuple_iterator", data := .fields #[.ref l, .int 0 0] }).push { cls := .type "enumerate", data := .fields #[.none, .bool false, .ref s.heap.objs.size, rawInt 0, .none, .none] } }) :=
  .of_wp fun prog w A R s h => by
    obtain ⟨hp, g, d, tk, os⟩ := s; obtain ⟨hl, h⟩ := h
    have hsub := sub_enumerate
    have hL : Heap.IsTuple (Shared.heap ⟨hp, g, d, tk, os⟩) l items := ⟨_, hl, rfl, n, rfl⟩
    wp_walk using wpAny_loadPart' hl
    refine wpAny_stack_any fun st => wpAny_pure ?_
    split
    · rename_i c _ _ _ _ _
      cases (c == Value.type "enumerate")
      · wp_walk using wpAny_loadPart' hl, wpAny_pyIter_tuple hL
        exact ⟨_, rfl, h⟩
      · wp_walk using wpAny_loadPart' hl, wpAny_pyIter_tuple hL
        exact ⟨_, rfl, h⟩
    · wp_walk using wpAny_loadPart' hl, wpAny_pyIter_tuple hL
      exact ⟨_, rfl, h⟩
end
section
variable {prog : Program} {w : World} {A : Around} {E : Value → Shared → Prop} {s : Shared}
theorem call_enum_tup {l : Addr} {items : Array Value} {Q : Value → Shared → Prop} (hL : s.heap.IsTuple l items)
    (h : ∀ h', IsEnum h' (s.heap.objs.size + 1) s.heap.objs.size 0 .none → h'.IsTupleIter s.heap.objs.size l 0 → h'.objs.size = s.heap.objs.size + 2 →
      (∀ b o, s.heap.get? b = some o → h'.get? b = some o) → Q (.ref (s.heap.objs.size + 1)) { s with heap := h' }) :
    wpAny (model prog w) A (call (.type "enumerate") [.ref l]) Q E s := by
  obtain ⟨⟨c, dct, dt, sl⟩, hl, hc, n, hd⟩ := hL
  replace hc : c = .type "tuple" := hc
  replace hd : dt = .seq items n := hd
  subst hc hd
  refine callType_new F.called_enumerate (by decide) (F.typeCall_enumerate_1 _) (F.newCall_enumerate_1 _) (fun obj => F.args_object_init_2 obj _) F.entry_enumerate_new
    (meets_enum_tup l items n dct sl) ⟨hl, ?_⟩
  have hz : (s.heap.push { cls := .type "tuple_iterator", data := .fields #[.ref l, .int 0 0] }).objs.size = s.heap.objs.size + 1 := Heap.size_push ..
  show _ ∧ _
  rw [hz]
  have he : IsEnum ((s.heap.push { cls := .type "tuple_iterator", data := .fields #[.ref l, .int 0 0] }).push { cls := .type "enumerate", data := .fields #[.none, .bool false, .ref s.heap.objs.size, rawInt 0, .none, .none] }) (s.heap.objs.size + 1) s.heap.objs.size 0 .none := by
    have := Heap.get?_push_size (s.heap.push { cls := .type "tuple_iterator", data := .fields #[.ref l, .int 0 0] }) (o := { cls := .type "enumerate", data := .fields #[.none, .bool false, .ref s.heap.objs.size, rawInt 0, .none, .none] }) rfl
    rw [hz] at this; exact this
  refine ⟨⟨_, he, rfl⟩, h _ he ⟨_, Heap.get?_push_of_some _ (Heap.get?_push_size _ rfl), rfl, rfl⟩ (by rw [Heap.size_push, hz]) fun b o x => Heap.get?_push_of_some _ (Heap.get?_push_of_some _ x)⟩
theorem enumEndT {e it l : Addr} {i : Nat} {c : Int} {items : Array Value} {old : Value} {Q : Option Value → Shared → Prop} (hh : A.handled = none) (he : IsEnum s.heap e it c old) (hit : s.heap.IsTupleIter it l i) (hl : s.heap.IsTuple l items) (hx : items[i]? = none)
    (hQ : ∀ h', Heap.ExtBut it s.heap h' → Q none { s with heap := h' }) : wpAny (model prog w) A (pyNext (.ref e)) Q E s := by
  have hT : s.TypeIs (.ref e) "enumerate" := ⟨_, he, rfl⟩
  unfold pyNext
  refine wpAny_bind (wpAny_attempt (wpAny_callSpecial?_slot (name := Str.ofString "__next__") hT F.slot_enumerate_next
    (wpAny_call_entry F.slot_enumerate_next hT F.entry_enumerate_next ?_ (F.args_enumerate_next_1 _))))
  show wpAny _ _ (field (.ref e) 2 >>= _) _ _ _
  refine wpAny_bind (wpAny_field he rfl (x := .ref it) rfl ?_)
  refine wpAny_bind (wpAny_nextOf_tuple_end (A := A.in1) hh hit hl hx fun h' x he' hx' => ?_)
  obtain ⟨o, ho, hc⟩ := hx'
  refine wpAny_bind (wpAny_isInstance (T := "StopIteration") (b := true) ⟨o, ho, hc⟩ isSubtype_stop ?_)
  exact wpAny_pure (hQ _ he')
end
/-- the tuple at a, each item in a new pair -/
def IteT (K : PySem.W.Frag) (a : Addr) : It :=
  ⟨fun i H => ∃ (xs : List V) (x : V), SqT K H a xs ∧ xs[i]? = some x, fun i H v H' => ∃ T x, v = .ref T ∧ H T = none ∧ H' = upd H T (.tup [.int (i : Nat), x]) ∧ ∀ xs, SqT K H a xs → xs[i]? = some x, fun i H => ∃ xs : List V, SqT K H a xs ∧ xs.length ≤ i⟩
theorem turn_enumT {P : Program} {w : World} {K : PySem.W.Frag} {elts : List Expr} {kk : Nat} {tpos : Pos} (a e it : Addr) :
    Turn P w K (.Tuple elts kk tpos) (IteT K a) [e, it] e (fun i h => (∃ old, IsEnum h e it ((i : Nat) : Int) old) ∧ h.IsTupleIter it a i ∧ e ≠ it ∧ a ≠ it ∧ a ≠ e) where
  mem := by simp
  obj := fun i h st b hb => by
    obtain ⟨⟨old, he⟩, ⟨o, ho, hc, hd⟩, _⟩ := st
    have e' : b = e ∨ b = it := by simpa using hb
    rcases e' with z | z
    · rw [z]; exact ⟨_, he, fun v q => nomatch q⟩
    · rw [z]; exact ⟨o, ho, fun v q => by rw [hd] at q; cases q⟩
  keep := fun i h h' st k => let ⟨⟨old, he⟩, hi, hne⟩ := st; ⟨⟨old, k e (by simp) _ he⟩, hi.at fun o q => k it (by simp) o q, hne⟩
  item := by
    intro X hP hw hK hc i pins s σ H E I hf st hg
    subst hP hw hK
    obtain ⟨⟨old, he⟩, hit, hne, hai, hae⟩ := st
    obtain ⟨xs, x, hq, hx⟩ := hg
    obtain ⟨its, rv, p, hz⟩ := I.tuple hq
    obtain ⟨u, hu, ru⟩ := rv.get hx
    have hel : e < s.heap.objs.size := Heap.lt_size he
    have hil : it < s.heap.objs.size := by obtain ⟨_, q, _⟩ := hit; exact Heap.lt_size q
    have hlt : i < its.toArray.size := by
      have := (List.getElem?_eq_some_iff.mp hu).1
      simpa using this
    refine wpAny_pyNext_enum_itemC (c := ((i : Nat) : Int)) (Draws.tuple (A := X.A.in1) (I.ok.hd hc) it a hai its.toArray) he ⟨hit, p⟩ hlt hne (by simp [hne, Ne.symm hae]) fun x' h' tk hP ho hs' hT hsz hk => ?_
    have ex : x' = u := by
      have e1 : its.toArray[i]? = some u := by simpa using hu
      rw [e1] at hP
      exact (Option.some.inj hP).symm
    subst ex
    refine ⟨_, rfl, wpAny_letOwnedTupleGo_enum (s := { s with heap := h', toks := tk + 1 }) ho fun h'' he' sb => ?_⟩
    have hT2 : h''.get? s.heap.objs.size = some { cls := .type "tuple", data := .seq #[.int i tk, x'] } := (sb.2 _ (Nat.ne_of_gt hel)).trans hT
    have new : ObjOk X.prog X.w (upd H s.heap.objs.size (.tup [.int (i : Nat), x])) h'' s.heap.objs.size (.tup [.int (i : Nat), x]) :=
      ⟨by show 2 ≤ sizeLine; decide, [.int i tk, x'], .cons ⟨_, rfl⟩ (.cons ru .nil), ⟨_, hT2, rfl, _, rfl⟩⟩
    have I1 : Inv X pins σ (upd H s.heap.objs.size (.tup [.int (i : Nat), x])) { s with heap := h'', toks := tk + 1 } :=
      I.turnedNew (ch := [e, it]) (fun b ob hb q => (sb.2 b (fun z => hb (by simp [z]))).trans (hk b ob (fun z => hb (by simp [z])) (fun z => hb (by simp [z])) q)) hf (Nat.le_refl _) new
    refine ⟨.ref s.heap.objs.size, _, I1, rfl, ⟨_, x, rfl, I.hok.fresh (Nat.le_refl _), rfl, fun ys hy => by rw [I.tuple_inj hy hq]; exact hx⟩, ⟨⟨x', ?_⟩, hs'.1.at fun o q => (sb.2 it (Ne.symm hne)).trans q, hne, hai, hae⟩, fun b hb => ?_⟩
    · have e1 : ((i + 1 : Nat) : Int) = (i : Int) + 1 := by omega
      rw [e1]; exact he'
    · have hb' : b < s.heap.objs.size := by
        have e' : b = e ∨ b = it := by simpa using hb
        rcases e' with z | z
        · rw [z]; exact hel
        · rw [z]; exact hil
      rw [upd_ne (Nat.ne_of_lt hb')]
      exact (hf b hb).1
  done := by
    intro X hP hw hK hc i pins s σ H E I hf st hg
    subst hP hw hK
    obtain ⟨⟨old, he⟩, hit, hne, hai, hae⟩ := st
    obtain ⟨xs, hq, hx⟩ := hg
    obtain ⟨its, rv, p, hz⟩ := I.tuple hq
    obtain ⟨f0, f1, f2, f3, f4, f5⟩ := hf it (by simp)
    have hl := rv.length
    refine enumEndT (I.ok.hd hc) he hit p (by simp; omega) fun h' eb => ⟨rfl, I.turned (t' := s.toks) (fun b o hb q => eb b o hb q) f0 f1 f3 f4 f5⟩
  self := fun A i s Q E st h => let ⟨⟨_, he⟩, _⟩ := st; wpAny_pyIter_enum he h
def iEnumT (K : PySem.W.Frag) (ta : TA) : TI := fun σ H R => ta σ H fun vs H1 => ∃ a xs, vs = [.ref a] ∧ SqT K H1 a xs ∧ R (IteT K a) H1
theorem pi_enumT {X : Cx} {e : Expr} {ta : TA} {p pos tpos : Pos} {elts : List Expr} {kk : Nat} (hg : Gl X "enumerate") (hm : X.mg "enumerate" = none) (ha : PA X [e] ta) (hs : starEach [e] X.env = [(false, eval e X.env)] := by rfl) :
    PI X (.Tuple elts kk tpos) (.Call (.Name "enumerate" p) [e] [] pos) (iEnumT X.K ta) := by
  refine ⟨fun pins s σ H R I h => ?_⟩
  refine Call_ (ld_blt I hg hm boot_enumerate (PyProof.Rows.callWith_type1 (thn (ha.run pos pins s σ H _ I h) fun us s1 ⟨vs, H1, I1, r1, q1⟩ => ?_) hs rfl))
  obtain ⟨a, xs, ex, hq, q⟩ := q1
  subst ex
  cases r1 with
  | cons r rr =>
    cases rr
    cases r
    obtain ⟨its, rv, p', hz⟩ := I1.tuple hq
    have hal : a < s1.heap.objs.size := by obtain ⟨_, q, _⟩ := p'; exact Heap.lt_size q
    refine call_enum_tup p' fun h' he hit hsz hk => wpAny_pyIter_enum he ?_
    have I2 : Inv X pins σ H1 { s1 with heap := h' } := I1.kept (t' := s1.toks) hk
    refine ⟨s1.heap.objs.size + 1, [s1.heap.objs.size + 1, s1.heap.objs.size], _, _, H1, rfl, I2, turn_enumT a (s1.heap.objs.size + 1) s1.heap.objs.size, ⟨⟨.none, he⟩, hit, Nat.succ_ne_self _, Nat.ne_of_lt hal, Nat.ne_of_lt (Nat.lt_succ_of_lt hal)⟩, fun b hb => ?_, q⟩
    have e' : b = s1.heap.objs.size + 1 ∨ b = s1.heap.objs.size := by simpa using hb
    have hle : s1.heap.objs.size ≤ b := by
      rcases e' with z | z
      · rw [z]; exact Nat.le_add_right _ _
      · rw [z]; exact Nat.le_refl _
    exact I1.fpOk hle (I1.hok.fresh hle)
theorem walk_enumT {K : PySem.W.Frag} {a : Addr} {xs : List V} : Walk (IteT K a) xs.length (fun H => SqT K H a xs) (YPair (fun i => some (.int (i : Nat))) (fun i => xs[i]?)) := by
  refine ⟨fun i _ hi q => ⟨xs, xs[i], q, by simp [hi]⟩, fun _ q => ⟨xs, q, Nat.le_refl _⟩, fun i H v H' _ q y => ?_⟩
  obtain ⟨T, x, h1, h2, h3, h4⟩ := y
  exact ⟨T, .int (i : Nat), x, h1, h2, h3, rfl, h4 xs q⟩
/-! t.index(y) -/
def rTidx (K : PySem.W.Frag) : V → List V → Hp → VK → Prop := fun x xs H Q => ∃ (a : Addr) (ys : List V) (y : V) (j : Nat) (z : V), x = V.ref a ∧ xs = [y] ∧ SqT K H a ys ∧ flatV y = true ∧ ys.all flatV = true ∧ ys[j]? = some z ∧ eqV z y = true ∧
  (∀ (m : Nat) (z' : V), m < j → ys[m]? = some z' → eqV z' y = false) ∧ Q (.int (j : Nat)) H
theorem mt_tidx {X : Cx} : MtR X "tuple.index" (rTidx X.K) := by
  intro pins s σ H x xs v us Q I rx rxs h
  obtain ⟨a, ys, y, j, z, rfl, rfl, hs, fy, fys, hz, hzj, hno, q⟩ := h
  cases rx
  cases rxs with
  | cons ry rt =>
    rename_i uy ut
    cases rt
    obtain ⟨its, rv, pl, hlen⟩ := I.tuple hs
    obtain ⟨⟨cls, dd, dt, sl⟩, ho, hc, n, hd⟩ := pl
    simp only at hc hd
    subst hc hd
    obtain ⟨u, hu, ru⟩ := rv.get hz
    obtain ⟨hjl, hje⟩ := List.getElem?_eq_some_iff.mp hu
    have hvl := rv.length
    have hj : j < its.toArray.size := by simpa using hjl
    refine call_meets PySem.F.slot_tuple_index ⟨_, ho, rfl⟩ PySem.F.entry_tuple_index (PySem.F.args_tuple_index_2 _ _) (TI.tuple_indexAt a its.toArray n dd sl uy (eqU y) j hj ?_ ?_)
      ⟨ho, fun u' hu' => mem_eqAt ry fy rv fys u' (by simpa using hu'), ⟨.int (j : Nat), H, I.tok _, ⟨_, rfl⟩, q⟩⟩
    · have e1 : its.toArray[j] = u := by simpa using hje
      rw [e1, eqU_of ru (flat_at fys hz)]
      exact hzj
    · intro m hm hmj
      have hml : m < its.length := by simpa using hm
      have hmy : m < ys.length := by omega
      have hy' : ys[m]? = some ys[m] := List.getElem?_eq_getElem hmy
      obtain ⟨u2, hu2, ru2⟩ := rv.get hy'
      obtain ⟨_, hme⟩ := List.getElem?_eq_some_iff.mp hu2
      have e1 : its.toArray[m] = u2 := by simpa using hme
      rw [e1, eqU_of ru2 (flat_at fys hy')]
      exact hno m _ hmj hy'
/-! sorted(t), whole numbers -/
section
variable {prog : Program} {w : World} {A : Around} {E : Value → Shared → Prop} {s : Shared}
theorem collect_tup {l : Addr} {vs : List Value} {Q : List Value → Shared → Prop} (hl : s.heap.IsTuple l vs.toArray)
    (h : Q vs { s with heap := (s.heap.push (seqObj "list" #[] 0)).update s.heap.objs.size (Obj.mapSeq (· ++ vs.toArray)) }) (hsz : vs.length ≤ sizeLine) :
    wpAny (model prog w) A (collect (.ref l)) Q E s := by
  obtain ⟨o, ho, hc, n, hd⟩ := id hl
  unfold collect
  refine wpAny_bind (wpAny_runValue (codeAny_builtin entry_proto_collect' ?_))
  show wpAny _ _ (do again (.builtin "list.__iadd__" ⟨[← newList [], .ref l], []⟩)) _ _ s
  refine wpAny_bind (wpAny_newList (wpAny_pure ⟨Code.quiet_builtin _ (by decide +kernel), codeAny_builtin entry_list_iadd' ?_⟩))
  show wpAny _ _ (Builtin.List.listExtendWith (.ref s.heap.objs.size) (.ref l) (.ref s.heap.objs.size)) _ _ { s with heap := s.heap.push (seqObj "list" #[] 0) }
  unfold Builtin.List.listExtendWith
  have ho' : (s.heap.push (seqObj "list" #[] 0)).get? l = some o := Heap.get?_push_of_some _ ho
  refine wpAny_bind (wpAny_typeOf (T := "tuple") ⟨o, ho', hc⟩ ?_)
  have ht : (Value.type "tuple" == Value.type "tuple") = true := by rfl
  rw [if_pos (by rw [ht]; simp)]
  refine wpAny_bind (listItems_at ho' hd ?_)
  refine wpAny_bind (listItems_at (xs := #[]) (n := 0) (Heap.get?_push_size _ rfl) rfl ?_)
  rw [if_neg (by simp)]
  refine wpAny_bind (listUpdate_at (xs := #[]) (n := 0) (Heap.get?_push_size _ rfl) rfl ?_ (Nat.zero_le _) (by show (#[] ++ vs.toArray).size ≤ sizeLine + 1; simp only [Array.size_append, List.size_toArray, List.length_nil]; omega))
  refine wpAny_pure ?_
  show wpAny (model prog w) A (do
      let o ← load s.heap.objs.size
      match o.data with
      | .seq xs _ => pure xs.toList
      | _ => unsupported "internal:collect") Q E { s with heap := (s.heap.push (seqObj "list" #[] 0)).update s.heap.objs.size (Obj.mapSeq (· ++ vs.toArray)) }
  refine wpAny_bind (wpAny_load (get?_update_seq (Heap.get?_push_size _ rfl) _) ?_)
  show wpAny _ _ (pure ((#[] : Array Value) ++ vs.toArray).toList) Q E _
  rw [show ((#[] : Array Value) ++ vs.toArray).toList = vs by simp]
  exact wpAny_pure h
theorem sorted_tupI {l : Addr} {vs : List Value} {ns : List Int} {Q : Value → Shared → Prop} (hl : s.heap.IsTuple l vs.toArray) (hI : IntsAre vs ns) (h64 : vs.length < 64)
    (h : ∀ (out : Array Value) (ns' : List Int), IntsAre out.toList ns' → ns'.Perm ns → ns'.Pairwise (· ≤ ·) → Q (.ref (s.heap.objs.size + 1)) { s with heap := sortedAll s.heap vs out }) :
    wpAny (model prog w) A (call (.builtin "sorted") [.ref l]) Q E s := by
  refine Calls.call_function_entry kind_sorted plain_sorted entry_sorted (args_sorted1 _) ?_
  unfold Builtin.«sorted»
  refine wpAny_bind (m := checkCount "sorted" 1 1 _) (wpAny_pure ?_)
  refine wpAny_bind (collect_tup hl ?_ (small64 h64))
  refine wpAny_bind (wpAny_newList ?_)
  have hsz : ((s.heap.push (seqObj "list" #[] 0)).update s.heap.objs.size (Obj.mapSeq (· ++ vs.toArray))).objs.size = s.heap.objs.size + 1 := by
    rw [Heap.size_update, size_push']
  have hoL : (((s.heap.push (seqObj "list" #[] 0)).update s.heap.objs.size (Obj.mapSeq (· ++ vs.toArray))).push (seqObj "list" vs.toArray 0)).get? (s.heap.objs.size + 1) = some (seqObj "list" vs.toArray 0) := by
    rw [← hsz]; exact Heap.get?_push_size _ rfl
  show wpAny _ _ _ _ _ { s with heap := ((s.heap.push (seqObj "list" #[] 0)).update s.heap.objs.size (Obj.mapSeq (· ++ vs.toArray))).push (seqObj "list" vs.toArray 0) }
  rw [hsz]
  refine wpAny_bind (wpAny_holding (wpAny_call_entry slot_list_sort ⟨_, hoL, rfl⟩ entry_list_sort (list_sort_tree hoL hI h64 fun out ns' a1 a2 a3 => ⟨_, rfl, ?_⟩) (args_list_sort _)))
  exact wpAny_pure ⟨_, rfl, h out ns' a1 a2 a3⟩
end
def rSortTup (K : PySem.W.Frag) : List V → Hp → VK → Prop := fun vs H Q => ∃ (a : Addr) (ns : List Int), vs = [V.ref a] ∧ SqT K H a (ns.map V.int) ∧ ns.length < 64 ∧
  ∀ (ns' : List Int) (p : Addr), ns'.Perm ns → ns'.Pairwise (· ≤ ·) → H p = none → Q (.ref p) (upd H p (.lst (ns'.map V.int)))
theorem cr_sortTup {X : Cx} : CallR X (.builtin "sorted") (rSortTup X.K) := by
  intro pins s σ H vs us Q I r h
  obtain ⟨a, ns, rfl, hs, h64, q⟩ := h
  obtain ⟨its, rv, hl, _⟩ := I.tuple hs
  rw [Vals.ref1 r]
  have hi := rv.ints
  refine sorted_tupI hl hi (by rw [hi.length]; exact h64) fun out ns' h1 h2 h3 => ?_
  obtain ⟨ep, he'⟩ := PyProof.Rows.sortedAll_at s.heap its out
  have hlen : (ns'.map V.int).length ≤ sizeLine := by rw [List.length_map, h2.length_eq]; exact small64 h64
  exact ⟨.ref _, upd H (s.heap.objs.size + 1) (.lst (ns'.map V.int)), I.laid (t' := s.toks) (fun _ _ => PyProof.Rows.sortedAll_old) (Nat.le_succ _) ⟨hlen, out.toList, ep, vals_of_ints h1, he'⟩, rfl, q ns' _ h2 h3 (I.hok.fresh (Nat.le_succ _))⟩
/-! tuples of which it is known that they have no dict of their own: t.index(y) -/
def TD (H : Hp) (a : Addr) (xs : List V) : Prop := ∃ o : Obj, o.dict = none ∧ H a = some (.frz o (.tup xs))
theorem tdT {K : PySem.W.Frag} {H : Hp} {a : Addr} {xs : List V} (h : TD H a xs) : SqT K H a xs := by
  obtain ⟨o, _, e⟩ := h
  exact .inl (.inr ⟨o, e⟩)
theorem tdTy {K : PySem.W.Frag} {H : Hp} {a : Addr} {xs : List V} (h : TD H a xs) : TyX K H (.ref a) (.type "tuple") := by
  obtain ⟨o, _, e⟩ := h
  exact .fTuple e
theorem tdSame {H H' : Hp} {a : Addr} {xs : List V} (s : Same H H') (h : TD H a xs) : TD H' a xs := by
  obtain ⟨o, d, e⟩ := h
  exact ⟨o, d, s _ _ e⟩
abbrev tupO (its : List Value) : Obj := { cls := .type "tuple", data := .seq its.toArray }
theorem tdNew {H : Hp} {a : Addr} {its : List Value} {xs : List V} : TD (upd H a (.frz (tupO its) (.tup xs))) a xs := ⟨tupO its, rfl, upd_same⟩
/-- a new tuple, its dict known to be none -/
theorem laidTD {X : Cx} {pins : List (Addr × Obj)} {σ : L2.St} {H : Hp} {s : Shared} {h' : Heap} {tk : Nat} {xs : List V} {its : List Value} (I : Inv X pins σ H { s with heap := h', toks := tk }) (r : Vals xs its) (hz : xs.length ≤ sizeLine) :
    Inv X pins σ (upd H h'.objs.size (.frz (tupO its) (.tup xs))) { s with heap := h'.push (tupO its), toks := tk } := by
  have g : (h'.push (tupO its)).get? h'.objs.size = some (tupO its) := Heap.get?_push_size _ rfl
  exact I.laid (t' := tk) (fun b o e => Heap.get?_push_of_some _ e) (Nat.le_refl _) ⟨g, hz, its, r, ⟨_, g, rfl, 0, rfl⟩⟩
section
variable {X : Cx}
def rTupD (K : PySem.W.Frag) : List V → Hp → VK → Prop := fun xs H Q => ∃ p ys, xs = [.ref p] ∧ SqL K H p ys ∧ ∀ l H', Same H H' → TD H' l ys → Q (.ref l) H'
/-- tuple(a list) -/
theorem call_tupD : CallR X (.type "tuple") (rTupD X.K) := by
  intro pins s σ H xs us Q I r h
  obtain ⟨p, ys, rfl, hq, q⟩ := h
  obtain ⟨u, rfl, rx⟩ := vals1 r
  cases rx
  obtain ⟨its, r', pl, hz⟩ := I.list hq
  have hlen := r'.length
  refine call_tuple_list pl.isList (fun h' kp => ?_) (by simp only [List.size_toArray] <;> omega)
  have I1 : Inv X pins σ H { s with heap := h', toks := s.toks } := I.kept (t' := s.toks) kp
  have hn : H h'.objs.size = none := I1.hok.fresh (Nat.le_refl _)
  exact ⟨.ref h'.objs.size, _, laidTD I1 r' hz, rfl, q _ _ (smUpd hn) tdNew⟩
def tTupRevD (K : PySem.W.Frag) (te : TE) : TE := fun σ H Q => te σ H fun v H1 => ∃ (a : Addr) (xs : List V), v = .ref a ∧ SqL K H1 a xs ∧ ∀ l H', Same H1 H' → TD H' l xs.reverse → Q (.ref l) H'
/-- tuple(reversed(a list)) -/
theorem pe_tupRevD {e : Expr} {te : TE} {p p2 pos pos2 : Pos} (hc : X.calm = true) (hg : Gl X "tuple") (hm : X.mg "tuple" = none) (hg2 : Gl X "reversed") (hm2 : X.mg "reversed" = none) (he : PE X e te)
    (hs : starEach [e] X.env = (false, eval e X.env) :: starEach [] X.env := by rfl)
    (hs2 : starEach [.Call (.Name "reversed" p2) [e] [] pos2] X.env = (false, eval (.Call (.Name "reversed" p2) [e] [] pos2) X.env) :: starEach [] X.env := by rfl) :
    PE X (.Call (.Name "tuple" p) [.Call (.Name "reversed" p2) [e] [] pos2] [] pos) (tTupRevD X.K te) := by
  refine ⟨fun pins s σ H Q I h => ?_⟩
  refine Call_ (ld_blt I hg hm boot_tuple (callWith_type1 (args_cons (Call_ (ld_blt I hg2 hm2 boot_reversed (callWith_type1 (args_cons (thn (he.run pins s σ H _ I h) fun u s1 ⟨v, H1, I1, r1, q1⟩ => args_nil ?_) hs) hs rfl))) hs2) hs2 rfl))
  obtain ⟨l, ys, rfl, hl, q⟩ := q1
  cases (show u = Value.ref l from r1)
  obtain ⟨its, rv, pl, hz⟩ := I1.list hl
  refine call_reversed_list pl.isList (args_nil ?_)
  have I2 : Inv X pins σ H1 { s1 with heap := s1.heap.push (PySem.revObj l ((its.toArray.size : Int) - 1)) } := I1.kept (t' := s1.toks) fun b o z => Heap.get?_push_of_some _ z
  have hfr : H1 s1.heap.objs.size = none := I1.hok.fresh (Nat.le_refl _)
  obtain ⟨f0, f1, _, f3, f4, f5⟩ := I1.fpOk (H' := H1) (b := s1.heap.objs.size) (Nat.le_refl _) hfr
  have hne : l ≠ s1.heap.objs.size := by
    obtain ⟨_, z, _⟩ := pl.isList
    exact Nat.ne_of_lt (Heap.lt_size z)
  refine RT.call_tuple_rev (s := { s1 with heap := s1.heap.push (PySem.revObj l ((its.toArray.size : Int) - 1)) }) (I1.ok.hd hc) ⟨_, Heap.get?_push_size _ rfl, rfl, rfl⟩ (pl.isList.push _) hne (by rw [List.size_toArray, ← rv.length]; exact hz) fun h' tk acc hk hi => ?_
  have I3 : Inv X pins σ H1 { s1 with heap := h', toks := tk } := I2.turned (t' := tk) (fun b o hb z => hk b o hb z) f0 f1 f3 f4 f5
  have hn : H1 h'.objs.size = none := I3.hok.fresh (Nat.le_refl _)
  have I4 := laidTD I3 (RT.vals_rev rv hi) (by rw [List.length_reverse]; exact hz)
  refine ⟨.ref h'.objs.size, upd H1 h'.objs.size (.frz (tupO acc.toList) (.tup ys.reverse)), ?_, rfl, q _ _ (smUpd hn) tdNew⟩
  have ea : acc.toList.toArray = acc := Array.toArray_toList
  rw [← ea]
  exact I4
/-- t.m(..), t such a tuple -/
def tBT (r : V → List V → Hp → VK → Prop) (to : TE) (t : TA) : TE := fun σ H Q => to σ H fun x H1 => (∃ a xs, x = .ref a ∧ TD H1 a xs) ∧ t σ H1 fun xs H2 => r x xs H2 Q
variable {o e : Expr} {es : List Expr} {to : TE} {t : TA} {name : Str} {apos cpos : Pos} {id : String} {r : V → List V → Hp → VK → Prop}
theorem pe_bt (slot : Slot "tuple" name id) (hty : typeOf (.builtin id) = pure (.type "method_descriptor")) (hm : MtR X id r) (ho : PE X o to) (ha : PA X (e :: es) t)
    (hbase : attributeBase o name X.env (eval o X.env) = eval o X.env := by rfl)
    (hfew : ((backTo cpos (starEach (e :: es) X.env)).all (fun x => !x.1) && (backToKw cpos (keywordEach [] X.env)).all (fun x => x.1.isSome)
      && decide ((e :: es).length + ([] : List Keyword).length + (if ([] : List Keyword).isEmpty then 0 else 1) < 30)) = true := by rfl)
    (hline : (apos.endLine == cpos.line) = true := by rfl) (hs : starEach (e :: es) X.env = (false, eval e X.env) :: starEach es X.env := by rfl) (hplain : (backTo cpos (starEach es X.env)).any (·.1) = false := by rfl) :
    PE X (.Call (.Attribute o name apos) (e :: es) [] cpos) (tBT r to t) := by
  refine ⟨fun pins s σ H Q I h => ?_⟩
  refine wpAny_Call_method_late hbase hfew hline rfl (thn (ho.run pins s σ H _ I h) fun v s1 ⟨x, H1, I1, r1, ty, q1⟩ => ?_)
  obtain ⟨a, xs, rfl, ob, hd, hx⟩ := ty
  cases (show v = Value.ref a from r1)
  obtain ⟨g, _, its, _, hit⟩ := I1.hok a _ hx
  have hT : s1.TypeIs (.ref a) "tuple" := by
    obtain ⟨o', g', c, _⟩ := hit
    exact ⟨o', g', c⟩
  refine ⟨"tuple", id, PySem.F.plainAttrs_tuple, slot, hty, hT, fun b z => (by cases z; exact ⟨ob, g, hd⟩), ?_⟩
  have hA := ha.run cpos pins s1 σ H1 _ I1 q1
  rw [hs] at hA ⊢
  refine Calls.callWith_builtin (by show (false || (backTo cpos (starEach es X.env)).any (·.1)) = false; rw [hplain] <;> rfl) (Calls.evalArgs_plain ?_)
  exact thn hA fun us s2 ⟨vs, H2, I2, r2, q2⟩ => hm pins s2 σ H2 (.ref a) vs (.ref a) us Q I2 rfl r2 q2
end
end Cn
namespace Cn
open PySem PySem.Spec PyProof.Rows L2 Ck
abbrev vn (n : Nat) : V := .int ((n : Nat) : Int)
def vp : Option Nat → V
  | none => .non
  | some n => vn n
def TN (H : Hp) (a : Addr) (ns : List Nat) : Prop := H a = some (.tup (ns.map vn))
def TP (H : Hp) (a : Addr) (ps : List (Option Nat)) : Prop := H a = some (.tup (ps.map vp))
def TDn (H : Hp) (a : Addr) (ns : List Nat) : Prop := TD H a (ns.map vn)
theorem tdL {K : PySem.W.Frag} {H : Hp} {a : Addr} {ns : List Nat} (h : TDn H a ns) : SqT K H a (ns.map vn) := tdT h
theorem tnL {K : PySem.W.Frag} {H : Hp} {a : Addr} {ns : List Nat} (h : TN H a ns) : SqT K H a (ns.map vn) := .inl (.inl h)
theorem tpL {K : PySem.W.Frag} {H : Hp} {a : Addr} {ps : List (Option Nat)} (h : TP H a ps) : SqT K H a (ps.map vp) := .inl (.inl h)
theorem vn_flat (ns : List Nat) : (ns.map vn).all flatV = true := by
  rw [List.all_eq_true]
  intro x hx
  obtain ⟨n, _, rfl⟩ := List.mem_map.mp hx
  rfl
theorem vn_at {ns : List Nat} {i n : Nat} (h : ns[i]? = some n) : (ns.map vn)[i]? = some (vn n) := by rw [List.getElem?_map, h]; rfl
theorem vp_at {ps : List (Option Nat)} {i : Nat} {q : Option Nat} (h : ps[i]? = some q) : (ps.map vp)[i]? = some (vp q) := by rw [List.getElem?_map, h]; rfl
theorem vn_ix {ns : List Nat} {i n : Nat} (h : ns[i]? = some n) : atI (ns.map vn) ((i : Nat) : Int) = some (vn n) := atI_nat (vn_at h)
theorem vp_ix {ps : List (Option Nat)} {i : Nat} {q : Option Nat} (h : ps[i]? = some q) : atI (ps.map vp) ((i : Nat) : Int) = some (vp q) := atI_nat (vp_at h)
theorem vn_get {ns : List Nat} {i : Nat} {x : V} (h : (ns.map vn)[i]? = some x) : ∃ n, ns[i]? = some n ∧ x = vn n := by
  rw [List.getElem?_map] at h
  obtain ⟨n, hn, e⟩ := Option.map_eq_some_iff.mp h
  exact ⟨n, hn, e.symm⟩
theorem vp_get {ps : List (Option Nat)} {i : Nat} {x : V} (h : (ps.map vp)[i]? = some x) : ∃ q, ps[i]? = some q ∧ x = vp q := by
  rw [List.getElem?_map] at h
  obtain ⟨n, hn, e⟩ := Option.map_eq_some_iff.mp h
  exact ⟨n, hn, e.symm⟩
theorem vn_inj {a b : Nat} : eqV (vn a) (vn b) = decide (a = b) := by
  show (((a : Nat) : Int) == ((b : Nat) : Int)) = decide (a = b)
  rw [Bool.eq_iff_iff, beq_iff_eq, decide_eq_true_iff]
  omega
/-- the first place of n -/
theorem vn_idx {ns : List Nat} {n : Nat} (h : n ∈ ns) : (ns.map vn)[ns.idxOf n]? = some (vn n) ∧ ∀ (m : Nat) (z : V), m < ns.idxOf n → (ns.map vn)[m]? = some z → eqV z (vn n) = false := by
  refine ⟨vn_at ?_, fun m z hm hz => ?_⟩
  · have hl := List.idxOf_lt_length_of_mem h
    rw [List.getElem?_eq_getElem hl, List.getElem_idxOf hl]
  · rw [List.getElem?_map] at hz
    obtain ⟨k, hk, rfl⟩ := Option.map_eq_some_iff.mp hz
    rw [vn_inj]
    refine decide_eq_false fun e => ?_
    subst e
    obtain ⟨hml, hme⟩ := List.getElem?_eq_some_iff.mp hk
    have := List.not_of_lt_findIdx (p := (· == k)) (xs := ns) (i := m) hm
    rw [hme] at this
    simp at this
theorem inV_vn {ns : List Nat} {n : Nat} : inV (vn n) (ns.map vn) = decide (n ∈ ns) := by
  unfold inV
  rw [Bool.eq_iff_iff, decide_eq_true_iff, List.any_eq_true]
  constructor
  · rintro ⟨x, hx, h⟩
    obtain ⟨m, hm, rfl⟩ := List.mem_map.mp hx
    rw [vn_inj, decide_eq_true_iff] at h
    rw [← h]; exact hm
  · intro h
    exact ⟨vn n, List.mem_map.mpr ⟨n, h, rfl⟩, by rw [vn_inj]; exact decide_eq_true rfl⟩
/-! the forest -/
def fields3 (ap ab aa : Addr) : List (Str × V) := [("parents", .ref ap), ("bearing", .ref ab), ("asking", .ref aa)]
structure Fo where
  ps : List (Option Nat)
  be : List Nat
  as : List Nat
/-- what a forest's data keep to -/
structure FoOk (f : Fo) : Prop where
  ps : Ps f.ps
  l0 : 1 ≤ f.ps.length
  l1 : f.ps.length ≤ 60
  be : f.be.Pairwise (· < ·)
  bl : ∀ x ∈ f.be, x < f.ps.length
  as : f.as.Pairwise (· < ·)
  al : ∀ x ∈ f.as, x < f.ps.length
def FoAt (C : Addr) (H : Hp) (a : Addr) (f : Fo) : Prop := ∃ dx ap ab aa, H a = some (.ins C dx (fields3 ap ab aa)) ∧ TP H ap f.ps ∧ TN H ab f.be ∧ TN H aa f.as
theorem foAt_same {C : Addr} {H H' : Hp} {a : Addr} {f : Fo} (s : Same H H') (h : FoAt C H a f) : FoAt C H' a f := by
  obtain ⟨dx, ap, ab, aa, h1, h2, h3, h4⟩ := h
  exact ⟨dx, ap, ab, aa, s _ _ h1, s _ _ h2, s _ _ h3, s _ _ h4⟩
structure FoT (K : PySem.W.Frag) (mg : Str → Option Value) (C : Addr) : Prop where
  cl : Cls K C
  nP : NoAttr K C "parents"
  nB : NoAttr K C "bearing"
  nA : NoAttr K C "asking"
  mgC : mg "Forest" = some (.ref C)
theorem fP {ap ab aa : Addr} : (fields3 ap ab aa).lookup ("parents" : Str) = some (.ref ap) := rfl
theorem fB {ap ab aa : Addr} : (fields3 ap ab aa).lookup ("bearing" : Str) = some (.ref ab) := rfl
theorem fA {ap ab aa : Addr} : (fields3 ap ab aa).lookup ("asking" : Str) = some (.ref aa) := rfl
/-- the builtins that the texts call -/
structure NamT (mg : Str → Option Value) : Prop where
  is : IsTxt mg
  int : mg "int" = none
  abs : mg "abs" = none
  range : mg "range" = none
  enum : mg "enumerate" = none
  rev : mg "reversed" = none
  sorted : mg "sorted" = none
  min : mg "min" = none
/-- a def and its name in the module -/
structure DefAt (K : PySem.W.Frag) (mg : Str → Option Value) (x : Str) (st : Stmt) (ps : List Str) (f : Addr) (fd : FuncData) : Prop where
  F : Fun K x x st f fd
  b : Binds K fd ps []
  g : mg x = some (.ref f)
theorem ifT {c : Prop} {_ : Decidable c} {a b : Prop} (h : c) (x : a) : if c then a else b := by rw [if_pos h]; exact x
theorem ifF {c : Prop} {_ : Decidable c} {a b : Prop} (h : ¬ c) (x : b) : if c then a else b := by rw [if_neg h]; exact x
/-! kinds -/
section
variable {P : Program} {w : World} {K : PySem.W.Frag} {mg : Str → Option Value} {base : Heap}
theorem intTy {H : Hp} {n : Int} : TyX K H (.int n) (.type "int") := .base (.int n)
def spIsInt : Sp := fun vs H Q _ => ∃ n : Int, vs = [.int n] ∧ Q (.bl true) H
theorem scIsInt : FnScope ["thing"] ["thing"] (defScope sIsInt) := ⟨rfl, rfl, rfl, by decide +kernel, rfl, by decide +kernel, by decide +kernel⟩
theorem ok_isInt {f : Addr} {fd : FuncData} (F : Fun K "is_integer" "is_integer" sIsInt f fd) (N : NamT mg) : FnOk P w K mg base CX0 1 f fd ["thing"] spIsInt := by
  refine F.ok scIsInt (fun vs H Q E h => ?_) (fun cdv A outer s H vs Q E hr h => ?_)
  · obtain ⟨n, rfl, _⟩ := h
    rfl
  · obtain ⟨n, rfl, k⟩ := h
    refine ⟨_, pss_one (ps_ret (pe_and (pe_callB call_isi (by rfl) N.is.inst (by decide +kernel) (pa_cons (pv 0) (pa_cons (pe_bltn (v := .ty "int") (by rfl) N.int (by decide +kernel) rfl) pa_nil))) (pe_one (pe_not (pe_callB call_isi (by rfl) N.is.inst (by decide +kernel) (pa_cons (pv 0) (pa_cons (pe_bltn (v := .ty "bool") (by rfl) N.is.bool (by decide +kernel) rfl) pa_nil))))))), ?_⟩
    refine ⟨_, rfl, _, .ty "int", _, _, true, rfl, .ty _, intTy, kit_ty (by decide +kernel), true, rfl, ?_⟩
    refine ifT rfl ?_
    exact ⟨_, rfl, _, .ty "bool", _, _, false, rfl, .ty _, intTy, kit_ty (by decide +kernel), false, rfl, k⟩
def spIsBtw : Sp := fun vs H Q _ => ∃ n a b : Int, vs = [.int n, .int a, .int b] ∧ Q (.bl (decide (a ≤ n ∧ n ≤ b))) H
theorem scIsBtw : FnScope ["thing", "least", "most"] ["thing", "least", "most"] (defScope sIsBtw) := ⟨rfl, rfl, rfl, by decide +kernel, rfl, by decide +kernel, by decide +kernel⟩
theorem ok_isBtw {f fI : Addr} {fd fdI : FuncData} (F : Fun K "is_between" "is_between" sIsBtw f fd) (N : NamT mg) (DI : DefAt K mg "is_integer" sIsInt ["thing"] fI fdI) : FnOk P w K mg base CX0 2 f fd ["thing", "least", "most"] spIsBtw := by
  have GI : FnOk P w K mg base CX0 1 fI fdI ["thing"] spIsInt := ok_isInt DI.F N
  refine F.ok scIsBtw (fun vs H Q E h => ?_) (fun cdv A outer s H vs Q E hr h => ?_)
  · obtain ⟨n, a, b, rfl, _⟩ := h
    rfl
  · obtain ⟨n, a, b, rfl, k⟩ := h
    refine ⟨_, pss_one (ps_ret (pe_and (pe_call GI hr (by rfl) DI.g DI.F.kp DI.b .nil pass0 (pa_cons (pv 0) pa_nil)) (pe_one (pe_chain op_le op_le (pv 1) (pv 0) (pv 2))))), ?_⟩
    refine ⟨_, rfl, n, rfl, true, rfl, ?_⟩
    refine ifT rfl ?_
    refine ⟨_, rfl, _, rfl, _, _, rfl, rfl, _, rfl, ?_⟩
    by_cases h1 : a ≤ n
    · refine ifT (decide_eq_true h1) ?_
      refine ⟨_, rfl, _, _, rfl, rfl, ?_⟩
      rw [show decide (a ≤ n ∧ n ≤ b) = decide (n ≤ b) from by simp [h1]] at k
      exact k
    · refine ifF (by rw [decide_eq_false h1]; exact Bool.false_ne_true) ?_
      rw [show decide (a ≤ n ∧ n ≤ b) = false from by simp [h1]] at k
      exact k
end
end Cn
namespace Cn
open PySem PySem.Spec PyProof.Rows L2 Ck
/-- the defs, as the text has them -/
structure Defs (K : PySem.W.Frag) (mg : Str → Option Value) (C : Addr) : Prop where
  N : NamT mg
  T : FoT K mg C
  mM : ∃ tm, mg "MOST_PLACES" = some (.int 60 tm)
  mPl : ∃ tm, mg "MOST_PLANS" = some (.int 2000 tm)
  zSum : mg "sum" = none
  ini : ∃ f fd, Fun K "__init__" "Forest.__init__" sInit f fd ∧ Mk K C f ∧ Binds K fd ["self", "parents", "bearing", "asking"] []
  I : ∃ f fd, DefAt K mg "is_integer" sIsInt ["thing"] f fd
  B : ∃ f fd, DefAt K mg "is_between" sIsBtw ["thing", "least", "most"] f fd
  L : ∃ f fd, DefAt K mg "is_lot" sIsLot ["thing"] f fd
  O : ∃ f fd, DefAt K mg "_is_lot_of_places" sLotOf ["thing", "many"] f fd
  Pl : ∃ f fd, DefAt K mg "is_place" sIsPlace ["forest", "thing"] f fd
  W : ∃ f fd, DefAt K mg "way" sWay ["forest", "place"] f fd
  pl : ∃ f fd, DefAt K mg "is_plan" sIsPlan ["forest", "thing"] f fd
  ha : ∃ f fd, DefAt K mg "_law_hand" sHand ["_law_script"] f fd
  dr : ∃ f fd, DefAt K mg "_law_draw" sDraw ["_law_hand_here", "_law_many"] f fd
  is : ∃ f fd, DefAt K mg "_law_is" sIs ["_law_told_here", "_law_due"] f fd
  pa : ∃ f fd, DefAt K mg "_law_parents" sParents ["_law_hand_here", "_law_places"] f fd
  lo : ∃ f fd, DefAt K mg "_law_lot" sLawLot ["_law_hand_here", "_law_places", "_law_share"] f fd
  le : ∃ f fd, DefAt K mg "_law_levels" sLevels ["_law_hand_here", "_law_parents_here"] f fd
  to : ∃ f fd, DefAt K mg "_law_told" sTold ["_law_hand_here", "_law_most"] f fd
  ma : ∃ f fd, DefAt K mg "_law_made" sMade ["_law_told_here"] f fd
  plans : ∃ f fd, DefAt K mg "_law_plans" sPlans ["_law_parents_here"] f fd
  wa : ∃ f fd, DefAt K mg "_ways" sWays ["forest"] f fd
  tt : ∃ f fd, DefAt K mg "_total" sTotal ["forest", "ways"] f fd
  cp : ∃ f fd, DefAt K mg "count_plans" sCountPlans ["forest"] f fd
  pat : ∃ f fd, DefAt K mg "plan_at" sPlanAt ["forest", "number"] f fd
  pnu : ∃ f fd, DefAt K mg "plan_number" sPlanNumber ["forest", "plan"] f fd
  apl : ∃ f fd, DefAt K mg "all_plans" sAllPlans ["forest"] f fd
  lcn : ∃ f fd, DefAt K mg "_law_counted" sLCounted ["_law_parents_here"] f fd
  gpa : ∃ f fd, DefAt K mg "_law_great_parents" sGreatP ["_law_hand_here"] f fd
  brk : ∃ f fd, DefAt K mg "_law_bracketings" sBrk ["_law_places"] f fd
  las : ∃ f fd, DefAt K mg "_law_last" sLast ["_law_parents_here"] f fd
  lnu : ∃ f fd, DefAt K mg "_law_number" sLNumber ["_law_hand_here", "_law_many"] f fd
  grr : ∃ f fd, DefAt K mg "_law_great_right" sGreatR ["_law_hand_here"] f fd
end Cn
namespace Cn
open PySem PySem.Spec PyProof.Rows L2 Ck
/-! readings that leave all as it is, apart from new things -/
theorem cutDrop (xs : List V) (n : Nat) : cutV xs (some (n : Int)) none = xs.drop n := by
  unfold cutV
  rw [HT.sIx_none, HT.sIx_nat]
  by_cases h : n ≤ xs.length
  · rw [Nat.min_eq_left h]
    exact List.take_of_length_le (by rw [List.length_drop]; omega)
  · rw [Nat.min_eq_right (by omega), Nat.sub_self, List.take_zero, List.drop_of_length_le (by omega)]
theorem cutWhole {xs : List V} {lo hi : Option Int} (h : HT.sIx xs.length 0 lo = 0 ∧ HT.sIx xs.length xs.length hi = xs.length) : cutV xs lo hi = xs := by
  unfold cutV
  rw [h.1, h.2, List.drop_zero, Nat.sub_zero, List.take_length]
theorem slA {K : PySem.W.Frag} {H : Hp} {a : Addr} {xs : List V} {lo hi : Option Int} {Q : VK} (ha : H a = some (.tup xs)) (k : ∀ b H', Same H H' → H' b = some (.tup (cutV xs lo hi)) → Q (.ref b) H') : rSlA K (.ref a) lo hi H Q := by
  refine ⟨a, xs, rfl, .inl (.inl ha), fun h => k a H (Same.refl _) (by rw [cutWhole h]; exact ha), fun _ p np => k p _ (smUpd np) upd_same⟩
theorem slN {K : PySem.W.Frag} {σ : L2.St} {H : Hp} {a : Addr} {xs : List V} {lo : Option Int} {Q : VK} (ha : H a = some (.tup xs)) (k : ∀ b H', Same H H' → H' b = some (.tup (cutV xs lo none)) → Q (.ref b) H') : tNoPart σ H (fun u H3 => rSlA K (.ref a) lo u H3 Q) := slA (hi := none) ha k
theorem catA {K : PySem.W.Frag} {H : Hp} {a b : Addr} {xs ys : List V} {Q : VK} (ha : H a = some (.tup xs)) (hb : H b = some (.tup ys)) (hl : xs.length + ys.length ≤ 1000) (k : ∀ c H', Same H H' → H' c = some (.tup (xs ++ ys)) → Q (.ref c) H') : rCatA K (.ref a) (.ref b) H Q := by
  refine ⟨a, b, xs, ys, rfl, rfl, .inl (.inl ha), .inl (.inl hb), Nat.le_of_lt (small1000 hl), fun h => ?_, fun _ h => ?_, fun _ _ p np => k p _ (smUpd np) upd_same⟩
  · subst h
    exact k b H (Same.refl _) hb
  · subst h
    exact k a H (Same.refl _) (by rw [List.append_nil]; exact ha)
theorem walk_zipT {K : PySem.W.Frag} {a b : Addr} {xs ys : List V} {n : Nat} (hn : n = min xs.length ys.length) : Walk (RZ.ItzT K a b) n (fun H => SqT K H a xs ∧ SqT K H b ys) (YPair (fun i => xs[i]?) (fun i => ys[i]?)) := by
  subst hn
  refine ⟨fun i _ hi q => ?_, fun _ q => ⟨xs, ys, q.1, q.2, by omega⟩, fun i H v H' _ q y => ?_⟩
  · have h1 : i < xs.length := by omega
    have h2 : i < ys.length := by omega
    exact ⟨xs, ys, xs[i], ys[i], q.1, q.2, by simp [h1], by simp [h2]⟩
  · obtain ⟨T, x, z, h1, h2, h3, h4, h5⟩ := y
    exact ⟨T, x, z, h1, h2, h3, h4 xs q.1, h5 ys q.2⟩
section
variable {P : Program} {w : World} {K : PySem.W.Frag} {mg : Str → Option Value} {base : Heap}
theorem tupTy {H : Hp} {a : Addr} {xs : List V} (h : H a = some (.tup xs)) : TyX K H (.ref a) (.type "tuple") := .base (.tup h)
def spIsLot : Sp := fun vs H Q _ => ∃ (a : Addr) (ns : List Nat), vs = [.ref a] ∧ TN H a ns ∧ ns.Pairwise (· < ·) ∧ ns.length ≤ 1000 ∧ ∀ H', Same H H' → Q (.bl true) H'
def nLot : List Str := ["thing", "item", "one", "following"]
theorem scIsLot : FnScope nLot ["thing"] (defScope sIsLot) := ⟨rfl, rfl, rfl, by decide +kernel, rfl, by decide +kernel, by decide +kernel⟩
theorem ok_isLot {f fI : Addr} {fd fdI : FuncData} (F : Fun K "is_lot" "is_lot" sIsLot f fd) (N : NamT mg) (DI : DefAt K mg "is_integer" sIsInt ["thing"] fI fdI) : FnOk P w K mg base CX0 2 f fd ["thing"] spIsLot := by
  have GI : FnOk P w K mg base CX0 1 fI fdI ["thing"] spIsInt := ok_isInt DI.F N
  refine F.ok scIsLot (fun vs H Q E h => ?_) (fun cdv A outer s H vs Q E hr h => ?_)
  · obtain ⟨a, ns, rfl, _⟩ := h
    rfl
  · obtain ⟨a, ns, rfl, ha, hp, hl, k⟩ := h
    refine ⟨_, pss_cons (ps_if (pt_not (pt_val (pe_callB call_isi (by rfl) N.is.inst (by decide +kernel) (pa_cons (pv 0) (pa_cons (pe_bltn (v := .ty "tuple") (by rfl) N.is.tup (by decide +kernel) rfl) pa_nil))))) (pss_one ps_never) pss_nil)
      (pss_cons (ps_for PassesOwn.never rfl (pi_tup (pv 0)) (pg_name (i := 1) scIsLot.nd rfl (Or.inl rfl)) (pss_one (ps_if (pt_not (pt_val (pe_call GI hr (by rfl) DI.g DI.F.kp DI.b .nil pass0 (pa_cons (pv 1) pa_nil)))) (pss_one ps_never) pss_nil)))
      (pss_cons (ps_for PassesOwn.never rfl (RZ.pi_zipA (by rfl) N.is.zip (pa_cons (pv 0) (pa_cons (pe_slice sl_tupA (pv 0) (po_some pe_int) po_none) pa_nil))) (pg_tup rfl (pgs_cons (pg_name (i := 2) scIsLot.nd rfl (Or.inl rfl)) (pgs_cons (pg_name (i := 3) scIsLot.nd rfl (Or.inl rfl)) pgs_nil)))
        (pss_one (ps_if (pt_cmpR op_ge (pv 2) (pv 3) (nomark _)) (pss_one ps_never) pss_nil)))
      (pss_one (ps_ret pe_bl)))), ?_⟩
    refine ⟨_, rfl, _, .ty "tuple", _, _, true, rfl, .ty _, tupTy ha, kit_ty (by decide +kernel), true, rfl, ?_⟩
    refine ifF (by decide) ?_
    refine ⟨_, rfl, a, rfl, ⟨_, tnL ha⟩, ?_⟩
    refine for_it (walk_tup (xs := ns.map vn)) (fun _ σ H' => H' = H ∧ ∃ t1, σ = [some (.ref a), t1, none, none]) ⟨rfl, _, rfl⟩ (fun i σ H' _ z => by rw [z.1]; exact tnL ha) ?_ ?_
    · rintro i x σ H' H2 hi ⟨rfl, t1, rfl⟩ ⟨rfl, hx⟩
      rw [List.getElem?_map] at hx
      obtain ⟨n, _, rfl⟩ := Option.map_eq_some_iff.mp hx
      refine ⟨_, rfl, (n : Int), rfl, true, rfl, ?_⟩
      refine ifF (by decide) ?_
      exact ⟨rfl, _, rfl⟩
    · rintro σ H' ⟨rfl, t1, rfl⟩
      refine ⟨_, rfl, _, rfl, 1, rfl, ?_⟩
      refine slN ha fun b H1 s1 hb => ?_
      rw [show (some (1 : Int)) = some ((1 : Nat) : Int) from rfl, cutDrop] at hb
      have ha1 : TN H1 a ns := s1 _ _ ha
      refine ⟨a, b, ns.map vn, (ns.map vn).drop 1, rfl, .inr ⟨tnL ha1, .inl (.inl hb), ?_⟩⟩
      refine for_it (walk_zipT (xs := ns.map vn) (ys := (ns.map vn).drop 1) rfl) (fun _ σ H' => Same H1 H' ∧ ∃ t1 t2 t3, σ = [some (.ref a), t1, t2, t3]) ⟨Same.refl _, _, _, _, rfl⟩ (fun i σ H' _ z => ⟨tnL (z.1 _ _ ha1), .inl (.inl (z.1 _ _ hb))⟩) ?_ ?_
      · rintro i x σ H' H2 hi ⟨sm, t1, t2, t3, rfl⟩ ⟨T, x1, y1, rfl, nT, rfl, e1, e2⟩
        obtain ⟨n, hn, rfl⟩ := vn_get (i := i) e1
        have e2 : ((ns.map vn).drop 1)[i]? = some y1 := e2
        rw [List.getElem?_drop] at e2
        obtain ⟨m, hm, rfl⟩ := vn_get e2
        refine ⟨T, _, rfl, .inl (.inl upd_same), rfl, _, _, rfl, _, _, rfl, rfl, ?_⟩
        refine ⟨_, rfl, _, rfl, _, _, rfl, rfl, _, rfl, ?_⟩
        obtain ⟨q1, q2⟩ := List.getElem?_eq_some_iff.mp hn
        obtain ⟨q3, q4⟩ := List.getElem?_eq_some_iff.mp hm
        have := List.pairwise_iff_getElem.mp hp i (1 + i) q1 q3 (by omega)
        rw [q2, q4] at this
        refine ifF (by rw [decide_eq_true_iff]; show ¬ ((m : Int) ≤ (n : Int)); omega) ?_
        exact ⟨sm.trans (smUpd nT), _, _, _, rfl⟩
      · rintro σ H' ⟨sm, _⟩
        exact k _ (s1.trans sm)
end
end Cn
namespace Cn
open PySem PySem.Spec PyProof.Rows L2 Ck
theorem vn_last {ns : List Nat} {n : Nat} (h : ns ≠ []) (hn : ns.getLast h = n) : atI (ns.map vn) (-1) = some (vn n) := by
  rw [← hn, show ns.map vn = ns.dropLast.map vn ++ [vn (ns.getLast h)] from by rw [← List.map_singleton (f := vn), ← List.map_append, List.dropLast_concat_getLast]]
  exact atI_last _ _
theorem vp_ne {m : Nat} : decide (vp (some m) = V.non) = false := decide_eq_false fun z => nomatch (show vn m = V.non from z)
section
variable {P : Program} {w : World} {K : PySem.W.Frag} {mg : Str → Option Value} {base : Heap} {C : Addr}
def spLotOf : Sp := fun vs H Q _ => ∃ (a : Addr) (ns : List Nat) (n : Nat), vs = [.ref a, vn n] ∧ TN H a ns ∧ ns.Pairwise (· < ·) ∧ (∀ x ∈ ns, x < n) ∧ ns.length ≤ 1000 ∧ ∀ H', Same H H' → Q (.bl true) H'
theorem scLotOf : FnScope ["thing", "many"] ["thing", "many"] (defScope sLotOf) := ⟨rfl, rfl, rfl, by decide +kernel, rfl, by decide +kernel, by decide +kernel⟩
theorem ok_lotOf {f fI fL : Addr} {fd fdI fdL : FuncData} (F : Fun K "_is_lot_of_places" "_is_lot_of_places" sLotOf f fd) (N : NamT mg) (DI : DefAt K mg "is_integer" sIsInt ["thing"] fI fdI) (DL : DefAt K mg "is_lot" sIsLot ["thing"] fL fdL) : FnOk P w K mg base CX0 3 f fd ["thing", "many"] spLotOf := by
  have GL : FnOk P w K mg base CX0 2 fL fdL ["thing"] spIsLot := ok_isLot DL.F N DI
  refine F.ok scLotOf (fun vs H Q E h => ?_) (fun cdv A outer s H vs Q E hr h => ?_)
  · obtain ⟨a, ns, n, rfl, _⟩ := h
    rfl
  · obtain ⟨a, ns, n, rfl, ha, hp, hx, hl, k⟩ := h
    refine ⟨_, pss_one (ps_ret (pe_and (pe_call GL hr (by rfl) DL.g DL.F.kp DL.b .nil pass0 (pa_cons (pv 0) pa_nil)) (pe_one (pe_or (pe_notT (pv 0)) (pe_one (pe_and (pe_cmpR op_le pe_int (pe_ix ix_tup (pv 0) pe_int (fun _ _ => rfl)) (nomark _)) (pe_one (pe_cmpR op_lt (pe_ix ix_tup (pv 0) (pe_un un_neg pe_int) (fun _ _ => rfl)) (pv 1) (nomark _))))))))), ?_⟩
    refine ⟨_, rfl, a, ns, rfl, ha, hp, hl, fun H1 s1 => ⟨true, rfl, ?_⟩⟩
    refine ifT rfl ?_
    have ha1 : TN H1 a ns := s1 _ _ ha
    refine ⟨_, rfl, _, .inr (.inl ⟨_, tnL ha1, rfl⟩), _, rfl, ?_⟩
    by_cases hne : ns = []
    · refine ifT (by rw [hne]; rfl) ?_
      exact k H1 s1
    · obtain ⟨m, h0⟩ : ∃ m, ns[0]? = some m := ⟨_, List.getElem?_eq_getElem (List.length_pos_iff.mpr hne)⟩
      have hem : (ns.map vn).isEmpty = false := by
        cases ns with
        | nil => exact absurd rfl hne
        | cons _ _ => rfl
      refine ifF (by rw [hem]; decide) ?_
      refine ⟨_, rfl, a, _, (0 : Int), _, rfl, rfl, tnL ha1, vn_ix (i := 0) h0, _, _, rfl, rfl, _, rfl, ?_⟩
      refine ifT (by rw [decide_eq_true_iff]; show (0 : Int) ≤ ((m : Nat) : Int); omega) ?_
      have hg := hx _ (List.getLast_mem hne)
      have el := vn_last hne rfl
      refine ⟨_, rfl, _, rfl, a, _, _, _, rfl, rfl, tnL ha1, el, _, rfl, _, _, rfl, rfl, ?_⟩
      have hlt : (((ns.getLast hne : Nat) : Int)) < (n : Int) := by omega
      show Q (V.bl (decide ((((ns.getLast hne : Nat) : Int)) < (n : Int)))) H1
      rw [decide_eq_true hlt]
      exact k H1 s1
/-! Forest(parents, bearing, asking) -/
def spInit (C : Addr) : Sp := fun vs H Q _ => ∃ (p dx ap ab aa : Addr) (f : Fo), vs = [.ref p, .ref ap, .ref ab, .ref aa] ∧ H p = some (.ins C dx []) ∧ TP H ap f.ps ∧ TN H ab f.be ∧ TN H aa f.as ∧ FoOk f ∧
  ∀ H', FoAt C H' p f → (∀ b o, b ≠ p → H b = some o → H' b = some o) → Q .non H'
def nInit : List Str := ["self", "parents", "bearing", "asking", "place", "parent"]
theorem scInit : FnScope nInit ["self", "parents", "bearing", "asking"] (defScope sInit) := ⟨rfl, rfl, rfl, by decide +kernel, rfl, by decide +kernel, by decide +kernel⟩
theorem put3 {ap ab aa : Addr} : putF "asking" (.ref aa) (putF "bearing" (.ref ab) (putF "parents" (.ref ap) [])) = fields3 ap ab aa := rfl
theorem lotLen {ns : List Nat} {n : Nat} (hp : ns.Pairwise (· < ·)) (hx : ∀ x ∈ ns, x < n) : ns.length ≤ n := by
  have h : ∀ (k : Nat) (xs : List Nat), xs.Pairwise (· < ·) → (∀ x ∈ xs, k ≤ x ∧ x < n) → k ≤ n → xs.length + k ≤ n := by
    intro k xs
    induction xs generalizing k with
    | nil => intro _ _ h; rw [List.length_nil]; omega
    | cons y ys ih =>
      intro p q hk
      have hy := q y List.mem_cons_self
      have := ih (y + 1) (List.pairwise_cons.mp p).2 (fun x hx => ⟨(List.pairwise_cons.mp p).1 x hx, (q x (List.mem_cons_of_mem _ hx)).2⟩) hy.2
      rw [List.length_cons]
      omega
  have := h 0 ns hp (fun x hx' => ⟨Nat.zero_le _, hx x hx'⟩) (Nat.zero_le _)
  omega
theorem ok_init {f fI fL fB fO : Addr} {fd fdI fdL fdB fdO : FuncData} {tm : Tok} (F : Fun K "__init__" "Forest.__init__" sInit f fd) (N : NamT mg) (T : FoT K mg C) (mM : mg "MOST_PLACES" = some (.int 60 tm)) (DI : DefAt K mg "is_integer" sIsInt ["thing"] fI fdI) (DL : DefAt K mg "is_lot" sIsLot ["thing"] fL fdL)
    (DB : DefAt K mg "is_between" sIsBtw ["thing", "least", "most"] fB fdB) (DO : DefAt K mg "_is_lot_of_places" sLotOf ["thing", "many"] fO fdO) : FnOk P w K mg base CX0 4 f fd ["self", "parents", "bearing", "asking"] (spInit C) := by
  have GB : FnOk P w K mg base CX0 2 fB fdB ["thing", "least", "most"] spIsBtw := ok_isBtw DB.F N DI
  have GO : FnOk P w K mg base CX0 3 fO fdO ["thing", "many"] spLotOf := ok_lotOf DO.F N DI DL
  refine F.ok scInit (fun vs H Q E h => ?_) (fun cdv A outer s H vs Q E hr h => ?_)
  · obtain ⟨p, dx, ap, ab, aa, f, rfl, _⟩ := h
    rfl
  · obtain ⟨p, dx, ap, ab, aa, fo, rfl, hp, h1, h2, h3, ok, k⟩ := h
    have hr2 : Room 2 (A.deeper (envOfC "Forest.__init__" (defScope sInit) s.heap.objs.size f cdv)) := Room.mono hr (by decide)
    refine ⟨_, pss_cons (ps_if (PW.pt (pw_or (pt_not (pt_val (pe_callB call_isi (by rfl) N.is.inst (by decide +kernel) (pa_cons (pv 1) (pa_cons (pe_bltn (v := .ty "tuple") (by rfl) N.is.tup (by decide +kernel) rfl) pa_nil)))))
          (pw_or1 (pt_not (pt_chain op_le op_le pe_int (pe_callB call_len_seq (by rfl) N.is.len PySem.boot_len (pa_cons (pv 1) pa_nil)) (pe_glob (v := .int 60) (by rfl) mM ⟨_, rfl⟩)))))) (pss_one ps_never) pss_nil)
      (pss_cons (ps_for PassesOwn.never rfl (pi_enumT (by rfl) N.enum (pa_cons (pv 1) pa_nil)) (pg_tup rfl (pgs_cons (pg_name (i := 4) scInit.nd rfl (Or.inl rfl)) (pgs_cons (pg_name (i := 5) scInit.nd rfl (Or.inl rfl)) pgs_nil)))
        (pss_one (ps_if (PW.pt (pw_and (pt_cmpR op_notN (pv 5) pe_non (nomark _)) (pw_and1 (pt_not (pt_val (pe_call GB hr2 (by rfl) DB.g DB.F.kp DB.b .nil pass0 (pa_cons (pv 5) (pa_cons pe_int (pa_cons (pe_op op_sub (pv 4) pe_int) pa_nil))))))))) (pss_one ps_never) pss_nil)))
      (pss_cons (ps_if (pt_not (pt_val (pe_call GO hr (by rfl) DO.g DO.F.kp DO.b .nil pass0 (pa_cons (pv 2) (pa_cons (pe_callB call_len_seq (by rfl) N.is.len PySem.boot_len (pa_cons (pv 1) pa_nil)) pa_nil))))) (pss_one ps_never) pss_nil)
      (pss_cons (ps_if (pt_not (pt_val (pe_call GO hr (by rfl) DO.g DO.F.kp DO.b .nil pass0 (pa_cons (pv 3) (pa_cons (pe_callB call_len_seq (by rfl) N.is.len PySem.boot_len (pa_cons (pv 1) pa_nil)) pa_nil))))) (pss_one ps_never) pss_nil)
      (pss_cons (ps_fld (pv 0) (pv 1) rfl) (pss_cons (ps_fld (pv 0) (pv 2) rfl) (pss_one (ps_fld (pv 0) (pv 3) rfl))))))), ?_⟩
    have l1 : ((fo.ps.map vp).length : Int) ≤ 60 := by have := ok.l1; rw [List.length_map]; omega
    have l0 : (1 : Int) ≤ ((fo.ps.map vp).length : Int) := by have := ok.l0; rw [List.length_map]; omega
    refine ⟨_, rfl, _, .ty "tuple", _, _, true, rfl, .ty _, tupTy h1, kit_ty (by decide +kernel), true, rfl, ?_⟩
    refine ifF (by decide) ?_
    refine ⟨_, rfl, ap, _, rfl, .inr (tpL h1), _, _, rfl, rfl, _, rfl, ?_⟩
    refine ifT (decide_eq_true l0) ?_
    refine ⟨_, _, rfl, rfl, _, rfl, ?_⟩
    refine ifF (by rw [decide_eq_true l1]; decide) ?_
    refine ⟨_, rfl, ap, _, rfl, tpL h1, ?_⟩
    refine for_it (walk_enumT (xs := fo.ps.map vp)) (fun _ σ H' => Same H H' ∧ ∃ t4 t5, σ = [some (.ref p), some (.ref ap), some (.ref ab), some (.ref aa), t4, t5]) ⟨Same.refl _, _, _, rfl⟩ (fun i σ H' _ z => tpL (z.1 _ _ h1)) ?_ ?_
    · rintro i x σ H' H2 hi ⟨sm, t4, t5, rfl⟩ ⟨T, x1, y1, rfl, nT, rfl, e1, e2⟩
      cases e1
      obtain ⟨q, hq, rfl⟩ := vp_get (i := i) e2
      refine ⟨T, _, rfl, .inl (.inl upd_same), rfl, _, _, rfl, _, _, rfl, rfl, ?_⟩
      cases q with
      | none =>
        refine ⟨_, rfl, rfl, _, rfl, ?_⟩
        refine ifF (by decide) ?_
        exact ⟨sm.trans (smUpd nT), _, _, rfl⟩
      | some m =>
        refine ⟨_, rfl, rfl, _, rfl, ?_⟩
        refine ifT (by rw [vp_ne]; rfl) ?_
        refine ⟨_, rfl, _, rfl, _, _, rfl, rfl, (m : Int), 0, (i : Int) - 1, rfl, _, rfl, ?_⟩
        have := ok.ps i m hq
        refine ifF (by rw [decide_eq_true (by omega)]; decide) ?_
        exact ⟨sm.trans (smUpd nT), _, _, rfl⟩
    · rintro σ H' ⟨sm, t4, t5, rfl⟩
      refine ⟨_, rfl, _, rfl, ap, _, rfl, .inr (tpL (sm _ _ h1)), ab, fo.be, fo.ps.length, by rw [List.length_map]; rfl, sm _ _ h2, ok.be, ok.bl, Nat.le_trans (lotLen ok.be ok.bl) (by have := ok.l1; omega), fun H1 s1 => ⟨true, rfl, ?_⟩⟩
      refine ifF (by decide) ?_
      refine ⟨_, rfl, _, rfl, ap, _, rfl, .inr (tpL (s1 _ _ (sm _ _ h1))), aa, fo.as, fo.ps.length, by rw [List.length_map]; rfl, s1 _ _ (sm _ _ h3), ok.as, ok.al, Nat.le_trans (lotLen ok.as ok.al) (by have := ok.l1; omega), fun H3 s3 => ⟨true, rfl, ?_⟩⟩
      refine ifF (by decide) ?_
      have sm3 := (sm.trans s1).trans s3
      refine ⟨_, rfl, _, rfl, p, C, dx, [], rfl, sm3 _ _ hp, T.cl, T.nP, (by show 0 < 1000; decide), ?_⟩
      refine ⟨_, rfl, _, rfl, p, C, dx, _, rfl, upd_same, T.cl, T.nB, (by show 1 < 1000; decide), ?_⟩
      refine ⟨_, rfl, _, rfl, p, C, dx, _, rfl, upd_same, T.cl, T.nA, (by show 2 < 1000; decide), ?_⟩
      have kp : ∀ b o, b ≠ p → H b = some o → (upd (upd (upd H3 p (.ins C dx (putF "parents" (.ref ap) []))) p (.ins C dx (putF "bearing" (.ref ab) (putF "parents" (.ref ap) [])))) p (.ins C dx (fields3 ap ab aa))) b = some o := fun b o ne e => by
        rw [upd_ne ne, upd_ne ne, upd_ne ne]
        exact sm3 _ _ e
      have nt : ∀ {a : Addr} {xs : List V}, H a = some (.tup xs) → a ≠ p := fun {a xs} e z => by rw [z, hp] at e; cases e
      exact k _ ⟨dx, ap, ab, aa, upd_same, kp _ _ (nt h1) h1, kp _ _ (nt h2) h2, kp _ _ (nt h3) h3⟩ kp
end
end Cn
namespace Cn
open PySem PySem.Spec PyProof.Rows L2 Ck
section
variable {P : Program} {w : World} {K : PySem.W.Frag} {mg : Str → Option Value} {base : Heap} {C : Addr}
/-- a def at its level -/
def Def (P : Program) (w : World) (K : PySem.W.Frag) (mg : Str → Option Value) (base : Heap) (x : Str) (k : Nat) (ps : List Str) (sp : Sp) : Prop :=
  ∃ f fd, FnOk P w K mg base CX0 k f fd ps sp ∧ mg x = some (.ref f) ∧ PySem.W.keepIn K (.ref f) = true ∧ Binds K fd ps []
theorem def_of {x : Str} {st : Stmt} {ps : List Str} {k : Nat} {sp : Sp} (h : ∃ f fd, DefAt K mg x st ps f fd) (g : ∀ f fd, Fun K x x st f fd → FnOk P w K mg base CX0 k f fd ps sp) : Def P w K mg base x k ps sp := by
  obtain ⟨f, fd, D⟩ := h
  exact ⟨f, fd, g f fd D.F, D.g, D.F.kp, D.b⟩
theorem dBtw (B : Defs K mg C) : Def P w K mg base "is_between" 2 ["thing", "least", "most"] spIsBtw := by
  obtain ⟨fI, fdI, DI⟩ := B.I
  exact def_of B.B fun f fd F => ok_isBtw F B.N DI
/-! is_place -/
def spPlace (C : Addr) : Sp := fun vs H Q _ => ∃ (a : Addr) (f : Fo) (i : Nat), vs = [.ref a, vn i] ∧ FoAt C H a f ∧ i < f.ps.length ∧ Q (.bl true) H
theorem scIsPlace : FnScope ["forest", "thing"] ["forest", "thing"] (defScope sIsPlace) := ⟨rfl, rfl, rfl, by decide +kernel, rfl, by decide +kernel, by decide +kernel⟩
theorem dPlace (B : Defs K mg C) : Def P w K mg base "is_place" 3 ["forest", "thing"] (spPlace C) := by
  obtain ⟨fB, fdB, GB, gB, kB, bB⟩ := dBtw (P := P) (w := w) (base := base) B
  refine def_of B.Pl fun f fd F => ?_
  refine F.ok scIsPlace (fun vs H Q E h => ?_) (fun cdv A outer s H vs Q E hr h => ?_)
  · obtain ⟨a, f, i, rfl, _⟩ := h
    rfl
  · obtain ⟨a, fo, i, rfl, ⟨dx, ap, ab, aa, h0, h1, h2, h3⟩, hi, k⟩ := h
    refine ⟨_, pss_one (ps_ret (pe_call GB hr (by rfl) gB kB bB .nil pass0 (pa_cons (pv 1) (pa_cons pe_int (pa_cons (pe_op op_sub (pe_callB call_len_seq (by rfl) B.N.is.len PySem.boot_len (pa_cons (pe_fld (pv 0) rfl) pa_nil)) pe_int) pa_nil))))), ?_⟩
    refine ⟨_, rfl, _, rfl, a, C, dx, _, _, rfl, h0, B.T.cl, B.T.nP, fP, ap, _, rfl, .inr (tpL h1), _, _, rfl, rfl, (i : Int), 0, _, rfl, ?_⟩
    rw [List.length_map, decide_eq_true (by omega)]
    exact k
/-! way -/
def spWay (C : Addr) : Sp := fun vs H Q _ => ∃ (a : Addr) (f : Fo) (i : Nat), vs = [.ref a, vn i] ∧ FoAt C H a f ∧ Ps f.ps ∧ f.ps.length ≤ 60 ∧ i < f.ps.length ∧ ∀ b H', Same H H' → TDn H' b (road f.ps i) → Q (.ref b) H'
def nWay : List Str := ["forest", "place", "upward", "parent"]
theorem scWay : FnScope nWay ["forest", "place"] (defScope sWay) := ⟨rfl, rfl, rfl, by decide +kernel, rfl, by decide +kernel, by decide +kernel⟩
theorem ps_at {ps : List (Option Nat)} {i : Nat} (hi : i < ps.length) : ∃ q, ps[i]? = some q := ⟨_, List.getElem?_eq_getElem hi⟩
/-- where the walk upward stands -/
def UpAt (ps : List (Option Nat)) (i : Nat) (up : List Nat) : Option Nat → Prop
  | none => road ps i = up.reverse
  | some p => p < i ∧ road ps i = road ps p ++ up.reverse
theorem upStart {ps : List (Option Nat)} {i : Nat} {q : Option Nat} (hp : Ps ps) (h : ps[i]? = some q) : UpAt ps i [i] q := by
  cases q with
  | none => exact road_none h
  | some p => exact ⟨hp i p h, road_some hp h⟩
theorem upNext {ps : List (Option Nat)} {i p : Nat} {up : List Nat} {q : Option Nat} (hp : Ps ps) (h : UpAt ps i up (some p)) (hq : ps[p]? = some q) : UpAt ps i (up ++ [p]) q := by
  obtain ⟨hl, e⟩ := h
  cases q with
  | none =>
    show road ps i = (up ++ [p]).reverse
    rw [e, road_none hq, List.reverse_append]; rfl
  | some r =>
    refine ⟨Nat.lt_trans (hp p r hq) hl, ?_⟩
    rw [e, road_some hp hq, List.reverse_append, List.append_assoc]; rfl
def meas : L2.St → Nat := fun σ => match σ[3]? with
  | some (some (V.int n)) => n.toNat + 1
  | _ => 0
theorem dWay (B : Defs K mg C) : Def P w K mg base "way" 4 ["forest", "place"] (spWay C) := by
  obtain ⟨fB, fdB, GB, gB, kB, bB⟩ := dPlace (P := P) (w := w) (base := base) B
  refine def_of B.W fun f fd F => ?_
  refine F.ok scWay (fun vs H Q E h => ?_) (fun cdv A outer s H vs Q E hr h => ?_)
  · obtain ⟨a, f, i, rfl, _⟩ := h
    rfl
  · obtain ⟨a, fo, i, rfl, hF, hp, hl, hi, k⟩ := h
    refine ⟨_, pss_cons (ps_if (pt_not (pt_val (pe_call GB hr (by rfl) gB kB bB .nil pass0 (pa_cons (pv 0) (pa_cons (pv 1) pa_nil))))) (pss_one ps_never) pss_nil)
      (pss_cons (ps_set (i := 2) scWay.nd rfl (Or.inl rfl) (pe_lst (pa_cons (pv 1) pa_nil)))
      (pss_cons (ps_set (i := 3) scWay.nd rfl (Or.inl rfl) (pe_ix ix_tup (pe_fld (pv 0) rfl) (pv 1) (fun _ _ => rfl)))
      (pss_cons (ps_while PassesOwn.never (pt_cmpR op_notN (pv 3) pe_non (nomark _))
        (pss_cons (ps_expr (pe_bm PySem.F.plainAttrs_list PySem.F.slot_list_append PySem.F.type_list_append mt_append (pv 2) (pa_cons (pv 3) pa_nil)))
        (pss_one (ps_set (i := 3) scWay.nd rfl (Or.inl rfl) (pe_ix ix_tup (pe_fld (pv 0) rfl) (pv 3) (fun _ _ => rfl))))))
      (pss_one (ps_ret (pe_tupRevD rfl (by rfl) B.N.is.tup (by rfl) B.N.rev (pv 2))))))), ?_⟩
    refine ⟨_, rfl, _, rfl, a, fo, i, rfl, hF, hi, true, rfl, ?_⟩
    refine ifF (by decide) ?_
    obtain ⟨dx, ap, ab, aa, h0, h1, h2, h3⟩ := hF
    refine ⟨_, rfl, by show 1 ≤ sizeLine; decide, fun u nu => ?_⟩
    have S1 := smUpd (o := .lst [vn i]) nu
    obtain ⟨q, hq⟩ := ps_at hi
    refine ⟨_, rfl, a, C, dx, _, _, rfl, S1 _ _ h0, B.T.cl, B.T.nP, fP, _, rfl, ap, _, (i : Int), _, rfl, rfl, tpL (S1 _ _ h1), vp_ix hq, ?_⟩
    refine while_by (fun σ H' => ∃ (up : List Nat) (q : Option Nat), σ = [some (.ref a), some (vn i), some (.ref u), some (vp q)] ∧ Same H H' ∧ H' u = some (.lst (up.map vn)) ∧ UpAt fo.ps i up q ∧ up.length ≤ i + 1) (fun σ _ => meas σ) ⟨[i], q, rfl, S1, upd_same, upStart hp hq, by show 1 ≤ i + 1; omega⟩ ?_ ?_
    · rintro σ H' ⟨up, q, rfl, sm, hu, hup, hul⟩
      refine ⟨_, rfl, rfl, _, rfl, ?_⟩
      cases q with
      | none =>
        refine ifF (by decide) ?_
        refine ⟨_, rfl, u, _, rfl, .inl (.inl hu), fun r H2 s2 hr => ?_⟩
        rw [← List.map_reverse] at hr
        have e : road fo.ps i = up.reverse := hup
        refine k r _ (sm.trans s2) ?_
        rw [e]
        exact hr
      | some p =>
        refine ifT (by rw [vp_ne]; rfl) ?_
        obtain ⟨hpi, _⟩ := id hup
        have hpl : p < fo.ps.length := Nat.lt_trans hpi hi
        obtain ⟨r, hr⟩ := ps_at hpl
        refine ⟨_, rfl, .inl ⟨rfl, _, .inl (.inl hu)⟩, _, rfl, u, _, _, rfl, rfl, hu, ?_, ?_⟩
        · rw [List.length_map]; exact small1000 (by omega)
        have nub : ∀ b o, H b = some o → b ≠ u := fun b o e z => by rw [z, nu] at e; cases e
        have sm2 : Same H (upd H' u (.lst (up.map vn ++ [vp (some p)]))) := fun b o e => by rw [upd_ne (nub b o e)]; exact sm b o e
        refine ⟨_, rfl, a, C, dx, _, _, rfl, sm2 _ _ h0, B.T.cl, B.T.nP, fP, _, rfl, ap, _, (p : Int), _, rfl, rfl, tpL (sm2 _ _ h1), vp_ix hr, ?_⟩
        refine ⟨⟨up ++ [p], r, rfl, sm2, ?_, upNext hp hup hr, ?_⟩, ?_⟩
        · rw [upd_same, List.map_append]; rfl
        · have e := road_len hp i hi
          obtain ⟨_, e2⟩ := hup
          have := List.length_pos_iff.mpr (road_ne hp hpl)
          rw [e2, List.length_append, List.length_reverse] at e
          rw [List.length_append, List.length_singleton]
          omega
        · cases r with
          | none => show 0 < (p : Int).toNat + 1; omega
          | some r =>
            have := hp p r hr
            show (r : Int).toNat + 1 < (p : Int).toNat + 1
            omega
    · rintro σ H' Q1 Q2 hq12 ⟨v, hv, e, kk, hk, qq⟩
      exact ⟨v, hv, e, kk, hk, hq12 _ _ qq⟩
end
end Cn
namespace Cn
open PySem PySem.Spec PyProof.Rows L2 Ck
/-! way, as a plain new tuple -/
section
variable {P : Program} {w : World} {K : PySem.W.Frag} {mg : Str → Option Value} {base : Heap} {C : Addr}
def spWayN (C : Addr) : Sp := fun vs H Q _ => ∃ (a : Addr) (f : Fo) (i : Nat), vs = [.ref a, vn i] ∧ FoAt C H a f ∧ Ps f.ps ∧ f.ps.length ≤ 60 ∧ i < f.ps.length ∧ ∀ b H', Same H H' → TN H' b (road f.ps i) → Q (.ref b) H'
theorem dWayN (B : Defs K mg C) : Def P w K mg base "way" 4 ["forest", "place"] (spWayN C) := by
  obtain ⟨fB, fdB, GB, gB, kB, bB⟩ := dPlace (P := P) (w := w) (base := base) B
  refine def_of B.W fun f fd F => ?_
  refine F.ok scWay (fun vs H Q E h => ?_) (fun cdv A outer s H vs Q E hr h => ?_)
  · obtain ⟨a, f, i, rfl, _⟩ := h
    rfl
  · obtain ⟨a, fo, i, rfl, hF, hp, hl, hi, k⟩ := h
    refine ⟨_, pss_cons (ps_if (pt_not (pt_val (pe_call GB hr (by rfl) gB kB bB .nil pass0 (pa_cons (pv 0) (pa_cons (pv 1) pa_nil))))) (pss_one ps_never) pss_nil)
      (pss_cons (ps_set (i := 2) scWay.nd rfl (Or.inl rfl) (pe_lst (pa_cons (pv 1) pa_nil)))
      (pss_cons (ps_set (i := 3) scWay.nd rfl (Or.inl rfl) (pe_ix ix_tup (pe_fld (pv 0) rfl) (pv 1) (fun _ _ => rfl)))
      (pss_cons (ps_while PassesOwn.never (pt_cmpR op_notN (pv 3) pe_non (nomark _))
        (pss_cons (ps_expr (pe_bm PySem.F.plainAttrs_list PySem.F.slot_list_append PySem.F.type_list_append mt_append (pv 2) (pa_cons (pv 3) pa_nil)))
        (pss_one (ps_set (i := 3) scWay.nd rfl (Or.inl rfl) (pe_ix ix_tup (pe_fld (pv 0) rfl) (pv 3) (fun _ _ => rfl))))))
      (pss_one (ps_ret (RT.pe_tupRev rfl (by rfl) B.N.is.tup (by rfl) B.N.rev (pv 2))))))), ?_⟩
    refine ⟨_, rfl, _, rfl, a, fo, i, rfl, hF, hi, true, rfl, ?_⟩
    refine ifF (by decide) ?_
    obtain ⟨dx, ap, ab, aa, h0, h1, h2, h3⟩ := hF
    refine ⟨_, rfl, by show 1 ≤ sizeLine; decide, fun u nu => ?_⟩
    have S1 := smUpd (o := .lst [vn i]) nu
    obtain ⟨q, hq⟩ := ps_at hi
    refine ⟨_, rfl, a, C, dx, _, _, rfl, S1 _ _ h0, B.T.cl, B.T.nP, fP, _, rfl, ap, _, (i : Int), _, rfl, rfl, tpL (S1 _ _ h1), vp_ix hq, ?_⟩
    refine while_by (fun σ H' => ∃ (up : List Nat) (q : Option Nat), σ = [some (.ref a), some (vn i), some (.ref u), some (vp q)] ∧ Same H H' ∧ H' u = some (.lst (up.map vn)) ∧ UpAt fo.ps i up q ∧ up.length ≤ i + 1) (fun σ _ => meas σ) ⟨[i], q, rfl, S1, upd_same, upStart hp hq, by show 1 ≤ i + 1; omega⟩ ?_ ?_
    · rintro σ H' ⟨up, q, rfl, sm, hu, hup, hul⟩
      refine ⟨_, rfl, rfl, _, rfl, ?_⟩
      cases q with
      | none =>
        refine ifF (by decide) ?_
        refine ⟨_, rfl, u, _, rfl, .inl (.inl hu), fun r nr => ?_⟩
        rw [← List.map_reverse]
        have e : road fo.ps i = up.reverse := hup
        refine k r _ (sm.trans (smUpd nr)) ?_
        rw [e]
        exact upd_same
      | some p =>
        refine ifT (by rw [vp_ne]; rfl) ?_
        obtain ⟨hpi, _⟩ := id hup
        have hpl : p < fo.ps.length := Nat.lt_trans hpi hi
        obtain ⟨r, hr⟩ := ps_at hpl
        refine ⟨_, rfl, .inl ⟨rfl, _, .inl (.inl hu)⟩, _, rfl, u, _, _, rfl, rfl, hu, ?_, ?_⟩
        · rw [List.length_map]; exact small1000 (by omega)
        have nub : ∀ b o, H b = some o → b ≠ u := fun b o e z => by rw [z, nu] at e; cases e
        have sm2 : Same H (upd H' u (.lst (up.map vn ++ [vp (some p)]))) := fun b o e => by rw [upd_ne (nub b o e)]; exact sm b o e
        refine ⟨_, rfl, a, C, dx, _, _, rfl, sm2 _ _ h0, B.T.cl, B.T.nP, fP, _, rfl, ap, _, (p : Int), _, rfl, rfl, tpL (sm2 _ _ h1), vp_ix hr, ?_⟩
        refine ⟨⟨up ++ [p], r, rfl, sm2, ?_, upNext hp hup hr, ?_⟩, ?_⟩
        · rw [upd_same, List.map_append]; rfl
        · have e := road_len hp i hi
          obtain ⟨_, e2⟩ := hup
          have := List.length_pos_iff.mpr (road_ne hp hpl)
          rw [e2, List.length_append, List.length_reverse] at e
          rw [List.length_append, List.length_singleton]
          omega
        · cases r with
          | none => show 0 < (p : Int).toNat + 1; omega
          | some r =>
            have := hp p r hr
            show (r : Int).toNat + 1 < (p : Int).toNat + 1
            omega
    · rintro σ H' Q1 Q2 hq12 ⟨v, hv, e, kk, hk, qq⟩
      exact ⟨v, hv, e, kk, hk, hq12 _ _ qq⟩
end
end Cn
namespace Cn
open PySem PySem.Spec PyProof.Rows L2 Ck
/-! data of whole numbers -/
def dn (ns : List Nat) : List PyData := ns.map fun n => PyData.int ((n : Nat) : Int)
theorem dpN {K : PySem.W.Frag} {H : Hp} : ∀ ns : List Nat, DpAll K H (ns.map vn) (dn ns)
  | [] => .nil
  | n :: ns => .cons (.int _) (dpN ns)
theorem dnLay : ∀ ns : List Nat, PyData.canLayAll0 (dn ns) = true
  | [] => rfl
  | n :: ns => by
    show (PyData.canLay0 (.int _) && PyData.canLayAll0 (dn ns)) = true
    rw [dnLay ns]; rfl
theorem dnDepth : ∀ ns : List Nat, PyData.depthAll (dn ns) = 0
  | [] => rfl
  | n :: ns => by
    show max (PyData.depth (.int _)) (PyData.depthAll (dn ns)) = 0
    rw [dnDepth ns]; rfl
theorem dnShL (ns : List Nat) : SeqAt.shaped (.list (dn ns)) = true := by
  show (PyData.canLayAll0 (dn ns) && decide (PyData.depthAll (dn ns) + 1 ≤ 64)) = true
  rw [dnLay, dnDepth]; rfl
theorem dnShT (ns : List Nat) : SeqAt.shaped (.tuple (dn ns)) = true := by
  show (PyData.canLayAll0 (dn ns) && decide (PyData.depthAll (dn ns) + 1 ≤ 64)) = true
  rw [dnLay, dnDepth]; rfl
theorem dnEqL (ns : List Nat) : PyData.eqv (.list (dn ns)) (.list (dn ns)) = true := SeqAt.eqv_refl (.list (dn ns)) (dnLay ns)
theorem dnEqT (ns : List Nat) : PyData.eqv (.tuple (dn ns)) (.tuple (dn ns)) = true := SeqAt.eqv_refl (.tuple (dn ns)) (dnLay ns)
/-- what is sorted and has just the numbers below n, each once -/
theorem sortedRange {ns : List Nat} {n : Nat} {zs : List Int} (nd : ns.Nodup) (hm : ∀ x, x ∈ ns ↔ x < n) (hp : zs.Perm (ns.map fun k => ((k : Nat) : Int))) (hs : zs.Pairwise (· ≤ ·)) : zs = (List.range n).map fun k => ((k : Nat) : Int) := by
  have h1 : ns.Perm (List.range n) := (List.perm_ext_iff_of_nodup nd List.nodup_range).mpr fun x => by rw [hm, List.mem_range]
  refine List.Perm.eq_of_pairwise (le := (· ≤ ·)) (fun a b _ _ p q => Int.le_antisymm p q) hs ?_ (hp.trans (h1.map _))
  rw [List.pairwise_map]
  exact List.pairwise_lt_range.imp fun h => by omega
theorem rgN (n : Nat) : rgV 0 (n : Int) = (List.range n).map vn := by
  unfold rgV
  rw [Int.sub_zero, Int.toNat_natCast]
  refine List.map_congr_left fun i _ => ?_
  show V.int (0 + (i : Int)) = V.int (i : Int)
  rw [Int.zero_add]
theorem mapIV (ns : List Nat) : (ns.map fun k => ((k : Nat) : Int)).map V.int = ns.map vn := by rw [List.map_map]; rfl
/-- cuts: all places, each once -/
structure CutsOk (n : Nat) (cs : List Nat) : Prop where
  len : cs.length = n
  nd : cs.Nodup
  mem : ∀ x, x ∈ cs ↔ x < n
section
variable {P : Program} {w : World} {K : PySem.W.Frag} {mg : Str → Option Value} {base : Heap} {C : Addr}
theorem dInt (B : Defs K mg C) : Def P w K mg base "is_integer" 1 ["thing"] spIsInt := def_of B.I fun f fd F => ok_isInt F B.N
end
end Cn

namespace Cn
open PySem PySem.Spec PyProof.Rows L2 Ck
section
variable {P : Program} {w : World} {K : PySem.W.Frag} {mg : Str → Option Value} {base : Heap} {C : Addr}
/-! is_plan -/
def spIsPlan (C : Addr) : Sp := fun vs H Q _ => ∃ (a b : Addr) (f : Fo) (lv : List Nat), vs = [.ref a, .ref b] ∧ FoAt C H a f ∧ TN H b lv ∧ Ps f.ps ∧ Lv f.ps lv ∧ ∀ H', Same H H' → Q (.bl true) H'
def nIsPlan : List Str := ["forest", "thing", "place", "parent", "most"]
theorem scIsPlan : FnScope nIsPlan ["forest", "thing"] (defScope sIsPlan) := ⟨rfl, rfl, rfl, by decide +kernel, rfl, by decide +kernel, by decide +kernel⟩
theorem dIsPlan (B : Defs K mg C) : Def P w K mg base "is_plan" 3 ["forest", "thing"] (spIsPlan C) := by
  obtain ⟨fB, fdB, GB, gB, kB, bB⟩ := dBtw (P := P) (w := w) (base := base) B
  have N := B.N
  have T := B.T
  refine def_of B.pl fun f fd F => ?_
  refine F.ok scIsPlan (fun vs H Q E h => ?_) (fun cdv A outer s H vs Q E hr h => ?_)
  · obtain ⟨a, b, f, lv, rfl, _⟩ := h
    rfl
  · obtain ⟨a, b, fo, lv, rfl, ⟨dx, ap, ab, aa, h0, h1, h2, h3⟩, hb, hp, hv, k⟩ := h
    refine ⟨_, pss_cons (ps_if (PW.pt (pw_or (pt_not (pt_val (pe_callB call_isi (by rfl) N.is.inst (by decide +kernel) (pa_cons (pv 1) (pa_cons (pe_bltn (v := .ty "tuple") (by rfl) N.is.tup (by decide +kernel) rfl) pa_nil)))))
          (pw_or1 (pt_cmpR op_ne (pe_callB call_len_seq (by rfl) N.is.len PySem.boot_len (pa_cons (pv 1) pa_nil)) (pe_callB call_len_seq (by rfl) N.is.len PySem.boot_len (pa_cons (pe_fld (pv 0) rfl) pa_nil)) (nomark _))))) (pss_one ps_never) pss_nil)
      (pss_cons (ps_for PassesOwn.never rfl (pi_enumT (by rfl) N.enum (pa_cons (pe_fld (pv 0) rfl) pa_nil)) (pg_tup rfl (pgs_cons (pg_name (i := 2) scIsPlan.nd rfl (Or.inl rfl)) (pgs_cons (pg_name (i := 3) scIsPlan.nd rfl (Or.inl rfl)) pgs_nil)))
        (pss_cons (ps_set (i := 4) scIsPlan.nd rfl (Or.inl rfl) (pe_ifExp (pt_cmpR op_isN (pv 3) pe_non (nomark _)) pe_int (pe_op op_add (pe_ix ix_tup (pv 1) (pv 3) (fun _ _ => rfl)) pe_int)))
        (pss_one (ps_if (pt_not (pt_val (pe_call GB hr (by rfl) gB kB bB .nil pass0 (pa_cons (pe_ix ix_tup (pv 1) (pv 2) (fun _ _ => rfl)) (pa_cons pe_int (pa_cons (pv 4) pa_nil)))))) (pss_one ps_never) pss_nil))))
      (pss_one (ps_ret pe_bl))), ?_⟩
    refine ⟨_, rfl, _, .ty "tuple", _, _, true, rfl, .ty _, tupTy hb, kit_ty (by decide +kernel), true, rfl, ?_⟩
    refine ifF (by decide) ?_
    refine ⟨_, rfl, b, _, rfl, .inr (tnL hb), _, rfl, a, C, dx, _, _, rfl, h0, T.cl, T.nP, fP, ap, _, rfl, .inr (tpL h1), rfl, _, rfl, ?_⟩
    refine ifF (by rw [List.length_map, List.length_map, hv.1, decide_eq_true rfl]; decide) ?_
    refine ⟨_, rfl, a, C, dx, _, _, rfl, h0, T.cl, T.nP, fP, ap, _, rfl, tpL h1, ?_⟩
    refine for_it (walk_enumT (xs := fo.ps.map vp)) (fun _ σ H' => Same H H' ∧ ∃ t2 t3 t4, σ = [some (.ref a), some (.ref b), t2, t3, t4]) ⟨Same.refl _, _, _, _, rfl⟩ (fun i σ H' _ z => tpL (z.1 _ _ h1)) ?_ ?_
    · rintro i x σ H' H2 hi ⟨sm, t2, t3, t4, rfl⟩ ⟨T1, x1, y1, rfl, nT, rfl, e1, e2⟩
      cases e1
      obtain ⟨q, hq, rfl⟩ := vp_get (i := i) e2
      refine ⟨T1, _, rfl, .inl (.inl upd_same), rfl, _, _, rfl, _, _, rfl, rfl, ?_⟩
      have sm2 := sm.trans (smUpd (o := .tup [.int (i : Nat), vp q]) nT)
      generalize upd H' T1 (.tup [.int (i : Nat), vp q]) = H2 at sm2 ⊢
      have hb2 := sm2 _ _ hb
      have hil : i < lv.length := by rw [hv.1]; exact (List.getElem?_eq_some_iff.mp hq).1
      have hl := getD_at hil
      have hlv := hv.2 i _ q hl hq
      refine ⟨_, rfl, rfl, _, rfl, ?_⟩
      cases q with
      | none =>
        refine ifT (by decide) ?_
        refine ⟨_, rfl, _, rfl, b, _, (i : Int), _, rfl, rfl, tnL hb2, vn_ix hl, _, rfl, _, _, _, rfl, _, rfl, ?_⟩
        have e : mostLv lv none = 1 := rfl
        refine ifF (by rw [decide_eq_true (by omega)]; decide) ?_
        exact ⟨sm2, _, _, _, rfl⟩
      | some p =>
        refine ifF (by rw [vp_ne]; decide) ?_
        have hpl : p < lv.length := Nat.lt_trans (hp i p hq) hil
        refine ⟨_, rfl, _, rfl, b, _, (p : Int), _, rfl, rfl, tnL hb2, vn_ix (getD_at hpl), _, _, rfl, rfl, ?_⟩
        refine ⟨_, rfl, _, rfl, b, _, (i : Int), _, rfl, rfl, tnL hb2, vn_ix hl, _, rfl, _, _, _, rfl, _, rfl, ?_⟩
        have e : mostLv lv (some p) = lv.getD p 0 + 1 := rfl
        refine ifF (by rw [decide_eq_true (by omega)]; decide) ?_
        exact ⟨sm2, _, _, _, rfl⟩
    · rintro σ H' ⟨sm, _⟩
      exact k _ sm
end
end Cn
namespace Cn
open PySem PySem.Spec PyProof.Rows L2 Ck
theorem smOver {H1 H4 : Hp} {D : Addr} {o : HO} (nD : H1 D = none) (sm : Same H1 H4) : Same H1 (upd H4 D o) := fun b u e => by
  have nb : b ≠ D := fun z => by rw [z, nD] at e; cases e
  rw [upd_ne nb]
  exact sm b u e
end Cn
namespace Cn
open PySem PySem.Spec PyProof.Rows L2 Ck
def dPar (ps : List (Option Nat)) : List PyData := ps.map fun q => match q with | none => PyData.none | some n => PyData.int ((n : Nat) : Int)
theorem dpPar {K : PySem.W.Frag} {H : Hp} : ∀ ps : List (Option Nat), DpAll K H (ps.map vp) (dPar ps)
  | [] => .nil
  | none :: ps => .cons .non (dpPar ps)
  | some n :: ps => .cons (.int _) (dpPar ps)
theorem dParLay : ∀ ps : List (Option Nat), PyData.canLayAll0 (dPar ps) = true
  | [] => rfl
  | none :: ps => by
    show (PyData.canLay0 .none && PyData.canLayAll0 (dPar ps)) = true
    rw [dParLay ps]; rfl
  | some n :: ps => by
    show (PyData.canLay0 (.int _) && PyData.canLayAll0 (dPar ps)) = true
    rw [dParLay ps]; rfl
theorem dParDepth : ∀ ps : List (Option Nat), PyData.depthAll (dPar ps) = 0
  | [] => rfl
  | none :: ps => by
    show max (PyData.depth .none) (PyData.depthAll (dPar ps)) = 0
    rw [dParDepth ps]; rfl
  | some n :: ps => by
    show max (PyData.depth (.int _)) (PyData.depthAll (dPar ps)) = 0
    rw [dParDepth ps]; rfl
theorem dParSh (ps : List (Option Nat)) : SeqAt.shaped (.tuple (dPar ps)) = true := by
  show (PyData.canLayAll0 (dPar ps) && decide (PyData.depthAll (dPar ps) + 1 ≤ 64)) = true
  rw [dParLay, dParDepth]; rfl
theorem dParEq : ∀ {ps qs : List (Option Nat)}, PyData.eqvAll (dPar ps) (dPar qs) = true → ps = qs
  | [], [], _ => rfl
  | [], q :: qs, h => by cases q <;> simp [dPar, PyData.eqvAll] at h
  | p :: ps, [], h => by cases p <;> simp [dPar, PyData.eqvAll] at h
  | none :: ps, none :: qs, h => by
    have h2 : PyData.eqvAll (dPar ps) (dPar qs) = true := by
      have h1 : PyData.eqvAll (PyData.none :: dPar ps) (PyData.none :: dPar qs) = true := h
      simp only [PyData.eqvAll, Bool.and_eq_true] at h1
      exact h1.2
    rw [dParEq h2]
  | some p :: ps, some q :: qs, h => by
    have h1 : PyData.eqvAll (PyData.int ((p : Nat) : Int) :: dPar ps) (PyData.int ((q : Nat) : Int) :: dPar qs) = true := h
    simp only [PyData.eqvAll, PyData.eqv, Bool.and_eq_true, beq_iff_eq] at h1
    rw [dParEq h1.2, show p = q from by omega]
  | none :: ps, some q :: qs, h => by
    have h1 : PyData.eqvAll (PyData.none :: dPar ps) (PyData.int ((q : Nat) : Int) :: dPar qs) = true := h
    simp [PyData.eqvAll, PyData.eqv] at h1
  | some p :: ps, none :: qs, h => by
    have h1 : PyData.eqvAll (PyData.int ((p : Nat) : Int) :: dPar ps) (PyData.none :: dPar qs) = true := h
    simp [PyData.eqvAll, PyData.eqv] at h1
theorem dParEqT {ps qs : List (Option Nat)} (h : PyData.eqv (.tuple (dPar ps)) (.tuple (dPar qs)) = true) : ps = qs := dParEq (by simpa only [PyData.eqv] using h)
end Cn
namespace Cn
open PySem PySem.Spec PyProof.Rows L2 Ck
def rLenQ (K : PySem.W.Frag) : List V → Hp → VK → Prop := fun xs H Q => ∃ p ys, xs = [.ref p] ∧ (SqL K H p ys ∨ SqT K H p ys) ∧ Q (.int ys.length) H
theorem len_q {X : Cx} : CallR X (.builtin "len") (rLenQ X.K) := call_len_seq
/-- either a list or a tuple, in slot i -/
def iSeq (K : PySem.W.Frag) (i : Nat) : TI := fun σ H R => iList K (tVar i) σ H R ∨ iTup K (tVar i) σ H R
theorem lenZero {n : Nat} : decide (V.int (n : Int) = V.int 0) = decide (n = 0) := by
  rw [Bool.eq_iff_iff, decide_eq_true_iff, decide_eq_true_iff]
  exact ⟨fun z => by have := V.int.inj z; omega, fun z => by rw [z]; rfl⟩
end Cn
namespace Cn
open PySem PySem.Spec PyProof.Rows L2 Ck
/-- a list of tuples of numbers -/
def Rows (H : Hp) (g : Nat → List Nat) (n : Nat) (us : List V) : Prop := us.length = n ∧ ∀ i, i < n → ∃ t, us[i]? = some (.ref t) ∧ TN H t (g i)
theorem rows0 {H : Hp} {g : Nat → List Nat} : Rows H g 0 [] := ⟨rfl, fun i h => absurd h (Nat.not_lt_zero _)⟩
theorem rowsSame {H H' : Hp} {g : Nat → List Nat} {n : Nat} {us : List V} (s : Same H H') (h : Rows H g n us) : Rows H' g n us := ⟨h.1, fun i hi => by
  obtain ⟨t, e, ht⟩ := h.2 i hi
  exact ⟨t, e, s _ _ ht⟩⟩
theorem rowsAdd {H : Hp} {g : Nat → List Nat} {n : Nat} {us : List V} {t : Addr} (h : Rows H g n us) (ht : TN H t (g n)) : Rows H g (n + 1) (us ++ [.ref t]) := by
  refine ⟨by rw [List.length_append, h.1]; rfl, fun i hi => ?_⟩
  by_cases e : i < n
  · obtain ⟨t', e', ht'⟩ := h.2 i e
    exact ⟨t', by rw [List.getElem?_append_left (by rw [h.1]; exact e)]; exact e', ht'⟩
  · have : i = n := by omega
    subst this
    exact ⟨t, by rw [List.getElem?_append_right (by rw [h.1]; exact Nat.le_refl _), h.1, Nat.sub_self]; rfl, ht⟩
/-- what is written at D, elsewhere nothing -/
theorem rowsUpd {H0 H' : Hp} {g : Nat → List Nat} {n : Nat} {us : List V} {D : Addr} {o : HO} {xs : List V} (h : Rows H' g n us) (hD : H' D = some (.lst xs)) : Rows (upd H' D o) g n us := ⟨h.1, fun i hi => by
  obtain ⟨t, e, ht⟩ := h.2 i hi
  have ne : t ≠ D := fun z => by
    have ht : H' t = _ := ht
    rw [z, hD] at ht; cases ht
  refine ⟨t, e, ?_⟩
  show upd H' D o t = _
  rw [upd_ne ne]; exact ht⟩
theorem lvLe {ps : List (Option Nat)} {lv : List Nat} (hp : Ps ps) (hv : Lv ps lv) : ∀ i, i < ps.length → lv.getD i 0 ≤ i + 1 := by
  intro i
  induction i using Nat.strongRecOn with
  | ind i ih =>
    intro hi
    have hil : i < lv.length := by rw [hv.1]; exact hi
    rcases opt_cases hi with h | ⟨p, h⟩
    · have h2 := hv.2 i _ _ (getD_at hil) h
      have e : mostLv lv none = 1 := rfl
      omega
    · have h2 := hv.2 i _ _ (getD_at hil) h
      have e : mostLv lv (some p) = lv.getD p 0 + 1 := rfl
      have hl := hp i p h
      have := ih p hl (Nat.lt_trans hl hi)
      omega
theorem stkLe {ps : List (Option Nat)} {lv : List Nat} {i : Nat} (hp : Ps ps) (hv : Lv ps lv) (hl : ps.length ≤ 60) (hi : i < ps.length) : (stk ps lv i).length ≤ 60 := by
  rw [stk_len hp hv i hi]
  have := lvLe hp hv i hi
  omega
theorem tnAt {H : Hp} {a : Addr} {xs : List V} {ns : List Nat} (h : H a = some (.tup xs)) (e : xs = ns.map vn) : TN H a ns := by
  show H a = some (.tup (ns.map vn))
  rw [← e]; exact h
end Cn
namespace Cn
open PySem PySem.Spec PyProof.Rows L2 Ck
/-! a note, notes as the heap has them -/
def NoteR (H : Hp) (v : V) (p : List Nat × List Nat) : Prop := ∃ t x y, v = .ref t ∧ H t = some (.tup [.ref x, .ref y]) ∧ TN H x p.1 ∧ TN H y p.2
theorem noteSame {H H' : Hp} (s : Same H H') {v : V} {p : List Nat × List Nat} (h : NoteR H v p) : NoteR H' v p := by
  obtain ⟨t, x, y, e, h1, h2, h3⟩ := h
  exact ⟨t, x, y, e, s _ _ h1, s _ _ h2, s _ _ h3⟩
def NotesR (H : Hp) (us : List V) (ps : List (List Nat × List Nat)) : Prop := Paired (NoteR H) us ps
theorem notesSame {H H' : Hp} (s : Same H H') {us : List V} {ps : List (List Nat × List Nat)} (h : NotesR H us ps) : NotesR H' us ps := Paired.mapP h fun _ _ z => noteSame s z
theorem notesUpd {H' : Hp} {D : Addr} {o : HO} {xs us : List V} {ps : List (List Nat × List Nat)} (hD : H' D = some (.lst xs)) (h : NotesR H' us ps) : NotesR (upd H' D o) us ps := Paired.mapP h fun v p z => by
  obtain ⟨t, x, y, e, h1, h2, h3⟩ := z
  have ne : ∀ {a : Addr} {ys : List V}, H' a = some (.tup ys) → upd H' D o a = some (.tup ys) := fun {a ys} e2 => by
    have q : a ≠ D := fun z => by rw [z, hD] at e2; cases e2
    rw [upd_ne q]; exact e2
  exact ⟨t, x, y, e, ne h1, ne h2, ne h3⟩
theorem paired_snoc {α β : Type} {F : α → β → Prop} : ∀ {xs : List α} {ys : List β} {x : α} {y : β}, Paired F xs ys → F x y → Paired F (xs ++ [x]) (ys ++ [y])
  | _, _, _, _, .nil, h => .cons h .nil
  | _, _, _, _, .cons a t, h => .cons a (paired_snoc t h)
end Cn
namespace Cn
open PySem PySem.Spec PyProof.Rows L2 Ck
/-! the hand, turned -/
def Kept (p : Addr) (H H' : Hp) : Prop := ∀ b o, b ≠ p → H b = some o → H' b = some o
theorem kept_same {p : Addr} {H H' : Hp} (h : Same H H') : Kept p H H' := fun b o _ e => h b o e
theorem kept_trans {p : Addr} {H H1 H2 : Hp} (h : Kept p H H1) (k : Kept p H1 H2) : Kept p H H2 := fun b o ne e => k b o ne (h b o ne e)
theorem kept_hand {p : Addr} {H : Hp} {o : HO} : Kept p H (upd H p o) := fun b u ne e => by rw [upd_ne ne]; exact e
theorem kept_over {p D : Addr} {H1 H4 : Hp} {o : HO} (nD : H1 D = none) (k : Kept p H1 H4) : Kept p H1 (upd H4 D o) := fun b u ne e => by
  have nb : b ≠ D := fun z => by rw [z, nD] at e; cases e
  rw [upd_ne nb]
  exact k b u ne e
theorem handIn_upd {H : Hp} {p c : Addr} {cells : List Int} (h : HandIn H p c cells) {i g m t : Int} (hi : 0 ≤ i) : HandIn (upd H p (handL c i g m t)) p c cells :=
  ⟨⟨i, g, m, t, upd_same, hi⟩, by rw [upd_ne h.ne.symm]; exact h.ce, h.ne⟩
theorem handIn_keep {H H' : Hp} {p c : Addr} {cells : List Int} (h : HandIn H p c cells) (k : Same H H') : HandIn H' p c cells := by
  obtain ⟨⟨i, g, m, t, hp, hi⟩, hc, ne⟩ := h
  exact ⟨⟨i, g, m, t, k _ _ hp, hi⟩, k _ _ hc, ne⟩
/-- written at D, which is neither the hand nor its cells -/
theorem handIn_write {H0 H : Hp} {p c D : Addr} {cells cells0 : List Int} {o : HO} (h0 : HandIn H0 p c cells0) (nD : H0 D = none) (h : HandIn H p c cells) : HandIn (upd H D o) p c cells := by
  obtain ⟨⟨i, g, m, t, hp, hi⟩, hc, ne⟩ := h
  have n1 : p ≠ D := fun z => by
    obtain ⟨_, _, _, _, e, _⟩ := h0.ob
    rw [z, nD] at e; cases e
  have n2 : c ≠ D := fun z => by
    have e := h0.ce
    rw [z, nD] at e; cases e
  exact ⟨⟨i, g, m, t, by rw [upd_ne n1]; exact hp, hi⟩, by rw [upd_ne n2]; exact hc, ne⟩
theorem hand_ne {H : Hp} {p c a : Addr} {cells : List Int} (h : HandIn H p c cells) (na : H a = none) : a ≠ p := fun z => by
  obtain ⟨_, _, _, _, e, _⟩ := h.ob
  rw [← z, na] at e; cases e
/-- what is no list is not the hand -/
theorem tup_ne {H : Hp} {p c a : Addr} {cells : List Int} {xs : List V} (h : HandIn H p c cells) (ha : H a = some (.tup xs)) : a ≠ p := fun z => by
  obtain ⟨_, _, _, _, e, _⟩ := h.ob
  rw [← z, ha] at e; cases e
theorem atMem {xs : List V} {d : Int} (h0 : 0 ≤ d) (h1 : d < (xs.length : Int)) : ∃ v, atI xs d = some v ∧ v ∈ xs := by
  obtain ⟨n, rfl⟩ := Int.eq_ofNat_of_zero_le h0
  have hn : n < xs.length := by omega
  exact ⟨xs[n], atI_nat (List.getElem?_eq_getElem hn), List.getElem_mem hn⟩
theorem glCons {R : V → Prop} {x : V} {xs : List V} (h : R x) (t : ∀ v ∈ xs, R v) : ∀ v ∈ x :: xs, R v := fun v hm => by
  rcases List.mem_cons.mp hm with e | hm
  · rw [e]; exact h
  · exact t v hm
theorem glNil {R : V → Prop} : ∀ v ∈ ([] : List V), R v := fun v hm => by cases hm
section
variable {P : Program} {w : World} {K : PySem.W.Frag} {mg : Str → Option Value} {base : Heap} {C : Addr}
theorem nOf (B : Defs K mg C) : NamT mg := B.N
theorem dDraw (B : Defs K mg C) : Def P w K mg base "_law_draw" 1 ["_law_hand_here", "_law_many"] spDraw := def_of B.dr fun f fd F => ok_draw F (nOf B).int (nOf B).is.len
end
end Cn
namespace Cn
open PySem PySem.Spec PyProof.Rows L2 Ck
section
variable {P : Program} {w : World} {K : PySem.W.Frag} {mg : Str → Option Value} {base : Heap} {C : Addr}
/-- a parent that may stand at place n -/
def ParOk (n : Nat) (v : V) : Prop := ∃ q, v = vp q ∧ ∀ m, q = some m → m < n
def spParents : Sp := fun vs H Q _ => ∃ (p c : Addr) (cells : List Int) (n : Nat), vs = [.ref p, vn n] ∧ HandIn H p c cells ∧ 1 ≤ n ∧ n ≤ 60 ∧
  ∀ r ps H', Ps ps → ps.length = n → HandIn H' p c cells → Kept p H H' → TP H' r ps → Q (.ref r) H'
def nParents : List Str := ["_law_hand_here", "_law_places", "_law_found", "_law_place", "_law_some_here"]
theorem scParents : FnScope nParents ["_law_hand_here", "_law_places"] (defScope sParents) := ⟨rfl, rfl, rfl, by decide +kernel, rfl, by decide +kernel, by decide +kernel⟩
theorem psSnoc {ps : List (Option Nat)} {q : Option Nat} (hp : Ps ps) (hq : ∀ m, q = some m → m < ps.length) : Ps (ps ++ [q]) := fun i m h => by
  by_cases c : i < ps.length
  · rw [List.getElem?_append_left c] at h
    exact hp i m h
  · rw [List.getElem?_append_right (by omega)] at h
    have e : i = ps.length := by
      have := (List.getElem?_eq_some_iff.mp h).1
      simp at this
      omega
    subst e
    rw [Nat.sub_self] at h
    exact hq m (Option.some.inj h)
theorem dParents (B : Defs K mg C) : Def P w K mg base "_law_parents" 2 ["_law_hand_here", "_law_places"] spParents := by
  obtain ⟨fD, fdD, GD, gD, kD, bD⟩ := dDraw (P := P) (w := w) (base := base) B
  have N := nOf B
  refine def_of B.pa fun f fd F => ?_
  refine F.ok scParents (fun vs H Q E h => ?_) (fun cdv A outer s H vs Q E hr h => ?_)
  · obtain ⟨p, c, cells, n, rfl, _⟩ := h
    rfl
  · obtain ⟨p, c, cells, n, rfl, hI, h1, h60, k⟩ := h
    refine ⟨_, pss_cons (ps_set (i := 2) scParents.nd rfl (Or.inl rfl) (pe_lst (pa_cons pe_non pa_nil)))
      (pss_cons (ps_for PassesOwn.never rfl (pi_range2 (by rfl) N.range (pa_cons pe_int (pa_cons (pv 1) pa_nil))) (pg_name (i := 3) scParents.nd rfl (Or.inl rfl))
        (pss_cons (ps_set (i := 4) scParents.nd rfl (Or.inl rfl) (pe_lst (pa_cons pe_non (pa_cons (pe_op op_sub (pv 3) pe_int) (pa_cons (pe_op op_sub (pv 3) pe_int) (pa_cons (pe_op op_sub (pv 3) pe_int)
            (pa_cons (pe_call GD hr (by rfl) gD kD bD .nil pass0 (pa_cons (pv 0) (pa_cons (pv 3) pa_nil))) (pa_cons (pe_call GD hr (by rfl) gD kD bD .nil pass0 (pa_cons (pv 0) (pa_cons (pv 3) pa_nil))) pa_nil))))))))
        (pss_one (ps_expr (pe_bm PySem.F.plainAttrs_list PySem.F.slot_list_append PySem.F.type_list_append mt_append (pv 2) (pa_cons (pe_ix ix_list (pv 4) (pe_call GD hr (by rfl) gD kD bD .nil pass0 (pa_cons (pv 0) (pa_cons pe_int pa_nil))) (fun _ _ => rfl)) pa_nil))))))
      (pss_one (ps_ret (pe_callTy call_tuple_of (by rfl) N.is.tup (by decide +kernel) (pa_cons (pv 2) pa_nil))))), ?_⟩
    refine ⟨by show 1 ≤ sizeLine; decide, fun D nD => ?_⟩
    have nDp := hand_ne hI nD
    refine ⟨_, rfl, 1, (n : Int), rfl, ⟨by decide, by decide, by omega, by omega⟩, ?_⟩
    refine for_range (lo := 1) (n := ((n : Int) - 1).toNat) (fun i σ H' => ∃ (ps : List (Option Nat)) (t3 t4 : Option V), σ = [some (.ref p), some (vn n), some (.ref D), t3, t4] ∧ HandIn H' p c cells ∧ Kept p H H' ∧ H' D = some (.lst (ps.map vp)) ∧ ps.length = i + 1 ∧ Ps ps) ?_ ?_ ?_
    · refine ⟨[none], none, none, rfl, handIn_keep hI (smUpd nD), kept_same (smUpd nD), upd_same, rfl, fun i m h => ?_⟩
      cases i with
      | zero => cases h
      | succ i => cases h
    · rintro i σ H1 hi ⟨ps, t3, t4, rfl, hI1, k1, hD1, hl, hp⟩
      have e1 : (1 : Int) + (i : Int) = ((i + 1 : Nat) : Int) := by omega
      rw [e1]
      have e2 : (((i + 1 : Nat) : Int)) - 1 = ((i : Nat) : Int) := by omega
      refine ⟨_, rfl, _, _, rfl, rfl, _, rfl, _, _, rfl, rfl, _, rfl, _, _, rfl, rfl, ?_⟩
      refine ⟨_, rfl, _, rfl, p, c, cells, ((i + 1 : Nat) : Int), rfl, hI1, by omega, by omega, fun d1 a1 a2 a3 a4 d10 d11 a10 => ?_⟩
      refine ⟨_, rfl, _, rfl, p, c, cells, ((i + 1 : Nat) : Int), rfl, handIn_upd hI1 a10, by omega, by omega, fun d2 b1 b2 b3 b4 d20 d21 b10 => ?_⟩
      have hI3 := handIn_upd (i := b1) (g := b2) (m := b3) (t := b4) (handIn_upd (i := a1) (g := a2) (m := a3) (t := a4) hI1 a10) b10
      have k3 : Kept p H1 (upd (upd H1 p (handL c a1 a2 a3 a4)) p (handL c b1 b2 b3 b4)) := kept_trans kept_hand kept_hand
      have hD3 : (upd (upd H1 p (handL c a1 a2 a3 a4)) p (handL c b1 b2 b3 b4)) D = some (.lst (ps.map vp)) := k3 _ _ nDp hD1
      generalize upd (upd H1 p (handL c a1 a2 a3 a4)) p (handL c b1 b2 b3 b4) = H3 at hI3 k3 hD3 ⊢
      refine ⟨by show 6 ≤ sizeLine; decide, fun l nl => ?_⟩
      have S4 := smUpd (o := .lst [.non, .int (((i + 1 : Nat) : Int) - 1), .int (((i + 1 : Nat) : Int) - 1), .int (((i + 1 : Nat) : Int) - 1), .int d1, .int d2]) nl
      have nlp := hand_ne hI3 nl
      have hI4 := handIn_keep hI3 S4
      have hD4 := S4 _ _ hD3
      have hl4 : upd H3 l (.lst [.non, .int (((i + 1 : Nat) : Int) - 1), .int (((i + 1 : Nat) : Int) - 1), .int (((i + 1 : Nat) : Int) - 1), .int d1, .int d2]) l = some (.lst [.non, .int (((i + 1 : Nat) : Int) - 1), .int (((i + 1 : Nat) : Int) - 1), .int (((i + 1 : Nat) : Int) - 1), .int d1, .int d2]) := upd_same
      have k4 := kept_trans k3 (kept_same (p := p) S4)
      have okAll : ∀ v ∈ [V.non, .int (((i + 1 : Nat) : Int) - 1), .int (((i + 1 : Nat) : Int) - 1), .int (((i + 1 : Nat) : Int) - 1), .int d1, .int d2], ParOk (i + 1) v := by
        have a : ParOk (i + 1) (.int (((i + 1 : Nat) : Int) - 1)) := ⟨some i, by rw [e2]; rfl, fun m e => by cases e; omega⟩
        have b : ∀ d : Int, 0 ≤ d → d < ((i + 1 : Nat) : Int) → ParOk (i + 1) (.int d) := fun d h0 h1 => by
          obtain ⟨m, rfl⟩ := Int.eq_ofNat_of_zero_le h0
          exact ⟨some m, rfl, fun m' e => by cases e; omega⟩
        exact glCons ⟨none, rfl, fun m e => by cases e⟩ (glCons a (glCons a (glCons a (glCons (b d1 d10 d11) (glCons (b d2 d20 d21) glNil)))))
      generalize upd H3 l (.lst [.non, .int (((i + 1 : Nat) : Int) - 1), .int (((i + 1 : Nat) : Int) - 1), .int (((i + 1 : Nat) : Int) - 1), .int d1, .int d2]) = H4 at S4 hI4 hD4 hl4 k4 ⊢
      refine ⟨_, rfl, .inl ⟨rfl, _, .inl (.inl hD4)⟩, _, rfl, _, rfl, p, c, cells, 6, rfl, hI4, by decide, by decide, fun d3 c1 c2 c3 c4 d30 d31 c10 => ?_⟩
      have hI5 := handIn_upd (i := c1) (g := c2) (m := c3) (t := c4) hI4 c10
      have hD5 : (upd H4 p (handL c c1 c2 c3 c4)) D = some (.lst (ps.map vp)) := by rw [upd_ne nDp]; exact hD4
      have hl5 := (show upd H4 p (handL c c1 c2 c3 c4) l = H4 l from upd_ne nlp).trans hl4
      have k5 := kept_trans k4 (kept_hand (p := p) (o := handL c c1 c2 c3 c4))
      generalize upd H4 p (handL c c1 c2 c3 c4) = H5 at hI5 hD5 hl5 k5 ⊢
      obtain ⟨v, hv, hm⟩ := atMem (xs := [V.non, .int (((i + 1 : Nat) : Int) - 1), .int (((i + 1 : Nat) : Int) - 1), .int (((i + 1 : Nat) : Int) - 1), .int d1, .int d2]) d30 d31
      obtain ⟨q, rfl, hq⟩ := okAll v hm
      refine ⟨l, _, d3, _, rfl, rfl, .inl (.inl hl5), hv, D, _, _, rfl, rfl, hD5, small1000 (by rw [List.length_map]; omega), ?_⟩
      refine ⟨ps ++ [q], _, _, rfl, handIn_write hI nD hI5, kept_over nD (kept_trans k1 k5), ?_, by rw [List.length_append, hl]; rfl, psSnoc hp (fun m e => by rw [hl]; exact hq m e)⟩
      rw [upd_same, List.map_append]
      rfl
    · rintro σ H1 ⟨ps, t3, t4, rfl, hI1, k1, hD1, hl, hp⟩
      refine ⟨_, rfl, D, _, rfl, .inl ⟨.inl (.inl hD1), fun r nr => ?_⟩⟩
      exact k r ps _ hp (by omega) (handIn_keep hI1 (smUpd nr)) (kept_trans k1 (kept_same (smUpd nr))) upd_same
/-! a drawn lot -/
def spLawLot : Sp := fun vs H Q _ => ∃ (p c : Addr) (cells : List Int) (n sh : Nat), vs = [.ref p, vn n, vn sh] ∧ HandIn H p c cells ∧ n ≤ 60 ∧
  ∀ r ns H', ns.Pairwise (· < ·) → (∀ x ∈ ns, x < n) → HandIn H' p c cells → Kept p H H' → TN H' r ns → Q (.ref r) H'
def nLawLot : List Str := ["_law_hand_here", "_law_places", "_law_share", "_law_place"]
theorem scLawLot : FnScope nLawLot ["_law_hand_here", "_law_places", "_law_share"] (defScope sLawLot) := ⟨rfl, rfl, rfl, by decide +kernel, rfl, by decide +kernel, by decide +kernel⟩
theorem dLawLot (B : Defs K mg C) : Def P w K mg base "_law_lot" 2 ["_law_hand_here", "_law_places", "_law_share"] spLawLot := by
  obtain ⟨fD, fdD, GD, gD, kD, bD⟩ := dDraw (P := P) (w := w) (base := base) B
  have N := nOf B
  refine def_of B.lo fun f fd F => ?_
  refine F.ok scLawLot (fun vs H Q E h => ?_) (fun cdv A outer s H vs Q E hr h => ?_)
  · obtain ⟨p, c, cells, n, sh, rfl, _⟩ := h
    rfl
  · obtain ⟨p, c, cells, n, sh, rfl, hI, h60, k⟩ := h
    refine ⟨_, pss_one (ps_ret (pe_callTy call_tuple_of (by rfl) N.is.tup (by decide +kernel) (pa_cons (pe_lc (own := [("_law_place", 3)]) (g := gName 3) rfl scLawLot.nd (pi_range1 (by rfl) N.range (pa_cons (pv 1) pa_nil))
        (blkOk_by (N := nLawLot) (sc := defScope sLawLot) (by decide +kernel)) (fun _ _ _ _ _ => pg_name (i := 3) scLawLot.nd rfl (Or.inl rfl)) (fun _ _ _ _ _ => pts_one (pt_cmpR op_lt (pe_call GD hr (by rfl) gD kD bD .nil pass0 (pa_cons (pv 0) (pa_cons pe_int pa_nil))) (pv 2) (nomark _))) (fun _ _ _ _ _ => pv 3)) pa_nil))), ?_⟩
    refine ⟨_, rfl, (n : Int), rfl, by omega, by omega, fun D nD => ?_⟩
    rw [Int.toNat_natCast]
    have nDp := hand_ne hI nD
    refine lc_range (lo := 0) (n := n) (fun i H' => HandIn H' p c cells ∧ Kept p H H' ∧ ∃ ns : List Nat, H' D = some (.lst (ns.map vn)) ∧ ns.length ≤ i ∧ ns.Pairwise (· < ·) ∧ ∀ x ∈ ns, x < i) ⟨handIn_keep hI (smUpd nD), kept_same (smUpd nD), [], upd_same, Nat.zero_le _, .nil, fun x hx => by cases hx⟩ ?_ ?_
    · rintro i H1 hi ⟨hI1, k1, ns, hD, hl, hp, hx⟩
      refine ⟨rfl, _, rfl, p, c, cells, 6, rfl, hI1, by decide, by decide, fun d a1 a2 a3 a4 d0 d1 a10 => ?_⟩
      have hI2 := handIn_upd (i := a1) (g := a2) (m := a3) (t := a4) hI1 a10
      have k2 := kept_trans k1 (kept_hand (p := p) (o := handL c a1 a2 a3 a4))
      have hD2 : (upd H1 p (handL c a1 a2 a3 a4)) D = some (.lst (ns.map vn)) := by rw [upd_ne nDp]; exact hD
      generalize upd H1 p (handL c a1 a2 a3 a4) = H2 at hI2 k2 hD2 ⊢
      refine ⟨_, rfl, _, _, rfl, rfl, _, rfl, ?_⟩
      refine ite2 (fun _ => ?_) (fun _ => ⟨hI2, k2, ns, hD2, by omega, hp, fun x h => Nat.lt_succ_of_lt (hx x h)⟩)
      refine ⟨_, rfl, _, hD2, small1000 (by rw [List.length_map]; omega), handIn_write hI nD hI2, kept_over nD k2, ns ++ [i], ?_, by rw [List.length_append]; show ns.length + 1 ≤ i + 1; omega, ?_, fun x h => ?_⟩
      · rw [upd_same, List.map_append]
        show some (HO.lst (ns.map vn ++ [V.int (0 + (i : Int))])) = some (HO.lst (ns.map vn ++ [V.int (i : Int)]))
        rw [Int.zero_add]
      · rw [List.pairwise_append]
        exact ⟨hp, List.pairwise_singleton _ _, fun x h y hy => by rw [List.mem_singleton.mp hy]; exact hx x h⟩
      · rcases List.mem_append.mp h with h | h
        · exact Nat.lt_succ_of_lt (hx x h)
        · rw [List.mem_singleton.mp h]; exact Nat.lt_succ_self _
    · rintro H1 ⟨hI1, k1, ns, hD, hl, hp, hx⟩
      refine ⟨D, _, rfl, .inl ⟨.inl (.inl hD), fun r nr => ?_⟩⟩
      exact k r ns _ hp hx (handIn_keep hI1 (smUpd nr)) (kept_trans k1 (kept_same (smUpd nr))) upd_same
end
end Cn

namespace Cn
open PySem PySem.Spec PyProof.Rows L2 Ck
section
variable {P : Program} {w : World} {K : PySem.W.Frag} {mg : Str → Option Value} {base : Heap} {C : Addr}
/-! drawn levels -/
def LvTo (ps : List (Option Nat)) (lv : List Nat) : Prop := ∀ (j l : Nat) (q : Option Nat), lv[j]? = some l → ps[j]? = some q → 1 ≤ l ∧ l ≤ mostLv lv q
theorem lvTo_le {ps : List (Option Nat)} {lv : List Nat} (hp : Ps ps) (hv : LvTo ps lv) (hl : lv.length ≤ ps.length) : ∀ i l, lv[i]? = some l → l ≤ i + 1 := by
  intro i
  induction i using Nat.strongRecOn with
  | ind i ih =>
    intro l hl2
    have hi : i < lv.length := (List.getElem?_eq_some_iff.mp hl2).1
    rcases opt_cases (ps := ps) (i := i) (by omega) with h | ⟨p, h⟩
    · have h2 := hv i l _ hl2 h
      have e : mostLv lv none = 1 := rfl
      omega
    · have h2 := hv i l _ hl2 h
      have e : mostLv lv (some p) = lv.getD p 0 + 1 := rfl
      have hpi := hp i p h
      have := ih p hpi _ (getD_at (Nat.lt_trans hpi hi))
      omega
theorem mostSnoc {lv : List Nat} {l : Nat} {q : Option Nat} (hq : ∀ m, q = some m → m < lv.length) : mostLv (lv ++ [l]) q = mostLv lv q := by
  cases q with
  | none => rfl
  | some m =>
    show (lv ++ [l]).getD m 0 + 1 = lv.getD m 0 + 1
    rw [List.getD_eq_getElem?_getD, List.getD_eq_getElem?_getD, List.getElem?_append_left (hq m rfl)]
theorem lvSnoc {ps : List (Option Nat)} {lv : List Nat} {l : Nat} {q : Option Nat} (hp : Ps ps) (hv : LvTo ps lv) (hq : ps[lv.length]? = some q) (h1 : 1 ≤ l) (h2 : l ≤ mostLv lv q) : LvTo ps (lv ++ [l]) := fun j m r hm hr => by
  by_cases c : j < lv.length
  · rw [List.getElem?_append_left c] at hm
    rw [mostSnoc fun x e => Nat.lt_trans (hp j x (by rw [hr, e])) c]
    exact hv j m r hm hr
  · rw [List.getElem?_append_right (by omega)] at hm
    have e : j = lv.length := by
      have := (List.getElem?_eq_some_iff.mp hm).1
      simp at this
      omega
    subst e
    rw [Nat.sub_self] at hm
    cases (Option.some.inj hm)
    rw [hq] at hr
    cases (Option.some.inj hr)
    rw [mostSnoc fun x e => hp lv.length x (by rw [hq, e])]
    exact ⟨h1, h2⟩
def spLevels : Sp := fun vs H Q _ => ∃ (p c b : Addr) (cells : List Int) (ps : List (Option Nat)), vs = [.ref p, .ref b] ∧ HandIn H p c cells ∧ TP H b ps ∧ Ps ps ∧ ps.length ≤ 60 ∧
  ∀ r lv H', Lv ps lv → HandIn H' p c cells → Kept p H H' → TN H' r lv → Q (.ref r) H'
def nLevels : List Str := ["_law_hand_here", "_law_parents_here", "_law_found", "_law_parent", "_law_most"]
theorem scLevels : FnScope nLevels ["_law_hand_here", "_law_parents_here"] (defScope sLevels) := ⟨rfl, rfl, rfl, by decide +kernel, rfl, by decide +kernel, by decide +kernel⟩
theorem dLevels (B : Defs K mg C) : Def P w K mg base "_law_levels" 2 ["_law_hand_here", "_law_parents_here"] spLevels := by
  obtain ⟨fD, fdD, GD, gD, kD, bD⟩ := dDraw (P := P) (w := w) (base := base) B
  have N := nOf B
  refine def_of B.le fun f fd F => ?_
  refine F.ok scLevels (fun vs H Q E h => ?_) (fun cdv A outer s H vs Q E hr h => ?_)
  · obtain ⟨p, c, b, cells, ps, rfl, _⟩ := h
    rfl
  · obtain ⟨p, c, b, cells, ps, rfl, hI, hb, hp, h60, k⟩ := h
    refine ⟨_, pss_cons (ps_set (i := 2) scLevels.nd rfl (Or.inl rfl) (pe_tup pa_nil))
      (pss_cons (ps_for PassesOwn.never rfl (pi_tup (pv 1)) (pg_name (i := 3) scLevels.nd rfl (Or.inl rfl))
        (pss_cons (ps_set (i := 4) scLevels.nd rfl (Or.inl rfl) (pe_ifExp (pt_cmpR op_isN (pv 3) pe_non (nomark _)) pe_int (pe_op op_add (pe_ix ix_tup (pv 2) (pv 3) (fun _ _ => rfl)) pe_int)))
        (pss_one (ps_set (i := 2) scLevels.nd rfl (Or.inl rfl) (pe_op op_catA (pv 2) (pe_tup (pa_cons (pe_op op_add pe_int (pe_call GD hr (by rfl) gD kD bD .nil pass0 (pa_cons (pv 0) (pa_cons (pv 4) pa_nil)))) pa_nil)))))))
      (pss_one (ps_ret (pv 2)))), ?_⟩
    refine ⟨by show 0 ≤ sizeLine; decide, fun t nt => ?_⟩
    have S1 := smUpd (o := .tup []) nt
    refine ⟨_, rfl, b, rfl, ⟨_, tpL (S1 _ _ hb)⟩, ?_⟩
    have nbp := tup_ne hI hb
    refine for_it (walk_tup (xs := ps.map vp)) (fun i σ H' => HandIn H' p c cells ∧ Kept p H H' ∧ ∃ (t : Addr) (lv : List Nat) (t3 t4 : Option V), σ = [some (.ref p), some (.ref b), some (.ref t), t3, t4] ∧ TN H' t lv ∧ lv.length = i ∧ LvTo ps lv) ⟨handIn_keep hI S1, kept_same S1, t, [], none, none, rfl, upd_same, rfl, fun j l q h => by rw [List.getElem?_nil] at h; cases h⟩ (fun i σ H' _ z => tpL (z.2.1 _ _ nbp hb)) ?_ ?_
    · rintro i x σ H1 H2 hi ⟨hI1, k1, t, lv, t3, t4, rfl, ht, hl, hv⟩ ⟨rfl, hx⟩
      obtain ⟨q, hq, rfl⟩ := vp_get hx
      rw [List.length_map] at hi
      have hq2 : ps[lv.length]? = some q := by rw [hl]; exact hq
      -- the draw, then the tuple
      have most : ∀ m : Nat, 1 ≤ m → m ≤ 61 → m = mostLv lv q → ∀ D : Ends, (∀ σ H', (HandIn H' p c cells ∧ Kept p H H' ∧ ∃ (t : Addr) (lv : List Nat) (t3 t4 : Option V), σ = [some (.ref p), some (.ref b), some (.ref t), t3, t4] ∧ TN H' t lv ∧ lv.length = i + 1 ∧ LvTo ps lv) → D.nx σ H') →
          tAsg (tOp (rCatA K) (tVar 2) (tTup (tCons (tOp (rI0 fun i j => V.int (i + j)) (tC (.int 1)) (tCall spDraw [] (fun _ _ _ => False) (tCons (tVar 0) (tCons (tVar 4) tNil)))) tNil))) (gName 2) D [some (.ref p), some (.ref b), some (.ref t), some (vp q), some (vn m)] H2 := by
        intro m m1 m61 me D kD
        refine ⟨_, rfl, _, rfl, _, rfl, p, c, cells, (m : Int), rfl, hI1, by omega, by omega, fun d a1 a2 a3 a4 d0 d1 a10 => ?_⟩
        obtain ⟨dn, rfl⟩ := Int.eq_ofNat_of_zero_le d0
        have hI3 := handIn_upd (i := a1) (g := a2) (m := a3) (t := a4) hI1 a10
        have k3 := kept_trans k1 (kept_hand (p := p) (o := handL c a1 a2 a3 a4))
        have ht3 : TN (upd H2 p (handL c a1 a2 a3 a4)) t lv := kept_hand (p := p) _ _ (tup_ne hI1 ht) ht
        generalize upd H2 p (handL c a1 a2 a3 a4) = H3 at hI3 k3 ht3 ⊢
        refine ⟨_, _, rfl, rfl, by show 1 ≤ sizeLine; decide, fun u nu => ?_⟩
        have S4 := smUpd (o := .tup [.int (1 + (dn : Int))]) nu
        refine catA (S4 _ _ ht3) upd_same (by rw [List.length_map, hl]; show i + 1 ≤ 1000; omega) fun e H5 s5 he => ?_
        refine kD _ _ ⟨handIn_keep (handIn_keep hI3 S4) s5, kept_trans k3 (kept_same (S4.trans s5)), e, lv ++ [1 + dn], _, _, rfl, tnAt he ?_, by rw [List.length_append, hl]; rfl, lvSnoc hp hv hq2 (by omega) (by omega)⟩
        rw [List.map_append]
        show _ ++ [V.int (1 + (dn : Int))] = _ ++ [V.int (((1 + dn : Nat)) : Int)]
        rw [show (((1 + dn : Nat)) : Int) = 1 + (dn : Int) from by omega]
      refine ⟨_, rfl, rfl, _, rfl, ?_⟩
      cases q with
      | none =>
        refine ifT (by decide) ?_
        exact most 1 (Nat.le_refl _) (by omega) rfl _ fun σ H' z => z
      | some m =>
        refine ifF (by rw [vp_ne]; decide) ?_
        have hm : m < lv.length := by rw [hl]; exact hp i m hq
        have hle := lvTo_le hp hv (by omega) m _ (getD_at hm)
        refine ⟨_, rfl, _, rfl, t, _, (m : Int), _, rfl, rfl, tnL ht, vn_ix (getD_at hm), _, _, rfl, rfl, ?_⟩
        exact most (lv.getD m 0 + 1) (by omega) (by omega) rfl _ fun σ H' z => z
    · rintro σ H1 ⟨hI1, k1, t, lv, t3, t4, rfl, ht, hl, hv⟩
      rw [List.length_map] at hl
      exact ⟨_, rfl, k t lv H1 ⟨hl, hv⟩ hI1 k1 ht⟩
end
end Cn
namespace Cn
open PySem PySem.Spec PyProof.Rows L2 Ck
def TolR (H : Hp) (r : Addr) (f : Fo) : Prop := ∃ ap ab aa, H r = some (.tup [.ref ap, .ref ab, .ref aa]) ∧ TP H ap f.ps ∧ TN H ab f.be ∧ TN H aa f.as
theorem tolSame {H H' : Hp} {r : Addr} {f : Fo} (s : Same H H') (h : TolR H r f) : TolR H' r f := by
  obtain ⟨ap, ab, aa, h1, h2, h3, h4⟩ := h
  exact ⟨ap, ab, aa, s _ _ h1, s _ _ h2, s _ _ h3, s _ _ h4⟩
theorem tolKept {H H' : Hp} {p c r : Addr} {cells : List Int} {f : Fo} (hI : HandIn H p c cells) (k : Kept p H H') (h : TolR H r f) : TolR H' r f := by
  obtain ⟨ap, ab, aa, h1, h2, h3, h4⟩ := h
  exact ⟨ap, ab, aa, k _ _ (tup_ne hI h1) h1, k _ _ (tup_ne hI h2) h2, k _ _ (tup_ne hI h3) h3, k _ _ (tup_ne hI h4) h4⟩
section
variable {P : Program} {w : World} {K : PySem.W.Frag} {mg : Str → Option Value} {base : Heap} {C : Addr}
def spTold : Sp := fun vs H Q _ => ∃ (p c : Addr) (cells : List Int) (n : Nat), vs = [.ref p, vn n] ∧ HandIn H p c cells ∧ 1 ≤ n ∧ n ≤ 60 ∧
  ∀ r f H', FoOk f → f.ps.length ≤ n → HandIn H' p c cells → Kept p H H' → TolR H' r f → Q (.ref r) H'
def nTold : List Str := ["_law_hand_here", "_law_most", "_law_many", "_law_parents_here", "_law_shares"]
theorem scTold : FnScope nTold ["_law_hand_here", "_law_most"] (defScope sTold) := ⟨rfl, rfl, rfl, by decide +kernel, rfl, by decide +kernel, by decide +kernel⟩
def isSh (v : V) : Prop := ∃ s : Nat, v = vn s
theorem dTold (B : Defs K mg C) : Def P w K mg base "_law_told" 3 ["_law_hand_here", "_law_most"] spTold := by
  obtain ⟨fD, fdD, GD, gD, kD, bD⟩ := dDraw (P := P) (w := w) (base := base) B
  obtain ⟨fP, fdP, GP, gP, kP, bP⟩ := dParents (P := P) (w := w) (base := base) B
  obtain ⟨fL, fdL, GL, gL, kL, bL⟩ := dLawLot (P := P) (w := w) (base := base) B
  have N := nOf B
  refine def_of B.to fun f fd F => ?_
  refine F.ok scTold (fun vs H Q E h => ?_) (fun cdv A outer s H vs Q E hr h => ?_)
  · obtain ⟨p, c, cells, n, rfl, _⟩ := h
    rfl
  · obtain ⟨p, c, cells, n, rfl, hI, h1, h60, k⟩ := h
    have hr1 : Room 1 (A.deeper (envOfC "_law_told" (defScope sTold) s.heap.objs.size f cdv)) := Room.mono hr (by decide)
    refine ⟨_, pss_cons (ps_set (i := 2) scTold.nd rfl (Or.inl rfl) (pe_op op_add pe_int (pe_call GD hr1 (by rfl) gD kD bD .nil pass0 (pa_cons (pv 0) (pa_cons (pv 1) pa_nil)))))
      (pss_cons (ps_set (i := 3) scTold.nd rfl (Or.inl rfl) (pe_call GP hr (by rfl) gP kP bP .nil pass0 (pa_cons (pv 0) (pa_cons (pv 2) pa_nil))))
      (pss_cons (ps_set (i := 4) scTold.nd rfl (Or.inl rfl) (pe_tup (pa_cons (pe_ix ix_list (pe_lst (pa_cons pe_int (pa_cons pe_int (pa_cons pe_int (pa_cons pe_int pa_nil))))) (pe_call GD hr1 (by rfl) gD kD bD .nil pass0 (pa_cons (pv 0) (pa_cons pe_int pa_nil))) (fun _ _ => rfl))
        (pa_cons (pe_ix ix_list (pe_lst (pa_cons pe_int (pa_cons pe_int (pa_cons pe_int (pa_cons pe_int pa_nil))))) (pe_call GD hr1 (by rfl) gD kD bD .nil pass0 (pa_cons (pv 0) (pa_cons pe_int pa_nil))) (fun _ _ => rfl)) pa_nil))))
      (pss_one (ps_ret (pe_tup (pa_cons (pv 3) (pa_cons (pe_call GL hr (by rfl) gL kL bL .nil pass0 (pa_cons (pv 0) (pa_cons (pv 2) (pa_cons (pe_ix ix_tup (pv 4) pe_int (fun _ _ => rfl)) pa_nil))))
        (pa_cons (pe_call GL hr (by rfl) gL kL bL .nil pass0 (pa_cons (pv 0) (pa_cons (pv 2) (pa_cons (pe_ix ix_tup (pv 4) pe_int (fun _ _ => rfl)) pa_nil)))) pa_nil)))))))), ?_⟩
    refine ⟨_, rfl, _, rfl, p, c, cells, (n : Int), rfl, hI, by omega, by omega, fun d a1 a2 a3 a4 d0 d1 a10 => ?_⟩
    obtain ⟨m, rfl⟩ := Int.eq_ofNat_of_zero_le d0
    have hI1 := handIn_upd (i := a1) (g := a2) (m := a3) (t := a4) hI a10
    have k1 : Kept p H (upd H p (handL c a1 a2 a3 a4)) := kept_hand
    generalize upd H p (handL c a1 a2 a3 a4) = H1 at hI1 k1 ⊢
    have em : (1 : Int) + (m : Int) = ((m + 1 : Nat) : Int) := by omega
    have emV : V.int (1 + (m : Int)) = vn (m + 1) := congrArg V.int em
    refine ⟨_, _, rfl, rfl, _, rfl, _, rfl, p, c, cells, m + 1, congrArg (fun z => [V.ref p, z]) emV, hI1, by omega, by omega, fun r ps H2 hp hpl hI2 k2 hr2 => ?_⟩
    -- shares
    have share : ∀ {H : Hp}, HandIn H p c cells → ∀ (Q : VK), (∀ (s : Nat) H', HandIn H' p c cells → Kept p H H' → Q (vn s) H') →
        tOp (rIxL K) (tLst (tCons (tC (.int 6)) (tCons (tC (.int 6)) (tCons (tC (.int 4)) (tCons (tC (.int 3)) tNil))))) (tCall spDraw [] (fun _ _ _ => False) (tCons (tVar 0) (tCons (tC (.int 4)) tNil))) [some (.ref p), some (vn n), some (.int (1 + (m : Int))), some (.ref r), none] H Q := by
      intro H hI Q k
      refine ⟨by show 4 ≤ sizeLine; decide, fun l nl => ?_⟩
      have S := smUpd (o := .lst [.int 6, .int 6, .int 4, .int 3]) nl
      have nlp := hand_ne hI nl
      have hI' := handIn_keep hI S
      have hl : upd H l (.lst [.int 6, .int 6, .int 4, .int 3]) l = some (.lst [.int 6, .int 6, .int 4, .int 3]) := upd_same
      generalize upd H l (.lst [.int 6, .int 6, .int 4, .int 3]) = H' at S hI' hl ⊢
      refine ⟨_, rfl, p, c, cells, 4, rfl, hI', by decide, by decide, fun e b1 b2 b3 b4 e0 e1 b10 => ?_⟩
      obtain ⟨v, hv, hm⟩ := atMem (xs := [.int 6, .int 6, .int 4, .int 3]) e0 e1
      have hl2 : (upd H' p (handL c b1 b2 b3 b4)) l = some (.lst [.int 6, .int 6, .int 4, .int 3]) := by rw [upd_ne nlp]; exact hl
      have sv : ∃ s : Nat, v = vn s := by
        have : ∀ v ∈ [V.int 6, .int 6, .int 4, .int 3], ∃ s : Nat, v = vn s := glCons ⟨6, rfl⟩ (glCons ⟨6, rfl⟩ (glCons ⟨4, rfl⟩ (glCons ⟨3, rfl⟩ glNil)))
        exact this v hm
      obtain ⟨s, rfl⟩ := sv
      exact ⟨l, _, e, _, rfl, rfl, .inl (.inl hl2), hv, k s _ (handIn_upd hI' b10) (kept_trans (kept_same S) kept_hand)⟩
    refine share hI2 _ fun sh1 H3 hI3 k3 => ?_
    refine share hI3 _ fun sh2 H4 hI4 k4 => ?_
    refine ⟨by show 2 ≤ sizeLine; decide, fun t nt => ?_⟩
    have S5 := smUpd (o := .tup [vn sh1, vn sh2]) nt
    have ht5 : upd H4 t (.tup [vn sh1, vn sh2]) t = some (.tup [vn sh1, vn sh2]) := upd_same
    have hI5 := handIn_keep hI4 S5
    have k5 := kept_trans k4 (kept_same (p := p) S5)
    generalize upd H4 t (.tup [vn sh1, vn sh2]) = H5 at ht5 hI5 k5 ⊢
    have hp5 := kept_trans k3 k5 _ _ (tup_ne hI2 hr2) hr2
    refine ⟨_, rfl, _, rfl, _, rfl, _, rfl, t, _, (0 : Int), _, rfl, rfl, .inl (.inl ht5), rfl, p, c, cells, m + 1, sh1, congrArg (fun z => [V.ref p, z, vn sh1]) emV, hI5, by omega, fun q1 be H6 hb1 hb2 hI6 k6 hq1 => ?_⟩
    have ht6 := k6 _ _ (tup_ne hI5 ht5) ht5
    refine ⟨_, rfl, _, rfl, _, rfl, t, _, (1 : Int), _, rfl, rfl, .inl (.inl ht6), rfl, p, c, cells, m + 1, sh2, congrArg (fun z => [V.ref p, z, vn sh2]) emV, hI6, by omega, fun q2 as H7 ha1 ha2 hI7 k7 hq2 => ?_⟩
    refine ⟨by show 3 ≤ sizeLine; decide, fun u nu => ?_⟩
    have S8 := smUpd (o := .tup [.ref r, .ref q1, .ref q2]) nu
    have kk := kept_trans k6 (kept_trans k7 (kept_same (p := p) S8))
    have hp8 := kk _ _ (tup_ne hI5 hp5) hp5
    have hq8 := kept_trans k7 (kept_same (p := p) S8) _ _ (tup_ne hI6 hq1) hq1
    exact k u ⟨ps, be, as⟩ _ ⟨hp, by show 1 ≤ ps.length; omega, by show ps.length ≤ 60; omega, hb1, by rw [hpl]; exact hb2, ha1, by rw [hpl]; exact ha2⟩ (by show ps.length ≤ n; omega) (handIn_keep hI7 S8)
      (kept_trans k1 (kept_trans k2 (kept_trans k3 (kept_trans k5 kk)))) ⟨r, q1, q2, upd_same, hp8, hq8, S8 _ _ hq2⟩
/-! the forest made -/
def spMade (C : Addr) : Sp := fun vs H Q _ => ∃ (r : Addr) (f : Fo), vs = [.ref r] ∧ TolR H r f ∧ FoOk f ∧ ∀ a H', Same H H' → FoAt C H' a f → Q (.ref a) H'
theorem scMade : FnScope ["_law_told_here"] ["_law_told_here"] (defScope sMade) := ⟨rfl, rfl, rfl, by decide +kernel, rfl, by decide +kernel, by decide +kernel⟩
theorem dMade (B : Defs K mg C) : Def P w K mg base "_law_made" 6 ["_law_told_here"] (spMade C) := by
  obtain ⟨fN, fdN, FN, MN, bN⟩ := B.ini
  obtain ⟨tm, mM⟩ := B.mM
  obtain ⟨fI, fdI, DI⟩ := B.I
  obtain ⟨fL, fdL, DL⟩ := B.L
  obtain ⟨fB, fdB, DB⟩ := B.B
  obtain ⟨fO, fdO, DO⟩ := B.O
  have GN : FnOk P w K mg base CX0 4 fN fdN ["self", "parents", "bearing", "asking"] (spInit C) := ok_init FN B.N B.T mM DI DL DB DO
  refine def_of B.ma fun f fd F => ?_
  refine F.ok scMade (fun vs H Q E h => ?_) (fun cdv A outer s H vs Q E hr h => ?_)
  · obtain ⟨r, fo, rfl, _⟩ := h
    rfl
  · obtain ⟨r, fo, rfl, ⟨ap, ab, aa, h0, h1, h2, h3⟩, ok, k⟩ := h
    refine ⟨_, pss_one (ps_ret (pe_make MN GN hr (by rfl) B.T.mgC bN .nil pass0 (pa_cons (pe_ix ix_tup (pv 0) pe_int (fun _ _ => rfl)) (pa_cons (pe_ix ix_tup (pv 0) pe_int (fun _ _ => rfl)) (pa_cons (pe_ix ix_tup (pv 0) pe_int (fun _ _ => rfl)) pa_nil))))), ?_⟩
    refine ⟨_, rfl, r, _, (0 : Int), _, rfl, rfl, .inl (.inl h0), rfl, _, rfl, r, _, (1 : Int), _, rfl, rfl, .inl (.inl h0), rfl, _, rfl, r, _, (2 : Int), _, rfl, rfl, .inl (.inl h0), rfl, fun x dx nx ndx ne => ?_⟩
    have S1 := smUpd (o := .own x) ndx
    have nx1 : (upd H dx (.own x)) x = none := by rw [upd_ne (Ne.symm ne)]; exact nx
    have S2 := S1.trans (smUpd (o := .ins C dx []) nx1)
    refine ⟨x, dx, ap, ab, aa, fo, rfl, upd_same, S2 _ _ h1, S2 _ _ h2, S2 _ _ h3, ok, fun H' hF kp => ⟨rfl, k x H' (fun b o e => kp b o (fun z => by rw [z, nx] at e; cases e) (S2 _ _ e)) hF⟩⟩
end
end Cn
namespace Cn
open PySem PySem.Spec PyProof.Rows L2 Ck
/-! alike -/
theorem eqN {H : Hp} {a b : Addr} {ns : List Nat} (ha : TN H a ns) (hb : TN H b ns) (hl : ns.length ≤ 1000) : EqG H 1 (.ref a) (.ref b) :=
  .inr ⟨a, b, _, _, rfl, rfl, .inr ⟨ha, hb⟩, by rw [List.length_map]; exact Nat.le_trans hl (by decide), pairedSelf fun x hx => by
    obtain ⟨n, _, rfl⟩ := List.mem_map.mp hx
    exact ⟨rfl, .inl rfl⟩⟩
theorem eqL {H : Hp} {a b : Addr} {ns : List Nat} (ha : H a = some (.lst (ns.map vn))) (hb : H b = some (.lst (ns.map vn))) (hl : ns.length ≤ 1000) : EqG H 1 (.ref a) (.ref b) :=
  .inr ⟨a, b, _, _, rfl, rfl, .inl ⟨ha, hb⟩, by rw [List.length_map]; exact Nat.le_trans hl (by decide), pairedSelf fun x hx => by
    obtain ⟨n, _, rfl⟩ := List.mem_map.mp hx
    exact ⟨rfl, .inl rfl⟩⟩
theorem eqNote {H : Hp} {v u : V} {p : List Nat × List Nat} (h1 : p.1.length ≤ 1000) (h2 : p.2.length ≤ 1000) (hv : NoteR H v p) (hu : NoteR H u p) : EqG H 2 v u := by
  obtain ⟨t, x, y, rfl, e1, e2, e3⟩ := hv
  obtain ⟨t', x', y', rfl, f1, f2, f3⟩ := hu
  exact .inr ⟨t, t', _, _, rfl, rfl, .inr ⟨e1, f1⟩, by show 2 ≤ 4000; decide, .cons (eqN e2 f2 h1) (.cons (eqN e3 f3 h2) .nil)⟩
theorem eqNotes {H : Hp} : ∀ {us ws : List V} {ps : List (List Nat × List Nat)}, (∀ p ∈ ps, p.1.length ≤ 1000 ∧ p.2.length ≤ 1000) → NotesR H us ps → NotesR H ws ps → Paired (EqG H 2) us ws
  | _, _, _, _, .nil, .nil => .nil
  | _, _, _, b, .cons h1 t1, .cons h2 t2 => .cons (eqNote (b _ List.mem_cons_self).1 (b _ List.mem_cons_self).2 h1 h2) (eqNotes (fun p hp => b p (List.mem_cons_of_mem _ hp)) t1 t2)
section
variable {P : Program} {w : World} {K : PySem.W.Frag} {mg : Str → Option Value} {base : Heap} {C : Addr}
theorem dIs (B : Defs K mg C) : Def P w K mg base "_law_is" 6 ["_law_told_here", "_law_due"] (spJ 4) := by
  obtain ⟨f, fd, D⟩ := B.is
  exact ⟨f, fd, ok_is D.F (nOf B).is D.g D.b 4, D.g, D.F.kp, D.b⟩
end
end Cn
namespace Cn
open PySem PySem.Spec PyProof.Rows L2 Ck
/-! a dict made by a comprehension, its keys of any kind that a dict of the hand layer has (o0: the empty dict of that kind) -/
section
variable {X : Cx}
/-- stored by the comprehension -/
theorem putIn {pins : List (Addr × Obj)} {σ : L2.St} {H H' : Hp} {s : Shared} {E : Value → Shared → Prop} {D : Addr} {y z : V} {u r : Value} {Q : Unit → Shared → Prop} (hu : X.A.units + 1 < cLine) (I : Inv X pins σ H s) (put : DPut H D y z H') (ry : RelV y u) (rz : RelV z r) (k : ∀ s', Inv X pins σ H' s' → Q () s') : wpAny (model X.prog X.w) X.A (dictSet D u r) Q E s := by
  rcases put with ⟨kvs, q, hD, rfl, hl, rfl⟩ | ⟨kvs, q, b, hD, rfl, hb, hl, rfl⟩
  · exact L2.d_dictSet I hD hl ry rz k
  · cases (show u = Value.ref b from ry)
    obtain ⟨c1, c2, xs, rel, dd⟩ := dt_of I.hok hD
    have c3 : xs.length ≤ sizeLine := Paired.length rel ▸ c1
    have c4 : (putK kvs q z).length ≤ sizeLine := Nat.le_trans (length_putK kvs q z) hl
    refine wpAny_dictSet_heap (hsz := c3) (Nat.lt_of_succ_lt hu) (key_of I.hok hb) dd (fun g ⟨o, es, ep, e1, e2, e3, e4, _, e5⟩ same => k _ ?_)
    have kept : ∀ (c : Addr) (ys : List V), H c = some (.tup ys) → upd H D (.dT (putK kvs q z)) c = some (.tup ys) := fun c ys hc => (upd_ne (L2.ne_of hc hD nofun)).trans hc
    exact d_write I (hD ▸ True.intro) same ⟨o, e1⟩ ⟨c4, c2, _, (rel.put q hb rz).keeps fun c ys hc => kept c ys hc, o, es, ep, e1, e2, e3, e4, e5⟩
/-- a turn's word and the walk's, as for a list -/
def tDcP (o0 : HO) (wi : TI) (g : TG) (tt : TT) (tk tv : TE) (vs : List Nat) : TE := fun σ H Q => wi σ H fun J H1 => ∀ D, H1 D = none → ∃ W : Nat → Nat → Hp → Prop, (∃ m, W 0 m (upd H1 D o0)) ∧ ∀ i m G, W i m G → (J.stop i G ∧ Q (.ref D) G) ∨
  (J.go i G ∧ ∃ Nx : Hp → Prop, (∀ G', Nx G' → ∃ m', m' < m ∧ W (i + 1) m' G') ∧ ∀ x G', J.yld i G x G' → g x (wipe σ vs) G' fun τ G2 => wipe τ vs = wipe σ vs ∧ tt τ G2 fun b G3 => if b = true then tk τ G3 fun y G4 => tv τ G4 fun z G5 => ∃ G6, DPut G5 D y z G6 ∧ Nx G6 else Nx G3)
theorem dcP_core {pins : List (Addr × Obj)} {s : Shared} {σ : L2.St} {H : Hp} {Q : VK} {o0 : HO} {kx vx tg iter : Expr} {ifs : List Expr} {sc : Scope} {own : List (Str × Nat)} {pos ipos : Pos} {wi : TI} {g : TG} {tt : TT} {tk tv : TE} {use : Option (Value → Sem Unit)} {Qf : Value → Shared → Prop} (I : Inv X pins σ H s) (h0 : o0 = .dK [] ∨ o0 = .dT []) (hc : X.calm = true) (hu : X.A.units + 1 < cLine) (hN : X.N.Nodup) (hi : PI X tg iter wi) (ok : BlkOk X.N X.env.scope sc own)
    (hg : ∀ s H C cl fp, PG (X.blk s H sc (compEnvC sc cl C X.env) fp) tg g) (ht : ∀ s H C cl fp, PTs (X.blk s H sc (compEnvC sc cl C X.env) fp) ifs tt) (hk : ∀ s H C cl fp, PE (X.blk s H sc (compEnvC sc cl C X.env) fp) kx tk) (hv : ∀ s H C cl fp, PE (X.blk s H sc (compEnvC sc cl C X.env) fp) vx tv)
    (hs : ∀ x, foldedSetIterable iter X.env x = pure x) (hw : tDcP o0 wi g tt tk tv (own.map (·.2)) σ H Q)
    (last : ∀ D C t m G, Inv X pins σ G t → Q (.ref D) G → t.heap.Ns C m → FpOk X pins G C → compPost (model X.prog X.w) X.A X.xe use Qf (.ref D) C (.ok .next) t) :
    wpAny (model X.prog X.w) X.A (comprehension (.DictComp kx vx [⟨tg, iter, ifs, 0⟩] sc pos) sc X.env ipos newDict false (eval iter X.env) use) Qf X.xe s := by
  have cells : ∀ y ∈ sc.names, y.2 = .free → ∃ c, X.env.cells.lookup y.1 = some c := fun y hy e => (ok.free y hy e).elim (fun z => I.ok.has _ (.inl z)) (fun z => I.ok.has _ (.inr z))
  refine wpAny_comprehension_free (use := use) rfl hs (closure_ok cells) ok.kind (fun y hy e => (ok.uniq y hy).trans (congrArg some e)) ?_
  refine thn (hi.run pins s σ H _ I hw) fun _ sa wa => thn wa fun _ sb ⟨it, fp, tn, J, Ha, e, Ia, T, stA, okA, qq⟩ => ?_
  subst e
  refine wpAny_newObj_type (newEnv_comp ?_)
  obtain ⟨D, hD⟩ : ∃ D, sb.heap.objs.size = D := ⟨_, rfl⟩
  have fresh : Ha D = none := Ia.hok.fresh (Nat.le_of_eq hD)
  obtain ⟨W, ⟨m0, w0⟩, turn⟩ := qq D fresh
  obtain ⟨sd, ed⟩ : ∃ sd : Shared, ({ sb with heap := sb.heap.push { cls := .type "dict", data := .dict #[] } } : Shared) = sd := ⟨_, rfl⟩
  have heq : sd.heap = sb.heap.push { cls := .type "dict", data := .dict #[] } := ed ▸ rfl
  have Ib : Inv X pins σ (upd Ha D o0) sd := by
    subst ed hD
    refine Ia.laid (t' := sb.toks) (fun b o e => Heap.get?_push_of_some _ e) (Nat.le_refl _) ?_
    rcases h0 with rfl | rfl
    · exact dk_empty sb.heap Ia.big
    · exact dt_empty sb.heap Ia.big
  have below : ∀ b ∈ fp, b < sb.heap.objs.size := fun b hb => let ⟨_, e, _⟩ := T.obj _ _ stA b hb; Heap.lt_size e
  have okB : ∀ b ∈ fp, FpOk X pins (upd Ha D o0) b ∧ b < sd.heap.objs.size := fun b hb => by
    have lt := below b hb
    exact ⟨⟨(upd_ne (hD ▸ Nat.ne_of_lt lt)).trans (okA b hb).1, (okA b hb).2⟩, by rw [heq, Heap.size_push]; exact Nat.lt_succ_of_lt lt⟩
  have stB : tn 0 sd.heap := T.keep _ _ _ stA fun b _ o e => heq ▸ Heap.get?_push_of_some _ e
  have Ic := block_start Ib ok hN okB
  obtain ⟨C, hC⟩ : ∃ C, sd.heap.objs.size = C := ⟨_, rfl⟩
  rw [hC] at Ic
  obtain ⟨cl, hcl⟩ : ∃ cl, cellsFrom (C + 1) sc.names (cloFrom X.env.cells sc.names []) = cl := ⟨_, rfl⟩
  rw [hcl] at Ic
  obtain ⟨G, hG⟩ : ∃ G, upd Ha D o0 = G := ⟨_, rfl⟩
  rw [hG] at Ib Ic okB w0
  have rg := hg sd G C cl fp
  have rt := ht sd G C cl fp
  have rk := hk sd G C cl fp
  have rv := hv sd G C cl fp
  obtain ⟨ce, hce⟩ : ∃ ce, compEnvC sc cl C X.env = ce := ⟨_, rfl⟩
  have ceL : ce.locals = C := hce ▸ rfl
  rw [hce] at Ic rg rt rk rv
  obtain ⟨se, hse⟩ : ∃ se : Shared, ({ sd with heap := pushCells (sd.heap.push { cls := .type "dict", data := .dict #[] }) sc.names } : Shared) = se := ⟨_, rfl⟩
  rw [hse] at Ic
  have stC : tn 0 se.heap := T.keep _ _ _ stB fun b _ o e => hse ▸ pushCells_keeps _ _ _ _ (Heap.get?_push_of_some _ e)
  have none0 : ∀ b ∈ fp, G b = none := fun b hb => (okB b hb).1.1
  have looks : ∀ {σ' : L2.St} {H' : Hp} {s' : Shared}, Inv (X.blk sd G sc ce fp) [] σ' H' s' → (∀ b ∈ fp, H' b = none) → ∀ b ∈ fp, FpOk (X.blk sd G sc ce fp) [] H' b := fun I' z b hb =>
    ⟨z b hb, (I'.ok.exf b hb).1, I'.ok.exfs b hb, .inl hb, fun x c e => (I'.ok.exf b hb).2 x c e, fun p hp => nomatch (show p ∈ ([] : List (Addr × Obj)) from hp)⟩
  have whole : codeAny (model X.prog X.w) X.A (.compLoop (.DictComp kx vx [⟨tg, iter, ifs, 0⟩] sc pos) 0 (.ref it) (.ref D) ce) (compPost (model X.prog X.w) X.A X.xe use Qf (.ref D) C) se := by
    refine compLoop_anyD (fun n s' => ∃ i H', Inv (X.blk sd G sc ce fp) [] (wipe σ (own.map (·.2))) H' s' ∧ tn i s'.heap ∧ (∀ b ∈ fp, H' b = none) ∧ W i n H') ?_ m0 ⟨0, G, Ic, stC, none0, w0⟩
    rintro n t ⟨i, Ht, It, stT, noneT, wT⟩
    rcases turn i n Ht wT with ⟨stop, out⟩ | ⟨go, Nx, less, step⟩
    · refine thnF (T.done (X.blk sd G sc ce fp) rfl rfl rfl hc i [] t _ Ht (fun _ _ => False) It (looks It noneT) stT stop) fun r t' ⟨hr, Iu⟩ => ?_
      subst hr
      have back : Inv X pins σ Ht t' := Ib.call' (ch := fp) Iu.os Iu.base Iu.hok Iu.bare fun b hb => let z := (okB b hb).1.2; ⟨z.2.2.1, z.1, z.2.2.2.1, z.2.2.2.2⟩
      have gone : Ht C = none := ceL ▸ Iu.free
      obtain ⟨m, hm, _⟩ := Iu.loc
      have hm : t'.heap.Ns C m := ceL ▸ hm
      exact last D C t' m Ht back out hm (Ib.fpOk (Nat.le_of_eq hC) gone)
    · refine thnF (T.item (X.blk sd G sc ce fp) rfl rfl rfl hc i [] t _ Ht (fun _ _ => False) It (looks It noneT) stT go) fun r t1 ⟨u, hr, hh⟩ => ?_
      subst hr
      refine thnF hh fun _ t2 ⟨x, Hu, Iu, rx, yx, stU, noneU⟩ => ?_
      have Iw := Iu.pinned (looks Iu noneU) (T.obj _ _ stU)
      refine thnF (rg.run _ t2 _ Hu x u _ Iw rx (step x Hu yx)) fun _ t3 ⟨τ, Hv, Iv, wip, qv⟩ => ?_
      refine thnF (rt.run _ t3 τ Hv _ Iv qv) fun b t4 ⟨Hw, Ix, qw⟩ => ?_
      have onward : ∀ (t' : Shared) (H' : Hp), Inv (X.blk sd G sc ce fp) ([] ++ pinsAt fp t2.heap) τ H' t' → Nx H' → ∃ m, m < n ∧ ∃ i H', Inv (X.blk sd G sc ce fp) [] (wipe σ (own.map (·.2))) H' t' ∧ tn i t'.heap ∧ (∀ b ∈ fp, H' b = none) ∧ W i m H' := by
        intro t' H' I' nx
        obtain ⟨m, lt, wm⟩ := less H' nx
        have held : ∀ b ∈ fp, ∀ o, t2.heap.get? b = some o → t'.heap.get? b = some o ∧ H' b = none := fun b hb o e =>
          have z := I'.pin (b, o) (List.mem_append_right _ (List.mem_append_right _ (mem_pinsAt hb e)))
          ⟨z.1, z.2.1⟩
        refine ⟨m, lt, i + 1, H', (I'.unpinned (pins := [])).weak (by rw [← wip, wipe_length]) (fun j v e => (wipe_some (wip ▸ e : (wipe τ (own.map (·.2)))[j]? = some (some v))).1), T.keep _ _ _ stU fun b hb o e => (held b hb o e).1, fun b hb => ?_, wm⟩
        exact let ⟨o, e, _⟩ := T.obj _ _ stU b hb; (held b hb o e).2
      cases b with
      | false =>
        rw [if_neg Bool.false_ne_true] at qw
        rw [if_neg Bool.false_ne_true]
        exact onward t4 Hw Ix qw
      | true =>
        rw [if_pos rfl] at qw
        rw [if_pos rfl]
        refine thnF (rk.run _ t4 τ Hw _ Ix qw) fun z1 t5 ⟨y, Hy, Iy, ry, qy⟩ => ?_
        refine thnF (rv.run _ t5 τ Hy _ Iy qy) fun z2 t6 ⟨z, Hz, Iz, rz, He, put, nx⟩ => ?_
        exact putIn (X := X.blk sd G sc ce fp) hu Iz put ry rz fun t7 I7 => onward t7 He I7 nx
  have start := codeAny_compStart_dict whole (T.self X.A 0 _ _ _ stC whole)
  rw [← hC] at hcl
  subst hcl hce ed hse
  show codeAny _ _ _ _ _
  rw [hC] at start ⊢
  exact hD ▸ start
/-- as a value -/
theorem pe_dcP {o0 : HO} {kx vx tg iter : Expr} {ifs : List Expr} {sc : Scope} {own : List (Str × Nat)} {pos : Pos} {wi : TI} {g : TG} {tt : TT} {tk tv : TE} (h0 : o0 = .dK [] ∨ o0 = .dT []) (hc : X.calm = true) (hu : X.A.units + 1 < cLine) (hN : X.N.Nodup) (hi : PI X tg iter wi) (ok : BlkOk X.N X.env.scope sc own)
    (hg : ∀ s H C cl fp, PG (X.blk s H sc (compEnvC sc cl C X.env) fp) tg g) (ht : ∀ s H C cl fp, PTs (X.blk s H sc (compEnvC sc cl C X.env) fp) ifs tt) (hk : ∀ s H C cl fp, PE (X.blk s H sc (compEnvC sc cl C X.env) fp) kx tk) (hv : ∀ s H C cl fp, PE (X.blk s H sc (compEnvC sc cl C X.env) fp) vx tv)
    (hs : ∀ x, foldedSetIterable iter X.env x = pure x := by intro _; rfl) : PE X (.DictComp kx vx [⟨tg, iter, ifs, 0⟩] sc pos) (tDcP o0 wi g tt tk tv (own.map (·.2))) := by
  refine ⟨fun pins s σ H Q I hw => ?_⟩
  rw [arm_eval_DictComp]
  refine dcP_core I h0 hc hu hN hi ok hg ht hk hv hs hw fun D C t m G It q hm ⟨f0, f1, _, f3, f4, f5⟩ => ⟨m, hm, fun g' same => ?_⟩
  exact ⟨.ref D, G, It.turned (t' := t.toks) (fun b o hb e => (same.2 b hb).trans e) f0 f1 f3 f4 f5, rfl, q⟩
/-- stored under a name on its own row -/
theorem ps_setDcP {i : Nat} {y : Str} {py spos : Pos} {o0 : HO} {kx vx tg iter : Expr} {ifs : List Expr} {sc : Scope} {own : List (Str × Nat)} {pos : Pos} {wi : TI} {g : TG} {tt : TT} {tk tv : TE} (h0 : o0 = .dK [] ∨ o0 = .dT []) (hc : X.calm = true) (hu : X.A.units + 1 < cLine) (hN : X.N.Nodup) (hy : X.N[i]? = some y) (hl : X.env.scope.names.lookup y = some .local)
    (sw : swapsWith (.DictComp kx vx [⟨tg, iter, ifs, 0⟩] sc pos) (some (.Name y py)) spos.line X.env = pure true) (hi : PI X tg iter wi) (ok : BlkOk X.N X.env.scope sc own)
    (hg : ∀ s H C cl fp, PG (X.blk s H sc (compEnvC sc cl C X.env) fp) tg g) (ht : ∀ s H C cl fp, PTs (X.blk s H sc (compEnvC sc cl C X.env) fp) ifs tt) (hk : ∀ s H C cl fp, PE (X.blk s H sc (compEnvC sc cl C X.env) fp) kx tk) (hv : ∀ s H C cl fp, PE (X.blk s H sc (compEnvC sc cl C X.env) fp) vx tv)
    (hs : ∀ x, foldedSetIterable iter X.env x = pure x := by intro _; rfl) :
    PS X (.Assign [.Name y py] (.DictComp kx vx [⟨tg, iter, ifs, 0⟩] sc pos) spos) (tAsg (tDcP o0 wi g tt tk tv (own.map (·.2))) (gName i)) := by
  refine ⟨fun pins s σ H D I hw => ?_⟩
  rw [exec_Assign_Name_used _ _ _ _ sw]
  have hw : tDcP o0 wi g tt tk tv (own.map (·.2)) σ H (fun x G => gName i x σ G D.nx) := hw
  have go := dcP_core (pos := pos) (ipos := firstIterPos [⟨tg, iter, ifs, 0⟩] pos) (use := some (assign (.Name y py) X.env)) (Qf := fun _ s' => SP X pins D .next s') I h0 hc hu hN hi ok hg ht hk hv hs hw fun L C t m G It q hm f => by
    refine wpAny_assign_Name (store_ok2 (v := V.ref L) It hN hy (.inl hl) rfl (fun t2 I2 ⟨a, sb, ha⟩ => ?_) (.inr hl))
    have ne : C ≠ a := ha.elim (fun z => z ▸ f.2.1) (fun z e => f.2.2.2.2.1 y a z e.symm)
    exact ⟨m, hm.sameBut sb ne, fun g' same => ⟨_, G, I2.turned (t' := t2.toks) (fun b o hb e => (same.2 b hb).trans e) f.1 f.2.1 f.2.2.2.1 f.2.2.2.2.1 f.2.2.2.2.2, q⟩⟩
  exact wpAny_bind (wpAny_standAt (wpAny_bind (wpAny_bind (thn go fun _ _ z => wpAny_pure (wpAny_pure z)))))
theorem sw_dict {kx vx : Expr} {gs : List Comprehension} {sc : Scope} {pos py : Pos} {y : Str} {l : Nat} {env : Env} (hk : env.scope.kind = .function) (hy : env.scope.names.lookup y = some .local) (hl : (py.line == pos.line) = true) (ha : (sc.names.any fun q => q.1 == y && (q.2 == .local || q.2 == .cell)) = false) :
    swapsWith (.DictComp kx vx gs sc pos) (some (.Name y py)) l env = pure true := by
  have e1 : env.kindOf y = some .local := hy
  have e2 : env.blockKind = .function := by unfold Env.blockKind; rw [hk]; rfl
  show (pure (env.blockKind == ScopeKind.function && env.kindOf y == some NameKind.local && py.line == pos.line && !(sc.names.any fun q => q.1 == y && (q.2 == .local || q.2 == .cell))) : Sem Bool) = pure true
  rw [e1, e2, hl, ha]
  rfl
end
end Cn
namespace Cn
open PySem PySem.Spec PyProof.Rows L2 Ck
theorem ixNat {n i : Nat} (h : i < n) : ixN n (i : Int) = some i := by
  unfold ixN
  rw [if_pos (Int.natCast_nonneg _), if_pos (by omega), Int.toNat_natCast]
theorem noneBack {H H1 : Hp} {D : Addr} (s : Same H H1) (h : H1 D = none) : H D = none := by
  cases e : H D with
  | none => rfl
  | some o => rw [s _ _ e] at h; cases h
end Cn
namespace Cn
/-! notes held, counted twice -/
theorem countP_or {α : Type} {f g : α → Bool} : ∀ {l : List α}, (∀ x ∈ l, ¬ (f x = true ∧ g x = true)) → (l.countP fun x => f x || g x) = l.countP f + l.countP g
  | [], _ => rfl
  | x :: l, h => by
    have ih := countP_or (f := f) (g := g) (l := l) fun y hy => h y (List.mem_cons_of_mem _ hy)
    have hx := h x List.mem_cons_self
    rw [List.countP_cons, List.countP_cons, List.countP_cons, ih]
    cases a : f x <;> cases b : g x <;> simp_all <;> omega
theorem countP_one {p : Nat × Nat} : ∀ {l : List (Nat × Nat)}, l.Nodup → p ∈ l → (l.countP fun q => decide (q = p)) = 1
  | x :: l, nd, h => by
    obtain ⟨n1, n2⟩ := List.nodup_cons.mp nd
    rw [List.countP_cons]
    by_cases e : x = p
    · subst e
      rw [List.countP_eq_zero.mpr fun q hq => by simp only [decide_eq_true_eq]; exact fun z => n1 (z ▸ hq)]
      simp
    · rw [countP_one n2 ((List.mem_cons.mp h).resolve_left fun z => e z.symm)]
      simp [e]
theorem countRow {i : Nat} {prs : List (Nat × Nat)} (nd : prs.Nodup) : ∀ {js : List Nat}, js.Nodup → (∀ j ∈ js, (i, j) ∈ prs) → (prs.countP fun q => decide (q.1 = i) && decide (q.2 ∈ js)) = js.length
  | [], _, _ => List.countP_eq_zero.mpr fun q _ => by simp
  | j :: js, h, m => by
    obtain ⟨n1, n2⟩ := List.nodup_cons.mp h
    have ih := countRow (js := js) nd n2 fun k hk => m k (List.mem_cons_of_mem _ hk)
    have e : (prs.countP fun q => decide (q.1 = i) && decide (q.2 ∈ j :: js)) = prs.countP fun q => decide (q = (i, j)) || (decide (q.1 = i) && decide (q.2 ∈ js)) := by
      refine List.countP_congr fun q _ => ?_
      simp only [Bool.and_eq_true, Bool.or_eq_true, decide_eq_true_eq, List.mem_cons]
      constructor
      · rintro ⟨a, b | b⟩
        · exact .inl (Prod.ext a b)
        · exact .inr ⟨a, b⟩
      · rintro (z | ⟨a, b⟩)
        · rw [z]; exact ⟨rfl, .inl rfl⟩
        · exact ⟨a, .inr b⟩
    rw [e, countP_or fun q _ => ?_, countP_one nd (m j List.mem_cons_self), ih, List.length_cons, Nat.add_comm]
    rintro ⟨a, b⟩
    simp only [Bool.and_eq_true, decide_eq_true_eq] at a b
    rw [a] at b
    exact n1 b.2
theorem countBox {prs : List (Nat × Nat)} {js : List Nat} (nd : prs.Nodup) (hj : js.Nodup) : ∀ {is : List Nat}, is.Nodup → (∀ i ∈ is, ∀ j ∈ js, (i, j) ∈ prs) → (prs.countP fun q => decide (q.1 ∈ is) && decide (q.2 ∈ js)) = is.length * js.length
  | [], _, _ => by rw [List.length_nil, Nat.zero_mul]; exact List.countP_eq_zero.mpr fun q _ => by simp
  | i :: is, h, m => by
    obtain ⟨n1, n2⟩ := List.nodup_cons.mp h
    have ih := countBox (is := is) nd hj n2 fun k hk => m k (List.mem_cons_of_mem _ hk)
    have e : (prs.countP fun q => decide (q.1 ∈ i :: is) && decide (q.2 ∈ js)) = prs.countP fun q => (decide (q.1 = i) && decide (q.2 ∈ js)) || (decide (q.1 ∈ is) && decide (q.2 ∈ js)) := by
      refine List.countP_congr fun q _ => ?_
      simp only [Bool.and_eq_true, Bool.or_eq_true, decide_eq_true_eq, List.mem_cons]
      constructor
      · rintro ⟨a | a, b⟩
        · exact .inl ⟨a, b⟩
        · exact .inr ⟨a, b⟩
      · rintro (⟨a, b⟩ | ⟨a, b⟩)
        · exact ⟨.inl a, b⟩
        · exact ⟨.inr a, b⟩
    rw [e, countP_or fun q _ => ?_, countRow nd hj (m i List.mem_cons_self), ih, List.length_cons, Nat.add_mul, Nat.one_mul, Nat.add_comm]
    rintro ⟨a, b⟩
    simp only [Bool.and_eq_true, decide_eq_true_eq] at a b
    rw [a.1] at b
    exact n1 b.1
theorem sumAdd {α : Type} {f g : α → Nat} : ∀ {l : List α}, (l.map fun x => f x + g x).sum = (l.map f).sum + (l.map g).sum
  | [] => rfl
  | x :: l => by
    have := sumAdd (f := f) (g := g) (l := l)
    simp only [List.map_cons, List.sum_cons]
    omega
theorem sumCount {α : Type} {c : α → Bool} : ∀ {l : List α}, (l.map fun x => if c x = true then 1 else 0).sum = l.countP c
  | [] => rfl
  | x :: l => by
    have := sumCount (c := c) (l := l)
    simp only [List.map_cons, List.sum_cons, List.countP_cons]
    omega
theorem sumLe {α : Type} {f : α → Nat} : ∀ {l : List α}, (∀ x ∈ l, 1 ≤ f x) → l.length ≤ (l.map f).sum ∧ ((l.map f).sum = l.length ↔ ∀ x ∈ l, f x ≤ 1)
  | [], _ => ⟨Nat.le_refl _, by simp⟩
  | x :: l, h => by
    obtain ⟨h1, h2⟩ := sumLe (l := l) fun y hy => h y (List.mem_cons_of_mem _ hy)
    have hx := h x List.mem_cons_self
    simp only [List.map_cons, List.sum_cons, List.length_cons, List.forall_mem_cons]
    refine ⟨by omega, fun e => ⟨by omega, h2.mp (by omega)⟩, fun ⟨a, b⟩ => ?_⟩
    have := h2.mpr b
    omega
end Cn
namespace Ck
/-! over and under, once more -/
section
variable {ps : List (Option Nat)}
theorem rd_cases (hp : Ps ps) {x y : Nat} (hy : y < ps.length) (h : x ∈ road ps y) : x = y ∨ ∃ p, ps[y]? = some (some p) ∧ p < y ∧ x ∈ road ps p := by
  rcases opt_cases hy with e | ⟨p, e⟩
  · rw [road_none e] at h
    exact .inl (List.mem_singleton.mp h)
  · rw [road_some hp e] at h
    rcases List.mem_append.mp h with h | h
    · exact .inr ⟨p, e, hp y p e, h⟩
    · exact .inl (List.mem_singleton.mp h)
theorem rd_up (hp : Ps ps) {x y p : Nat} (e : ps[y]? = some (some p)) (h : x ∈ road ps p) : x ∈ road ps y := by
  rw [road_some hp e]
  exact List.mem_append_left _ h
theorem rd_trans (hp : Ps ps) {x y : Nat} : ∀ z, z < ps.length → x ∈ road ps y → y ∈ road ps z → x ∈ road ps z := by
  intro z
  induction z using Nat.strongRecOn with
  | ind z ih =>
    intro hz hxy hyz
    rcases rd_cases hp hz hyz with rfl | ⟨p, e, hpz, h⟩
    · exact hxy
    · exact rd_up hp e (ih p hpz (Nat.lt_trans hpz hz) hxy h)
theorem rd_lin (hp : Ps ps) {x y : Nat} : ∀ z, z < ps.length → x ∈ road ps z → y ∈ road ps z → x ∈ road ps y ∨ y ∈ road ps x := by
  intro z
  induction z using Nat.strongRecOn with
  | ind z ih =>
    intro hz hx hy
    rcases rd_cases hp hz hx with rfl | ⟨p, e, hpz, h⟩
    · exact .inr hy
    · rcases rd_cases hp hz hy with rfl | ⟨p', e', _, h'⟩
      · exact .inl hx
      · rw [e] at e'
        cases e'
        exact ih p hpz (Nat.lt_trans hpz hz) h h'
theorem rd_anti (hp : Ps ps) {x y : Nat} (hx : x < ps.length) (hy : y < ps.length) (h : x ∈ road ps y) (k : y ∈ road ps x) : x = y := by
  have := road_le hp y hy x h
  have := road_le hp x hx y k
  omega
theorem rd_lt (hp : Ps ps) {x y : Nat} (hy : y < ps.length) (h : x ∈ road ps y) : x < ps.length := Nat.lt_of_le_of_lt (road_le hp y hy x h) hy
theorem road_asc (hp : Ps ps) : ∀ z, z < ps.length → (road ps z).Pairwise (· < ·) := by
  intro z
  induction z using Nat.strongRecOn with
  | ind z ih =>
    intro hz
    rcases opt_cases hz with e | ⟨p, e⟩
    · rw [road_none e]; exact List.pairwise_singleton _ _
    · have hl := hp z p e
      rw [road_some hp e, List.pairwise_append]
      refine ⟨ih p hl (Nat.lt_trans hl hz), List.pairwise_singleton _ _, fun a ha b hb => ?_⟩
      rw [List.mem_singleton.mp hb]
      exact Nat.lt_of_le_of_lt (road_le hp p (Nat.lt_trans hl hz) a ha) hl
end
/-! the topmost place up to which none is cut -/
def top (ps : List (Option Nat)) (cut : List Nat) (i : Nat) : Nat :=
  match ps[i]? with
  | some (some p) => if _h : p < i then (if p ∈ cut then i else top ps cut p) else i
  | _ => i
termination_by i
section
variable {ps : List (Option Nat)} {cut : List Nat}
theorem top_none {i : Nat} (h : ps[i]? = some none) : top ps cut i = i := by rw [top, h]
theorem top_cut {i p : Nat} (hp : Ps ps) (h : ps[i]? = some (some p)) (c : p ∈ cut) : top ps cut i = i := by
  rw [top, h]
  dsimp only
  rw [dif_pos (hp i p h), if_pos c]
theorem top_up {i p : Nat} (hp : Ps ps) (h : ps[i]? = some (some p)) (c : p ∉ cut) : top ps cut i = top ps cut p := by
  rw [top, h]
  dsimp only
  rw [dif_pos (hp i p h), if_neg c]
theorem top_road (hp : Ps ps) : ∀ x, x < ps.length → top ps cut x ∈ road ps x := by
  intro x
  induction x using Nat.strongRecOn with
  | ind x ih =>
    intro hx
    rcases opt_cases hx with e | ⟨p, e⟩
    · rw [top_none e]; exact road_self hp hx
    · by_cases c : p ∈ cut
      · rw [top_cut hp e c]; exact road_self hp hx
      · rw [top_up hp e c]
        exact rd_up hp e (ih p (hp x p e) (Nat.lt_trans (hp x p e) hx))
theorem top_free (hp : Ps ps) : ∀ x, x < ps.length → x ∉ cut → top ps cut x ∉ cut := by
  intro x
  induction x using Nat.strongRecOn with
  | ind x ih =>
    intro hx nx
    rcases opt_cases hx with e | ⟨p, e⟩
    · rw [top_none e]; exact nx
    · by_cases c : p ∈ cut
      · rw [top_cut hp e c]; exact nx
      · rw [top_up hp e c]
        exact ih p (hp x p e) (Nat.lt_trans (hp x p e) hx) c
/-- all from the topmost one down are alike -/
theorem top_seg (hp : Ps ps) {z : Nat} : ∀ x, x < ps.length → x ∉ cut → z ∈ road ps x → top ps cut x ∈ road ps z → z ∉ cut ∧ top ps cut z = top ps cut x := by
  intro x
  induction x using Nat.strongRecOn with
  | ind x ih =>
    intro hx nx hz ht
    rcases rd_cases hp hx hz with rfl | ⟨p, e, hpx, h⟩
    · exact ⟨nx, rfl⟩
    · by_cases c : p ∈ cut
      · rw [top_cut hp e c] at ht
        have h1 := road_le hp p (Nat.lt_trans hpx hx) z h
        have h2 := road_le hp z (Nat.lt_of_le_of_lt h1 (Nat.lt_trans hpx hx)) x ht
        omega
      · rw [top_up hp e c] at ht ⊢
        exact ih p hpx (Nat.lt_trans hpx hx) c h ht
theorem top_same (hp : Ps ps) {y : Nat} : ∀ x, x < ps.length → y ∈ road ps x → (∀ z ∈ road ps x, y ∈ road ps z → z ≠ x → z ∉ cut) → top ps cut x = top ps cut y := by
  intro x
  induction x using Nat.strongRecOn with
  | ind x ih =>
    intro hx hy hf
    rcases rd_cases hp hx hy with rfl | ⟨p, e, hpx, h⟩
    · rfl
    · have hpl := Nat.lt_trans hpx hx
      have c : p ∉ cut := hf p (rd_up hp e (road_self hp hpl)) h (Nat.ne_of_lt hpx)
      rw [top_up hp e c]
      refine ih p hpx hpl h fun z hz hyz _ => hf z (rd_up hp e hz) hyz fun e2 => ?_
      have := road_le hp p hpl z hz
      omega
/-- joined with a place over it just if none between is cut -/
theorem join_iff (hp : Ps ps) {x y : Nat} (hx : x < ps.length) (hy : y ∈ road ps x) : (x ∉ cut ∧ top ps cut x = top ps cut y) ↔ ∀ z ∈ road ps x, y ∈ road ps z → z ∉ cut := by
  have hyl := rd_lt hp hx hy
  constructor
  · rintro ⟨nx, e⟩ z hz hyz
    have hzl := rd_lt hp hx hz
    exact (top_seg hp x hx nx hz (e ▸ rd_trans hp z hzl (top_road hp y hyl) hyz)).1
  · intro h
    exact ⟨h x (road_self hp hx) hy, top_same hp x hx hy fun z hz hyz _ => h z hz hyz⟩
/-! one place more cut -/
theorem cut_far (hp : Ps ps) {x : Nat} : ∀ y, y < ps.length → ¬ (x ∈ road ps y ∧ top ps cut y = top ps cut x) → top ps (x :: cut) y = top ps cut y := by
  intro y
  induction y using Nat.strongRecOn with
  | ind y ih =>
    intro hy hn
    rcases opt_cases hy with e | ⟨p, e⟩
    · rw [top_none e, top_none e]
    · by_cases c : p ∈ cut
      · rw [top_cut hp e c, top_cut hp e (List.mem_cons_of_mem _ c)]
      · have hpy := hp y p e
        have hpl := Nat.lt_trans hpy hy
        have nx : p ≠ x := fun z => by
          subst z
          exact hn ⟨rd_up hp e (road_self hp hpl), top_up hp e c⟩
        rw [top_up hp e c, top_up hp e (fun z => (List.mem_cons.mp z).elim nx c)]
        exact ih p hpy hpl fun z => hn ⟨rd_up hp e z.1, by rw [top_up hp e c]; exact z.2⟩
theorem cut_near (hp : Ps ps) {x : Nat} : ∀ y, y < ps.length → y ∉ cut → y ≠ x → x ∈ road ps y → top ps cut y = top ps cut x → ps[top ps (x :: cut) y]? = some (some x) ∧ top ps (x :: cut) y ∈ road ps y ∧ ∀ c, ps[c]? = some (some x) → c ∈ road ps y → top ps (x :: cut) y = c := by
  intro y
  induction y using Nat.strongRecOn with
  | ind y ih =>
    intro hy ny ne hx ht
    rcases rd_cases hp hy hx with z | ⟨p, e, hpy, h⟩
    · exact absurd z.symm ne
    · have hpl := Nat.lt_trans hpy hy
      by_cases px : p = x
      · subst px
        have et : top ps (p :: cut) y = y := top_cut hp e List.mem_cons_self
        rw [et]
        refine ⟨e, road_self hp hy, fun c hc hcy => ?_⟩
        rcases rd_cases hp hy hcy with z | ⟨p', e', _, h'⟩
        · exact z.symm
        · rw [e] at e'
          cases e'
          have := road_le hp p hpl c h'
          have := hp c p hc
          omega
      · have c : p ∉ cut := fun c => by
          rw [top_cut hp e c] at ht
          have hxl := rd_lt hp hy hx
          have h1 := road_le hp x hxl _ (top_road (cut := cut) hp x hxl)
          have h2 := road_le hp p hpl x h
          omega
        have et : top ps (x :: cut) y = top ps (x :: cut) p := top_up hp e fun z => (List.mem_cons.mp z).elim px c
        rw [top_up hp e c] at ht
        obtain ⟨i1, i2, i3⟩ := ih p hpy hpl c px h ht
        rw [et]
        refine ⟨i1, rd_up hp e i2, fun c' hc hcy => ?_⟩
        rcases rd_cases hp hy hcy with z | ⟨p', e', _, h'⟩
        · subst z
          rw [e] at hc
          cases hc
          exact absurd rfl px
        · rw [e] at e'
          cases e'
          exact i3 c' hc h'
/-! the pieces -/
def comp (ps : List (Option Nat)) (cut : List Nat) (r : Nat) : List Nat := (List.range ps.length).filter fun y => decide (y ∉ cut) && decide (top ps cut y = r)
theorem comp_mem {r y : Nat} : y ∈ comp ps cut r ↔ y < ps.length ∧ y ∉ cut ∧ top ps cut y = r := by
  unfold comp
  rw [List.mem_filter, List.mem_range, Bool.and_eq_true, decide_eq_true_iff, decide_eq_true_iff]
/-- as the law cuts a piece at a place -/
def cutL (ps : List (Option Nat)) (pc : List Nat) (x : Nat) : List (List Nat) :=
  ((pc.filter fun y => !decide (y ∈ pc.filter fun y => decide (x ∈ road ps y))) ::
    ((pc.filter fun y => decide (x ∈ road ps y)).filter fun c => decide (ps[c]? = some (some x))).map fun c => (pc.filter fun y => decide (x ∈ road ps y)).filter fun y => decide (c ∈ road ps y)).filter fun l => !l.isEmpty
structure Tops (ps : List (Option Nat)) (cut : List Nat) (rs : List Nat) : Prop where
  nd : rs.Nodup
  mem : ∀ r, r ∈ rs ↔ r < ps.length ∧ r ∉ cut ∧ top ps cut r = r
theorem filter_eq {α : Type} {f g : α → Bool} {xs : List α} (h : ∀ x ∈ xs, f x = g x) : xs.filter f = xs.filter g := List.filter_congr h
/-- the piece of a place, cut at it -/
theorem cut_parts (hp : Ps ps) {x : Nat} (hx : x < ps.length) (nx : x ∉ cut) : cutL ps (comp ps cut (top ps cut x)) x = ((if top ps cut x = x then [] else [top ps cut x]) ++ (List.range ps.length).filter fun c => decide (c ∉ cut) && decide (ps[c]? = some (some x))).map (comp ps (x :: cut)) := by
  have hr := top_road (cut := cut) hp x hx
  have hrl := rd_lt hp hx hr
  have hrx := road_le hp x hx _ hr
  -- those under it
  have eu : ((comp ps cut (top ps cut x)).filter fun y => decide (x ∈ road ps y)).filter (fun c => decide (ps[c]? = some (some x))) = (List.range ps.length).filter fun c => decide (c ∉ cut) && decide (ps[c]? = some (some x)) := by
    unfold comp
    rw [List.filter_filter, List.filter_filter]
    refine List.filter_congr fun c hc => ?_
    have hcl := List.mem_range.mp hc
    rw [Bool.eq_iff_iff]
    simp only [Bool.and_eq_true, decide_eq_true_eq]
    constructor
    · rintro ⟨⟨a, b⟩, d, e⟩
      exact ⟨d, a⟩
    · rintro ⟨d, a⟩
      exact ⟨⟨a, rd_up hp a (road_self hp hx)⟩, d, top_up hp a nx⟩
  have ec : ∀ c, c < ps.length → c ∉ cut → ps[c]? = some (some x) → ((comp ps cut (top ps cut x)).filter fun y => decide (x ∈ road ps y)).filter (fun y => decide (c ∈ road ps y)) = comp ps (x :: cut) c := by
    intro c hc nc e
    have hxc := hp c x e
    unfold comp
    rw [List.filter_filter, List.filter_filter]
    refine List.filter_congr fun y hy => ?_
    have hyl := List.mem_range.mp hy
    rw [Bool.eq_iff_iff]
    simp only [Bool.and_eq_true, decide_eq_true_eq]
    constructor
    · rintro ⟨⟨a, b⟩, d, t⟩
      have ne : y ≠ x := fun z => by
        subst z
        have := road_le hp y hyl c a
        omega
      exact ⟨fun z => (List.mem_cons.mp z).elim ne d, (cut_near hp y hyl d ne b t).2.2 c e a⟩
    · rintro ⟨d, t⟩
      have dc : y ∉ cut := fun z => d (List.mem_cons_of_mem _ z)
      have hcy : c ∈ road ps y := t ▸ top_road hp y hyl
      have hxy : x ∈ road ps y := rd_trans hp y hyl (rd_up hp e (road_self hp hx)) hcy
      by_cases j : x ∈ road ps y ∧ top ps cut y = top ps cut x
      · exact ⟨⟨hcy, hxy⟩, dc, j.2⟩
      · have := cut_far hp y hyl j
        rw [t] at this
        have h2 := top_seg hp y hyl dc hcy (this ▸ road_self hp hc)
        rw [← h2.2, top_up hp e nx] at this
        exact absurd ⟨hxy, by rw [← h2.2, top_up hp e nx]⟩ j
  have er : ((comp ps cut (top ps cut x)).filter fun y => !decide (y ∈ (comp ps cut (top ps cut x)).filter fun y => decide (x ∈ road ps y))) = if top ps cut x = x then [] else comp ps (x :: cut) (top ps cut x) := by
    have e1 : ((comp ps cut (top ps cut x)).filter fun y => !decide (y ∈ (comp ps cut (top ps cut x)).filter fun y => decide (x ∈ road ps y))) = (comp ps cut (top ps cut x)).filter fun y => !decide (x ∈ road ps y) := by
      refine List.filter_congr fun y hy => ?_
      congr 1
      rw [Bool.eq_iff_iff, decide_eq_true_iff, decide_eq_true_iff, List.mem_filter, decide_eq_true_iff]
      exact ⟨fun z => z.2, fun z => ⟨hy, z⟩⟩
    rw [e1]
    by_cases c : top ps cut x = x
    · rw [if_pos c, List.filter_eq_nil_iff]
      intro y hy
      obtain ⟨hyl, _, t⟩ := comp_mem.mp hy
      have := top_road (cut := cut) hp y hyl
      rw [t, c] at this
      simpa using this
    · rw [if_neg c]
      have nr : x ∉ road ps (top ps cut x) := fun z => c (rd_anti hp hrl hx hr z)
      unfold comp
      rw [List.filter_filter]
      refine List.filter_congr fun y hy => ?_
      have hyl := List.mem_range.mp hy
      rw [Bool.eq_iff_iff]
      simp only [Bool.and_eq_true, decide_eq_true_eq, Bool.not_eq_true', decide_eq_false_iff_not]
      constructor
      · rintro ⟨a, d, t⟩
        refine ⟨fun z => (List.mem_cons.mp z).elim (fun z => a (by rw [← z]; exact road_self hp hyl)) d, ?_⟩
        rw [cut_far hp y hyl (fun z => a z.1)]
        exact t
      · rintro ⟨d, t⟩
        have dc : y ∉ cut := fun z => d (List.mem_cons_of_mem _ z)
        have ne : y ≠ x := fun z => d (z ▸ List.mem_cons_self)
        have j : ¬ (x ∈ road ps y ∧ top ps cut y = top ps cut x) := fun j => by
          have h1 := (cut_near hp y hyl dc ne j.1 j.2).1
          rw [t] at h1
          have := hp _ _ h1
          omega
        have e2 := cut_far hp y hyl j
        rw [t] at e2
        exact ⟨fun z => j ⟨z, e2.symm⟩, dc, e2.symm⟩
  unfold cutL
  rw [er, eu]
  have em : (((List.range ps.length).filter fun c => decide (c ∉ cut) && decide (ps[c]? = some (some x))).map fun c => ((comp ps cut (top ps cut x)).filter fun y => decide (x ∈ road ps y)).filter fun y => decide (c ∈ road ps y)) = ((List.range ps.length).filter fun c => decide (c ∉ cut) && decide (ps[c]? = some (some x))).map (comp ps (x :: cut)) := by
    refine List.map_congr_left fun c hc => ?_
    obtain ⟨h1, h2⟩ := List.mem_filter.mp hc
    simp only [Bool.and_eq_true, decide_eq_true_eq] at h2
    exact ec c (List.mem_range.mp h1) h2.1 h2.2
  rw [em]
  have ne : ∀ r, r < ps.length → r ∉ cut → r ≠ x → top ps (x :: cut) r = r → (!(comp ps (x :: cut) r).isEmpty) = true := fun r hr n1 n2 t => by
    have : r ∈ comp ps (x :: cut) r := comp_mem.mpr ⟨hr, fun z => (List.mem_cons.mp z).elim n2 n1, t⟩
    cases h : comp ps (x :: cut) r with
    | nil => rw [h] at this; cases this
    | cons _ _ => rfl
  have hch : (((List.range ps.length).filter fun c => decide (c ∉ cut) && decide (ps[c]? = some (some x))).map (comp ps (x :: cut))).filter (fun l => !l.isEmpty) = ((List.range ps.length).filter fun c => decide (c ∉ cut) && decide (ps[c]? = some (some x))).map (comp ps (x :: cut)) := by
    rw [List.filter_eq_self]
    intro l hl
    obtain ⟨c, hc, rfl⟩ := List.mem_map.mp hl
    obtain ⟨h1, h2⟩ := List.mem_filter.mp hc
    simp only [Bool.and_eq_true, decide_eq_true_eq] at h2
    have := hp c x h2.2
    exact ne c (List.mem_range.mp h1) h2.1 (by omega) (top_cut hp h2.2 List.mem_cons_self)
  by_cases c : top ps cut x = x
  · rw [if_pos c, if_pos c, List.filter_cons_of_neg (by simp), hch]
    rfl
  · rw [if_neg c, if_neg c, List.filter_cons_of_pos, hch]
    · rfl
    · have nr : x ∉ road ps (top ps cut x) := fun z => c (rd_anti hp hrl hx hr z)
      have tt : top ps cut (top ps cut x) = top ps cut x := (top_seg hp x hx nx hr (road_self hp hrl)).2
      exact ne _ hrl (top_free hp x hx nx) c (by rw [cut_far hp _ hrl (fun z => nr z.1)]; exact tt)
/-- the tops behind a cut -/
theorem tops_next (hp : Ps ps) {rs : List Nat} {x at_ : Nat} (T : Tops ps cut rs) (hx : x < ps.length) (nx : x ∉ cut) (ha : rs[at_]? = some (top ps cut x)) :
    ∃ rs', Tops ps (x :: cut) rs' ∧ (rs.map (comp ps cut)).take at_ ++ cutL ps (comp ps cut (top ps cut x)) x ++ (rs.map (comp ps cut)).drop (at_ + 1) = rs'.map (comp ps (x :: cut)) := by
  have hr := top_road (cut := cut) hp x hx
  have hrl := rd_lt hp hx hr
  have hrx := road_le hp x hx _ hr
  have hal := (List.getElem?_eq_some_iff.mp ha).1
  have hae := (List.getElem?_eq_some_iff.mp ha).2
  have split : rs = rs.take at_ ++ top ps cut x :: rs.drop (at_ + 1) := by
    rw [← hae, ← List.drop_eq_getElem_cons hal, List.take_append_drop]
  have nd := T.nd
  rw [split] at nd
  obtain ⟨nd1, nd2, nd3⟩ := List.nodup_append.mp nd
  obtain ⟨nd4, nd5⟩ := List.nodup_cons.mp nd2
  -- the others
  have far : ∀ r ∈ rs, r ≠ top ps cut x → comp ps cut r = comp ps (x :: cut) r ∧ r ≠ x ∧ top ps (x :: cut) r = r := by
    intro r hr' ne
    obtain ⟨h1, h2, h3⟩ := (T.mem r).mp hr'
    have rx : r ≠ x := fun z => ne (by rw [← z]; exact h3.symm)
    refine ⟨?_, rx, by rw [cut_far hp r h1 (fun z => ne (by rw [← z.2]; exact h3.symm))]; exact h3⟩
    unfold comp
    refine List.filter_congr fun y hy => ?_
    have hyl := List.mem_range.mp hy
    rw [Bool.eq_iff_iff]
    simp only [Bool.and_eq_true, decide_eq_true_eq]
    constructor
    · rintro ⟨d, t⟩
      have yx : y ≠ x := fun z => ne (by rw [← t, z])
      exact ⟨fun z => (List.mem_cons.mp z).elim yx d, by rw [cut_far hp y hyl (fun z => ne (by rw [← t]; exact z.2))]; exact t⟩
    · rintro ⟨d, t⟩
      have dc : y ∉ cut := fun z => d (List.mem_cons_of_mem _ z)
      have yx : y ≠ x := fun z => d (z ▸ List.mem_cons_self)
      by_cases j : x ∈ road ps y ∧ top ps cut y = top ps cut x
      · have h4 := (cut_near hp y hyl dc yx j.1 j.2).1
        rw [t] at h4
        have h5 := top_up (cut := cut) hp h4 nx
        rw [h3] at h5
        exact absurd h5 ne
      · have := cut_far hp y hyl j
        rw [t] at this
        exact ⟨dc, this.symm⟩
  have inT : ∀ r ∈ rs.take at_, r ∈ rs ∧ r ≠ top ps cut x := fun r h => ⟨List.mem_of_mem_take h, nd3 r h _ List.mem_cons_self⟩
  have inD : ∀ r ∈ rs.drop (at_ + 1), r ∈ rs ∧ r ≠ top ps cut x := fun r h => ⟨List.mem_of_mem_drop h, fun z => nd4 (z ▸ h)⟩
  refine ⟨rs.take at_ ++ (((if top ps cut x = x then [] else [top ps cut x]) ++ (List.range ps.length).filter fun c => decide (c ∉ cut) && decide (ps[c]? = some (some x))) ++ rs.drop (at_ + 1)), ⟨?_, fun r => ?_⟩, ?_⟩
  · have chn : ∀ c ∈ (List.range ps.length).filter (fun c => decide (c ∉ cut) && decide (ps[c]? = some (some x))), c ∉ rs ∧ c ≠ top ps cut x := fun c hc => by
      obtain ⟨h1, h2⟩ := List.mem_filter.mp hc
      simp only [Bool.and_eq_true, decide_eq_true_eq] at h2
      have h3 := hp c x h2.2
      have h4 := top_up (cut := cut) hp h2.2 nx
      exact ⟨fun z => by have := ((T.mem c).mp z).2.2; omega, by omega⟩
    rw [List.nodup_append, List.nodup_append, List.nodup_append]
    refine ⟨nd1, ⟨⟨?_, List.nodup_range.filter _, fun a ha b hb z => ?_⟩, nd5, fun a ha b hb z => ?_⟩, fun a ha b hb z => ?_⟩
    · split
      · exact List.nodup_nil
      · exact List.nodup_cons.mpr ⟨List.not_mem_nil, List.nodup_nil⟩
    · subst z
      split at ha
      · cases ha
      · exact (chn a hb).2 (List.mem_singleton.mp ha)
    · subst z
      rcases List.mem_append.mp ha with ha | ha
      · split at ha
        · cases ha
        · exact (inD a hb).2 (List.mem_singleton.mp ha)
      · exact (chn a ha).1 (inD a hb).1
    · subst z
      rcases List.mem_append.mp hb with hb | hb
      · rcases List.mem_append.mp hb with hb | hb
        · split at hb
          · cases hb
          · exact (inT a ha).2 (List.mem_singleton.mp hb)
        · exact (chn a hb).1 (inT a ha).1
      · exact nd3 a ha a (List.mem_cons_of_mem _ hb) rfl
  · rw [List.mem_append, List.mem_append, List.mem_append]
    constructor
    · rintro (h | (h | h) | h)
      · obtain ⟨a, b⟩ := inT r h
        obtain ⟨h1, h2, h3⟩ := (T.mem r).mp a
        obtain ⟨_, f2, f3⟩ := far r a b
        exact ⟨h1, fun z => (List.mem_cons.mp z).elim f2 h2, f3⟩
      · split at h
        · cases h
        · rename_i c
          rw [List.mem_singleton.mp h]
          have nr : x ∉ road ps (top ps cut x) := fun z => c (rd_anti hp hrl hx hr z)
          have tt : top ps cut (top ps cut x) = top ps cut x := (top_seg hp x hx nx hr (road_self hp hrl)).2
          exact ⟨hrl, fun z => (List.mem_cons.mp z).elim c (top_free hp x hx nx), by rw [cut_far hp _ hrl (fun z => nr z.1)]; exact tt⟩
      · obtain ⟨h1, h2⟩ := List.mem_filter.mp h
        simp only [Bool.and_eq_true, decide_eq_true_eq] at h2
        have h3 := hp r x h2.2
        exact ⟨List.mem_range.mp h1, fun z => (List.mem_cons.mp z).elim (by omega) h2.1, top_cut hp h2.2 List.mem_cons_self⟩
      · obtain ⟨a, b⟩ := inD r h
        obtain ⟨h1, h2, h3⟩ := (T.mem r).mp a
        obtain ⟨_, f2, f3⟩ := far r a b
        exact ⟨h1, fun z => (List.mem_cons.mp z).elim f2 h2, f3⟩
    · rintro ⟨h1, h2, h3⟩
      have dc : r ∉ cut := fun z => h2 (List.mem_cons_of_mem _ z)
      have rx : r ≠ x := fun z => h2 (z ▸ List.mem_cons_self)
      by_cases j : x ∈ road ps r ∧ top ps cut r = top ps cut x
      · have h4 := (cut_near hp r h1 dc rx j.1 j.2).1
        rw [h3] at h4
        exact .inr (.inl (.inr (List.mem_filter.mpr ⟨List.mem_range.mpr h1, by simp only [Bool.and_eq_true, decide_eq_true_eq]; exact ⟨dc, h4⟩⟩)))
      · have h4 := cut_far hp r h1 j
        rw [h3] at h4
        have hrs := (T.mem r).mpr ⟨h1, dc, h4.symm⟩
        by_cases e : r = top ps cut x
        · refine .inr (.inl (.inl ?_))
          rw [if_neg (fun z => rx (e.trans z))]
          exact List.mem_singleton.mpr e
        · rw [split] at hrs
          rcases List.mem_append.mp hrs with h | h
          · exact .inl h
          · exact .inr (.inr ((List.mem_cons.mp h).resolve_left e))
  · rw [cut_parts hp hx nx, ← List.map_take, ← List.map_drop]
    generalize ((if top ps cut x = x then [] else [top ps cut x]) ++ (List.range ps.length).filter fun c => decide (c ∉ cut) && decide (ps[c]? = some (some x))) = Y
    rw [List.map_append, List.map_append, List.append_assoc]
    congr 1
    · exact List.map_congr_left fun r h => (far r (inT r h).1 (inT r h).2).1
    · congr 1
      exact List.map_congr_left fun r h => (far r (inD r h).1 (inD r h).2).1
end
end Ck
namespace Cn
open PySem PySem.Spec PyProof.Rows L2 Ck
theorem foKept {C : Addr} {H H' : Hp} {p c a : Addr} {cells : List Int} {f : Fo} (hI : HandIn H p c cells) (k : Kept p H H') (h : FoAt C H a f) : FoAt C H' a f := by
  obtain ⟨dx, ap, ab, aa, h1, h2, h3, h4⟩ := h
  have ne : a ≠ p := fun z => by
    obtain ⟨_, _, _, _, e, _⟩ := hI.ob
    rw [← z, h1] at e; cases e
  exact ⟨dx, ap, ab, aa, k _ _ ne h1, k _ _ (tup_ne hI h2) h2, k _ _ (tup_ne hI h3) h3, k _ _ (tup_ne hI h4) h4⟩
/-- one of two numbers -/
theorem pickN {c : Prop} {_ : Decidable c} {σ : L2.St} {H : Hp} {Q : VK} {a b : Nat} (k : ∀ n : Nat, n = a ∨ n = b → Q (vn n) H) : if c then tC (.int (a : Int)) σ H Q else tC (.int (b : Int)) σ H Q := by
  by_cases h : c
  · rw [if_pos h]; exact k a (.inl rfl)
  · rw [if_neg h]; exact k b (.inr rfl)
def dNote (q : List Nat × List Nat) : PyData := .tuple [.tuple (dn q.1), .tuple (dn q.2)]
theorem dpNotes {K : PySem.W.Frag} {H : Hp} : ∀ {us : List V} {ns : List (List Nat × List Nat)}, NotesR H us ns → DpAll K H us (ns.map dNote)
  | _, _, .nil => .nil
  | _, _, .cons h t => by
    obtain ⟨a, x, y, rfl, h1, h2, h3⟩ := h
    exact .cons (.tup (.inl (.inl h1)) (.cons (.tup (tnL h2) (dpN _)) (.cons (.tup (tnL h3) (dpN _)) .nil))) (dpNotes t)
theorem dNoteLay : ∀ ns : List (List Nat × List Nat), PyData.canLayAll0 (ns.map dNote) = true
  | [] => rfl
  | q :: ns => by
    show ((PyData.canLayAll0 (dn q.1) && (PyData.canLayAll0 (dn q.2) && true)) && PyData.canLayAll0 (ns.map dNote)) = true
    rw [dNoteLay ns, dnLay, dnLay]; rfl
theorem dNoteDepth : ∀ ns : List (List Nat × List Nat), PyData.depthAll (ns.map dNote) ≤ 2
  | [] => by simp [PyData.depthAll]
  | q :: ns => by
    have h1 := dNoteDepth ns
    show max (max (PyData.depthAll (dn q.1) + 1) (max (PyData.depthAll (dn q.2) + 1) 0) + 1) (PyData.depthAll (ns.map dNote)) ≤ 2
    rw [dnDepth, dnDepth]
    omega
theorem dNoteSh (ns : List (List Nat × List Nat)) : SeqAt.shaped (.tuple (ns.map dNote)) = true := by
  show (PyData.canLayAll0 (ns.map dNote) && decide (PyData.depthAll (ns.map dNote) + 1 ≤ 64)) = true
  have := dNoteDepth ns
  rw [dNoteLay, decide_eq_true (by omega)]; rfl
theorem dNoteEq (ns : List (List Nat × List Nat)) : PyData.eqv (.tuple (ns.map dNote)) (.tuple (ns.map dNote)) = true := SeqAt.eqv_refl (.tuple (ns.map dNote)) (dNoteLay ns)
section
variable {P : Program} {w : World} {K : PySem.W.Frag} {mg : Str → Option Value} {base : Heap} {C : Addr}
theorem dHand (B : Defs K mg C) : Def P w K mg base "_law_hand" 1 ["_law_script"] (spHand K) := def_of B.ha fun f fd F => ok_hand F (nOf B).abs (nOf B).int (nOf B).is.len
def spLaw (K : PySem.W.Frag) : Sp := fun vs H Q _ => ∃ (a : Addr) (ns : List Int), vs = [.ref a] ∧ SqL K H a (ns.map V.int) ∧ ns.length ≤ 63 ∧ ∀ H', Q (.bl true) H'
end
end Cn
namespace Ck
/-! sums and products by a number -/
def sumN (f : Nat → Nat) : Nat → Nat
  | 0 => 0
  | b + 1 => sumN f b + f (b + 1)
def prN (g : Nat → Nat) : Nat → Nat
  | 0 => 1
  | b + 1 => prN g b * g b
def adN (g : Nat → Nat) : Nat → Nat
  | 0 => 0
  | b + 1 => adN g b + g b
section
variable {f g h : Nat → Nat} {n k : Nat}
theorem sumN_congr : ∀ {b : Nat}, (∀ m, 1 ≤ m → m ≤ b → f m = g m) → sumN f b = sumN g b
  | 0, _ => rfl
  | b + 1, e => by
    show sumN f b + f (b + 1) = sumN g b + g (b + 1)
    rw [sumN_congr fun m h1 h2 => e m h1 (by omega), e (b + 1) (by omega) (Nat.le_refl _)]
theorem sumN_le : ∀ {b : Nat}, (∀ m, 1 ≤ m → m ≤ b → f m ≤ g m) → sumN f b ≤ sumN g b
  | 0, _ => Nat.le_refl _
  | b + 1, e => Nat.add_le_add (sumN_le fun m h1 h2 => e m h1 (by omega)) (e (b + 1) (by omega) (Nat.le_refl _))
theorem sumN_mul (c : Nat) : ∀ b, sumN (fun m => c * f m) b = c * sumN f b
  | 0 => rfl
  | b + 1 => by
    show sumN (fun m => c * f m) b + c * f (b + 1) = c * (sumN f b + f (b + 1))
    rw [sumN_mul c b, Nat.mul_add]
theorem sumN_bound {c : Nat} : ∀ {b : Nat}, (∀ m, 1 ≤ m → m ≤ b → f m ≤ c) → sumN f b ≤ b * c
  | 0, _ => Nat.zero_le _
  | b + 1, e => by
    rw [Nat.succ_mul]
    exact Nat.add_le_add (sumN_bound fun m h1 h2 => e m h1 (by omega)) (e (b + 1) (by omega) (Nat.le_refl _))
theorem sumN_mono {a : Nat} : ∀ {b : Nat}, a ≤ b → sumN f a ≤ sumN f b
  | 0, e => by rw [Nat.le_zero.mp e]; exact Nat.le_refl _
  | b + 1, e => by
    by_cases c : a = b + 1
    · rw [c]; exact Nat.le_refl _
    · exact Nat.le_trans (sumN_mono (b := b) (by omega)) (Nat.le_add_right _ _)
theorem sumN_one {b : Nat} (hb : 1 ≤ b) : f 1 ≤ sumN f b := by
  have e : sumN f 1 = f 1 := by show 0 + f 1 = f 1; omega
  rw [← e]
  exact sumN_mono hb
theorem prN_congr : ∀ {b : Nat}, (∀ q, q < b → f q = g q) → prN f b = prN g b
  | 0, _ => rfl
  | b + 1, e => by
    show prN f b * f b = prN g b * g b
    rw [prN_congr fun q hq => e q (by omega), e b (by omega)]
theorem prN_mul : ∀ b, prN (fun q => f q * g q) b = prN f b * prN g b
  | 0 => rfl
  | b + 1 => by
    show prN (fun q => f q * g q) b * (f b * g b) = prN f b * f b * (prN g b * g b)
    rw [prN_mul b]; grind
theorem prN_one : ∀ {b : Nat}, (∀ q, q < b → f q = 1) → prN f b = 1
  | 0, _ => rfl
  | b + 1, e => by
    show prN f b * f b = 1
    rw [prN_one fun q hq => e q (by omega), e b (by omega)]
theorem prN_single {x : Nat} : ∀ {b : Nat}, k < b → prN (fun q => if q = k then x else 1) b = x
  | 0, e => absurd e (Nat.not_lt_zero _)
  | b + 1, e => by
    show prN (fun q => if q = k then x else 1) b * (if b = k then x else 1) = x
    by_cases c : b = k
    · rw [if_pos c, prN_one fun q hq => if_neg (by omega), Nat.one_mul]
    · rw [if_neg c, Nat.mul_one]
      exact prN_single (by omega)
theorem prN_pos : ∀ {b : Nat}, (∀ q, q < b → 1 ≤ f q) → 1 ≤ prN f b
  | 0, _ => Nat.le_refl _
  | b + 1, e => Nat.mul_pos (prN_pos fun q hq => e q (by omega)) (e b (by omega))
theorem prN_le : ∀ {b : Nat}, (∀ q, q < b → f q ≤ g q) → prN f b ≤ prN g b
  | 0, _ => Nat.le_refl _
  | b + 1, e => Nat.mul_le_mul (prN_le fun q hq => e q (by omega)) (e b (by omega))
theorem prN_mono {a : Nat} : ∀ {b : Nat}, a ≤ b → (∀ q, q < b → 1 ≤ f q) → prN f a ≤ prN f b
  | 0, e, _ => by rw [Nat.le_zero.mp e]; exact Nat.le_refl _
  | b + 1, e, h => by
    by_cases c : a = b + 1
    · rw [c]; exact Nat.le_refl _
    · have h1 : prN f a ≤ prN f b := prN_mono (Nat.le_of_lt_succ (Nat.lt_of_le_of_ne e c)) fun q hq => h q (Nat.lt_succ_of_lt hq)
      exact Nat.le_trans h1 (Nat.le_mul_of_pos_right _ (h b (by omega)))
theorem prN_pow {c : Nat} : ∀ {b : Nat}, (∀ q, q < b → f q ≤ c ^ g q) → prN f b ≤ c ^ adN g b
  | 0, _ => Nat.le_refl _
  | b + 1, e => by
    show prN f b * f b ≤ c ^ (adN g b + g b)
    rw [Nat.pow_add]
    exact Nat.mul_le_mul (prN_pow fun q hq => e q (by omega)) (e b (by omega))
theorem adN_congr : ∀ {b : Nat}, (∀ q, q < b → f q = g q) → adN f b = adN g b
  | 0, _ => rfl
  | b + 1, e => by
    show adN f b + f b = adN g b + g b
    rw [adN_congr fun q hq => e q (by omega), e b (by omega)]
theorem adN_add : ∀ b, adN (fun q => f q + g q) b = adN f b + adN g b
  | 0 => rfl
  | b + 1 => by
    show adN (fun q => f q + g q) b + (f b + g b) = adN f b + f b + (adN g b + g b)
    rw [adN_add b]; omega
theorem adN_zero : ∀ {b : Nat}, (∀ q, q < b → f q = 0) → adN f b = 0
  | 0, _ => rfl
  | b + 1, e => by
    show adN f b + f b = 0
    rw [adN_zero fun q hq => e q (by omega), e b (by omega)]
theorem adN_single {x : Nat} : ∀ {b : Nat}, k < b → adN (fun q => if q = k then x else 0) b = x
  | 0, e => absurd e (Nat.not_lt_zero _)
  | b + 1, e => by
    show adN (fun q => if q = k then x else 0) b + (if b = k then x else 0) = x
    by_cases c : b = k
    · rw [if_pos c, adN_zero fun q hq => if_neg (by omega), Nat.zero_add]
    · rw [if_neg c, Nat.add_zero]
      exact adN_single (by omega)
theorem adN_one : ∀ {b : Nat}, k < b → f k ≤ adN f b
  | 0, e => absurd e (Nat.not_lt_zero _)
  | b + 1, e => by
    show f k ≤ adN f b + f b
    by_cases c : k = b
    · rw [c]; omega
    · have h1 : f k ≤ adN f b := adN_one (by omega)
      omega
end
/-! the ways of what hangs at a place -/
def kid (ps : List (Option Nat)) (p c : Nat) : Bool := decide (ps[c]? = some (some p))
def wF (ps : List (Option Nat)) : Nat → Nat → Nat → Nat
  | 0, _, _ => 1
  | k + 1, p, l => prN (fun c => if kid ps p c = true then sumN (wF ps k c) (l + 1) else 1) ps.length
def wy (ps : List (Option Nat)) (p l : Nat) : Nat := wF ps (ps.length - p) p l
section
variable {ps : List (Option Nat)} {p c l : Nat}
theorem kid_iff : kid ps p c = true ↔ ps[c]? = some (some p) := by unfold kid; exact decide_eq_true_iff
theorem kid_lt (hp : Ps ps) (h : kid ps p c = true) : p < c ∧ c < ps.length := ⟨hp c p (kid_iff.mp h), (List.getElem?_eq_some_iff.mp (kid_iff.mp h)).1⟩
theorem wF_stab (hp : Ps ps) : ∀ (k k' p l : Nat), p < ps.length → ps.length - p ≤ k → ps.length - p ≤ k' → wF ps k p l = wF ps k' p l
  | 0, _, p, l, h1, h2, _ => by omega
  | _, 0, p, l, h1, _, h3 => by omega
  | k + 1, k' + 1, p, l, h1, h2, h3 => by
    refine prN_congr fun c hc => ?_
    by_cases hk : kid ps p c = true
    · rw [if_pos hk, if_pos hk]
      have := kid_lt hp hk
      exact sumN_congr fun m _ _ => wF_stab hp k k' c m hc (by omega) (by omega)
    · rw [if_neg hk, if_neg hk]
theorem wy_eq (hp : Ps ps) (h : p < ps.length) : wy ps p l = prN (fun c => if kid ps p c = true then sumN (wy ps c) (l + 1) else 1) ps.length := by
  unfold wy
  have e : ps.length - p = (ps.length - p - 1) + 1 := by omega
  rw [e]
  refine prN_congr fun c hc => ?_
  by_cases hk : kid ps p c = true
  · rw [if_pos hk, if_pos hk]
    have := kid_lt hp hk
    exact sumN_congr fun m _ _ => wF_stab hp _ _ c m hc (by omega) (by omega)
  · rw [if_neg hk, if_neg hk]
theorem wF_pos : ∀ (k p l : Nat), 1 ≤ wF ps k p l
  | 0, _, _ => Nat.le_refl _
  | k + 1, p, l => prN_pos fun c _ => by
    split
    · exact Nat.le_trans (wF_pos k c 1) (sumN_one (by omega))
    · exact Nat.le_refl _
theorem wy_pos : 1 ≤ wy ps p l := wF_pos _ _ _
theorem sumwy_pos {b : Nat} (h : 1 ≤ b) : 1 ≤ sumN (wy ps p) b := Nat.le_trans wy_pos (sumN_one h)
/-! how many hang under a place -/
def dF (ps : List (Option Nat)) : Nat → Nat → Nat
  | 0, _ => 0
  | k + 1, p => adN (fun c => if kid ps p c = true then dF ps k c + 1 else 0) ps.length
def dsc (ps : List (Option Nat)) (p : Nat) : Nat := dF ps (ps.length - p) p
theorem dF_stab (hp : Ps ps) : ∀ (k k' p : Nat), p < ps.length → ps.length - p ≤ k → ps.length - p ≤ k' → dF ps k p = dF ps k' p
  | 0, _, p, h1, h2, _ => by omega
  | _, 0, p, h1, _, h3 => by omega
  | k + 1, k' + 1, p, h1, h2, h3 => by
    refine adN_congr fun c hc => ?_
    by_cases hk : kid ps p c = true
    · rw [if_pos hk, if_pos hk]
      have := kid_lt hp hk
      rw [dF_stab hp k k' c hc (by omega) (by omega)]
    · rw [if_neg hk, if_neg hk]
theorem dsc_eq (hp : Ps ps) (h : p < ps.length) : dsc ps p = adN (fun c => if kid ps p c = true then dsc ps c + 1 else 0) ps.length := by
  unfold dsc
  have e : ps.length - p = (ps.length - p - 1) + 1 := by omega
  rw [e]
  refine adN_congr fun c hc => ?_
  by_cases hk : kid ps p c = true
  · rw [if_pos hk, if_pos hk]
    have := kid_lt hp hk
    rw [dF_stab hp _ (ps.length - c) c hc (by omega) (by omega)]
  · rw [if_neg hk, if_neg hk]
theorem wy_bound (hp : Ps ps) {A : Nat} : ∀ (k p l : Nat), p < ps.length → ps.length - p ≤ k → l + (ps.length - p) + 1 ≤ A → wy ps p l ≤ A ^ dsc ps p
  | 0, p, l, h1, h2, _ => by omega
  | k + 1, p, l, h1, h2, h3 => by
    rw [wy_eq hp h1, dsc_eq hp h1]
    refine prN_pow fun c hc => ?_
    by_cases hk : kid ps p c = true
    · rw [if_pos hk, if_pos hk]
      have hl := kid_lt hp hk
      have e := sumN_bound (f := wy ps c) (c := A ^ dsc ps c) (b := l + 1) fun m _ hm => wy_bound hp k c m hc (by omega) (by omega)
      rw [Nat.pow_succ, Nat.mul_comm]
      exact Nat.le_trans e (Nat.mul_le_mul_right _ (by omega))
    · rw [if_neg hk, if_neg hk]
      exact Nat.le_refl _
end
/-! what is open behind a prefix -/
def opn (ps : List (Option Nat)) (k q : Nat) : Bool := match ps[q]? with
  | some none => true
  | some (some p) => decide (p < k)
  | none => false
theorem opn_self {ps : List (Option Nat)} {k : Nat} (hp : Ps ps) (hk : k < ps.length) : opn ps k k = true := by
  unfold opn
  rcases opt_cases hk with h | ⟨p, h⟩
  · rw [h]
  · rw [h]; exact decide_eq_true (hp k p h)
def pa (ps : List (Option Nat)) (q : Nat) : Option Nat := (ps[q]?).getD none
def fac (ps : List (Option Nat)) (lv : List Nat) (q : Nat) : Nat := sumN (wy ps q) (mostLv lv (pa ps q))
def rest (ps : List (Option Nat)) (lv : List Nat) (k : Nat) : Nat := prN (fun q => if k ≤ q ∧ opn ps k q = true then fac ps lv q else 1) ps.length
def oth (ps : List (Option Nat)) (lv : List Nat) (k : Nat) : Nat := prN (fun q => if k < q ∧ opn ps k q = true then fac ps lv q else 1) ps.length
def nmb (ps : List (Option Nat)) (lv : List Nat) : Nat → Nat
  | 0 => 0
  | k + 1 => nmb ps lv k + oth ps lv k * sumN (wy ps k) (lv.getD k 0 - 1)
def tot (ps : List (Option Nat)) : Nat := prN (fun q => if ps[q]? = some none then wy ps q 1 else 1) ps.length
def Agree (a b : List Nat) (k : Nat) : Prop := ∀ i, i < k → a.getD i 0 = b.getD i 0
section
variable {ps : List (Option Nat)} {lv lv' : List Nat} {k q : Nat}
theorem pa_of {o : Option Nat} (h : ps[q]? = some o) : pa ps q = o := by unfold pa; rw [h]; rfl
theorem most_pos : 1 ≤ mostLv lv (pa ps q) := by
  cases pa ps q with
  | none => exact Nat.le_refl _
  | some p => exact Nat.le_add_left _ _
theorem fac_pos : 1 ≤ fac ps lv q := sumwy_pos most_pos
theorem fac_agree (ha : Agree lv lv' k) (ho : opn ps k q = true) : fac ps lv q = fac ps lv' q := by
  unfold fac
  unfold opn at ho
  cases h : ps[q]? with
  | none => rw [h] at ho; cases ho
  | some o =>
    rw [pa_of h]
    cases o with
    | none => rfl
    | some p =>
      rw [h] at ho
      have := ha p (of_decide_eq_true ho)
      show sumN _ (lv.getD p 0 + 1) = sumN _ (lv'.getD p 0 + 1)
      rw [this]
theorem rest_agree (ha : Agree lv lv' k) : rest ps lv k = rest ps lv' k := by
  refine prN_congr fun q _ => ?_
  split
  · rename_i h
    exact fac_agree ha h.2
  · rfl
theorem oth_agree (ha : Agree lv lv' k) : oth ps lv k = oth ps lv' k := by
  refine prN_congr fun q _ => ?_
  split
  · rename_i h
    exact fac_agree ha h.2
  · rfl
theorem nmb_agree : ∀ {k : Nat}, Agree lv lv' k → nmb ps lv k = nmb ps lv' k
  | 0, _ => rfl
  | k + 1, ha => by
    show nmb ps lv k + oth ps lv k * _ = nmb ps lv' k + oth ps lv' k * _
    rw [nmb_agree (k := k) fun i hi => ha i (by omega), oth_agree (k := k) fun i hi => ha i (by omega), ha k (by omega)]
theorem oth_pos : 1 ≤ oth ps lv k := prN_pos fun q _ => by
  split
  · exact fac_pos
  · exact Nat.le_refl _
theorem rest_pos : 1 ≤ rest ps lv k := prN_pos fun q _ => by
  split
  · exact fac_pos
  · exact Nat.le_refl _
theorem rest_cut (hp : Ps ps) (hk : k < ps.length) : rest ps lv k = fac ps lv k * oth ps lv k := by
  have e : rest ps lv k = prN (fun q => (if q = k then fac ps lv k else 1) * (if k < q ∧ opn ps k q = true then fac ps lv q else 1)) ps.length := by
    refine prN_congr fun q _ => ?_
    by_cases c : q = k
    · subst c
      rw [if_pos ⟨Nat.le_refl _, opn_self hp hk⟩, if_pos rfl, if_neg (fun z => Nat.lt_irrefl _ z.1), Nat.mul_one]
    · rw [if_neg c, Nat.one_mul]
      by_cases d : k < q ∧ opn ps k q = true
      · rw [if_pos d, if_pos ⟨Nat.le_of_lt d.1, d.2⟩]
      · rw [if_neg d, if_neg fun z => d ⟨by omega, z.2⟩]
  rw [e, prN_mul, prN_single hk]
  rfl
theorem rest_next (hp : Ps ps) (hk : k < ps.length) : rest ps lv (k + 1) = oth ps lv k * wy ps k (lv.getD k 0) := by
  rw [wy_eq hp hk]
  unfold oth
  rw [← prN_mul]
  refine prN_congr fun q hq => ?_
  cases h : ps[q]? with
  | none => exact absurd h (by rw [List.getElem?_eq_getElem hq]; exact fun z => nomatch z)
  | some o =>
    have op : ∀ j, opn ps j q = (match (some o : Option (Option Nat)) with | some none => true | some (some p) => decide (p < j) | none => false) := fun j => by unfold opn; rw [h]
    cases o with
    | none =>
      have kf : ¬ kid ps k q = true := fun z => by
        have := kid_iff.mp z
        rw [h] at this; cases this
      rw [op, op, if_neg kf, Nat.mul_one]
      by_cases c : k < q
      · rw [if_pos ⟨c, rfl⟩, if_pos ⟨c, rfl⟩]
      · rw [if_neg fun z => c z.1, if_neg fun z => c z.1]
    | some p =>
      have hpq := hp q p h
      have kf : kid ps k q = true ↔ p = k := by
        rw [kid_iff, h]
        exact ⟨fun z => by cases z; rfl, fun z => by rw [z]⟩
      rw [op, op]
      show (if k + 1 ≤ q ∧ decide (p < k + 1) = true then fac ps lv q else 1) = (if k < q ∧ decide (p < k) = true then fac ps lv q else 1) * _
      by_cases c : p = k
      · have e1 : fac ps lv q = sumN (wy ps q) (lv.getD k 0 + 1) := by
          unfold fac
          rw [pa_of h, c]; rfl
        rw [if_pos ⟨by omega, decide_eq_true (by omega)⟩, if_neg fun z => by have := of_decide_eq_true z.2; omega, if_pos (kf.mpr c), Nat.one_mul, e1]
      · rw [if_neg fun z => c (kf.mp z), Nat.mul_one]
        by_cases d : k < q ∧ p < k
        · rw [if_pos ⟨by omega, decide_eq_true (by omega)⟩, if_pos ⟨d.1, decide_eq_true d.2⟩]
        · rw [if_neg fun z => d ⟨by omega, by have := of_decide_eq_true z.2; omega⟩, if_neg fun z => d ⟨z.1, of_decide_eq_true z.2⟩]
theorem rest_full : rest ps lv ps.length = 1 := prN_one fun q hq => if_neg fun z => by omega
theorem rest_zero : rest ps lv 0 = tot ps := by
  refine prN_congr fun q hq => ?_
  cases h : ps[q]? with
  | none => exact absurd h (by rw [List.getElem?_eq_getElem hq]; exact fun z => nomatch z)
  | some o =>
    cases o with
    | none =>
      have e : fac ps lv q = wy ps q 1 := by
        unfold fac
        rw [pa_of h]
        show 0 + wy ps q 1 = _
        omega
      rw [if_pos ⟨Nat.zero_le _, by unfold opn; rw [h]⟩, if_pos rfl, e]
    | some p =>
      rw [if_neg fun z => by
        have z2 := z.2
        unfold opn at z2
        rw [h] at z2
        have := of_decide_eq_true z2
        omega, if_neg fun z => nomatch z]
theorem tot_pos : 1 ≤ tot ps := by rw [← rest_zero (lv := [])]; exact rest_pos
/-! numbers of plans -/
theorem nmb_rest (hp : Ps ps) (hk : k < ps.length) (h1 : 1 ≤ lv.getD k 0) : nmb ps lv (k + 1) + rest ps lv (k + 1) = nmb ps lv k + oth ps lv k * sumN (wy ps k) (lv.getD k 0) := by
  rw [rest_next hp hk]
  show nmb ps lv k + oth ps lv k * sumN (wy ps k) (lv.getD k 0 - 1) + _ = _
  obtain ⟨m, hm⟩ : ∃ m, lv.getD k 0 = m + 1 := ⟨lv.getD k 0 - 1, by omega⟩
  rw [hm, Nat.add_sub_cancel]
  show _ = nmb ps lv k + oth ps lv k * (sumN (wy ps k) m + wy ps k (m + 1))
  rw [Nat.mul_add]; omega
theorem lv_at (hv : Lv ps lv) (hk : k < ps.length) : 1 ≤ lv.getD k 0 ∧ lv.getD k 0 ≤ mostLv lv (pa ps k) := by
  obtain ⟨o, ho⟩ : ∃ o, ps[k]? = some o := ⟨_, List.getElem?_eq_getElem hk⟩
  rw [pa_of ho]
  exact hv.2 k _ o (getD_at (by rw [hv.1]; exact hk)) ho
theorem nmb_down (hp : Ps ps) (hv : Lv ps lv) (hk : k < ps.length) : nmb ps lv (k + 1) + rest ps lv (k + 1) ≤ nmb ps lv k + rest ps lv k := by
  have h := lv_at hv hk
  rw [nmb_rest hp hk h.1, rest_cut hp hk, Nat.mul_comm (fac ps lv k)]
  exact Nat.add_le_add_left (Nat.mul_le_mul_left _ (sumN_mono h.2)) _
theorem nmb_lt (hp : Ps ps) (hv : Lv ps lv) : ∀ j k, k + j = ps.length → nmb ps lv ps.length + 1 ≤ nmb ps lv k + rest ps lv k
  | 0, k, e => by
    have e : k = ps.length := by omega
    subst e
    rw [rest_full]
    exact Nat.le_refl _
  | j + 1, k, e => Nat.le_trans (nmb_lt hp hv j (k + 1) (by omega)) (nmb_down hp hv (by omega))
theorem nmb_le : ∀ {a b : Nat}, a ≤ b → nmb ps lv a ≤ nmb ps lv b
  | a, 0, h => by rw [Nat.le_zero.mp h]; exact Nat.le_refl _
  | a, b + 1, h => by
    by_cases c : a = b + 1
    · rw [c]; exact Nat.le_refl _
    · exact Nat.le_trans (nmb_le (b := b) (by omega)) (Nat.le_add_right _ _)
theorem nmb_tot (hp : Ps ps) (hv : Lv ps lv) : nmb ps lv ps.length < tot ps := by
  have := nmb_lt hp hv ps.length 0 (by omega)
  rw [rest_zero (lv := lv)] at this
  have e : nmb ps lv 0 = 0 := rfl
  omega
theorem nmb_mono (hp : Ps ps) (hv : Lv ps lv) (hk : k < ps.length) (ha : Agree lv lv' k) (hl : lv.getD k 0 < lv'.getD k 0) : nmb ps lv ps.length < nmb ps lv' ps.length := by
  have h1 := nmb_lt hp hv (ps.length - (k + 1)) (k + 1) (by omega)
  have h2 : nmb ps lv' (k + 1) ≤ nmb ps lv' ps.length := nmb_le (by omega)
  have h3 := nmb_rest hp hk (lv_at hv hk).1
  have h4 : nmb ps lv' (k + 1) = nmb ps lv k + oth ps lv k * sumN (wy ps k) (lv'.getD k 0 - 1) := by
    rw [nmb_agree ha, oth_agree ha]; rfl
  have h5 : sumN (wy ps k) (lv.getD k 0) ≤ sumN (wy ps k) (lv'.getD k 0 - 1) := sumN_mono (by omega)
  have h6 := Nat.mul_le_mul_left (oth ps lv k) h5
  omega
/-- two lists as long: alike, or there is a first place where they are not -/
theorem first_diff : ∀ (n : Nat) (a b : List Nat), Agree a b n ∨ ∃ k, k < n ∧ Agree a b k ∧ a.getD k 0 ≠ b.getD k 0
  | 0, a, b => .inl fun i hi => absurd hi (Nat.not_lt_zero _)
  | n + 1, a, b => by
    rcases first_diff n a b with h | ⟨k, hk, h1, h2⟩
    · by_cases e : a.getD n 0 = b.getD n 0
      · refine .inl fun i hi => ?_
        by_cases c : i = n
        · rw [c]; exact e
        · exact h i (by omega)
      · exact .inr ⟨n, by omega, h, e⟩
    · exact .inr ⟨k, by omega, h1, h2⟩
theorem agree_eq {a b : List Nat} {n : Nat} (ha : a.length = n) (hb : b.length = n) (h : Agree a b n) : a = b := by
  refine List.ext_getElem? fun i => ?_
  by_cases c : i < n
  · rw [getD_at (by omega), getD_at (by omega), h i c]
  · rw [List.getElem?_eq_none (by omega), List.getElem?_eq_none (by omega)]
theorem nmb_inj (hp : Ps ps) (hv : Lv ps lv) (hv' : Lv ps lv') (e : nmb ps lv ps.length = nmb ps lv' ps.length) : lv = lv' := by
  rcases first_diff ps.length lv lv' with h | ⟨k, hk, h1, h2⟩
  · exact agree_eq hv.1 hv'.1 h
  · rcases Nat.lt_or_gt_of_ne h2 with h3 | h3
    · have := nmb_mono hp hv hk h1 h3
      omega
    · have := nmb_mono hp hv' hk (fun i hi => (h1 i hi).symm) h3
      omega
end
end Ck
namespace Ck
section
variable {ps : List (Option Nat)} {lv : List Nat} {k q p l : Nat}
/-! bounds -/
theorem opn_root (h : ps[q]? = some none) : opn ps k q = true := by unfold opn; rw [h]
theorem opn_kid (h : ps[q]? = some (some p)) : opn ps k q = decide (p < k) := by unfold opn; rw [h]
def opE (ps : List (Option Nat)) (k : Nat) : Nat := adN (fun q => if k ≤ q ∧ opn ps k q = true then dsc ps q + 1 else 0) ps.length
theorem opE_next (hp : Ps ps) (hk : k < ps.length) : opE ps k = opE ps (k + 1) + 1 := by
  have e1 : opE ps k = adN (fun q => (if q = k then dsc ps k + 1 else 0) + (if k < q ∧ opn ps k q = true then dsc ps q + 1 else 0)) ps.length := by
    refine adN_congr fun q hq => ?_
    by_cases c : q = k
    · subst c
      rw [if_pos ⟨Nat.le_refl _, opn_self hp hk⟩, if_pos rfl, if_neg (fun z => Nat.lt_irrefl _ z.1), Nat.add_zero]
    · rw [if_neg c, Nat.zero_add]
      by_cases d : k < q ∧ opn ps k q = true
      · rw [if_pos d, if_pos ⟨Nat.le_of_lt d.1, d.2⟩]
      · rw [if_neg d, if_neg fun z => d ⟨by omega, z.2⟩]
  have e2 : opE ps (k + 1) = adN (fun q => (if k < q ∧ opn ps k q = true then dsc ps q + 1 else 0) + (if kid ps k q = true then dsc ps q + 1 else 0)) ps.length := by
    refine adN_congr fun q hq => ?_
    cases h : ps[q]? with
    | none => exact absurd h (by rw [List.getElem?_eq_getElem hq]; exact fun z => nomatch z)
    | some o =>
      cases o with
      | none =>
        have kf : ¬ kid ps k q = true := fun z => by
          have := kid_iff.mp z
          rw [h] at this; cases this
        rw [opn_root h, opn_root h, if_neg kf, Nat.add_zero]
        by_cases c : k < q
        · rw [if_pos ⟨c, rfl⟩, if_pos ⟨c, rfl⟩]
        · rw [if_neg fun z => c z.1, if_neg fun z => c z.1]
      | some p =>
        have hpq := hp q p h
        have kf : kid ps k q = true ↔ p = k := by
          rw [kid_iff, h]
          exact ⟨fun z => by cases z; rfl, fun z => by rw [z]⟩
        rw [opn_kid h, opn_kid h]
        show (if k + 1 ≤ q ∧ decide (p < k + 1) = true then dsc ps q + 1 else 0) = (if k < q ∧ decide (p < k) = true then dsc ps q + 1 else 0) + _
        by_cases c : p = k
        · rw [if_pos ⟨by omega, decide_eq_true (by omega)⟩, if_neg fun z => by have := of_decide_eq_true z.2; omega, if_pos (kf.mpr c), Nat.zero_add]
        · rw [if_neg fun z => c (kf.mp z), Nat.add_zero]
          by_cases d : k < q ∧ p < k
          · rw [if_pos ⟨by omega, decide_eq_true (by omega)⟩, if_pos ⟨d.1, decide_eq_true d.2⟩]
          · rw [if_neg fun z => d ⟨by omega, by have := of_decide_eq_true z.2; omega⟩, if_neg fun z => d ⟨z.1, of_decide_eq_true z.2⟩]
  rw [e1, e2, adN_add, adN_add, adN_single hk, dsc_eq hp hk]
  omega
theorem opE_all (hp : Ps ps) : ∀ j k, k + j = ps.length → opE ps k = j
  | 0, k, e => adN_zero fun q hq => if_neg fun z => by omega
  | j + 1, k, e => by rw [opE_next hp (by omega), opE_all hp j (k + 1) (by omega)]
theorem dsc_le (hp : Ps ps) (hk : k < ps.length) : dsc ps k < ps.length := by
  have h1 := opE_all hp (ps.length - k) k (by omega)
  have h3 : (if k ≤ k ∧ opn ps k k = true then dsc ps k + 1 else 0) ≤ opE ps k := adN_one (f := fun q => if k ≤ q ∧ opn ps k q = true then dsc ps q + 1 else 0) hk
  rw [if_pos ⟨Nat.le_refl _, opn_self hp hk⟩] at h3
  omega
theorem wy_big (hp : Ps ps) (h60 : ps.length ≤ 60) (hk : k < ps.length) (hl : l ≤ 64) : wy ps k l ≤ 2 ^ 420 := by
  have h1 := wy_bound hp (A := 128) (ps.length - k) k l hk (Nat.le_refl _) (by omega)
  have h2 := dsc_le hp hk
  refine Nat.le_trans h1 ?_
  have e : (128 : Nat) = 2 ^ 7 := by decide
  rw [e, ← Nat.pow_mul]
  exact Nat.pow_le_pow_right (by decide) (by omega)
theorem tot_big (hp : Ps ps) (h60 : ps.length ≤ 60) : tot ps ≤ 2 ^ 420 := by
  have h1 : tot ps ≤ 128 ^ adN (fun q => if 0 ≤ q ∧ opn ps 0 q = true then dsc ps q + 1 else 0) ps.length := by
    refine prN_pow fun q hq => ?_
    by_cases c : ps[q]? = some none
    · rw [if_pos c, if_pos ⟨Nat.zero_le _, by unfold opn; rw [c]⟩]
      refine Nat.le_trans (wy_bound hp (A := 128) (ps.length - q) q 1 hq (Nat.le_refl _) (by omega)) ?_
      exact Nat.pow_le_pow_right (by decide) (by omega)
    · rw [if_neg c]
      exact Nat.pow_pos (by decide)
  have h2 : adN (fun q => if 0 ≤ q ∧ opn ps 0 q = true then dsc ps q + 1 else 0) ps.length = ps.length := opE_all hp ps.length 0 (by omega)
  rw [h2] at h1
  refine Nat.le_trans h1 ?_
  have e : (128 : Nat) = 2 ^ 7 := by decide
  rw [e, ← Nat.pow_mul]
  exact Nat.pow_le_pow_right (by decide) (by omega)
/-! the list of all plans -/
def stepL (ps : List (Option Nat)) (k : Nat) (lv : List Nat) : List (List Nat) := (List.range (mostLv lv (pa ps k))).map fun m => lv ++ [m + 1]
def plansL (ps : List (Option Nat)) : Nat → List (List Nat)
  | 0 => [[]]
  | k + 1 => (plansL ps k).flatMap (stepL ps k)
def LvUp (ps : List (Option Nat)) (lv : List Nat) : Prop := ∀ (j l : Nat) (o : Option Nat), lv[j]? = some l → ps[j]? = some o → 1 ≤ l ∧ l ≤ mostLv lv o
theorem mostApp {lv : List Nat} {l : Nat} {o : Option Nat} (hq : ∀ m, o = some m → m < lv.length) : mostLv (lv ++ [l]) o = mostLv lv o := by
  cases o with
  | none => rfl
  | some m =>
    show (lv ++ [l]).getD m 0 + 1 = lv.getD m 0 + 1
    rw [List.getD_eq_getElem?_getD, List.getD_eq_getElem?_getD, List.getElem?_append_left (hq m rfl)]
theorem lvUp_snoc (hp : Ps ps) (hv : LvUp ps lv) (hk : lv.length < ps.length) (h1 : 1 ≤ l) (h2 : l ≤ mostLv lv (pa ps lv.length)) : LvUp ps (lv ++ [l]) := fun j m r hm hr => by
  by_cases c : j < lv.length
  · rw [List.getElem?_append_left c] at hm
    rw [mostApp fun x e => Nat.lt_trans (hp j x (by rw [hr, e])) c]
    exact hv j m r hm hr
  · rw [List.getElem?_append_right (by omega)] at hm
    have e : j = lv.length := by
      have := (List.getElem?_eq_some_iff.mp hm).1
      simp at this
      omega
    subst e
    rw [Nat.sub_self] at hm
    cases (Option.some.inj hm)
    rw [pa_of hr] at h2
    rw [mostApp fun x e => hp lv.length x (by rw [hr, e])]
    exact ⟨h1, h2⟩
theorem plans_ok (hp : Ps ps) : ∀ k, k ≤ ps.length → ∀ lv ∈ plansL ps k, lv.length = k ∧ LvUp ps lv
  | 0, _, lv, h => by
    rw [List.mem_singleton.mp h]
    exact ⟨rfl, fun j l o h => by rw [List.getElem?_nil] at h; cases h⟩
  | k + 1, hk, lv, h => by
    obtain ⟨l0, h0, h1⟩ := List.mem_flatMap.mp h
    obtain ⟨hl, hv⟩ := plans_ok hp k (by omega) l0 h0
    obtain ⟨m, hm, rfl⟩ := List.mem_map.mp h1
    rw [List.mem_range] at hm
    refine ⟨by rw [List.length_append, hl]; rfl, lvUp_snoc hp hv (by omega) (by omega) ?_⟩
    rw [hl]; omega
theorem plans_lv (hp : Ps ps) {lv : List Nat} (h : lv ∈ plansL ps ps.length) : Lv ps lv := plans_ok hp _ (Nat.le_refl _) lv h
/-- prefixes of k places, one behind another, from number s on -/
def StL (ps : List (Option Nat)) (k : Nat) : Nat → List (List Nat) → Prop
  | _, [] => True
  | s, lv :: L => nmb ps lv k = s ∧ StL ps k (s + rest ps lv k) L
def sumR (ps : List (Option Nat)) (k : Nat) (L : List (List Nat)) : Nat := (L.map fun lv => rest ps lv k).sum
theorem sumR_app {A B : List (List Nat)} : sumR ps k (A ++ B) = sumR ps k A + sumR ps k B := by unfold sumR; rw [List.map_append, List.sum_append]
theorem stL_app : ∀ {s : Nat} {A B : List (List Nat)}, StL ps k s A → StL ps k (s + sumR ps k A) B → StL ps k s (A ++ B)
  | s, [], B, _, h => h
  | s, lv :: A, B, h, h2 => by
    refine ⟨h.1, stL_app h.2 ?_⟩
    have e : s + sumR ps k (lv :: A) = s + rest ps lv k + sumR ps k A := by
      show s + (rest ps lv k + sumR ps k A) = _
      omega
    rw [← e]; exact h2
theorem agree_snoc (hl : lv.length = k) : Agree (lv ++ [l]) lv k := fun i hi => by
  rw [List.getD_eq_getElem?_getD, List.getD_eq_getElem?_getD, List.getElem?_append_left (by omega)]
theorem getD_snoc (hl : lv.length = k) : (lv ++ [l]).getD k 0 = l := by
  rw [List.getD_eq_getElem?_getD, List.getElem?_append_right (by omega), hl, Nat.sub_self]; rfl
theorem nmb_snoc (hl : lv.length = k) : nmb ps (lv ++ [l]) (k + 1) = nmb ps lv k + oth ps lv k * sumN (wy ps k) (l - 1) := by
  show nmb ps (lv ++ [l]) k + oth ps (lv ++ [l]) k * sumN (wy ps k) ((lv ++ [l]).getD k 0 - 1) = _
  rw [nmb_agree (agree_snoc hl), oth_agree (agree_snoc hl), getD_snoc hl]
theorem rest_snoc (hp : Ps ps) (hl : lv.length = k) (hk : k < ps.length) : rest ps (lv ++ [l]) (k + 1) = oth ps lv k * wy ps k l := by
  rw [rest_next hp hk, oth_agree (agree_snoc hl), getD_snoc hl]
theorem stL_step (hp : Ps ps) (hl : lv.length = k) (hk : k < ps.length) : ∀ b, StL ps (k + 1) (nmb ps lv k) ((List.range b).map fun m => lv ++ [m + 1]) ∧ sumR ps (k + 1) ((List.range b).map fun m => lv ++ [m + 1]) = oth ps lv k * sumN (wy ps k) b
  | 0 => ⟨trivial, rfl⟩
  | b + 1 => by
    obtain ⟨h1, h2⟩ := stL_step hp hl hk b
    have hs : sumR ps (k + 1) [lv ++ [b + 1]] = oth ps lv k * wy ps k (b + 1) := by
      show rest ps (lv ++ [b + 1]) (k + 1) + 0 = _
      rw [rest_snoc hp hl hk]; rfl
    rw [List.range_succ, List.map_append]
    refine ⟨stL_app h1 ⟨?_, trivial⟩, ?_⟩
    · rw [h2, nmb_snoc hl]; rfl
    · rw [sumR_app, h2]
      show _ + sumR ps (k + 1) [lv ++ [b + 1]] = oth ps lv k * (sumN (wy ps k) b + wy ps k (b + 1))
      rw [hs, Nat.mul_add]
theorem stL_flat (hp : Ps ps) (hk : k < ps.length) : ∀ {s : Nat} {L : List (List Nat)}, (∀ lv ∈ L, lv.length = k) → StL ps k s L → StL ps (k + 1) s (L.flatMap (stepL ps k)) ∧ sumR ps (k + 1) (L.flatMap (stepL ps k)) = sumR ps k L
  | s, [], _, _ => ⟨trivial, rfl⟩
  | s, lv :: L, hL, h => by
    have hl := hL lv List.mem_cons_self
    obtain ⟨h1, h2⟩ := stL_step hp hl hk (mostLv lv (pa ps k))
    obtain ⟨h3, h4⟩ := stL_flat hp hk (fun x hx => hL x (List.mem_cons_of_mem _ hx)) h.2
    have e : sumR ps (k + 1) (stepL ps k lv) = rest ps lv k := by
      unfold stepL
      rw [h2, rest_cut hp hk, Nat.mul_comm]; rfl
    rw [List.flatMap_cons]
    refine ⟨stL_app (by rw [← h.1]; exact h1) (by rw [e]; exact h3), ?_⟩
    rw [sumR_app, e, h4]; rfl
theorem plans_st (hp : Ps ps) : ∀ k, k ≤ ps.length → StL ps k 0 (plansL ps k) ∧ sumR ps k (plansL ps k) = tot ps
  | 0, _ => ⟨⟨rfl, trivial⟩, by
    show rest ps [] 0 + 0 = _
    rw [rest_zero]; rfl⟩
  | k + 1, hk => by
    obtain ⟨h1, h2⟩ := plans_st hp k (by omega)
    obtain ⟨h3, h4⟩ := stL_flat hp (by omega) (fun lv h => (plans_ok hp k (by omega) lv h).1) h1
    exact ⟨h3, h4.trans h2⟩
theorem stL_at : ∀ {L : List (List Nat)} {s i : Nat} {lv : List Nat}, StL ps ps.length s L → L[i]? = some lv → nmb ps lv ps.length = s + i
  | [], s, i, lv, _, h => by rw [List.getElem?_nil] at h; cases h
  | a :: L, s, 0, lv, h, e => by
    cases e
    exact h.1
  | a :: L, s, i + 1, lv, h, e => by
    have := stL_at (L := L) h.2 (by rwa [List.getElem?_cons_succ] at e)
    rw [this, rest_full]
    omega
theorem sumR_full : ∀ {L : List (List Nat)}, sumR ps ps.length L = L.length
  | [] => rfl
  | a :: L => by
    show rest ps a ps.length + sumR ps ps.length L = L.length + 1
    rw [rest_full, sumR_full]
    omega
theorem plans_at (hp : Ps ps) {i : Nat} (h : (plansL ps ps.length)[i]? = some lv) : nmb ps lv ps.length = i := by
  have := stL_at (plans_st hp _ (Nat.le_refl _)).1 h
  omega
theorem plans_len (hp : Ps ps) : (plansL ps ps.length).length = tot ps := by
  rw [← sumR_full (ps := ps)]
  exact (plans_st hp _ (Nat.le_refl _)).2
/-! few places, few plans -/
def bell : Nat → Nat → Nat
  | 0, _ => 1
  | j + 1, m => m * bell j m + bell j (m + 1)
theorem sumN_two {f : Nat → Nat} {a b m most : Nat} (h1 : ∀ l, 1 ≤ l → l ≤ m → f l ≤ a) (h2 : f (m + 1) ≤ b) (hm : most ≤ m + 1) : sumN f most ≤ m * a + b := by
  have h3 : sumN f m ≤ m * a := sumN_bound h1
  have h4 : sumN f most ≤ sumN f (m + 1) := sumN_mono hm
  have h5 : sumN f (m + 1) = sumN f m + f (m + 1) := rfl
  omega
theorem rest_sum (hp : Ps ps) (hl : lv.length = k) (hk : k < ps.length) : rest ps lv k = sumN (fun l => rest ps (lv ++ [l]) (k + 1)) (mostLv lv (pa ps k)) := by
  rw [rest_cut hp hk, Nat.mul_comm]
  unfold fac
  rw [← sumN_mul]
  exact sumN_congr fun m _ _ => (rest_snoc hp hl hk).symm
theorem rest_bell (hp : Ps ps) : ∀ (j : Nat) (lv : List Nat) (m : Nat), lv.length + j = ps.length → (∀ i, lv.getD i 0 ≤ m) → rest ps lv lv.length ≤ bell j m
  | 0, lv, m, hl, _ => by
    have e : lv.length = ps.length := by omega
    rw [e, rest_full]
    exact Nat.le_refl _
  | j + 1, lv, m, hl, hm => by
    rw [rest_sum hp rfl (by omega)]
    have hg : ∀ l M, l ≤ M → m ≤ M → ∀ i, (lv ++ [l]).getD i 0 ≤ M := fun l M h1 h2 i => by
      by_cases c : i < lv.length
      · rw [List.getD_eq_getElem?_getD, List.getElem?_append_left c, ← List.getD_eq_getElem?_getD]
        exact Nat.le_trans (hm i) h2
      · by_cases d : i = lv.length
        · rw [getD_snoc d.symm]; exact h1
        · rw [List.getD_eq_getElem?_getD, List.getElem?_eq_none (by rw [List.length_append]; show lv.length + 1 ≤ i; omega)]
          exact Nat.zero_le _
    have hl2 : ∀ l, (lv ++ [l]).length = lv.length + 1 := fun l => by rw [List.length_append]; rfl
    refine sumN_two (fun l h1 h2 => ?_) ?_ ?_
    · have := rest_bell hp j (lv ++ [l]) m (by rw [hl2]; omega) (hg l m h2 (Nat.le_refl _))
      rw [hl2] at this
      exact this
    · have := rest_bell hp j (lv ++ [m + 1]) (m + 1) (by rw [hl2]; omega) (hg _ _ (Nat.le_refl _) (by omega))
      rw [hl2] at this
      exact this
    · cases pa ps lv.length with
      | none => show 1 ≤ m + 1; omega
      | some p => exact Nat.add_le_add_right (hm p) 1
theorem bell7 : ∀ n, n < 8 → bell n 0 ≤ 877 := by decide
theorem tot_few (hp : Ps ps) (h7 : ps.length ≤ 7) : tot ps ≤ 877 := by
  have h1 := rest_bell hp ps.length [] 0 (by show 0 + _ = _; omega) fun i => by rw [List.getD_eq_getElem?_getD, List.getElem?_nil]; exact Nat.le_refl _
  have h2 := bell7 ps.length (by omega)
  rw [← rest_zero (lv := [])]
  exact Nat.le_trans h1 h2
theorem plans_few (hp : Ps ps) (h7 : ps.length ≤ 7) : ∀ k, k ≤ ps.length → (plansL ps k).length ≤ 877 := fun k hk => by
  have h1 := (plans_st hp k hk).2
  have h2 := tot_few hp h7
  have h3 : ∀ L : List (List Nat), L.length ≤ sumR ps k L := fun L => by
    induction L with
    | nil => exact Nat.le_refl _
    | cons a L ih =>
      show L.length + 1 ≤ rest ps a k + sumR ps k L
      have := rest_pos (ps := ps) (lv := a) (k := k)
      omega
  have := h3 (plansL ps k)
  omega
/-! the first plan, the last one -/
theorem ones_ok (hp : Ps ps) : Lv ps (List.replicate ps.length 1) := by
  refine ⟨List.length_replicate, fun i l o hl ho => ?_⟩
  have e : l = 1 := List.eq_of_mem_replicate (List.mem_of_getElem? hl)
  subst e
  refine ⟨Nat.le_refl _, ?_⟩
  cases o with
  | none => exact Nat.le_refl _
  | some p => exact Nat.le_add_left _ _
theorem ones_nmb : ∀ k, k ≤ ps.length → nmb ps (List.replicate ps.length 1) k = 0
  | 0, _ => rfl
  | k + 1, hk => by
    have e : (List.replicate ps.length 1).getD k 0 = 1 := by
      rw [List.getD_eq_getElem?_getD, List.getElem?_replicate, if_pos (by omega)]; rfl
    show nmb ps _ k + oth ps _ k * sumN (wy ps k) (_ - 1) = 0
    rw [e, ones_nmb k (by omega)]; rfl
theorem last_nmb (hp : Ps ps) (hv : ∀ i, i < ps.length → lv.getD i 0 = mostLv lv (pa ps i)) : ∀ k, k ≤ ps.length → nmb ps lv k + rest ps lv k = tot ps
  | 0, _ => by
    rw [rest_zero]
    show 0 + _ = _
    omega
  | k + 1, hk => by
    have h := hv k (by omega)
    have h1 : 1 ≤ lv.getD k 0 := by rw [h]; exact most_pos
    rw [nmb_rest hp (by omega) h1, ← last_nmb hp hv k (by omega), rest_cut hp (by omega), Nat.mul_comm (fac ps lv k), h]
    rfl
theorem last_is (hp : Ps ps) (hv : ∀ i, i < ps.length → lv.getD i 0 = mostLv lv (pa ps i)) : nmb ps lv ps.length = tot ps - 1 := by
  have := last_nmb hp hv ps.length (Nat.le_refl _)
  rw [rest_full] at this
  omega
/-! what is found for a number -/
theorem oth_div (hp : Ps ps) (hk : k < ps.length) : rest ps lv k / sumN (wy ps k) (mostLv lv (pa ps k)) = oth ps lv k := by
  rw [rest_cut hp hk]
  exact Nat.mul_div_cancel_left _ fac_pos
end
/-! rows -/
def fct : Nat → Nat
  | 0 => 1
  | n + 1 => (n + 1) * fct n
theorem fct_pos : ∀ n, 1 ≤ fct n
  | 0 => Nat.le_refl _
  | n + 1 => Nat.mul_pos (Nat.succ_pos _) (fct_pos n)
def bal : Nat → Nat → Nat
  | 0, _ => 1
  | k + 1, l => sumN (bal k) (l + 1)
theorem bal_is : ∀ k l, fct k * fct (k + l + 1) * bal k l = (l + 1) * fct (2 * k + l)
  | 0, l => by
    show 1 * fct (0 + l + 1) * 1 = (l + 1) * fct (2 * 0 + l)
    have e1 : 0 + l + 1 = l + 1 := by omega
    have e2 : 2 * 0 + l = l := by omega
    rw [e1, e2, Nat.one_mul, Nat.mul_one]; rfl
  | k + 1, 0 => by
    have ih := bal_is k 1
    have e : bal (k + 1) 0 = bal k 1 := by show 0 + bal k 1 = _; omega
    have e1 : k + 1 + 0 + 1 = k + 1 + 1 := by omega
    have e2 : 2 * (k + 1) + 0 = 2 * k + 1 + 1 := by omega
    rw [e, e1, e2]
    have f1 : fct (k + 1) = (k + 1) * fct k := rfl
    have f2 : fct (2 * k + 1 + 1) = (2 * k + 1 + 1) * fct (2 * k + 1) := rfl
    generalize fct (k + 1 + 1) = A at *
    generalize fct (2 * k + 1) = B at *
    generalize bal k 1 = C at *
    rw [f1, f2]
    grind
  | k + 1, l + 1 => by
    have h1 := bal_is (k + 1) l
    have h2 := bal_is k (l + 2)
    have e : bal (k + 1) (l + 1) = bal (k + 1) l + bal k (l + 2) := rfl
    have e1 : k + 1 + (l + 1) + 1 = (k + l + 2) + 1 := by omega
    have e2 : k + 1 + l + 1 = k + l + 2 := by omega
    have e3 : k + (l + 2) + 1 = (k + l + 2) + 1 := by omega
    have e4 : 2 * (k + 1) + (l + 1) = (2 * k + l + 2) + 1 := by omega
    have e5 : 2 * (k + 1) + l = 2 * k + l + 2 := by omega
    have e6 : 2 * k + (l + 2) = 2 * k + l + 2 := by omega
    rw [e2, e5] at h1
    rw [e3, e6] at h2
    rw [e, e1, e4]
    have f1 : fct (k + 1) = (k + 1) * fct k := rfl
    have f2 : fct ((k + l + 2) + 1) = (k + l + 2 + 1) * fct (k + l + 2) := rfl
    have f3 : fct ((2 * k + l + 2) + 1) = (2 * k + l + 2 + 1) * fct (2 * k + l + 2) := rfl
    rw [f2] at h2
    rw [f3, f2]
    rw [f1] at h1 ⊢
    generalize fct (k + l + 2) = A at *
    generalize fct (2 * k + l + 2) = B at *
    generalize bal (k + 1) l = C at *
    generalize bal k (l + 2) = D at *
    generalize fct k = F at *
    grind
def brk : Nat → Nat
  | 0 => 1
  | m + 1 => brk m * 2 * (2 * m + 1) / (m + 2)
theorem brk_is : ∀ m, fct m * fct (m + 1) * brk m = fct (2 * m)
  | 0 => rfl
  | m + 1 => by
    have ih := brk_is m
    have e2 : 2 * (m + 1) = 2 * m + 1 + 1 := by omega
    rw [e2]
    have f1 : fct (m + 1) = (m + 1) * fct m := rfl
    have f2 : fct (m + 1 + 1) = (m + 1 + 1) * ((m + 1) * fct m) := rfl
    have f3 : fct (2 * m + 1 + 1) = (2 * m + 1 + 1) * ((2 * m + 1) * fct (2 * m)) := rfl
    -- the next one, times m + 2
    have hp : 1 ≤ fct m := fct_pos m
    have hd : (m + 2) ∣ brk m * 2 * (2 * m + 1) := by
      -- C(m+1) is whole: by the ballot numbers
      have hb := bal_is m 1
      have e3 : m + 1 + 1 = m + 2 := by omega
      refine ⟨bal m 1, ?_⟩
      have f4 : fct (m + 1 + 1) = (m + 2) * ((m + 1) * fct m) := rfl
      have f5 : fct (2 * m + 1) = (2 * m + 1) * fct (2 * m) := rfl
      rw [f4, f5] at hb
      rw [f1] at ih
      refine Nat.eq_of_mul_eq_mul_left (n := fct m * ((m + 1) * fct m)) (Nat.mul_pos hp (Nat.mul_pos (Nat.succ_pos _) hp)) ?_
      generalize fct m = F at *
      generalize fct (2 * m) = B at *
      generalize bal m 1 = D at *
      generalize brk m = C at *
      grind
    have hq : (m + 2) * brk (m + 1) = brk m * 2 * (2 * m + 1) := Nat.mul_div_cancel' hd
    rw [f2, f3, f1]
    rw [f1] at ih
    generalize fct m = F at *
    generalize fct (2 * m) = B at *
    generalize brk m = C at *
    generalize brk (m + 1) = E at *
    grind
theorem brk_bal (n : Nat) : brk (n + 1) = bal n 1 := by
  have h1 := brk_is (n + 1)
  have h2 := bal_is n 1
  have e2 : 2 * (n + 1) = 2 * n + 1 + 1 := by omega
  rw [e2] at h1
  have f1 : fct (n + 1) = (n + 1) * fct n := rfl
  have f3 : fct (2 * n + 1 + 1) = (2 * n + 1 + 1) * fct (2 * n + 1) := rfl
  rw [f1, f3] at h1
  have p1 := fct_pos n
  have p2 := fct_pos (n + 1 + 1)
  refine Nat.eq_of_mul_eq_mul_left (n := (n + 1) * fct n * fct (n + 1 + 1)) (Nat.mul_pos (Nat.mul_pos (Nat.succ_pos _) p1) p2) ?_
  rw [h1]
  generalize fct n = F at *
  generalize fct (n + 1 + 1) = G at *
  generalize fct (2 * n + 1) = B at *
  grind
def rowP (n : Nat) : List (Option Nat) := none :: (List.range (n - 1)).map some
theorem rowP_len {n : Nat} (h : 1 ≤ n) : (rowP n).length = n := by
  unfold rowP
  rw [List.length_cons, List.length_map, List.length_range]
  omega
theorem rowP_at {n q : Nat} (h : q + 1 < n) : (rowP n)[q + 1]? = some (some q) := by
  unfold rowP
  rw [List.getElem?_cons_succ, List.getElem?_map, List.getElem?_range (by omega)]; rfl
theorem rowP_ps {n : Nat} : Ps (rowP n) := fun i p h => by
  cases i with
  | zero => cases h
  | succ i =>
    unfold rowP at h
    rw [List.getElem?_cons_succ, List.getElem?_map] at h
    obtain ⟨x, hx, e⟩ := Option.map_eq_some_iff.mp h
    have := (List.getElem?_eq_some_iff.mp hx)
    obtain ⟨h1, h2⟩ := this
    rw [List.getElem_range] at h2
    cases e
    omega
theorem rowP_wy {n : Nat} (hn : 1 ≤ n) : ∀ j p l, p + j + 1 = n → wy (rowP n) p l = bal j l
  | 0, p, l, e => by
    rw [wy_eq rowP_ps (by rw [rowP_len hn]; omega)]
    refine prN_one fun c hc => if_neg fun z => ?_
    rw [rowP_len hn] at hc
    have h1 := kid_iff.mp z
    cases c with
    | zero => cases h1
    | succ c =>
      rw [rowP_at (by omega)] at h1
      cases h1
      omega
  | j + 1, p, l, e => by
    rw [wy_eq rowP_ps (by rw [rowP_len hn]; omega)]
    have e1 : prN (fun c => if kid (rowP n) p c = true then sumN (wy (rowP n) c) (l + 1) else 1) (rowP n).length = prN (fun c => if c = p + 1 then sumN (wy (rowP n) (p + 1)) (l + 1) else 1) (rowP n).length := by
      refine prN_congr fun c hc => ?_
      rw [rowP_len hn] at hc
      have kf : kid (rowP n) p c = true ↔ c = p + 1 := by
        rw [kid_iff]
        cases c with
        | zero => exact ⟨fun z => (by cases z), fun z => (by omega)⟩
        | succ c =>
          rw [rowP_at (by omega)]
          exact ⟨fun z => (by cases z; rfl), fun z => (by rw [show c = p from by omega])⟩
      by_cases c1 : c = p + 1
      · rw [if_pos (kf.mpr c1), if_pos c1, c1]
      · rw [if_neg fun z => c1 (kf.mp z), if_neg c1]
    rw [e1, prN_single (by rw [rowP_len hn]; omega)]
    show _ = sumN (bal j) (l + 1)
    exact sumN_congr fun m _ _ => rowP_wy hn j (p + 1) m (by omega)
theorem rowP_tot {n : Nat} (hn : 1 ≤ n) : tot (rowP n) = brk n := by
  have e1 : tot (rowP n) = prN (fun q => if q = 0 then wy (rowP n) 0 1 else 1) (rowP n).length := by
    refine prN_congr fun q hq => ?_
    rw [rowP_len hn] at hq
    cases q with
    | zero => exact (if_pos (show (rowP n)[0]? = some none from rfl)).trans (if_pos rfl).symm
    | succ q => exact (if_neg (by rw [rowP_at hq]; exact fun z => nomatch z)).trans (if_neg (by omega)).symm
  rw [e1, prN_single (by rw [rowP_len hn]; omega), rowP_wy hn (n - 1) 0 1 (by omega), ← brk_bal]
  rw [show n - 1 + 1 = n from by omega]
theorem brk_small : ∀ m, m ≤ 60 → brk m < 2 ^ 200 := by decide
end Ck
namespace Cn
open PySem PySem.Spec PyProof.Rows L2 Ck
/-! lists of numbers in a list, that may be changed -/
structure RowsL (H0 H : Hp) (g : Nat → List Nat) (n : Nat) (us : List V) : Prop where
  len : us.length = n
  at_ : ∀ i, i < n → ∃ r, us[i]? = some (.ref r) ∧ H r = some (.lst ((g i).map vn)) ∧ H0 r = none
  inj : ∀ (i j : Nat) (r : Addr), us[i]? = some (.ref r) → us[j]? = some (.ref r) → i = j
theorem rowsL0 {H0 H : Hp} {g : Nat → List Nat} : RowsL H0 H g 0 [] := ⟨rfl, fun i h => absurd h (Nat.not_lt_zero _), fun i j r h => by rw [List.getElem?_nil] at h; cases h⟩
theorem rowsLsame {H0 H H' : Hp} {g : Nat → List Nat} {n : Nat} {us : List V} (s : Same H H') (h : RowsL H0 H g n us) : RowsL H0 H' g n us := ⟨h.len, fun i hi => by
  obtain ⟨r, h1, h2, h3⟩ := h.at_ i hi
  exact ⟨r, h1, s _ _ h2, h3⟩, h.inj⟩
theorem rowsLadd {H0 H : Hp} {g : Nat → List Nat} {n : Nat} {us : List V} {r : Addr} (h : RowsL H0 H g n us) (hr : H r = some (.lst ((g n).map vn))) (h0 : H0 r = none) (new : ∀ i : Nat, us[i]? ≠ some (V.ref r)) : RowsL H0 H g (n + 1) (us ++ [.ref r]) := by
  refine ⟨by rw [List.length_append, h.len]; rfl, fun i hi => ?_, fun i j q h1 h2 => ?_⟩
  · by_cases c : i < n
    · obtain ⟨q, h1, h2⟩ := h.at_ i c
      exact ⟨q, by rw [List.getElem?_append_left (by rw [h.len]; exact c)]; exact h1, h2⟩
    · have e : i = n := by omega
      subst e
      exact ⟨r, by rw [List.getElem?_append_right (by rw [h.len]; exact Nat.le_refl _), h.len, Nat.sub_self]; rfl, hr, h0⟩
  · have key : ∀ i, (us ++ [V.ref r])[i]? = some (.ref q) → (i < n ∧ us[i]? = some (.ref q)) ∨ (i = n ∧ q = r) := fun i hi => by
      by_cases c : i < n
      · rw [List.getElem?_append_left (by rw [h.len]; exact c)] at hi
        exact .inl ⟨c, hi⟩
      · rw [List.getElem?_append_right (by rw [h.len]; omega), h.len] at hi
        have c2 : i - n = 0 := by
          have := (List.getElem?_eq_some_iff.mp hi).1
          simp at this
          omega
        rw [c2] at hi
        cases hi
        exact .inr ⟨by omega, rfl⟩
    rcases key i h1 with ⟨a1, a2⟩ | ⟨a1, a2⟩ <;> rcases key j h2 with ⟨b1, b2⟩ | ⟨b1, b2⟩
    · exact h.inj i j q a2 b2
    · rw [b2] at a2; exact absurd a2 (new i)
    · rw [a2] at b2; exact absurd b2 (new j)
    · omega
theorem rowsLupd {H0 H : Hp} {g : Nat → List Nat} {n : Nat} {us : List V} {D : Addr} {o : HO} (h : RowsL H0 H g n us) (ne : ∀ i : Nat, us[i]? ≠ some (V.ref D)) : RowsL H0 (upd H D o) g n us := ⟨h.len, fun i hi => by
  obtain ⟨r, h1, h2, h3⟩ := h.at_ i hi
  exact ⟨r, h1, by rw [upd_ne fun z => ne i (by rw [← z]; exact h1)]; exact h2, h3⟩, h.inj⟩
theorem rowsLset {H0 H : Hp} {g g' : Nat → List Nat} {n k : Nat} {us : List V} {r : Addr} (h : RowsL H0 H g n us) (hk : us[k]? = some (.ref r)) (e : ∀ i, i < n → i ≠ k → g' i = g i) : RowsL H0 (upd H r (.lst ((g' k).map vn))) g' n us := ⟨h.len, fun i hi => by
  obtain ⟨q, h1, h2, h3⟩ := h.at_ i hi
  by_cases c : i = k
  · subst c
    have e1 : q = r := by rw [h1] at hk; exact (V.ref.inj (Option.some.inj hk))
    subst e1
    exact ⟨q, h1, upd_same, h3⟩
  · refine ⟨q, h1, ?_, h3⟩
    rw [upd_ne fun z => c (h.inj i k r (by rw [← z]; exact h1) hk), e i hi c]
    exact h2, h.inj⟩
theorem rowsL_ne {H0 H : Hp} {g : Nat → List Nat} {n : Nat} {us : List V} {a : Addr} {o : HO} (h : RowsL H0 H g n us) (ha : H0 a = some o) (i : Nat) : us[i]? ≠ some (V.ref a) := fun z => by
  have hi : i < n := by rw [← h.len]; exact (List.getElem?_eq_some_iff.mp z).1
  obtain ⟨q, h1, h2, h3⟩ := h.at_ i hi
  rw [z] at h1
  cases h1
  rw [ha] at h3
  cases h3
theorem rowsL_neD {H0 H : Hp} {g : Nat → List Nat} {n : Nat} {us xs : List V} {D : Addr} (h : RowsL H0 H g n us) (hD : H D = some (.lst xs)) {q : Addr} (hx : xs[0]? = some (.ref q)) (i : Nat) : us[i]? ≠ some (V.ref D) := fun z => by
  have hi : i < n := by rw [← h.len]; exact (List.getElem?_eq_some_iff.mp z).1
  obtain ⟨q, h1, h2, h3⟩ := h.at_ i hi
  rw [z] at h1
  cases h1
  rw [hD] at h2
  cases h2
  rw [List.getElem?_map] at hx
  obtain ⟨m, _, e⟩ := Option.map_eq_some_iff.mp hx
  cases e
/-! numbers of ways -/
def dep (ps : List (Option Nat)) (i : Nat) : Nat := (road ps i).length
theorem dep_pos {ps : List (Option Nat)} {i : Nat} (hp : Ps ps) (hi : i < ps.length) : 1 ≤ dep ps i := List.length_pos_iff.mpr (road_ne hp hi)
theorem dep_kid {ps : List (Option Nat)} {i p : Nat} (hp : Ps ps) (h : ps[i]? = some (some p)) : dep ps i = dep ps p + 1 := by
  unfold dep
  rw [road_some hp h, List.length_append]; rfl
theorem dep_root {ps : List (Option Nat)} {i : Nat} (h : ps[i]? = some none) : dep ps i = 1 := by
  unfold dep
  rw [road_none h]; rfl
theorem dep_le {ps : List (Option Nat)} {i : Nat} (hp : Ps ps) (hi : i < ps.length) : dep ps i ≤ i + 1 := road_len hp i hi
/-- the row of i with its first m entries -/
def wpart (ps : List (Option Nat)) (i m : Nat) : List Nat := (List.range (dep ps i + 1)).map fun t => if t = 0 ∨ m < t then 0 else wy ps i t
abbrev wrow (ps : List (Option Nat)) (i : Nat) : List Nat := wpart ps i (dep ps i)
theorem wpart_len {ps : List (Option Nat)} {i m : Nat} : (wpart ps i m).length = dep ps i + 1 := by
  unfold wpart
  rw [List.length_map, List.length_range]
theorem wrow_at {ps : List (Option Nat)} {i m : Nat} (h1 : 1 ≤ m) (h2 : m ≤ dep ps i) : (wrow ps i)[m]? = some (wy ps i m) := by
  unfold wrow wpart
  rw [List.getElem?_map, List.getElem?_range (by omega)]
  show some (if m = 0 ∨ dep ps i < m then 0 else wy ps i m) = _
  rw [if_neg (by omega)]
theorem wpart_zero {ps : List (Option Nat)} {i : Nat} : wpart ps i 0 = List.replicate (dep ps i + 1) 0 := by
  unfold wpart
  refine List.ext_getElem? fun t => ?_
  rw [List.getElem?_map, List.getElem?_replicate]
  by_cases c : t < dep ps i + 1
  · rw [List.getElem?_range c, if_pos c]
    show some (if t = 0 ∨ 0 < t then 0 else wy ps i t) = _
    rw [if_pos (by omega)]
  · rw [List.getElem?_eq_none (by rw [List.length_range]; omega), if_neg c]; rfl
theorem wpart_set {ps : List (Option Nat)} {i m : Nat} (h : m + 1 ≤ dep ps i) : (wpart ps i m).set (m + 1) (wy ps i (m + 1)) = wpart ps i (m + 1) := by
  refine List.ext_getElem? fun t => ?_
  rw [List.getElem?_set]
  by_cases c : m + 1 = t
  · subst c
    rw [if_pos rfl, if_pos (by rw [wpart_len]; omega)]
    unfold wpart
    rw [List.getElem?_map, List.getElem?_range (by omega)]
    show _ = some (if m + 1 = 0 ∨ m + 1 < m + 1 then 0 else wy ps i (m + 1))
    rw [if_neg (by omega)]
  · rw [if_neg c]
    unfold wpart
    rw [List.getElem?_map, List.getElem?_map]
    by_cases d : t < dep ps i + 1
    · rw [List.getElem?_range d]
      show some (if t = 0 ∨ m < t then 0 else wy ps i t) = some (if t = 0 ∨ m + 1 < t then 0 else wy ps i t)
      by_cases e : t = 0 ∨ m < t
      · rw [if_pos e, if_pos (by omega)]
      · rw [if_neg e, if_neg (by omega)]
    · rw [List.getElem?_eq_none (by rw [List.length_range]; omega)]; rfl
/-- the rows where the places behind p are done, and p's own first m entries -/
def gRow (ps : List (Option Nat)) (p m q : Nat) : List Nat := if q = p then wpart ps p m else if p < q then wrow ps q else wpart ps q 0
/-- the rows where the last j places are done -/
def hRow (ps : List (Option Nat)) (j q : Nat) : List Nat := if ps.length - j ≤ q then wrow ps q else wpart ps q 0
theorem gRow_start {ps : List (Option Nat)} {j q : Nat} (hj : j < ps.length) : gRow ps (ps.length - 1 - j) 0 q = hRow ps j q := by
  unfold gRow hRow
  by_cases c : q = ps.length - 1 - j
  · rw [if_pos c, if_neg (by omega), c]
  · rw [if_neg c]
    by_cases d : ps.length - 1 - j < q
    · rw [if_pos d, if_pos (by omega)]
    · rw [if_neg d, if_neg (by omega)]
theorem gRow_end {ps : List (Option Nat)} {j q : Nat} (hj : j < ps.length) : gRow ps (ps.length - 1 - j) (dep ps (ps.length - 1 - j)) q = hRow ps (j + 1) q := by
  unfold gRow hRow
  by_cases c : q = ps.length - 1 - j
  · rw [if_pos c, if_pos (by omega), c]
  · rw [if_neg c]
    by_cases d : ps.length - 1 - j < q
    · rw [if_pos d, if_pos (by omega)]
    · rw [if_neg d, if_neg (by omega)]
/-! products over a list -/
def prL (f : Nat → Nat) : List Nat → Nat
  | [] => 1
  | x :: xs => f x * prL f xs
theorem prL_snoc {f : Nat → Nat} {x : Nat} : ∀ {xs : List Nat}, prL f (xs ++ [x]) = prL f xs * f x
  | [] => by show f x * 1 = 1 * f x; omega
  | y :: xs => by
    show f y * prL f (xs ++ [x]) = f y * prL f xs * f x
    rw [prL_snoc, Nat.mul_assoc]
theorem prL_filter {f : Nat → Nat} {c : Nat → Bool} : ∀ n, prL f ((List.range n).filter c) = prN (fun q => if c q = true then f q else 1) n
  | 0 => rfl
  | n + 1 => by
    rw [List.range_succ, List.filter_append]
    show _ = prN _ n * (if c n = true then f n else 1)
    rw [← prL_filter n]
    by_cases h : c n = true
    · rw [if_pos h, List.filter_cons_of_pos h]
      exact prL_snoc
    · rw [if_neg h, List.filter_cons_of_neg h, Nat.mul_one]
      show prL f (_ ++ []) = _
      rw [List.append_nil]
theorem prL_take {f : Nat → Nat} (h : ∀ x, 1 ≤ f x) : ∀ (xs : List Nat) (j : Nat), prL f (xs.take j) ≤ prL f xs
  | [], j => by rw [List.take_nil]; exact Nat.le_refl _
  | x :: xs, 0 => by
    have h1 : ∀ ys, 1 ≤ prL f ys := fun ys => by
      induction ys with
      | nil => exact Nat.le_refl _
      | cons y ys ih => exact Nat.mul_pos (h y) ih
    exact h1 _
  | x :: xs, j + 1 => Nat.mul_le_mul_left _ (prL_take h xs j)
def kidsL (ps : List (Option Nat)) (p : Nat) : List Nat := (List.range ps.length).filter fun c => kid ps p c
theorem kids_wy {ps : List (Option Nat)} {p l : Nat} (hp : Ps ps) (h : p < ps.length) : prL (fun c => sumN (wy ps c) (l + 1)) (kidsL ps p) = wy ps p l := by
  rw [wy_eq hp h]
  exact prL_filter _
theorem sum_cut {f : Nat → Nat} {xs : List Nat} : ∀ {b : Nat}, (∀ m, 1 ≤ m → m ≤ b → xs[m]? = some (f m)) → ((xs.drop 1).take b).sum = sumN f b
  | 0, _ => rfl
  | b + 1, h => by
    rw [List.take_add_one, List.sum_append, sum_cut fun m h1 h2 => h m h1 (by omega), List.getElem?_drop, show 1 + b = b + 1 from by omega, h (b + 1) (by omega) (Nat.le_refl _)]
    show sumN f b + (f (b + 1) + 0) = sumN f b + f (b + 1)
    omega
theorem cutFrom1 (xs : List V) (n : Nat) : cutV xs (some 1) (some (n : Int)) = (xs.drop 1).take (n - 1) := by
  unfold cutV
  rw [show (some (1 : Int)) = some ((1 : Nat) : Int) from rfl, HT.sIx_nat, HT.sIx_nat]
  by_cases h : 1 ≤ xs.length
  · rw [Nat.min_eq_left h]
    by_cases c : n ≤ xs.length
    · rw [Nat.min_eq_left c]
    · rw [Nat.min_eq_right (by omega), List.take_of_length_le (by rw [List.length_drop]; exact Nat.le_refl _), List.take_of_length_le (by rw [List.length_drop]; omega)]
  · have e : xs = [] := List.eq_nil_of_length_eq_zero (by omega)
    subst e
    simp
theorem sumVn (ns : List Nat) : (ns.map fun n => ((n : Nat) : Int)).sum = ((ns.sum : Nat) : Int) := by
  induction ns with
  | nil => rfl
  | cons n ns ih =>
    rw [List.map_cons, List.sum_cons, ih, List.sum_cons]
    omega
theorem natLog {n k : Nat} (h : n ≤ 2 ^ k) : ((n : Nat) : Int).natAbs < 2 ^ (k + 1) := by
  rw [Int.natAbs_natCast, Nat.pow_succ]
  have : 0 < 2 ^ k := Nat.pow_pos (by decide)
  omega
theorem sum420 {f : Nat → Nat} {b : Nat} (hb : b ≤ 64) (h : ∀ m, 1 ≤ m → m ≤ b → f m ≤ 2 ^ 420) : sumN f b ≤ 2 ^ 430 := by
  refine Nat.le_trans (sumN_bound h) ?_
  have e : (2 : Nat) ^ 430 = 1024 * 2 ^ 420 := by rw [show (1024 : Nat) = 2 ^ 10 from by decide, ← Nat.pow_add]
  rw [e]
  exact Nat.mul_le_mul_right _ (by omega)
theorem wideMul {a b : Nat} {x y : Nat} (ha : a ≤ 2 ^ x) (hb : b ≤ 2 ^ y) (h : x + y ≤ 900000) : CMulW ((a : Nat) : Int) ((b : Nat) : Int) := wide_mul (natLog ha) (natLog hb) (by omega) (by omega) (by omega)
theorem wideDiv {a b : Nat} {y : Nat} (h0 : 1 ≤ b) (hb : b ≤ 2 ^ y) (h : y ≤ 8000) : CDivW ((a : Nat) : Int) ((b : Nat) : Int) := by
  refine ⟨by omega, ?_⟩
  have := PySem.Flt.log2_lt_of (k := y + 1) (by omega) (natLog hb)
  omega
section
variable {X : Cx}
theorem ip_mulW : PIp X .Mult (fun x y H Q => ∃ i j, x = .int i ∧ y = .int j ∧ CMulW i j ∧ Q (.int (i * j)) H) := by
  intro pins s σ H x y v u Q I r1 r2 h
  obtain ⟨i, j, e1, e2, hc, q⟩ := h
  subst e1; subst e2
  obtain ⟨t, rfl⟩ := r1
  obtain ⟨t', rfl⟩ := r2
  exact imul_int ⟨.int _, H, I.tok _, ⟨_, rfl⟩, q⟩ hc.ok
end
theorem ixSq {n k : Nat} (h : k < n) : seqIndex? ((k : Nat) : Int) n = some k := (ixN_seq (ixNat h)).1
end Cn
namespace Cn
open PySem PySem.Spec PyProof.Rows L2 Ck
section
variable {P : Program} {w : World} {K : PySem.W.Frag} {mg : Str → Option Value} {base : Heap} {C : Addr}
def spWays (C : Addr) : Sp := fun vs H Q _ => ∃ (a : Addr) (f : Fo), vs = [.ref a] ∧ FoAt C H a f ∧ Ps f.ps ∧ f.ps.length ≤ 60 ∧
  ∀ r us H', Same H H' → H' r = some (.lst us) → RowsL H H' (wrow f.ps) f.ps.length us → Q (.ref r) H'
def nWays : List Str := ["forest", "depths", "found", "place", "children", "level", "many", "child", "depth", "parent"]
theorem scWays : FnScope nWays ["forest"] (defScope sWays) := ⟨rfl, rfl, rfl, by decide +kernel, rfl, by decide +kernel, by decide +kernel⟩
theorem dWays (B : Defs K mg C) : Def P w K mg base "_ways" 5 ["forest"] (spWays C) := by
  obtain ⟨fW, fdW, GW, gW, kW, bW⟩ := dWay (P := P) (w := w) (base := base) B
  have N := B.N
  have T := B.T
  have nd := scWays.nd
  refine def_of B.wa fun f fd F => ?_
  refine F.ok scWays (fun vs H Q E h => ?_) (fun cdv A outer s H vs Q E hr h => ?_)
  · obtain ⟨a, f, rfl, _⟩ := h
    rfl
  · obtain ⟨a, fo, rfl, hF, hp, h60, k⟩ := h
    refine ⟨_, pss_cons (ps_setLc (i := 1) (own := [("place", 3)]) (g := gName 3) (tt := tYes) (te := tCB (rLenQ K) (tCons (tCall (spWay C) [] (fun _ _ _ => False) (tCons (tVar 0) (tCons (tVar 3) tNil))) tNil)) rfl nd rfl rfl (sw_true rfl rfl rfl (by decide +kernel))
        (pi_range1 (by rfl) N.range (pa_cons (pe_callB call_len_seq (by rfl) N.is.len PySem.boot_len (pa_cons (pe_fld (pv 0) rfl) pa_nil)) pa_nil))
        (blkOk_by (N := nWays) (sc := defScope sWays) (by decide +kernel)) (fun _ _ _ _ _ => pg_name (i := 3) nd rfl (Or.inl rfl)) (fun _ _ _ _ _ => pts_nil)
        (fun _ _ _ _ _ => pe_callB (r := rLenQ K) len_q (by rfl) N.is.len PySem.boot_len (pa_cons (pe_call GW hr (by rfl) gW kW bW .nil pass0 (pa_cons (pv 0) (pa_cons (pv 3) pa_nil))) pa_nil)))
      (pss_cons (ps_setLc (i := 2) (own := [("depth", 8)]) (g := gName 8) (tt := tYes) rfl nd rfl rfl (sw_true rfl rfl rfl (by decide +kernel))
        (pi_list (pv 1))
        (blkOk_by (N := nWays) (sc := defScope sWays) (by decide +kernel)) (fun _ _ _ _ _ => pg_name (i := 8) nd rfl (Or.inl rfl)) (fun _ _ _ _ _ => pts_nil)
        (fun _ _ _ _ _ => pe_op op_rep (pe_lst (pa_cons pe_int pa_nil)) (pe_op op_add (pv 8) pe_int)))
      (pss_cons (ps_for PassesOwn.never rfl (pi_revR (by rfl) N.rev (prg_1 (by rfl) N.range (pe_callB call_len_seq (by rfl) N.is.len PySem.boot_len (pa_cons (pv 1) pa_nil)))) (pg_name (i := 3) nd rfl (Or.inr rfl))
        (pss_cons (ps_setLc (i := 4) (own := [("child", 7), ("parent", 9)]) (g := gTup K 2 (gCons (gName 7) (gCons (gName 9) gNil))) (tt := tTest (tOp rEq (tVar 9) (tVar 3))) rfl nd rfl rfl (sw_true rfl rfl rfl (by decide +kernel))
          (pi_enumT (by rfl) N.enum (pa_cons (pe_fld (pv 0) rfl) pa_nil))
          (blkOk_by (N := nWays) (sc := defScope sWays) (by decide +kernel)) (fun _ _ _ _ _ => pg_tup rfl (pgs_cons (pg_name (i := 7) nd rfl (Or.inl rfl)) (pgs_cons (pg_name (i := 9) nd rfl (Or.inl rfl)) pgs_nil))) (fun _ _ _ _ _ => pts_one (pt_cmpR op_eq (pv 9) (pv 3) (nomark _)))
          (fun _ _ _ _ _ => pv 7))
        (pss_one (ps_for PassesOwn.never rfl (pi_range2 (by rfl) N.range (pa_cons pe_int (pa_cons (pe_op op_add (pe_ix ix_list (pv 1) (pv 3) (fun _ _ => rfl)) pe_int) pa_nil))) (pg_name (i := 5) nd rfl (Or.inl rfl))
          (pss_cons (ps_set (i := 6) nd rfl (Or.inl rfl) pe_int)
          (pss_cons (ps_for PassesOwn.never rfl (pi_list (pv 4)) (pg_name (i := 7) nd rfl (Or.inl rfl))
            (pss_one (ps_aug (i := 6) nd rfl (.inl rfl) (pe_callB (r := rSum K) (cr_sum rfl) (by rfl) B.zSum (by decide +kernel) (pa_cons (pe_slice sl_list (pe_ix ix_list (pv 2) (pv 7) (fun _ _ => rfl)) (po_some pe_int) (po_some (pe_op op_add (pv 5) pe_int))) pa_nil)) ip_mulW)))
          (pss_one (ps_asg (pv 6) (pg_sub (pe_ix ix_list (pv 2) (pv 3) (fun _ _ => rfl)) (pv 5) set_list)))))))))
      (pss_one (ps_ret (pv 2))))), ?_⟩
    obtain ⟨dx, ap, ab, aa, h0, h1, h2, h3⟩ := id hF
    refine ⟨_, rfl, a, C, dx, _, _, rfl, h0, T.cl, T.nP, fP, ap, _, rfl, .inr (tpL h1), ((fo.ps.map vp).length : Int), rfl, by omega, by rw [List.length_map]; omega, fun D nD => ?_⟩
    rw [List.length_map, Int.toNat_natCast]
    refine lc_range (lo := 0) (n := fo.ps.length) (fun i H' => Same H H' ∧ H' D = some (.lst (((List.range i).map (dep fo.ps)).map vn))) ⟨smUpd nD, upd_same⟩ ?_ ?_
    · rintro i H' hi ⟨sm, hD⟩
      refine ⟨rfl, _, rfl, _, rfl, a, fo, i, ?_, foAt_same sm hF, hp, h60, hi, fun b H2 s2 hb => ⟨b, _, rfl, .inr (tdL hb), ?_⟩⟩
      · show [V.ref a, V.int (0 + (i : Int))] = [V.ref a, V.int (i : Int)]
        rw [Int.zero_add]
      refine ⟨_, s2 _ _ hD, by rw [List.length_map, List.length_map, List.length_range]; exact small1000 (by omega), smOver nD (sm.trans s2), ?_⟩
      rw [upd_same, List.range_succ, List.map_append, List.map_append, List.length_map]
      rfl
    · rintro H1 ⟨s1, hD⟩
      have n1 : ∀ {r : Addr}, H1 r = none → H r = none := fun h => noneBack s1 h
      have F1 := foAt_same s1 hF
      obtain ⟨_, _, _, _, g0, g1, _, _⟩ := id F1
      refine ⟨_, rfl, D, rfl, ⟨_, .inl (.inl hD)⟩, fun D2 nD2 => ?_⟩
      refine lc_list (K := K) (a := D) (xs := ((List.range fo.ps.length).map (dep fo.ps)).map vn) (fun i H' => Same H1 H' ∧ ∃ us, H' D2 = some (.lst us) ∧ RowsL H1 H' (fun q => wpart fo.ps q 0) i us ∧ ∀ i : Nat, us[i]? ≠ some (V.ref D2)) ⟨smUpd nD2, [], upd_same, rowsL0, fun i z => by rw [List.getElem?_nil] at z; cases z⟩ (fun i H' _ z => .inl (.inl (z.1 _ _ hD))) ?_ ?_
      · rintro i x H' hx ⟨sm, us, hD2, hR, neD⟩
        obtain ⟨d, hd, rfl⟩ := vn_get hx
        have hi : i < fo.ps.length := by
          have := (List.getElem?_eq_some_iff.mp hd).1
          rwa [List.length_map, List.length_range] at this
        have ed : d = dep fo.ps i := by
          rw [List.getElem?_map, List.getElem?_range hi] at hd
          exact (Option.some.inj hd).symm
        subst ed
        have dl := dep_le hp hi
        refine ⟨rfl, by show 1 ≤ sizeLine; decide, fun l0 nl0 => ⟨_, rfl, _, _, rfl, rfl, l0, _, _, rfl, rfl, upd_same, by omega, by omega, Nat.le_of_lt (small1000 (by show 1 * _ ≤ 1000; omega)), fun r nr => ?_⟩⟩
        have S2 := smUpd (o := .lst [V.int 0]) nl0
        generalize upd H' l0 (.lst [V.int 0]) = H2 at S2 nr ⊢
        have e0 : (List.replicate (((dep fo.ps i : Nat) : Int) + 1).toNat [V.int 0]).flatten = (wpart fo.ps i 0).map vn := by
          rw [wpart_zero, List.map_replicate, show (((dep fo.ps i : Nat) : Int) + 1).toNat = dep fo.ps i + 1 from by omega]
          show _ = List.replicate _ (V.int 0)
          generalize dep fo.ps i + 1 = n
          induction n with
          | zero => rfl
          | succ n ih => rw [List.replicate_succ, List.flatten_cons, ih, List.replicate_succ]; rfl
        rw [e0]
        have S3 := S2.trans (smUpd (o := .lst ((wpart fo.ps i 0).map vn)) nr)
        have hr1 : upd H2 r (.lst ((wpart fo.ps i 0).map vn)) r = some (.lst ((wpart fo.ps i 0).map vn)) := upd_same
        have nr1 : H1 r = none := noneBack (sm.trans S2) nr
        have newr : ∀ i : Nat, us[i]? ≠ some (V.ref r) := fun j z => by
          have hj : j < i := by rw [← hR.len]; exact (List.getElem?_eq_some_iff.mp z).1
          obtain ⟨q, q1, q2, _⟩ := hR.at_ j hj
          rw [z] at q1
          cases q1
          rw [S2 _ _ q2] at nr
          cases nr
        have neR : r ≠ D2 := fun z => by rw [z, S2 _ _ hD2] at nr; cases nr
        generalize upd H2 r (.lst ((wpart fo.ps i 0).map vn)) = H3 at S3 hr1 ⊢
        have neD' : ∀ j : Nat, (us ++ [V.ref r])[j]? ≠ some (V.ref D2) := fun j z => by
          by_cases c : j < us.length
          · rw [List.getElem?_append_left c] at z
            exact neD j z
          · rw [List.getElem?_append_right (by omega)] at z
            have := List.mem_of_getElem? z
            rw [List.mem_singleton] at this
            cases this
            exact neR rfl
        exact ⟨us, S3 _ _ hD2, by rw [hR.len]; exact small1000 (by omega), smOver nD2 (sm.trans S3), _, upd_same, rowsLupd (rowsLadd (rowsLsame S3 hR) hr1 nr1 newr) neD', neD'⟩
      · rintro H2 ⟨s2, us, hD2, hR, neD⟩
        rw [List.length_map, List.length_map, List.length_range] at hR
        have R0 : RowsL H1 H2 (hRow fo.ps 0) fo.ps.length us := ⟨hR.len, fun i hi => by
          obtain ⟨r, q1, q2, q3⟩ := hR.at_ i hi
          refine ⟨r, q1, ?_, q3⟩
          rw [show hRow fo.ps 0 i = wpart fo.ps i 0 from if_neg (by omega)]
          exact q2, hR.inj⟩
        refine ⟨_, rfl, D, _, rfl, .inl (.inl (.inl (s2 _ _ hD))), _, rfl, by decide, by decide, by omega, by rw [List.length_map, List.length_map, List.length_range]; omega, ?_⟩
        have eln : (((((List.range fo.ps.length).map (dep fo.ps)).map vn).length : Nat) : Int) - 0 = ((fo.ps.length : Nat) : Int) := by rw [List.length_map, List.length_map, List.length_range]; omega
        rw [eln, Int.toNat_natCast]
        refine for_rangeC (fun j σ G => Same H1 G ∧ G D2 = some (.lst us) ∧ RowsL H1 G (hRow fo.ps j) fo.ps.length us ∧ ∃ t3 t4 t5 t6 t7 : Option V, σ = [some (.ref a), some (.ref D), some (.ref D2), t3, t4, t5, t6, t7, none, none]) ⟨s2, hD2, R0, _, _, _, _, _, rfl⟩ ?_ ?_
        · rintro j σ G hj ⟨sm, hG, hRG, t3, t4, t5, t6, t7, rfl⟩
          obtain ⟨pl, epl⟩ : ∃ pl, pl = fo.ps.length - 1 - j := ⟨_, rfl⟩
          have hpl : pl < fo.ps.length := by omega
          have ei : 0 + ((fo.ps.length : Nat) : Int) - 1 + ((j : Nat) : Int) * (-1) = ((pl : Nat) : Int) := by omega
          have dpl := dep_le hp hpl
          have R1 : RowsL H1 G (gRow fo.ps pl 0) fo.ps.length us := ⟨hRG.len, fun i hi => by
            obtain ⟨r, q1, q2, q3⟩ := hRG.at_ i hi
            refine ⟨r, q1, ?_, q3⟩
            rw [epl, gRow_start hj]
            exact q2, hRG.inj⟩
          show (fun x σ H D => _) _ _ _ _
          rw [ei]
          refine ⟨_, rfl, a, C, _, _, _, rfl, sm _ _ g0, T.cl, T.nP, fP, _, _, rfl, tpL (sm _ _ g1), fun Ch nCh => ?_⟩
          have neC : ∀ i : Nat, us[i]? ≠ some (V.ref Ch) := fun i z => by
            have hi : i < fo.ps.length := by rw [← R1.len]; exact (List.getElem?_eq_some_iff.mp z).1
            obtain ⟨q, q1, q2, _⟩ := R1.at_ i hi
            rw [z] at q1
            cases q1
            rw [q2] at nCh
            cases nCh
          refine lc_it (walk_enumT (xs := fo.ps.map vp)) (fun m G' => Same G G' ∧ G' Ch = some (.lst (((List.range m).filter fun c => kid fo.ps pl c).map vn))) ⟨smUpd nCh, upd_same⟩ (fun m G' _ z => tpL (z.1 _ _ (sm _ _ g1))) ?_ ?_
          · rintro m x G0 G1 hm ⟨sm2, hC⟩ ⟨T1, x1, y1, rfl, nT, rfl, e1, e2⟩
            cases e1
            obtain ⟨q, hq, rfl⟩ := vp_get (i := m) e2
            rw [List.length_map] at hm
            have eqq : decide (vp q = vn pl) = kid fo.ps pl m := by
              unfold kid
              rw [hq, Bool.eq_iff_iff, decide_eq_true_iff, decide_eq_true_iff]
              cases q with
              | none => exact ⟨fun z => (by cases z), fun z => (by cases z)⟩
              | some p => exact ⟨fun z => by have : p = pl := by have := V.int.inj z; omega
                                             rw [this], fun z => by cases z; rfl⟩
            have S2 := smUpd (o := .tup [.int (m : Nat), vp q]) nT
            have hT : upd G0 T1 (.tup [.int (m : Nat), vp q]) T1 = some (.tup [.int (m : Nat), vp q]) := upd_same
            have hC2 := S2 _ _ hC
            generalize upd G0 T1 (.tup [.int (m : Nat), vp q]) = G1 at S2 hT hC2 ⊢
            have et : (List.range (m + 1)).filter (fun c => kid fo.ps pl c) = (List.range m).filter (fun c => kid fo.ps pl c) ++ if kid fo.ps pl m = true then [m] else [] := by
              rw [List.range_succ, List.filter_append]
              by_cases c : kid fo.ps pl m = true
              · rw [if_pos c, List.filter_cons_of_pos c]; rfl
              · rw [if_neg c, List.filter_cons_of_neg c]; rfl
            have fl : ((List.range m).filter fun c => kid fo.ps pl c).length ≤ m := by
              have := List.length_filter_le (fun c => kid fo.ps pl c) (List.range m)
              rwa [List.length_range] at this
            refine ⟨T1, _, rfl, .inl (.inl hT), rfl, _, _, rfl, _, _, rfl, rfl, rfl, _, rfl, _, rfl, by cases q <;> rfl, _, rfl, ?_⟩
            rw [eqq]
            by_cases c : kid fo.ps pl m = true
            · refine ifT c ?_
              refine ⟨_, rfl, _, hC2, by rw [List.length_map]; exact small1000 (by omega), smOver nCh (sm2.trans S2), ?_⟩
              rw [et, if_pos c, upd_same, List.map_append]; rfl
            · refine ifF c ?_
              refine ⟨sm2.trans S2, ?_⟩
              rw [et, if_neg c, List.append_nil]
              exact hC2
          · rintro G1 ⟨sm1, hCh⟩
            rw [List.length_map] at hCh
            have hD1 : G1 D = _ := sm1 _ _ (sm _ _ hD)
            have hdp : ((List.range fo.ps.length).map (dep fo.ps))[pl]? = some (dep fo.ps pl) := by
              rw [List.getElem?_map, List.getElem?_range hpl]; rfl
            refine ⟨_, rfl, _, rfl, D, _, (pl : Int), _, rfl, rfl, .inl (.inl hD1), vn_ix hdp, _, _, rfl, rfl, 1, _, rfl, ⟨by decide, by decide, by omega, by omega⟩, ?_⟩
            rw [show (((dep fo.ps pl : Nat) : Int) + 1 - 1).toNat = dep fo.ps pl from by omega]
            refine for_range (lo := 1) (n := dep fo.ps pl) (fun l σ G' => Same H1 G' ∧ G' D2 = some (.lst us) ∧ RowsL H1 G' (gRow fo.ps pl l) fo.ps.length us ∧ G' Ch = some (.lst ((kidsL fo.ps pl).map vn)) ∧ ∃ t5 t6 t7 : Option V, σ = [some (.ref a), some (.ref D), some (.ref D2), some (vn pl), some (.ref Ch), t5, t6, t7, none, none]) ⟨sm.trans sm1, sm1 _ _ hG, rowsLsame sm1 R1, hCh, _, _, _, rfl⟩ ?_ ?_
            · rintro l σ G2 hl ⟨sm3, hG3, hR3, hCh3, t5, t6, t7, rfl⟩
              have elv : (1 : Int) + ((l : Nat) : Int) = (((l + 1 : Nat)) : Int) := by omega
              rw [elv]
              refine ⟨_, rfl, Ch, rfl, ⟨_, .inl (.inl hCh3)⟩, ?_⟩
              refine for_list (xs := (kidsL fo.ps pl).map vn) (fun j' σ G' => Same G2 G' ∧ ∃ t7 : Option V, σ = [some (.ref a), some (.ref D), some (.ref D2), some (vn pl), some (.ref Ch), some (vn (l + 1)), some (vn (prL (fun c => sumN (wy fo.ps c) (l + 1 + 1)) ((kidsL fo.ps pl).take j'))), t7, none, none]) ⟨Same.refl _, _, rfl⟩ (fun j' σ G' _ z => .inl (.inl (z.1 _ _ hCh3))) ?_ ?_
              · rintro j' x σ G3 hx ⟨sm4, t7, rfl⟩
                obtain ⟨c, hc, rfl⟩ := vn_get hx
                have hcm : c ∈ kidsL fo.ps pl := List.mem_of_getElem? hc
                unfold kidsL at hcm
                rw [List.mem_filter, List.mem_range] at hcm
                have hck := kid_iff.mp hcm.2
                have hcd := dep_kid hp hck
                have hcp := hp c pl hck
                obtain ⟨rc, q1, q2, _⟩ := hR3.at_ c hcm.1
                rw [show gRow fo.ps pl l c = wrow fo.ps c from by unfold gRow; rw [if_neg (by omega), if_pos hcp]] at q2
                refine ⟨_, rfl, _, rfl, _, rfl, D2, us, (c : Int), _, rfl, rfl, .inl (.inl (sm4 _ _ hG3)), atI_nat q1, 1, rfl, _, rfl, _, _, rfl, rfl, _, rfl, rc, _, rfl, .inl (.inl (sm4 _ _ q2)), fun sl nsl => ?_⟩
                have ec : cutV ((wrow fo.ps c).map vn) (some 1) (some (((l + 1 : Nat) : Int) + 2)) = ((((wrow fo.ps c).drop 1).take (l + 1 + 1)).map fun n => ((n : Nat) : Int)).map V.int := by
                  rw [show ((l + 1 : Nat) : Int) + 2 = ((l + 3 : Nat) : Int) from by omega, cutFrom1, ← List.map_drop, ← List.map_take, mapIV]; rfl
                rw [ec]
                have es : (((wrow fo.ps c).drop 1).take (l + 1 + 1)).sum = sumN (wy fo.ps c) (l + 1 + 1) := sum_cut fun m m1 m2 => wrow_at m1 (by omega)
                have b1 : sumN (wy fo.ps c) (l + 1 + 1) ≤ 2 ^ 430 := sum420 (by omega) fun m m1 m2 => wy_big hp h60 hcm.1 (by omega)
                have b2 : prL (fun c => sumN (wy fo.ps c) (l + 1 + 1)) ((kidsL fo.ps pl).take j') ≤ 2 ^ 420 := Nat.le_trans (prL_take (fun x => sumwy_pos (by omega)) _ _) (by rw [kids_wy hp hpl]; exact wy_big hp h60 hpl (by omega))
                refine ⟨sl, _, rfl, .inl (.inl upd_same), _, _, rfl, rfl, ?_, sm4.trans (smUpd nsl), some (vn c), ?_⟩
                · rw [sumVn, es]
                  exact wideMul b2 b1 (by omega)
                · rw [sumVn, es, List.take_add_one, hc]
                  show [_, _, _, _, _, _, some (V.int _), _, _, _] = [_, _, _, _, _, _, some (V.int ((prL _ (_ ++ [c]) : Nat) : Int)), _, _, _]
                  rw [prL_snoc, Int.natCast_mul]
              · rintro σ G3 ⟨sm4, t7, rfl⟩
                rw [List.length_map, List.take_length, kids_wy hp hpl]
                obtain ⟨rp, q1, q2, q3⟩ := hR3.at_ pl hpl
                have eg : gRow fo.ps pl l pl = wpart fo.ps pl l := by unfold gRow; rw [if_pos rfl]
                have eg1 : gRow fo.ps pl (l + 1) pl = wpart fo.ps pl (l + 1) := by unfold gRow; rw [if_pos rfl]
                rw [eg] at q2
                refine ⟨_, rfl, _, rfl, _, rfl, D2, us, (pl : Int), _, rfl, rfl, .inl (.inl (sm4 _ _ hG3)), atI_nat q1, _, rfl, rp, _, _, l + 1, rfl, rfl, sm4 _ _ q2, ixNat (by rw [List.length_map, wpart_len]; omega), ?_⟩
                have ew : ((wpart fo.ps pl l).map vn).set (l + 1) (vn (wy fo.ps pl (l + 1))) = (gRow fo.ps pl (l + 1) pl).map vn := by
                  rw [eg1, ← wpart_set (by omega), List.map_set]
                rw [ew]
                refine ⟨smOver q3 (sm3.trans sm4), ?_, rowsLset (rowsLsame sm4 hR3) q1 fun i hi ne => ?_, ?_, _, _, _, rfl⟩
                · rw [upd_ne fun z => neD pl (by rw [z]; exact q1)]; exact sm4 _ _ hG3
                · unfold gRow
                  rw [if_neg ne, if_neg ne]
                · rw [upd_ne fun z => neC pl (by rw [z]; exact q1)]; exact sm4 _ _ hCh3
            · rintro σ G' ⟨sm3, hG3, hR3, _, t5, t6, t7, rfl⟩
              refine ⟨sm3, hG3, ⟨hR3.len, fun i hi => ?_, hR3.inj⟩, _, _, _, _, _, rfl⟩
              obtain ⟨r, q1, q2, q3⟩ := hR3.at_ i hi
              refine ⟨r, q1, ?_, q3⟩
              rw [epl, gRow_end hj] at q2
              exact q2
        · rintro σ G ⟨sm, hG, hRG, t3, t4, t5, t6, t7, rfl⟩
          refine ⟨_, rfl, k D2 us G (s1.trans sm) hG ⟨hRG.len, fun i hi => ?_, hRG.inj⟩⟩
          obtain ⟨r, q1, q2, q3⟩ := hRG.at_ i hi
          refine ⟨r, q1, ?_, n1 q3⟩
          rw [show hRow fo.ps fo.ps.length i = wrow fo.ps i from if_pos (by omega)] at q2
          exact q2
/-! how many plans there are -/
def WaysV (H : Hp) (ps : List (Option Nat)) (v : V) : Prop := ∃ r us, v = .ref r ∧ H r = some (.lst us) ∧ us.length = ps.length ∧ ∀ i, i < ps.length → ∃ q, us[i]? = some (.ref q) ∧ H q = some (.lst ((wrow ps i).map vn))
theorem waysSame {H H' : Hp} {ps : List (Option Nat)} {v : V} (s : Same H H') (h : WaysV H ps v) : WaysV H' ps v := by
  obtain ⟨r, us, e, h1, h2, h3⟩ := h
  exact ⟨r, us, e, s _ _ h1, h2, fun i hi => by
    obtain ⟨q, q1, q2⟩ := h3 i hi
    exact ⟨q, q1, s _ _ q2⟩⟩
theorem waysOf {H0 H : Hp} {ps : List (Option Nat)} {r : Addr} {us : List V} (h : H r = some (.lst us)) (hR : RowsL H0 H (wrow ps) ps.length us) : WaysV H ps (.ref r) := ⟨r, us, rfl, h, hR.len, fun i hi => by
  obtain ⟨q, q1, q2, _⟩ := hR.at_ i hi
  exact ⟨q, q1, q2⟩⟩
def spTotal (C : Addr) : Sp := fun vs H Q _ => ∃ (a : Addr) (f : Fo) (v : V), vs = [.ref a, v] ∧ FoAt C H a f ∧ Ps f.ps ∧ f.ps.length ≤ 60 ∧ WaysV H f.ps v ∧ ∀ H', Same H H' → Q (vn (tot f.ps)) H'
def nTotal : List Str := ["forest", "ways", "many", "place", "parent"]
theorem scTotal : FnScope nTotal ["forest", "ways"] (defScope sTotal) := ⟨rfl, rfl, rfl, by decide +kernel, rfl, by decide +kernel, by decide +kernel⟩
def totTo (ps : List (Option Nat)) (i : Nat) : Nat := prN (fun q => if ps[q]? = some none then wy ps q 1 else 1) i
theorem totTo_le {ps : List (Option Nat)} {i : Nat} (h : i ≤ ps.length) : totTo ps i ≤ tot ps := prN_mono h fun q _ => by
  split
  · exact wy_pos
  · exact Nat.le_refl _
theorem dTotal (B : Defs K mg C) : Def P w K mg base "_total" 1 ["forest", "ways"] (spTotal C) := by
  have N := B.N
  have T := B.T
  have nd := scTotal.nd
  refine def_of B.tt fun f fd F => ?_
  refine F.ok scTotal (fun vs H Q E h => ?_) (fun cdv A outer s H vs Q E hr h => ?_)
  · obtain ⟨a, f, v, rfl, _⟩ := h
    rfl
  · obtain ⟨a, fo, v, rfl, hF, hp, h60, hW, k⟩ := h
    refine ⟨_, pss_cons (ps_set (i := 2) nd rfl (Or.inl rfl) pe_int)
      (pss_cons (ps_for PassesOwn.never rfl (pi_enumT (by rfl) N.enum (pa_cons (pe_fld (pv 0) rfl) pa_nil)) (pg_tup rfl (pgs_cons (pg_name (i := 3) nd rfl (Or.inl rfl)) (pgs_cons (pg_name (i := 4) nd rfl (Or.inl rfl)) pgs_nil)))
        (pss_one (ps_if (pt_cmpR op_isN (pv 4) pe_non (nomark _))
          (pss_one (ps_aug (i := 2) nd rfl (.inl rfl) (pe_ix ix_list (pe_ix ix_list (pv 1) (pv 3) (fun _ _ => rfl)) pe_int (fun _ _ => rfl)) ip_mulW)) pss_nil)))
      (pss_one (ps_ret (pv 2)))), ?_⟩
    obtain ⟨dx, ap, ab, aa, h0, h1, h2, h3⟩ := hF
    obtain ⟨r, us, rfl, hr0, hl, hR⟩ := hW
    refine ⟨_, rfl, a, C, dx, _, _, rfl, h0, T.cl, T.nP, fP, ap, _, rfl, tpL h1, ?_⟩
    refine for_it (walk_enumT (xs := fo.ps.map vp)) (fun i σ H' => Same H H' ∧ ∃ t3 t4 : Option V, σ = [some (.ref a), some (.ref r), some (vn (totTo fo.ps i)), t3, t4]) ⟨Same.refl _, _, _, rfl⟩ (fun i σ H' _ z => tpL (z.1 _ _ h1)) ?_ ?_
    · rintro i x σ H' H2 hi ⟨sm, t3, t4, rfl⟩ ⟨T1, x1, y1, rfl, nT, rfl, e1, e2⟩
      cases e1
      obtain ⟨q, hq, rfl⟩ := vp_get (i := i) e2
      rw [List.length_map] at hi
      refine ⟨T1, _, rfl, .inl (.inl upd_same), rfl, _, _, rfl, _, _, rfl, rfl, ?_⟩
      have sm2 := sm.trans (smUpd (o := .tup [.int (i : Nat), vp q]) nT)
      generalize upd H' T1 (.tup [.int (i : Nat), vp q]) = H2 at sm2 ⊢
      refine ⟨_, rfl, rfl, _, rfl, ?_⟩
      have et : totTo fo.ps (i + 1) = totTo fo.ps i * (if fo.ps[i]? = some none then wy fo.ps i 1 else 1) := rfl
      cases q with
      | none =>
        refine ifT (by decide) ?_
        obtain ⟨q, q1, q2⟩ := hR i hi
        have hd := dep_pos hp hi
        refine ⟨_, rfl, _, rfl, _, rfl, r, us, (i : Int), _, rfl, rfl, .inl (.inl (sm2 _ _ hr0)), atI_nat q1, q, _, (1 : Int), _, rfl, rfl, .inl (.inl (sm2 _ _ q2)), vn_ix (i := 1) (wrow_at (Nat.le_refl _) hd), _, _, rfl, rfl, ?_, sm2, some (vn i), some (vp none), ?_⟩
        · exact wideMul (Nat.le_trans (totTo_le (Nat.le_of_lt hi)) (tot_big hp h60)) (wy_big hp h60 hi (by omega)) (by omega)
        · rw [et, if_pos hq]
          show _ = [_, _, some (V.int ((totTo fo.ps i * wy fo.ps i 1 : Nat) : Int)), _, _]
          rw [Int.natCast_mul]; rfl
      | some m =>
        refine ifF (by rw [vp_ne]; decide) ?_
        refine ⟨sm2, some (vn i), some (vp (some m)), ?_⟩
        rw [et, if_neg (by rw [hq]; exact fun z => nomatch z), Nat.mul_one]; rfl
    · rintro σ H' ⟨sm, t3, t4, rfl⟩
      rw [List.length_map]
      exact ⟨_, rfl, k H' sm⟩
def spCountPlans (C : Addr) : Sp := fun vs H Q _ => ∃ (a : Addr) (f : Fo), vs = [.ref a] ∧ FoAt C H a f ∧ Ps f.ps ∧ f.ps.length ≤ 60 ∧ ∀ H', Same H H' → Q (vn (tot f.ps)) H'
def nCountPlans : List Str := ["forest"]
theorem scCountPlans : FnScope nCountPlans ["forest"] (defScope sCountPlans) := ⟨rfl, rfl, rfl, by decide +kernel, rfl, by decide +kernel, by decide +kernel⟩
theorem dCountPlans (B : Defs K mg C) : Def P w K mg base "count_plans" 6 ["forest"] (spCountPlans C) := by
  obtain ⟨fW, fdW, GW, gW, kW, bW⟩ := dWays (P := P) (w := w) (base := base) B
  obtain ⟨fT, fdT, GT, gT, kT, bT⟩ := dTotal (P := P) (w := w) (base := base) B
  refine def_of B.cp fun f fd F => ?_
  refine F.ok scCountPlans (fun vs H Q E h => ?_) (fun cdv A outer s H vs Q E hr h => ?_)
  · obtain ⟨a, f, rfl, _⟩ := h
    rfl
  · obtain ⟨a, fo, rfl, hF, hp, h60, k⟩ := h
    have hr1 : Room 1 (A.deeper (envOfC "count_plans" (defScope sCountPlans) s.heap.objs.size f cdv)) := Room.mono hr (by decide)
    refine ⟨_, pss_one (ps_ret (pe_call GT hr1 (by rfl) gT kT bT .nil pass0 (pa_cons (pv 0) (pa_cons (pe_call GW hr (by rfl) gW kW bW .nil pass0 (pa_cons (pv 0) pa_nil)) pa_nil)))), ?_⟩
    refine ⟨_, rfl, _, rfl, a, fo, rfl, hF, hp, h60, fun r us H1 s1 h1 hR => ?_⟩
    exact ⟨a, fo, _, rfl, foAt_same s1 hF, hp, h60, waysOf h1 hR, fun H2 s2 => k H2 (s1.trans s2)⟩
end
end Cn
namespace Cn
open PySem PySem.Spec PyProof.Rows L2 Ck
theorem lvUp_dep {ps : List (Option Nat)} {lv : List Nat} (hp : Ps ps) (hv : LvUp ps lv) (hl : lv.length ≤ ps.length) : ∀ i, i < lv.length → lv.getD i 0 ≤ dep ps i := by
  intro i
  induction i using Nat.strongRecOn with
  | ind i ih =>
    intro hi
    rcases opt_cases (ps := ps) (i := i) (by omega) with h | ⟨p, h⟩
    · have h2 := hv i _ _ (getD_at hi) h
      have e : mostLv lv none = 1 := rfl
      have := dep_root h
      omega
    · have h2 := hv i _ _ (getD_at hi) h
      have e : mostLv lv (some p) = lv.getD p 0 + 1 := rfl
      have hpi := hp i p h
      have := ih p hpi (Nat.lt_trans hpi hi)
      have := dep_kid hp h
      omega
theorem most_dep {ps : List (Option Nat)} {lv : List Nat} (hp : Ps ps) (hv : LvUp ps lv) (hl : lv.length < ps.length) {k : Nat} (hk : k = lv.length) : mostLv lv (pa ps k) ≤ dep ps k := by
  subst hk
  rcases opt_cases hl with h | ⟨p, h⟩
  · rw [pa_of h, dep_root h]; exact Nat.le_refl _
  · rw [pa_of h, dep_kid hp h]
    exact Nat.add_le_add_right (lvUp_dep hp hv (Nat.le_of_lt hl) p (hp _ p h)) 1
theorem oth_le {ps : List (Option Nat)} {lv : List Nat} {k : Nat} (hp : Ps ps) (hk : k < ps.length) : oth ps lv k ≤ rest ps lv k := by
  rw [rest_cut hp hk]
  exact Nat.le_mul_of_pos_left _ fac_pos
theorem rest_le_tot {ps : List (Option Nat)} {lv : List Nat} (hp : Ps ps) (hv : LvUp ps lv) : ∀ k, k ≤ lv.length → lv.length ≤ ps.length → nmb ps lv k + rest ps lv k ≤ tot ps
  | 0, _, _ => by
    rw [rest_zero]
    show 0 + _ ≤ _
    omega
  | k + 1, hk, hl => by
    obtain ⟨o, ho⟩ : ∃ o, ps[k]? = some o := ⟨_, List.getElem?_eq_getElem (by omega)⟩
    have h := hv k _ o (getD_at (by omega)) ho
    have ih := rest_le_tot hp hv k (by omega) hl
    rw [nmb_rest hp (by omega) h.1]
    rw [rest_cut hp (by omega), Nat.mul_comm (fac ps lv k)] at ih
    refine Nat.le_trans (Nat.add_le_add_left (Nat.mul_le_mul_left _ (sumN_mono ?_)) _) ih
    rw [pa_of ho]; exact h.2
theorem lv_of_up {ps : List (Option Nat)} {lv : List Nat} (hl : lv.length = ps.length) (hv : LvUp ps lv) : Lv ps lv := ⟨hl, hv⟩
def meas9 (m : Nat) : L2.St → Nat := fun σ => match σ[9]? with
  | some (some (V.int n)) => m + 1 - n.toNat
  | _ => 0
theorem mostIfL {K : PySem.W.Frag} {σ : L2.St} {H : Hp} {Q : VK} {q : Option Nat} {lv : List Nat} {D : Addr} {i j : Nat} (hq : σ[j]? = some (some (vp q))) (hD4 : σ[i]? = some (some (.ref D))) (hD : H D = some (.lst (lv.map vn))) (hp : ∀ p, q = some p → p < lv.length) (k : Q (vn (mostLv lv q)) H) :
    if decide (vp q = V.non) = true then tC (.int 1) σ H Q else tOp (rI0 fun i j => V.int (i + j)) (tOp (rIxL K) (tVar i) (tVar j)) (tC (.int 1)) σ H Q := by
  cases q with
  | none => exact ifT (by decide) k
  | some m =>
    refine ifF (by rw [vp_ne]; decide) ?_
    exact ⟨_, hD4, _, hq, D, _, (m : Int), _, rfl, rfl, .inl (.inl hD), vn_ix (getD_at (hp m rfl)), _, _, rfl, rfl, k⟩
theorem mostIfT {K : PySem.W.Frag} {σ : L2.St} {H : Hp} {Q : VK} {q : Option Nat} {lv : List Nat} {D : Addr} {i j : Nat} (hq : σ[j]? = some (some (vp q))) (hD4 : σ[i]? = some (some (.ref D))) (hD : TN H D lv) (hp : ∀ p, q = some p → p < lv.length) (k : Q (vn (mostLv lv q)) H) :
    if decide (vp q = V.non) = true then tC (.int 1) σ H Q else tOp (rI0 fun i j => V.int (i + j)) (tOp (rIxT K) (tVar i) (tVar j)) (tC (.int 1)) σ H Q := by
  cases q with
  | none => exact ifT (by decide) k
  | some m =>
    refine ifF (by rw [vp_ne]; decide) ?_
    exact ⟨_, hD4, _, hq, D, _, (m : Int), _, rfl, rfl, tnL hD, vn_ix (getD_at (hp m rfl)), _, _, rfl, rfl, k⟩
section
variable {P : Program} {w : World} {K : PySem.W.Frag} {mg : Str → Option Value} {base : Heap} {C : Addr}
def spPlanAt (C : Addr) : Sp := fun vs H Q _ => ∃ (a : Addr) (f : Fo) (x : Nat), vs = [.ref a, vn x] ∧ FoAt C H a f ∧ Ps f.ps ∧ f.ps.length ≤ 60 ∧ x < tot f.ps ∧
  ∀ r lv H', Same H H' → TN H' r lv → Lv f.ps lv → nmb f.ps lv f.ps.length = x → Q (.ref r) H'
def nPlanAt : List Str := ["forest", "number", "ways", "alike", "plan", "place", "parent", "most", "others", "level"]
theorem scPlanAt : FnScope nPlanAt ["forest", "number"] (defScope sPlanAt) := ⟨rfl, rfl, rfl, by decide +kernel, rfl, by decide +kernel, by decide +kernel⟩
theorem dPlanAt (B : Defs K mg C) : Def P w K mg base "plan_at" 6 ["forest", "number"] (spPlanAt C) := by
  obtain ⟨fW, fdW, GW, gW, kW, bW⟩ := dWays (P := P) (w := w) (base := base) B
  obtain ⟨fT, fdT, GT, gT, kT, bT⟩ := dTotal (P := P) (w := w) (base := base) B
  obtain ⟨fB, fdB, GB, gB, kB, bB⟩ := dBtw (P := P) (w := w) (base := base) B
  have N := B.N
  have T := B.T
  have nd := scPlanAt.nd
  refine def_of B.pat fun f fd F => ?_
  refine F.ok scPlanAt (fun vs H Q E h => ?_) (fun cdv A outer s H vs Q E hr h => ?_)
  · obtain ⟨a, f, x, rfl, _⟩ := h
    rfl
  · obtain ⟨a, fo, x, rfl, hF, hp, h60, hx, k⟩ := h
    have hr1 : Room 1 (A.deeper (envOfC "plan_at" (defScope sPlanAt) s.heap.objs.size f cdv)) := Room.mono hr (by decide)
    have hr2 : Room 2 (A.deeper (envOfC "plan_at" (defScope sPlanAt) s.heap.objs.size f cdv)) := Room.mono hr (by decide)
    refine ⟨_, pss_cons (ps_set (i := 2) nd rfl (Or.inl rfl) (pe_call GW hr (by rfl) gW kW bW .nil pass0 (pa_cons (pv 0) pa_nil)))
      (pss_cons (ps_set (i := 3) nd rfl (Or.inl rfl) (pe_call GT hr1 (by rfl) gT kT bT .nil pass0 (pa_cons (pv 0) (pa_cons (pv 2) pa_nil))))
      (pss_cons (ps_if (pt_not (pt_val (pe_call GB hr2 (by rfl) gB kB bB .nil pass0 (pa_cons (pv 1) (pa_cons pe_int (pa_cons (pe_op op_sub (pv 3) pe_int) pa_nil)))))) (pss_one ps_never) pss_nil)
      (pss_cons (ps_set (i := 4) nd rfl (Or.inl rfl) (pe_lst pa_nil))
      (pss_cons (ps_for PassesOwn.never rfl (pi_enumT (by rfl) N.enum (pa_cons (pe_fld (pv 0) rfl) pa_nil)) (pg_tup rfl (pgs_cons (pg_name (i := 5) nd rfl (Or.inl rfl)) (pgs_cons (pg_name (i := 6) nd rfl (Or.inl rfl)) pgs_nil)))
        (pss_cons (ps_set (i := 7) nd rfl (Or.inl rfl) (pe_ifExp (pt_cmpR op_isN (pv 6) pe_non (nomark _)) pe_int (pe_op op_add (pe_ix ix_list (pv 4) (pv 6) (fun _ _ => rfl)) pe_int)))
        (pss_cons (ps_set (i := 8) nd rfl (Or.inl rfl) (pe_op op_fdivW (pv 3) (pe_callB (r := rSum K) (cr_sum rfl) (by rfl) B.zSum (by decide +kernel) (pa_cons (pe_slice sl_list (pe_ix ix_list (pv 2) (pv 5) (fun _ _ => rfl)) (po_some pe_int) (po_some (pe_op op_add (pv 7) pe_int))) pa_nil))))
        (pss_cons (ps_set (i := 9) nd rfl (Or.inl rfl) pe_int)
        (pss_cons (ps_while PassesOwn.never (pt_cmpR op_ge (pv 1) (pe_op op_mulW (pv 8) (pe_ix ix_list (pe_ix ix_list (pv 2) (pv 5) (fun _ _ => rfl)) (pv 9) (fun _ _ => rfl))) (nomark _))
          (pss_cons (ps_aug (i := 1) nd rfl (.inl rfl) (pe_op op_mulW (pv 8) (pe_ix ix_list (pe_ix ix_list (pv 2) (pv 5) (fun _ _ => rfl)) (pv 9) (fun _ _ => rfl))) ip_sub)
          (pss_one (ps_aug (i := 9) nd rfl (.inl rfl) pe_int ip_add))))
        (pss_cons (ps_expr (pe_bm PySem.F.plainAttrs_list PySem.F.slot_list_append PySem.F.type_list_append mt_append (pv 4) (pa_cons (pv 9) pa_nil)))
        (pss_one (ps_set (i := 3) nd rfl (Or.inl rfl) (pe_op op_mulW (pv 8) (pe_ix ix_list (pe_ix ix_list (pv 2) (pv 5) (fun _ _ => rfl)) (pv 9) (fun _ _ => rfl)))))))))))
      (pss_one (ps_ret (pe_callTy call_tuple_of (by rfl) N.is.tup (by decide +kernel) (pa_cons (pv 4) pa_nil)))))))), ?_⟩
    refine ⟨_, rfl, a, fo, rfl, hF, hp, h60, fun r us H1 s1 h1 hR => ?_⟩
    have hW1 := waysOf h1 hR
    generalize V.ref r = wv at hW1 ⊢
    have hF1 := foAt_same s1 hF
    refine ⟨_, rfl, _, rfl, a, fo, wv, rfl, hF1, hp, h60, hW1, fun H2 s2 => ?_⟩
    have hW2 := waysSame s2 hW1
    have S2 := s1.trans s2
    refine ⟨_, rfl, _, rfl, _, _, rfl, rfl, _, _, _, rfl, true, ?_, ?_⟩
    · rw [decide_eq_true (by omega)]
    refine ifF (by decide) ?_
    refine ⟨by show 0 ≤ sizeLine; decide, fun D nD => ?_⟩
    have S3 := smUpd (o := .lst []) nD
    have hD3 : upd H2 D (.lst []) D = some (.lst []) := upd_same
    generalize upd H2 D (.lst []) = H3 at S3 hD3 ⊢
    obtain ⟨dx, ap, ab, aa, h0, h1, h2, h3⟩ := hF
    refine ⟨_, rfl, a, C, dx, _, _, rfl, S3 _ _ (S2 _ _ h0), T.cl, T.nP, fP, ap, _, rfl, tpL (S3 _ _ (S2 _ _ h1)), ?_⟩
    refine for_it (walk_enumT (xs := fo.ps.map vp)) (fun i σ H' => Same H2 H' ∧ ∃ (lv : List Nat) (y : Nat) (t5 t6 t7 t8 t9 : Option V), σ = [some (.ref a), some (vn y), some wv, some (vn (rest fo.ps lv i)), some (.ref D), t5, t6, t7, t8, t9] ∧ H' D = some (.lst (lv.map vn)) ∧ lv.length = i ∧ LvUp fo.ps lv ∧ nmb fo.ps lv i + y = x ∧ y < rest fo.ps lv i) ⟨S3, [], x, none, none, none, none, none, by rw [rest_zero]; rfl, hD3, rfl, (fun j l o h => (by rw [List.getElem?_nil] at h; cases h)), (by show 0 + x = x; omega), (by rw [rest_zero]; exact hx)⟩ (fun i σ H' _ z => tpL (z.1 _ _ (S2 _ _ h1))) ?_ ?_
    · rintro i v σ H' H4 hi ⟨sm, lv, y, t5, t6, t7, t8, t9, rfl, hD, hl, hv, hn, hy⟩ ⟨T1, x1, y1, rfl, nT, rfl, e1, e2⟩
      cases e1
      obtain ⟨q, hq, rfl⟩ := vp_get (i := i) e2
      rw [List.length_map] at hi
      have hT : upd H' T1 (.tup [.int (i : Nat), vp q]) T1 = some (.tup [.int (i : Nat), vp q]) := upd_same
      have S4 := smUpd (o := .tup [.int (i : Nat), vp q]) nT
      have sm2 := sm.trans S4
      have hW4 := waysSame sm2 hW2
      have hD4 := S4 _ _ hD
      generalize upd H' T1 (.tup [.int (i : Nat), vp q]) = H4 at hT sm2 hW4 hD4 ⊢
      refine ⟨T1, _, rfl, .inl (.inl hT), rfl, _, _, rfl, _, _, rfl, rfl, ?_⟩
      obtain ⟨wr, us, ewr, hwr, hwl, hwR⟩ := id hW4
      subst ewr
      obtain ⟨q0, q1, q2⟩ := hwR i hi
      have hmd : mostLv lv (pa fo.ps i) ≤ dep fo.ps i := most_dep hp hv (by omega) hl.symm
      have hdl := dep_le hp hi
      have htot := rest_le_tot hp hv i (by omega) (by omega)
      have hol := oth_le (lv := lv) hp hi
      have big := tot_big hp h60
      refine ⟨_, rfl, rfl, _, rfl, ?_⟩
      refine mostIfL (K := K) (D := D) (lv := lv) (i := 4) (j := 6) rfl rfl hD4 (fun p e => by rw [hl]; exact hp i p (by rw [hq, e])) ?_
      have epa : pa fo.ps i = q := pa_of hq
      rw [epa] at hmd
      obtain ⟨m, em⟩ : ∃ m, m = mostLv lv q := ⟨_, rfl⟩
      rw [← em] at hmd ⊢
      have m1 : 1 ≤ m := by rw [em, ← epa]; exact most_pos
      refine ⟨_, rfl, _, rfl, _, rfl, wr, us, (i : Int), _, rfl, rfl, .inl (.inl hwr), atI_nat q1, 1, rfl, _, rfl, _, _, rfl, rfl, _, rfl, q0, _, rfl, .inl (.inl q2), fun sl nsl => ?_⟩
      have ec : cutV ((wrow fo.ps i).map vn) (some 1) (some (((m : Nat) : Int) + 1)) = ((((wrow fo.ps i).drop 1).take m).map fun n => ((n : Nat) : Int)).map V.int := by
        rw [show ((m : Nat) : Int) + 1 = ((m + 1 : Nat) : Int) from by omega, cutFrom1, ← List.map_drop, ← List.map_take, mapIV]; rfl
      rw [ec]
      have es : (((wrow fo.ps i).drop 1).take m).sum = sumN (wy fo.ps i) m := sum_cut fun k k1 k2 => wrow_at k1 (by omega)
      have hsl : upd H4 sl (.lst (((((wrow fo.ps i).drop 1).take m).map fun n => ((n : Nat) : Int)).map V.int)) sl = some (.lst (((((wrow fo.ps i).drop 1).take m).map fun n => ((n : Nat) : Int)).map V.int)) := upd_same
      have S5 := smUpd (o := .lst (((((wrow fo.ps i).drop 1).take m).map fun n => ((n : Nat) : Int)).map V.int)) nsl
      generalize upd H4 sl (.lst (((((wrow fo.ps i).drop 1).take m).map fun n => ((n : Nat) : Int)).map V.int)) = H5 at hsl S5 ⊢
      have wl : ∀ l, l ≤ 64 → wy fo.ps i l ≤ 2 ^ 420 := fun l h => wy_big hp h60 hi h
      have edv : rest fo.ps lv i / sumN (wy fo.ps i) m = oth fo.ps lv i := by
        have := oth_div (lv := lv) hp hi
        rw [epa, ← em] at this
        exact this
      refine ⟨sl, _, rfl, .inl (.inl hsl), _, _, rfl, rfl, ?_, ?_⟩
      · rw [sumVn, es]
        exact wideDiv (sumwy_pos m1) (sum420 (by omega) fun l l1 l2 => wl l (by omega)) (by omega)
      rw [sumVn, es, show (fun i j : Int => V.int (i / j)) ((rest fo.ps lv i : Nat) : Int) ((sumN (wy fo.ps i) m : Nat) : Int) = vn (oth fo.ps lv i) from by show V.int _ = V.int _; rw [← Int.natCast_ediv, edv]]
      have hrest : rest fo.ps lv i = oth fo.ps lv i * sumN (wy fo.ps i) m := by
        rw [rest_cut hp hi, Nat.mul_comm]
        unfold fac
        rw [epa, ← em]
      have ob : oth fo.ps lv i ≤ 2 ^ 420 := by omega
      have hwr5 := S5 _ _ hwr
      have q25 := S5 _ _ q2
      have hD5 := S5 _ _ hD4
      generalize hoe : oth fo.ps lv i = ot at hrest ob ⊢
      refine while_by (fun σ G => G = H5 ∧ ∃ (l y' : Nat), σ = [some (.ref a), some (vn y'), some (.ref wr), some (vn (rest fo.ps lv i)), some (.ref D), some (vn i), some (vp q), some (vn m), some (vn ot), some (vn l)] ∧ 1 ≤ l ∧ l ≤ m ∧ y' + ot * sumN (wy fo.ps i) (l - 1) = y) (fun σ _ => meas9 m σ) ⟨rfl, 1, y, rfl, Nat.le_refl _, m1, by show y + ot * 0 = y; omega⟩ ?_ ?_
      · rintro σ G ⟨rfl, l, y', rfl, l1, l2, hyl⟩
        refine ⟨_, rfl, _, rfl, _, rfl, _, rfl, wr, us, (i : Int), _, rfl, rfl, .inl (.inl hwr5), atI_nat q1, _, rfl, q0, _, (l : Int), _, rfl, rfl, .inl (.inl q25), vn_ix (wrow_at l1 (by omega)), _, _, rfl, rfl, wideMul ob (wl l (by omega)) (by omega), _, _, rfl, rfl, _, rfl, ?_⟩
        rw [← Int.natCast_mul]
        obtain ⟨l0, rfl⟩ : ∃ l0, l = l0 + 1 := ⟨l - 1, by omega⟩
        rw [Nat.add_sub_cancel] at hyl
        have esu : ot * sumN (wy fo.ps i) (l0 + 1) = ot * sumN (wy fo.ps i) l0 + ot * wy fo.ps i (l0 + 1) := by rw [← Nat.mul_add]; rfl
        have emo : ot * sumN (wy fo.ps i) (l0 + 1) ≤ ot * sumN (wy fo.ps i) m := Nat.mul_le_mul_left _ (sumN_mono l2)
        by_cases c : ot * wy fo.ps i (l0 + 1) ≤ y'
        · refine ifT (decide_eq_true (by omega)) ?_
          refine ⟨_, rfl, _, rfl, _, rfl, _, rfl, wr, us, (i : Int), _, rfl, rfl, .inl (.inl hwr5), atI_nat q1, _, rfl, q0, _, ((l0 + 1 : Nat) : Int), _, rfl, rfl, .inl (.inl q25), vn_ix (wrow_at l1 (by omega)), _, _, rfl, rfl, wideMul ob (wl _ (by omega)) (by omega), _, _, rfl, rfl, ?_⟩
          rw [← Int.natCast_mul]
          have lm : l0 + 1 < m := by
            rcases Nat.lt_or_ge (l0 + 1) m with h | h
            · exact h
            · have : m = l0 + 1 := by omega
              rw [this] at hrest
              omega
          refine ⟨_, rfl, _, _, rfl, rfl, ⟨rfl, l0 + 2, y' - ot * wy fo.ps i (l0 + 1), ?_, by omega, by omega, ?_⟩, ?_⟩
          · show [_, some (V.int (((y' : Nat) : Int) - ((ot * wy fo.ps i (l0 + 1) : Nat) : Int))), _, _, _, _, _, _, _, some (V.int (((l0 + 1 : Nat) : Int) + 1))] = _
            rw [show ((y' : Nat) : Int) - ((ot * wy fo.ps i (l0 + 1) : Nat) : Int) = ((y' - ot * wy fo.ps i (l0 + 1) : Nat) : Int) from by omega]
            rfl
          · show _ + ot * sumN _ (l0 + 1) = y
            omega
          · show m + 1 - (((l0 + 1 : Nat) : Int) + 1).toNat < m + 1 - (((l0 + 1 : Nat) : Int)).toNat
            omega
        · refine ifF (fun z => c (by have := of_decide_eq_true z; omega)) ?_
          have s5 := sm2.trans S5
          refine ⟨_, rfl, .inl ⟨rfl, _, .inl (.inl hD5)⟩, _, rfl, D, _, _, rfl, rfl, hD5, by rw [List.length_map]; exact small1000 (by omega), ?_⟩
          have hup := upd_same (H := G) (a := D) (o := .lst (lv.map vn ++ [vn (l0 + 1)]))
          have s6 : Same H2 (upd G D (.lst (lv.map vn ++ [vn (l0 + 1)]))) := smOver nD s5
          have hW6 := waysSame s6 hW2
          generalize upd G D (.lst (lv.map vn ++ [vn (l0 + 1)])) = H6 at hup s6 hW6 ⊢
          obtain ⟨wr6, us6, ewr6, hwr6, hwl6, hwR6⟩ := hW6
          cases ewr6
          obtain ⟨q06, q16, q26⟩ := hwR6 i hi
          refine ⟨_, rfl, _, rfl, _, rfl, wr, us6, (i : Int), _, rfl, rfl, .inl (.inl hwr6), atI_nat q16, _, rfl, q06, _, ((l0 + 1 : Nat) : Int), _, rfl, rfl, .inl (.inl q26), vn_ix (wrow_at l1 (by omega)), _, _, rfl, rfl, wideMul ob (wl _ (by omega)) (by omega), ?_⟩
          have er : rest fo.ps (lv ++ [l0 + 1]) (i + 1) = ot * wy fo.ps i (l0 + 1) := by rw [rest_snoc hp hl hi, hoe]
          have en : nmb fo.ps (lv ++ [l0 + 1]) (i + 1) = nmb fo.ps lv i + ot * sumN (wy fo.ps i) l0 := by rw [nmb_snoc hl, hoe, Nat.add_sub_cancel]
          refine ⟨s6, lv ++ [l0 + 1], y', some (vn i), some (vp q), some (vn m), some (vn ot), some (vn (l0 + 1)), ?_, by rw [List.map_append]; exact hup, by rw [List.length_append, hl]; rfl, lvUp_snoc hp hv (by omega) (by omega) (by rw [hl, epa, ← em]; exact l2), by rw [en]; omega, by rw [er]; omega⟩
          rw [er]
          show [_, _, _, some (V.int (((ot : Nat) : Int) * ((wy fo.ps i (l0 + 1) : Nat) : Int))), _, _, _, _, _, _] = _
          rw [← Int.natCast_mul]
      · rintro σ H' Q1 Q2 hq12 ⟨v1, g1, v2, g2, v3, g3, v4, g4, a1, x1, i1, y1, b1, b2, b3, b4, v5, g5, a2, x2, i2, y2, c1, c2, c3, c4, i3, j3, d1, d2, d3, i4, j4, f1, f2, kk, hk, qq⟩
        exact ⟨v1, g1, v2, g2, v3, g3, v4, g4, a1, x1, i1, y1, b1, b2, b3, b4, v5, g5, a2, x2, i2, y2, c1, c2, c3, c4, i3, j3, d1, d2, d3, i4, j4, f1, f2, kk, hk, hq12 _ _ qq⟩
    · rintro σ H' ⟨sm, lv, y, t5, t6, t7, t8, t9, rfl, hD, hl, hv, hn, hy⟩
      rw [List.length_map] at hl hn hy
      rw [rest_full] at hy
      refine ⟨_, rfl, D, _, rfl, .inl ⟨.inl (.inl hD), fun r nr => ?_⟩⟩
      exact k r lv _ ((S2.trans sm).trans (smUpd nr)) upd_same ⟨hl, hv⟩ (by omega)
end
end Cn
namespace Cn
open PySem PySem.Spec PyProof.Rows L2 Ck
theorem lvUp_of {ps : List (Option Nat)} {lv : List Nat} (h : Lv ps lv) : LvUp ps lv := h.2
section
variable {P : Program} {w : World} {K : PySem.W.Frag} {mg : Str → Option Value} {base : Heap} {C : Addr}
def spPlanNumber (C : Addr) : Sp := fun vs H Q _ => ∃ (a b : Addr) (f : Fo) (lv : List Nat), vs = [.ref a, .ref b] ∧ FoAt C H a f ∧ TN H b lv ∧ Ps f.ps ∧ f.ps.length ≤ 60 ∧ Lv f.ps lv ∧
  ∀ H', Same H H' → Q (vn (nmb f.ps lv f.ps.length)) H'
def nPlanNumber : List Str := ["forest", "plan", "ways", "alike", "number", "place", "parent", "most", "others"]
theorem scPlanNumber : FnScope nPlanNumber ["forest", "plan"] (defScope sPlanNumber) := ⟨rfl, rfl, rfl, by decide +kernel, rfl, by decide +kernel, by decide +kernel⟩
theorem dPlanNumber (B : Defs K mg C) : Def P w K mg base "plan_number" 6 ["forest", "plan"] (spPlanNumber C) := by
  obtain ⟨fW, fdW, GW, gW, kW, bW⟩ := dWays (P := P) (w := w) (base := base) B
  obtain ⟨fT, fdT, GT, gT, kT, bT⟩ := dTotal (P := P) (w := w) (base := base) B
  obtain ⟨fI, fdI, GI, gI, kI, bI⟩ := dIsPlan (P := P) (w := w) (base := base) B
  have N := B.N
  have T := B.T
  have nd := scPlanNumber.nd
  refine def_of B.pnu fun f fd F => ?_
  refine F.ok scPlanNumber (fun vs H Q E h => ?_) (fun cdv A outer s H vs Q E hr h => ?_)
  · obtain ⟨a, b, f, lv, rfl, _⟩ := h
    rfl
  · obtain ⟨a, b, fo, lv, rfl, hF, hb, hp, h60, hv, k⟩ := h
    have hr1 : Room 1 (A.deeper (envOfC "plan_number" (defScope sPlanNumber) s.heap.objs.size f cdv)) := Room.mono hr (by decide)
    have hr3 : Room 3 (A.deeper (envOfC "plan_number" (defScope sPlanNumber) s.heap.objs.size f cdv)) := Room.mono hr (by decide)
    refine ⟨_, pss_cons (ps_if (pt_not (pt_val (pe_call GI hr3 (by rfl) gI kI bI .nil pass0 (pa_cons (pv 0) (pa_cons (pv 1) pa_nil))))) (pss_one ps_never) pss_nil)
      (pss_cons (ps_set (i := 2) nd rfl (Or.inl rfl) (pe_call GW hr (by rfl) gW kW bW .nil pass0 (pa_cons (pv 0) pa_nil)))
      (pss_cons (ps_set (i := 3) nd rfl (Or.inl rfl) (pe_call GT hr1 (by rfl) gT kT bT .nil pass0 (pa_cons (pv 0) (pa_cons (pv 2) pa_nil))))
      (pss_cons (ps_set (i := 4) nd rfl (Or.inl rfl) pe_int)
      (pss_cons (ps_for PassesOwn.never rfl (pi_enumT (by rfl) N.enum (pa_cons (pe_fld (pv 0) rfl) pa_nil)) (pg_tup rfl (pgs_cons (pg_name (i := 5) nd rfl (Or.inl rfl)) (pgs_cons (pg_name (i := 6) nd rfl (Or.inl rfl)) pgs_nil)))
        (pss_cons (ps_set (i := 7) nd rfl (Or.inl rfl) (pe_ifExp (pt_cmpR op_isN (pv 6) pe_non (nomark _)) pe_int (pe_op op_add (pe_ix ix_tup (pv 1) (pv 6) (fun _ _ => rfl)) pe_int)))
        (pss_cons (ps_set (i := 8) nd rfl (Or.inl rfl) (pe_op op_fdivW (pv 3) (pe_callB (r := rSum K) (cr_sum rfl) (by rfl) B.zSum (by decide +kernel) (pa_cons (pe_slice sl_list (pe_ix ix_list (pv 2) (pv 5) (fun _ _ => rfl)) (po_some pe_int) (po_some (pe_op op_add (pv 7) pe_int))) pa_nil))))
        (pss_cons (ps_aug (i := 4) nd rfl (.inl rfl) (pe_op op_mulW (pv 8) (pe_callB (r := rSum K) (cr_sum rfl) (by rfl) B.zSum (by decide +kernel) (pa_cons (pe_slice sl_list (pe_ix ix_list (pv 2) (pv 5) (fun _ _ => rfl)) (po_some pe_int) (po_some (pe_ix ix_tup (pv 1) (pv 5) (fun _ _ => rfl)))) pa_nil))) ip_add)
        (pss_one (ps_set (i := 3) nd rfl (Or.inl rfl) (pe_op op_mulW (pv 8) (pe_ix ix_list (pe_ix ix_list (pv 2) (pv 5) (fun _ _ => rfl)) (pe_ix ix_tup (pv 1) (pv 5) (fun _ _ => rfl)) (fun _ _ => rfl)))))))))
      (pss_one (ps_ret (pv 4))))))), ?_⟩
    refine ⟨_, rfl, _, rfl, a, b, fo, lv, rfl, hF, hb, hp, hv, fun H0 s0 => ⟨true, rfl, ?_⟩⟩
    refine ifF (by decide) ?_
    have hF0 := foAt_same s0 hF
    refine ⟨_, rfl, a, fo, rfl, hF0, hp, h60, fun r us H1 s1 h1 hR => ?_⟩
    have hW1 := waysOf h1 hR
    generalize V.ref r = wv at hW1 ⊢
    refine ⟨_, rfl, _, rfl, a, fo, wv, rfl, foAt_same s1 hF0, hp, h60, hW1, fun H2 s2 => ?_⟩
    have S2 := s0.trans (s1.trans s2)
    have hW2 := waysSame s2 hW1
    obtain ⟨dx, ap, ab, aa, h0, h1, h2, h3⟩ := hF
    have big := tot_big hp h60
    refine ⟨_, rfl, a, C, dx, _, _, rfl, S2 _ _ h0, T.cl, T.nP, fP, ap, _, rfl, tpL (S2 _ _ h1), ?_⟩
    refine for_it (walk_enumT (xs := fo.ps.map vp)) (fun i σ H' => Same H2 H' ∧ ∃ (t5 t6 t7 t8 : Option V), σ = [some (.ref a), some (.ref b), some wv, some (vn (rest fo.ps lv i)), some (vn (nmb fo.ps lv i)), t5, t6, t7, t8]) ⟨Same.refl _, none, none, none, none, by rw [rest_zero]; rfl⟩ (fun i σ H' _ z => tpL (z.1 _ _ (S2 _ _ h1))) ?_ ?_
    · rintro i v σ H' H4 hi ⟨sm, t5, t6, t7, t8, rfl⟩ ⟨T1, x1, y1, rfl, nT, rfl, e1, e2⟩
      cases e1
      obtain ⟨q, hq, rfl⟩ := vp_get (i := i) e2
      rw [List.length_map] at hi
      have hT : upd H' T1 (.tup [.int (i : Nat), vp q]) T1 = some (.tup [.int (i : Nat), vp q]) := upd_same
      have sm2 := sm.trans (smUpd (o := .tup [.int (i : Nat), vp q]) nT)
      have hW4 := waysSame sm2 hW2
      generalize upd H' T1 (.tup [.int (i : Nat), vp q]) = H4 at hT sm2 hW4 ⊢
      have hb4 : TN H4 b lv := (S2.trans sm2) _ _ hb
      refine ⟨T1, _, rfl, .inl (.inl hT), rfl, _, _, rfl, _, _, rfl, rfl, ?_⟩
      obtain ⟨wr, us, ewr, hwr, hwl, hwR⟩ := id hW4
      subst ewr
      obtain ⟨q0, q1, q2⟩ := hwR i hi
      have hil : i < lv.length := by rw [hv.1]; exact hi
      have hlv := hv.2 i _ q (getD_at hil) hq
      have epa : pa fo.ps i = q := pa_of hq
      have hdl := dep_le hp hi
      have hmd : mostLv lv q ≤ dep fo.ps i := by
        rcases opt_cases hi with h | ⟨p, h⟩
        · rw [hq] at h; cases h
          rw [dep_root hq]; exact Nat.le_refl 1
        · rw [hq] at h; cases h
          rw [dep_kid hp hq]
          exact Nat.add_le_add_right (lvUp_dep hp hv.2 (Nat.le_of_eq hv.1) p (by have := hp i p hq; omega)) 1
      have htot := rest_le_tot hp hv.2 i (by omega) (Nat.le_of_eq hv.1)
      have hol := oth_le (lv := lv) hp hi
      refine ⟨_, rfl, rfl, _, rfl, ?_⟩
      refine mostIfT (K := K) (D := b) (lv := lv) (i := 1) (j := 6) rfl rfl hb4 (fun p e => by have := hp i p (by rw [hq, e]); omega) ?_
      obtain ⟨m, em⟩ : ∃ m, m = mostLv lv q := ⟨_, rfl⟩
      rw [← em] at hmd hlv ⊢
      have m1 : 1 ≤ m := by omega
      refine ⟨_, rfl, _, rfl, _, rfl, wr, us, (i : Int), _, rfl, rfl, .inl (.inl hwr), atI_nat q1, 1, rfl, _, rfl, _, _, rfl, rfl, _, rfl, q0, _, rfl, .inl (.inl q2), fun sl nsl => ?_⟩
      have ec : ∀ m : Nat, cutV ((wrow fo.ps i).map vn) (some 1) (some ((m : Nat) : Int)) = ((((wrow fo.ps i).drop 1).take (m - 1)).map fun n => ((n : Nat) : Int)).map V.int := fun m => by
        rw [cutFrom1, ← List.map_drop, ← List.map_take, mapIV]
      rw [show ((m : Nat) : Int) + 1 = ((m + 1 : Nat) : Int) from by omega, ec, Nat.add_sub_cancel]
      have es : ∀ m, m ≤ dep fo.ps i → (((wrow fo.ps i).drop 1).take m).sum = sumN (wy fo.ps i) m := fun m hm => sum_cut fun k k1 k2 => wrow_at k1 (by omega)
      have hsl : upd H4 sl (.lst (((((wrow fo.ps i).drop 1).take m).map fun n => ((n : Nat) : Int)).map V.int)) sl = some (.lst (((((wrow fo.ps i).drop 1).take m).map fun n => ((n : Nat) : Int)).map V.int)) := upd_same
      have S5 := smUpd (o := .lst (((((wrow fo.ps i).drop 1).take m).map fun n => ((n : Nat) : Int)).map V.int)) nsl
      generalize upd H4 sl (.lst (((((wrow fo.ps i).drop 1).take m).map fun n => ((n : Nat) : Int)).map V.int)) = H5 at hsl S5 ⊢
      have wl : ∀ l, l ≤ 64 → wy fo.ps i l ≤ 2 ^ 420 := fun l h => wy_big hp h60 hi h
      have edv : rest fo.ps lv i / sumN (wy fo.ps i) m = oth fo.ps lv i := by
        have := oth_div (lv := lv) hp hi
        rw [epa, ← em] at this
        exact this
      refine ⟨sl, _, rfl, .inl (.inl hsl), _, _, rfl, rfl, ?_, ?_⟩
      · rw [sumVn, es m hmd]
        exact wideDiv (sumwy_pos m1) (sum420 (by omega) fun l l1 l2 => wl l (by omega)) (by omega)
      rw [sumVn, es m hmd, show (fun i j : Int => V.int (i / j)) ((rest fo.ps lv i : Nat) : Int) ((sumN (wy fo.ps i) m : Nat) : Int) = vn (oth fo.ps lv i) from by show V.int _ = V.int _; rw [← Int.natCast_ediv, edv]]
      have ob : oth fo.ps lv i ≤ 2 ^ 420 := by omega
      have hb5 : TN H5 b lv := S5 _ _ hb4
      refine ⟨_, rfl, _, rfl, _, rfl, _, rfl, wr, us, (i : Int), _, rfl, rfl, .inl (.inl (S5 _ _ hwr)), atI_nat q1, 1, rfl, _, rfl, _, rfl, b, _, (i : Int), _, rfl, rfl, tnL hb5, vn_ix (getD_at hil), _, rfl, q0, _, rfl, .inl (.inl (S5 _ _ q2)), fun s2 ns2 => ?_⟩
      rw [ec]
      have hs2 : upd H5 s2 (.lst (((((wrow fo.ps i).drop 1).take (lv.getD i 0 - 1)).map fun n => ((n : Nat) : Int)).map V.int)) s2 = some (.lst (((((wrow fo.ps i).drop 1).take (lv.getD i 0 - 1)).map fun n => ((n : Nat) : Int)).map V.int)) := upd_same
      have S6 := S5.trans (smUpd (o := .lst (((((wrow fo.ps i).drop 1).take (lv.getD i 0 - 1)).map fun n => ((n : Nat) : Int)).map V.int)) ns2)
      generalize upd H5 s2 (.lst (((((wrow fo.ps i).drop 1).take (lv.getD i 0 - 1)).map fun n => ((n : Nat) : Int)).map V.int)) = H6 at hs2 S6 ⊢
      refine ⟨s2, _, rfl, .inl (.inl hs2), _, _, rfl, rfl, ?_, _, _, rfl, rfl, ?_⟩
      · rw [sumVn, es _ (by omega)]
        exact wideMul ob (sum420 (by omega) fun l l1 l2 => wl l (by omega)) (by omega)
      rw [sumVn, es _ (by omega)]
      refine ⟨_, rfl, _, rfl, _, rfl, wr, us, (i : Int), _, rfl, rfl, .inl (.inl (S6 _ _ hwr)), atI_nat q1, _, rfl, _, rfl, b, _, (i : Int), _, rfl, rfl, tnL (S6 _ _ hb4), vn_ix (getD_at hil), q0, _, ((lv.getD i 0 : Nat) : Int), _, rfl, rfl, .inl (.inl (S6 _ _ q2)), vn_ix (wrow_at hlv.1 (by omega)), _, _, rfl, rfl, wideMul ob (wl _ (by omega)) (by omega), ?_⟩
      refine ⟨sm2.trans S6, some (vn i), some (vp q), some (vn m), some (vn (oth fo.ps lv i)), ?_⟩
      rw [rest_next hp hi]
      show [_, _, _, some (V.int (((oth fo.ps lv i : Nat) : Int) * ((wy fo.ps i (lv.getD i 0) : Nat) : Int))), some (V.int (((nmb fo.ps lv i : Nat) : Int) + ((oth fo.ps lv i : Nat) : Int) * ((sumN (wy fo.ps i) (lv.getD i 0 - 1) : Nat) : Int))), _, _, _, _] = [_, _, _, _, some (V.int ((nmb fo.ps lv i + oth fo.ps lv i * sumN (wy fo.ps i) (lv.getD i 0 - 1) : Nat) : Int)), _, _, _, _]
      rw [← Int.natCast_mul, ← Int.natCast_mul, ← Int.natCast_add]
    · rintro σ H' ⟨sm, t5, t6, t7, t8, rfl⟩
      rw [List.length_map]
      exact ⟨_, rfl, k H' (S2.trans sm)⟩
end
end Cn
namespace Cn
open PySem PySem.Spec PyProof.Rows L2 Ck
/-! two walks, one within the other -/
section
variable {J J1 : It} {n n1 : Nat} {G G1 : Hp → Prop} {Y Y1 : Nat → Hp → V → Hp → Prop}
/-- the walk within: from what stands to what comes next without it -/
theorem in_walk (w : Walk J1 n1 G1 Y1) {g1 : TG} {tt1 : TT} {te : TE} {vs1 : List Nat} {σ2 : L2.St} {H4 : Hp} {D : Addr} {Nx : Hp → Prop} (Pv : Nat → Hp → Prop) (start : Pv 0 H4) (still : ∀ j H, j ≤ n1 → Pv j H → G1 H)
    (turn : ∀ j x H H', j < n1 → Pv j H → Y1 j H x H' → g1 x (wipe σ2 vs1) H' fun σ3 H5 => wipe σ3 vs1 = wipe σ2 vs1 ∧ tt1 σ3 H5 fun b H6 => if b = true then te σ3 H6 fun y H7 => ∃ acc, H7 D = some (.lst acc) ∧ acc.length < sizeLine ∧ Pv (j + 1) (upd H7 D (.lst (acc ++ [y]))) else Pv (j + 1) H6)
    (over : ∀ H, Pv n1 H → Nx H) :
    ∃ W1 : Nat → Nat → Hp → Prop, (∃ m, W1 0 m H4) ∧ ∀ j k H, W1 j k H → (J1.stop j H ∧ Nx H) ∨ (J1.go j H ∧ ∃ Nx1 : Hp → Prop, (∀ H', Nx1 H' → ∃ k', k' < k ∧ W1 (j + 1) k' H') ∧ ∀ x H', J1.yld j H x H' → g1 x (wipe σ2 vs1) H' fun σ3 H5 => wipe σ3 vs1 = wipe σ2 vs1 ∧ tt1 σ3 H5 fun b H6 =>
        if b = true then te σ3 H6 fun y H7 => ∃ acc, H7 D = some (.lst acc) ∧ acc.length < sizeLine ∧ Nx1 (upd H7 D (.lst (acc ++ [y]))) else Nx1 H6) := by
  let left : Nat → Nat → Hp → Prop := fun j k H => k + j = n1 ∧ Pv j H
  refine ⟨left, ⟨n1, rfl, start⟩, fun j k H hW => ?_⟩
  obtain ⟨sum, here⟩ := hW
  have up : j ≤ n1 := by omega
  have st := still j H up here
  cases k with
  | zero =>
    have ej : j = n1 := by omega
    subst ej
    exact Or.inl ⟨w.stops H st, over H here⟩
  | succ k =>
    have lt : j < n1 := by omega
    refine Or.inr ⟨w.goes j H lt st, Pv (j + 1), fun H' later => ⟨k, Nat.lt_succ_self k, by omega, later⟩, fun x H' y => ?_⟩
    exact turn j x H H' lt here (w.yields j H x H' lt st y)
/-- the walk about it -/
theorem out_walk (w : Walk J n G Y) {g : TG} {tt : TT} {body : L2.St → Hp → (Hp → Prop) → Prop} {vs : List Nat} {σ : L2.St} {H1 : Hp} {D : Addr} {Qd : Hp → Prop} (Pv : Nat → Hp → Prop) (start : Pv 0 (upd H1 D (.lst []))) (still : ∀ i H, i ≤ n → Pv i H → G H)
    (turn : ∀ i x H H', i < n → Pv i H → Y i H x H' → g x (wipe σ vs) H' fun σ2 H2 => wipe σ2 vs = wipe σ vs ∧ tt σ2 H2 fun b H3 => if b = true then body σ2 H3 (Pv (i + 1)) else Pv (i + 1) H3) (over : ∀ H, Pv n H → Qd H) :
    ∃ W : Nat → Nat → Hp → Prop, (∃ m, W 0 m (upd H1 D (.lst []))) ∧ ∀ i m H, W i m H → (J.stop i H ∧ Qd H) ∨ (J.go i H ∧ ∃ Nx : Hp → Prop, (∀ H', Nx H' → ∃ m', m' < m ∧ W (i + 1) m' H') ∧ ∀ x H', J.yld i H x H' → g x (wipe σ vs) H' fun σ2 H2 => wipe σ2 vs = wipe σ vs ∧ tt σ2 H2 fun b H3 =>
      if b = true then body σ2 H3 Nx else Nx H3) := by
  let left : Nat → Nat → Hp → Prop := fun i m H => m + i = n ∧ Pv i H
  refine ⟨left, ⟨n, rfl, start⟩, fun i m H hW => ?_⟩
  obtain ⟨sum, here⟩ := hW
  have up : i ≤ n := by omega
  have st := still i H up here
  cases m with
  | zero =>
    have ei : i = n := by omega
    subst ei
    exact Or.inl ⟨w.stops H st, over H here⟩
  | succ m =>
    have lt : i < n := by omega
    refine Or.inr ⟨w.goes i H lt st, Pv (i + 1), fun H' later => ⟨m, Nat.lt_succ_self m, by omega, later⟩, fun x H' y => ?_⟩
    exact turn i x H H' lt here (w.yields i H x H' lt st y)
end
/-! lists of plans -/
def PlR (H : Hp) (v : V) (lv : List Nat) : Prop := ∃ t, v = .ref t ∧ TN H t lv
def PlsR (H : Hp) (us : List V) (L : List (List Nat)) : Prop := Paired (PlR H) us L
theorem plsSame {H H' : Hp} (s : Same H H') {us : List V} {L : List (List Nat)} (h : PlsR H us L) : PlsR H' us L := Paired.mapP h fun _ _ z => by
  obtain ⟨t, e, h1⟩ := z
  exact ⟨t, e, s _ _ h1⟩
theorem plsUpd {H' : Hp} {D : Addr} {o : HO} {xs us : List V} {L : List (List Nat)} (hD : H' D = some (.lst xs)) (h : PlsR H' us L) : PlsR (upd H' D o) us L := Paired.mapP h fun v p z => by
  obtain ⟨t, e, h1⟩ := z
  have h1 : H' t = some (.tup (p.map vn)) := h1
  have q : t ≠ D := fun z => by rw [z, hD] at h1; cases h1
  exact ⟨t, e, by show upd H' D o t = _; rw [upd_ne q]; exact h1⟩
theorem plsSnoc {H : Hp} {us : List V} {L : List (List Nat)} {v : V} {lv : List Nat} (h : PlsR H us L) (k : PlR H v lv) : PlsR H (us ++ [v]) (L ++ [lv]) := by
  induction h with
  | nil => exact .cons k .nil
  | cons a _ ih => exact .cons a ih
theorem plsApp {H : Hp} {us us' : List V} {L L' : List (List Nat)} (h : PlsR H us L) (k : PlsR H us' L') : PlsR H (us ++ us') (L ++ L') := by
  induction h with
  | nil => exact k
  | cons a _ ih => exact .cons a ih
theorem plsLen {H : Hp} {us : List V} {L : List (List Nat)} (h : PlsR H us L) : us.length = L.length := by
  induction h with
  | nil => rfl
  | cons a _ ih => rw [List.length_cons, List.length_cons, ih]
theorem plsAt {H : Hp} {us : List V} {L : List (List Nat)} (h : PlsR H us L) : ∀ {i : Nat} {v : V}, us[i]? = some v → ∃ lv, L[i]? = some lv ∧ PlR H v lv := by
  induction h with
  | nil => intro i v z; rw [List.getElem?_nil] at z; cases z
  | cons a _ ih =>
    intro i v z
    cases i with
    | zero => cases z; exact ⟨_, rfl, a⟩
    | succ i =>
      rw [List.getElem?_cons_succ] at z
      obtain ⟨lv, h1, h2⟩ := ih z
      exact ⟨lv, by rw [List.getElem?_cons_succ]; exact h1, h2⟩
theorem flat_at {α β : Type} {f : α → List β} {L : List α} {m : Nat} {x : α} (h : L[m]? = some x) : (L.take (m + 1)).flatMap f = (L.take m).flatMap f ++ f x := by
  rw [List.take_add_one, h, List.flatMap_append]
  show _ ++ [x].flatMap f = _
  rw [List.flatMap_singleton]
theorem flatTake_len {α β : Type} {f : α → List β} : ∀ (L : List α) (m : Nat), ((L.take m).flatMap f).length ≤ (L.flatMap f).length
  | [], m => by rw [List.take_nil]; exact Nat.le_refl _
  | x :: L, 0 => by rw [List.take_zero]; exact Nat.zero_le _
  | x :: L, m + 1 => by
    rw [List.take_succ_cons, List.flatMap_cons, List.flatMap_cons, List.length_append, List.length_append]
    exact Nat.add_le_add_left (flatTake_len L m) _
theorem mostIf2 {K : PySem.W.Frag} {σ : L2.St} {H : Hp} {Q : VK} {q : Option Nat} {lv : List Nat} {D : Addr} {i j : Nat} (hq : σ[j]? = some (some (vp q))) (hD4 : σ[i]? = some (some (.ref D))) (hD : TN H D lv) (hp : ∀ p, q = some p → p < lv.length) (k : Q (vn (mostLv lv q + 1)) H) :
    if decide (vp q = V.non) = true then tC (.int 2) σ H Q else tOp (rI0 fun i j => V.int (i + j)) (tOp (rIxT K) (tVar i) (tVar j)) (tC (.int 2)) σ H Q := by
  cases q with
  | none => exact ifT (by decide) k
  | some m =>
    refine ifF (by rw [vp_ne]; decide) ?_
    exact ⟨_, hD4, _, hq, D, _, (m : Int), _, rfl, rfl, tnL hD, vn_ix (getD_at (hp m rfl)), _, _, rfl, rfl, k⟩
/-- lv with a level more -/
def lvs (lv : List Nat) (b : Nat) : List (List Nat) := (List.range b).map fun m => lv ++ [m + 1]
theorem lvs_succ {lv : List Nat} {b : Nat} : lvs lv (b + 1) = lvs lv b ++ [lv ++ [b + 1]] := by
  unfold lvs
  rw [List.range_succ, List.map_append]; rfl
theorem lvs_len {lv : List Nat} {b : Nat} : (lvs lv b).length = b := by
  unfold lvs
  rw [List.length_map, List.length_range]
section
variable {P : Program} {w : World} {K : PySem.W.Frag} {mg : Str → Option Value} {base : Heap} {C : Addr}
def spAllPlans (C : Addr) : Sp := fun vs H Q _ => ∃ (a : Addr) (f : Fo), vs = [.ref a] ∧ FoAt C H a f ∧ Ps f.ps ∧ f.ps.length ≤ 7 ∧
  ∀ r us H', Same H H' → H r = none → H' r = some (.lst us) → PlsR H' us (plansL f.ps f.ps.length) → Q (.ref r) H'
def nAllPlans : List Str := ["forest", "found", "parent", "plan", "level"]
theorem scAllPlans : FnScope nAllPlans ["forest"] (defScope sAllPlans) := ⟨rfl, rfl, rfl, by decide +kernel, rfl, by decide +kernel, by decide +kernel⟩
theorem dAllPlans (B : Defs K mg C) : Def P w K mg base "all_plans" 7 ["forest"] (spAllPlans C) := by
  obtain ⟨fC, fdC, GC, gC, kC, bC⟩ := dCountPlans (P := P) (w := w) (base := base) B
  obtain ⟨tm, mPl⟩ := B.mPl
  have N := B.N
  have T := B.T
  have nd := scAllPlans.nd
  refine def_of B.apl fun f fd F => ?_
  refine F.ok scAllPlans (fun vs H Q E h => ?_) (fun cdv A outer s H vs Q E hr h => ?_)
  · obtain ⟨a, f, rfl, _⟩ := h
    rfl
  · obtain ⟨a, fo, rfl, hF, hp, h7, k⟩ := h
    refine ⟨_, pss_cons (ps_if (pt_cmpR op_gt (pe_call GC hr (by rfl) gC kC bC .nil pass0 (pa_cons (pv 0) pa_nil)) (pe_glob (v := .int 2000) (by rfl) mPl ⟨_, rfl⟩) (nomark _)) (pss_one ps_never) pss_nil)
      (pss_cons (ps_set (i := 1) nd rfl (Or.inl rfl) (pe_lst (pa_cons (pe_tup pa_nil) pa_nil)))
      (pss_cons (ps_for PassesOwn.never rfl (pi_tup (pe_fld (pv 0) rfl)) (pg_name (i := 2) nd rfl (Or.inr rfl))
        (pss_one (ps_setLc2 (i := 1) (own := [("plan", 3), ("level", 4)]) (vs1 := [4]) (g := gName 3) (tt := tYes) (g1 := gName 4) (tt1 := tYes) (te := tOp (rCatA K) (tVar 3) (tTup (tCons (tVar 4) tNil))) rfl nd rfl rfl (sw_true rfl rfl rfl (by decide +kernel))
          (pi_list (pv 1)) (blkOk_by (N := nAllPlans) (sc := defScope sAllPlans) (by decide +kernel)) (by decide)
          (fun _ _ _ _ _ => pg_name (i := 3) nd rfl (Or.inl rfl)) (fun _ _ _ _ _ => pts_nil)
          (fun _ _ _ _ _ => pi_range2 (by rfl) N.range (pa_cons pe_int (pa_cons (pe_ifExp (pt_cmpR op_isN (pv 2) pe_non (nomark _)) pe_int (pe_op op_add (pe_ix (r := rIxT K) ix_tup (pv 3) (pv 2) (fun _ _ => rfl)) pe_int)) pa_nil)))
          (fun _ _ _ _ _ => pg_name (i := 4) nd rfl (Or.inl rfl)) (fun _ _ _ _ _ => pts_nil)
          (fun _ _ _ _ _ => pe_op (r := rCatA K) op_catA (pv 3) (pe_tup (pa_cons (pv 4) pa_nil))))))
      (pss_one (ps_ret (pv 1))))), ?_⟩
    have few := tot_few hp h7
    refine ⟨_, rfl, a, fo, rfl, hF, hp, by omega, fun H0 s0 => ⟨_, _, rfl, rfl, _, rfl, ?_⟩⟩
    refine ifF (fun z => by have := of_decide_eq_true z; omega) ?_
    refine ⟨by show 0 ≤ sizeLine; decide, fun t0 nt0 => ⟨by show 1 ≤ sizeLine; decide, fun D0 nD0 => ?_⟩⟩
    have S0 := s0.trans (smUpd (o := .tup []) nt0)
    have nD1 : H D0 = none := noneBack S0 nD0
    have ht0 : upd H0 t0 (.tup []) t0 = some (.tup []) := upd_same
    generalize upd H0 t0 (.tup []) = H1 at S0 nD0 ht0 ⊢
    have S1 := S0.trans (smUpd (o := .lst [.ref t0]) nD0)
    have hD1 : upd H1 D0 (.lst [.ref t0]) D0 = some (.lst [.ref t0]) := upd_same
    have ht1 := smUpd (o := .lst [.ref t0]) nD0 _ _ ht0
    generalize upd H1 D0 (.lst [.ref t0]) = H2 at S1 hD1 ht1 ⊢
    obtain ⟨dx, ap, ab, aa, h0, h1, h2, h3⟩ := hF
    refine ⟨_, rfl, a, C, dx, _, _, rfl, S1 _ _ h0, T.cl, T.nP, fP, ap, rfl, ⟨_, tpL (S1 _ _ h1)⟩, ?_⟩
    refine for_tup (xs := fo.ps.map vp) (fun i σ H' => Same H H' ∧ ∃ (D : Addr) (us : List V) (t2 : Option V), σ = [some (.ref a), some (.ref D), t2, none, none] ∧ H D = none ∧ H' D = some (.lst us) ∧ PlsR H' us (plansL fo.ps i)) ⟨S1, D0, _, none, rfl, nD1, hD1, .cons ⟨t0, rfl, ht1⟩ .nil⟩ (fun i σ H' _ z => tpL (z.1 _ _ h1)) ?_ ?_
    · rintro i x σ H' hx ⟨sm, D, us, t2, rfl, nD, hD, hU⟩
      obtain ⟨q, hq, rfl⟩ := vp_get hx
      have hi : i < fo.ps.length := (List.getElem?_eq_some_iff.mp hq).1
      have few1 := plans_few hp h7 (i + 1) hi
      have hul := plsLen hU
      refine ⟨_, rfl, D, rfl, ⟨_, .inl (.inl hD)⟩, fun E nE => ?_⟩
      have nE0 : H E = none := noneBack sm nE
      refine out_walk (walk_list (K := K) (xs := us)) (fun m G => Same H' G ∧ ∃ ws, G E = some (.lst ws) ∧ PlsR G ws (((plansL fo.ps i).take m).flatMap (stepL fo.ps i))) ⟨smUpd nE, [], upd_same, .nil⟩ (fun m G _ z => .inl (.inl (z.1 _ _ hD))) ?_ ?_
      · rintro m x G G' hm ⟨sm2, ws, hE, hW⟩ ⟨rfl, hx2⟩
        obtain ⟨lv, hlv, t, rfl, ht0⟩ := plsAt hU hx2
        have ht : TN _ t lv := sm2 _ _ ht0
        obtain ⟨hl, hup⟩ := plans_ok hp i (Nat.le_of_lt hi) lv (List.mem_of_getElem? hlv)
        have epa : pa fo.ps i = q := pa_of hq
        have hwl := plsLen hW
        have fl := flatTake_len (f := stepL fo.ps i) (plansL fo.ps i) m
        have fl2 : ((plansL fo.ps i).flatMap (stepL fo.ps i)).length ≤ 877 := few1
        have mo : mostLv lv q ≤ dep fo.ps i := by
          have := most_dep hp hup (by omega) hl.symm
          rwa [epa] at this
        have dl := dep_le hp hi
        refine ⟨rfl, _, rfl, rfl, _, rfl, ?_⟩
        refine mostIf2 (K := K) (D := t) (lv := lv) (i := 3) (j := 2) rfl rfl ht (fun p e => by rw [hl]; exact hp i p (by rw [hq, e])) ?_
        refine ⟨1, _, rfl, ⟨by decide, by decide, by omega, by omega⟩, ?_⟩
        rw [show (((mostLv lv q + 1 : Nat) : Int) - 1).toNat = mostLv lv q from by omega]
        have eL : stepL fo.ps i lv = lvs lv (mostLv lv q) := by unfold stepL lvs; rw [epa]
        refine in_walk (walk_range (lo := 1) (n := mostLv lv q)) (fun j G' => Same H' G' ∧ ∃ zs, G' E = some (.lst zs) ∧ PlsR G' zs (((plansL fo.ps i).take m).flatMap (stepL fo.ps i) ++ lvs lv j)) ⟨sm2, ws, hE, by unfold lvs; rw [List.range_zero, List.map_nil, List.append_nil]; exact hW⟩ (fun _ _ _ _ => trivial) ?_ ?_
        · rintro j x G1 G2 hj ⟨sm3, zs, hZ, hP⟩ ⟨rfl, rfl⟩
          have hzl := plsLen hP
          rw [List.length_append, lvs_len] at hzl
          have ht3 : TN G2 t lv := sm3 _ _ ht0
          show gName 4 (V.int (1 + (j : Int))) _ _ _
          refine ⟨rfl, _, rfl, _, rfl, by show 1 ≤ sizeLine; decide, fun u nu => ?_⟩
          have S6 := smUpd (o := .tup [.int (1 + (j : Int))]) nu
          refine catA (S6 _ _ ht3) upd_same (by rw [List.length_map, hl]; show i + 1 ≤ 1000; omega) fun e G3 s7 he => ?_
          have s57 := S6.trans s7
          have hZ7 := s57 _ _ hZ
          have hpv : PlR G3 (.ref e) (lv ++ [j + 1]) := ⟨e, rfl, tnAt he (by
            rw [List.map_append]
            show _ ++ [V.int (1 + (j : Int))] = _ ++ [V.int (((j + 1 : Nat)) : Int)]
            rw [show (((j + 1 : Nat)) : Int) = 1 + (j : Int) from by omega])⟩
          refine ⟨zs, hZ7, small1000 (by omega), smOver nE (sm3.trans s57), _, upd_same, ?_⟩
          rw [lvs_succ, ← List.append_assoc]
          exact plsUpd hZ7 (plsSnoc (plsSame s57 hP) hpv)
        · rintro G1 ⟨sm3, zs, hZ, hP⟩
          refine ⟨sm3, zs, hZ, ?_⟩
          rw [flat_at hlv, eL]
          exact hP
      · rintro G ⟨sm2, ws, hE, hW⟩
        rw [hul, List.take_length] at hW
        exact ⟨sm.trans sm2, E, ws, _, rfl, nE0, hE, hW⟩
    · rintro σ H' ⟨sm, D, us, t2, rfl, nD, hD, hU⟩
      rw [List.length_map] at hU
      exact ⟨_, rfl, k D us H' sm nD hD hU⟩
end
end Cn
namespace Cn
open PySem PySem.Spec PyProof.Rows L2 Ck
section
variable {P : Program} {w : World} {K : PySem.W.Frag} {mg : Str → Option Value} {base : Heap} {C : Addr}
def spPlans : Sp := fun vs H Q _ => ∃ (b : Addr) (ps : List (Option Nat)), vs = [.ref b] ∧ TP H b ps ∧ Ps ps ∧ ps.length ≤ 7 ∧
  ∀ r us H', Same H H' → H' r = some (.lst us) → PlsR H' us (plansL ps ps.length) → Q (.ref r) H'
def nPlans : List Str := ["_law_parents_here", "_law_found", "_law_parent", "_law_later", "_law_levels_here", "_law_most", "_law_level"]
theorem scPlans : FnScope nPlans ["_law_parents_here"] (defScope sPlans) := ⟨rfl, rfl, rfl, by decide +kernel, rfl, by decide +kernel, by decide +kernel⟩
theorem dPlans (B : Defs K mg C) : Def P w K mg base "_law_plans" 1 ["_law_parents_here"] spPlans := by
  have N := nOf B
  refine def_of B.plans fun f fd F => ?_
  refine F.ok scPlans (fun vs H Q E h => ?_) (fun cdv A outer s H vs Q E hr h => ?_)
  · obtain ⟨b, ps, rfl, _⟩ := h
    rfl
  · obtain ⟨b, ps, rfl, hb, hp, h7, k⟩ := h
    refine ⟨_, pss_cons (ps_set (i := 1) scPlans.nd rfl (Or.inl rfl) (pe_lst (pa_cons (pe_tup pa_nil) pa_nil)))
      (pss_cons (ps_for PassesOwn.never rfl (pi_tup (pv 0)) (pg_name (i := 2) scPlans.nd rfl (Or.inl rfl))
        (pss_cons (ps_set (i := 3) scPlans.nd rfl (Or.inl rfl) (pe_lst pa_nil))
        (pss_cons (ps_for PassesOwn.never rfl (pi_list (pv 1)) (pg_name (i := 4) scPlans.nd rfl (Or.inr rfl))
          (pss_cons (ps_set (i := 5) scPlans.nd rfl (Or.inl rfl) (pe_ifExp (pt_cmpR op_isN (pv 2) pe_non (nomark _)) pe_int (pe_op op_add (pe_ix ix_tup (pv 4) (pv 2) (fun _ _ => rfl)) pe_int)))
          (pss_one (ps_expr (pe_bm PySem.F.plainAttrs_list PySem.F.slot_list_extend PySem.F.type_list_extend mt_extend (pv 3) (pa_cons (pe_lc (own := [("_law_level", 6)]) (g := gName 6) (tt := tYes) (te := tOp (rCatA K) (tVar 4) (tTup (tCons (tVar 6) tNil))) rfl scPlans.nd (pi_range2 (by rfl) N.range (pa_cons pe_int (pa_cons (pe_op op_add (pv 5) pe_int) pa_nil)))
            (blkOk_by (N := nPlans) (sc := defScope sPlans) (by decide +kernel)) (fun _ _ _ _ _ => pg_name (i := 6) scPlans.nd rfl (Or.inl rfl)) (fun _ _ _ _ _ => pts_nil) (fun _ _ _ _ _ => pe_op (r := rCatA K) op_catA (pv 4) (pe_tup (pa_cons (pv 6) pa_nil)))) pa_nil))))))
        (pss_one (ps_set (i := 1) scPlans.nd rfl (Or.inl rfl) (pv 3))))))
      (pss_one (ps_ret (pv 1)))), ?_⟩
    refine ⟨by show 0 ≤ sizeLine; decide, fun t0 nt0 => ⟨by show 1 ≤ sizeLine; decide, fun D0 nD0 => ?_⟩⟩
    have S0 := smUpd (o := .tup []) nt0
    have ht0 : upd H t0 (.tup []) t0 = some (.tup []) := upd_same
    generalize upd H t0 (.tup []) = H1 at S0 nD0 ht0 ⊢
    have S1 := S0.trans (smUpd (o := .lst [.ref t0]) nD0)
    have hD1 : upd H1 D0 (.lst [.ref t0]) D0 = some (.lst [.ref t0]) := upd_same
    have ht1 := smUpd (o := .lst [.ref t0]) nD0 _ _ ht0
    generalize upd H1 D0 (.lst [.ref t0]) = H2 at S1 hD1 ht1 ⊢
    refine ⟨_, rfl, b, rfl, ⟨_, tpL (S1 _ _ hb)⟩, ?_⟩
    refine for_it (walk_tup (xs := ps.map vp)) (fun i σ H' => Same H H' ∧ ∃ (D : Addr) (us : List V) (t2 t3 t4 t5 t6 : Option V), σ = [some (.ref b), some (.ref D), t2, t3, t4, t5, t6] ∧ H' D = some (.lst us) ∧ PlsR H' us (plansL ps i)) ⟨S1, D0, _, _, _, _, _, _, rfl, hD1, .cons ⟨t0, rfl, ht1⟩ .nil⟩ (fun i σ H' _ z => tpL (z.1 _ _ hb)) ?_ ?_
    · rintro i x σ H1 H2 hi ⟨sm, D, us, t2, t3, t4, t5, t6, rfl, hD, hU⟩ ⟨rfl, hx⟩
      obtain ⟨q, hq, rfl⟩ := vp_get hx
      rw [List.length_map] at hi
      refine ⟨by show 0 ≤ sizeLine; decide, fun L nL => ?_⟩
      have SL := smUpd (o := .lst []) nL
      have few1 := plans_few hp h7 (i + 1) hi
      have hul := plsLen hU
      have hLL : upd H2 L (.lst []) L = some (.lst []) := upd_same
      generalize upd H2 L (.lst []) = H3 at SL hLL ⊢
      refine ⟨_, rfl, D, rfl, ⟨_, .inl (.inl (SL _ _ hD))⟩, ?_⟩
      refine for_it (walk_list (K := K) (xs := us)) (fun j σ H' => Same H2 H' ∧ ∃ (ws : List V) (t4 t5 t6 : Option V), σ = [some (.ref b), some (.ref D), some (vp q), some (.ref L), t4, t5, t6] ∧ H' L = some (.lst ws) ∧ PlsR H' ws (((plansL ps i).take j).flatMap (stepL ps i))) ⟨SL, [], _, _, _, rfl, hLL, .nil⟩ (fun j σ H' _ z => .inl (.inl (z.1 _ _ hD))) ?_ ?_
      · rintro j x σ H3 H4 hj ⟨sm3, ws, t4, t5, t6, rfl, hL, hW⟩ ⟨rfl, hx2⟩
        obtain ⟨lv, hlv, t, rfl, ht0⟩ := plsAt hU hx2
        have ht : TN _ t lv := sm3 _ _ ht0
        obtain ⟨hl, hup⟩ := plans_ok hp i (Nat.le_of_lt hi) lv (List.mem_of_getElem? hlv)
        have epa : pa ps i = q := pa_of hq
        have hwl := plsLen hW
        have fl := flatTake_len (f := stepL ps i) (plansL ps i) j
        have fl2 : ((plansL ps i).flatMap (stepL ps i)).length ≤ 877 := few1
        have mo : mostLv lv q ≤ dep ps i := by
          have := most_dep hp hup (by omega) hl.symm
          rwa [epa] at this
        have dl := dep_le hp hi
        have eL : stepL ps i lv = lvs lv (mostLv lv q) := by unfold stepL lvs; rw [epa]
        refine ⟨_, rfl, rfl, _, rfl, ?_⟩
        refine mostIfT (K := K) (D := t) (lv := lv) (i := 4) (j := 2) rfl rfl ht (fun p e => by rw [hl]; exact hp i p (by rw [hq, e])) ?_
        refine ⟨_, rfl, .inl ⟨rfl, _, .inl (.inl hL)⟩, _, rfl, _, _, rfl, rfl, 1, _, rfl, ⟨by decide, by decide, by omega, by omega⟩, fun E nE => ?_⟩
        rw [show (((mostLv lv q : Nat) : Int) + 1 - 1).toNat = mostLv lv q from by omega]
        refine lc_range (lo := 1) (n := mostLv lv q) (fun a H' => Same H4 H' ∧ ∃ zs, H' E = some (.lst zs) ∧ PlsR H' zs (lvs lv a)) ⟨smUpd nE, [], upd_same, .nil⟩ ?_ ?_
        · rintro a H5 ha ⟨s5, zs, hE, hZ⟩
          have hzl := plsLen hZ
          rw [lvs_len] at hzl
          refine ⟨rfl, _, rfl, _, rfl, by show 1 ≤ sizeLine; decide, fun u nu => ?_⟩
          have S6 := smUpd (o := .tup [.int (1 + (a : Int))]) nu
          refine catA (S6 _ _ (s5 _ _ ht)) upd_same (by rw [List.length_map, hl]; show i + 1 ≤ 1000; omega) fun e H7 s7 he => ?_
          have s57 := S6.trans s7
          have hE7 := s57 _ _ hE
          have hpv : PlR H7 (.ref e) (lv ++ [a + 1]) := ⟨e, rfl, tnAt he (by
            rw [List.map_append]
            show _ ++ [V.int (1 + (a : Int))] = _ ++ [V.int (((a + 1 : Nat)) : Int)]
            rw [show (((a + 1 : Nat)) : Int) = 1 + (a : Int) from by omega])⟩
          refine ⟨zs, hE7, small1000 (by omega), smOver nE (s5.trans s57), _, upd_same, ?_⟩
          rw [lvs_succ]
          exact plsUpd hE7 (plsSnoc (plsSame s57 hZ) hpv)
        · rintro H5 ⟨s5, zs, hE, hZ⟩
          have hL5 := s5 _ _ hL
          have hzl := plsLen hZ
          rw [lvs_len] at hzl
          refine ⟨L, E, ws, zs, rfl, rfl, hL5, hE, Nat.le_of_lt (small4000 (by omega)), ?_⟩
          refine ⟨smOver nL (sm3.trans s5), ws ++ zs, _, _, _, rfl, upd_same, ?_⟩
          rw [flat_at hlv, eL]
          exact plsUpd hL5 (plsApp (plsSame s5 hW) hZ)
      · rintro σ H3 ⟨sm3, ws, t4, t5, t6, rfl, hL, hW⟩
        rw [hul, List.take_length] at hW
        exact ⟨_, rfl, sm.trans sm3, L, ws, _, _, _, _, _, rfl, hL, hW⟩
    · rintro σ H1 ⟨sm, D, us, t2, t3, t4, t5, t6, rfl, hD, hU⟩
      rw [List.length_map] at hU
      exact ⟨_, rfl, k D us H1 sm hD hU⟩
end
end Cn
namespace Cn
open PySem PySem.Spec PyProof.Rows L2 Ck
section
variable {P : Program} {w : World} {K : PySem.W.Frag} {mg : Str → Option Value} {base : Heap} {C : Addr}
def spBrk : Sp := fun vs H Q _ => ∃ (n : Nat), vs = [vn n] ∧ n ≤ 60 ∧ Q (vn (brk n)) H
def nBrk : List Str := ["_law_places", "_law_found", "_law_many"]
theorem scBrk : FnScope nBrk ["_law_places"] (defScope sBrk) := ⟨rfl, rfl, rfl, by decide +kernel, rfl, by decide +kernel, by decide +kernel⟩
theorem dBrk (B : Defs K mg C) : Def P w K mg base "_law_bracketings" 1 ["_law_places"] spBrk := by
  have N := B.N
  have nd := scBrk.nd
  refine def_of B.brk fun f fd F => ?_
  refine F.ok scBrk (fun vs H Q E h => ?_) (fun cdv A outer s H vs Q E hr h => ?_)
  · obtain ⟨n, rfl, _⟩ := h
    rfl
  · obtain ⟨n, rfl, h60, k⟩ := h
    refine ⟨_, pss_cons (ps_set (i := 1) nd rfl (Or.inl rfl) pe_int)
      (pss_cons (ps_for PassesOwn.never rfl (pi_range1 (by rfl) N.range (pa_cons (pv 0) pa_nil)) (pg_name (i := 2) nd rfl (Or.inl rfl))
        (pss_one (ps_set (i := 1) nd rfl (Or.inl rfl) (pe_op op_fdivW (pe_op op_mulW (pe_op op_mulW (pv 1) pe_int) (pe_op op_add (pe_op op_mulW pe_int (pv 2)) pe_int)) (pe_op op_add (pv 2) pe_int)))))
      (pss_one (ps_ret (pv 1)))), ?_⟩
    refine ⟨_, rfl, _, rfl, by omega, by omega, ?_⟩
    rw [Int.toNat_natCast]
    refine for_range (lo := 0) (n := n) (fun i σ H' => H' = H ∧ ∃ t2, σ = [some (vn n), some (vn (brk i)), t2]) ⟨rfl, none, rfl⟩ ?_ ?_
    · rintro i σ H' hi ⟨rfl, t2, rfl⟩
      rw [Int.zero_add]
      have b1 : brk i ≤ 2 ^ 200 := Nat.le_of_lt (brk_small i (by omega))
      have b2 : brk i * 2 ≤ 2 ^ 201 := by rw [Nat.pow_succ]; omega
      refine ⟨_, rfl, _, _, rfl, rfl, ?_, _, rfl, _, _, rfl, rfl, ?_, _, _, rfl, rfl, _, _, rfl, rfl, ?_, _, rfl, _, _, rfl, rfl, _, _, rfl, rfl, ?_, rfl, some (vn i), ?_⟩
      · exact wideMul (b := 2) (y := 10) b1 (by decide) (by decide)
      · exact wideMul (a := 2) (x := 10) (y := 10) (by decide) (show i ≤ 1024 by omega) (by decide)
      · show CMulW (((brk i : Nat) : Int) * 2) (2 * ((i : Nat) : Int) + 1)
        rw [show ((brk i : Nat) : Int) * 2 = ((brk i * 2 : Nat) : Int) from by omega, show 2 * ((i : Nat) : Int) + 1 = ((2 * i + 1 : Nat) : Int) from by omega]
        exact wideMul (y := 10) b2 (show 2 * i + 1 ≤ 1024 by omega) (by decide)
      · show CDivW _ (((i : Nat) : Int) + 2)
        rw [show ((i : Nat) : Int) + 2 = ((i + 2 : Nat) : Int) from by omega, show ((brk i : Nat) : Int) * 2 * (2 * ((i : Nat) : Int) + 1) = ((brk i * 2 * (2 * i + 1) : Nat) : Int) from by rw [Int.natCast_mul, Int.natCast_mul]; rfl]
        exact wideDiv (y := 10) (by omega) (show i + 2 ≤ 1024 by omega) (by decide)
      · show [_, some (V.int (((brk i : Nat) : Int) * 2 * (2 * ((i : Nat) : Int) + 1) / (((i : Nat) : Int) + 2))), _] = [_, some (V.int ((brk i * 2 * (2 * i + 1) / (i + 2) : Nat) : Int)), _]
        rw [Int.natCast_ediv, Int.natCast_mul, Int.natCast_mul]; rfl
    · rintro σ H' ⟨rfl, t2, rfl⟩
      exact ⟨_, rfl, k⟩
/-! the last plan -/
def spLast : Sp := fun vs H Q _ => ∃ (b : Addr) (ps : List (Option Nat)), vs = [.ref b] ∧ TP H b ps ∧ Ps ps ∧ ps.length ≤ 60 ∧ ∀ r lv H', Same H H' → TN H' r lv → Lv ps lv → nmb ps lv ps.length = tot ps - 1 → Q (.ref r) H'
def nLast : List Str := ["_law_parents_here", "_law_found", "_law_parent"]
theorem scLast : FnScope nLast ["_law_parents_here"] (defScope sLast) := ⟨rfl, rfl, rfl, by decide +kernel, rfl, by decide +kernel, by decide +kernel⟩
theorem dLast (B : Defs K mg C) : Def P w K mg base "_law_last" 1 ["_law_parents_here"] spLast := by
  have N := B.N
  have nd := scLast.nd
  refine def_of B.las fun f fd F => ?_
  refine F.ok scLast (fun vs H Q E h => ?_) (fun cdv A outer s H vs Q E hr h => ?_)
  · obtain ⟨b, ps, rfl, _⟩ := h
    rfl
  · obtain ⟨b, ps, rfl, hb, hp, h60, k⟩ := h
    refine ⟨_, pss_cons (ps_set (i := 1) nd rfl (Or.inl rfl) (pe_tup pa_nil))
      (pss_cons (ps_for PassesOwn.never rfl (pi_tup (pv 0)) (pg_name (i := 2) nd rfl (Or.inl rfl))
        (pss_one (ps_set (i := 1) nd rfl (Or.inl rfl) (pe_op op_catA (pv 1) (pe_tup (pa_cons (pe_ifExp (pt_cmpR op_isN (pv 2) pe_non (nomark _)) pe_int (pe_op op_add (pe_ix ix_tup (pv 1) (pv 2) (fun _ _ => rfl)) pe_int)) pa_nil))))))
      (pss_one (ps_ret (pv 1)))), ?_⟩
    refine ⟨by show 0 ≤ sizeLine; decide, fun t nt => ?_⟩
    have S1 := smUpd (o := .tup []) nt
    have ht1 : upd H t (.tup []) t = some (.tup []) := upd_same
    generalize upd H t (.tup []) = H1 at S1 ht1 ⊢
    refine ⟨_, rfl, b, rfl, ⟨_, tpL (S1 _ _ hb)⟩, ?_⟩
    refine for_tup (xs := ps.map vp) (fun i σ H' => Same H H' ∧ ∃ (t : Addr) (lv : List Nat) (t2 : Option V), σ = [some (.ref b), some (.ref t), t2] ∧ TN H' t lv ∧ lv.length = i ∧ LvUp ps lv ∧ ∀ j, j < i → lv.getD j 0 = mostLv lv (pa ps j)) ⟨S1, t, [], none, rfl, ht1, rfl, (fun j l o h => (by rw [List.getElem?_nil] at h; cases h)), (fun j h => absurd h (Nat.not_lt_zero _))⟩ (fun i σ H' _ z => tpL (z.1 _ _ hb)) ?_ ?_
    · rintro i x σ H2 hx ⟨sm, t, lv, t2, rfl, ht, hl, hv, hm⟩
      obtain ⟨q, hq, rfl⟩ := vp_get hx
      have hi : i < ps.length := (List.getElem?_eq_some_iff.mp hq).1
      have epa : pa ps i = q := pa_of hq
      refine ⟨_, rfl, _, rfl, rfl, _, rfl, ?_⟩
      refine mostIfT (K := K) (D := t) (lv := lv) (i := 1) (j := 2) rfl rfl ht (fun p e => by rw [hl]; exact hp i p (by rw [hq, e])) ?_
      refine ⟨by show 1 ≤ sizeLine; decide, fun u nu => ?_⟩
      have S4 := smUpd (o := .tup [vn (mostLv lv q)]) nu
      have hu : upd H2 u (.tup [vn (mostLv lv q)]) u = some (.tup [vn (mostLv lv q)]) := upd_same
      generalize upd H2 u (.tup [vn (mostLv lv q)]) = H3 at S4 hu ⊢
      refine catA (S4 _ _ ht) hu (by rw [List.length_map, hl]; show i + 1 ≤ 1000; omega) fun e H5 s5 he => ?_
      refine ⟨sm.trans (S4.trans s5), e, lv ++ [mostLv lv q], some (vp q), rfl, tnAt he (by rw [List.map_append]; rfl), by rw [List.length_append, hl]; rfl, lvUp_snoc hp hv (by omega) (by rw [← epa]; exact most_pos) (by rw [hl, epa]; exact Nat.le_refl _), fun j hj => ?_⟩
      have em : mostLv (lv ++ [mostLv lv q]) (pa ps j) = mostLv lv (pa ps j) := mostApp fun m e => by
        rw [hl]
        obtain ⟨o, ho⟩ : ∃ o, ps[j]? = some o := ⟨_, List.getElem?_eq_getElem (by omega)⟩
        rw [pa_of ho] at e
        have := hp j m (by rw [ho, e])
        omega
      rw [em]
      by_cases c : j < i
      · rw [agree_snoc hl j c]
        exact hm j c
      · have ej : j = i := by omega
        subst ej
        rw [getD_snoc hl, epa]
    · rintro σ H2 ⟨sm, t, lv, t2, rfl, ht, hl, hv, hm⟩
      rw [List.length_map] at hl hm
      exact ⟨_, rfl, k t lv H2 sm ht ⟨hl, hv⟩ (last_is hp hm)⟩
/-! a drawn number -/
def spLNumber : Sp := fun vs H Q _ => ∃ (p c : Addr) (cells : List Int) (m : Nat), vs = [.ref p, vn m] ∧ HandIn H p c cells ∧ 1 ≤ m ∧ ∀ (x : Nat) (H' : Hp), x < m → HandIn H' p c cells → Kept p H H' → Q (vn x) H'
def nLNumber : List Str := ["_law_hand_here", "_law_many", "_law_found", "_law_turn"]
theorem scLNumber : FnScope nLNumber ["_law_hand_here", "_law_many"] (defScope sLNumber) := ⟨rfl, rfl, rfl, by decide +kernel, rfl, by decide +kernel, by decide +kernel⟩
theorem dLNumber (B : Defs K mg C) : Def P w K mg base "_law_number" 2 ["_law_hand_here", "_law_many"] spLNumber := by
  obtain ⟨fD, fdD, GD, gD, kD, bD⟩ := dDraw (P := P) (w := w) (base := base) B
  have N := B.N
  have nd := scLNumber.nd
  refine def_of B.lnu fun f fd F => ?_
  refine F.ok scLNumber (fun vs H Q E h => ?_) (fun cdv A outer s H vs Q E hr h => ?_)
  · obtain ⟨p, c, cells, m, rfl, _⟩ := h
    rfl
  · obtain ⟨p, c, cells, m, rfl, hI, hm, k⟩ := h
    refine ⟨_, pss_cons (ps_set (i := 2) nd rfl (Or.inl rfl) pe_int)
      (pss_cons (ps_for PassesOwn.never rfl (pi_range1 (by rfl) N.range (pa_cons pe_int pa_nil)) (pg_name (i := 3) nd rfl (Or.inl rfl))
        (pss_one (ps_set (i := 2) nd rfl (Or.inl rfl) (pe_op op_add (pe_op op_mul (pv 2) pe_int) (pe_call GD hr (by rfl) gD kD bD .nil pass0 (pa_cons (pv 0) (pa_cons pe_int pa_nil)))))))
      (pss_one (ps_ret (pe_op op_modN (pe_callTy call_int1 (by rfl) N.int (by decide +kernel) (pa_cons (pv 2) pa_nil)) (pv 1))))), ?_⟩
    refine ⟨10, rfl, by decide, by decide, ?_⟩
    refine for_range (lo := 0) (n := 10) (fun _ σ H' => HandIn H' p c cells ∧ Kept p H H' ∧ ∃ (z : Int) (t3 : Option V), σ = [some (.ref p), some (vn m), some (.int z), t3]) ⟨hI, kept_same (Same.refl _), 0, none, rfl⟩ ?_ ?_
    · rintro i σ H' hi ⟨hI1, k1, z, t3, rfl⟩
      refine ⟨_, rfl, _, _, rfl, rfl, .inr ⟨by decide, by decide⟩, _, rfl, p, c, cells, 1000003, rfl, hI1, by decide, by decide, fun d a1 a2 a3 a4 d0 d1 a10 => ?_⟩
      exact ⟨_, _, rfl, rfl, handIn_upd hI1 a10, kept_trans k1 (kept_hand (p := p) (o := handL c a1 a2 a3 a4)), _, _, rfl⟩
    · rintro σ H' ⟨hI1, k1, z, t3, rfl⟩
      refine ⟨_, rfl, .inl ⟨z, rfl, _, rfl, _, _, rfl, rfl, by omega, ?_⟩⟩
      have b := fmB (a := z) (k := ((m : Nat) : Int)) (by omega)
      obtain ⟨x, hx⟩ := Int.eq_ofNat_of_zero_le b.1
      rw [show (fun i j : Int => V.int (i.fmod j)) z ((m : Nat) : Int) = vn x from by show V.int _ = V.int _; rw [hx]]
      exact k x H' (by omega) hI1 k1
end
end Cn
namespace Cn
open PySem PySem.Spec PyProof.Rows L2 Ck
def tab (N : Nat) (f : Nat → Nat) : List Nat := (List.range N).map f
theorem tab_len {N : Nat} {f : Nat → Nat} : (tab N f).length = N := by unfold tab; rw [List.length_map, List.length_range]
theorem tab_at {N t : Nat} {f : Nat → Nat} (h : t < N) : (tab N f)[t]? = some (f t) := by unfold tab; rw [List.getElem?_map, List.getElem?_range h]; rfl
theorem tab_congr {N : Nat} {f g : Nat → Nat} (h : ∀ t, t < N → f t = g t) : tab N f = tab N g := List.map_congr_left fun t ht => h t (List.mem_range.mp ht)
theorem tab_none {N t : Nat} {f : Nat → Nat} (h : ¬ t < N) : (tab N f)[t]? = none := List.getElem?_eq_none (by rw [tab_len]; omega)
theorem tab_set {N k v : Nat} {f : Nat → Nat} : (tab N f).set k v = tab N fun x => if x = k then v else f x := by
  refine List.ext_getElem? fun t => ?_
  rw [List.getElem?_set]
  by_cases c : t < N
  · rw [tab_at (f := fun x => if x = k then v else f x) c]
    by_cases d : k = t
    · rw [if_pos d, if_pos (by rw [tab_len]; omega), if_pos d.symm]
    · rw [if_neg d, tab_at c, if_neg fun z => d z.symm]
  · rw [tab_none (f := fun x => if x = k then v else f x) c, tab_none c]
    by_cases d : k = t
    · rw [if_pos d, if_neg (by rw [tab_len]; omega)]
    · rw [if_neg d]
/-- the ways of q with t, by what hangs at it from s on alone -/
def part (ps : List (Option Nat)) (s q t : Nat) : Nat := prN (fun c => if kid ps q c = true ∧ s ≤ c then sumN (wy ps c) (t + 1) else 1) ps.length
def rootPart (ps : List (Option Nat)) (s : Nat) : Nat := prN (fun q => if ps[q]? = some none ∧ s ≤ q then wy ps q 1 else 1) ps.length
section
variable {ps : List (Option Nat)} {s q t p : Nat}
theorem part_end : part ps ps.length q t = 1 := prN_one fun c hc => if_neg fun z => by omega
theorem rootPart_end : rootPart ps ps.length = 1 := prN_one fun c hc => if_neg fun z => by omega
theorem part_own (hp : Ps ps) (hq : q < ps.length) (h : s ≤ q + 1) : part ps s q t = wy ps q t := by
  rw [wy_eq hp hq]
  refine prN_congr fun c hc => ?_
  by_cases k : kid ps q c = true
  · have := kid_lt hp k
    rw [if_pos ⟨k, by omega⟩, if_pos k]
  · rw [if_neg fun z => k z.1, if_neg k]
theorem part_le (hp : Ps ps) (hq : q < ps.length) : part ps s q t ≤ wy ps q t := by
  rw [wy_eq hp hq]
  refine prN_le fun c hc => ?_
  by_cases k : kid ps q c = true
  · rw [if_pos k]
    by_cases d : s ≤ c
    · rw [if_pos ⟨k, d⟩]; exact Nat.le_refl _
    · rw [if_neg fun z => d z.2]; exact sumwy_pos (by omega)
  · rw [if_neg fun z => k z.1, if_neg k]; exact Nat.le_refl _
theorem part_pos : 1 ≤ part ps s q t := prN_pos fun c _ => by
  split
  · exact sumwy_pos (by omega)
  · exact Nat.le_refl _
theorem part_down (hpl : p < ps.length) : part ps p q t = part ps (p + 1) q t * (if kid ps q p = true then sumN (wy ps p) (t + 1) else 1) := by
  have e : part ps p q t = prN (fun c => (if kid ps q c = true ∧ p + 1 ≤ c then sumN (wy ps c) (t + 1) else 1) * (if c = p then (if kid ps q p = true then sumN (wy ps p) (t + 1) else 1) else 1)) ps.length := by
    refine prN_congr fun c hc => ?_
    by_cases d : c = p
    · subst d
      rw [if_pos rfl]
      by_cases k : kid ps q c = true
      · rw [if_pos ⟨k, Nat.le_refl _⟩, if_neg fun z => by have := z.2; omega, if_pos k, Nat.one_mul]
      · rw [if_neg fun z => k z.1, if_neg fun z => k z.1, if_neg k]
    · rw [if_neg d, Nat.mul_one]
      by_cases k : kid ps q c = true ∧ p ≤ c
      · rw [if_pos k, if_pos ⟨k.1, by omega⟩]
      · rw [if_neg k, if_neg fun z => k ⟨z.1, by omega⟩]
  rw [e, prN_mul, prN_single hpl]; rfl
theorem rootPart_down (hpl : p < ps.length) : rootPart ps p = rootPart ps (p + 1) * (if ps[p]? = some none then wy ps p 1 else 1) := by
  have e : rootPart ps p = prN (fun c => (if ps[c]? = some none ∧ p + 1 ≤ c then wy ps c 1 else 1) * (if c = p then (if ps[p]? = some none then wy ps p 1 else 1) else 1)) ps.length := by
    refine prN_congr fun c hc => ?_
    by_cases d : c = p
    · subst d
      rw [if_pos rfl]
      by_cases k : ps[c]? = some none
      · rw [if_pos ⟨k, Nat.le_refl _⟩, if_neg fun z => by have := z.2; omega, if_pos k, Nat.one_mul]
      · rw [if_neg fun z => k z.1, if_neg fun z => k z.1, if_neg k]
    · rw [if_neg d, Nat.mul_one]
      by_cases k : ps[c]? = some none ∧ p ≤ c
      · rw [if_pos k, if_pos ⟨k.1, by omega⟩]
      · rw [if_neg k, if_neg fun z => k ⟨z.1, by omega⟩]
  rw [e, prN_mul, prN_single hpl]; rfl
theorem rootPart_zero : rootPart ps 0 = tot ps := prN_congr fun q _ => by
  by_cases k : ps[q]? = some none
  · rw [if_pos ⟨k, Nat.zero_le _⟩, if_pos k]
  · rw [if_neg fun z => k z.1, if_neg k]
theorem rootPart_le : rootPart ps s ≤ tot ps := by
  rw [← rootPart_zero]
  refine prN_le fun q _ => ?_
  by_cases k : ps[q]? = some none
  · rw [if_pos (⟨k, Nat.zero_le q⟩ : ps[q]? = some none ∧ 0 ≤ q)]
    split
    · exact Nat.le_refl _
    · exact wy_pos
  · rw [if_neg fun z => k z.1, if_neg fun z => k z.1]; exact Nat.le_refl _
/-- what the law's own rows hold where the places from s on are gone through -/
structure RowsIn (ps : List (Option Nat)) (s : Nat) (R : Nat → Nat → Nat) : Prop where
  le : ∀ q t, q < ps.length → 1 ≤ t → t ≤ ps.length + 1 → R q t ≤ part ps s q t
  eq : ∀ q t, q < ps.length → 1 ≤ t → t ≤ dep ps q → R q t = part ps s q t
theorem rowsIn0 : RowsIn ps ps.length fun _ _ => 1 := ⟨fun q t _ _ _ => part_pos, fun q t _ _ _ => part_end.symm⟩
theorem rowsIn_root {R : Nat → Nat → Nat} (hpl : p < ps.length) (h : ps[p]? = some none) (k : RowsIn ps (p + 1) R) : RowsIn ps p R := by
  have e : ∀ q t, part ps p q t = part ps (p + 1) q t := fun q t => by
    rw [part_down hpl, if_neg (fun z => (by have := kid_iff.mp z; rw [h] at this; cases this)), Nat.mul_one]
  exact ⟨fun q t h1 h2 h3 => by rw [e]; exact k.le q t h1 h2 h3, fun q t h1 h2 h3 => by rw [e]; exact k.eq q t h1 h2 h3⟩
/-- row r with its entries up to l times what has been added -/
def stepR (R : Nat → Nat → Nat) (p r l : Nat) : Nat → Nat → Nat := fun q t => if q = r ∧ 1 ≤ t ∧ t ≤ l then R r t * sumN (R p) (t + 1) else R q t
theorem rowsIn_kid {R : Nat → Nat → Nat} {r : Nat} (hp : Ps ps) (hpl : p < ps.length) (h : ps[p]? = some (some r)) (k : RowsIn ps (p + 1) R) : RowsIn ps p (stepR R p r ps.length) := by
  have hrp := hp p r h
  have hk : kid ps r p = true := kid_iff.mpr h
  have hd := dep_kid hp h
  have hdr := dep_le hp (show r < ps.length by omega)
  have own : ∀ t, part ps (p + 1) p t = wy ps p t := fun t => part_own hp hpl (Nat.le_refl _)
  have other : ∀ q t, q ≠ r → part ps p q t = part ps (p + 1) q t := fun q t ne => by
    rw [part_down hpl, if_neg fun z => ne (by have := kid_iff.mp z; rw [h] at this; cases this; rfl), Nat.mul_one]
  have mine : ∀ t, part ps p r t = part ps (p + 1) r t * sumN (wy ps p) (t + 1) := fun t => by rw [part_down hpl, if_pos hk]
  refine ⟨fun q t h1 h2 h3 => ?_, fun q t h1 h2 h3 => ?_⟩
  · by_cases c : q = r
    · subst c
      rw [mine]
      by_cases d : t ≤ ps.length
      · rw [show stepR R p q ps.length q t = R q t * sumN (R p) (t + 1) from if_pos ⟨rfl, h2, d⟩]
        exact Nat.mul_le_mul (k.le q t h1 h2 h3) (sumN_le fun m m1 m2 => by rw [← own]; exact k.le p m hpl m1 (by omega))
      · rw [show stepR R p q ps.length q t = R q t from if_neg fun z => d z.2.2]
        exact Nat.le_trans (k.le q t h1 h2 h3) (Nat.le_mul_of_pos_right _ (sumwy_pos (by omega)))
    · rw [show stepR R p r ps.length q t = R q t from if_neg fun z => c z.1, other q t c]
      exact k.le q t h1 h2 h3
  · by_cases c : q = r
    · subst c
      rw [mine, show stepR R p q ps.length q t = R q t * sumN (R p) (t + 1) from if_pos ⟨rfl, h2, by omega⟩, k.eq q t h1 h2 h3]
      congr 1
      exact sumN_congr fun m m1 m2 => by rw [k.eq p m hpl m1 (by omega), own]
    · rw [show stepR R p r ps.length q t = R q t from if_neg fun z => c z.1, other q t c]
      exact k.eq q t h1 h2 h3
end
section
variable {P : Program} {w : World} {K : PySem.W.Frag} {mg : Str → Option Value} {base : Heap} {C : Addr}
def spLCounted : Sp := fun vs H Q _ => ∃ (b : Addr) (ps : List (Option Nat)), vs = [.ref b] ∧ TP H b ps ∧ Ps ps ∧ ps.length ≤ 60 ∧ ∀ H', Same H H' → Q (vn (tot ps)) H'
def nLCounted : List Str := ["_law_parents_here", "_law_most", "_law_parent", "_law_ways", "_law_total", "_law_place", "_law_added", "_law_level"]
theorem scLCounted : FnScope nLCounted ["_law_parents_here"] (defScope sLCounted) := ⟨rfl, rfl, rfl, by decide +kernel, rfl, by decide +kernel, by decide +kernel⟩
theorem dLCounted (B : Defs K mg C) : Def P w K mg base "_law_counted" 1 ["_law_parents_here"] spLCounted := by
  have N := B.N
  have nd := scLCounted.nd
  refine def_of B.lcn fun f fd F => ?_
  refine F.ok scLCounted (fun vs H Q E h => ?_) (fun cdv A outer s H vs Q E hr h => ?_)
  · obtain ⟨b, ps, rfl, _⟩ := h
    rfl
  · obtain ⟨b, ps, rfl, hb, hp, h60, k⟩ := h
    refine ⟨_, pss_cons (ps_set (i := 1) nd rfl (Or.inr rfl) (pe_op op_add (pe_callB call_len_seq (by rfl) N.is.len PySem.boot_len (pa_cons (pv 0) pa_nil)) pe_int))
      (pss_cons (ps_setLc (i := 3) (own := [("_law_parent", 2)]) (g := gName 2) (tt := tYes) rfl nd rfl rfl (sw_true rfl rfl rfl (by decide +kernel))
        (pi_tup (pv 0)) (blkOk_by (N := nLCounted) (sc := defScope sLCounted) (by decide +kernel)) (fun _ _ _ _ _ => pg_name (i := 2) nd rfl (Or.inl rfl)) (fun _ _ _ _ _ => pts_nil)
        (fun _ _ _ _ _ => pe_op op_rep (pe_lst (pa_cons pe_int pa_nil)) (pe_op op_add (pv 1) pe_int)))
      (pss_cons (ps_set (i := 4) nd rfl (Or.inl rfl) pe_int)
      (pss_cons (ps_for PassesOwn.never rfl (pi_range3 (by rfl) N.range (pa_cons (pe_op op_sub (pe_callB call_len_seq (by rfl) N.is.len PySem.boot_len (pa_cons (pv 0) pa_nil)) pe_int) (pa_cons (pe_un un_neg pe_int) (pa_cons (pe_un un_neg pe_int) pa_nil)))) (pg_name (i := 5) nd rfl (Or.inl rfl))
        (pss_cons (ps_set (i := 2) nd rfl (Or.inl rfl) (pe_ix ix_tup (pv 0) (pv 5) (fun _ _ => rfl)))
        (pss_one (ps_if (pt_cmpR op_isN (pv 2) pe_non (nomark _))
          (pss_one (ps_set (i := 4) nd rfl (Or.inl rfl) (pe_op op_mulW (pv 4) (pe_ix ix_list (pe_ix ix_list (pv 3) (pv 5) (fun _ _ => rfl)) pe_int (fun _ _ => rfl)))))
          (pss_cons (ps_set (i := 6) nd rfl (Or.inl rfl) pe_int)
          (pss_one (ps_for PassesOwn.never rfl (pi_range2 (by rfl) N.range (pa_cons pe_int (pa_cons (pv 1) pa_nil))) (pg_name (i := 7) nd rfl (Or.inl rfl))
            (pss_cons (ps_if (pt_cmpR op_eq (pv 7) pe_int (nomark _)) (pss_one (ps_set (i := 6) nd rfl (Or.inl rfl) (pe_ix ix_list (pe_ix ix_list (pv 3) (pv 5) (fun _ _ => rfl)) pe_int (fun _ _ => rfl)))) pss_nil)
            (pss_cons (ps_set (i := 6) nd rfl (Or.inl rfl) (pe_op op_add (pv 6) (pe_ix ix_list (pe_ix ix_list (pv 3) (pv 5) (fun _ _ => rfl)) (pe_op op_add (pv 7) pe_int) (fun _ _ => rfl))))
            (pss_one (ps_asg (pe_op op_mulW (pe_ix ix_list (pe_ix ix_list (pv 3) (pv 2) (fun _ _ => rfl)) (pv 7) (fun _ _ => rfl)) (pv 6)) (pg_sub (pe_ix ix_list (pv 3) (pv 2) (fun _ _ => rfl)) (pv 7) set_list))))))))))))
      (pss_one (ps_ret (pv 4)))))), ?_⟩
    refine ⟨_, rfl, b, _, rfl, .inr (tpL hb), _, _, rfl, rfl, ?_⟩
    rw [List.length_map]
    refine ⟨_, rfl, b, rfl, ⟨_, tpL hb⟩, fun D2 nD2 => ?_⟩
    refine lc_tup (xs := ps.map vp) (fun i H' => Same H H' ∧ ∃ us, H' D2 = some (.lst us) ∧ RowsL H H' (fun q => tab (ps.length + 2) fun _ => 1) i us ∧ ∀ i : Nat, us[i]? ≠ some (V.ref D2)) ⟨smUpd nD2, [], upd_same, rowsL0, fun i z => by rw [List.getElem?_nil] at z; cases z⟩ (fun i H' _ z => tpL (z.1 _ _ hb)) ?_ ?_
    · rintro i x H' hx ⟨sm, us, hD2, hR, neD⟩
      obtain ⟨q, hq, rfl⟩ := vp_get hx
      have hi : i < ps.length := (List.getElem?_eq_some_iff.mp hq).1
      refine ⟨rfl, by show 1 ≤ sizeLine; decide, fun l0 nl0 => ⟨_, rfl, _, _, rfl, rfl, l0, _, _, rfl, rfl, upd_same, by omega, by omega, Nat.le_of_lt (small1000 (by show 1 * _ ≤ 1000; omega)), fun r nr => ?_⟩⟩
      have S2 := smUpd (o := .lst [V.int 1]) nl0
      generalize upd H' l0 (.lst [V.int 1]) = H2 at S2 nr ⊢
      have e0 : (List.replicate (((ps.length : Nat) : Int) + 1 + 1).toNat [V.int 1]).flatten = (tab (ps.length + 2) fun _ => 1).map vn := by
        rw [show (((ps.length : Nat) : Int) + 1 + 1).toNat = ps.length + 2 from by omega]
        unfold tab
        rw [List.map_map]
        generalize ps.length + 2 = n
        induction n with
        | zero => rfl
        | succ n ih => rw [List.replicate_succ', List.flatten_append, ih, List.range_succ, List.map_append]; rfl
      rw [e0]
      have S3 := S2.trans (smUpd (o := .lst ((tab (ps.length + 2) fun _ => 1).map vn)) nr)
      have hr1 : upd H2 r (.lst ((tab (ps.length + 2) fun _ => 1).map vn)) r = some (.lst ((tab (ps.length + 2) fun _ => 1).map vn)) := upd_same
      have nr1 : H r = none := noneBack (sm.trans S2) nr
      have newr : ∀ i : Nat, us[i]? ≠ some (V.ref r) := fun j z => by
        have hj : j < i := by rw [← hR.len]; exact (List.getElem?_eq_some_iff.mp z).1
        obtain ⟨q, q1, q2, _⟩ := hR.at_ j hj
        rw [z] at q1
        cases q1
        rw [S2 _ _ q2] at nr
        cases nr
      have neR : r ≠ D2 := fun z => by rw [z, S2 _ _ hD2] at nr; cases nr
      generalize upd H2 r (.lst ((tab (ps.length + 2) fun _ => 1).map vn)) = H3 at S3 hr1 ⊢
      have neD' : ∀ j : Nat, (us ++ [V.ref r])[j]? ≠ some (V.ref D2) := fun j z => by
        by_cases c : j < us.length
        · rw [List.getElem?_append_left c] at z
          exact neD j z
        · rw [List.getElem?_append_right (by omega)] at z
          have := List.mem_of_getElem? z
          rw [List.mem_singleton] at this
          cases this
          exact neR rfl
      exact ⟨us, S3 _ _ hD2, by rw [hR.len]; exact small1000 (by omega), smOver nD2 (sm.trans S3), _, upd_same, rowsLupd (rowsLadd (rowsLsame S3 hR) hr1 nr1 newr) neD', neD'⟩
    · rintro H2 ⟨s2, us, hD2, hR, neD⟩
      rw [List.length_map] at hR
      have hb2 := s2 _ _ hb
      refine ⟨_, rfl, b, _, rfl, .inr (tpL hb2), _, _, rfl, rfl, _, rfl, _, rfl, _, _, _, _, rfl, RgC.neg (by rw [List.length_map]; omega) (by rw [List.length_map]; omega) (by decide) (by decide), ?_⟩
      rw [List.length_map, show (((ps.length : Nat) : Int) - 1 - -1).toNat = ps.length from by omega]
      refine for_rangeC (fun j σ G => Same H G ∧ G D2 = some (.lst us) ∧ ∃ (R : Nat → Nat → Nat) (t2 t5 t6 t7 : Option V), RowsIn ps (ps.length - j) R ∧ RowsL H G (fun q => tab (ps.length + 2) (R q)) ps.length us ∧ σ = [some (.ref b), some (.int ((ps.length : Int) + 1)), t2, some (.ref D2), some (vn (rootPart ps (ps.length - j))), t5, t6, t7]) ⟨s2, hD2, fun _ _ => 1, _, _, _, _, by rw [Nat.sub_zero]; exact rowsIn0, hR, by rw [Nat.sub_zero, rootPart_end]; rfl⟩ ?_ ?_
      · rintro j σ G hj ⟨sm, hG, R, t2, t5, t6, t7, hRI, hRG, rfl⟩
        obtain ⟨pl, epl⟩ : ∃ pl, pl = ps.length - 1 - j := ⟨_, rfl⟩
        have hpl : pl < ps.length := by omega
        have es : ps.length - j = pl + 1 := by omega
        have es1 : ps.length - (j + 1) = pl := by omega
        rw [es] at hRI ⊢
        rw [es1]
        rw [show ((ps.length : Nat) : Int) - 1 + ((j : Nat) : Int) * -1 = ((pl : Nat) : Int) from by omega]
        obtain ⟨q, hq⟩ := ps_at hpl
        obtain ⟨rp, p1, p2, p3⟩ := hRG.at_ pl hpl
        refine ⟨_, rfl, _, rfl, b, _, (pl : Int), _, rfl, rfl, tpL (sm _ _ hb), vp_ix hq, ?_⟩
        refine ⟨_, rfl, rfl, _, rfl, ?_⟩
        cases q with
        | none =>
          refine ifT (by decide) ?_
          have hd := dep_pos hp hpl
          have e1 : R pl 1 = wy ps pl 1 := by rw [hRI.eq pl 1 hpl (Nat.le_refl _) hd, part_own hp hpl (Nat.le_refl _)]
          refine ⟨_, rfl, _, rfl, _, rfl, D2, us, (pl : Int), _, rfl, rfl, .inl (.inl hG), atI_nat p1, rp, _, (1 : Int), _, rfl, rfl, .inl (.inl p2), vn_ix (i := 1) (tab_at (by omega)), _, _, rfl, rfl, ?_, sm, hG, R, some (vp none), some (vn pl), t6, t7, rowsIn_root hpl hq hRI, hRG, ?_⟩
          · rw [e1]
            exact wideMul (Nat.le_trans rootPart_le (tot_big hp h60)) (wy_big hp h60 hpl (by omega)) (by omega)
          · rw [rootPart_down hpl, if_pos hq, e1]
            show _ = [_, _, _, _, some (V.int ((rootPart ps (pl + 1) * wy ps pl 1 : Nat) : Int)), _, _, _]
            rw [Int.natCast_mul]; rfl
        | some r =>
          refine ifF (by rw [vp_ne]; decide) ?_
          have hrp := hp pl r hq
          have hrl : r < ps.length := by omega
          have er : rootPart ps pl = rootPart ps (pl + 1) := by rw [rootPart_down hpl, if_neg (by rw [hq]; exact fun z => nomatch z), Nat.mul_one]
          rw [er]
          refine ⟨_, rfl, 1, _, rfl, ⟨by decide, by decide, by omega, by omega⟩, ?_⟩
          rw [show (((ps.length : Nat) : Int) + 1 - 1).toNat = ps.length from by omega]
          refine for_range (lo := 1) (n := ps.length) (fun l σ G' => Same H G' ∧ G' D2 = some (.lst us) ∧ RowsL H G' (fun q => tab (ps.length + 2) (stepR R pl r l q)) ps.length us ∧ ∃ t7 : Option V, σ = [some (.ref b), some (.int ((ps.length : Int) + 1)), some (vn r), some (.ref D2), some (vn (rootPart ps (pl + 1))), some (vn pl), some (vn (if l = 0 then 0 else sumN (R pl) (l + 1))), t7]) ⟨sm, hG, ?_, _, rfl⟩ ?_ ?_
          · refine ⟨hRG.len, fun i hi => ?_, hRG.inj⟩
            obtain ⟨q, q1, q2, q3⟩ := hRG.at_ i hi
            refine ⟨q, q1, ?_, q3⟩
            rw [q2, show tab (ps.length + 2) (stepR R pl r 0 i) = tab (ps.length + 2) (R i) from tab_congr fun t ht => if_neg fun z => by omega]
          · rintro l σ G2 hl ⟨sm3, hG3, hR3, t7, rfl⟩
            rw [show (1 : Int) + ((l : Nat) : Int) = ((l + 1 : Nat) : Int) from by omega]
            obtain ⟨rq, q1, q2, q3⟩ := hR3.at_ pl hpl
            rw [show tab (ps.length + 2) (stepR R pl r l pl) = tab (ps.length + 2) (R pl) from tab_congr fun t ht => if_neg fun z => by omega] at q2
            obtain ⟨rr, r1, r2, r3⟩ := hR3.at_ r hrl
            have b1 : R r (l + 1) ≤ 2 ^ 420 := Nat.le_trans (hRI.le r (l + 1) hrl (by omega) (by omega)) (Nat.le_trans (part_le hp hrl) (wy_big hp h60 hrl (by omega)))
            have b2 : sumN (R pl) (l + 1 + 1) ≤ 2 ^ 430 := sum420 (by omega) fun m m1 m2 => Nat.le_trans (hRI.le pl m hpl m1 (by omega)) (Nat.le_trans (part_le hp hpl) (wy_big hp h60 hpl (by omega)))
            have e1 : stepR R pl r l r (l + 1) = R r (l + 1) := if_neg fun z => by omega
            have e2 : (tab (ps.length + 2) (stepR R pl r l r)).set (l + 1) (R r (l + 1) * sumN (R pl) (l + 1 + 1)) = tab (ps.length + 2) (stepR R pl r (l + 1) r) := by
              rw [tab_set]
              refine tab_congr fun t ht => ?_
              unfold stepR
              by_cases c : t = l + 1
              · rw [if_pos c, if_pos ⟨rfl, by omega, by omega⟩, c]
              · rw [if_neg c]
                by_cases d : 1 ≤ t ∧ t ≤ l
                · rw [if_pos ⟨rfl, d⟩, if_pos ⟨rfl, d.1, by omega⟩]
                · rw [if_neg fun z => d z.2, if_neg fun z => d ⟨z.2.1, by omega⟩]
            refine ⟨_, rfl, rfl, _, rfl, ?_⟩
            by_cases c : l = 0
            · refine ifT (decide_eq_true (by rw [c]; rfl)) ?_
              refine ⟨_, rfl, _, rfl, D2, us, (pl : Int), _, rfl, rfl, .inl (.inl hG3), atI_nat q1, rq, _, (1 : Int), _, rfl, rfl, .inl (.inl q2), vn_ix (i := 1) (tab_at (by omega)), ?_⟩
              rw [show R pl 1 = sumN (R pl) (l + 1) from by rw [c]; show _ = 0 + R pl 1; omega]
              refine ⟨_, rfl, _, rfl, _, rfl, D2, us, (pl : Int), _, rfl, rfl, .inl (.inl hG3), atI_nat q1, _, rfl, _, _, rfl, rfl, rq, _, ((l + 1 + 1 : Nat) : Int), _, rfl, rfl, .inl (.inl q2), vn_ix (tab_at (by omega)), _, _, rfl, rfl, ?_⟩
              rw [show (fun i j : Int => V.int (i + j)) ((sumN (R pl) (l + 1) : Nat) : Int) ((R pl (l + 1 + 1) : Nat) : Int) = vn (sumN (R pl) (l + 1 + 1)) from by show V.int _ = V.int ((sumN (R pl) (l + 1) + R pl (l + 1 + 1) : Nat) : Int); rw [Int.natCast_add]]
              refine ⟨_, rfl, _, rfl, D2, us, (r : Int), _, rfl, rfl, .inl (.inl hG3), atI_nat r1, _, rfl, rr, _, ((l + 1 : Nat) : Int), _, rfl, rfl, .inl (.inl r2), vn_ix (tab_at (by omega)), _, rfl, _, _, rfl, rfl, by rw [e1]; exact wideMul b1 b2 (by omega), ?_⟩
              rw [e1, show (fun i j : Int => V.int (i * j)) ((R r (l + 1) : Nat) : Int) ((sumN (R pl) (l + 1 + 1) : Nat) : Int) = vn (R r (l + 1) * sumN (R pl) (l + 1 + 1)) from by show V.int _ = V.int _; rw [Int.natCast_mul]]
              refine ⟨_, rfl, _, rfl, D2, us, (r : Int), _, rfl, rfl, .inl (.inl hG3), atI_nat r1, _, rfl, rr, _, _, l + 1, rfl, rfl, r2, ixNat (by rw [List.length_map, tab_len]; omega), ?_⟩
              rw [← List.map_set, e2]
              refine ⟨smOver r3 sm3, ?_, rowsLset (g' := fun q => tab (ps.length + 2) (stepR R pl r (l + 1) q)) hR3 r1 fun i hi ne => tab_congr fun t ht => ?_, some (vn (l + 1)), ?_⟩
              · rw [upd_ne fun z => neD r (by rw [z]; exact r1)]; exact hG3
              · show stepR R pl r (l + 1) i t = stepR R pl r l i t
                unfold stepR
                rw [if_neg fun z => ne z.1, if_neg fun z => ne z.1]
              · rw [if_neg (Nat.succ_ne_zero l)]; rfl
            · refine ifF (fun z => c (by have := V.int.inj (of_decide_eq_true z); omega)) ?_
              rw [if_neg c]
              refine ⟨_, rfl, _, rfl, _, rfl, D2, us, (pl : Int), _, rfl, rfl, .inl (.inl hG3), atI_nat q1, _, rfl, _, _, rfl, rfl, rq, _, ((l + 1 + 1 : Nat) : Int), _, rfl, rfl, .inl (.inl q2), vn_ix (tab_at (by omega)), _, _, rfl, rfl, ?_⟩
              rw [show (fun i j : Int => V.int (i + j)) ((sumN (R pl) (l + 1) : Nat) : Int) ((R pl (l + 1 + 1) : Nat) : Int) = vn (sumN (R pl) (l + 1 + 1)) from by show V.int _ = V.int ((sumN (R pl) (l + 1) + R pl (l + 1 + 1) : Nat) : Int); rw [Int.natCast_add]]
              refine ⟨_, rfl, _, rfl, D2, us, (r : Int), _, rfl, rfl, .inl (.inl hG3), atI_nat r1, _, rfl, rr, _, ((l + 1 : Nat) : Int), _, rfl, rfl, .inl (.inl r2), vn_ix (tab_at (by omega)), _, rfl, _, _, rfl, rfl, by rw [e1]; exact wideMul b1 b2 (by omega), ?_⟩
              rw [e1, show (fun i j : Int => V.int (i * j)) ((R r (l + 1) : Nat) : Int) ((sumN (R pl) (l + 1 + 1) : Nat) : Int) = vn (R r (l + 1) * sumN (R pl) (l + 1 + 1)) from by show V.int _ = V.int _; rw [Int.natCast_mul]]
              refine ⟨_, rfl, _, rfl, D2, us, (r : Int), _, rfl, rfl, .inl (.inl hG3), atI_nat r1, _, rfl, rr, _, _, l + 1, rfl, rfl, r2, ixNat (by rw [List.length_map, tab_len]; omega), ?_⟩
              rw [← List.map_set, e2]
              refine ⟨smOver r3 sm3, ?_, rowsLset (g' := fun q => tab (ps.length + 2) (stepR R pl r (l + 1) q)) hR3 r1 fun i hi ne => tab_congr fun t ht => ?_, some (vn (l + 1)), ?_⟩
              · rw [upd_ne fun z => neD r (by rw [z]; exact r1)]; exact hG3
              · show stepR R pl r (l + 1) i t = stepR R pl r l i t
                unfold stepR
                rw [if_neg fun z => ne z.1, if_neg fun z => ne z.1]
              · rw [if_neg (Nat.succ_ne_zero l)]; rfl
          · rintro σ G' ⟨sm3, hG3, hR3, t7, rfl⟩
            exact ⟨sm3, hG3, stepR R pl r ps.length, _, _, _, _, rowsIn_kid hp hpl hq hRI, hR3, rfl⟩
      · rintro σ G ⟨sm, hG, R, t2, t5, t6, t7, hRI, hRG, rfl⟩
        rw [Nat.sub_self, rootPart_zero]
        exact ⟨_, rfl, k G sm⟩
end
end Cn
namespace Cn
open PySem PySem.Spec PyProof.Rows L2 Ck
/-! a tuple once: itself -/
theorem tuple_once (l : Addr) (items : Array Value) (n : Nat) (dd : Option Addr) (sl : Array (Option Value)) (u : Tok) :
    Meets (Builtin.«tuple.__mul__» ⟨[.ref l, .int 1 u], []⟩) (fun _ R s => s.heap.get? l = some { cls := .type "tuple", dict := dd, data := .seq items n, slots := sl } ∧ R (.ok (.ret (Value.ref l))) s) :=
  .of_wp fun prog w A R s h => by
    obtain ⟨hp, g, d, tk, os⟩ := s
    obtain ⟨hl, h⟩ := h
    have f1 := AutoSeq1.idx_int
    have c0 : (decide ((1 : Int) < -(2 ^ 63)) || decide ((1 : Int) ≥ 2 ^ 63)) = false := by decide
    have c1 : (items.isEmpty || (1 : Int) == 1) = true := by rw [show ((1 : Int) == 1) = true from rfl, Bool.or_true]
    wp_walk using wpAny_loadPart' hl
    repeat (first
      | (refine wpAny_ite_false (decide_eq_false (by rw [c0]; exact Bool.false_ne_true)) ?_; wp_walk using wpAny_loadPart' hl)
      | (refine wpAny_ite_true (decide_eq_true c1) ?_; wp_walk using wpAny_loadPart' hl))
    exact ⟨_, rfl, h⟩
def rRepO (K : PySem.W.Frag) : R2 := fun x y H Q => ∃ l k xs, x = .ref l ∧ y = .int k ∧ SqT K H l xs ∧ xs ≠ [] ∧ 1 ≤ k ∧ k ≤ 1000 ∧ xs.length ≤ 1000 ∧ (k = 1 → Q (.ref l) H) ∧ (2 ≤ k → ∀ p, H p = none → Q (.ref p) (upd H p (.tup (List.replicate k.toNat xs).flatten)))
theorem op_repO {X : Cx} : OpR X (binaryOp .Mult) (rRepO X.K) := by
  intro pins s σ H x y v u Q I rx ry h
  obtain ⟨l, k, xs, rfl, rfl, hT, hne, h1, h2, h3, q1, q2⟩ := h
  by_cases c : 2 ≤ k
  · exact op_repT pins s σ H _ _ v u Q I rx ry ⟨l, k, xs, rfl, rfl, hT, hne, c, h2, h3, q2 c⟩
  · have e : k = 1 := by omega
    subst e
    cases rx
    obtain ⟨t, rfl⟩ := ry
    obtain ⟨its, r, ⟨⟨cls, dd, data, sl⟩, ho, hc, n, hd⟩, hs⟩ := I.tuple hT
    have e1 : cls = .type "tuple" := hc
    have e2 : data = .seq its.toArray n := hd
    subst e1 e2
    have tyT : s.TypeIs (.ref l) "tuple" := ⟨_, ho, rfl⟩
    exact wpAny_binaryOp_repeat_ref (T := "tuple") (U := "int") (by decide) tyT (fun s' => typeIs_int s' 1 t) noFill_tuple_mul F.fills_int_mul F.slot_int_rmul repeat_tuple F.slot_int_index.lookup
      (call_meets F.slot_int_rmul (typeIs_int s 1 t) F.entry_int_rmul (F.args_int_rmul_2 _ _) (int_rmul_tuple 1 t l its.toArray n dd sl) ⟨ho, rfl, tyT, call_meets F.slot_tuple_mul tyT F.entry_tuple_mul (F.args_tuple_mul_2 _ _)
        (tuple_once l its.toArray n dd sl t) ⟨ho, V.ref l, H, I, rfl, q1 rfl⟩⟩)
theorem pickI {c : Prop} {_ : Decidable c} {σ : L2.St} {H : Hp} {Q : VK} {a b : Int} (k : ∀ n : Int, n = a ∨ n = b → Q (.int n) H) : if c then tC (.int a) σ H Q else tC (.int b) σ H Q := by
  by_cases h : c
  · rw [if_pos h]; exact k a (.inl rfl)
  · rw [if_neg h]; exact k b (.inr rfl)
def starP (n : Nat) : List (Option Nat) := none :: List.replicate (n - 1) (some 0)
def combP (n k : Nat) : List (Option Nat) := none :: ((List.range (k - 1)).map some ++ List.replicate (n - k) (some (k - 1)))
theorem starP_ps {n : Nat} : Ps (starP n) := fun i p h => by
  cases i with
  | zero => cases h
  | succ i =>
    unfold starP at h
    rw [List.getElem?_cons_succ] at h
    have := List.eq_of_mem_replicate (List.mem_of_getElem? h)
    cases this
    omega
theorem combP_ps {n k : Nat} (hk : 1 ≤ k) : Ps (combP n k) := fun i p h => by
  cases i with
  | zero => cases h
  | succ i =>
    unfold combP at h
    rw [List.getElem?_cons_succ] at h
    by_cases c : i < k - 1
    · rw [List.getElem?_append_left (by rw [List.length_map, List.length_range]; exact c), List.getElem?_map, List.getElem?_range c] at h
      cases h
      omega
    · rw [List.getElem?_append_right (by rw [List.length_map, List.length_range]; omega)] at h
      have := List.eq_of_mem_replicate (List.mem_of_getElem? h)
      cases this
      omega
theorem repFlat {x : V} : ∀ n : Nat, (List.replicate n [x]).flatten = List.replicate n x
  | 0 => rfl
  | n + 1 => by rw [List.replicate_succ, List.flatten_cons, repFlat n, List.replicate_succ]; rfl
section
variable {P : Program} {w : World} {K : PySem.W.Frag} {mg : Str → Option Value} {base : Heap} {C : Addr}
def spGreatP : Sp := fun vs H Q _ => ∃ (p c : Addr) (cells : List Int), vs = [.ref p] ∧ HandIn H p c cells ∧
  ∀ r ps H', Ps ps → 2 ≤ ps.length → ps.length ≤ 60 → HandIn H' p c cells → Kept p H H' → TP H' r ps → Q (.ref r) H'
def nGreatP : List Str := ["_law_hand_here", "_law_places", "_law_kind", "_law_path"]
theorem scGreatP : FnScope nGreatP ["_law_hand_here"] (defScope sGreatP) := ⟨rfl, rfl, rfl, by decide +kernel, rfl, by decide +kernel, by decide +kernel⟩
theorem dGreatP (B : Defs K mg C) : Def P w K mg base "_law_great_parents" 3 ["_law_hand_here"] spGreatP := by
  obtain ⟨fD, fdD, GD, gD, kD, bD⟩ := dDraw (P := P) (w := w) (base := base) B
  obtain ⟨fP, fdP, GP, gP, kP, bP⟩ := dParents (P := P) (w := w) (base := base) B
  have N := B.N
  have nd := scGreatP.nd
  refine def_of B.gpa fun f fd F => ?_
  refine F.ok scGreatP (fun vs H Q E h => ?_) (fun cdv A outer s H vs Q E hr h => ?_)
  · obtain ⟨p, c, cells, rfl, _⟩ := h
    rfl
  · obtain ⟨p, c, cells, rfl, hI, k⟩ := h
    have h1 : Room 1 (A.deeper (envOfC "_law_great_parents" (defScope sGreatP) s.heap.objs.size f cdv)) := Room.mono hr (by decide)
    refine ⟨_, pss_cons (ps_set (i := 1) nd rfl (Or.inl rfl) (pe_op op_add pe_int (pe_call GD h1 (by rfl) gD kD bD .nil pass0 (pa_cons (pv 0) (pa_cons (pe_ifExp (pt_cmpR op_eq (pe_call GD h1 (by rfl) gD kD bD .nil pass0 (pa_cons (pv 0) (pa_cons pe_int pa_nil))) pe_int (nomark _)) pe_int pe_int) pa_nil)))))
      (pss_cons (ps_set (i := 2) nd rfl (Or.inl rfl) (pe_call GD h1 (by rfl) gD kD bD .nil pass0 (pa_cons (pv 0) (pa_cons pe_int pa_nil))))
      (pss_cons (ps_set (i := 3) nd rfl (Or.inl rfl) (pe_op op_add pe_int (pe_call GD h1 (by rfl) gD kD bD .nil pass0 (pa_cons (pv 0) (pa_cons (pe_op op_sub (pv 1) pe_int) pa_nil)))))
      (pss_cons (ps_if (pt_cmpR op_eq (pv 2) pe_int (nomark _)) (pss_one (ps_ret (pe_op op_catA (pe_tup (pa_cons pe_non pa_nil)) (pe_tupRg rfl (by rfl) N.is.tup (prg_1 (by rfl) N.range (pe_op op_sub (pv 1) pe_int)))))) pss_nil)
      (pss_cons (ps_if (pt_cmpR op_eq (pv 2) pe_int (nomark _)) (pss_one (ps_ret (pe_op op_catA (pe_tup (pa_cons pe_non pa_nil)) (pe_op op_repO (pe_tup (pa_cons pe_int pa_nil)) (pe_op op_sub (pv 1) pe_int))))) pss_nil)
      (pss_cons (ps_if (pt_cmpR op_eq (pv 2) pe_int (nomark _)) (pss_one (ps_ret (pe_op op_catA (pe_op op_catA (pe_tup (pa_cons pe_non pa_nil)) (pe_tupRg rfl (by rfl) N.is.tup (prg_1 (by rfl) N.range (pe_op op_sub (pv 3) pe_int)))) (pe_op op_repO (pe_tup (pa_cons (pe_op op_sub (pv 3) pe_int) pa_nil)) (pe_op op_sub (pv 1) (pv 3)))))) pss_nil)
      (pss_one (ps_ret (pe_call GP hr (by rfl) gP kP bP .nil pass0 (pa_cons (pv 0) (pa_cons (pv 1) pa_nil)))))))))), ?_⟩
    refine ⟨_, rfl, _, rfl, p, c, cells, 12, rfl, hI, by decide, by decide, fun d a1 a2 a3 a4 d0 d1 a10 => ⟨rfl, _, rfl, ?_⟩⟩
    have hI1 := handIn_upd (i := a1) (g := a2) (m := a3) (t := a4) hI a10
    have k1 := kept_hand (p := p) (H := H) (o := handL c a1 a2 a3 a4)
    generalize upd H p (handL c a1 a2 a3 a4) = H1 at hI1 k1 ⊢
    refine pickI fun m hm => ?_
    refine ⟨p, c, cells, m, rfl, hI1, by omega, by omega, fun e b1 b2 b3 b4 e0 e1 b10 => ⟨_, _, rfl, rfl, ?_⟩⟩
    have hI2 := handIn_upd (i := b1) (g := b2) (m := b3) (t := b4) hI1 b10
    have k2 := kept_trans k1 (kept_hand (p := p) (o := handL c b1 b2 b3 b4))
    generalize upd H1 p (handL c b1 b2 b3 b4) = H2 at hI2 k2 ⊢
    obtain ⟨n, hn⟩ := Int.eq_ofNat_of_zero_le (show 0 ≤ 2 + e by omega)
    have n2 : 2 ≤ n := by omega
    have n60 : n ≤ 60 := by omega
    rw [show (fun i j : Int => V.int (i + j)) 2 e = vn n from by show V.int _ = V.int _; rw [hn]]
    refine ⟨_, rfl, p, c, cells, 4, rfl, hI2, by decide, by decide, fun kd c1 c2 c3 c4 _ _ c10 => ?_⟩
    have hI3 := handIn_upd (i := c1) (g := c2) (m := c3) (t := c4) hI2 c10
    have k3 := kept_trans k2 (kept_hand (p := p) (o := handL c c1 c2 c3 c4))
    generalize upd H2 p (handL c c1 c2 c3 c4) = H3 at hI3 k3 ⊢
    refine ⟨_, rfl, _, rfl, _, _, rfl, rfl, p, c, cells, ((n : Nat) : Int) - 1, rfl, hI3, by omega, by omega, fun g f1 f2 f3 f4 g0 g1 f10 => ⟨_, _, rfl, rfl, ?_⟩⟩
    have hI4 := handIn_upd (i := f1) (g := f2) (m := f3) (t := f4) hI3 f10
    have k4 := kept_trans k3 (kept_hand (p := p) (o := handL c f1 f2 f3 f4))
    generalize upd H3 p (handL c f1 f2 f3 f4) = H4 at hI4 k4 ⊢
    obtain ⟨pa, hpa⟩ := Int.eq_ofNat_of_zero_le (show 0 ≤ 1 + g by omega)
    have pa1 : 1 ≤ pa := by omega
    have pan : pa < n := by omega
    rw [show (fun i j : Int => V.int (i + j)) 1 g = vn pa from by show V.int _ = V.int _; rw [hpa]]
    have fin : ∀ (r : Addr) (ps : List (Option Nat)) (H' : Hp) (xs : List V), Same H4 H' → H' r = some (.tup xs) → xs = ps.map vp → Ps ps → ps.length = n → Q (.ref r) H' := fun r ps H' xs s hr e hp hl => k r ps H' hp (by omega) (by omega) (handIn_keep hI4 s) (kept_trans k4 (kept_same s)) (by show H' r = _; rw [hr, e])
    refine ⟨_, rfl, rfl, _, rfl, ?_⟩
    refine ite2 (fun _ => ?_) (fun _ => ?_)
    · refine ⟨by show 1 ≤ sizeLine; decide, fun t nt => ?_⟩
      have S1 := smUpd (o := .tup [V.non]) nt
      have ht : upd H4 t (.tup [V.non]) t = some (.tup [V.non]) := upd_same
      generalize upd H4 t (.tup [V.non]) = H5 at S1 ht ⊢
      refine ⟨_, rfl, _, _, rfl, rfl, _, rfl, RgOk.of_le (by omega) (by omega) (by omega) (by omega), fun q nq => ?_⟩
      rw [show ((n : Nat) : Int) - 1 = ((n - 1 : Nat) : Int) from by omega, rgN]
      have S2 := smUpd (o := .tup ((List.range (n - 1)).map vn)) nq
      refine catA (S2 _ _ ht) upd_same (by rw [List.length_map, List.length_range]; show 1 + _ ≤ 1000; omega) fun r H7 s7 hr => ?_
      refine fin r (rowP n) H7 _ (S1.trans (S2.trans s7)) hr ?_ rowP_ps (rowP_len (by omega))
      unfold rowP
      rw [List.map_cons, List.map_map]; rfl
    · refine ⟨_, rfl, rfl, _, rfl, ?_⟩
      refine ite2 (fun _ => ?_) (fun _ => ?_)
      · refine ⟨by show 1 ≤ sizeLine; decide, fun t nt => ?_⟩
        have S1 := smUpd (o := .tup [V.non]) nt
        have ht : upd H4 t (.tup [V.non]) t = some (.tup [V.non]) := upd_same
        generalize upd H4 t (.tup [V.non]) = H5 at S1 ht ⊢
        refine ⟨by show 1 ≤ sizeLine; decide, fun q nq => ?_⟩
        have S2 := smUpd (o := .tup [V.int 0]) nq
        have hq : upd H5 q (.tup [V.int 0]) q = some (.tup [V.int 0]) := upd_same
        have ht2 := S2 _ _ ht
        generalize upd H5 q (.tup [V.int 0]) = H6 at S2 hq ht2 ⊢
        have done : ∀ (q : Addr) (H7 : Hp), Same H6 H7 → H7 q = some (.tup (List.replicate (n - 1) (V.int 0))) → rCatA K (.ref t) (.ref q) H7 Q := fun q H7 s7 hq => catA (s7 _ _ ht2) hq (by rw [List.length_replicate]; show 1 + _ ≤ 1000; omega) fun r H8 s8 hr => by
          refine fin r (starP n) H8 _ (S1.trans (S2.trans (s7.trans s8))) hr ?_ starP_ps ?_
          · unfold starP
            rw [List.map_cons, List.map_replicate]; rfl
          · unfold starP
            rw [List.length_cons, List.length_replicate]; omega
        refine ⟨_, rfl, _, _, rfl, rfl, q, _, _, rfl, rfl, .inl (.inl hq), (fun z => nomatch z), by omega, by omega, by show 1 ≤ 1000; decide, fun e => ?_, fun _ u nu => ?_⟩
        · exact done q H6 (Same.refl _) (by rw [hq, show n - 1 = 1 from by omega]; rfl)
        · refine done u _ (smUpd nu) ?_
          rw [upd_same, repFlat, show (((n : Nat) : Int) - 1).toNat = n - 1 from by omega]
      · refine ⟨_, rfl, rfl, _, rfl, ?_⟩
        refine ite2 (fun _ => ?_) (fun _ => ?_)
        · refine ⟨by show 1 ≤ sizeLine; decide, fun t nt => ?_⟩
          have S1 := smUpd (o := .tup [V.non]) nt
          have ht : upd H4 t (.tup [V.non]) t = some (.tup [V.non]) := upd_same
          generalize upd H4 t (.tup [V.non]) = H5 at S1 ht ⊢
          refine ⟨_, rfl, _, _, rfl, rfl, _, rfl, RgOk.of_le (by omega) (by omega) (by omega) (by omega), fun q nq => ?_⟩
          rw [show ((pa : Nat) : Int) - 1 = ((pa - 1 : Nat) : Int) from by omega, rgN]
          have S2 := smUpd (o := .tup ((List.range (pa - 1)).map vn)) nq
          refine catA (S2 _ _ ht) upd_same (by rw [List.length_map, List.length_range]; show 1 + _ ≤ 1000; omega) fun r H7 s7 hr => ?_
          have S7 := S1.trans (S2.trans s7)
          refine ⟨_, rfl, _, _, rfl, rfl, by show 1 ≤ sizeLine; decide, fun q nq => ?_⟩
          rw [show (fun i j : Int => V.int (i - j)) ((pa : Nat) : Int) 1 = vn (pa - 1) from by show V.int _ = V.int _; rw [show ((pa : Nat) : Int) - 1 = ((pa - 1 : Nat) : Int) from by omega]]
          have S8 := smUpd (o := .tup [vn (pa - 1)]) nq
          have hq : upd H7 q (.tup [vn (pa - 1)]) q = some (.tup [vn (pa - 1)]) := upd_same
          have hr8 := S8 _ _ hr
          generalize upd H7 q (.tup [vn (pa - 1)]) = H8 at S8 hq hr8 ⊢
          have done : ∀ (q : Addr) (H9 : Hp), Same H8 H9 → H9 q = some (.tup (List.replicate (n - pa) (vn (pa - 1)))) → rCatA K (.ref r) (.ref q) H9 Q := fun q H9 s9 hq => catA (s9 _ _ hr8) hq (by rw [List.length_replicate, List.length_append, List.length_map, List.length_range]; show 1 + _ + _ ≤ 1000; omega) fun r2 H10 s10 hr2 => by
            refine fin r2 (combP n pa) H10 _ (S7.trans (S8.trans (s9.trans s10))) hr2 ?_ (combP_ps pa1) ?_
            · unfold combP
              rw [List.map_cons, List.map_append, List.map_replicate, List.map_map]; rfl
            · unfold combP
              rw [List.length_cons, List.length_append, List.length_map, List.length_range, List.length_replicate]; omega
          refine ⟨_, rfl, _, rfl, _, _, rfl, rfl, q, _, _, rfl, rfl, .inl (.inl hq), (fun z => nomatch z), by omega, by omega, by show 1 ≤ 1000; decide, fun e => ?_, fun _ u nu => ?_⟩
          · exact done q H8 (Same.refl _) (by rw [hq, show n - pa = 1 from by omega]; rfl)
          · refine done u _ (smUpd nu) ?_
            rw [upd_same, repFlat, show (((n : Nat) : Int) - ((pa : Nat) : Int)).toNat = n - pa from by omega]
        · exact ⟨_, rfl, _, rfl, p, c, cells, n, rfl, hI4, by omega, n60, fun r ps H' hp hl hI' k' hT => k r ps H' hp (by omega) (by omega) hI' (kept_trans k4 k') hT⟩
end
end Cn
namespace Cn
open PySem PySem.Spec PyProof.Rows L2 Ck
theorem lex_self : ∀ xs : List Int, HT.lexLt xs xs = false
  | [] => rfl
  | x :: xs => by rw [HT.lexLt_cons, if_pos rfl, lex_self xs]
theorem lex_at : ∀ {k : Nat} {a b : List Nat}, k < a.length → k < b.length → Agree a b k → a.getD k 0 ≠ b.getD k 0 → HT.lexLt (a.map fun n => ((n : Nat) : Int)) (b.map fun n => ((n : Nat) : Int)) = decide (a.getD k 0 < b.getD k 0)
  | _, [], _, h, _, _, _ => by cases h
  | _, _ :: _, [], _, h, _, _ => by cases h
  | 0, x :: xs, y :: ys, _, _, _, ne => by
    have ne : x ≠ y := ne
    rw [List.map_cons, List.map_cons, HT.lexLt_cons, if_neg (by omega)]
    show decide (((x : Nat) : Int) < ((y : Nat) : Int)) = decide (x < y)
    rw [Bool.eq_iff_iff, decide_eq_true_iff, decide_eq_true_iff]
    omega
  | k + 1, x :: xs, y :: ys, h1, h2, ha, ne => by
    have e : x = y := ha 0 (Nat.succ_pos _)
    rw [List.map_cons, List.map_cons, HT.lexLt_cons, if_pos (by rw [e])]
    exact lex_at (k := k) (Nat.lt_of_succ_lt_succ h1) (Nat.lt_of_succ_lt_succ h2) (fun i hi => ha (i + 1) (Nat.succ_lt_succ hi)) ne
theorem lex_nmb {ps : List (Option Nat)} {lv lv' : List Nat} (hp : Ps ps) (hv : Lv ps lv) (hv' : Lv ps lv') : HT.lexLt (lv.map fun n => ((n : Nat) : Int)) (lv'.map fun n => ((n : Nat) : Int)) = decide (nmb ps lv ps.length < nmb ps lv' ps.length) := by
  rcases first_diff ps.length lv lv' with h | ⟨k, hk, h1, h2⟩
  · have e := agree_eq hv.1 hv'.1 h
    rw [e, lex_self, decide_eq_false (Nat.lt_irrefl _)]
  · rw [lex_at (by rw [hv.1]; exact hk) (by rw [hv'.1]; exact hk) h1 h2]
    rcases Nat.lt_or_gt_of_ne h2 with h3 | h3
    · rw [decide_eq_true h3, decide_eq_true (nmb_mono hp hv hk h1 h3)]
    · have := nmb_mono hp hv' hk (fun i hi => (h1 i hi).symm) h3
      rw [decide_eq_false (by omega), decide_eq_false (by omega)]
theorem eqInt {H : Hp} {n : Int} : EqG H 3 (.int n) (.int n) := eqG_up (n := 0) ⟨rfl, .inl rfl⟩ (by decide)
theorem tnInts {K : PySem.W.Frag} {H : Hp} {a : Addr} {ns : List Nat} (h : TN H a ns) : SqT K H a ((ns.map fun n => ((n : Nat) : Int)).map V.int) := by
  rw [mapIV]; exact tnL h
section
variable {P : Program} {w : World} {K : PySem.W.Frag} {mg : Str → Option Value} {base : Heap} {C : Addr}
def spGreatR : Sp := fun vs H Q _ => ∃ (p c : Addr) (cells : List Int), vs = [.ref p] ∧ HandIn H p c cells ∧ ∀ H', Q (.bl true) H'
def nGreatR : List Str := ["_law_hand_here", "_law_parents_here", "_law_made_here", "_law_many", "_law_last_here", "_law_number_here", "_law_levels_here", "_law_one", "_law_told_here"]
theorem scGreatR : FnScope nGreatR ["_law_hand_here"] (defScope sGreatR) := ⟨rfl, rfl, rfl, by decide +kernel, rfl, by decide +kernel, by decide +kernel⟩
theorem dGreatR (B : Defs K mg C) : Def P w K mg base "_law_great_right" 7 ["_law_hand_here"] spGreatR := by
  obtain ⟨fI, fdI, GI, gI, kI, bI⟩ := dIs (P := P) (w := w) (base := base) B
  obtain ⟨fG, fdG, GG, gG, kG, bG⟩ := dGreatP (P := P) (w := w) (base := base) B
  obtain ⟨fC, fdC, GC, gC, kC, bC⟩ := dLCounted (P := P) (w := w) (base := base) B
  obtain ⟨fO, fdO, GO, gO, kO, bO⟩ := dCountPlans (P := P) (w := w) (base := base) B
  obtain ⟨fB, fdB, GB, gB, kB, bB⟩ := dBrk (P := P) (w := w) (base := base) B
  obtain ⟨fL, fdL, GL, gL, kL, bL⟩ := dLast (P := P) (w := w) (base := base) B
  obtain ⟨fA, fdA, GA, gA, kA, bA⟩ := dPlanAt (P := P) (w := w) (base := base) B
  obtain ⟨fN, fdN, GN, gN, kN, bN⟩ := dLNumber (P := P) (w := w) (base := base) B
  obtain ⟨fU, fdU, GU, gU, kU, bU⟩ := dPlanNumber (P := P) (w := w) (base := base) B
  obtain ⟨fV, fdV, GV, gV, kV, bV⟩ := dLevels (P := P) (w := w) (base := base) B
  obtain ⟨fi, fdi, Fi, Mi, bi⟩ := B.ini
  obtain ⟨tm, mM⟩ := B.mM
  obtain ⟨fI2, fdI2, DI2⟩ := B.I
  obtain ⟨fL2, fdL2, DL2⟩ := B.L
  obtain ⟨fB2, fdB2, DB2⟩ := B.B
  obtain ⟨fO2, fdO2, DO2⟩ := B.O
  have Gi : FnOk P w K mg base CX0 4 fi fdi ["self", "parents", "bearing", "asking"] (spInit C) := ok_init Fi B.N B.T mM DI2 DL2 DB2 DO2
  have N := B.N
  have nd := scGreatR.nd
  refine def_of B.grr fun f fd F => ?_
  refine F.ok scGreatR (fun vs H Q E h => ?_) (fun cdv A outer s H vs Q E hr h => ?_)
  · obtain ⟨p, c, cells, rfl, _⟩ := h
    rfl
  · obtain ⟨p, c, cells, rfl, hI, k⟩ := h
    have h1 : Room 1 (A.deeper (envOfC "_law_great_right" (defScope sGreatR) s.heap.objs.size f cdv)) := Room.mono hr (by decide)
    have h2 : Room 2 (A.deeper (envOfC "_law_great_right" (defScope sGreatR) s.heap.objs.size f cdv)) := Room.mono hr (by decide)
    have h3 : Room 3 (A.deeper (envOfC "_law_great_right" (defScope sGreatR) s.heap.objs.size f cdv)) := Room.mono hr (by decide)
    have h5 : Room 5 (A.deeper (envOfC "_law_great_right" (defScope sGreatR) s.heap.objs.size f cdv)) := Room.mono hr (by decide)
    have hu : (A.deeper (envOfC "_law_great_right" (defScope sGreatR) s.heap.objs.size f cdv)).units < cLine := by have := hr.units; omega
    refine ⟨_, pss_cons (ps_set (i := 1) nd rfl (Or.inl rfl) (pe_call GG h3 (by rfl) gG kG bG .nil pass0 (pa_cons (pv 0) pa_nil)))
      (pss_cons (ps_set (i := 2) nd rfl (Or.inl rfl) (pe_make Mi Gi h5 (by rfl) B.T.mgC bi .nil pass0 (pa_cons (pv 1) (pa_cons (pe_tup (pa_cons pe_int pa_nil)) (pa_cons (pe_tup (pa_cons pe_int pa_nil)) pa_nil)))))
      (pss_cons (ps_set (i := 3) nd rfl (Or.inl rfl) (pe_call GC h1 (by rfl) gC kC bC .nil pass0 (pa_cons (pv 1) pa_nil)))
      (pss_cons (ps_if (pt_not (pt_val (pe_call GI hr (by rfl) gI kI bI .nil pass0 (pa_cons (pe_call GO hr (by rfl) gO kO bO .nil pass0 (pa_cons (pv 2) pa_nil)) (pa_cons (pv 3) pa_nil))))) (pss_one ps_never) pss_nil)
      (psMid (ps_if (PW.pt (pw_and (pt_cmpR (op_eqD hr.units) (pv 1) (pe_op op_catA (pe_tup (pa_cons pe_non pa_nil)) (pe_tupRg rfl (by rfl) N.is.tup (prg_1 (by rfl) N.range (pe_op op_sub (pe_callB call_len_seq (by rfl) N.is.len PySem.boot_len (pa_cons (pv 1) pa_nil)) pe_int)))) (nomark _))
          (pw_and1 (pt_cmpR op_ne (pv 3) (pe_call GB h1 (by rfl) gB kB bB .nil pass0 (pa_cons (pe_callB call_len_seq (by rfl) N.is.len PySem.boot_len (pa_cons (pv 1) pa_nil)) pa_nil)) (nomark _))))) (pss_one ps_never) pss_nil)
      (pss_cons (ps_set (i := 4) nd rfl (Or.inl rfl) (pe_call GL h1 (by rfl) gL kL bL .nil pass0 (pa_cons (pv 1) pa_nil)))
      (pss_cons (ps_if (PW.pt (pw_or (pt_not (pt_val (pe_call GI hr (by rfl) gI kI bI .nil pass0 (pa_cons (pe_call GA hr (by rfl) gA kA bA .nil pass0 (pa_cons (pv 2) (pa_cons pe_int pa_nil))) (pa_cons (pe_op op_repO (pe_tup (pa_cons pe_int pa_nil)) (pe_callB call_len_seq (by rfl) N.is.len PySem.boot_len (pa_cons (pv 1) pa_nil))) pa_nil)))))
          (pw_or1 (pt_not (pt_val (pe_call GI hr (by rfl) gI kI bI .nil pass0 (pa_cons (pe_call GA hr (by rfl) gA kA bA .nil pass0 (pa_cons (pv 2) (pa_cons (pe_op op_sub (pv 3) pe_int) pa_nil))) (pa_cons (pv 4) pa_nil)))))))) (pss_one ps_never) pss_nil)
      (pss_cons (ps_set (i := 5) nd rfl (Or.inl rfl) (pe_call GN h2 (by rfl) gN kN bN .nil pass0 (pa_cons (pv 0) (pa_cons (pv 3) pa_nil))))
      (pss_cons (ps_set (i := 6) nd rfl (Or.inl rfl) (pe_call GA hr (by rfl) gA kA bA .nil pass0 (pa_cons (pv 2) (pa_cons (pv 5) pa_nil))))
      (pss_cons (ps_if (PW.pt (pw_or (pt_not (pt_val (pe_call GI hr (by rfl) gI kI bI .nil pass0 (pa_cons (pe_call GU hr (by rfl) gU kU bU .nil pass0 (pa_cons (pv 2) (pa_cons (pv 6) pa_nil))) (pa_cons (pv 5) pa_nil)))))
          (pw_or1 (pt_not (pt_val (pe_call GI hr (by rfl) gI kI bI .nil pass0 (pa_cons (pe_call GU hr (by rfl) gU kU bU .nil pass0 (pa_cons (pv 2) (pa_cons (pv 4) pa_nil))) (pa_cons (pe_op op_sub (pv 3) pe_int) pa_nil)))))))) (pss_one ps_never) pss_nil)
      (psMid (ps_if (PW.pt (pw_and (pt_cmpR op_lt (pe_op op_add (pv 5) pe_int) (pv 3) (nomark _))
          (pw_and1 (pt_not (pt_cmpR (op_ltT hu) (pv 6) (pe_call GA hr (by rfl) gA kA bA .nil pass0 (pa_cons (pv 2) (pa_cons (pe_op op_add (pv 5) pe_int) pa_nil))) (nomark _)))))) (pss_one ps_never) pss_nil)
      (pss_cons (ps_set (i := 7) nd rfl (Or.inl rfl) (pe_call GV h2 (by rfl) gV kV bV .nil pass0 (pa_cons (pv 0) (pa_cons (pv 1) pa_nil))))
      (pss_cons (ps_set (i := 8) nd rfl (Or.inl rfl) (pe_call GU hr (by rfl) gU kU bU .nil pass0 (pa_cons (pv 2) (pa_cons (pv 7) pa_nil))))
      (pss_cons (ps_if (PW.pt (pw_or (pt_not (pt_val (pe_callB call_isi (by rfl) N.is.inst (by decide +kernel) (pa_cons (pv 8) (pa_cons (pe_bltn (v := .ty "int") (by rfl) N.int (by decide +kernel) rfl) pa_nil)))))
          (pw_or (pt_val (pe_callB call_isi (by rfl) N.is.inst (by decide +kernel) (pa_cons (pv 8) (pa_cons (pe_bltn (v := .ty "bool") (by rfl) N.is.bool (by decide +kernel) rfl) pa_nil))))
          (pw_or1 (pt_not (pt_chain op_le op_lt pe_int (pv 8) (pv 3))))))) (pss_one ps_never) pss_nil)
      (pss_one (ps_ret (pe_and (pe_cmpR (op_eqD hr.units) (pe_call GA hr (by rfl) gA kA bA .nil pass0 (pa_cons (pv 2) (pa_cons (pv 8) pa_nil))) (pv 7) (nomark _))
        (pe_one (pe_cmpR op_eq (pe_cmpR op_lt (pv 8) (pv 5) (nomark _)) (pe_cmpR (op_ltT hu) (pv 7) (pv 6) (nomark _)) (nomark _))))))))))))))))))), ?_⟩
    refine ⟨_, rfl, p, c, cells, rfl, hI, fun r ps H1 hp n2 h60 hI1 k1 hT1 => ?_⟩
    have hl0 : 1 ≤ ps.length := by omega
    refine ⟨_, rfl, by show 1 ≤ sizeLine; decide, fun b1 nb1 => ?_⟩
    have T1 := smUpd (o := .tup [V.int 0]) nb1
    have hb1 : upd H1 b1 (.tup [V.int 0]) b1 = some (.tup [V.int 0]) := upd_same
    generalize upd H1 b1 (.tup [V.int 0]) = H2 at T1 hb1 ⊢
    refine ⟨by show 1 ≤ sizeLine; decide, fun b2 nb2 => ?_⟩
    have T2 := T1.trans (smUpd (o := .tup [V.int 0]) nb2)
    have hb2 : upd H2 b2 (.tup [V.int 0]) b2 = some (.tup [V.int 0]) := upd_same
    have hb12 := smUpd (o := .tup [V.int 0]) nb2 _ _ hb1
    generalize upd H2 b2 (.tup [V.int 0]) = H3 at T2 hb2 hb12 ⊢
    refine fun x dx nx ndx ne => ?_
    have S1 := smUpd (o := .own x) ndx
    have nx1 : (upd H3 dx (.own x)) x = none := by rw [upd_ne (Ne.symm ne)]; exact nx
    have S2 := S1.trans (smUpd (o := .ins C dx []) nx1)
    have ok : FoOk ⟨ps, [0], [0]⟩ := ⟨hp, hl0, h60, List.pairwise_singleton _ _, fun x hx => by rw [List.mem_singleton.mp hx]; exact hl0, List.pairwise_singleton _ _, fun x hx => by rw [List.mem_singleton.mp hx]; exact hl0⟩
    refine ⟨x, dx, r, b1, b2, ⟨ps, [0], [0]⟩, rfl, upd_same, S2 _ _ (T2 _ _ hT1), S2 _ _ hb12, S2 _ _ hb2, ok, fun H4 hF kp => ⟨rfl, ?_⟩⟩
    have s14 : Same H1 H4 := T2.trans fun b o e => kp b o (fun z => by rw [z, nx] at e; cases e) (S2 _ _ e)
    have hI4 := handIn_keep hI1 s14
    have hT4 : TP H4 r ps := s14 _ _ hT1
    refine ⟨_, rfl, r, ps, rfl, hT4, hp, h60, fun H5 s5 => ?_⟩
    refine ⟨_, rfl, x, ⟨ps, [0], [0]⟩, rfl, foAt_same s5 hF, hp, h60, fun H6 s6 => ⟨_, rfl, _, _, rfl, eqInt, fun H7 s7 => ⟨true, rfl, ?_⟩⟩⟩
    refine ifF (by decide) ?_
    have s47 := s5.trans (s6.trans s7)
    have hI7 := handIn_keep hI4 s47
    have hT7 : TP H7 r ps := s47 _ _ hT4
    have hF7 := foAt_same s47 hF
    -- the row
    refine ⟨fun σ H' => σ = [some (.ref p), some (.ref r), some (.ref x), some (vn (tot ps)), none, none, none, none, none] ∧ Same H7 H', ?_, ?_⟩
    · refine ⟨_, rfl, by show 1 ≤ sizeLine; decide, fun t nt => ?_⟩
      have U1 := smUpd (o := .tup [V.non]) nt
      have ht : upd H7 t (.tup [V.non]) t = some (.tup [V.non]) := upd_same
      generalize upd H7 t (.tup [V.non]) = H8 at U1 ht ⊢
      refine ⟨_, rfl, r, _, rfl, .inr (tpL (U1 _ _ hT7)), _, _, rfl, rfl, _, rfl, RgOk.of_le (by omega) (by rw [List.length_map]; omega) (by omega) (by rw [List.length_map]; omega), fun q nq => ?_⟩
      rw [List.length_map, show ((ps.length : Nat) : Int) - 1 = ((ps.length - 1 : Nat) : Int) from by omega, rgN]
      have U2 := U1.trans (smUpd (o := .tup ((List.range (ps.length - 1)).map vn)) nq)
      refine catA (smUpd (o := .tup ((List.range (ps.length - 1)).map vn)) nq _ _ ht) upd_same (by rw [List.length_map, List.length_range]; show 1 + _ ≤ 1000; omega) fun r2 H9 s9 hr2 => ?_
      have s79 := U2.trans s9
      have hr2' : TP H9 r2 (rowP ps.length) := by
        show H9 r2 = _
        rw [hr2]
        unfold rowP
        rw [List.map_cons, List.map_map]; rfl
      refine ⟨_, _, .tup (tpL (s79 _ _ hT7)) (dpPar ps), .tup (tpL hr2') (dpPar _), dParSh _, dParSh _, _, rfl, ?_⟩
      by_cases cc : PyData.eqv (.tuple (dPar ps)) (.tuple (dPar (rowP ps.length))) = true
      · refine ifT cc ?_
        have er := dParEqT cc
        have et : tot ps = brk ps.length := (congrArg tot er).trans (rowP_tot hl0)
        refine ⟨_, rfl, _, rfl, r, _, rfl, .inr (tpL (s79 _ _ hT7)), ps.length, congrArg (fun z : Nat => [V.int (z : Int)]) (List.length_map _), h60, rfl, _, rfl, ?_⟩
        refine ifF (by rw [et, decide_eq_true rfl]; decide) ?_
        exact ⟨rfl, s79⟩
      · refine ifF cc ?_
        refine ifF (by decide) ?_
        exact ⟨rfl, s79⟩
    rintro σ2 H8 ⟨rfl, s8⟩
    have hI8 := handIn_keep hI7 s8
    have hT8 : TP H8 r ps := s8 _ _ hT7
    have hF8 := foAt_same s8 hF7
    have tp := tot_pos (ps := ps)
    refine ⟨_, rfl, r, ps, rfl, hT8, hp, h60, fun l lv H9 s9 hl9 hvl enl => ?_⟩
    refine ⟨_, rfl, x, ⟨ps, [0], [0]⟩, 0, rfl, foAt_same s9 hF8, hp, h60, by show 0 < tot ps; omega, fun r1 lv1 H10 s10 ht10 hv1 e1 => ?_⟩
    have e1 : nmb ps lv1 ps.length = 0 := e1
    have ones : lv1 = List.replicate ps.length 1 := nmb_inj hp hv1 (ones_ok hp) (by rw [e1, ones_nmb _ (Nat.le_refl _)])
    refine ⟨by show 1 ≤ sizeLine; decide, fun u nu => ?_⟩
    have S11 := smUpd (o := .tup [V.int 1]) nu
    have hu11 : upd H10 u (.tup [V.int 1]) u = some (.tup [V.int 1]) := upd_same
    generalize upd H10 u (.tup [V.int 1]) = H11 at S11 hu11 ⊢
    have s811 := s9.trans (s10.trans S11)
    refine ⟨_, rfl, r, _, rfl, .inr (tpL (s811 _ _ hT8)), u, _, _, rfl, rfl, .inl (.inl hu11), (fun z => nomatch z), by rw [List.length_map]; omega, by rw [List.length_map]; omega, by show 1 ≤ 1000; decide, fun e => absurd e (by rw [List.length_map]; omega), fun _ v nv => ?_⟩
    rw [List.length_map, Int.toNat_natCast, repFlat]
    have S12 := smUpd (o := .tup (List.replicate ps.length (V.int 1))) nv
    have hv12 : upd H11 v (.tup (List.replicate ps.length (V.int 1))) v = some (.tup (List.replicate ps.length (V.int 1))) := upd_same
    generalize upd H11 v (.tup (List.replicate ps.length (V.int 1))) = H12 at S12 hv12 ⊢
    have hvT : TN H12 v lv1 := by
      show H12 v = _
      rw [hv12, ones, List.map_replicate]; rfl
    have ht12 : TN H12 r1 lv1 := (S11.trans S12) _ _ ht10
    refine ⟨_, _, rfl, eqG_up (n := 1) (eqN ht12 hvT (by rw [hv1.1]; show ps.length ≤ 1000; omega)) (by decide), fun H13 s13 => ⟨true, rfl, ?_⟩⟩
    refine ifF (by decide) ?_
    have s813 := s811.trans (S12.trans s13)
    refine ⟨_, rfl, _, rfl, _, _, rfl, rfl, x, ⟨ps, [0], [0]⟩, tot ps - 1, ?_, foAt_same s813 hF8, hp, h60, by show tot ps - 1 < tot ps; omega, fun r3 lv3 H14 s14' ht14 hv3 e3 => ?_⟩
    · show [V.ref x, V.int (((tot ps : Nat) : Int) - 1)] = [V.ref x, V.int ((tot ps - 1 : Nat) : Int)]
      rw [show ((tot ps : Nat) : Int) - 1 = ((tot ps - 1 : Nat) : Int) from by omega]
    have e3 : nmb ps lv3 ps.length = tot ps - 1 := e3
    have el3 : lv3 = lv := nmb_inj hp hv3 hvl (by rw [e3, enl])
    have hl14 : TN H14 l lv := ((s10.trans (S11.trans (S12.trans s13))).trans s14') _ _ hl9
    rw [el3] at ht14
    refine ⟨_, rfl, _, _, rfl, eqG_up (n := 1) (eqN ht14 hl14 (by rw [hvl.1]; show ps.length ≤ 1000; omega)) (by decide), fun H15 s15 => ⟨true, rfl, ?_⟩⟩
    refine ifF (by decide) ?_
    have s815 := s813.trans (s14'.trans s15)
    have hI15 := handIn_keep hI8 s815
    have hT15 : TP H15 r ps := s815 _ _ hT8
    have hF15 := foAt_same s815 hF8
    have hl15 : TN H15 l lv := s15 _ _ hl14
    refine ⟨_, rfl, _, rfl, p, c, cells, tot ps, rfl, hI15, tp, fun y H16 hy hI16 k16 => ?_⟩
    have hT16 : TP H16 r ps := k16 _ _ (tup_ne hI15 hT15) hT15
    have hF16 := foKept hI15 k16 hF15
    have hl16 : TN H16 l lv := k16 _ _ (tup_ne hI15 hl15) hl15
    refine ⟨_, rfl, _, rfl, x, ⟨ps, [0], [0]⟩, y, rfl, hF16, hp, h60, hy, fun m lv2 H17 s17 hm17 hv2 e2 => ?_⟩
    have e2 : nmb ps lv2 ps.length = y := e2
    have hF17 := foAt_same s17 hF16
    refine ⟨_, rfl, _, rfl, x, m, ⟨ps, [0], [0]⟩, lv2, rfl, hF17, hm17, hp, h60, hv2, fun H18 s18 => ⟨_, rfl, _, _, rfl, ?_, fun H19 s19 => ⟨true, rfl, ?_⟩⟩⟩
    · show EqG H18 3 (vn (nmb ps lv2 ps.length)) (vn y)
      rw [e2]; exact eqInt
    refine ifF (by decide) ?_
    have s1719 := s18.trans s19
    have hl19 : TN H19 l lv := (s17.trans s1719) _ _ hl16
    refine ⟨_, rfl, _, rfl, x, l, ⟨ps, [0], [0]⟩, lv, rfl, foAt_same s1719 hF17, hl19, hp, h60, hvl, fun H20 s20 => ⟨_, rfl, _, _, rfl, rfl, _, _, rfl, ?_, fun H21 s21 => ⟨true, rfl, ?_⟩⟩⟩
    · show EqG H20 3 (vn (nmb ps lv ps.length)) (V.int (((tot ps : Nat) : Int) - 1))
      rw [enl, show ((tot ps : Nat) : Int) - 1 = ((tot ps - 1 : Nat) : Int) from by omega]; exact eqInt
    refine ifF (by decide) ?_
    have s1721 := s1719.trans (s20.trans s21)
    have s1621 := s17.trans s1721
    have hI21 := handIn_keep hI16 s1621
    have hT21 : TP H21 r ps := s1621 _ _ hT16
    have hF21 := foAt_same s1621 hF16
    have hm21 : TN H21 m lv2 := s1721 _ _ hm17
    refine ⟨fun σ H' => σ = [some (.ref p), some (.ref r), some (.ref x), some (vn (tot ps)), some (.ref l), some (vn y), some (.ref m), none, none] ∧ Same H21 H', ?_, ?_⟩
    · refine ⟨_, rfl, _, _, rfl, rfl, _, rfl, _, _, rfl, rfl, _, rfl, ?_⟩
      by_cases cc : y + 1 < tot ps
      · refine ifT (decide_eq_true (by omega)) ?_
        refine ⟨_, rfl, _, rfl, _, rfl, _, _, rfl, rfl, x, ⟨ps, [0], [0]⟩, y + 1, rfl, hF21, hp, h60, cc, fun m3 lv3 H22 s22 ht22 hv3 e3 => ?_⟩
        have e3 : nmb ps lv3 ps.length = y + 1 := e3
        refine ⟨m, m3, _, _, rfl, rfl, tnInts (s22 _ _ hm21), tnInts ht22, _, rfl, ?_⟩
        rw [lex_nmb hp hv2 hv3, e2, e3, decide_eq_true (Nat.lt_succ_self y)]
        refine ifF (by decide) ?_
        exact ⟨rfl, s22⟩
      · refine ifF (fun z => cc (by have := of_decide_eq_true z; omega)) ?_
        refine ifF (by decide) ?_
        exact ⟨rfl, Same.refl _⟩
    rintro σ2 H22 ⟨rfl, s22⟩
    have hI22 := handIn_keep hI21 s22
    have hT22 : TP H22 r ps := s22 _ _ hT21
    have hF22 := foAt_same s22 hF21
    have hm22 : TN H22 m lv2 := s22 _ _ hm21
    refine ⟨_, rfl, _, rfl, p, c, r, cells, ps, rfl, hI22, hT22, hp, h60, fun o lvo H23 hvo hI23 k23 ho => ?_⟩
    have hF23 := foKept hI22 k23 hF22
    have hm23 : TN H23 m lv2 := k23 _ _ (tup_ne hI22 hm22) hm22
    refine ⟨_, rfl, _, rfl, x, o, ⟨ps, [0], [0]⟩, lvo, rfl, hF23, ho, hp, h60, hvo, fun H24 s24 => ?_⟩
    have hno := nmb_tot hp hvo
    refine ⟨_, rfl, _, .ty "int", _, _, true, rfl, .ty _, intTy, kit_ty (by decide +kernel), true, rfl, ?_⟩
    refine ifF (by decide) ?_
    refine ⟨_, rfl, _, .ty "bool", _, _, false, rfl, .ty _, intTy, kit_ty (by decide +kernel), false, rfl, ?_⟩
    refine ifF (by decide) ?_
    refine ⟨_, rfl, _, _, rfl, rfl, _, rfl, ?_⟩
    refine ifT (decide_eq_true (Int.natCast_nonneg _)) ?_
    refine ⟨_, rfl, _, _, rfl, rfl, _, rfl, ?_⟩
    refine ifF (by rw [decide_eq_true (Int.ofNat_lt.mpr hno)]; decide) ?_
    refine ⟨_, rfl, _, rfl, x, ⟨ps, [0], [0]⟩, _, rfl, foAt_same s24 hF23, hp, h60, hno, fun m4 lv4 H25 s25 ht25 hv4 e4 => ?_⟩
    have e4 : nmb ps lv4 ps.length = nmb ps lvo ps.length := e4
    have el4 : lv4 = lvo := nmb_inj hp hv4 hvo e4
    rw [el4] at ht25
    have ho25 : TN H25 o lvo := (s24.trans s25) _ _ ho
    have hm25 : TN H25 m lv2 := (s24.trans s25) _ _ hm23
    refine ⟨_, rfl, _, _, .tup (tnL ht25) (dpN _), .tup (tnL ho25) (dpN _), dnShT _, dnShT _, ?_⟩
    rw [dnEqT]
    refine ⟨true, rfl, ?_⟩
    refine ifT rfl ?_
    refine ⟨_, rfl, _, rfl, _, _, rfl, rfl, _, rfl, _, rfl, o, m, _, _, rfl, rfl, tnInts ho25, tnInts hm25, rfl, ?_⟩
    rw [lex_nmb hp hvo hv2, e2]
    have eb : decide (V.bl (decide (((nmb ps lvo ps.length : Nat) : Int) < ((y : Nat) : Int))) = V.bl (decide (nmb ps lvo ps.length < y))) = true := decide_eq_true (congrArg V.bl (by rw [Bool.eq_iff_iff, decide_eq_true_iff, decide_eq_true_iff]; omega))
    rw [eb]
    exact k H25
end
end Cn
namespace Cn
open PySem PySem.Spec PyProof.Rows L2 Ck
theorem eqPls {H : Hp} : ∀ {us ws : List V} {L : List (List Nat)}, (∀ lv ∈ L, lv.length ≤ 1000) → PlsR H us L → PlsR H ws L → Paired (EqG H 1) us ws
  | _, _, _, _, .nil, .nil => .nil
  | _, _, _, b, .cons ⟨t, e, h⟩ t1, .cons ⟨t', e', h'⟩ t2 => by
    subst e e'
    exact .cons (eqN h h' (b _ List.mem_cons_self)) (eqPls (fun p hp => b p (List.mem_cons_of_mem _ hp)) t1 t2)
theorem plsKept {H H' : Hp} {p c : Addr} {cells : List Int} {us : List V} {L : List (List Nat)} (hI : HandIn H p c cells) (k : Kept p H H') (h : PlsR H us L) : PlsR H' us L := Paired.mapP h fun _ _ z => by
  obtain ⟨t, e, h1⟩ := z
  exact ⟨t, e, k _ _ (tup_ne hI h1) h1⟩
section
variable {P : Program} {w : World} {K : PySem.W.Frag} {mg : Str → Option Value} {base : Heap} {C : Addr}
def nLaw : List Str := ["_law_script", "_law_hand_here", "_law_turn", "_law_told_here", "_law_made_here", "_law_every", "_law_again", "_law_number_here", "_law_kept"]
theorem scLaw : FnScope nLaw ["_law_script"] (defScope sLaw) := ⟨rfl, rfl, rfl, by decide +kernel, rfl, by decide +kernel, by decide +kernel⟩
theorem ok_law {f : Addr} {fd : FuncData} (F : Fun K "law" "law" sLaw f fd) (B : Defs K mg C) : FnOk P w K mg base CX0 8 f fd ["_law_script"] (spLaw K) := by
  obtain ⟨fH, fdH, GH, gH, kH, bH⟩ := dHand (P := P) (w := w) (base := base) B
  obtain ⟨fD, fdD, GD, gD, kD, bD⟩ := dDraw (P := P) (w := w) (base := base) B
  obtain ⟨fT, fdT, GT, gT, kT, bT⟩ := dTold (P := P) (w := w) (base := base) B
  obtain ⟨fM, fdM, GM, gM, kM, bM⟩ := dMade (P := P) (w := w) (base := base) B
  obtain ⟨fA, fdA, GA, gA, kA, bA⟩ := dAllPlans (P := P) (w := w) (base := base) B
  obtain ⟨fI, fdI, GI, gI, kI, bI⟩ := dIs (P := P) (w := w) (base := base) B
  obtain ⟨fP, fdP, GP, gP, kP, bP⟩ := dPlans (P := P) (w := w) (base := base) B
  obtain ⟨fC, fdC, GC, gC, kC, bC⟩ := dCountPlans (P := P) (w := w) (base := base) B
  obtain ⟨fW, fdW, GW, gW, kW, bW⟩ := dPlanAt (P := P) (w := w) (base := base) B
  obtain ⟨fU, fdU, GU, gU, kU, bU⟩ := dPlanNumber (P := P) (w := w) (base := base) B
  obtain ⟨fL, fdL, GL, gL, kL, bL⟩ := dLCounted (P := P) (w := w) (base := base) B
  obtain ⟨fG, fdG, GG, gG, kG, bG⟩ := dGreatR (P := P) (w := w) (base := base) B
  have N := nOf B
  have nd := scLaw.nd
  refine F.ok scLaw (fun vs H Q E h => ?_) (fun cdv A outer s H vs Q E hr h => ?_)
  · obtain ⟨a, ns, rfl, _⟩ := h
    rfl
  · obtain ⟨a, ns, rfl, hs, hl, k⟩ := h
    have h1 : Room 1 (A.deeper (envOfC "law" (defScope sLaw) s.heap.objs.size f cdv)) := Room.mono hr (by decide)
    have h3 : Room 3 (A.deeper (envOfC "law" (defScope sLaw) s.heap.objs.size f cdv)) := Room.mono hr (by decide)
    have h6 : Room 6 (A.deeper (envOfC "law" (defScope sLaw) s.heap.objs.size f cdv)) := Room.mono hr (by decide)
    refine ⟨_, pss_cons (ps_set (i := 1) nd rfl (Or.inl rfl) (pe_call GH h1 (by rfl) gH kH bH .nil pass0 (pa_cons (pv 0) pa_nil)))
      (pss_cons (ps_for PassesOwn.never rfl (pi_range1 (by rfl) N.range (pa_cons pe_int pa_nil)) (pg_name (i := 2) nd rfl (Or.inl rfl))
        (pss_cons (ps_set (i := 3) nd rfl (Or.inl rfl) (pe_call GT h3 (by rfl) gT kT bT .nil pass0 (pa_cons (pv 1) (pa_cons pe_int pa_nil))))
        (pss_cons (ps_set (i := 4) nd rfl (Or.inl rfl) (pe_call GM h6 (by rfl) gM kM bM .nil pass0 (pa_cons (pv 3) pa_nil)))
        (pss_cons (ps_set (i := 5) nd rfl (Or.inl rfl) (pe_call GA hr (by rfl) gA kA bA .nil pass0 (pa_cons (pv 4) pa_nil)))
        (pss_cons (ps_if (PW.pt (pw_or (pt_not (pt_val (pe_call GI h6 (by rfl) gI kI bI .nil pass0 (pa_cons (pv 5) (pa_cons (pe_call GP h1 (by rfl) gP kP bP .nil pass0 (pa_cons (pe_ix ix_tup (pv 3) pe_int (fun _ _ => rfl)) pa_nil)) pa_nil)))))
            (pw_or1 (pt_not (pt_val (pe_call GI h6 (by rfl) gI kI bI .nil pass0 (pa_cons (pe_call GC h6 (by rfl) gC kC bC .nil pass0 (pa_cons (pv 4) pa_nil)) (pa_cons (pe_callB call_len_seq (by rfl) N.is.len PySem.boot_len (pa_cons (pv 5) pa_nil)) pa_nil)))))))) (pss_one ps_never) pss_nil)
        (pss_cons (ps_for PassesOwn.never rfl (pi_range1 (by rfl) N.range (pa_cons pe_int pa_nil)) (pg_name (i := 6) nd rfl (Or.inl rfl))
          (pss_cons (ps_set (i := 7) nd rfl (Or.inl rfl) (pe_call GD h1 (by rfl) gD kD bD .nil pass0 (pa_cons (pv 1) (pa_cons (pe_callB call_len_seq (by rfl) N.is.len PySem.boot_len (pa_cons (pv 5) pa_nil)) pa_nil))))
          (pss_one (ps_if (PW.pt (pw_or (pt_not (pt_val (pe_call GI h6 (by rfl) gI kI bI .nil pass0 (pa_cons (pe_call GW h6 (by rfl) gW kW bW .nil pass0 (pa_cons (pv 4) (pa_cons (pv 7) pa_nil))) (pa_cons (pe_ix ix_list (pv 5) (pv 7) (fun _ _ => rfl)) pa_nil)))))
            (pw_or1 (pt_not (pt_val (pe_call GI h6 (by rfl) gI kI bI .nil pass0 (pa_cons (pe_call GU h6 (by rfl) gU kU bU .nil pass0 (pa_cons (pv 4) (pa_cons (pe_ix ix_list (pv 5) (pv 7) (fun _ _ => rfl)) pa_nil))) (pa_cons (pv 7) pa_nil)))))))) (pss_one ps_never) pss_nil))))
        (pss_cons (ps_set (i := 8) nd rfl (Or.inl rfl) (pe_callB call_len_seq (by rfl) N.is.len PySem.boot_len (pa_cons (pv 5) pa_nil)))
        (pss_cons (ps_expr (pe_bm PySem.F.plainAttrs_list PySem.F.slot_list_append PySem.F.type_list_append mt_append (pv 5) (pa_cons pe_non pa_nil)))
        (pss_one (ps_if (PW.pt (pw_or (pt_cmpR op_ne (pe_callB call_len_seq (by rfl) N.is.len PySem.boot_len (pa_cons (pe_call GA hr (by rfl) gA kA bA .nil pass0 (pa_cons (pv 4) pa_nil)) pa_nil)) (pv 8) (nomark _))
            (pw_or1 (pt_cmpR op_ne (pe_call GL h1 (by rfl) gL kL bL .nil pass0 (pa_cons (pe_ix ix_tup (pv 3) pe_int (fun _ _ => rfl)) pa_nil)) (pv 8) (nomark _))))) (pss_one ps_never) pss_nil))))))))))
      (pss_one (ps_ret (pe_call GG hr (by rfl) gG kG bG .nil pass0 (pa_cons (pv 1) pa_nil))))), ?_⟩
    refine ⟨_, rfl, a, ns, rfl, hs, hl, fun H1 p c cells s1 np nc hI => ⟨2, rfl, by decide, by decide, ?_⟩⟩
    refine for_range (lo := 0) (n := 2) (fun _ σ H' => HandIn H' p c cells ∧ ∃ t2 t3 t4 t5 t6 t7 t8 : Option V, σ = [some (.ref a), some (.ref p), t2, t3, t4, t5, t6, t7, t8]) ⟨hI, _, _, _, _, _, _, _, rfl⟩ ?_ ?_
    · rintro j σ H2 hj ⟨hI2, t2, t3, t4, t5, t6, t7, t8, rfl⟩
      refine ⟨_, rfl, p, c, cells, 7, rfl, hI2, by decide, by decide, fun r fo H4 ok hlen hI4 k4 hT4 => ?_⟩
      have hp := ok.ps
      have h60 := ok.l1
      refine ⟨_, rfl, r, fo, rfl, hT4, ok, fun m H5 s5 hF5 => ?_⟩
      have hI5 := handIn_keep hI4 s5
      have hT5 := tolSame s5 hT4
      refine ⟨_, rfl, m, fo, rfl, hF5, hp, hlen, fun D us H6 s6 nD hD hU => ?_⟩
      have hT6 := tolSame s6 hT5
      obtain ⟨ap, ab, aa, e0, e1, e2, e3⟩ := id hT6
      have few := plans_few hp hlen _ (Nat.le_refl _)
      have ul := plsLen hU
      have lvl : ∀ lv ∈ plansL fo.ps fo.ps.length, lv.length ≤ 1000 := fun lv h => by rw [(plans_lv hp h).1]; omega
      refine ⟨_, rfl, _, rfl, r, _, (0 : Int), _, rfl, rfl, .inl (.inl e0), rfl, ap, fo.ps, rfl, e1, hp, hlen, fun D2 ws H7 s7 hD2 hW => ?_⟩
      refine ⟨_, _, rfl, eqG_up (n := 2) (.inr ⟨D, D2, us, ws, rfl, rfl, .inl ⟨s7 _ _ hD, hD2⟩, by omega, eqPls lvl (plsSame s7 hU) hW⟩) (by decide), fun H8 s8 => ⟨true, rfl, ?_⟩⟩
      refine ifF (by decide) ?_
      have s68 := s7.trans s8
      have hF8 := foAt_same (s6.trans s68) hF5
      refine ⟨_, rfl, m, fo, rfl, hF8, hp, h60, fun H9 s9 => ⟨_, rfl, D, us, rfl, .inl (.inl (.inl ((s68.trans s9) _ _ hD))), _, _, rfl, ?_, fun H10 s10 => ⟨true, rfl, ?_⟩⟩⟩
      · show EqG H9 3 (vn (tot fo.ps)) (vn us.length)
        rw [ul, plans_len hp]; exact eqInt
      refine ifF (by decide) ?_
      have s610 := s68.trans (s9.trans s10)
      have hI10 := handIn_keep hI5 (s6.trans s610)
      have hF10 := foAt_same (s6.trans s610) hF5
      have hT10 := tolSame s610 hT6
      have hD10 := s610 _ _ hD
      have hU10 := plsSame s610 hU
      have neD : D ≠ p := fun z => by
        obtain ⟨⟨_, _, _, _, hx, _⟩, _, _⟩ := hI5
        rw [z, hx] at nD
        cases nD
      refine ⟨5, rfl, by decide, by decide, ?_⟩
      refine for_range (lo := 0) (n := 5) (fun _ σ G => HandIn G p c cells ∧ Kept p H10 G ∧ ∃ t6 t7 : Option V, σ = [some (.ref a), some (.ref p), some (.int (0 + (j : Nat))), some (.ref r), some (.ref m), some (.ref D), t6, t7, t8]) ⟨hI10, kept_same (Same.refl _), _, _, rfl⟩ ?_ ?_
      · rintro i σ G hi ⟨hIG, kG, t6, t7, rfl⟩
        have hDG : G D = some (.lst us) := kG _ _ neD hD10
        refine ⟨_, rfl, _, rfl, D, us, rfl, .inl (.inl (.inl hDG)), p, c, cells, ((us.length : Nat) : Int), rfl, hIG, by have := tot_pos (ps := fo.ps); have := plans_len hp; omega, by omega, fun d a1 a2 a3 a4 d0 d1 a10 => ?_⟩
        obtain ⟨x, rfl⟩ := Int.eq_ofNat_of_zero_le d0
        have hx : x < us.length := by omega
        have hI11 := handIn_upd (i := a1) (g := a2) (m := a3) (t := a4) hIG a10
        have k11 := kept_trans kG (kept_hand (p := p) (o := handL c a1 a2 a3 a4))
        generalize upd G p (handL c a1 a2 a3 a4) = G1 at hI11 k11 ⊢
        have hD11 : G1 D = some (.lst us) := k11 _ _ neD hD10
        have hU11 := plsKept hI10 k11 hU10
        have hF11 := foKept hI10 k11 hF10
        have hux : us[x]? = some us[x] := List.getElem?_eq_getElem hx
        obtain ⟨lv, hlv, t, et, ht⟩ := plsAt hU11 hux
        have hnx := plans_at hp hlv
        have hvv := plans_lv hp (List.mem_of_getElem? hlv)
        refine ⟨_, rfl, _, rfl, m, fo, x, rfl, hF11, hp, h60, by rw [← plans_len hp]; omega, fun r1 lv1 G2 s2 hr1 hv1 e1 => ?_⟩
        have el : lv1 = lv := nmb_inj hp hv1 hvv (by rw [e1, hnx])
        rw [el] at hr1
        refine ⟨_, rfl, _, rfl, D, us, (x : Int), _, rfl, rfl, .inl (.inl (s2 _ _ hD11)), atI_nat hux, _, _, rfl, ?_, fun G3 s3 => ⟨true, rfl, ?_⟩⟩
        · rw [et]
          exact eqG_up (n := 1) (eqN hr1 (s2 _ _ ht) (by rw [hvv.1]; omega)) (by decide)
        refine ifF (by decide) ?_
        have s23 := s2.trans s3
        refine ⟨_, rfl, _, rfl, _, rfl, D, us, (x : Int), _, rfl, rfl, .inl (.inl (s23 _ _ hD11)), atI_nat hux, m, t, fo, lv, ?_, foAt_same s23 hF11, s23 _ _ ht, hp, h60, hvv, fun G4 s4 => ⟨_, rfl, _, _, rfl, ?_, fun G5 s5' => ⟨true, rfl, ?_⟩⟩⟩
        · exact congrArg (fun z => [V.ref m, z]) et
        · rw [hnx]; exact eqInt
        refine ifF (by decide) ?_
        have s25 := s23.trans (s4.trans s5')
        exact ⟨handIn_keep hI11 s25, kept_trans k11 (kept_same s25), _, _, rfl⟩
      · rintro σ G ⟨hIG, kG, t6, t7, rfl⟩
        have hDG : G D = some (.lst us) := kG _ _ neD hD10
        refine ⟨_, rfl, D, us, rfl, .inl (.inl (.inl hDG)), ?_⟩
        refine ⟨_, rfl, .inl ⟨rfl, _, .inl (.inl hDG)⟩, D, _, _, rfl, rfl, hDG, small1000 (by omega), ?_⟩
        have kO : Kept p H5 (upd G D (.lst (us ++ [V.non]))) := kept_over nD (kept_trans (kept_same (s6.trans s610)) kG)
        have hI12 : HandIn (upd G D (.lst (us ++ [V.non]))) p c cells := handIn_write hI5 nD hIG
        generalize upd G D (.lst (us ++ [V.non])) = G6 at kO hI12 ⊢
        have hF12 := foKept hI5 kO hF5
        have hT12 := tolKept hI5 kO hT5
        refine ⟨_, rfl, m, fo, rfl, hF12, hp, hlen, fun D3 us3 G7 s7' nD3 hD3 hU3 => ⟨D3, us3, rfl, .inl (.inl (.inl hD3)), _, rfl, rfl, _, rfl, ?_⟩⟩
        rw [plsLen hU3, ul]
        refine ifF (by rw [decide_eq_true rfl]; decide) ?_
        obtain ⟨ap, ab, aa, e0, e1, e2, e3⟩ := tolSame s7' hT12
        refine ⟨_, rfl, r, _, (0 : Int), _, rfl, rfl, .inl (.inl e0), rfl, ap, fo.ps, rfl, e1, hp, h60, fun G8 s8' => ⟨_, rfl, rfl, _, rfl, ?_⟩⟩
        rw [plans_len hp]
        refine ifF (by rw [decide_eq_true rfl]; decide) ?_
        exact ⟨handIn_keep hI12 (s7'.trans s8'), _, _, _, _, _, _, _, rfl⟩
    · rintro σ H2 ⟨hI2, t2, t3, t4, t5, t6, t7, t8, rfl⟩
      exact ⟨_, rfl, p, c, cells, rfl, hI2, fun H3 => k H3⟩
end
end Cn
namespace Cn
open PySem PySem.Spec PyProof.Rows L2 Ck
/-- all the facts of the top, and the law's own promise -/
theorem all_mk {P : Program} {w : World} {K : PySem.W.Frag} {h : Heap} {mg : Str → Option Value} {fa C : Addr} {tm tmMOST_PLANS : Tok} (X : K.In h) (G : h.Ns mainGlobals mg) (hfa : mg "law" = some (.ref fa))
    {fd0 : Addr} {ocd0 kVd0 dcd0 pmd0 cdd0 ctd0 : Value} {odd0 and0 : Option Addr} {sld0 : Array (Option Value)}
    {fd1 : Addr} {ocd1 kVd1 dcd1 pmd1 cdd1 ctd1 : Value} {odd1 and1 : Option Addr} {sld1 : Array (Option Value)}
    {fd2 : Addr} {ocd2 kVd2 dcd2 pmd2 cdd2 ctd2 : Value} {odd2 and2 : Option Addr} {sld2 : Array (Option Value)}
    {fd3 : Addr} {ocd3 kVd3 dcd3 pmd3 cdd3 ctd3 : Value} {odd3 and3 : Option Addr} {sld3 : Array (Option Value)}
    {fd4 : Addr} {ocd4 kVd4 dcd4 pmd4 cdd4 ctd4 : Value} {odd4 and4 : Option Addr} {sld4 : Array (Option Value)}
    {fd5 : Addr} {ocd5 kVd5 dcd5 pmd5 cdd5 ctd5 : Value} {odd5 and5 : Option Addr} {sld5 : Array (Option Value)}
    {fd6 : Addr} {ocd6 kVd6 dcd6 pmd6 cdd6 ctd6 : Value} {odd6 and6 : Option Addr} {sld6 : Array (Option Value)}
    {fd7 : Addr} {ocd7 kVd7 dcd7 pmd7 cdd7 ctd7 : Value} {odd7 and7 : Option Addr} {sld7 : Array (Option Value)}
    {fd8 : Addr} {ocd8 kVd8 dcd8 pmd8 cdd8 ctd8 : Value} {odd8 and8 : Option Addr} {sld8 : Array (Option Value)}
    {fd9 : Addr} {ocd9 kVd9 dcd9 pmd9 cdd9 ctd9 : Value} {odd9 and9 : Option Addr} {sld9 : Array (Option Value)}
    {fd10 : Addr} {ocd10 kVd10 dcd10 pmd10 cdd10 ctd10 : Value} {odd10 and10 : Option Addr} {sld10 : Array (Option Value)}
    {fd11 : Addr} {ocd11 kVd11 dcd11 pmd11 cdd11 ctd11 : Value} {odd11 and11 : Option Addr} {sld11 : Array (Option Value)}
    {fd12 : Addr} {ocd12 kVd12 dcd12 pmd12 cdd12 ctd12 : Value} {odd12 and12 : Option Addr} {sld12 : Array (Option Value)}
    {fd13 : Addr} {ocd13 kVd13 dcd13 pmd13 cdd13 ctd13 : Value} {odd13 and13 : Option Addr} {sld13 : Array (Option Value)}
    {fd14 : Addr} {ocd14 kVd14 dcd14 pmd14 cdd14 ctd14 : Value} {odd14 and14 : Option Addr} {sld14 : Array (Option Value)}
    {fd15 : Addr} {ocd15 kVd15 dcd15 pmd15 cdd15 ctd15 : Value} {odd15 and15 : Option Addr} {sld15 : Array (Option Value)}
    {fd16 : Addr} {ocd16 kVd16 dcd16 pmd16 cdd16 ctd16 : Value} {odd16 and16 : Option Addr} {sld16 : Array (Option Value)}
    {fd17 : Addr} {ocd17 kVd17 dcd17 pmd17 cdd17 ctd17 : Value} {odd17 and17 : Option Addr} {sld17 : Array (Option Value)}
    {fd18 : Addr} {ocd18 kVd18 dcd18 pmd18 cdd18 ctd18 : Value} {odd18 and18 : Option Addr} {sld18 : Array (Option Value)}
    {fd19 : Addr} {ocd19 kVd19 dcd19 pmd19 cdd19 ctd19 : Value} {odd19 and19 : Option Addr} {sld19 : Array (Option Value)}
    {fd20 : Addr} {ocd20 kVd20 dcd20 pmd20 cdd20 ctd20 : Value} {odd20 and20 : Option Addr} {sld20 : Array (Option Value)}
    {fd21 : Addr} {ocd21 kVd21 dcd21 pmd21 cdd21 ctd21 : Value} {odd21 and21 : Option Addr} {sld21 : Array (Option Value)}
    {fd22 : Addr} {ocd22 kVd22 dcd22 pmd22 cdd22 ctd22 : Value} {odd22 and22 : Option Addr} {sld22 : Array (Option Value)}
    {fd23 : Addr} {ocd23 kVd23 dcd23 pmd23 cdd23 ctd23 : Value} {odd23 and23 : Option Addr} {sld23 : Array (Option Value)}
    {fd24 : Addr} {ocd24 kVd24 dcd24 pmd24 cdd24 ctd24 : Value} {odd24 and24 : Option Addr} {sld24 : Array (Option Value)}
    {fd25 : Addr} {ocd25 kVd25 dcd25 pmd25 cdd25 ctd25 : Value} {odd25 and25 : Option Addr} {sld25 : Array (Option Value)}
    {fd26 : Addr} {ocd26 kVd26 dcd26 pmd26 cdd26 ctd26 : Value} {odd26 and26 : Option Addr} {sld26 : Array (Option Value)}
    {fd27 : Addr} {ocd27 kVd27 dcd27 pmd27 cdd27 ctd27 : Value} {odd27 and27 : Option Addr} {sld27 : Array (Option Value)}
    {fW : Addr} {ocW kVW dcW pmW cdW ctW : Value} {odW anW : Option Addr} {slW : Array (Option Value)}
    {fN : Addr} {ocN kVN dcN pmN cdN ctN : Value} {odN anN : Option Addr} {slN : Array (Option Value)}
    (aC : PySem.W.nsIn K mainGlobals "Forest" = some (some (.ref C))) (pg : PySem.W.plainGet K C Str.empty = true) (hd : PySem.W.hasDictIn K C = true) (po : PySem.W.plainOver K C = true) (sa : PySem.W.findIn K (.ref C) "__setattr__" = some (some (.builtin "object.__setattr__")))
    (mk : PySem.W.makesIn K C = true) (kc : PySem.W.keepIn K (.ref C) = true) (nP : PySem.W.findIn K (.ref C) "parents" = some none) (nB : PySem.W.findIn K (.ref C) "bearing" = some none) (nA : PySem.W.findIn K (.ref C) "asking" = some none)
    (mM : PySem.W.nsIn K mainGlobals "MOST_PLACES" = some (some (.int 60 tm))) (mMOST_PLANS : PySem.W.nsIn K mainGlobals "MOST_PLANS" = some (some (.int 2000 tmMOST_PLANS)))
    (aN : PySem.W.findIn K (.ref C) "__init__" = some (some (.ref fN))) (iN : PySem.W.isFn K (.ref fN) = true) (lN : K.lookup fN = some ⟨ocN, odN, .func (PySem.W.fnOf "__init__" "Forest.__init__" (defArgs sInit) (defBody sInit) (defScope sInit) .none kVN dcN pmN anN cdN ctN), slN⟩) (oN : PySem.W.codeIn K cdN "Forest.__init__" = true) (kN : PySem.W.keepIn K (.ref fN) = true)
    (ad0 : PySem.W.nsIn K mainGlobals "is_integer" = some (some (.ref fd0))) (ld0 : K.lookup fd0 = some ⟨ocd0, odd0, .func (PySem.W.fnOf "is_integer" "is_integer" (defArgs sIsInt) (defBody sIsInt) (defScope sIsInt) .none kVd0 dcd0 pmd0 and0 cdd0 ctd0), sld0⟩) (od0 : PySem.W.codeIn K cdd0 "is_integer" = true) (kd0 : PySem.W.keepIn K (.ref fd0) = true)
    (ad1 : PySem.W.nsIn K mainGlobals "is_between" = some (some (.ref fd1))) (ld1 : K.lookup fd1 = some ⟨ocd1, odd1, .func (PySem.W.fnOf "is_between" "is_between" (defArgs sIsBtw) (defBody sIsBtw) (defScope sIsBtw) .none kVd1 dcd1 pmd1 and1 cdd1 ctd1), sld1⟩) (od1 : PySem.W.codeIn K cdd1 "is_between" = true) (kd1 : PySem.W.keepIn K (.ref fd1) = true)
    (ad2 : PySem.W.nsIn K mainGlobals "is_lot" = some (some (.ref fd2))) (ld2 : K.lookup fd2 = some ⟨ocd2, odd2, .func (PySem.W.fnOf "is_lot" "is_lot" (defArgs sIsLot) (defBody sIsLot) (defScope sIsLot) .none kVd2 dcd2 pmd2 and2 cdd2 ctd2), sld2⟩) (od2 : PySem.W.codeIn K cdd2 "is_lot" = true) (kd2 : PySem.W.keepIn K (.ref fd2) = true)
    (ad3 : PySem.W.nsIn K mainGlobals "_is_lot_of_places" = some (some (.ref fd3))) (ld3 : K.lookup fd3 = some ⟨ocd3, odd3, .func (PySem.W.fnOf "_is_lot_of_places" "_is_lot_of_places" (defArgs sLotOf) (defBody sLotOf) (defScope sLotOf) .none kVd3 dcd3 pmd3 and3 cdd3 ctd3), sld3⟩) (od3 : PySem.W.codeIn K cdd3 "_is_lot_of_places" = true) (kd3 : PySem.W.keepIn K (.ref fd3) = true)
    (ad4 : PySem.W.nsIn K mainGlobals "is_place" = some (some (.ref fd4))) (ld4 : K.lookup fd4 = some ⟨ocd4, odd4, .func (PySem.W.fnOf "is_place" "is_place" (defArgs sIsPlace) (defBody sIsPlace) (defScope sIsPlace) .none kVd4 dcd4 pmd4 and4 cdd4 ctd4), sld4⟩) (od4 : PySem.W.codeIn K cdd4 "is_place" = true) (kd4 : PySem.W.keepIn K (.ref fd4) = true)
    (ad5 : PySem.W.nsIn K mainGlobals "way" = some (some (.ref fd5))) (ld5 : K.lookup fd5 = some ⟨ocd5, odd5, .func (PySem.W.fnOf "way" "way" (defArgs sWay) (defBody sWay) (defScope sWay) .none kVd5 dcd5 pmd5 and5 cdd5 ctd5), sld5⟩) (od5 : PySem.W.codeIn K cdd5 "way" = true) (kd5 : PySem.W.keepIn K (.ref fd5) = true)
    (ad6 : PySem.W.nsIn K mainGlobals "is_plan" = some (some (.ref fd6))) (ld6 : K.lookup fd6 = some ⟨ocd6, odd6, .func (PySem.W.fnOf "is_plan" "is_plan" (defArgs sIsPlan) (defBody sIsPlan) (defScope sIsPlan) .none kVd6 dcd6 pmd6 and6 cdd6 ctd6), sld6⟩) (od6 : PySem.W.codeIn K cdd6 "is_plan" = true) (kd6 : PySem.W.keepIn K (.ref fd6) = true)
    (ad7 : PySem.W.nsIn K mainGlobals "_law_hand" = some (some (.ref fd7))) (ld7 : K.lookup fd7 = some ⟨ocd7, odd7, .func (PySem.W.fnOf "_law_hand" "_law_hand" (defArgs sHand) (defBody sHand) (defScope sHand) .none kVd7 dcd7 pmd7 and7 cdd7 ctd7), sld7⟩) (od7 : PySem.W.codeIn K cdd7 "_law_hand" = true) (kd7 : PySem.W.keepIn K (.ref fd7) = true)
    (ad8 : PySem.W.nsIn K mainGlobals "_law_draw" = some (some (.ref fd8))) (ld8 : K.lookup fd8 = some ⟨ocd8, odd8, .func (PySem.W.fnOf "_law_draw" "_law_draw" (defArgs sDraw) (defBody sDraw) (defScope sDraw) .none kVd8 dcd8 pmd8 and8 cdd8 ctd8), sld8⟩) (od8 : PySem.W.codeIn K cdd8 "_law_draw" = true) (kd8 : PySem.W.keepIn K (.ref fd8) = true)
    (ad9 : PySem.W.nsIn K mainGlobals "_law_is" = some (some (.ref fd9))) (ld9 : K.lookup fd9 = some ⟨ocd9, odd9, .func (PySem.W.fnOf "_law_is" "_law_is" (defArgs sIs) (defBody sIs) (defScope sIs) .none kVd9 dcd9 pmd9 and9 cdd9 ctd9), sld9⟩) (od9 : PySem.W.codeIn K cdd9 "_law_is" = true) (kd9 : PySem.W.keepIn K (.ref fd9) = true)
    (ad10 : PySem.W.nsIn K mainGlobals "_law_parents" = some (some (.ref fd10))) (ld10 : K.lookup fd10 = some ⟨ocd10, odd10, .func (PySem.W.fnOf "_law_parents" "_law_parents" (defArgs sParents) (defBody sParents) (defScope sParents) .none kVd10 dcd10 pmd10 and10 cdd10 ctd10), sld10⟩) (od10 : PySem.W.codeIn K cdd10 "_law_parents" = true) (kd10 : PySem.W.keepIn K (.ref fd10) = true)
    (ad11 : PySem.W.nsIn K mainGlobals "_law_lot" = some (some (.ref fd11))) (ld11 : K.lookup fd11 = some ⟨ocd11, odd11, .func (PySem.W.fnOf "_law_lot" "_law_lot" (defArgs sLawLot) (defBody sLawLot) (defScope sLawLot) .none kVd11 dcd11 pmd11 and11 cdd11 ctd11), sld11⟩) (od11 : PySem.W.codeIn K cdd11 "_law_lot" = true) (kd11 : PySem.W.keepIn K (.ref fd11) = true)
    (ad12 : PySem.W.nsIn K mainGlobals "_law_levels" = some (some (.ref fd12))) (ld12 : K.lookup fd12 = some ⟨ocd12, odd12, .func (PySem.W.fnOf "_law_levels" "_law_levels" (defArgs sLevels) (defBody sLevels) (defScope sLevels) .none kVd12 dcd12 pmd12 and12 cdd12 ctd12), sld12⟩) (od12 : PySem.W.codeIn K cdd12 "_law_levels" = true) (kd12 : PySem.W.keepIn K (.ref fd12) = true)
    (ad13 : PySem.W.nsIn K mainGlobals "_law_told" = some (some (.ref fd13))) (ld13 : K.lookup fd13 = some ⟨ocd13, odd13, .func (PySem.W.fnOf "_law_told" "_law_told" (defArgs sTold) (defBody sTold) (defScope sTold) .none kVd13 dcd13 pmd13 and13 cdd13 ctd13), sld13⟩) (od13 : PySem.W.codeIn K cdd13 "_law_told" = true) (kd13 : PySem.W.keepIn K (.ref fd13) = true)
    (ad14 : PySem.W.nsIn K mainGlobals "_law_made" = some (some (.ref fd14))) (ld14 : K.lookup fd14 = some ⟨ocd14, odd14, .func (PySem.W.fnOf "_law_made" "_law_made" (defArgs sMade) (defBody sMade) (defScope sMade) .none kVd14 dcd14 pmd14 and14 cdd14 ctd14), sld14⟩) (od14 : PySem.W.codeIn K cdd14 "_law_made" = true) (kd14 : PySem.W.keepIn K (.ref fd14) = true)
    (ad15 : PySem.W.nsIn K mainGlobals "_law_plans" = some (some (.ref fd15))) (ld15 : K.lookup fd15 = some ⟨ocd15, odd15, .func (PySem.W.fnOf "_law_plans" "_law_plans" (defArgs sPlans) (defBody sPlans) (defScope sPlans) .none kVd15 dcd15 pmd15 and15 cdd15 ctd15), sld15⟩) (od15 : PySem.W.codeIn K cdd15 "_law_plans" = true) (kd15 : PySem.W.keepIn K (.ref fd15) = true)
    (ad16 : PySem.W.nsIn K mainGlobals "_ways" = some (some (.ref fd16))) (ld16 : K.lookup fd16 = some ⟨ocd16, odd16, .func (PySem.W.fnOf "_ways" "_ways" (defArgs sWays) (defBody sWays) (defScope sWays) .none kVd16 dcd16 pmd16 and16 cdd16 ctd16), sld16⟩) (od16 : PySem.W.codeIn K cdd16 "_ways" = true) (kd16 : PySem.W.keepIn K (.ref fd16) = true)
    (ad17 : PySem.W.nsIn K mainGlobals "_total" = some (some (.ref fd17))) (ld17 : K.lookup fd17 = some ⟨ocd17, odd17, .func (PySem.W.fnOf "_total" "_total" (defArgs sTotal) (defBody sTotal) (defScope sTotal) .none kVd17 dcd17 pmd17 and17 cdd17 ctd17), sld17⟩) (od17 : PySem.W.codeIn K cdd17 "_total" = true) (kd17 : PySem.W.keepIn K (.ref fd17) = true)
    (ad18 : PySem.W.nsIn K mainGlobals "count_plans" = some (some (.ref fd18))) (ld18 : K.lookup fd18 = some ⟨ocd18, odd18, .func (PySem.W.fnOf "count_plans" "count_plans" (defArgs sCountPlans) (defBody sCountPlans) (defScope sCountPlans) .none kVd18 dcd18 pmd18 and18 cdd18 ctd18), sld18⟩) (od18 : PySem.W.codeIn K cdd18 "count_plans" = true) (kd18 : PySem.W.keepIn K (.ref fd18) = true)
    (ad19 : PySem.W.nsIn K mainGlobals "plan_at" = some (some (.ref fd19))) (ld19 : K.lookup fd19 = some ⟨ocd19, odd19, .func (PySem.W.fnOf "plan_at" "plan_at" (defArgs sPlanAt) (defBody sPlanAt) (defScope sPlanAt) .none kVd19 dcd19 pmd19 and19 cdd19 ctd19), sld19⟩) (od19 : PySem.W.codeIn K cdd19 "plan_at" = true) (kd19 : PySem.W.keepIn K (.ref fd19) = true)
    (ad20 : PySem.W.nsIn K mainGlobals "plan_number" = some (some (.ref fd20))) (ld20 : K.lookup fd20 = some ⟨ocd20, odd20, .func (PySem.W.fnOf "plan_number" "plan_number" (defArgs sPlanNumber) (defBody sPlanNumber) (defScope sPlanNumber) .none kVd20 dcd20 pmd20 and20 cdd20 ctd20), sld20⟩) (od20 : PySem.W.codeIn K cdd20 "plan_number" = true) (kd20 : PySem.W.keepIn K (.ref fd20) = true)
    (ad21 : PySem.W.nsIn K mainGlobals "all_plans" = some (some (.ref fd21))) (ld21 : K.lookup fd21 = some ⟨ocd21, odd21, .func (PySem.W.fnOf "all_plans" "all_plans" (defArgs sAllPlans) (defBody sAllPlans) (defScope sAllPlans) .none kVd21 dcd21 pmd21 and21 cdd21 ctd21), sld21⟩) (od21 : PySem.W.codeIn K cdd21 "all_plans" = true) (kd21 : PySem.W.keepIn K (.ref fd21) = true)
    (ad22 : PySem.W.nsIn K mainGlobals "_law_counted" = some (some (.ref fd22))) (ld22 : K.lookup fd22 = some ⟨ocd22, odd22, .func (PySem.W.fnOf "_law_counted" "_law_counted" (defArgs sLCounted) (defBody sLCounted) (defScope sLCounted) .none kVd22 dcd22 pmd22 and22 cdd22 ctd22), sld22⟩) (od22 : PySem.W.codeIn K cdd22 "_law_counted" = true) (kd22 : PySem.W.keepIn K (.ref fd22) = true)
    (ad23 : PySem.W.nsIn K mainGlobals "_law_great_parents" = some (some (.ref fd23))) (ld23 : K.lookup fd23 = some ⟨ocd23, odd23, .func (PySem.W.fnOf "_law_great_parents" "_law_great_parents" (defArgs sGreatP) (defBody sGreatP) (defScope sGreatP) .none kVd23 dcd23 pmd23 and23 cdd23 ctd23), sld23⟩) (od23 : PySem.W.codeIn K cdd23 "_law_great_parents" = true) (kd23 : PySem.W.keepIn K (.ref fd23) = true)
    (ad24 : PySem.W.nsIn K mainGlobals "_law_bracketings" = some (some (.ref fd24))) (ld24 : K.lookup fd24 = some ⟨ocd24, odd24, .func (PySem.W.fnOf "_law_bracketings" "_law_bracketings" (defArgs sBrk) (defBody sBrk) (defScope sBrk) .none kVd24 dcd24 pmd24 and24 cdd24 ctd24), sld24⟩) (od24 : PySem.W.codeIn K cdd24 "_law_bracketings" = true) (kd24 : PySem.W.keepIn K (.ref fd24) = true)
    (ad25 : PySem.W.nsIn K mainGlobals "_law_last" = some (some (.ref fd25))) (ld25 : K.lookup fd25 = some ⟨ocd25, odd25, .func (PySem.W.fnOf "_law_last" "_law_last" (defArgs sLast) (defBody sLast) (defScope sLast) .none kVd25 dcd25 pmd25 and25 cdd25 ctd25), sld25⟩) (od25 : PySem.W.codeIn K cdd25 "_law_last" = true) (kd25 : PySem.W.keepIn K (.ref fd25) = true)
    (ad26 : PySem.W.nsIn K mainGlobals "_law_number" = some (some (.ref fd26))) (ld26 : K.lookup fd26 = some ⟨ocd26, odd26, .func (PySem.W.fnOf "_law_number" "_law_number" (defArgs sLNumber) (defBody sLNumber) (defScope sLNumber) .none kVd26 dcd26 pmd26 and26 cdd26 ctd26), sld26⟩) (od26 : PySem.W.codeIn K cdd26 "_law_number" = true) (kd26 : PySem.W.keepIn K (.ref fd26) = true)
    (ad27 : PySem.W.nsIn K mainGlobals "_law_great_right" = some (some (.ref fd27))) (ld27 : K.lookup fd27 = some ⟨ocd27, odd27, .func (PySem.W.fnOf "_law_great_right" "_law_great_right" (defArgs sGreatR) (defBody sGreatR) (defScope sGreatR) .none kVd27 dcd27 pmd27 and27 cdd27 ctd27), sld27⟩) (od27 : PySem.W.codeIn K cdd27 "_law_great_right" = true) (kd27 : PySem.W.keepIn K (.ref fd27) = true)
    (aW : PySem.W.nsIn K mainGlobals "law" = some (some (.ref fW))) (lW : K.lookup fW = some ⟨ocW, odW, .func (PySem.W.fnOf "law" "law" (defArgs sLaw) (defBody sLaw) (defScope sLaw) .none kVW dcW pmW anW cdW ctW), slW⟩) (oW : PySem.W.codeIn K cdW "law" = true) (kW : PySem.W.keepIn K (.ref fW) = true)
    (zisinstance : PySem.W.nsIn K mainGlobals "isinstance" = some none) (ztuple : PySem.W.nsIn K mainGlobals "tuple" = some none) (zlist : PySem.W.nsIn K mainGlobals "list" = some none) (zbool : PySem.W.nsIn K mainGlobals "bool" = some none) (zlen : PySem.W.nsIn K mainGlobals "len" = some none) (zall : PySem.W.nsIn K mainGlobals "all" = some none) (zzip : PySem.W.nsIn K mainGlobals "zip" = some none) (zint : PySem.W.nsIn K mainGlobals "int" = some none) (zabs : PySem.W.nsIn K mainGlobals "abs" = some none) (zrange : PySem.W.nsIn K mainGlobals "range" = some none) (zenumerate : PySem.W.nsIn K mainGlobals "enumerate" = some none) (zreversed : PySem.W.nsIn K mainGlobals "reversed" = some none) (zsorted : PySem.W.nsIn K mainGlobals "sorted" = some none) (zmin : PySem.W.nsIn K mainGlobals "min" = some none) (zsum : PySem.W.nsIn K mainGlobals "sum" = some none)
    : ∃ fd : FuncData, (∀ (s : Shared) (v : Value), BindsTo s fd ⟨[v], []⟩ [("_law_script", v)]) ∧ ∀ base : Heap, K.In base → base.Ns mainGlobals mg → FnOk P w K mg base CX0 8 fa fd ["_law_script"] (spLaw K) := by
  have e := hfa.symm.trans (PySem.W.mg_of X G aW)
  cases e
  have IT : IsTxt mg := ⟨PySem.W.mg_none_of X G zisinstance, PySem.W.mg_none_of X G ztuple, PySem.W.mg_none_of X G zlist, PySem.W.mg_none_of X G zbool, PySem.W.mg_none_of X G zlen, PySem.W.mg_none_of X G zall, PySem.W.mg_none_of X G zzip⟩
  have NT : NamT mg := ⟨IT, PySem.W.mg_none_of X G zint, PySem.W.mg_none_of X G zabs, PySem.W.mg_none_of X G zrange, PySem.W.mg_none_of X G zenumerate, PySem.W.mg_none_of X G zreversed, PySem.W.mg_none_of X G zsorted, PySem.W.mg_none_of X G zmin⟩
  have Fd0 := fun_mk (st := sIsInt) ld0 od0 kd0
  have Dd0 : ∃ f fd, DefAt K mg "is_integer" sIsInt ["thing"] f fd := ⟨_, _, ⟨Fd0, Fd0.binds (ps := ["thing"]) fun _ _ _ _ _ _ us hl => match us, hl with | [_], _ => rfl, PySem.W.mg_of X G ad0⟩⟩
  have Fd1 := fun_mk (st := sIsBtw) ld1 od1 kd1
  have Dd1 : ∃ f fd, DefAt K mg "is_between" sIsBtw ["thing", "least", "most"] f fd := ⟨_, _, ⟨Fd1, Fd1.binds (ps := ["thing", "least", "most"]) fun _ _ _ _ _ _ us hl => match us, hl with | [_, _, _], _ => rfl, PySem.W.mg_of X G ad1⟩⟩
  have Fd2 := fun_mk (st := sIsLot) ld2 od2 kd2
  have Dd2 : ∃ f fd, DefAt K mg "is_lot" sIsLot ["thing"] f fd := ⟨_, _, ⟨Fd2, Fd2.binds (ps := ["thing"]) fun _ _ _ _ _ _ us hl => match us, hl with | [_], _ => rfl, PySem.W.mg_of X G ad2⟩⟩
  have Fd3 := fun_mk (st := sLotOf) ld3 od3 kd3
  have Dd3 : ∃ f fd, DefAt K mg "_is_lot_of_places" sLotOf ["thing", "many"] f fd := ⟨_, _, ⟨Fd3, Fd3.binds (ps := ["thing", "many"]) fun _ _ _ _ _ _ us hl => match us, hl with | [_, _], _ => rfl, PySem.W.mg_of X G ad3⟩⟩
  have Fd4 := fun_mk (st := sIsPlace) ld4 od4 kd4
  have Dd4 : ∃ f fd, DefAt K mg "is_place" sIsPlace ["forest", "thing"] f fd := ⟨_, _, ⟨Fd4, Fd4.binds (ps := ["forest", "thing"]) fun _ _ _ _ _ _ us hl => match us, hl with | [_, _], _ => rfl, PySem.W.mg_of X G ad4⟩⟩
  have Fd5 := fun_mk (st := sWay) ld5 od5 kd5
  have Dd5 : ∃ f fd, DefAt K mg "way" sWay ["forest", "place"] f fd := ⟨_, _, ⟨Fd5, Fd5.binds (ps := ["forest", "place"]) fun _ _ _ _ _ _ us hl => match us, hl with | [_, _], _ => rfl, PySem.W.mg_of X G ad5⟩⟩
  have Fd6 := fun_mk (st := sIsPlan) ld6 od6 kd6
  have Dd6 : ∃ f fd, DefAt K mg "is_plan" sIsPlan ["forest", "thing"] f fd := ⟨_, _, ⟨Fd6, Fd6.binds (ps := ["forest", "thing"]) fun _ _ _ _ _ _ us hl => match us, hl with | [_, _], _ => rfl, PySem.W.mg_of X G ad6⟩⟩
  have Fd7 := fun_mk (st := sHand) ld7 od7 kd7
  have Dd7 : ∃ f fd, DefAt K mg "_law_hand" sHand ["_law_script"] f fd := ⟨_, _, ⟨Fd7, Fd7.binds (ps := ["_law_script"]) fun _ _ _ _ _ _ us hl => match us, hl with | [_], _ => rfl, PySem.W.mg_of X G ad7⟩⟩
  have Fd8 := fun_mk (st := sDraw) ld8 od8 kd8
  have Dd8 : ∃ f fd, DefAt K mg "_law_draw" sDraw ["_law_hand_here", "_law_many"] f fd := ⟨_, _, ⟨Fd8, Fd8.binds (ps := ["_law_hand_here", "_law_many"]) fun _ _ _ _ _ _ us hl => match us, hl with | [_, _], _ => rfl, PySem.W.mg_of X G ad8⟩⟩
  have Fd9 := fun_mk (st := sIs) ld9 od9 kd9
  have Dd9 : ∃ f fd, DefAt K mg "_law_is" sIs ["_law_told_here", "_law_due"] f fd := ⟨_, _, ⟨Fd9, Fd9.binds (ps := ["_law_told_here", "_law_due"]) fun _ _ _ _ _ _ us hl => match us, hl with | [_, _], _ => rfl, PySem.W.mg_of X G ad9⟩⟩
  have Fd10 := fun_mk (st := sParents) ld10 od10 kd10
  have Dd10 : ∃ f fd, DefAt K mg "_law_parents" sParents ["_law_hand_here", "_law_places"] f fd := ⟨_, _, ⟨Fd10, Fd10.binds (ps := ["_law_hand_here", "_law_places"]) fun _ _ _ _ _ _ us hl => match us, hl with | [_, _], _ => rfl, PySem.W.mg_of X G ad10⟩⟩
  have Fd11 := fun_mk (st := sLawLot) ld11 od11 kd11
  have Dd11 : ∃ f fd, DefAt K mg "_law_lot" sLawLot ["_law_hand_here", "_law_places", "_law_share"] f fd := ⟨_, _, ⟨Fd11, Fd11.binds (ps := ["_law_hand_here", "_law_places", "_law_share"]) fun _ _ _ _ _ _ us hl => match us, hl with | [_, _, _], _ => rfl, PySem.W.mg_of X G ad11⟩⟩
  have Fd12 := fun_mk (st := sLevels) ld12 od12 kd12
  have Dd12 : ∃ f fd, DefAt K mg "_law_levels" sLevels ["_law_hand_here", "_law_parents_here"] f fd := ⟨_, _, ⟨Fd12, Fd12.binds (ps := ["_law_hand_here", "_law_parents_here"]) fun _ _ _ _ _ _ us hl => match us, hl with | [_, _], _ => rfl, PySem.W.mg_of X G ad12⟩⟩
  have Fd13 := fun_mk (st := sTold) ld13 od13 kd13
  have Dd13 : ∃ f fd, DefAt K mg "_law_told" sTold ["_law_hand_here", "_law_most"] f fd := ⟨_, _, ⟨Fd13, Fd13.binds (ps := ["_law_hand_here", "_law_most"]) fun _ _ _ _ _ _ us hl => match us, hl with | [_, _], _ => rfl, PySem.W.mg_of X G ad13⟩⟩
  have Fd14 := fun_mk (st := sMade) ld14 od14 kd14
  have Dd14 : ∃ f fd, DefAt K mg "_law_made" sMade ["_law_told_here"] f fd := ⟨_, _, ⟨Fd14, Fd14.binds (ps := ["_law_told_here"]) fun _ _ _ _ _ _ us hl => match us, hl with | [_], _ => rfl, PySem.W.mg_of X G ad14⟩⟩
  have Fd15 := fun_mk (st := sPlans) ld15 od15 kd15
  have Dd15 : ∃ f fd, DefAt K mg "_law_plans" sPlans ["_law_parents_here"] f fd := ⟨_, _, ⟨Fd15, Fd15.binds (ps := ["_law_parents_here"]) fun _ _ _ _ _ _ us hl => match us, hl with | [_], _ => rfl, PySem.W.mg_of X G ad15⟩⟩
  have Fd16 := fun_mk (st := sWays) ld16 od16 kd16
  have Dd16 : ∃ f fd, DefAt K mg "_ways" sWays ["forest"] f fd := ⟨_, _, ⟨Fd16, Fd16.binds (ps := ["forest"]) fun _ _ _ _ _ _ us hl => match us, hl with | [_], _ => rfl, PySem.W.mg_of X G ad16⟩⟩
  have Fd17 := fun_mk (st := sTotal) ld17 od17 kd17
  have Dd17 : ∃ f fd, DefAt K mg "_total" sTotal ["forest", "ways"] f fd := ⟨_, _, ⟨Fd17, Fd17.binds (ps := ["forest", "ways"]) fun _ _ _ _ _ _ us hl => match us, hl with | [_, _], _ => rfl, PySem.W.mg_of X G ad17⟩⟩
  have Fd18 := fun_mk (st := sCountPlans) ld18 od18 kd18
  have Dd18 : ∃ f fd, DefAt K mg "count_plans" sCountPlans ["forest"] f fd := ⟨_, _, ⟨Fd18, Fd18.binds (ps := ["forest"]) fun _ _ _ _ _ _ us hl => match us, hl with | [_], _ => rfl, PySem.W.mg_of X G ad18⟩⟩
  have Fd19 := fun_mk (st := sPlanAt) ld19 od19 kd19
  have Dd19 : ∃ f fd, DefAt K mg "plan_at" sPlanAt ["forest", "number"] f fd := ⟨_, _, ⟨Fd19, Fd19.binds (ps := ["forest", "number"]) fun _ _ _ _ _ _ us hl => match us, hl with | [_, _], _ => rfl, PySem.W.mg_of X G ad19⟩⟩
  have Fd20 := fun_mk (st := sPlanNumber) ld20 od20 kd20
  have Dd20 : ∃ f fd, DefAt K mg "plan_number" sPlanNumber ["forest", "plan"] f fd := ⟨_, _, ⟨Fd20, Fd20.binds (ps := ["forest", "plan"]) fun _ _ _ _ _ _ us hl => match us, hl with | [_, _], _ => rfl, PySem.W.mg_of X G ad20⟩⟩
  have Fd21 := fun_mk (st := sAllPlans) ld21 od21 kd21
  have Dd21 : ∃ f fd, DefAt K mg "all_plans" sAllPlans ["forest"] f fd := ⟨_, _, ⟨Fd21, Fd21.binds (ps := ["forest"]) fun _ _ _ _ _ _ us hl => match us, hl with | [_], _ => rfl, PySem.W.mg_of X G ad21⟩⟩
  have Fd22 := fun_mk (st := sLCounted) ld22 od22 kd22
  have Dd22 : ∃ f fd, DefAt K mg "_law_counted" sLCounted ["_law_parents_here"] f fd := ⟨_, _, ⟨Fd22, Fd22.binds (ps := ["_law_parents_here"]) fun _ _ _ _ _ _ us hl => match us, hl with | [_], _ => rfl, PySem.W.mg_of X G ad22⟩⟩
  have Fd23 := fun_mk (st := sGreatP) ld23 od23 kd23
  have Dd23 : ∃ f fd, DefAt K mg "_law_great_parents" sGreatP ["_law_hand_here"] f fd := ⟨_, _, ⟨Fd23, Fd23.binds (ps := ["_law_hand_here"]) fun _ _ _ _ _ _ us hl => match us, hl with | [_], _ => rfl, PySem.W.mg_of X G ad23⟩⟩
  have Fd24 := fun_mk (st := sBrk) ld24 od24 kd24
  have Dd24 : ∃ f fd, DefAt K mg "_law_bracketings" sBrk ["_law_places"] f fd := ⟨_, _, ⟨Fd24, Fd24.binds (ps := ["_law_places"]) fun _ _ _ _ _ _ us hl => match us, hl with | [_], _ => rfl, PySem.W.mg_of X G ad24⟩⟩
  have Fd25 := fun_mk (st := sLast) ld25 od25 kd25
  have Dd25 : ∃ f fd, DefAt K mg "_law_last" sLast ["_law_parents_here"] f fd := ⟨_, _, ⟨Fd25, Fd25.binds (ps := ["_law_parents_here"]) fun _ _ _ _ _ _ us hl => match us, hl with | [_], _ => rfl, PySem.W.mg_of X G ad25⟩⟩
  have Fd26 := fun_mk (st := sLNumber) ld26 od26 kd26
  have Dd26 : ∃ f fd, DefAt K mg "_law_number" sLNumber ["_law_hand_here", "_law_many"] f fd := ⟨_, _, ⟨Fd26, Fd26.binds (ps := ["_law_hand_here", "_law_many"]) fun _ _ _ _ _ _ us hl => match us, hl with | [_, _], _ => rfl, PySem.W.mg_of X G ad26⟩⟩
  have Fd27 := fun_mk (st := sGreatR) ld27 od27 kd27
  have Dd27 : ∃ f fd, DefAt K mg "_law_great_right" sGreatR ["_law_hand_here"] f fd := ⟨_, _, ⟨Fd27, Fd27.binds (ps := ["_law_hand_here"]) fun _ _ _ _ _ _ us hl => match us, hl with | [_], _ => rfl, PySem.W.mg_of X G ad27⟩⟩
  have FW := fun_mk (st := sLaw) lW oW kW
  have FN := fun_mk (st := sInit) lN oN kN
  have bN := FN.binds (ps := ["self", "parents", "bearing", "asking"]) fun _ _ _ _ _ _ us hl => match us, hl with | [_, _, _, _], _ => rfl
  have T : FoT K mg C := ⟨⟨pg, hd, po, sa⟩, nP, nB, nA, PySem.W.mg_of X G aC⟩
  have B : Defs K mg C := ⟨NT, T, ⟨tm, PySem.W.mg_of X G mM⟩, ⟨tmMOST_PLANS, PySem.W.mg_of X G mMOST_PLANS⟩, PySem.W.mg_none_of X G zsum, ⟨_, _, FN, ⟨mk, aN, iN, kc⟩, bN⟩, Dd0, Dd1, Dd2, Dd3, Dd4, Dd5, Dd6, Dd7, Dd8, Dd9, Dd10, Dd11, Dd12, Dd13, Dd14, Dd15, Dd16, Dd17, Dd18, Dd19, Dd20, Dd21, Dd22, Dd23, Dd24, Dd25, Dd26, Dd27⟩
  exact ⟨PySem.W.fnOf "law" "law" (defArgs sLaw) (defBody sLaw) (defScope sLaw) .none kVW dcW pmW anW cdW ctW, fun s v => .of_eq rfl, fun base _ _ => ok_law FW B⟩
theorem walk {l : PySem.W.OpenLaw} {q : Program} {loose : List Str} {XP : (Str → Option Value) → Heap → Prop} {YP : World → Heap → Prop} {d : DefRec} {K : Params → PySem.W.Frag} (hn : l.most = some 63) (hdf : d.params.defaults = [])
    (hY : ∀ (w : World) (h : Heap), YP w h → (K w.params).In h)
    (F : ∀ (w : World) (mg : Str → Option Value) (fa : Addr) (h : Heap), (K w.params).In h → h.Ns mainGlobals mg → mg d.name = some (.ref fa) →
      ∃ fd : FuncData, (∀ (s : Shared) (u : Value), BindsTo s fd ⟨[u], []⟩ [("_law_script", u)]) ∧ ∀ base : Heap, (K w.params).In base → base.Ns mainGlobals mg → FnOk l.prog w (K w.params) mg base CX0 8 fa fd ["_law_script"] (spLaw (K w.params))) :
    PySem.W.WalkO q loose XP YP l.row.toRowW d [] (fun f vs => PySem.call f vs) :=
  L2.walk_of (n := 63) (k := 8) (x := "_law_script") (CX := fun _ => CX0) (sp := fun w => spLaw (K w.params)) hn (by decide) hdf ⟨rfl, by decide, by decide⟩ hY F (fun _ _ a ns hl _ hS => ⟨a, ns, rfl, hS, hl, fun _ => rfl⟩) fun _ _ _ _ _ z => z
end Cn
open PySem PySem.W PyProof.Rows
set_option maxRecDepth 100000 in
set_option maxHeartbeats 0 in
theorem PySem.Challenge.cw_cutnotes_k06_whole_plans_counted_and_num_holds : PySem.Challenge.rw_cutnotes_k06_whole_plans_counted_and_num.Holds := by
  w_on; o_law; k_head; (case hw => w_witness2)
  k_fill
  refine Cn.walk (l := PySem.Challenge.rw_cutnotes_k06_whole_plans_counted_and_num) rfl rfl (fun w h Y => PySem.W.kIn_of Y) ?F
  case F =>
    intro w mg fa h KX G hmg
    refine' Cn.all_mk KX G hmg ?aC ?pg ?hd ?po ?sa ?mk ?kc ?nP ?nB ?nA ?mM ?mMOST_PLANS ?aN ?iN ?lN ?oN ?kN ?a_d0 ?l_d0 ?o_d0 ?k_d0 ?a_d1 ?l_d1 ?o_d1 ?k_d1 ?a_d2 ?l_d2 ?o_d2 ?k_d2 ?a_d3 ?l_d3 ?o_d3 ?k_d3 ?a_d4 ?l_d4 ?o_d4 ?k_d4 ?a_d5 ?l_d5 ?o_d5 ?k_d5 ?a_d6 ?l_d6 ?o_d6 ?k_d6 ?a_d7 ?l_d7 ?o_d7 ?k_d7 ?a_d8 ?l_d8 ?o_d8 ?k_d8 ?a_d9 ?l_d9 ?o_d9 ?k_d9 ?a_d10 ?l_d10 ?o_d10 ?k_d10 ?a_d11 ?l_d11 ?o_d11 ?k_d11 ?a_d12 ?l_d12 ?o_d12 ?k_d12 ?a_d13 ?l_d13 ?o_d13 ?k_d13 ?a_d14 ?l_d14 ?o_d14 ?k_d14 ?a_d15 ?l_d15 ?o_d15 ?k_d15 ?a_d16 ?l_d16 ?o_d16 ?k_d16 ?a_d17 ?l_d17 ?o_d17 ?k_d17 ?a_d18 ?l_d18 ?o_d18 ?k_d18 ?a_d19 ?l_d19 ?o_d19 ?k_d19 ?a_d20 ?l_d20 ?o_d20 ?k_d20 ?a_d21 ?l_d21 ?o_d21 ?k_d21 ?a_d22 ?l_d22 ?o_d22 ?k_d22 ?a_d23 ?l_d23 ?o_d23 ?k_d23 ?a_d24 ?l_d24 ?o_d24 ?k_d24 ?a_d25 ?l_d25 ?o_d25 ?k_d25 ?a_d26 ?l_d26 ?o_d26 ?k_d26 ?a_d27 ?l_d27 ?o_d27 ?k_d27 ?a_W ?l_W ?o_W ?k_W ?z_isinstance ?z_tuple ?z_list ?z_bool ?z_len ?z_all ?z_zip ?z_int ?z_abs ?z_range ?z_enumerate ?z_reversed ?z_sorted ?z_min ?z_sum
    (case aC => k_is); (case pg => k_is); (case hd => k_is); (case po => k_is); (case sa => k_is); (case mk => k_is); (case kc => k_is); (case nP => k_is)
    (case nB => k_is); (case nA => k_is); (case mM => k_is); (case mMOST_PLANS => k_is); (case aN => k_is); (case iN => k_is); (case lN => k_is); (case oN => k_is)
    (case kN => k_is); (case a_d0 => k_is); (case l_d0 => k_is); (case o_d0 => k_is); (case k_d0 => k_is); (case a_d1 => k_is); (case l_d1 => k_is); (case o_d1 => k_is)
    (case k_d1 => k_is); (case a_d2 => k_is); (case l_d2 => k_is); (case o_d2 => k_is); (case k_d2 => k_is); (case a_d3 => k_is); (case l_d3 => k_is); (case o_d3 => k_is)
    (case k_d3 => k_is); (case a_d4 => k_is); (case l_d4 => k_is); (case o_d4 => k_is); (case k_d4 => k_is); (case a_d5 => k_is); (case l_d5 => k_is); (case o_d5 => k_is)
    (case k_d5 => k_is); (case a_d6 => k_is); (case l_d6 => k_is); (case o_d6 => k_is); (case k_d6 => k_is); (case a_d7 => k_is); (case l_d7 => k_is); (case o_d7 => k_is)
    (case k_d7 => k_is); (case a_d8 => k_is); (case l_d8 => k_is); (case o_d8 => k_is); (case k_d8 => k_is); (case a_d9 => k_is); (case l_d9 => k_is); (case o_d9 => k_is)
    (case k_d9 => k_is); (case a_d10 => k_is); (case l_d10 => k_is); (case o_d10 => k_is); (case k_d10 => k_is); (case a_d11 => k_is); (case l_d11 => k_is); (case o_d11 => k_is)
    (case k_d11 => k_is); (case a_d12 => k_is); (case l_d12 => k_is); (case o_d12 => k_is); (case k_d12 => k_is); (case a_d13 => k_is); (case l_d13 => k_is); (case o_d13 => k_is)
    (case k_d13 => k_is); (case a_d14 => k_is); (case l_d14 => k_is); (case o_d14 => k_is); (case k_d14 => k_is); (case a_d15 => k_is); (case l_d15 => k_is); (case o_d15 => k_is)
    (case k_d15 => k_is); (case a_d16 => k_is); (case l_d16 => k_is); (case o_d16 => k_is); (case k_d16 => k_is); (case a_d17 => k_is); (case l_d17 => k_is); (case o_d17 => k_is)
    (case k_d17 => k_is); (case a_d18 => k_is); (case l_d18 => k_is); (case o_d18 => k_is); (case k_d18 => k_is); (case a_d19 => k_is); (case l_d19 => k_is); (case o_d19 => k_is)
    (case k_d19 => k_is); (case a_d20 => k_is); (case l_d20 => k_is); (case o_d20 => k_is); (case k_d20 => k_is); (case a_d21 => k_is); (case l_d21 => k_is); (case o_d21 => k_is)
    (case k_d21 => k_is); (case a_d22 => k_is); (case l_d22 => k_is); (case o_d22 => k_is); (case k_d22 => k_is); (case a_d23 => k_is); (case l_d23 => k_is); (case o_d23 => k_is)
    (case k_d23 => k_is); (case a_d24 => k_is); (case l_d24 => k_is); (case o_d24 => k_is); (case k_d24 => k_is); (case a_d25 => k_is); (case l_d25 => k_is); (case o_d25 => k_is)
    (case k_d25 => k_is); (case a_d26 => k_is); (case l_d26 => k_is); (case o_d26 => k_is); (case k_d26 => k_is); (case a_d27 => k_is); (case l_d27 => k_is); (case o_d27 => k_is)
    (case k_d27 => k_is); (case a_W => k_is); (case l_W => k_is); (case o_W => k_is); (case k_W => k_is); (case z_isinstance => k_is); (case z_tuple => k_is); (case z_list => k_is)
    (case z_bool => k_is); (case z_len => k_is); (case z_all => k_is); (case z_zip => k_is); (case z_int => k_is); (case z_abs => k_is); (case z_range => k_is); (case z_enumerate => k_is)
    (case z_reversed => k_is); (case z_sorted => k_is); (case z_min => k_is); (case z_sum => k_is)
#print axioms PySem.Challenge.cw_cutnotes_k06_whole_plans_counted_and_num_holds
