import PyProof.Rows.All
import Wide.All
import OpenK.AllK
import Wide.FinOn
import HandS.Base
import HandS.Call
import HandS.List
import HandS.Comp
import HandS.Ends
import HandS.Dict
import HandS.Iter
import HandS.Words
import HandS.WordsList
import PySem.Challenge.RW_cutnotes_k42_whole_what_is_woven_is_poss
import HandS.Zip
import HandS.IsInst
import HandS.DeepEq
import HandS.Codes
import KE.GoesMore
import KE.GoesEnum
import PyProof.EnumMake
import PyProof.Draws
import HandS.TupAny
import HandS.Rev
import HandS.Conv
import HandS.Walk
import HandS.More
import HandS.Strs
import HandS.Flow
import HandS.Steps
import HandS.Style
import HandS.DictComp
import KE.GoesEnumKw
import PyProof.P3In
import PyProof.Rows.CallKwBuiltin
import HandS.Deep
import HandS.Text
import HandS.CallLocal
import KE.KDictList
import HandS.TupLe
import HandS.RaiseMore
import HandS.ForMost
set_option Elab.async false
set_option linter.all false
set_option maxRecDepth 100000
set_option maxHeartbeats 4000000
namespace Ck
def road (ps : List (Option Nat)) (i : Nat) : List Nat :=
  match ps[i]? with
  | some (some p) => if _h : p < i then road ps p ++ [i] else [i]
  | _ => [i]
termination_by i
def stk (ps : List (Option Nat)) (lv : List Nat) (i : Nat) : List Nat :=
  match ps[i]? with
  | some (some p) => if _h : p < i then (stk ps lv p).take (lv.getD i 0 - 1) ++ [i] else [i]
  | _ => [i]
termination_by i
def Ps (ps : List (Option Nat)) : Prop := ∀ (i p : Nat), ps[i]? = some (some p) → p < i
/-- the most that the level of i may be, by the levels ahead -/
def mostLv (lv : List Nat) : Option Nat → Nat
  | none => 1
  | some p => lv.getD p 0 + 1
def Lv (ps : List (Option Nat)) (lv : List Nat) : Prop := lv.length = ps.length ∧ ∀ (i l : Nat) (q : Option Nat), lv[i]? = some l → ps[i]? = some q → 1 ≤ l ∧ l ≤ mostLv lv q
section
variable {ps : List (Option Nat)} {lv : List Nat} {i p : Nat}
theorem road_none (h : ps[i]? = some none) : road ps i = [i] := by
  rw [road, h]
theorem road_some (hp : Ps ps) (h : ps[i]? = some (some p)) : road ps i = road ps p ++ [i] := by
  have hl := hp i p h
  rw [road, h]
  dsimp only
  rw [dif_pos hl]
theorem stk_none (h : ps[i]? = some none) : stk ps lv i = [i] := by
  rw [stk, h]
theorem stk_some (hp : Ps ps) (h : ps[i]? = some (some p)) : stk ps lv i = (stk ps lv p).take (lv.getD i 0 - 1) ++ [i] := by
  have hl := hp i p h
  rw [stk, h]
  dsimp only
  rw [dif_pos hl]
theorem opt_cases (hi : i < ps.length) : ps[i]? = some none ∨ ∃ p, ps[i]? = some (some p) := by
  rw [List.getElem?_eq_getElem hi]
  cases h : ps[i] with
  | none => exact .inl rfl
  | some p => exact .inr ⟨p, rfl⟩
theorem road_le (hp : Ps ps) : ∀ n, n < ps.length → ∀ x ∈ road ps n, x ≤ n := by
  intro n
  induction n using Nat.strongRecOn with
  | ind n ih =>
    intro hn x hx
    rcases opt_cases hn with h | ⟨p, h⟩
    · rw [road_none h] at hx
      exact Nat.le_of_eq (List.mem_singleton.mp hx)
    · rw [road_some hp h] at hx
      have hl := hp n p h
      rcases List.mem_append.mp hx with hx | hx
      · exact Nat.le_of_lt (Nat.lt_of_le_of_lt (ih p hl (Nat.lt_trans hl hn) x hx) hl)
      · exact Nat.le_of_eq (List.mem_singleton.mp hx)
theorem road_self (hp : Ps ps) (hi : i < ps.length) : i ∈ road ps i := by
  rcases opt_cases hi with h | ⟨p, h⟩
  · rw [road_none h]; exact List.mem_singleton.mpr rfl
  · rw [road_some hp h]; exact List.mem_append.mpr (.inr (List.mem_singleton.mpr rfl))
theorem road_ne (hp : Ps ps) (hi : i < ps.length) : road ps i ≠ [] := fun z => by
  have h := road_self hp hi
  rw [z] at h; cases h
theorem road_len (hp : Ps ps) : ∀ n, n < ps.length → (road ps n).length ≤ n + 1 := by
  intro n
  induction n using Nat.strongRecOn with
  | ind n ih =>
    intro hn
    rcases opt_cases hn with h | ⟨p, h⟩
    · rw [road_none h]; exact Nat.le_add_left _ _
    · have hl := hp n p h
      have := ih p hl (Nat.lt_trans hl hn)
      rw [road_some hp h, List.length_append, List.length_singleton]
      omega
theorem getD_of {xs : List Nat} {l : Nat} (h : xs[i]? = some l) : xs.getD i 0 = l := by
  rw [List.getD_eq_getElem?_getD, h]; rfl
theorem stk_len (hp : Ps ps) (hv : Lv ps lv) : ∀ n, n < ps.length → (stk ps lv n).length = lv.getD n 0 := by
  intro n
  induction n using Nat.strongRecOn with
  | ind n ih =>
    intro hn
    have hl : lv[n]? = some (lv.getD n 0) := by
      rw [List.getD_eq_getElem?_getD, List.getElem?_eq_getElem (by rw [hv.1]; exact hn)]; rfl
    rcases opt_cases hn with h | ⟨p, h⟩
    · have := hv.2 n _ _ hl h
      rw [stk_none h, List.length_singleton]
      have e : mostLv lv none = 1 := rfl
      omega
    · have hpn := hp n p h
      have := hv.2 n _ _ hl h
      have e := ih p hpn (Nat.lt_trans hpn hn)
      have e2 : mostLv lv (some p) = lv.getD p 0 + 1 := rfl
      rw [stk_some hp h, List.length_append, List.length_singleton, List.length_take, e]
      omega
theorem stk_sub (hp : Ps ps) : ∀ n, n < ps.length → ∀ x ∈ stk ps lv n, x ∈ road ps n := by
  intro n
  induction n using Nat.strongRecOn with
  | ind n ih =>
    intro hn x hx
    rcases opt_cases hn with h | ⟨p, h⟩
    · rw [stk_none h] at hx
      rw [road_none h]; exact hx
    · have hl := hp n p h
      rw [stk_some hp h] at hx
      rw [road_some hp h]
      rcases List.mem_append.mp hx with hx | hx
      · exact List.mem_append.mpr (.inl (ih p hl (Nat.lt_trans hl hn) x (List.mem_of_mem_take hx)))
      · exact List.mem_append.mpr (.inr hx)
end
/-! those of a list that rank below all behind them -/
def rlm (rk : Nat → Nat) : List Nat → List Nat
  | [] => []
  | x :: xs => if ∀ y ∈ xs, rk x < rk y then x :: rlm rk xs else rlm rk xs
section
variable {rk rk' : Nat → Nat}
theorem rlm_mem : ∀ {xs : List Nat} {x : Nat}, x ∈ rlm rk xs → x ∈ xs
  | [], _, h => by cases h
  | y :: ys, x, h => by
    unfold rlm at h
    split at h
    · rcases List.mem_cons.mp h with e | h
      · rw [e]; exact List.mem_cons_self
      · exact List.mem_cons_of_mem _ (rlm_mem h)
    · exact List.mem_cons_of_mem _ (rlm_mem h)
theorem rlm_sorted : ∀ xs : List Nat, (rlm rk xs).Pairwise (fun a b => rk a < rk b)
  | [] => .nil
  | y :: ys => by
    unfold rlm
    split
    · rename_i h
      exact .cons (fun z hz => h z (rlm_mem hz)) (rlm_sorted ys)
    · exact rlm_sorted ys
theorem rlm_congr : ∀ {xs : List Nat}, (∀ x ∈ xs, ∀ y ∈ xs, (rk x < rk y ↔ rk' x < rk' y)) → rlm rk xs = rlm rk' xs
  | [], _ => rfl
  | y :: ys, h => by
    have ih := rlm_congr (xs := ys) fun x hx z hz => h x (List.mem_cons_of_mem _ hx) z (List.mem_cons_of_mem _ hz)
    have e : (∀ z ∈ ys, rk y < rk z) ↔ (∀ z ∈ ys, rk' y < rk' z) := ⟨fun q z hz => (h y List.mem_cons_self z (List.mem_cons_of_mem _ hz)).mp (q z hz), fun q z hz => (h y List.mem_cons_self z (List.mem_cons_of_mem _ hz)).mpr (q z hz)⟩
    unfold rlm
    rw [ih]
    by_cases c : ∀ z ∈ ys, rk y < rk z
    · rw [if_pos c, if_pos (e.mp c)]
    · rw [if_neg c, if_neg (fun z => c (e.mpr z))]
theorem rlm_snoc (k : Nat) : ∀ xs : List Nat, rlm rk (xs ++ [k]) = (rlm rk xs).filter (fun x => decide (rk x < rk k)) ++ [k]
  | [] => by
    show (if ∀ y ∈ ([] : List Nat), rk k < rk y then k :: rlm rk [] else rlm rk []) = _
    rw [if_pos (fun y hy => by cases hy)]; rfl
  | y :: ys => by
    have ih := rlm_snoc k ys
    show (if ∀ z ∈ ys ++ [k], rk y < rk z then y :: rlm rk (ys ++ [k]) else rlm rk (ys ++ [k])) = (if ∀ z ∈ ys, rk y < rk z then y :: rlm rk ys else rlm rk ys).filter _ ++ [k]
    rw [ih]
    by_cases c : ∀ z ∈ ys, rk y < rk z
    · rw [if_pos c]
      by_cases d : rk y < rk k
      · rw [if_pos (fun z hz => by
          rcases List.mem_append.mp hz with hz | hz
          · exact c z hz
          · rw [List.mem_singleton.mp hz]; exact d), List.filter_cons_of_pos (by simpa using d)]
        rfl
      · rw [if_neg (fun q => d (q k (List.mem_append.mpr (.inr (List.mem_singleton.mpr rfl))))), List.filter_cons_of_neg (by simpa using d)]
    · rw [if_neg c, if_neg (fun q => c fun z hz => q z (List.mem_append.mpr (.inl hz)))]
end
theorem filter_take {f : Nat → Nat} : ∀ {L : List Nat} {m x : Nat}, L.Pairwise (fun a b => f a < f b) → L[m]? = some x → L.filter (fun y => decide (f y < f x)) = L.take m
  | [], m, x, _, h => by rw [List.getElem?_nil] at h; cases h
  | a :: L, 0, x, p, h => by
    cases h
    rw [List.take_zero, List.filter_eq_nil_iff]
    intro b hb
    rcases List.mem_cons.mp hb with e | hb
    · rw [e]; simp
    · have := (List.pairwise_cons.mp p).1 b hb
      simp; omega
  | a :: L, m + 1, x, p, h => by
    rw [List.getElem?_cons_succ] at h
    have hx : x ∈ L := List.mem_of_getElem? h
    have := (List.pairwise_cons.mp p).1 x hx
    rw [List.filter_cons_of_pos (by simpa using this), List.take_succ_cons, filter_take (List.pairwise_cons.mp p).2 h]
/-! one thing put into an order -/
theorem idx_ne {a x : Nat} {l : List Nat} (h : ¬ a = x) : (a :: l).idxOf x = l.idxOf x + 1 := by
  rw [List.idxOf_cons]
  have e : (a == x) = false := by simpa using h
  rw [e]; rfl
theorem getD_at {L : List Nat} {m : Nat} (h : m < L.length) : L[m]? = some (L.getD m 0) := by
  rw [List.getD_eq_getElem?_getD, List.getElem?_eq_getElem h]; rfl
def putAt (ord : List Nat) (j k : Nat) : List Nat := ord.take j ++ k :: ord.drop j
theorem putAt_new : ∀ {ord : List Nat} {j k : Nat}, k ∉ ord → j ≤ ord.length → (putAt ord j k).idxOf k = j
  | ord, 0, k, _, _ => by
    show (k :: ord.drop 0).idxOf k = 0
    rw [List.idxOf_cons_self]
  | [], j + 1, k, _, h => by cases h
  | a :: ord, j + 1, k, hk, hj => by
    have ne : ¬ a = k := fun e => hk (by rw [e]; exact List.mem_cons_self)
    show (a :: putAt ord j k).idxOf k = j + 1
    rw [idx_ne ne, putAt_new (fun h => hk (List.mem_cons_of_mem _ h)) (Nat.le_of_succ_le_succ hj)]
theorem putAt_old : ∀ {ord : List Nat} {j k x : Nat}, k ∉ ord → j ≤ ord.length → x ∈ ord → (putAt ord j k).idxOf x = if ord.idxOf x < j then ord.idxOf x else ord.idxOf x + 1
  | [], j, k, x, _, _, h => by cases h
  | a :: ord, 0, k, x, hk, _, hx => by
    have ne : ¬ k = x := fun e => hk (by rw [e]; exact hx)
    show (k :: a :: ord).idxOf x = _
    rw [idx_ne ne, if_neg (Nat.not_lt_zero _)]
  | a :: ord, j + 1, k, x, hk, hj, hx => by
    show (a :: putAt ord j k).idxOf x = _
    by_cases e : a = x
    · rw [e, List.idxOf_cons_self, List.idxOf_cons_self, if_pos (Nat.succ_pos _)]
    · have hx' : x ∈ ord := (List.mem_cons.mp hx).resolve_left fun z => e z.symm
      rw [idx_ne e, idx_ne e, putAt_old (fun h => hk (List.mem_cons_of_mem _ h)) (Nat.le_of_succ_le_succ hj) hx']
      by_cases c : ord.idxOf x < j
      · rw [if_pos c, if_pos (Nat.succ_lt_succ c)]
      · rw [if_neg c, if_neg fun z => c (Nat.lt_of_succ_lt_succ z)]
theorem putAt_mem {ord : List Nat} {j k x : Nat} : x ∈ putAt ord j k ↔ x = k ∨ x ∈ ord := by
  unfold putAt
  rw [List.mem_append, List.mem_cons]
  have h : x ∈ ord ↔ x ∈ ord.take j ∨ x ∈ ord.drop j := by
    rw [← List.mem_append, List.take_append_drop]
  rw [h]
  constructor
  · rintro (a | a | a)
    · exact .inr (.inl a)
    · exact .inl a
    · exact .inr (.inr a)
  · rintro (a | a | a)
    · exact .inr (.inl a)
    · exact .inl a
    · exact .inr (.inr a)
theorem putAt_nd {ord : List Nat} {j k : Nat} (h : ord.Nodup) (hk : k ∉ ord) : (putAt ord j k).Nodup := by
  unfold putAt
  have e : (ord.take j ++ ord.drop j).Nodup := by rw [List.take_append_drop]; exact h
  rw [List.nodup_append] at e ⊢
  refine ⟨e.1, List.nodup_cons.mpr ⟨fun z => hk (List.mem_of_mem_drop z), e.2.1⟩, fun a ha b hb => ?_⟩
  rcases List.mem_cons.mp hb with z | hb
  · intro q
    rw [q, z] at ha
    exact hk (List.mem_of_mem_take ha)
  · exact e.2.2 a ha b hb
theorem putAt_len {ord : List Nat} {j k : Nat} : (putAt ord j k).length = ord.length + 1 := by
  unfold putAt
  rw [List.length_append, List.length_cons, List.length_take, List.length_drop]
  omega
/-! the order that the levels tell -/
def above (ps : List (Option Nat)) (lv : List Nat) (i : Nat) : List Nat :=
  match ps[i]? with
  | some (some p) => stk ps lv p
  | _ => []
theorem above_none {ps : List (Option Nat)} {lv : List Nat} {i : Nat} (h : ps[i]? = some none) : above ps lv i = [] := by unfold above; rw [h]
theorem above_some {ps : List (Option Nat)} {lv : List Nat} {i p : Nat} (h : ps[i]? = some (some p)) : above ps lv i = stk ps lv p := by unfold above; rw [h]
def ordAt (ps : List (Option Nat)) (lv : List Nat) (ord : List Nat) (i : Nat) : Nat :=
  if lv.getD i 0 ≤ (above ps lv i).length then ord.idxOf ((above ps lv i).getD (lv.getD i 0 - 1) 0) else ord.length
def ordOf (ps : List (Option Nat)) (lv : List Nat) : Nat → List Nat
  | 0 => []
  | k + 1 => putAt (ordOf ps lv k) (ordAt ps lv (ordOf ps lv k) k) k
theorem ordAt_le {ps : List (Option Nat)} {lv ord : List Nat} {i : Nat} : ordAt ps lv ord i ≤ ord.length := by
  unfold ordAt
  split
  · exact List.idxOf_le_length
  · exact Nat.le_refl _
theorem ord_inv {ps : List (Option Nat)} {lv : List Nat} (hp : Ps ps) (hv : Lv ps lv) : ∀ k, k ≤ ps.length → (ordOf ps lv k).Nodup ∧ (∀ x, x ∈ ordOf ps lv k ↔ x < k) ∧ ∀ i, i < k → stk ps lv i = rlm (fun x => (ordOf ps lv k).idxOf x) (road ps i) := by
  intro k
  induction k with
  | zero => exact fun _ => ⟨List.nodup_nil, fun x => ⟨fun z => (by cases z), fun z => absurd z (Nat.not_lt_zero _)⟩, fun i z => absurd z (Nat.not_lt_zero _)⟩
  | succ k ih =>
    intro hk
    obtain ⟨nd, hm, hs⟩ := ih (Nat.le_of_succ_le hk)
    have kn : k ∉ ordOf ps lv k := fun z => Nat.lt_irrefl _ ((hm k).mp z)
    have jl := ordAt_le (ps := ps) (lv := lv) (ord := ordOf ps lv k) (i := k)
    show (putAt _ _ k).Nodup ∧ (∀ x, x ∈ putAt _ _ k ↔ x < k + 1) ∧ ∀ i, i < k + 1 → stk ps lv i = rlm (fun x => (putAt (ordOf ps lv k) (ordAt ps lv (ordOf ps lv k) k) k).idxOf x) (road ps i)
    have hj : ordAt ps lv (ordOf ps lv k) k = if lv.getD k 0 ≤ (above ps lv k).length then (ordOf ps lv k).idxOf ((above ps lv k).getD (lv.getD k 0 - 1) 0) else (ordOf ps lv k).length := rfl
    generalize ordOf ps lv k = ord at nd hm hs kn jl hj ⊢
    generalize ordAt ps lv ord k = j at jl hj ⊢
    have old : ∀ x, x < k → (putAt ord j k).idxOf x = if ord.idxOf x < j then ord.idxOf x else ord.idxOf x + 1 := fun x hx => putAt_old kn jl ((hm x).mpr hx)
    have cg : ∀ n, n < k → rlm (fun x => (putAt ord j k).idxOf x) (road ps n) = stk ps lv n := fun n hn => by
      rw [hs n hn]
      refine rlm_congr fun x hx y hy => ?_
      have h1 := Nat.lt_of_le_of_lt (road_le hp n (by omega) x hx) hn
      have h2 := Nat.lt_of_le_of_lt (road_le hp n (by omega) y hy) hn
      show (putAt ord j k).idxOf x < (putAt ord j k).idxOf y ↔ _
      rw [old x h1, old y h2]
      split <;> split <;> omega
    refine ⟨putAt_nd nd kn, fun x => ?_, fun i hi => ?_⟩
    · rw [putAt_mem, hm]
      omega
    · by_cases hik : i < k
      · exact (cg i hik).symm
      · have e : i = k := by omega
        subst e
        have hl : lv[i]? = some (lv.getD i 0) := by
          rw [List.getD_eq_getElem?_getD, List.getElem?_eq_getElem (by rw [hv.1]; omega)]; rfl
        rcases opt_cases (ps := ps) (i := i) (by omega) with h | ⟨p, h⟩
        · rw [stk_none h, road_none h]
          show _ = rlm _ ([] ++ [i])
          rw [rlm_snoc]; rfl
        · have hpi := hp i p h
          have hlv := hv.2 i _ _ hl h
          have hml : mostLv lv (some p) = lv.getD p 0 + 1 := rfl
          have ea : above ps lv i = stk ps lv p := by unfold above; rw [h]
          have hlen := stk_len hp hv p (by omega)
          rw [stk_some hp h, road_some hp h, rlm_snoc, cg p hpi, putAt_new kn jl]
          congr 1
          rw [ea] at hj
          have flt : ∀ x ∈ stk ps lv p, decide ((putAt ord j i).idxOf x < j) = decide (ord.idxOf x < j) := fun x hx => by
            have hx2 := Nat.lt_of_le_of_lt (road_le hp p (by omega) x (stk_sub hp p (by omega) x hx)) hpi
            rw [old x hx2]
            congr 1
            refine propext ⟨fun z => ?_, fun z => ?_⟩
            · split at z <;> omega
            · rw [if_pos z]; exact z
          rw [List.filter_congr flt]
          by_cases c : lv.getD i 0 ≤ (stk ps lv p).length
          · rw [if_pos c] at hj
            have hm2 : lv.getD i 0 - 1 < (stk ps lv p).length := by omega
            have hg := getD_at hm2
            rw [hj]
            refine (filter_take ?_ hg).symm
            rw [hs p hpi]
            exact rlm_sorted _
          · rw [if_neg c] at hj
            rw [List.take_of_length_le (by omega), List.filter_eq_self.mpr]
            intro x hx
            have hx2 := Nat.lt_of_le_of_lt (road_le hp p (by omega) x (stk_sub hp p (by omega) x hx)) hpi
            have := List.idxOf_lt_length_of_mem ((hm x).mpr hx2)
            rw [hj]
            exact decide_eq_true this
/-- what the order tells of each place: its level -/
theorem ord_lv {ps : List (Option Nat)} {lv : List Nat} (hp : Ps ps) (hv : Lv ps lv) {i : Nat} (hi : i < ps.length) : (rlm (fun x => (ordOf ps lv ps.length).idxOf x) (road ps i)).length = lv.getD i 0 := by
  rw [← (ord_inv hp hv ps.length (Nat.le_refl _)).2.2 i hi]
  exact stk_len hp hv i hi
theorem ord_len {ps : List (Option Nat)} {lv : List Nat} : ∀ k, (ordOf ps lv k).length = k
  | 0 => rfl
  | k + 1 => by
    show (putAt _ _ k).length = k + 1
    rw [putAt_len, ord_len k]
theorem above_sub {ps : List (Option Nat)} {lv : List Nat} {i x : Nat} (hp : Ps ps) (hi : i < ps.length) (hx : x ∈ above ps lv i) : x < i := by
  rcases opt_cases hi with h | ⟨p, h⟩
  · rw [above_none h] at hx; cases hx
  · rw [above_some h] at hx
    have hl := hp i p h
    exact Nat.lt_of_le_of_lt (road_le hp p (Nat.lt_trans hl hi) x (stk_sub hp p (Nat.lt_trans hl hi) x hx)) hl
theorem putAt_end {ord : List Nat} {k : Nat} : putAt ord ord.length k = ord ++ [k] := by
  unfold putAt
  rw [List.take_length, List.drop_length]
/-- how many are not above any behind them -/
def cntMin : List Nat → Nat
  | [] => 0
  | x :: xs => (if ∀ y ∈ xs, x ≤ y then 1 else 0) + cntMin xs
theorem cnt_rlm {rk : Nat → Nat} : ∀ {xs : List Nat}, xs.Nodup → (∀ x ∈ xs, ∀ y ∈ xs, x ≠ y → rk x ≠ rk y) → cntMin (xs.map rk) = (rlm rk xs).length
  | [], _, _ => rfl
  | x :: xs, nd, inj => by
    have ih := cnt_rlm (xs := xs) (List.nodup_cons.mp nd).2 fun a ha b hb => inj a (List.mem_cons_of_mem _ ha) b (List.mem_cons_of_mem _ hb)
    show (if ∀ y ∈ xs.map rk, rk x ≤ y then 1 else 0) + cntMin (xs.map rk) = (if ∀ y ∈ xs, rk x < rk y then x :: rlm rk xs else rlm rk xs).length
    have e : (∀ y ∈ xs.map rk, rk x ≤ y) ↔ ∀ y ∈ xs, rk x < rk y := by
      constructor
      · intro h y hy
        have h1 := h (rk y) (List.mem_map.mpr ⟨y, hy, rfl⟩)
        have h2 := inj x List.mem_cons_self y (List.mem_cons_of_mem _ hy) fun z => (List.nodup_cons.mp nd).1 (z ▸ hy)
        omega
      · intro h z hz
        obtain ⟨y, hy, rfl⟩ := List.mem_map.mp hz
        exact Nat.le_of_lt (h y hy)
    rw [ih]
    by_cases c : ∀ y ∈ xs, rk x < rk y
    · rw [if_pos (e.mpr c), if_pos c, List.length_cons]; omega
    · rw [if_neg (fun z => c (e.mp z)), if_neg c]; omega
theorem road_nd {ps : List (Option Nat)} (hp : Ps ps) : ∀ n, n < ps.length → (road ps n).Nodup := by
  intro n
  induction n using Nat.strongRecOn with
  | ind n ih =>
    intro hn
    rcases opt_cases hn with h | ⟨p, h⟩
    · rw [road_none h]; exact List.nodup_cons.mpr ⟨fun z => (by cases z), List.nodup_nil⟩
    · have hl := hp n p h
      rw [road_some hp h, List.nodup_append]
      refine ⟨ih p hl (Nat.lt_trans hl hn), List.nodup_cons.mpr ⟨fun z => (by cases z), List.nodup_nil⟩, fun a ha b hb => ?_⟩
      rw [List.mem_singleton.mp hb]
      have := road_le hp p (Nat.lt_trans hl hn) a ha
      omega
/-- one plan's levels under a place put for another's -/
def mixLv (ps : List (Option Nat)) (l1 l2 : List Nat) (i : Nat) (at_ : Nat) : Nat := if i ∈ road ps at_ then l2.getD at_ 0 else l1.getD at_ 0
theorem mix_ok {ps : List (Option Nat)} {l1 l2 : List Nat} {i : Nat} (hp : Ps ps) (h1 : Lv ps l1) (h2 : Lv ps l2) (hi : i < ps.length)
    (hc : ∀ p, ps[i]? = some (some p) → mixLv ps l1 l2 i i ≤ mixLv ps l1 l2 i p + 1) : Lv ps ((List.range ps.length).map (mixLv ps l1 l2 i)) := by
  refine ⟨by rw [List.length_map, List.length_range], fun j l q hl hq => ?_⟩
  have hj : j < ps.length := (List.getElem?_eq_some_iff.mp hq).1
  have hg : ∀ k, k < ps.length → ((List.range ps.length).map (mixLv ps l1 l2 i)).getD k 0 = mixLv ps l1 l2 i k := fun k hk => by
    rw [List.getD_eq_getElem?_getD, List.getElem?_map, List.getElem?_range hk]; rfl
  have el : l = mixLv ps l1 l2 i j := by rw [← hg j hj, getD_of hl]
  have a1 := h1.2 j _ q (getD_at (by rw [h1.1]; exact hj)) hq
  have a2 := h2.2 j _ q (getD_at (by rw [h2.1]; exact hj)) hq
  cases q with
  | none =>
    have e : ∀ lv, mostLv lv none = 1 := fun _ => rfl
    rw [e] at a1 a2 ⊢
    rw [el]
    unfold mixLv
    split <;> omega
  | some p =>
    have hpj := hp j p hq
    have e : ∀ lv, mostLv lv (some p) = lv.getD p 0 + 1 := fun _ => rfl
    rw [e] at a1 a2 ⊢
    rw [hg p (Nat.lt_trans hpj hj), el]
    by_cases ej : j = i
    · subst ej
      refine ⟨?_, hc p hq⟩
      unfold mixLv
      split <;> omega
    · have em : i ∈ road ps j ↔ i ∈ road ps p := by
        rw [road_some hp hq, List.mem_append]
        constructor
        · rintro (h | h)
          · exact h
          · exact absurd (List.mem_singleton.mp h).symm ej
        · exact fun h => .inl h
      unfold mixLv
      by_cases c : i ∈ road ps p
      · rw [if_pos (em.mpr c), if_pos c]; exact a2
      · rw [if_neg (fun z => c (em.mp z)), if_neg c]; exact a1
theorem cnt_cons_yes {x : Nat} {t : List Nat} (c : ∀ y ∈ t, x ≤ y) : cntMin (x :: t) = 1 + cntMin t := by
  show (if ∀ y ∈ t, x ≤ y then 1 else 0) + cntMin t = _
  rw [if_pos c]
theorem cnt_cons_no {x : Nat} {t : List Nat} (c : ¬ ∀ y ∈ t, x ≤ y) : cntMin (x :: t) = cntMin t := by
  show (if ∀ y ∈ t, x ≤ y then 1 else 0) + cntMin t = _
  rw [if_neg c, Nat.zero_add]
theorem cnt_yes {l : List Nat} {i x : Nat} (h : l[i]? = some x) (c : ∀ y ∈ l.drop (i + 1), x ≤ y) : cntMin (l.drop i) = 1 + cntMin (l.drop (i + 1)) := by
  obtain ⟨hi, e⟩ := List.getElem?_eq_some_iff.mp h
  rw [List.drop_eq_getElem_cons hi, e]
  exact cnt_cons_yes c
theorem cnt_no {l : List Nat} {i x : Nat} (h : l[i]? = some x) (c : ¬ ∀ y ∈ l.drop (i + 1), x ≤ y) : cntMin (l.drop i) = cntMin (l.drop (i + 1)) := by
  obtain ⟨hi, e⟩ := List.getElem?_eq_some_iff.mp h
  rw [List.drop_eq_getElem_cons hi, e]
  exact cnt_cons_no c
end Ck
namespace Cn
open PySem PySem.Spec PyProof.Rows L2
def topS (i : Nat) : Stmt := PySem.Challenge.pw_cutnotes_k42_whole_what_is_woven_is_poss.main.body.getD i (.Pass ⟨0, 0, 0, 0⟩)
abbrev sLo_init : Stmt := inClass (topS 51) 0
abbrev sLo_put_together : Stmt := inClass (topS 51) 1
abbrev sLo_turn : Stmt := inClass (topS 51) 2
abbrev sLo_begin : Stmt := inClass (topS 51) 3
abbrev sLo_go_on : Stmt := inClass (topS 51) 4
abbrev sLo_end : Stmt := inClass (topS 51) 5
abbrev sLWord : Stmt := topS 63
abbrev sIsInt : Stmt := topS 11
abbrev sIsBtw : Stmt := topS 12
abbrev sIsLot : Stmt := topS 13
abbrev sLotOf : Stmt := topS 17
abbrev sIsPlace : Stmt := topS 18
abbrev sWay : Stmt := topS 21
abbrev sIsPlan : Stmt := topS 36
abbrev sStacks : Stmt := topS 37
abbrev sNoteAt : Stmt := topS 39
abbrev sByPlace : Stmt := topS 38
abbrev sDraw : Stmt := topS 54
abbrev sIs : Stmt := topS 56
abbrev sParents : Stmt := topS 58
abbrev sLawLot : Stmt := topS 57
abbrev sMade : Stmt := topS 62
abbrev sHand : Stmt := topS 53
abbrev sPick : Stmt := topS 55
abbrev sSpec : Stmt := topS 59
abbrev sDPlan : Stmt := topS 60
abbrev sLWay : Stmt := topS 61
abbrev sIsBear : Stmt := topS 19
abbrev sIsAsk : Stmt := topS 20
abbrev sIsAmt : Stmt := topS 23
abbrev sLWords : Stmt := topS 64
abbrev sLJoin : Stmt := topS 65
abbrev sIsEv : Stmt := topS 30
abbrev sAreEv : Stmt := topS 31
abbrev sIsHist : Stmt := topS 44
abbrev sEndsOf : Stmt := topS 32
abbrev sOutd : Stmt := topS 33
abbrev sChoi : Stmt := topS 34
abbrev sPoss : Stmt := topS 46
abbrev sWrong : Stmt := topS 45
abbrev sLMayC : Stmt := topS 68
abbrev sLChoi : Stmt := topS 69
abbrev sLAllA : Stmt := topS 70
abbrev sLProd : Stmt := topS 71
abbrev sLFirstW : Stmt := topS 72
abbrev sTogt : Stmt := topS 24
abbrev sHold1 : Stmt := topS 25
abbrev sReadAt : Stmt := topS 26
abbrev sIsDeed : Stmt := topS 47
abbrev sIsDeeds : Stmt := topS 48
abbrev sIsTurns : Stmt := topS 49
abbrev sWoven : Stmt := topS 50
abbrev sLSoDe : Stmt := topS 66
abbrev sLTurns : Stmt := topS 67
abbrev sInit : Stmt := inClass (topS 16) 0
abbrev sEqM : Stmt := inClass (topS 16) 1
abbrev sLaw : Stmt := topS 73
/-! heaps -/
theorem smUpd {H : Hp} {p : Addr} {o : HO} (h : H p = none) : Same H (upd H p o) := fun b x e => by
  rw [upd_ne (ne_of_none e h)]
  exact e
theorem cutTake (xs : List V) (n : Nat) : cutV xs none (some (n : Int)) = xs.take n := by
  unfold cutV
  rw [HT.sIx_none, HT.sIx_nat]
  show (xs.drop 0).take (min n xs.length - 0) = xs.take n
  rw [List.drop_zero, Nat.sub_zero]
  by_cases h : n ≤ xs.length
  · rw [Nat.min_eq_left h]
  · rw [Nat.min_eq_right (by omega), List.take_length, List.take_of_length_le (by omega)]
theorem getMap {xs : List Int} {i : Nat} {v : V} (h : (xs.map V.int)[i]? = some v) : ∃ z, xs[i]? = some z ∧ v = .int z := by
  rw [List.getElem?_map] at h
  cases e : xs[i]? with
  | none => rw [e] at h; cases h
  | some z => rw [e] at h; exact ⟨z, rfl, (Option.some.inj h).symm⟩
/-! the pool that deals: what is left of great numbers, the small ones, a rest, a count -/
structure HandIn (H : Hp) (p : Addr) (S : Addr → Prop) : Prop where
  ob : ∃ (g c : Addr) (gs cs : List Int) (d n : Int), H p = some (.lst [.ref g, .ref c, .int d, .int n]) ∧ H g = some (.lst (gs.map V.int)) ∧ H c = some (.lst (cs.map V.int)) ∧ p ≠ g ∧ p ≠ c ∧ ¬ S g ∧ ¬ S c
  np : ¬ S p
  tr : ∀ D, S D → H D ≠ none
def spHand (K : PySem.W.Frag) : Sp := fun vs H Q _ => ∃ (a : Addr) (ns : List Int), vs = [.ref a] ∧ SqL K H a (ns.map V.int) ∧ ns.length ≤ 63 ∧
  ∀ (H' : Hp) (p : Addr), Same H H' → H p = none → HandIn H' p (fun x => H x ≠ none) → Q (.ref p) H'
def nHand : List Str := ["_law_script", "_law_great", "_law_small", "_law_cell"]
theorem scHand : FnScope nHand ["_law_script"] (defScope sHand) := ⟨rfl, rfl, rfl, by decide +kernel, rfl, by decide +kernel, by decide +kernel⟩
theorem smOverP {H G : Hp} {D : Addr} {o : HO} (nD : H D = none) (s : Same H G) : Same H (upd G D o) := fun b x e => by
  rw [upd_ne (ne_of_none e nD)]
  exact s b x e
theorem sqSame {K : PySem.W.Frag} {H H' : Hp} {a : Addr} {xs : List V} (s : Same H H') (h : SqL K H a xs) : SqL K H' a xs := by
  rcases h with (h | ⟨o, h⟩) | h
  · exact .inl (.inl (s _ _ h))
  · exact .inl (.inr ⟨o, s _ _ h⟩)
  · exact .inr h
section
variable {P : Program} {w : World} {K : PySem.W.Frag} {mg : Str → Option Value} {base : Heap}
theorem ok_hand {f : Addr} {fd : FuncData} (F : Fun K "_law_pool" "_law_pool" sHand f fd) (mAbs : mg "abs" = none) (mInt : mg "int" = none) : FnOk P w K mg base CX0 1 f fd ["_law_script"] (spHand K) := by
  have nd := scHand.nd
  refine F.ok scHand (fun vs H Q E h => ?_) (fun cdv A outer s H vs Q E hr h => ?_)
  · obtain ⟨a, ns, rfl, _⟩ := h
    rfl
  · obtain ⟨a, ns, rfl, hS, hlen, k⟩ := h
    refine ⟨_, pss_cons (ps_setLc (i := 1) (own := [("_law_cell", 3)]) (g := gName 3) rfl nd rfl rfl (sw_true rfl rfl rfl (by decide +kernel))
        (pi_list (pe_slice sl_list (pv 0) po_none (po_some pe_int))) (blkOk_by (N := nHand) (sc := defScope sHand) (by decide +kernel))
        (fun _ _ _ _ _ => pg_name (i := 3) nd rfl (Or.inl rfl)) (fun _ _ _ _ _ => pts_one (pt_cmpR op_ge (pe_callB call_abs (by rfl) mAbs (by decide +kernel) (pa_cons (pv 3) pa_nil)) (pe_op op_pow pe_int pe_int) (nomark _)))
        (fun _ _ _ _ _ => pe_callB call_abs (by rfl) mAbs (by decide +kernel) (pa_cons (pv 3) pa_nil)))
      (pss_cons (ps_setLc (i := 2) (own := [("_law_cell", 3)]) (g := gName 3) rfl nd rfl rfl (sw_true rfl rfl rfl (by decide +kernel))
        (pi_list (pe_slice sl_list (pv 0) po_none (po_some pe_int))) (blkOk_by (N := nHand) (sc := defScope sHand) (by decide +kernel))
        (fun _ _ _ _ _ => pg_name (i := 3) nd rfl (Or.inl rfl)) (fun _ _ _ _ _ => pts_one (pt_cmpR op_lt (pe_callB call_abs (by rfl) mAbs (by decide +kernel) (pa_cons (pv 3) pa_nil)) (pe_op op_pow pe_int pe_int) (nomark _)))
        (fun _ _ _ _ _ => pe_op op_modN (pe_callTy call_int1 (by rfl) mInt (by decide +kernel) (pa_cons (pv 3) pa_nil)) pe_int))
      (pss_one (ps_ret (pe_lst (pa_cons (pv 1) (pa_cons (pv 2) (pa_cons pe_int (pa_cons pe_int pa_nil)))))))), ?_⟩
    have ex : cutV (ns.map V.int) none (some 63) = (ns.take 63).map V.int := by
      rw [show (some (63 : Int)) = some ((63 : Nat) : Int) from rfl, cutTake, List.map_take]
    obtain ⟨ms, hms⟩ : ∃ ms, ms = ns.take 63 := ⟨_, rfl⟩
    have lms : ms.length ≤ 63 := by rw [hms, List.length_take]; omega
    -- a filtered walk over the script's cells
    refine ⟨_, rfl, 63, rfl, a, ns.map V.int, rfl, hS, fun q nq => ?_⟩
    rw [ex, ← hms]
    have s1 : Same H (upd H q (.lst (ms.map V.int))) := smUpd nq
    have hq : upd H q (.lst (ms.map V.int)) q = some (.lst (ms.map V.int)) := upd_same
    generalize upd H q (.lst (ms.map V.int)) = H1 at s1 hq ⊢
    refine ⟨_, rfl, ⟨_, .inl (.inl hq)⟩, fun D nD => ?_⟩
    refine lc_list (K := K) (a := q) (xs := ms.map V.int) (fun i G => Same H1 G ∧ ∃ cs : List Int, G D = some (.lst (cs.map V.int)) ∧ cs.length ≤ i) ⟨smUpd nD, [], upd_same, Nat.le_refl _⟩ (fun i G _ z => .inl (.inl (z.1 _ _ hq))) ?_ ?_
    · rintro i x G hx ⟨sm, cs, hD, hl⟩
      obtain ⟨z, hz, rfl⟩ := getMap hx
      have hi := (List.getElem?_eq_some_iff.mp hz).1
      refine ⟨rfl, _, rfl, z, rfl, _, _, rfl, rfl, ⟨by decide, by decide, by decide⟩, _, _, rfl, rfl, _, rfl, ?_⟩
      refine ite2 (fun _ => ?_) (fun _ => ⟨sm, cs, hD, by omega⟩)
      refine ⟨_, rfl, z, rfl, cs.map V.int, hD, small1000 (by rw [List.length_map]; omega), smOverP nD sm, cs ++ [if z < 0 then -z else z], by rw [upd_same, List.map_append]; rfl, by rw [List.length_append]; show cs.length + 1 ≤ i + 1; omega⟩
    rintro G1 ⟨sm1, cs1, hD1, _⟩
    have sH1 := s1.trans sm1
    refine ⟨_, rfl, 63, rfl, a, ns.map V.int, rfl, sqSame sH1 hS, fun q2 nq2 => ?_⟩
    rw [ex, ← hms]
    have s2 := smUpd (o := .lst (ms.map V.int)) nq2
    have hq2 : upd G1 q2 (.lst (ms.map V.int)) q2 = some (.lst (ms.map V.int)) := upd_same
    have hD2 := s2 _ _ hD1
    have sH2 := sH1.trans s2
    generalize upd G1 q2 (.lst (ms.map V.int)) = G2 at s2 hq2 hD2 sH2 ⊢
    refine ⟨_, rfl, ⟨_, .inl (.inl hq2)⟩, fun D2 nD2 => ?_⟩
    refine lc_list (K := K) (a := q2) (xs := ms.map V.int) (fun i G => Same G2 G ∧ ∃ cs : List Int, G D2 = some (.lst (cs.map V.int)) ∧ cs.length ≤ i) ⟨smUpd nD2, [], upd_same, Nat.le_refl _⟩ (fun i G _ z => .inl (.inl (z.1 _ _ hq2))) ?_ ?_
    · rintro i x G hx ⟨sm, cs, hD, hl⟩
      obtain ⟨z, hz, rfl⟩ := getMap hx
      have hi := (List.getElem?_eq_some_iff.mp hz).1
      refine ⟨rfl, _, rfl, z, rfl, _, _, rfl, rfl, ⟨by decide, by decide, by decide⟩, _, _, rfl, rfl, _, rfl, ?_⟩
      refine ite2 (fun _ => ?_) (fun _ => ⟨sm, cs, hD, by omega⟩)
      refine ⟨_, rfl, .inl ⟨z, rfl, _, _, rfl, rfl, (show (1000003 : Int) ≠ 0 by decide), cs.map V.int, hD, small1000 (by rw [List.length_map]; omega), smOverP nD2 sm, cs ++ [z.fmod 1000003], by rw [upd_same, List.map_append]; rfl, by rw [List.length_append]; show cs.length + 1 ≤ i + 1; omega⟩⟩
    rintro G3 ⟨sm3, cs3, hD3, _⟩
    have hD23 := sm3 _ _ hD2
    refine ⟨_, rfl, _, rfl, by show 4 ≤ sizeLine; decide, fun p np => ?_⟩
    have sH3 := sH2.trans sm3
    have none0 : ∀ {b : Addr}, G3 b = none → H b = none := fun {b} e => by
      cases q : H b with
      | none => rfl
      | some o => rw [sH3 _ _ q] at e; cases e
    have n2 : H D2 = none := by
      cases q : H D2 with
      | none => rfl
      | some o => rw [sH2 _ _ q] at nD2; cases nD2
    have pD : p ≠ D := fun e => by rw [e, hD23] at np; cases np
    have pD2 : p ≠ D2 := fun e => by rw [e, hD3] at np; cases np
    have n1 : H D = none := by
      cases q : H D with
      | none => rfl
      | some o => rw [s1 _ _ q] at nD; cases nD
    refine k _ p (smOverP (none0 np) sH3) (none0 np) ⟨⟨D, D2, cs1, cs3, 0, 0, upd_same, by rw [upd_ne pD.symm]; exact hD23, by rw [upd_ne pD2.symm]; exact hD3, pD, pD2, fun z => z n1, fun z => z n2⟩, fun z => z (none0 np), fun b hb => ?_⟩
    cases q : H b with
    | none => exact absurd q hb
    | some o => rw [smOverP (none0 np) sH3 _ _ q]; exact fun z => nomatch z
end
end Cn
namespace Cn
open PySem PySem.Spec PyProof.Rows L2
/-! a statement, then the rest, by a word of what stands between -/
def tMid (t u : TS) : TS := fun D σ H => ∃ R : L2.St → Hp → Prop, t { nx := R, rt := D.rt, bk := D.bk, ct := D.ct } σ H ∧ ∀ σ2 H2, R σ2 H2 → u D σ2 H2
theorem psMid {X : Cx} {st : Stmt} {rest : List Stmt} {t u : TS} (a : PS X st t) (b : PSs X rest u) : PSs X (st :: rest) (tMid t u) := by
  constructor
  intro pins s σ H D I h
  obtain ⟨R, h1, h2⟩ := h
  refine wpAny_execs_cons (thn (a.run pins s σ H _ I h1) fun fl s1 q => ?_)
  cases fl with
  | next =>
    obtain ⟨σ2, H2, I2, q2⟩ := q
    exact b.run pins s1 σ2 H2 D I2 (h2 σ2 H2 q2)
  | brk => exact q
  | cont => exact q
  | ret u => exact q
def Kept (p : Addr) (H H' : Hp) : Prop := ∀ b o, b ≠ p → H b = some o → H' b = some o
theorem kept_trans {p : Addr} {H H' H2 : Hp} (a : Kept p H H') (b : Kept p H' H2) : Kept p H H2 := fun c o n e => b c o n (a c o n e)
theorem kept_same {p : Addr} {H H' : Hp} (s : Same H H') : Kept p H H' := fun b o _ e => s b o e
theorem kept_hand {p : Addr} {H : Hp} {o : HO} : Kept p H (upd H p o) := fun b x n e => by rw [upd_ne n]; exact e
/-- written at D, which was none at first -/
theorem kept_over {p D : Addr} {H H' : Hp} {o : HO} (nD : H D = none) (k : Kept p H H') : Kept p H (upd H' D o) := fun b x n e => by
  rw [upd_ne (ne_of_none e nD)]
  exact k b x n e
theorem handIn_keep {H H' : Hp} {p : Addr} {S : Addr → Prop} (h : HandIn H p S) (k : Same H H') : HandIn H' p S := by
  obtain ⟨⟨g, c, gs, cs, d, n, hp, hg, hc, r⟩, np, tr⟩ := h
  refine ⟨⟨g, c, gs, cs, d, n, k _ _ hp, k _ _ hg, k _ _ hc, r⟩, np, fun D hD => ?_⟩
  cases q : H D with
  | none => exact absurd q (tr D hD)
  | some o => rw [k _ _ q]; exact fun z => nomatch z
theorem handIn_less {H : Hp} {p : Addr} {S S' : Addr → Prop} (h : HandIn H p S) (k : ∀ x, S' x → S x) : HandIn H p S' := by
  obtain ⟨⟨g, c, gs, cs, d, n, hp, hg, hc, n1, n2, n3, n4⟩, np, tr⟩ := h
  exact ⟨⟨g, c, gs, cs, d, n, hp, hg, hc, n1, n2, fun z => n3 (k _ z), fun z => n4 (k _ z)⟩, fun z => np (k _ z), fun D hD => tr D (k _ hD)⟩
/-- a new thing of one's own -/
theorem handIn_add {H : Hp} {p D : Addr} {S : Addr → Prop} {o : HO} (h : HandIn H p S) (nD : H D = none) : HandIn (upd H D o) p (fun x => x = D ∨ S x) := by
  obtain ⟨⟨g, c, gs, cs, d, n, hp, hg, hc, n1, n2, n3, n4⟩, np, tr⟩ := h
  have e : ∀ {b : Addr} {u : HO}, H b = some u → b ≠ D := fun h z => by rw [z, nD] at h; cases h
  refine ⟨⟨g, c, gs, cs, d, n, by rw [upd_ne (e hp)]; exact hp, by rw [upd_ne (e hg)]; exact hg, by rw [upd_ne (e hc)]; exact hc, n1, n2, fun z => z.elim (e hg) n3, fun z => z.elim (e hc) n4⟩, fun z => z.elim (e hp) np, fun b hb => ?_⟩
  by_cases z : b = D
  · rw [z, upd_same]; exact fun z => nomatch z
  · rw [upd_ne z]; exact tr b (hb.resolve_left z)
/-- written at a thing of one's own -/
theorem handIn_write {H : Hp} {p D : Addr} {S : Addr → Prop} {o : HO} (h : HandIn H p S) (sD : S D) : HandIn (upd H D o) p S := by
  obtain ⟨⟨g, c, gs, cs, d, n, hp, hg, hc, n1, n2, n3, n4⟩, np, tr⟩ := h
  have e : ∀ {b : Addr}, ¬ S b → b ≠ D := fun h z => h (by rw [z]; exact sD)
  refine ⟨⟨g, c, gs, cs, d, n, by rw [upd_ne (e np)]; exact hp, by rw [upd_ne (e n3)]; exact hg, by rw [upd_ne (e n4)]; exact hc, n1, n2, n3, n4⟩, np, fun b hb => ?_⟩
  by_cases z : b = D
  · rw [z, upd_same]; exact fun z => nomatch z
  · rw [upd_ne z]; exact tr b hb
theorem hand_ne {H : Hp} {p a : Addr} {S : Addr → Prop} (h : HandIn H p S) (na : H a = none) : a ≠ p := fun z => by
  obtain ⟨_, _, _, _, _, _, e, _⟩ := h.ob
  rw [← z, na] at e; cases e
theorem tup_ne {H : Hp} {p a : Addr} {S : Addr → Prop} {xs : List V} (h : HandIn H p S) (ha : H a = some (.tup xs)) : a ≠ p := fun z => by
  obtain ⟨_, _, _, _, _, _, e, _⟩ := h.ob
  rw [← z, ha] at e; cases e
theorem handIn_put {H : Hp} {p g c : Addr} {S : Addr → Prop} {gs cs : List Int} (d n : Int) (h : HandIn H p S) (hg : H g = some (.lst (gs.map V.int))) (hc : H c = some (.lst (cs.map V.int))) (ng : p ≠ g) (nc : p ≠ c) (sg : ¬ S g) (sc : ¬ S c) : HandIn (upd H p (.lst [.ref g, .ref c, .int d, .int n])) p S := by
  refine ⟨⟨g, c, gs, cs, d, n, upd_same, by rw [upd_ne ng.symm]; exact hg, by rw [upd_ne nc.symm]; exact hc, ng, nc, sg, sc⟩, h.np, fun b hb => ?_⟩
  rw [upd_ne (fun z => h.np (by rw [← z]; exact hb))]
  exact h.tr b hb
def spDraw : Sp := fun vs H Q _ => ∃ (p : Addr) (S : Addr → Prop) (k : Int), vs = [.ref p, .int k] ∧ HandIn H p S ∧ 0 < k ∧ k < 1073741824 ∧
  ∀ (d : Int) H', 0 ≤ d → d < k → HandIn H' p S → Kept p H H' → Q (.int d) H'
def nDraw : List Str := ["_law_pool_here", "_law_many", "_law_digit", "_law_cell", "_law_number"]
theorem scDraw : FnScope nDraw ["_law_pool_here", "_law_many"] (defScope sDraw) := ⟨rfl, rfl, rfl, by decide +kernel, rfl, by decide +kernel, by decide +kernel⟩
theorem fmB {a k : Int} (h : 0 < k) : 0 ≤ a.fmod k ∧ a.fmod k < k := ⟨Int.fmod_nonneg_of_pos a h, Int.fmod_lt_of_pos a h⟩
theorem atNat {cs : List Int} {i : Int} (h0 : 0 ≤ i) (h1 : i < ((cs.map V.int).length : Int)) : ∃ z, atI (cs.map V.int) i = some (.int z) := by
  obtain ⟨n, rfl⟩ := Int.eq_ofNat_of_zero_le h0
  rw [List.length_map] at h1
  have hn : n < cs.length := by omega
  refine ⟨cs[n], ?_⟩
  unfold atI ixN
  rw [if_pos (by omega), List.length_map, if_pos (by omega)]
  show (cs.map V.int)[((n : Nat) : Int).toNat]? = _
  rw [Int.toNat_natCast, List.getElem?_map, List.getElem?_eq_getElem hn]
  rfl
theorem cutDrop1 (gs : List Int) : cutV (gs.map V.int) (some 1) none = (gs.drop 1).map V.int := by
  unfold cutV
  rw [show (some (1 : Int)) = some ((1 : Nat) : Int) from rfl, HT.sIx_none, HT.sIx_nat, List.map_drop]
  rw [List.length_map]
  rcases gs with _ | ⟨g, gs⟩
  · rfl
  · rw [List.take_of_length_le (by rw [List.length_drop, List.length_map]; show _ ≤ _; simp), show min 1 (g :: gs).length = 1 from by rw [List.length_cons]; omega]
section
variable {P : Program} {w : World} {K : PySem.W.Frag} {mg : Str → Option Value} {base : Heap}
theorem ok_draw {f : Addr} {fd : FuncData} (F : Fun K "_law_draw" "_law_draw" sDraw f fd) (mInt : mg "int" = none) (mLen : mg "len" = none) : FnOk P w K mg base CX0 1 f fd ["_law_pool_here", "_law_many"] spDraw := by
  have nd := scDraw.nd
  refine F.ok scDraw (fun vs H Q E h => ?_) (fun cdv A outer s H vs Q E hr h => ?_)
  · obtain ⟨p, S, k, rfl, _⟩ := h
    rfl
  · obtain ⟨p, S, k, rfl, hI, k0, k1, q⟩ := h
    refine ⟨_, psMid (ps_if (PW.pt (pw_and (pt_cmpR op_le (pe_ix ix_list (pv 0) pe_int (fun _ _ => rfl)) pe_int (nomark _))
            (pw_and1 (pt_cmpR op_gt (pe_callB call_len_seq (by rfl) mLen PySem.boot_len (pa_cons (pe_ix ix_list (pv 0) pe_int (fun _ _ => rfl)) pa_nil)) pe_int (nomark _)))))
        (pss_cons (ps_asg (pe_ix ix_list (pe_ix ix_list (pv 0) pe_int (fun _ _ => rfl)) pe_int (fun _ _ => rfl)) (pg_sub (pv 0) pe_int set_list))
        (pss_one (ps_asg (pe_slice sl_list (pe_ix ix_list (pv 0) pe_int (fun _ _ => rfl)) (po_some pe_int) po_none) (pg_sub (pv 0) pe_int set_list))))
        pss_nil)
      (pss_cons (ps_if (pt_cmpR op_gt (pe_ix ix_list (pv 0) pe_int (fun _ _ => rfl)) pe_int (nomark _))
        (pss_cons (ps_set (i := 2) nd rfl (Or.inl rfl) (pe_op op_modN (pe_callTy call_int1 (by rfl) mInt (by decide +kernel) (pa_cons (pe_ix ix_list (pv 0) pe_int (fun _ _ => rfl)) pa_nil)) (pv 1)))
        (pss_cons (ps_asg (pe_op op_fdivN (pe_ix ix_list (pv 0) pe_int (fun _ _ => rfl)) (pv 1)) (pg_sub (pv 0) pe_int set_list))
        (pss_one (ps_ret (pv 2))))) pss_nil)
      (pss_cons (ps_asg (pe_op op_add (pe_ix ix_list (pv 0) pe_int (fun _ _ => rfl)) pe_int) (pg_sub (pv 0) pe_int set_list))
      (pss_cons (ps_set (i := 3) nd rfl (Or.inl rfl) pe_int)
      (psMid (ps_if (pt_cmpR op_gt (pe_callB call_len_seq (by rfl) mLen PySem.boot_len (pa_cons (pe_ix ix_list (pv 0) pe_int (fun _ _ => rfl)) pa_nil)) pe_int (nomark _))
        (pss_one (ps_set (i := 3) nd rfl (Or.inl rfl) (pe_ix ix_list (pe_ix ix_list (pv 0) pe_int (fun _ _ => rfl)) (pe_op op_modN (pe_callTy call_int1 (by rfl) mInt (by decide +kernel) (pa_cons (pe_ix ix_list (pv 0) pe_int (fun _ _ => rfl)) pa_nil)) (pe_callB call_len_seq (by rfl) mLen PySem.boot_len (pa_cons (pe_ix ix_list (pv 0) pe_int (fun _ _ => rfl)) pa_nil))) (fun _ _ => rfl)))) pss_nil)
      (pss_cons (ps_set (i := 4) nd rfl (Or.inl rfl) (pe_op op_modN (pe_callTy call_int1 (by rfl) mInt (by decide +kernel) (pa_cons (pe_op op_mul (pe_op op_add (pe_op op_add (pv 3) (pe_op op_mul pe_int (pe_ix ix_list (pv 0) pe_int (fun _ _ => rfl)))) pe_int) pe_int) pa_nil)) pe_int))
      (pss_cons (ps_set (i := 4) nd rfl (Or.inl rfl) (pe_op op_modN (pe_callTy call_int1 (by rfl) mInt (by decide +kernel) (pa_cons (pe_op op_mul (pv 4) (pe_op op_add (pe_op op_fdivN (pv 4) pe_int) pe_int)) pa_nil)) pe_int))
      (pss_cons (ps_set (i := 4) nd rfl (Or.inl rfl) (pe_op op_modN (pe_callTy call_int1 (by rfl) mInt (by decide +kernel) (pa_cons (pe_op op_mul (pv 4) (pe_op op_add (pe_op op_fdivN (pv 4) pe_int) pe_int)) pa_nil)) pe_int))
      (pss_one (ps_ret (pe_op op_modN (pe_callTy call_int1 (by rfl) mInt (by decide +kernel) (pa_cons (pe_op op_fdivN (pv 4) pe_int) pa_nil)) (pv 1))))))))))), ?_⟩
    have sq : ∀ {H' : Hp} {a : Addr} {xs : List V}, H' a = some (.lst xs) → SqL K H' a xs := fun h => .inl (.inl h)
    have kn : k ≠ 0 := by omega
    have kb : k.natAbs < 1073741824 := by omega
    refine ⟨fun σ2 H2 => σ2 = [some (.ref p), some (.int k), none, none, none] ∧ HandIn H2 p S ∧ Kept p H H2, ?_, ?_⟩
    · obtain ⟨⟨g, c, gs, cells, d, n, hp, hg, hc, ng, nc, sg, sc⟩, nps, tr⟩ := id hI
      refine ⟨_, rfl, p, _, 2, _, rfl, rfl, sq hp, rfl, _, _, rfl, rfl, _, rfl, ?_⟩
      refine ite2 (fun _ => ?_) (fun _ => ⟨rfl, hI, fun _ _ _ e => e⟩)
      refine ⟨_, rfl, p, _, 0, _, rfl, rfl, sq hp, rfl, g, _, rfl, .inl (sq hg), _, _, rfl, rfl, _, rfl, ?_⟩
      refine ite2 (fun hlt => ?_) (fun _ => ⟨rfl, hI, fun _ _ _ e => e⟩)
      obtain ⟨z, hz⟩ := atNat (cs := gs) (i := 0) (Int.le_refl 0) (of_decide_eq_true hlt)
      refine ⟨_, rfl, p, _, 0, _, rfl, rfl, sq hp, rfl, g, _, 0, _, rfl, rfl, sq hg, hz, _, rfl, p, _, 2, 2, rfl, rfl, hp, rfl, ?_⟩
      show _
      have hp1 : upd H p (.lst (List.set [.ref g, .ref c, .int d, .int n] 2 (.int z))) p = some (.lst [.ref g, .ref c, .int z, .int n]) := upd_same
      have hI1 : HandIn (upd H p (.lst (List.set [.ref g, .ref c, .int d, .int n] 2 (.int z)))) p S := handIn_put z n hI hg hc ng nc sg sc
      have hg1 : upd H p (.lst (List.set [.ref g, .ref c, .int d, .int n] 2 (.int z))) g = some (.lst (gs.map V.int)) := by rw [upd_ne ng.symm]; exact hg
      have hc1 : upd H p (.lst (List.set [.ref g, .ref c, .int d, .int n] 2 (.int z))) c = some (.lst (cells.map V.int)) := by rw [upd_ne nc.symm]; exact hc
      have k1 : Kept p H (upd H p (.lst (List.set [.ref g, .ref c, .int d, .int n] 2 (.int z)))) := kept_hand
      generalize upd H p (.lst (List.set [.ref g, .ref c, .int d, .int n] 2 (.int z))) = H1 at hp1 hI1 hg1 hc1 k1 ⊢
      refine ⟨_, rfl, p, _, 0, _, rfl, rfl, sq hp1, rfl, 1, rfl, g, _, rfl, sq hg1, fun s ns => ?_⟩
      rw [cutDrop1]
      have s2 := smUpd (o := .lst ((gs.drop 1).map V.int)) ns
      have ps : p ≠ s := fun e => by rw [← e, hp1] at ns; cases ns
      refine ⟨_, rfl, p, _, 0, 0, rfl, rfl, s2 _ _ hp1, rfl, ?_⟩
      exact ⟨rfl, handIn_put z n (handIn_keep hI1 s2) upd_same (s2 _ _ hc1) ps nc (fun z => hI1.tr s z ns) sc, kept_trans k1 (kept_trans (kept_same s2) kept_hand)⟩
    · rintro σ2 H2 ⟨rfl, hI2, k2⟩
      obtain ⟨⟨g, c, gs, cells, d, n, hp, hg, hc, ng, nc, sg, sc⟩, nps, tr⟩ := id hI2
      refine ⟨_, rfl, p, _, 2, _, rfl, rfl, sq hp, rfl, _, _, rfl, rfl, _, rfl, ?_⟩
      refine ite2 (fun _ => ?_) (fun _ => ?_)
      · refine ⟨_, rfl, p, _, 2, _, rfl, rfl, sq hp, rfl, .inl ⟨_, rfl, _, rfl, _, _, rfl, rfl, kn, ?_⟩⟩
        refine ⟨_, rfl, p, _, 2, _, rfl, rfl, sq hp, rfl, _, rfl, _, _, rfl, rfl, ⟨kn, kb⟩, _, rfl, p, _, 2, 2, rfl, rfl, hp, rfl, _, rfl, ?_⟩
        exact q _ _ (fmB k0).1 (fmB k0).2 (handIn_put _ n hI2 hg hc ng nc sg sc) (kept_trans k2 kept_hand)
      · refine ⟨_, rfl, p, _, 3, _, rfl, rfl, sq hp, rfl, _, _, rfl, rfl, _, rfl, p, _, 3, 3, rfl, rfl, hp, rfl, ?_⟩
        have hI3 : HandIn (upd H2 p (.lst (List.set [.ref g, .ref c, .int d, .int n] 3 (.int (n + 1))))) p S := handIn_put d (n + 1) hI2 hg hc ng nc sg sc
        have hp3 : upd H2 p (.lst (List.set [.ref g, .ref c, .int d, .int n] 3 (.int (n + 1)))) p = some (.lst [.ref g, .ref c, .int d, .int (n + 1)]) := upd_same
        have hc3 : upd H2 p (.lst (List.set [.ref g, .ref c, .int d, .int n] 3 (.int (n + 1)))) c = some (.lst (cells.map V.int)) := by rw [upd_ne nc.symm]; exact hc
        have k3 : Kept p H (upd H2 p (.lst (List.set [.ref g, .ref c, .int d, .int n] 3 (.int (n + 1))))) := kept_trans k2 kept_hand
        generalize upd H2 p (.lst (List.set [.ref g, .ref c, .int d, .int n] 3 (.int (n + 1)))) = H3 at hI3 hp3 hc3 k3 ⊢
        refine ⟨fun σ4 H4 => H4 = H3 ∧ ∃ z : Int, σ4 = [some (.ref p), some (.int k), none, some (.int z), none], ?_, ?_⟩
        · refine ⟨_, rfl, p, _, 1, _, rfl, rfl, sq hp3, rfl, c, _, rfl, .inl (sq hc3), _, _, rfl, rfl, _, rfl, ?_⟩
          refine ite2 (fun hlt => ?_) (fun _ => ⟨rfl, 0, rfl⟩)
          have hlt := of_decide_eq_true hlt
          obtain ⟨z, hz⟩ := atNat (cs := cells) (fmB (a := n + 1) hlt).1 (fmB hlt).2
          refine ⟨_, rfl, p, _, 1, _, rfl, rfl, sq hp3, rfl, _, rfl, p, _, 3, _, rfl, rfl, sq hp3, rfl, .inl ⟨_, rfl, _, rfl, p, _, 1, _, rfl, rfl, sq hp3, rfl, c, _, rfl, .inl (sq hc3), _, _, rfl, rfl, by omega, c, _, _, _, rfl, rfl, sq hc3, hz, ?_⟩⟩
          exact ⟨rfl, z, rfl⟩
        · rintro σ4 H4 ⟨rfl, z, rfl⟩
          refine ⟨_, rfl, _, rfl, p, _, 3, _, rfl, rfl, sq hp3, rfl, _, _, rfl, rfl, .inl (by decide), _, _, rfl, rfl, _, _, rfl, rfl, _, _, rfl, rfl, .inr (by decide), .inl ⟨_, rfl, _, _, rfl, rfl, (show (2147483647 : Int) ≠ 0 by decide), ?_⟩⟩
          have b1 := fmB (a := (z + 7919 * (n + 1) + 1) * 48271) (k := 2147483647) (by decide)
          refine ⟨_, rfl, _, rfl, _, _, rfl, rfl, ⟨by decide, by decide⟩, _, _, rfl, rfl, _, _, rfl, rfl, .inl ⟨by omega, by omega⟩, .inl ⟨_, rfl, _, _, rfl, rfl, (show (2147483647 : Int) ≠ 0 by decide), ?_⟩⟩
          have b2 := fmB (a := ((z + 7919 * (n + 1) + 1) * 48271).fmod 2147483647 * ((((z + 7919 * (n + 1) + 1) * 48271).fmod 2147483647).fdiv 1009 + 69621)) (k := 2147483647) (by decide)
          refine ⟨_, rfl, _, rfl, _, _, rfl, rfl, ⟨by decide, by decide⟩, _, _, rfl, rfl, _, _, rfl, rfl, .inl ⟨by omega, by omega⟩, .inl ⟨_, rfl, _, _, rfl, rfl, (show (2147483399 : Int) ≠ 0 by decide), ?_⟩⟩
          refine ⟨_, rfl, _, _, rfl, rfl, ⟨by decide, by decide⟩, .inl ⟨_, rfl, _, rfl, _, _, rfl, rfl, kn, ?_⟩⟩
          exact q _ _ (fmB k0).1 (fmB k0).2 hI3 k3
end
end Cn
namespace Cn
open PySem PySem.Spec PyProof.Rows L2
theorem small4000 {n : Nat} (h : n ≤ 4000) : n < sizeLine := Nat.lt_of_le_of_lt h (by decide)
theorem OpR.orr {X : Cx} {f : Value → Value → Sem Value} {r r2 : R2} (h : OpR X f r) (k : OpR X f r2) : OpR X f (fun x y H Q => r x y H Q ∨ r2 x y H Q) := by
  intro pins s σ H x y v u Q I rx ry q
  rcases q with q | q
  · exact h pins s σ H x y v u Q I rx ry q
  · exact k pins s σ H x y v u Q I rx ry q
/-! two things that are alike, of nesting at most n: flat ones and dicts are the same -/
def DictOk (H : Hp) (x : V) : Prop := ∃ a kvs, x = .ref a ∧ H a = some (.dK kvs) ∧ (kvs = [] ∨ ∃ k u, kvs = [(k, u)] ∧ (flatV u = true ∨ ∃ b, u = .ref b))
def EqG (H : Hp) : Nat → V → V → Prop
  | 0 => fun x y => x = y ∧ (flatV x = true ∨ DictOk H x)
  | n + 1 => fun x y => EqG H n x y ∨ ∃ a b xs ys, x = .ref a ∧ y = .ref b ∧ ((H a = some (.lst xs) ∧ H b = some (.lst ys)) ∨ (H a = some (.tup xs) ∧ H b = some (.tup ys))) ∧ xs.length ≤ 4000 ∧ Paired (EqG H n) xs ys
theorem pairedSelf {F : V → V → Prop} : ∀ {xs : List V}, (∀ x ∈ xs, F x x) → Paired F xs xs
  | [], _ => .nil
  | x :: xs, h => .cons (h x List.mem_cons_self) (pairedSelf fun y hy => h y (List.mem_cons_of_mem _ hy))
theorem eqG_same {H H' : Hp} (s : Same H H') : ∀ {n : Nat} {x y : V}, EqG H n x y → EqG H' n x y
  | 0, x, y, h => by
    obtain ⟨e, h | ⟨a, kvs, e2, ha, hk⟩⟩ := h
    · exact ⟨e, .inl h⟩
    · exact ⟨e, .inr ⟨a, kvs, e2, s _ _ ha, hk⟩⟩
  | n + 1, x, y, h => by
    rcases h with h | ⟨a, b, xs, ys, e1, e2, h, hl, hp⟩
    · exact .inl (eqG_same s h)
    · exact .inr ⟨a, b, xs, ys, e1, e2, h.imp (fun z => ⟨s _ _ z.1, s _ _ z.2⟩) (fun z => ⟨s _ _ z.1, s _ _ z.2⟩), hl, Paired.mapP hp fun _ _ z => eqG_same s z⟩
/-- told and due, alike: True comes out, new things apart nothing is changed -/
def spIs (n : Nat) : Sp := fun vs H Q _ => ∃ (x y : V), vs = [x, y] ∧ EqG H n x y ∧ ∀ H', Same H H' → Q (.bl true) H'
/-- all([..]) over two lists, or two tuples, of things alike -/
def tAllIs (n : Nat) : TE := fun σ H Q => ∃ a b xs ys, σ[0]? = some (some (.ref a)) ∧ σ[1]? = some (some (.ref b)) ∧ ((H a = some (.lst xs) ∧ H b = some (.lst ys)) ∨ (H a = some (.tup xs) ∧ H b = some (.tup ys))) ∧ xs.length ≤ 4000 ∧ Paired (EqG H n) xs ys ∧ ∀ H', Same H H' → Q (.bl true) H'
/-! types -/
theorem kit2 {K : PySem.W.Frag} {T : String} {b : Bool} (h : ((kitB T "tuple").bind fun a => if a then some true else kitB T "list") = some b) : PySem.W.kitAny K (.type T) [.type "tuple", .type "list"] = some b := by
  cases e : kitB T "tuple" with
  | none => rw [e] at h; cases h
  | some a =>
    rw [e] at h
    cases a with
    | true =>
      have hb : b = true := (Option.some.inj h).symm
      subst hb
      exact kitAny_cons (kit_ty e) (fun z => nomatch z) fun _ => rfl
    | false =>
      have h : kitB T "list" = some b := h
      refine kitAny_cons (kit_ty e) (fun _ => kitAny_cons (kit_ty h) (fun z => ?_) (fun z => z)) (fun z => nomatch z)
      rw [z]; exact kitAny_nil
/-- a thing that is no list and no tuple -/
theorem leafTy {K : PySem.W.Frag} {H : Hp} {x : V} (h : flatV x = true ∨ DictOk H x) : ∃ T b, TyX K H x (.type T) ∧ PySem.W.kitAny K (.type T) [.type "tuple", .type "list"] = some false ∧ PySem.W.kitOne K (.type T) (.type "bool") = some b := by
  rcases h with h | ⟨a, kvs, rfl, ha, _⟩
  · cases x with
    | non => exact ⟨"NoneType", false, .base .non, kit2 (by decide +kernel), kit_ty (by decide +kernel)⟩
    | bl b => exact ⟨"bool", true, .base (.bl b), kit2 (by decide +kernel), kit_ty (by decide +kernel)⟩
    | int i => exact ⟨"int", false, .base (.int i), kit2 (by decide +kernel), kit_ty (by decide +kernel)⟩
    | str z => exact ⟨"str", false, .base (.str z), kit2 (by decide +kernel), kit_ty (by decide +kernel)⟩
    | _ => cases h
  · exact ⟨"dict", false, .base (.dK ha), kit2 (by decide +kernel), kit_ty (by decide +kernel)⟩
theorem seqTy {K : PySem.W.Frag} {H : Hp} {a : Addr} {xs : List V} {tu : Bool} (h : if tu = true then H a = some (.tup xs) else H a = some (.lst xs)) : ∃ T, TyX K H (.ref a) (.type T) ∧ PySem.W.kitAny K (.type T) [.type "tuple", .type "list"] = some true ∧ PySem.W.kitOne K (.type T) (.type "tuple") = some tu := by
  cases tu with
  | true => exact ⟨"tuple", .base (.tup (by simpa using h)), kit2 (by decide +kernel), kit_ty (by decide +kernel)⟩
  | false => exact ⟨"list", .base (.lst (by simpa using h)), kit2 (by decide +kernel), kit_ty (by decide +kernel)⟩
end Cn
namespace Cn
open PySem PySem.Spec PyProof.Rows L2
/-! comprehensions over zip -/
section
variable {K : PySem.W.Frag} {a b D : Addr} {xs ys : List V} {g : TG} {tt : TT} {te : TE} {vs : List Nat} {σ : L2.St} {H1 : Hp} {Qd : Hp → Prop}
def ZipTurn (Pv : Nat → Hp → Prop) (D : Addr) (g : TG) (tt : TT) (te : TE) (vs : List Nat) (σ : L2.St) (i : Nat) (x y : V) : Prop := ∀ (T : Addr) (H : Hp), Pv i H → H T = none → g (.ref T) (wipe σ vs) (upd H T (.tup [x, y])) fun σ2 H2 => wipe σ2 vs = wipe σ vs ∧ tt σ2 H2 fun k H3 =>
  if k = true then te σ2 H3 fun z H4 => ∃ acc, H4 D = some (.lst acc) ∧ acc.length < sizeLine ∧ Pv (i + 1) (upd H4 D (.lst (acc ++ [z]))) else Pv (i + 1) H3
theorem lcZipL (hl : xs.length = ys.length) (Pv : Nat → Hp → Prop) (h0 : Pv 0 (upd H1 D (.lst []))) (hq : ∀ i H, Pv i H → SqL K H a xs ∧ SqL K H b ys) (hs : ∀ i x y, xs[i]? = some x → ys[i]? = some y → ZipTurn Pv D g tt te vs σ i x y) (hd : ∀ H, Pv xs.length H → Qd H) :
    ∃ W : Nat → Nat → Hp → Prop, (∃ m, W 0 m (upd H1 D (.lst []))) ∧ ∀ i m H, W i m H → ((Itz K a b).stop i H ∧ Qd H) ∨ ((Itz K a b).go i H ∧ ∃ Nx : Hp → Prop, (∀ H', Nx H' → ∃ m', m' < m ∧ W (i + 1) m' H') ∧ ∀ x H', (Itz K a b).yld i H x H' → g x (wipe σ vs) H' fun σ2 H2 => wipe σ2 vs = wipe σ vs ∧ tt σ2 H2 fun k H3 =>
      if k = true then te σ2 H3 fun z H4 => ∃ acc, H4 D = some (.lst acc) ∧ acc.length < sizeLine ∧ Nx (upd H4 D (.lst (acc ++ [z]))) else Nx H3) := by
  refine ⟨fun i m H => m = xs.length - i ∧ i ≤ xs.length ∧ Pv i H, ⟨_, rfl, Nat.zero_le _, h0⟩, ?_⟩
  rintro i m H ⟨rfl, hi, p⟩
  obtain ⟨qa, qb⟩ := hq i H p
  rcases Nat.lt_or_ge i xs.length with lt | ge
  · have ea : xs[i]? = some xs[i] := List.getElem?_eq_getElem lt
    have lt2 : i < ys.length := by omega
    have eb : ys[i]? = some ys[i] := List.getElem?_eq_getElem lt2
    refine .inr ⟨⟨xs, ys, _, _, qa, qb, ea, eb⟩, Pv (i + 1), fun H' p' => ⟨xs.length - (i + 1), by omega, rfl, lt, p'⟩, ?_⟩
    rintro v H' ⟨T, u, z, rfl, nT, rfl, k1, k2⟩
    exact hs i u z (k1 xs qa) (k2 ys qb) T H p nT
  · have e : i = xs.length := by omega
    subst e
    exact .inl ⟨⟨xs, ys, qa, qb, .inl (Nat.le_refl _)⟩, hd H p⟩
theorem lcZipT (hl : xs.length = ys.length) (Pv : Nat → Hp → Prop) (h0 : Pv 0 (upd H1 D (.lst []))) (hq : ∀ i H, Pv i H → SqT K H a xs ∧ SqT K H b ys) (hs : ∀ i x y, xs[i]? = some x → ys[i]? = some y → ZipTurn Pv D g tt te vs σ i x y) (hd : ∀ H, Pv xs.length H → Qd H) :
    ∃ W : Nat → Nat → Hp → Prop, (∃ m, W 0 m (upd H1 D (.lst []))) ∧ ∀ i m H, W i m H → ((RZ.ItzT K a b).stop i H ∧ Qd H) ∨ ((RZ.ItzT K a b).go i H ∧ ∃ Nx : Hp → Prop, (∀ H', Nx H' → ∃ m', m' < m ∧ W (i + 1) m' H') ∧ ∀ x H', (RZ.ItzT K a b).yld i H x H' → g x (wipe σ vs) H' fun σ2 H2 => wipe σ2 vs = wipe σ vs ∧ tt σ2 H2 fun k H3 =>
      if k = true then te σ2 H3 fun z H4 => ∃ acc, H4 D = some (.lst acc) ∧ acc.length < sizeLine ∧ Nx (upd H4 D (.lst (acc ++ [z]))) else Nx H3) := by
  refine ⟨fun i m H => m = xs.length - i ∧ i ≤ xs.length ∧ Pv i H, ⟨_, rfl, Nat.zero_le _, h0⟩, ?_⟩
  rintro i m H ⟨rfl, hi, p⟩
  obtain ⟨qa, qb⟩ := hq i H p
  rcases Nat.lt_or_ge i xs.length with lt | ge
  · have ea : xs[i]? = some xs[i] := List.getElem?_eq_getElem lt
    have lt2 : i < ys.length := by omega
    have eb : ys[i]? = some ys[i] := List.getElem?_eq_getElem lt2
    refine .inr ⟨⟨xs, ys, _, _, qa, qb, ea, eb⟩, Pv (i + 1), fun H' p' => ⟨xs.length - (i + 1), by omega, rfl, lt, p'⟩, ?_⟩
    rintro v H' ⟨T, u, z, rfl, nT, rfl, k1, k2⟩
    exact hs i u z (k1 xs qa) (k2 ys qb) T H p nT
  · have e : i = xs.length := by omega
    subst e
    exact .inl ⟨⟨xs, ys, qa, qb, .inl (Nat.le_refl _)⟩, hd H p⟩
end
theorem pairedAt {F : V → V → Prop} : ∀ {xs ys : List V}, Paired F xs ys → ∀ {i : Nat} {x y : V}, xs[i]? = some x → ys[i]? = some y → F x y
  | _, _, .nil, i, x, y, h, _ => by simp at h
  | _, _, .cons h t, 0, x, y, h1, h2 => by
    cases (Option.some.inj h1)
    cases (Option.some.inj h2)
    exact h
  | _, _, .cons _ t, i + 1, x, y, h1, h2 => pairedAt t (i := i) (by simpa using h1) (by simpa using h2)
section
variable {P : Program} {w : World} {K : PySem.W.Frag} {mg : Str → Option Value} {base : Heap}
structure IsTxt (mg : Str → Option Value) : Prop where
  inst : mg "isinstance" = none
  tup : mg "tuple" = none
  lst : mg "list" = none
  bool : mg "bool" = none
  len : mg "len" = none
  all : mg "all" = none
  zip : mg "zip" = none
/-- the turn of the comprehension, by the promise of the next depth -/
theorem isTurn {n : Nat} {K' : PySem.W.Frag} {D : Addr} {xs ys : List V} {H0 : Hp} {u0 u1 z2 z3 : Option V} (hp : Paired (EqG H0 n) xs ys) (hx : xs.length ≤ 4000) (nD : H0 D = none) (i : Nat) (x y : V) (h1 : xs[i]? = some x) (h2 : ys[i]? = some y) :
    ZipTurn (fun i H' => Same H0 H' ∧ H' D = some (.lst ((List.replicate i true).map V.bl))) D (gTup K' 2 (gCons (gName 2) (gCons (gName 3) gNil))) tYes (tCall (spIs n) [] (fun _ _ _ => False) (tCons (tVar 2) (tCons (tVar 3) tNil))) [2, 3] [u0, u1, z2, z3] i x y := by
  rintro T H ⟨sm, hD⟩ nT
  have hi : i < 4000 := Nat.lt_of_lt_of_le (List.getElem?_eq_some_iff.mp h1).1 hx
  have sT : Same H (upd H T (.tup [x, y])) := smUpd nT
  refine ⟨T, [x, y], rfl, .inl (.inl upd_same), rfl, x, [y], rfl, y, [], rfl, rfl, rfl, x, rfl, y, rfl, x, y, rfl, eqG_same (sm.trans sT) (pairedAt hp h1 h2), fun H' s' => ?_⟩
  have hD' : H' D = some (.lst ((List.replicate i true).map V.bl)) := s' _ _ (sT _ _ hD)
  refine ⟨_, hD', by rw [List.length_map, List.length_replicate]; exact small4000 (by omega), fun b o e => ?_, ?_⟩
  · have nb : b ≠ D := fun z => by rw [z, nD] at e; cases e
    rw [upd_ne nb]
    exact s' _ _ (sT _ _ (sm _ _ e))
  · rw [upd_same, show List.replicate (i + 1) true = List.replicate i true ++ [true] from List.replicate_succ', List.map_append]
    rfl
theorem allRep (n : Nat) : (List.replicate n true).all id = true := by
  induction n with
  | zero => rfl
  | succ n ih => rw [List.replicate_succ, List.all_cons, ih]; rfl
theorem sameT {K : PySem.W.Frag} {H H' : Hp} {a : Addr} {xs : List V} (s : Same H H') (h : SqT K H a xs) : SqT K H' a xs := h.imp (fun r => r.imp (s _ _) (fun ⟨o, e⟩ => ⟨o, s _ _ e⟩)) (fun z => z)
theorem eqG_up {H : Hp} {n m : Nat} {x y : V} (h : EqG H n x y) (hm : n ≤ m) : EqG H m x y := by
  induction m with
  | zero =>
    have e : n = 0 := by omega
    rw [← e]; exact h
  | succ m ih =>
    by_cases e : n = m + 1
    · rw [← e]; exact h
    · exact .inl (ih (by omega))
theorem eqG_cases {H : Hp} : ∀ {n : Nat} {x y : V}, EqG H n x y → (x = y ∧ (flatV x = true ∨ DictOk H x)) ∨ ∃ m, n = m + 1 ∧ ∃ a b xs ys, x = .ref a ∧ y = .ref b ∧ ((H a = some (.lst xs) ∧ H b = some (.lst ys)) ∨ (H a = some (.tup xs) ∧ H b = some (.tup ys))) ∧ xs.length ≤ 4000 ∧ Paired (EqG H m) xs ys
  | 0, x, y, h => .inl h
  | n + 1, x, y, h => by
    rcases h with h | ⟨a, b, xs, ys, h⟩
    · rcases eqG_cases h with z | ⟨m, e, a, b, xs, ys, e1, e2, e3, e4, e5⟩
      · exact .inl z
      · exact .inr ⟨n, rfl, a, b, xs, ys, e1, e2, e3, e4, Paired.mapP e5 fun _ _ q => eqG_up q (by omega)⟩
    · exact .inr ⟨n, rfl, a, b, xs, ys, h⟩
/-- by the depth: nothing at 0 -/
def spJ : Nat → Sp
  | 0 => fun _ _ _ _ => False
  | n + 1 => spIs n
/-- the same flat thing, the same dict, compared -/
theorem leafEq {K : PySem.W.Frag} {H : Hp} {x : V} {Q : VK} (h : flatV x = true ∨ DictOk H x) (k : Q (.bl true) H) : rEq x x H Q ∨ rEqV K x x H Q := by
  rcases h with h | ⟨a, kvs, rfl, ha, hk⟩
  · left
    refine ⟨?_, ?_⟩
    · cases x <;> first | rfl | cases h
    · rw [decide_eq_true rfl]; exact k
  · right
    refine ⟨1, by decide, .inr ⟨a, a, kvs, kvs, rfl, rfl, ha, ha, rfl, fun q hq => ?_⟩, k⟩
    rcases hk with rfl | ⟨kk, u, rfl, hu⟩
    · cases hq
    · obtain rfl := List.mem_singleton.mp hq
      refine ⟨u, ?_, ?_⟩
      · show valV [(kk, u)] kk = some u
        unfold valV
        simp
      · rcases hu with hu | ⟨b, rfl⟩
        · refine .inl ⟨rfl, ?_⟩
          cases u <;> first | rfl | cases hu
        · exact .inr (.inl ⟨b, rfl, rfl⟩)
end
end Cn
namespace Cn
open PySem PySem.Spec PyProof.Rows L2
section
open AutoSeq1 (wpAny_loadPart')
theorem meets_enum_tup (l : Addr) (items : Array Value) (n : Nat) (dct : Option Addr) (sl : Array (Option Value)) :
    Meets (Builtin.«enumerate.__new__» ⟨[.type "enumerate", .ref l], []⟩) (fun _ R s => s.heap.get? l = some { cls := .type "tuple", dict := dct, data := .seq items n, slots := sl } ∧
      R (.ok (.ret (.ref (s.heap.push { cls := .type "tuple_iterator", data := .fields #[.ref l, .int 0 0] }).objs.size)))
        { s with heap := (s.heap.push { cls := .type "tuple_iterator", data := .fields #[.ref l, .int 0 0] }).push { cls := .type "enumerate", data := .fields #[.none, .bool false, .ref s.heap.objs.size, rawInt 0, .none, .none] } }) :=
  .of_wp fun prog w A R s h => by
    obtain ⟨hp, g, d, tk, os⟩ := s; obtain ⟨hl, h⟩ := h
    have hsub := sub_enumerate
    have hL : Heap.IsTuple (Shared.heap ⟨hp, g, d, tk, os⟩) l items := ⟨_, hl, rfl, n, rfl⟩
    wp_walk using wpAny_loadPart' hl
    refine wpAny_stack_any fun st => wpAny_pure ?_
    split
    · rename_i c _ _ _ _ _
      cases (c == Value.type "enumerate")
      · wp_walk using wpAny_loadPart' hl, wpAny_pyIter_tuple hL
        exact ⟨_, rfl, h⟩
      · wp_walk using wpAny_loadPart' hl, wpAny_pyIter_tuple hL
        exact ⟨_, rfl, h⟩
    · wp_walk using wpAny_loadPart' hl, wpAny_pyIter_tuple hL
      exact ⟨_, rfl, h⟩
end
section
variable {prog : Program} {w : World} {A : Around} {E : Value → Shared → Prop} {s : Shared}
theorem call_enum_tup {l : Addr} {items : Array Value} {Q : Value → Shared → Prop} (hL : s.heap.IsTuple l items)
    (h : ∀ h', IsEnum h' (s.heap.objs.size + 1) s.heap.objs.size 0 .none → h'.IsTupleIter s.heap.objs.size l 0 → h'.objs.size = s.heap.objs.size + 2 →
      (∀ b o, s.heap.get? b = some o → h'.get? b = some o) → Q (.ref (s.heap.objs.size + 1)) { s with heap := h' }) :
    wpAny (model prog w) A (call (.type "enumerate") [.ref l]) Q E s := by
  obtain ⟨⟨c, dct, dt, sl⟩, hl, hc, n, hd⟩ := hL
  replace hc : c = .type "tuple" := hc
  replace hd : dt = .seq items n := hd
  subst hc hd
  refine callType_new F.called_enumerate (by decide) (F.typeCall_enumerate_1 _) (F.newCall_enumerate_1 _) (fun obj => F.args_object_init_2 obj _) F.entry_enumerate_new
    (meets_enum_tup l items n dct sl) ⟨hl, ?_⟩
  have hz : (s.heap.push { cls := .type "tuple_iterator", data := .fields #[.ref l, .int 0 0] }).objs.size = s.heap.objs.size + 1 := Heap.size_push ..
  show _ ∧ _
  rw [hz]
  have he : IsEnum ((s.heap.push { cls := .type "tuple_iterator", data := .fields #[.ref l, .int 0 0] }).push { cls := .type "enumerate", data := .fields #[.none, .bool false, .ref s.heap.objs.size, rawInt 0, .none, .none] }) (s.heap.objs.size + 1) s.heap.objs.size 0 .none := by
    have := Heap.get?_push_size (s.heap.push { cls := .type "tuple_iterator", data := .fields #[.ref l, .int 0 0] }) (o := { cls := .type "enumerate", data := .fields #[.none, .bool false, .ref s.heap.objs.size, rawInt 0, .none, .none] }) rfl
    rw [hz] at this; exact this
  refine ⟨⟨_, he, rfl⟩, h _ he ⟨_, Heap.get?_push_of_some _ (Heap.get?_push_size _ rfl), rfl, rfl⟩ (by rw [Heap.size_push, hz]) fun b o x => Heap.get?_push_of_some _ (Heap.get?_push_of_some _ x)⟩
theorem enumEndT {e it l : Addr} {i : Nat} {c : Int} {items : Array Value} {old : Value} {Q : Option Value → Shared → Prop} (hh : A.handled = none) (he : IsEnum s.heap e it c old) (hit : s.heap.IsTupleIter it l i) (hl : s.heap.IsTuple l items) (hx : items[i]? = none)
    (hQ : ∀ h', Heap.ExtBut it s.heap h' → Q none { s with heap := h' }) : wpAny (model prog w) A (pyNext (.ref e)) Q E s := by
  have hT : s.TypeIs (.ref e) "enumerate" := ⟨_, he, rfl⟩
  unfold pyNext
  refine wpAny_bind (wpAny_attempt (wpAny_callSpecial?_slot (name := Str.ofString "__next__") hT F.slot_enumerate_next
    (wpAny_call_entry F.slot_enumerate_next hT F.entry_enumerate_next ?_ (F.args_enumerate_next_1 _))))
  show wpAny _ _ (field (.ref e) 2 >>= _) _ _ _
  refine wpAny_bind (wpAny_field he rfl (x := .ref it) rfl ?_)
  refine wpAny_bind (wpAny_nextOf_tuple_end (A := A.in1) hh hit hl hx fun h' x he' hx' => ?_)
  obtain ⟨o, ho, hc⟩ := hx'
  refine wpAny_bind (wpAny_isInstance (T := "StopIteration") (b := true) ⟨o, ho, hc⟩ isSubtype_stop ?_)
  exact wpAny_pure (hQ _ he')
end
/-- the tuple at a, each item in a new pair -/
def IteT (K : PySem.W.Frag) (a : Addr) : It :=
  ⟨fun i H => ∃ (xs : List V) (x : V), SqT K H a xs ∧ xs[i]? = some x, fun i H v H' => ∃ T x, v = .ref T ∧ H T = none ∧ H' = upd H T (.tup [.int (i : Nat), x]) ∧ ∀ xs, SqT K H a xs → xs[i]? = some x, fun i H => ∃ xs : List V, SqT K H a xs ∧ xs.length ≤ i⟩
theorem turn_enumT {P : Program} {w : World} {K : PySem.W.Frag} {elts : List Expr} {kk : Nat} {tpos : Pos} (a e it : Addr) :
    Turn P w K (.Tuple elts kk tpos) (IteT K a) [e, it] e (fun i h => (∃ old, IsEnum h e it ((i : Nat) : Int) old) ∧ h.IsTupleIter it a i ∧ e ≠ it ∧ a ≠ it ∧ a ≠ e) where
  mem := by simp
  obj := fun i h st b hb => by
    obtain ⟨⟨old, he⟩, ⟨o, ho, hc, hd⟩, _⟩ := st
    have e' : b = e ∨ b = it := by simpa using hb
    rcases e' with z | z
    · rw [z]; exact ⟨_, he, fun v q => nomatch q⟩
    · rw [z]; exact ⟨o, ho, fun v q => by rw [hd] at q; cases q⟩
  keep := fun i h h' st k => let ⟨⟨old, he⟩, hi, hne⟩ := st; ⟨⟨old, k e (by simp) _ he⟩, hi.at fun o q => k it (by simp) o q, hne⟩
  item := by
    intro X hP hw hK hc i pins s σ H E I hf st hg
    subst hP hw hK
    obtain ⟨⟨old, he⟩, hit, hne, hai, hae⟩ := st
    obtain ⟨xs, x, hq, hx⟩ := hg
    obtain ⟨its, rv, p, hz⟩ := I.tuple hq
    obtain ⟨u, hu, ru⟩ := rv.get hx
    have hel : e < s.heap.objs.size := Heap.lt_size he
    have hil : it < s.heap.objs.size := by obtain ⟨_, q, _⟩ := hit; exact Heap.lt_size q
    have hlt : i < its.toArray.size := by
      have := (List.getElem?_eq_some_iff.mp hu).1
      simpa using this
    refine wpAny_pyNext_enum_itemC (c := ((i : Nat) : Int)) (Draws.tuple (A := X.A.in1) (I.ok.hd hc) it a hai its.toArray) he ⟨hit, p⟩ hlt hne (by simp [hne, Ne.symm hae]) fun x' h' tk hP ho hs' hT hsz hk => ?_
    have ex : x' = u := by
      have e1 : its.toArray[i]? = some u := by simpa using hu
      rw [e1] at hP
      exact (Option.some.inj hP).symm
    subst ex
    refine ⟨_, rfl, wpAny_letOwnedTupleGo_enum (s := { s with heap := h', toks := tk + 1 }) ho fun h'' he' sb => ?_⟩
    have hT2 : h''.get? s.heap.objs.size = some { cls := .type "tuple", data := .seq #[.int i tk, x'] } := (sb.2 _ (Nat.ne_of_gt hel)).trans hT
    have new : ObjOk X.prog X.w (upd H s.heap.objs.size (.tup [.int (i : Nat), x])) h'' s.heap.objs.size (.tup [.int (i : Nat), x]) :=
      ⟨by show 2 ≤ sizeLine; decide, [.int i tk, x'], .cons ⟨_, rfl⟩ (.cons ru .nil), ⟨_, hT2, rfl, _, rfl⟩⟩
    have I1 : Inv X pins σ (upd H s.heap.objs.size (.tup [.int (i : Nat), x])) { s with heap := h'', toks := tk + 1 } :=
      I.turnedNew (ch := [e, it]) (fun b ob hb q => (sb.2 b (fun z => hb (by simp [z]))).trans (hk b ob (fun z => hb (by simp [z])) (fun z => hb (by simp [z])) q)) hf (Nat.le_refl _) new
    refine ⟨.ref s.heap.objs.size, _, I1, rfl, ⟨_, x, rfl, I.hok.fresh (Nat.le_refl _), rfl, fun ys hy => by rw [I.tuple_inj hy hq]; exact hx⟩, ⟨⟨x', ?_⟩, hs'.1.at fun o q => (sb.2 it (Ne.symm hne)).trans q, hne, hai, hae⟩, fun b hb => ?_⟩
    · have e1 : ((i + 1 : Nat) : Int) = (i : Int) + 1 := by omega
      rw [e1]; exact he'
    · have hb' : b < s.heap.objs.size := by
        have e' : b = e ∨ b = it := by simpa using hb
        rcases e' with z | z
        · rw [z]; exact hel
        · rw [z]; exact hil
      rw [upd_ne (Nat.ne_of_lt hb')]
      exact (hf b hb).1
  done := by
    intro X hP hw hK hc i pins s σ H E I hf st hg
    subst hP hw hK
    obtain ⟨⟨old, he⟩, hit, hne, hai, hae⟩ := st
    obtain ⟨xs, hq, hx⟩ := hg
    obtain ⟨its, rv, p, hz⟩ := I.tuple hq
    obtain ⟨f0, f1, f2, f3, f4, f5⟩ := hf it (by simp)
    have hl := rv.length
    refine enumEndT (I.ok.hd hc) he hit p (by simp; omega) fun h' eb => ⟨rfl, I.turned (t' := s.toks) (fun b o hb q => eb b o hb q) f0 f1 f3 f4 f5⟩
  self := fun A i s Q E st h => let ⟨⟨_, he⟩, _⟩ := st; wpAny_pyIter_enum he h
def iEnumT (K : PySem.W.Frag) (ta : TA) : TI := fun σ H R => ta σ H fun vs H1 => ∃ a xs, vs = [.ref a] ∧ SqT K H1 a xs ∧ R (IteT K a) H1
theorem pi_enumT {X : Cx} {e : Expr} {ta : TA} {p pos tpos : Pos} {elts : List Expr} {kk : Nat} (hg : Gl X "enumerate") (hm : X.mg "enumerate" = none) (ha : PA X [e] ta) (hs : starEach [e] X.env = [(false, eval e X.env)] := by rfl) :
    PI X (.Tuple elts kk tpos) (.Call (.Name "enumerate" p) [e] [] pos) (iEnumT X.K ta) := by
  refine ⟨fun pins s σ H R I h => ?_⟩
  refine Call_ (ld_blt I hg hm boot_enumerate (PyProof.Rows.callWith_type1 (thn (ha.run pos pins s σ H _ I h) fun us s1 ⟨vs, H1, I1, r1, q1⟩ => ?_) hs rfl))
  obtain ⟨a, xs, ex, hq, q⟩ := q1
  subst ex
  cases r1 with
  | cons r rr =>
    cases rr
    cases r
    obtain ⟨its, rv, p', hz⟩ := I1.tuple hq
    have hal : a < s1.heap.objs.size := by obtain ⟨_, q, _⟩ := p'; exact Heap.lt_size q
    refine call_enum_tup p' fun h' he hit hsz hk => wpAny_pyIter_enum he ?_
    have I2 : Inv X pins σ H1 { s1 with heap := h' } := I1.kept (t' := s1.toks) hk
    refine ⟨s1.heap.objs.size + 1, [s1.heap.objs.size + 1, s1.heap.objs.size], _, _, H1, rfl, I2, turn_enumT a (s1.heap.objs.size + 1) s1.heap.objs.size, ⟨⟨.none, he⟩, hit, Nat.succ_ne_self _, Nat.ne_of_lt hal, Nat.ne_of_lt (Nat.lt_succ_of_lt hal)⟩, fun b hb => ?_, q⟩
    have e' : b = s1.heap.objs.size + 1 ∨ b = s1.heap.objs.size := by simpa using hb
    have hle : s1.heap.objs.size ≤ b := by
      rcases e' with z | z
      · rw [z]; exact Nat.le_add_right _ _
      · rw [z]; exact Nat.le_refl _
    exact I1.fpOk hle (I1.hok.fresh hle)
theorem walk_enumT {K : PySem.W.Frag} {a : Addr} {xs : List V} : Walk (IteT K a) xs.length (fun H => SqT K H a xs) (YPair (fun i => some (.int (i : Nat))) (fun i => xs[i]?)) := by
  refine ⟨fun i _ hi q => ⟨xs, xs[i], q, by simp [hi]⟩, fun _ q => ⟨xs, q, Nat.le_refl _⟩, fun i H v H' _ q y => ?_⟩
  obtain ⟨T, x, h1, h2, h3, h4⟩ := y
  exact ⟨T, .int (i : Nat), x, h1, h2, h3, rfl, h4 xs q⟩
/-! t.index(y) -/
def rTidx (K : PySem.W.Frag) : V → List V → Hp → VK → Prop := fun x xs H Q => ∃ (a : Addr) (ys : List V) (y : V) (j : Nat) (z : V), x = V.ref a ∧ xs = [y] ∧ SqT K H a ys ∧ flatV y = true ∧ ys.all flatV = true ∧ ys[j]? = some z ∧ eqV z y = true ∧
  (∀ (m : Nat) (z' : V), m < j → ys[m]? = some z' → eqV z' y = false) ∧ Q (.int (j : Nat)) H
theorem mt_tidx {X : Cx} : MtR X "tuple.index" (rTidx X.K) := by
  intro pins s σ H x xs v us Q I rx rxs h
  obtain ⟨a, ys, y, j, z, rfl, rfl, hs, fy, fys, hz, hzj, hno, q⟩ := h
  cases rx
  cases rxs with
  | cons ry rt =>
    rename_i uy ut
    cases rt
    obtain ⟨its, rv, pl, hlen⟩ := I.tuple hs
    obtain ⟨⟨cls, dd, dt, sl⟩, ho, hc, n, hd⟩ := pl
    simp only at hc hd
    subst hc hd
    obtain ⟨u, hu, ru⟩ := rv.get hz
    obtain ⟨hjl, hje⟩ := List.getElem?_eq_some_iff.mp hu
    have hvl := rv.length
    have hj : j < its.toArray.size := by simpa using hjl
    refine call_meets PySem.F.slot_tuple_index ⟨_, ho, rfl⟩ PySem.F.entry_tuple_index (PySem.F.args_tuple_index_2 _ _) (TI.tuple_indexAt a its.toArray n dd sl uy (eqU y) j hj ?_ ?_)
      ⟨ho, fun u' hu' => mem_eqAt ry fy rv fys u' (by simpa using hu'), ⟨.int (j : Nat), H, I.tok _, ⟨_, rfl⟩, q⟩⟩
    · have e1 : its.toArray[j] = u := by simpa using hje
      rw [e1, eqU_of ru (flat_at fys hz)]
      exact hzj
    · intro m hm hmj
      have hml : m < its.length := by simpa using hm
      have hmy : m < ys.length := by omega
      have hy' : ys[m]? = some ys[m] := List.getElem?_eq_getElem hmy
      obtain ⟨u2, hu2, ru2⟩ := rv.get hy'
      obtain ⟨_, hme⟩ := List.getElem?_eq_some_iff.mp hu2
      have e1 : its.toArray[m] = u2 := by simpa using hme
      rw [e1, eqU_of ru2 (flat_at fys hy')]
      exact hno m _ hmj hy'
/-! sorted(t), whole numbers -/
section
variable {prog : Program} {w : World} {A : Around} {E : Value → Shared → Prop} {s : Shared}
theorem collect_tup {l : Addr} {vs : List Value} {Q : List Value → Shared → Prop} (hl : s.heap.IsTuple l vs.toArray)
    (h : Q vs { s with heap := (s.heap.push (seqObj "list" #[] 0)).update s.heap.objs.size (Obj.mapSeq (· ++ vs.toArray)) }) (hsz : vs.length ≤ sizeLine) :
    wpAny (model prog w) A (collect (.ref l)) Q E s := by
  obtain ⟨o, ho, hc, n, hd⟩ := id hl
  unfold collect
  refine wpAny_bind (wpAny_runValue (codeAny_builtin entry_proto_collect' ?_))
  show wpAny _ _ (do again (.builtin "list.__iadd__" ⟨[← newList [], .ref l], []⟩)) _ _ s
  refine wpAny_bind (wpAny_newList (wpAny_pure ⟨Code.quiet_builtin _ (by decide +kernel), codeAny_builtin entry_list_iadd' ?_⟩))
  show wpAny _ _ (Builtin.List.listExtendWith (.ref s.heap.objs.size) (.ref l) (.ref s.heap.objs.size)) _ _ { s with heap := s.heap.push (seqObj "list" #[] 0) }
  unfold Builtin.List.listExtendWith
  have ho' : (s.heap.push (seqObj "list" #[] 0)).get? l = some o := Heap.get?_push_of_some _ ho
  refine wpAny_bind (wpAny_typeOf (T := "tuple") ⟨o, ho', hc⟩ ?_)
  have ht : (Value.type "tuple" == Value.type "tuple") = true := by rfl
  rw [if_pos (by rw [ht]; simp)]
  refine wpAny_bind (listItems_at ho' hd ?_)
  refine wpAny_bind (listItems_at (xs := #[]) (n := 0) (Heap.get?_push_size _ rfl) rfl ?_)
  rw [if_neg (by simp)]
  refine wpAny_bind (listUpdate_at (xs := #[]) (n := 0) (Heap.get?_push_size _ rfl) rfl ?_ (Nat.zero_le _) (by show (#[] ++ vs.toArray).size ≤ sizeLine + 1; simp only [Array.size_append, List.size_toArray, List.length_nil]; omega))
  refine wpAny_pure ?_
  show wpAny (model prog w) A (do
      let o ← load s.heap.objs.size
      match o.data with
      | .seq xs _ => pure xs.toList
      | _ => unsupported "internal:collect") Q E { s with heap := (s.heap.push (seqObj "list" #[] 0)).update s.heap.objs.size (Obj.mapSeq (· ++ vs.toArray)) }
  refine wpAny_bind (wpAny_load (get?_update_seq (Heap.get?_push_size _ rfl) _) ?_)
  show wpAny _ _ (pure ((#[] : Array Value) ++ vs.toArray).toList) Q E _
  rw [show ((#[] : Array Value) ++ vs.toArray).toList = vs by simp]
  exact wpAny_pure h
theorem sorted_tupI {l : Addr} {vs : List Value} {ns : List Int} {Q : Value → Shared → Prop} (hl : s.heap.IsTuple l vs.toArray) (hI : IntsAre vs ns) (h64 : vs.length < 64)
    (h : ∀ (out : Array Value) (ns' : List Int), IntsAre out.toList ns' → ns'.Perm ns → ns'.Pairwise (· ≤ ·) → Q (.ref (s.heap.objs.size + 1)) { s with heap := sortedAll s.heap vs out }) :
    wpAny (model prog w) A (call (.builtin "sorted") [.ref l]) Q E s := by
  refine Calls.call_function_entry kind_sorted plain_sorted entry_sorted (args_sorted1 _) ?_
  unfold Builtin.«sorted»
  refine wpAny_bind (m := checkCount "sorted" 1 1 _) (wpAny_pure ?_)
  refine wpAny_bind (collect_tup hl ?_ (small64 h64))
  refine wpAny_bind (wpAny_newList ?_)
  have hsz : ((s.heap.push (seqObj "list" #[] 0)).update s.heap.objs.size (Obj.mapSeq (· ++ vs.toArray))).objs.size = s.heap.objs.size + 1 := by
    rw [Heap.size_update, size_push']
  have hoL : (((s.heap.push (seqObj "list" #[] 0)).update s.heap.objs.size (Obj.mapSeq (· ++ vs.toArray))).push (seqObj "list" vs.toArray 0)).get? (s.heap.objs.size + 1) = some (seqObj "list" vs.toArray 0) := by
    rw [← hsz]; exact Heap.get?_push_size _ rfl
  show wpAny _ _ _ _ _ { s with heap := ((s.heap.push (seqObj "list" #[] 0)).update s.heap.objs.size (Obj.mapSeq (· ++ vs.toArray))).push (seqObj "list" vs.toArray 0) }
  rw [hsz]
  refine wpAny_bind (wpAny_holding (wpAny_call_entry slot_list_sort ⟨_, hoL, rfl⟩ entry_list_sort (list_sort_tree hoL hI h64 fun out ns' a1 a2 a3 => ⟨_, rfl, ?_⟩) (args_list_sort _)))
  exact wpAny_pure ⟨_, rfl, h out ns' a1 a2 a3⟩
end
def rSortTup (K : PySem.W.Frag) : List V → Hp → VK → Prop := fun vs H Q => ∃ (a : Addr) (ns : List Int), vs = [V.ref a] ∧ SqT K H a (ns.map V.int) ∧ ns.length < 64 ∧
  ∀ (ns' : List Int) (p : Addr), ns'.Perm ns → ns'.Pairwise (· ≤ ·) → H p = none → Q (.ref p) (upd H p (.lst (ns'.map V.int)))
theorem cr_sortTup {X : Cx} : CallR X (.builtin "sorted") (rSortTup X.K) := by
  intro pins s σ H vs us Q I r h
  obtain ⟨a, ns, rfl, hs, h64, q⟩ := h
  obtain ⟨its, rv, hl, _⟩ := I.tuple hs
  rw [Vals.ref1 r]
  have hi := rv.ints
  refine sorted_tupI hl hi (by rw [hi.length]; exact h64) fun out ns' h1 h2 h3 => ?_
  obtain ⟨ep, he'⟩ := PyProof.Rows.sortedAll_at s.heap its out
  have hlen : (ns'.map V.int).length ≤ sizeLine := by rw [List.length_map, h2.length_eq]; exact small64 h64
  exact ⟨.ref _, upd H (s.heap.objs.size + 1) (.lst (ns'.map V.int)), I.laid (t' := s.toks) (fun _ _ => PyProof.Rows.sortedAll_old) (Nat.le_succ _) ⟨hlen, out.toList, ep, vals_of_ints h1, he'⟩, rfl, q ns' _ h2 h3 (I.hok.fresh (Nat.le_succ _))⟩
/-! tuples of which it is known that they have no dict of their own: t.index(y) -/
def TD (H : Hp) (a : Addr) (xs : List V) : Prop := ∃ o : Obj, o.dict = none ∧ H a = some (.frz o (.tup xs))
theorem tdT {K : PySem.W.Frag} {H : Hp} {a : Addr} {xs : List V} (h : TD H a xs) : SqT K H a xs := by
  obtain ⟨o, _, e⟩ := h
  exact .inl (.inr ⟨o, e⟩)
theorem tdTy {K : PySem.W.Frag} {H : Hp} {a : Addr} {xs : List V} (h : TD H a xs) : TyX K H (.ref a) (.type "tuple") := by
  obtain ⟨o, _, e⟩ := h
  exact .fTuple e
theorem tdSame {H H' : Hp} {a : Addr} {xs : List V} (s : Same H H') (h : TD H a xs) : TD H' a xs := by
  obtain ⟨o, d, e⟩ := h
  exact ⟨o, d, s _ _ e⟩
abbrev tupO (its : List Value) : Obj := { cls := .type "tuple", data := .seq its.toArray }
theorem tdNew {H : Hp} {a : Addr} {its : List Value} {xs : List V} : TD (upd H a (.frz (tupO its) (.tup xs))) a xs := ⟨tupO its, rfl, upd_same⟩
/-- a new tuple, its dict known to be none -/
theorem laidTD {X : Cx} {pins : List (Addr × Obj)} {σ : L2.St} {H : Hp} {s : Shared} {h' : Heap} {tk : Nat} {xs : List V} {its : List Value} (I : Inv X pins σ H { s with heap := h', toks := tk }) (r : Vals xs its) (hz : xs.length ≤ sizeLine) :
    Inv X pins σ (upd H h'.objs.size (.frz (tupO its) (.tup xs))) { s with heap := h'.push (tupO its), toks := tk } := by
  have g : (h'.push (tupO its)).get? h'.objs.size = some (tupO its) := Heap.get?_push_size _ rfl
  exact I.laid (t' := tk) (fun b o e => Heap.get?_push_of_some _ e) (Nat.le_refl _) ⟨g, hz, its, r, ⟨_, g, rfl, 0, rfl⟩⟩
section
variable {X : Cx}
def rTupD (K : PySem.W.Frag) : List V → Hp → VK → Prop := fun xs H Q => ∃ p ys, xs = [.ref p] ∧ SqL K H p ys ∧ ∀ l H', Same H H' → TD H' l ys → Q (.ref l) H'
/-- tuple(a list) -/
theorem call_tupD : CallR X (.type "tuple") (rTupD X.K) := by
  intro pins s σ H xs us Q I r h
  obtain ⟨p, ys, rfl, hq, q⟩ := h
  obtain ⟨u, rfl, rx⟩ := vals1 r
  cases rx
  obtain ⟨its, r', pl, hz⟩ := I.list hq
  have hlen := r'.length
  refine call_tuple_list pl.isList (fun h' kp => ?_) (by simp only [List.size_toArray] <;> omega)
  have I1 : Inv X pins σ H { s with heap := h', toks := s.toks } := I.kept (t' := s.toks) kp
  have hn : H h'.objs.size = none := I1.hok.fresh (Nat.le_refl _)
  exact ⟨.ref h'.objs.size, _, laidTD I1 r' hz, rfl, q _ _ (smUpd hn) tdNew⟩
def tTupRevD (K : PySem.W.Frag) (te : TE) : TE := fun σ H Q => te σ H fun v H1 => ∃ (a : Addr) (xs : List V), v = .ref a ∧ SqL K H1 a xs ∧ ∀ l H', Same H1 H' → TD H' l xs.reverse → Q (.ref l) H'
/-- tuple(reversed(a list)) -/
theorem pe_tupRevD {e : Expr} {te : TE} {p p2 pos pos2 : Pos} (hc : X.calm = true) (hg : Gl X "tuple") (hm : X.mg "tuple" = none) (hg2 : Gl X "reversed") (hm2 : X.mg "reversed" = none) (he : PE X e te)
    (hs : starEach [e] X.env = (false, eval e X.env) :: starEach [] X.env := by rfl)
    (hs2 : starEach [.Call (.Name "reversed" p2) [e] [] pos2] X.env = (false, eval (.Call (.Name "reversed" p2) [e] [] pos2) X.env) :: starEach [] X.env := by rfl) :
    PE X (.Call (.Name "tuple" p) [.Call (.Name "reversed" p2) [e] [] pos2] [] pos) (tTupRevD X.K te) := by
  refine ⟨fun pins s σ H Q I h => ?_⟩
  refine Call_ (ld_blt I hg hm boot_tuple (callWith_type1 (args_cons (Call_ (ld_blt I hg2 hm2 boot_reversed (callWith_type1 (args_cons (thn (he.run pins s σ H _ I h) fun u s1 ⟨v, H1, I1, r1, q1⟩ => args_nil ?_) hs) hs rfl))) hs2) hs2 rfl))
  obtain ⟨l, ys, rfl, hl, q⟩ := q1
  cases (show u = Value.ref l from r1)
  obtain ⟨its, rv, pl, hz⟩ := I1.list hl
  refine call_reversed_list pl.isList (args_nil ?_)
  have I2 : Inv X pins σ H1 { s1 with heap := s1.heap.push (PySem.revObj l ((its.toArray.size : Int) - 1)) } := I1.kept (t' := s1.toks) fun b o z => Heap.get?_push_of_some _ z
  have hfr : H1 s1.heap.objs.size = none := I1.hok.fresh (Nat.le_refl _)
  obtain ⟨f0, f1, _, f3, f4, f5⟩ := I1.fpOk (H' := H1) (b := s1.heap.objs.size) (Nat.le_refl _) hfr
  have hne : l ≠ s1.heap.objs.size := by
    obtain ⟨_, z, _⟩ := pl.isList
    exact Nat.ne_of_lt (Heap.lt_size z)
  refine RT.call_tuple_rev (s := { s1 with heap := s1.heap.push (PySem.revObj l ((its.toArray.size : Int) - 1)) }) (I1.ok.hd hc) ⟨_, Heap.get?_push_size _ rfl, rfl, rfl⟩ (pl.isList.push _) hne (by rw [List.size_toArray, ← rv.length]; exact hz) fun h' tk acc hk hi => ?_
  have I3 : Inv X pins σ H1 { s1 with heap := h', toks := tk } := I2.turned (t' := tk) (fun b o hb z => hk b o hb z) f0 f1 f3 f4 f5
  have hn : H1 h'.objs.size = none := I3.hok.fresh (Nat.le_refl _)
  have I4 := laidTD I3 (RT.vals_rev rv hi) (by rw [List.length_reverse]; exact hz)
  refine ⟨.ref h'.objs.size, upd H1 h'.objs.size (.frz (tupO acc.toList) (.tup ys.reverse)), ?_, rfl, q _ _ (smUpd hn) tdNew⟩
  have ea : acc.toList.toArray = acc := Array.toArray_toList
  rw [← ea]
  exact I4
/-- t.m(..), t such a tuple -/
def tBT (r : V → List V → Hp → VK → Prop) (to : TE) (t : TA) : TE := fun σ H Q => to σ H fun x H1 => (∃ a xs, x = .ref a ∧ TD H1 a xs) ∧ t σ H1 fun xs H2 => r x xs H2 Q
variable {o e : Expr} {es : List Expr} {to : TE} {t : TA} {name : Str} {apos cpos : Pos} {id : String} {r : V → List V → Hp → VK → Prop}
theorem pe_bt (slot : Slot "tuple" name id) (hty : typeOf (.builtin id) = pure (.type "method_descriptor")) (hm : MtR X id r) (ho : PE X o to) (ha : PA X (e :: es) t)
    (hbase : attributeBase o name X.env (eval o X.env) = eval o X.env := by rfl)
    (hfew : ((backTo cpos (starEach (e :: es) X.env)).all (fun x => !x.1) && (backToKw cpos (keywordEach [] X.env)).all (fun x => x.1.isSome)
      && decide ((e :: es).length + ([] : List Keyword).length + (if ([] : List Keyword).isEmpty then 0 else 1) < 30)) = true := by rfl)
    (hline : (apos.endLine == cpos.line) = true := by rfl) (hs : starEach (e :: es) X.env = (false, eval e X.env) :: starEach es X.env := by rfl) (hplain : (backTo cpos (starEach es X.env)).any (·.1) = false := by rfl) :
    PE X (.Call (.Attribute o name apos) (e :: es) [] cpos) (tBT r to t) := by
  refine ⟨fun pins s σ H Q I h => ?_⟩
  refine wpAny_Call_method_late hbase hfew hline rfl (thn (ho.run pins s σ H _ I h) fun v s1 ⟨x, H1, I1, r1, ty, q1⟩ => ?_)
  obtain ⟨a, xs, rfl, ob, hd, hx⟩ := ty
  cases (show v = Value.ref a from r1)
  obtain ⟨g, _, its, _, hit⟩ := I1.hok a _ hx
  have hT : s1.TypeIs (.ref a) "tuple" := by
    obtain ⟨o', g', c, _⟩ := hit
    exact ⟨o', g', c⟩
  refine ⟨"tuple", id, PySem.F.plainAttrs_tuple, slot, hty, hT, fun b z => (by cases z; exact ⟨ob, g, hd⟩), ?_⟩
  have hA := ha.run cpos pins s1 σ H1 _ I1 q1
  rw [hs] at hA ⊢
  refine Calls.callWith_builtin (by show (false || (backTo cpos (starEach es X.env)).any (·.1)) = false; rw [hplain] <;> rfl) (Calls.evalArgs_plain ?_)
  exact thn hA fun us s2 ⟨vs, H2, I2, r2, q2⟩ => hm pins s2 σ H2 (.ref a) vs (.ref a) us Q I2 rfl r2 q2
end
end Cn
namespace Cn
open PySem PySem.Spec PyProof.Rows L2 Ck
theorem kitSelf {K : PySem.W.Frag} {a : Addr} : PySem.W.kitOne K (.ref a) (.ref a) = some true := by
  unfold PySem.W.kitOne
  simp
abbrev vn (n : Nat) : V := .int ((n : Nat) : Int)
def vp : Option Nat → V
  | none => .non
  | some n => vn n
def TN (H : Hp) (a : Addr) (ns : List Nat) : Prop := H a = some (.tup (ns.map vn))
def TP (H : Hp) (a : Addr) (ps : List (Option Nat)) : Prop := H a = some (.tup (ps.map vp))
def TDn (H : Hp) (a : Addr) (ns : List Nat) : Prop := TD H a (ns.map vn)
theorem tdL {K : PySem.W.Frag} {H : Hp} {a : Addr} {ns : List Nat} (h : TDn H a ns) : SqT K H a (ns.map vn) := tdT h
theorem tnL {K : PySem.W.Frag} {H : Hp} {a : Addr} {ns : List Nat} (h : TN H a ns) : SqT K H a (ns.map vn) := .inl (.inl h)
theorem tpL {K : PySem.W.Frag} {H : Hp} {a : Addr} {ps : List (Option Nat)} (h : TP H a ps) : SqT K H a (ps.map vp) := .inl (.inl h)
theorem vn_flat (ns : List Nat) : (ns.map vn).all flatV = true := by
  rw [List.all_eq_true]
  intro x hx
  obtain ⟨n, _, rfl⟩ := List.mem_map.mp hx
  rfl
theorem vn_at {ns : List Nat} {i n : Nat} (h : ns[i]? = some n) : (ns.map vn)[i]? = some (vn n) := by rw [List.getElem?_map, h]; rfl
theorem vp_at {ps : List (Option Nat)} {i : Nat} {q : Option Nat} (h : ps[i]? = some q) : (ps.map vp)[i]? = some (vp q) := by rw [List.getElem?_map, h]; rfl
theorem vn_ix {ns : List Nat} {i n : Nat} (h : ns[i]? = some n) : atI (ns.map vn) ((i : Nat) : Int) = some (vn n) := atI_nat (vn_at h)
theorem vp_ix {ps : List (Option Nat)} {i : Nat} {q : Option Nat} (h : ps[i]? = some q) : atI (ps.map vp) ((i : Nat) : Int) = some (vp q) := atI_nat (vp_at h)
theorem vn_get {ns : List Nat} {i : Nat} {x : V} (h : (ns.map vn)[i]? = some x) : ∃ n, ns[i]? = some n ∧ x = vn n := by
  rw [List.getElem?_map] at h
  obtain ⟨n, hn, e⟩ := Option.map_eq_some_iff.mp h
  exact ⟨n, hn, e.symm⟩
theorem vp_get {ps : List (Option Nat)} {i : Nat} {x : V} (h : (ps.map vp)[i]? = some x) : ∃ q, ps[i]? = some q ∧ x = vp q := by
  rw [List.getElem?_map] at h
  obtain ⟨n, hn, e⟩ := Option.map_eq_some_iff.mp h
  exact ⟨n, hn, e.symm⟩
theorem vn_inj {a b : Nat} : eqV (vn a) (vn b) = decide (a = b) := by
  show (((a : Nat) : Int) == ((b : Nat) : Int)) = decide (a = b)
  rw [Bool.eq_iff_iff, beq_iff_eq, decide_eq_true_iff]
  omega
/-- the first place of n -/
theorem vn_idx {ns : List Nat} {n : Nat} (h : n ∈ ns) : (ns.map vn)[ns.idxOf n]? = some (vn n) ∧ ∀ (m : Nat) (z : V), m < ns.idxOf n → (ns.map vn)[m]? = some z → eqV z (vn n) = false := by
  refine ⟨vn_at ?_, fun m z hm hz => ?_⟩
  · have hl := List.idxOf_lt_length_of_mem h
    rw [List.getElem?_eq_getElem hl, List.getElem_idxOf hl]
  · rw [List.getElem?_map] at hz
    obtain ⟨k, hk, rfl⟩ := Option.map_eq_some_iff.mp hz
    rw [vn_inj]
    refine decide_eq_false fun e => ?_
    subst e
    obtain ⟨hml, hme⟩ := List.getElem?_eq_some_iff.mp hk
    have := List.not_of_lt_findIdx (p := (· == k)) (xs := ns) (i := m) hm
    rw [hme] at this
    simp at this
theorem inV_vn {ns : List Nat} {n : Nat} : inV (vn n) (ns.map vn) = decide (n ∈ ns) := by
  unfold inV
  rw [Bool.eq_iff_iff, decide_eq_true_iff, List.any_eq_true]
  constructor
  · rintro ⟨x, hx, h⟩
    obtain ⟨m, hm, rfl⟩ := List.mem_map.mp hx
    rw [vn_inj, decide_eq_true_iff] at h
    rw [← h]; exact hm
  · intro h
    exact ⟨vn n, List.mem_map.mpr ⟨n, h, rfl⟩, by rw [vn_inj]; exact decide_eq_true rfl⟩
/-! the forest -/
def fields3 (ap ab aa : Addr) : List (Str × V) := [("parents", .ref ap), ("bearing", .ref ab), ("asking", .ref aa)]
structure Fo where
  ps : List (Option Nat)
  be : List Nat
  as : List Nat
/-- what a forest's data keep to -/
structure FoOk (f : Fo) : Prop where
  ps : Ps f.ps
  l0 : 1 ≤ f.ps.length
  l1 : f.ps.length ≤ 60
  be : f.be.Pairwise (· < ·)
  bl : ∀ x ∈ f.be, x < f.ps.length
  as : f.as.Pairwise (· < ·)
  al : ∀ x ∈ f.as, x < f.ps.length
def FoAt (C : Addr) (H : Hp) (a : Addr) (f : Fo) : Prop := ∃ dx ap ab aa, H a = some (.ins C dx (fields3 ap ab aa)) ∧ TP H ap f.ps ∧ TN H ab f.be ∧ TN H aa f.as
theorem foAt_same {C : Addr} {H H' : Hp} {a : Addr} {f : Fo} (s : Same H H') (h : FoAt C H a f) : FoAt C H' a f := by
  obtain ⟨dx, ap, ab, aa, h1, h2, h3, h4⟩ := h
  exact ⟨dx, ap, ab, aa, s _ _ h1, s _ _ h2, s _ _ h3, s _ _ h4⟩
structure FoT (K : PySem.W.Frag) (mg : Str → Option Value) (C : Addr) : Prop where
  cl : Cls K C
  nP : NoAttr K C "parents"
  nB : NoAttr K C "bearing"
  nA : NoAttr K C "asking"
  mgC : mg "Forest" = some (.ref C)
theorem fP {ap ab aa : Addr} : (fields3 ap ab aa).lookup ("parents" : Str) = some (.ref ap) := rfl
theorem fB {ap ab aa : Addr} : (fields3 ap ab aa).lookup ("bearing" : Str) = some (.ref ab) := rfl
theorem fA {ap ab aa : Addr} : (fields3 ap ab aa).lookup ("asking" : Str) = some (.ref aa) := rfl
/-- the builtins that the texts call -/
structure NamT (mg : Str → Option Value) : Prop where
  is : IsTxt mg
  int : mg "int" = none
  abs : mg "abs" = none
  range : mg "range" = none
  enum : mg "enumerate" = none
  rev : mg "reversed" = none
  sorted : mg "sorted" = none
  min : mg "min" = none
/-- a def and its name in the module -/
structure DefAt (K : PySem.W.Frag) (mg : Str → Option Value) (x : Str) (st : Stmt) (ps : List Str) (f : Addr) (fd : FuncData) : Prop where
  F : Fun K x x st f fd
  b : Binds K fd ps []
  g : mg x = some (.ref f)
theorem ifT {c : Prop} {_ : Decidable c} {a b : Prop} (h : c) (x : a) : if c then a else b := by rw [if_pos h]; exact x
theorem ifF {c : Prop} {_ : Decidable c} {a b : Prop} (h : ¬ c) (x : b) : if c then a else b := by rw [if_neg h]; exact x
/-! kinds -/
section
variable {P : Program} {w : World} {K : PySem.W.Frag} {mg : Str → Option Value} {base : Heap}
theorem intTy {H : Hp} {n : Int} : TyX K H (.int n) (.type "int") := .base (.int n)
def spIsInt : Sp := fun vs H Q _ => ∃ n : Int, vs = [.int n] ∧ Q (.bl true) H
theorem scIsInt : FnScope ["thing"] ["thing"] (defScope sIsInt) := ⟨rfl, rfl, rfl, by decide +kernel, rfl, by decide +kernel, by decide +kernel⟩
theorem ok_isInt {f : Addr} {fd : FuncData} (F : Fun K "is_integer" "is_integer" sIsInt f fd) (N : NamT mg) : FnOk P w K mg base CX0 1 f fd ["thing"] spIsInt := by
  refine F.ok scIsInt (fun vs H Q E h => ?_) (fun cdv A outer s H vs Q E hr h => ?_)
  · obtain ⟨n, rfl, _⟩ := h
    rfl
  · obtain ⟨n, rfl, k⟩ := h
    refine ⟨_, pss_one (ps_ret (pe_and (pe_callB call_isi (by rfl) N.is.inst (by decide +kernel) (pa_cons (pv 0) (pa_cons (pe_bltn (v := .ty "int") (by rfl) N.int (by decide +kernel) rfl) pa_nil))) (pe_one (pe_not (pe_callB call_isi (by rfl) N.is.inst (by decide +kernel) (pa_cons (pv 0) (pa_cons (pe_bltn (v := .ty "bool") (by rfl) N.is.bool (by decide +kernel) rfl) pa_nil))))))), ?_⟩
    refine ⟨_, rfl, _, .ty "int", _, _, true, rfl, .ty _, intTy, kit_ty (by decide +kernel), true, rfl, ?_⟩
    refine ifT rfl ?_
    exact ⟨_, rfl, _, .ty "bool", _, _, false, rfl, .ty _, intTy, kit_ty (by decide +kernel), false, rfl, k⟩
def spIsBtw : Sp := fun vs H Q _ => ∃ n a b : Int, vs = [.int n, .int a, .int b] ∧ Q (.bl (decide (a ≤ n ∧ n ≤ b))) H
theorem scIsBtw : FnScope ["thing", "least", "most"] ["thing", "least", "most"] (defScope sIsBtw) := ⟨rfl, rfl, rfl, by decide +kernel, rfl, by decide +kernel, by decide +kernel⟩
theorem ok_isBtw {f fI : Addr} {fd fdI : FuncData} (F : Fun K "is_between" "is_between" sIsBtw f fd) (N : NamT mg) (DI : DefAt K mg "is_integer" sIsInt ["thing"] fI fdI) : FnOk P w K mg base CX0 2 f fd ["thing", "least", "most"] spIsBtw := by
  have GI : FnOk P w K mg base CX0 1 fI fdI ["thing"] spIsInt := ok_isInt DI.F N
  refine F.ok scIsBtw (fun vs H Q E h => ?_) (fun cdv A outer s H vs Q E hr h => ?_)
  · obtain ⟨n, a, b, rfl, _⟩ := h
    rfl
  · obtain ⟨n, a, b, rfl, k⟩ := h
    refine ⟨_, pss_one (ps_ret (pe_and (pe_call GI hr (by rfl) DI.g DI.F.kp DI.b .nil pass0 (pa_cons (pv 0) pa_nil)) (pe_one (pe_chain op_le op_le (pv 1) (pv 0) (pv 2))))), ?_⟩
    refine ⟨_, rfl, n, rfl, true, rfl, ?_⟩
    refine ifT rfl ?_
    refine ⟨_, rfl, _, rfl, _, _, rfl, rfl, _, rfl, ?_⟩
    by_cases h1 : a ≤ n
    · refine ifT (decide_eq_true h1) ?_
      refine ⟨_, rfl, _, _, rfl, rfl, ?_⟩
      rw [show decide (a ≤ n ∧ n ≤ b) = decide (n ≤ b) from by simp [h1]] at k
      exact k
    · refine ifF (by rw [decide_eq_false h1]; exact Bool.false_ne_true) ?_
      rw [show decide (a ≤ n ∧ n ≤ b) = false from by simp [h1]] at k
      exact k
end
end Cn
namespace Cn
open PySem PySem.Spec PyProof.Rows L2 Ck
/-- the defs, as the text has them -/
structure LoT (K : PySem.W.Frag) (mg : Str → Option Value) (Z : Addr) : Prop where
  cl : Cls K Z
  mgC : mg "Loom" = some (.ref Z)
  n_notes : NoAttr K Z "notes"
  n_amounts : NoAttr K Z "amounts"
  n_adding : NoAttr K Z "adding"
  n_sums : NoAttr K Z "sums"
  n_events : NoAttr K Z "events"
  n_ahead : NoAttr K Z "ahead"
  n_read : NoAttr K Z "read"
  ini : ∃ f fd, Fun K "__init__" "Loom.__init__" sLo_init f fd ∧ Mk K Z f ∧ Binds K fd ["self", "notes", "amounts", "adding"] []
  m_put_together : ∃ f fd, Fun K "put_together" "Loom.put_together" sLo_put_together f fd ∧ Meth K Z "put_together" f ∧ Binds K fd ["self", "s"] []
  m_turn : ∃ f fd, Fun K "turn" "Loom.turn" sLo_turn f fd ∧ Meth K Z "turn" f ∧ Binds K fd ["self", "k", "deed"] []
  m_begin : ∃ f fd, Fun K "begin" "Loom.begin" sLo_begin f fd ∧ Meth K Z "begin" f ∧ Binds K fd ["self", "k", "deed"] []
  m_go_on : ∃ f fd, Fun K "go_on" "Loom.go_on" sLo_go_on f fd ∧ Meth K Z "go_on" f ∧ Binds K fd ["self", "k", "deed"] []
  m_end : ∃ f fd, Fun K "end" "Loom.end" sLo_end f fd ∧ Meth K Z "end" f ∧ Binds K fd ["self", "k", "deed"] []
structure Defs (K : PySem.W.Frag) (mg : Str → Option Value) (C : Addr) : Prop where
  N : NamT mg
  T : FoT K mg C
  mM : ∃ tm, mg "MOST_PLACES" = some (.int 60 tm)
  mEv : ∃ tm, mg "MOST_EVENTS" = some (.int 200 tm)
  mCh : ∃ tm, mg "MOST_CHOICES" = some (.int 2000 tm)
  mDe : ∃ tm, mg "MOST_DEEDS" = some (.int 20 tm)
  mTu : ∃ tm, mg "MOST_TURNS" = some (.int 400 tm)
  zAny : mg "any" = none
  zDict : mg "dict" = none
  zValueerror : mg "ValueError" = none
  zStr : mg "str" = none
  cLo : ∃ Z, LoT K mg Z
  ini : ∃ f fd, Fun K "__init__" "Forest.__init__" sInit f fd ∧ Mk K C f ∧ Binds K fd ["self", "parents", "bearing", "asking"] []
  lwd : ∃ f fd, DefAt K mg "_law_word" sLWord ["_law_pool_here", "_law_place"] f fd
  I : ∃ f fd, DefAt K mg "is_integer" sIsInt ["thing"] f fd
  B : ∃ f fd, DefAt K mg "is_between" sIsBtw ["thing", "least", "most"] f fd
  L : ∃ f fd, DefAt K mg "is_lot" sIsLot ["thing"] f fd
  O : ∃ f fd, DefAt K mg "_is_lot_of_places" sLotOf ["thing", "many"] f fd
  Pl : ∃ f fd, DefAt K mg "is_place" sIsPlace ["forest", "thing"] f fd
  W : ∃ f fd, DefAt K mg "way" sWay ["forest", "place"] f fd
  pl : ∃ f fd, DefAt K mg "is_plan" sIsPlan ["forest", "thing"] f fd
  ss : ∃ f fd, DefAt K mg "_stacks" sStacks ["forest", "plan"] f fd
  na : ∃ f fd, DefAt K mg "_note_at" sNoteAt ["forest", "found", "place"] f fd
  nbp : ∃ f fd, DefAt K mg "notes_by_place" sByPlace ["forest", "plan"] f fd
  dr : ∃ f fd, DefAt K mg "_law_draw" sDraw ["_law_pool_here", "_law_many"] f fd
  is : ∃ f fd, DefAt K mg "_law_is" sIs ["_law_told", "_law_due"] f fd
  pa : ∃ f fd, DefAt K mg "_law_parents" sParents ["_law_pool_here", "_law_many"] f fd
  lo : ∃ f fd, DefAt K mg "_law_lot" sLawLot ["_law_pool_here", "_law_many", "_law_sides"] f fd
  ma : ∃ f fd, DefAt K mg "_law_made" sMade ["_law_spec_here"] f fd
  ha : ∃ f fd, DefAt K mg "_law_pool" sHand ["_law_script"] f fd
  pck : ∃ f fd, DefAt K mg "_law_pick" sPick ["_law_pool_here", "_law_things"] f fd
  spc : ∃ f fd, DefAt K mg "_law_spec" sSpec ["_law_pool_here", "_law_least", "_law_most"] f fd
  dpl : ∃ f fd, DefAt K mg "_law_plan" sDPlan ["_law_pool_here", "_law_parents_here"] f fd
  lwy : ∃ f fd, DefAt K mg "_law_way" sLWay ["_law_parents_here", "_law_place"] f fd
  ibe : ∃ f fd, DefAt K mg "is_bearing" sIsBear ["forest", "thing"] f fd
  iak : ∃ f fd, DefAt K mg "is_asking" sIsAsk ["forest", "thing"] f fd
  iam : ∃ f fd, DefAt K mg "is_amounts" sIsAmt ["forest", "thing"] f fd
  lws : ∃ f fd, DefAt K mg "_law_words" sLWords ["_law_pool_here", "_law_places"] f fd
  ljo : ∃ f fd, DefAt K mg "_law_joined" sLJoin ["_law_one", "_law_other"] f fd
  iev : ∃ f fd, DefAt K mg "_is_event" sIsEv ["forest", "thing"] f fd
  aev : ∃ f fd, DefAt K mg "are_events" sAreEv ["forest", "thing"] f fd
  ihs : ∃ f fd, DefAt K mg "is_history" sIsHist ["forest", "thing"] f fd
  eof : ∃ f fd, DefAt K mg "ends_of" sEndsOf ["history"] f fd
  otd : ∃ f fd, DefAt K mg "_is_outdated" sOutd ["lives", "end", "asked_at"] f fd
  chs : ∃ f fd, DefAt K mg "choices" sChoi ["lives", "asked_at"] f fd
  ipo : ∃ f fd, DefAt K mg "_is_possible" sPoss ["adding", "chosen", "answer"] f fd
  wra : ∃ f fd, DefAt K mg "wrong_answer" sWrong ["forest", "amounts", "adding", "history"] f fd
  lmc : ∃ f fd, DefAt K mg "_law_may_count" sLMayC ["_law_history", "_law_place", "_law_amount", "_law_begin", "_law_end"] f fd
  lch : ∃ f fd, DefAt K mg "_law_choices" sLChoi ["_law_spec_here", "_law_amounts", "_law_history", "_law_end"] f fd
  laa : ∃ f fd, DefAt K mg "_law_all_answers" sLAllA ["_law_add", "_law_choices_here"] f fd
  lpd : ∃ f fd, DefAt K mg "_law_product" sLProd ["_law_choices_here"] f fd
  lfw : ∃ f fd, DefAt K mg "_law_first_wrong" sLFirstW ["_law_spec_here", "_law_amounts", "_law_add", "_law_history", "_law_most"] f fd
  tgt : ∃ f fd, DefAt K mg "together" sTogt ["adding", "things"] f fd
  hlo : ∃ f fd, DefAt K mg "holding_one" sHold1 ["notes", "places"] f fd
  rda : ∃ f fd, DefAt K mg "reading_at" sReadAt ["notes", "place"] f fd
  idd : ∃ f fd, DefAt K mg "_is_deed" sIsDeed ["forest", "thing"] f fd
  ids : ∃ f fd, DefAt K mg "_is_deeds" sIsDeeds ["forest", "thing"] f fd
  itn : ∃ f fd, DefAt K mg "_is_turns" sIsTurns ["deeds", "thing"] f fd
  wvn : ∃ f fd, DefAt K mg "woven" sWoven ["forest", "plan", "amounts", "adding", "deeds", "turns"] f fd
  lsd : ∃ f fd, DefAt K mg "_law_some_deeds" sLSoDe ["_law_pool_here", "_law_spec_here", "_law_most"] f fd
  ltn : ∃ f fd, DefAt K mg "_law_turns" sLTurns ["_law_pool_here", "_law_many", "_law_most"] f fd
end Cn
namespace Cn
open PySem PySem.Spec PyProof.Rows L2 Ck
/-! readings that leave all as it is, apart from new things -/
theorem cutDrop (xs : List V) (n : Nat) : cutV xs (some (n : Int)) none = xs.drop n := by
  unfold cutV
  rw [HT.sIx_none, HT.sIx_nat]
  by_cases h : n ≤ xs.length
  · rw [Nat.min_eq_left h]
    exact List.take_of_length_le (by rw [List.length_drop]; omega)
  · rw [Nat.min_eq_right (by omega), Nat.sub_self, List.take_zero, List.drop_of_length_le (by omega)]
theorem cutWhole {xs : List V} {lo hi : Option Int} (h : HT.sIx xs.length 0 lo = 0 ∧ HT.sIx xs.length xs.length hi = xs.length) : cutV xs lo hi = xs := by
  unfold cutV
  rw [h.1, h.2, List.drop_zero, Nat.sub_zero, List.take_length]
theorem slA {K : PySem.W.Frag} {H : Hp} {a : Addr} {xs : List V} {lo hi : Option Int} {Q : VK} (ha : H a = some (.tup xs)) (k : ∀ b H', Same H H' → H' b = some (.tup (cutV xs lo hi)) → Q (.ref b) H') : rSlA K (.ref a) lo hi H Q := by
  refine ⟨a, xs, rfl, .inl (.inl ha), fun h => k a H (Same.refl _) (by rw [cutWhole h]; exact ha), fun _ p np => k p _ (smUpd np) upd_same⟩
theorem slN {K : PySem.W.Frag} {σ : L2.St} {H : Hp} {a : Addr} {xs : List V} {lo : Option Int} {Q : VK} (ha : H a = some (.tup xs)) (k : ∀ b H', Same H H' → H' b = some (.tup (cutV xs lo none)) → Q (.ref b) H') : tNoPart σ H (fun u H3 => rSlA K (.ref a) lo u H3 Q) := slA (hi := none) ha k
theorem catA {K : PySem.W.Frag} {H : Hp} {a b : Addr} {xs ys : List V} {Q : VK} (ha : H a = some (.tup xs)) (hb : H b = some (.tup ys)) (hl : xs.length + ys.length ≤ 1000) (k : ∀ c H', Same H H' → H' c = some (.tup (xs ++ ys)) → Q (.ref c) H') : rCatA K (.ref a) (.ref b) H Q := by
  refine ⟨a, b, xs, ys, rfl, rfl, .inl (.inl ha), .inl (.inl hb), Nat.le_of_lt (small1000 hl), fun h => ?_, fun _ h => ?_, fun _ _ p np => k p _ (smUpd np) upd_same⟩
  · subst h
    exact k b H (Same.refl _) hb
  · subst h
    exact k a H (Same.refl _) (by rw [List.append_nil]; exact ha)
theorem walk_zipT {K : PySem.W.Frag} {a b : Addr} {xs ys : List V} {n : Nat} (hn : n = min xs.length ys.length) : Walk (RZ.ItzT K a b) n (fun H => SqT K H a xs ∧ SqT K H b ys) (YPair (fun i => xs[i]?) (fun i => ys[i]?)) := by
  subst hn
  refine ⟨fun i _ hi q => ?_, fun _ q => ⟨xs, ys, q.1, q.2, by omega⟩, fun i H v H' _ q y => ?_⟩
  · have h1 : i < xs.length := by omega
    have h2 : i < ys.length := by omega
    exact ⟨xs, ys, xs[i], ys[i], q.1, q.2, by simp [h1], by simp [h2]⟩
  · obtain ⟨T, x, z, h1, h2, h3, h4, h5⟩ := y
    exact ⟨T, x, z, h1, h2, h3, h4 xs q.1, h5 ys q.2⟩
section
variable {P : Program} {w : World} {K : PySem.W.Frag} {mg : Str → Option Value} {base : Heap}
theorem tupTy {H : Hp} {a : Addr} {xs : List V} (h : H a = some (.tup xs)) : TyX K H (.ref a) (.type "tuple") := .base (.tup h)
def spIsLot : Sp := fun vs H Q _ => ∃ (a : Addr) (ns : List Nat), vs = [.ref a] ∧ TN H a ns ∧ ns.Pairwise (· < ·) ∧ ns.length ≤ 1000 ∧ ∀ H', Same H H' → Q (.bl true) H'
def nLot : List Str := ["thing", "item", "one", "following"]
theorem scIsLot : FnScope nLot ["thing"] (defScope sIsLot) := ⟨rfl, rfl, rfl, by decide +kernel, rfl, by decide +kernel, by decide +kernel⟩
theorem ok_isLot {f fI : Addr} {fd fdI : FuncData} (F : Fun K "is_lot" "is_lot" sIsLot f fd) (N : NamT mg) (DI : DefAt K mg "is_integer" sIsInt ["thing"] fI fdI) : FnOk P w K mg base CX0 2 f fd ["thing"] spIsLot := by
  have GI : FnOk P w K mg base CX0 1 fI fdI ["thing"] spIsInt := ok_isInt DI.F N
  refine F.ok scIsLot (fun vs H Q E h => ?_) (fun cdv A outer s H vs Q E hr h => ?_)
  · obtain ⟨a, ns, rfl, _⟩ := h
    rfl
  · obtain ⟨a, ns, rfl, ha, hp, hl, k⟩ := h
    refine ⟨_, pss_cons (ps_if (pt_not (pt_val (pe_callB call_isi (by rfl) N.is.inst (by decide +kernel) (pa_cons (pv 0) (pa_cons (pe_bltn (v := .ty "tuple") (by rfl) N.is.tup (by decide +kernel) rfl) pa_nil))))) (pss_one ps_never) pss_nil)
      (pss_cons (ps_for PassesOwn.never rfl (pi_tup (pv 0)) (pg_name (i := 1) scIsLot.nd rfl (Or.inl rfl)) (pss_one (ps_if (pt_not (pt_val (pe_call GI hr (by rfl) DI.g DI.F.kp DI.b .nil pass0 (pa_cons (pv 1) pa_nil)))) (pss_one ps_never) pss_nil)))
      (pss_cons (ps_for PassesOwn.never rfl (RZ.pi_zipA (by rfl) N.is.zip (pa_cons (pv 0) (pa_cons (pe_slice sl_tupA (pv 0) (po_some pe_int) po_none) pa_nil))) (pg_tup rfl (pgs_cons (pg_name (i := 2) scIsLot.nd rfl (Or.inl rfl)) (pgs_cons (pg_name (i := 3) scIsLot.nd rfl (Or.inl rfl)) pgs_nil)))
        (pss_one (ps_if (pt_cmpR op_ge (pv 2) (pv 3) (nomark _)) (pss_one ps_never) pss_nil)))
      (pss_one (ps_ret pe_bl)))), ?_⟩
    refine ⟨_, rfl, _, .ty "tuple", _, _, true, rfl, .ty _, tupTy ha, kit_ty (by decide +kernel), true, rfl, ?_⟩
    refine ifF (by decide) ?_
    refine ⟨_, rfl, a, rfl, ⟨_, tnL ha⟩, ?_⟩
    refine for_it (walk_tup (xs := ns.map vn)) (fun _ σ H' => H' = H ∧ ∃ t1, σ = [some (.ref a), t1, none, none]) ⟨rfl, _, rfl⟩ (fun i σ H' _ z => by rw [z.1]; exact tnL ha) ?_ ?_
    · rintro i x σ H' H2 hi ⟨rfl, t1, rfl⟩ ⟨rfl, hx⟩
      rw [List.getElem?_map] at hx
      obtain ⟨n, _, rfl⟩ := Option.map_eq_some_iff.mp hx
      refine ⟨_, rfl, (n : Int), rfl, true, rfl, ?_⟩
      refine ifF (by decide) ?_
      exact ⟨rfl, _, rfl⟩
    · rintro σ H' ⟨rfl, t1, rfl⟩
      refine ⟨_, rfl, _, rfl, 1, rfl, ?_⟩
      refine slN ha fun b H1 s1 hb => ?_
      rw [show (some (1 : Int)) = some ((1 : Nat) : Int) from rfl, cutDrop] at hb
      have ha1 : TN H1 a ns := s1 _ _ ha
      refine ⟨a, b, ns.map vn, (ns.map vn).drop 1, rfl, .inr ⟨tnL ha1, .inl (.inl hb), ?_⟩⟩
      refine for_it (walk_zipT (xs := ns.map vn) (ys := (ns.map vn).drop 1) rfl) (fun _ σ H' => Same H1 H' ∧ ∃ t1 t2 t3, σ = [some (.ref a), t1, t2, t3]) ⟨Same.refl _, _, _, _, rfl⟩ (fun i σ H' _ z => ⟨tnL (z.1 _ _ ha1), .inl (.inl (z.1 _ _ hb))⟩) ?_ ?_
      · rintro i x σ H' H2 hi ⟨sm, t1, t2, t3, rfl⟩ ⟨T, x1, y1, rfl, nT, rfl, e1, e2⟩
        obtain ⟨n, hn, rfl⟩ := vn_get (i := i) e1
        have e2 : ((ns.map vn).drop 1)[i]? = some y1 := e2
        rw [List.getElem?_drop] at e2
        obtain ⟨m, hm, rfl⟩ := vn_get e2
        refine ⟨T, _, rfl, .inl (.inl upd_same), rfl, _, _, rfl, _, _, rfl, rfl, ?_⟩
        refine ⟨_, rfl, _, rfl, _, _, rfl, rfl, _, rfl, ?_⟩
        obtain ⟨q1, q2⟩ := List.getElem?_eq_some_iff.mp hn
        obtain ⟨q3, q4⟩ := List.getElem?_eq_some_iff.mp hm
        have := List.pairwise_iff_getElem.mp hp i (1 + i) q1 q3 (by omega)
        rw [q2, q4] at this
        refine ifF (by rw [decide_eq_true_iff]; show ¬ ((m : Int) ≤ (n : Int)); omega) ?_
        exact ⟨sm.trans (smUpd nT), _, _, _, rfl⟩
      · rintro σ H' ⟨sm, _⟩
        exact k _ (s1.trans sm)
end
end Cn
namespace Cn
open PySem PySem.Spec PyProof.Rows L2 Ck
theorem vn_last {ns : List Nat} {n : Nat} (h : ns ≠ []) (hn : ns.getLast h = n) : atI (ns.map vn) (-1) = some (vn n) := by
  rw [← hn, show ns.map vn = ns.dropLast.map vn ++ [vn (ns.getLast h)] from by rw [← List.map_singleton (f := vn), ← List.map_append, List.dropLast_concat_getLast]]
  exact atI_last _ _
theorem vp_ne {m : Nat} : decide (vp (some m) = V.non) = false := decide_eq_false fun z => nomatch (show vn m = V.non from z)
section
variable {P : Program} {w : World} {K : PySem.W.Frag} {mg : Str → Option Value} {base : Heap} {C : Addr}
def spLotOf : Sp := fun vs H Q _ => ∃ (a : Addr) (ns : List Nat) (n : Nat), vs = [.ref a, vn n] ∧ TN H a ns ∧ ns.Pairwise (· < ·) ∧ (∀ x ∈ ns, x < n) ∧ ns.length ≤ 1000 ∧ ∀ H', Same H H' → Q (.bl true) H'
theorem scLotOf : FnScope ["thing", "many"] ["thing", "many"] (defScope sLotOf) := ⟨rfl, rfl, rfl, by decide +kernel, rfl, by decide +kernel, by decide +kernel⟩
theorem ok_lotOf {f fI fL : Addr} {fd fdI fdL : FuncData} (F : Fun K "_is_lot_of_places" "_is_lot_of_places" sLotOf f fd) (N : NamT mg) (DI : DefAt K mg "is_integer" sIsInt ["thing"] fI fdI) (DL : DefAt K mg "is_lot" sIsLot ["thing"] fL fdL) : FnOk P w K mg base CX0 3 f fd ["thing", "many"] spLotOf := by
  have GL : FnOk P w K mg base CX0 2 fL fdL ["thing"] spIsLot := ok_isLot DL.F N DI
  refine F.ok scLotOf (fun vs H Q E h => ?_) (fun cdv A outer s H vs Q E hr h => ?_)
  · obtain ⟨a, ns, n, rfl, _⟩ := h
    rfl
  · obtain ⟨a, ns, n, rfl, ha, hp, hx, hl, k⟩ := h
    refine ⟨_, pss_one (ps_ret (pe_and (pe_call GL hr (by rfl) DL.g DL.F.kp DL.b .nil pass0 (pa_cons (pv 0) pa_nil)) (pe_one (pe_or (pe_notT (pv 0)) (pe_one (pe_and (pe_cmpR op_le pe_int (pe_ix ix_tup (pv 0) pe_int (fun _ _ => rfl)) (nomark _)) (pe_one (pe_cmpR op_lt (pe_ix ix_tup (pv 0) (pe_un un_neg pe_int) (fun _ _ => rfl)) (pv 1) (nomark _))))))))), ?_⟩
    refine ⟨_, rfl, a, ns, rfl, ha, hp, hl, fun H1 s1 => ⟨true, rfl, ?_⟩⟩
    refine ifT rfl ?_
    have ha1 : TN H1 a ns := s1 _ _ ha
    refine ⟨_, rfl, _, .inr (.inl ⟨_, tnL ha1, rfl⟩), _, rfl, ?_⟩
    by_cases hne : ns = []
    · refine ifT (by rw [hne]; rfl) ?_
      exact k H1 s1
    · obtain ⟨m, h0⟩ : ∃ m, ns[0]? = some m := ⟨_, List.getElem?_eq_getElem (List.length_pos_iff.mpr hne)⟩
      have hem : (ns.map vn).isEmpty = false := by
        cases ns with
        | nil => exact absurd rfl hne
        | cons _ _ => rfl
      refine ifF (by rw [hem]; decide) ?_
      refine ⟨_, rfl, a, _, (0 : Int), _, rfl, rfl, tnL ha1, vn_ix (i := 0) h0, _, _, rfl, rfl, _, rfl, ?_⟩
      refine ifT (by rw [decide_eq_true_iff]; show (0 : Int) ≤ ((m : Nat) : Int); omega) ?_
      have hg := hx _ (List.getLast_mem hne)
      have el := vn_last hne rfl
      refine ⟨_, rfl, _, rfl, a, _, _, _, rfl, rfl, tnL ha1, el, _, rfl, _, _, rfl, rfl, ?_⟩
      have hlt : (((ns.getLast hne : Nat) : Int)) < (n : Int) := by omega
      show Q (V.bl (decide ((((ns.getLast hne : Nat) : Int)) < (n : Int)))) H1
      rw [decide_eq_true hlt]
      exact k H1 s1
/-! Forest(parents, bearing, asking) -/
def spInit (C : Addr) : Sp := fun vs H Q _ => ∃ (p dx ap ab aa : Addr) (f : Fo), vs = [.ref p, .ref ap, .ref ab, .ref aa] ∧ H p = some (.ins C dx []) ∧ TP H ap f.ps ∧ TN H ab f.be ∧ TN H aa f.as ∧ FoOk f ∧
  ∀ H', FoAt C H' p f → (∀ b o, b ≠ p → H b = some o → H' b = some o) → Q .non H'
def nInit : List Str := ["self", "parents", "bearing", "asking", "place", "parent"]
theorem scInit : FnScope nInit ["self", "parents", "bearing", "asking"] (defScope sInit) := ⟨rfl, rfl, rfl, by decide +kernel, rfl, by decide +kernel, by decide +kernel⟩
theorem put3 {ap ab aa : Addr} : putF "asking" (.ref aa) (putF "bearing" (.ref ab) (putF "parents" (.ref ap) [])) = fields3 ap ab aa := rfl
theorem lotLen {ns : List Nat} {n : Nat} (hp : ns.Pairwise (· < ·)) (hx : ∀ x ∈ ns, x < n) : ns.length ≤ n := by
  have h : ∀ (k : Nat) (xs : List Nat), xs.Pairwise (· < ·) → (∀ x ∈ xs, k ≤ x ∧ x < n) → k ≤ n → xs.length + k ≤ n := by
    intro k xs
    induction xs generalizing k with
    | nil => intro _ _ h; rw [List.length_nil]; omega
    | cons y ys ih =>
      intro p q hk
      have hy := q y List.mem_cons_self
      have := ih (y + 1) (List.pairwise_cons.mp p).2 (fun x hx => ⟨(List.pairwise_cons.mp p).1 x hx, (q x (List.mem_cons_of_mem _ hx)).2⟩) hy.2
      rw [List.length_cons]
      omega
  have := h 0 ns hp (fun x hx' => ⟨Nat.zero_le _, hx x hx'⟩) (Nat.zero_le _)
  omega
theorem ok_init {f fI fL fB fO : Addr} {fd fdI fdL fdB fdO : FuncData} {tm : Tok} (F : Fun K "__init__" "Forest.__init__" sInit f fd) (N : NamT mg) (T : FoT K mg C) (mM : mg "MOST_PLACES" = some (.int 60 tm)) (DI : DefAt K mg "is_integer" sIsInt ["thing"] fI fdI) (DL : DefAt K mg "is_lot" sIsLot ["thing"] fL fdL)
    (DB : DefAt K mg "is_between" sIsBtw ["thing", "least", "most"] fB fdB) (DO : DefAt K mg "_is_lot_of_places" sLotOf ["thing", "many"] fO fdO) : FnOk P w K mg base CX0 4 f fd ["self", "parents", "bearing", "asking"] (spInit C) := by
  have GB : FnOk P w K mg base CX0 2 fB fdB ["thing", "least", "most"] spIsBtw := ok_isBtw DB.F N DI
  have GO : FnOk P w K mg base CX0 3 fO fdO ["thing", "many"] spLotOf := ok_lotOf DO.F N DI DL
  refine F.ok scInit (fun vs H Q E h => ?_) (fun cdv A outer s H vs Q E hr h => ?_)
  · obtain ⟨p, dx, ap, ab, aa, f, rfl, _⟩ := h
    rfl
  · obtain ⟨p, dx, ap, ab, aa, fo, rfl, hp, h1, h2, h3, ok, k⟩ := h
    have hr2 : Room 2 (A.deeper (envOfC "Forest.__init__" (defScope sInit) s.heap.objs.size f cdv)) := Room.mono hr (by decide)
    refine ⟨_, pss_cons (ps_if (PW.pt (pw_or (pt_not (pt_val (pe_callB call_isi (by rfl) N.is.inst (by decide +kernel) (pa_cons (pv 1) (pa_cons (pe_bltn (v := .ty "tuple") (by rfl) N.is.tup (by decide +kernel) rfl) pa_nil)))))
          (pw_or1 (pt_not (pt_chain op_le op_le pe_int (pe_callB call_len_seq (by rfl) N.is.len PySem.boot_len (pa_cons (pv 1) pa_nil)) (pe_glob (v := .int 60) (by rfl) mM ⟨_, rfl⟩)))))) (pss_one ps_never) pss_nil)
      (pss_cons (ps_for PassesOwn.never rfl (pi_enumT (by rfl) N.enum (pa_cons (pv 1) pa_nil)) (pg_tup rfl (pgs_cons (pg_name (i := 4) scInit.nd rfl (Or.inl rfl)) (pgs_cons (pg_name (i := 5) scInit.nd rfl (Or.inl rfl)) pgs_nil)))
        (pss_one (ps_if (PW.pt (pw_and (pt_cmpR op_notN (pv 5) pe_non (nomark _)) (pw_and1 (pt_not (pt_val (pe_call GB hr2 (by rfl) DB.g DB.F.kp DB.b .nil pass0 (pa_cons (pv 5) (pa_cons pe_int (pa_cons (pe_op op_sub (pv 4) pe_int) pa_nil))))))))) (pss_one ps_never) pss_nil)))
      (pss_cons (ps_if (pt_not (pt_val (pe_call GO hr (by rfl) DO.g DO.F.kp DO.b .nil pass0 (pa_cons (pv 2) (pa_cons (pe_callB call_len_seq (by rfl) N.is.len PySem.boot_len (pa_cons (pv 1) pa_nil)) pa_nil))))) (pss_one ps_never) pss_nil)
      (pss_cons (ps_if (pt_not (pt_val (pe_call GO hr (by rfl) DO.g DO.F.kp DO.b .nil pass0 (pa_cons (pv 3) (pa_cons (pe_callB call_len_seq (by rfl) N.is.len PySem.boot_len (pa_cons (pv 1) pa_nil)) pa_nil))))) (pss_one ps_never) pss_nil)
      (pss_cons (ps_fld (pv 0) (pv 1) rfl) (pss_cons (ps_fld (pv 0) (pv 2) rfl) (pss_one (ps_fld (pv 0) (pv 3) rfl))))))), ?_⟩
    have l1 : ((fo.ps.map vp).length : Int) ≤ 60 := by have := ok.l1; rw [List.length_map]; omega
    have l0 : (1 : Int) ≤ ((fo.ps.map vp).length : Int) := by have := ok.l0; rw [List.length_map]; omega
    refine ⟨_, rfl, _, .ty "tuple", _, _, true, rfl, .ty _, tupTy h1, kit_ty (by decide +kernel), true, rfl, ?_⟩
    refine ifF (by decide) ?_
    refine ⟨_, rfl, ap, _, rfl, .inr (tpL h1), _, _, rfl, rfl, _, rfl, ?_⟩
    refine ifT (decide_eq_true l0) ?_
    refine ⟨_, _, rfl, rfl, _, rfl, ?_⟩
    refine ifF (by rw [decide_eq_true l1]; decide) ?_
    refine ⟨_, rfl, ap, _, rfl, tpL h1, ?_⟩
    refine for_it (walk_enumT (xs := fo.ps.map vp)) (fun _ σ H' => Same H H' ∧ ∃ t4 t5, σ = [some (.ref p), some (.ref ap), some (.ref ab), some (.ref aa), t4, t5]) ⟨Same.refl _, _, _, rfl⟩ (fun i σ H' _ z => tpL (z.1 _ _ h1)) ?_ ?_
    · rintro i x σ H' H2 hi ⟨sm, t4, t5, rfl⟩ ⟨T, x1, y1, rfl, nT, rfl, e1, e2⟩
      cases e1
      obtain ⟨q, hq, rfl⟩ := vp_get (i := i) e2
      refine ⟨T, _, rfl, .inl (.inl upd_same), rfl, _, _, rfl, _, _, rfl, rfl, ?_⟩
      cases q with
      | none =>
        refine ⟨_, rfl, rfl, _, rfl, ?_⟩
        refine ifF (by decide) ?_
        exact ⟨sm.trans (smUpd nT), _, _, rfl⟩
      | some m =>
        refine ⟨_, rfl, rfl, _, rfl, ?_⟩
        refine ifT (by rw [vp_ne]; rfl) ?_
        refine ⟨_, rfl, _, rfl, _, _, rfl, rfl, (m : Int), 0, (i : Int) - 1, rfl, _, rfl, ?_⟩
        have := ok.ps i m hq
        refine ifF (by rw [decide_eq_true (by omega)]; decide) ?_
        exact ⟨sm.trans (smUpd nT), _, _, rfl⟩
    · rintro σ H' ⟨sm, t4, t5, rfl⟩
      refine ⟨_, rfl, _, rfl, ap, _, rfl, .inr (tpL (sm _ _ h1)), ab, fo.be, fo.ps.length, by rw [List.length_map]; rfl, sm _ _ h2, ok.be, ok.bl, Nat.le_trans (lotLen ok.be ok.bl) (by have := ok.l1; omega), fun H1 s1 => ⟨true, rfl, ?_⟩⟩
      refine ifF (by decide) ?_
      refine ⟨_, rfl, _, rfl, ap, _, rfl, .inr (tpL (s1 _ _ (sm _ _ h1))), aa, fo.as, fo.ps.length, by rw [List.length_map]; rfl, s1 _ _ (sm _ _ h3), ok.as, ok.al, Nat.le_trans (lotLen ok.as ok.al) (by have := ok.l1; omega), fun H3 s3 => ⟨true, rfl, ?_⟩⟩
      refine ifF (by decide) ?_
      have sm3 := (sm.trans s1).trans s3
      refine ⟨_, rfl, _, rfl, p, C, dx, [], rfl, sm3 _ _ hp, T.cl, T.nP, (by show 0 < 1000; decide), ?_⟩
      refine ⟨_, rfl, _, rfl, p, C, dx, _, rfl, upd_same, T.cl, T.nB, (by show 1 < 1000; decide), ?_⟩
      refine ⟨_, rfl, _, rfl, p, C, dx, _, rfl, upd_same, T.cl, T.nA, (by show 2 < 1000; decide), ?_⟩
      have kp : ∀ b o, b ≠ p → H b = some o → (upd (upd (upd H3 p (.ins C dx (putF "parents" (.ref ap) []))) p (.ins C dx (putF "bearing" (.ref ab) (putF "parents" (.ref ap) [])))) p (.ins C dx (fields3 ap ab aa))) b = some o := fun b o ne e => by
        rw [upd_ne ne, upd_ne ne, upd_ne ne]
        exact sm3 _ _ e
      have nt : ∀ {a : Addr} {xs : List V}, H a = some (.tup xs) → a ≠ p := fun {a xs} e z => by rw [z, hp] at e; cases e
      exact k _ ⟨dx, ap, ab, aa, upd_same, kp _ _ (nt h1) h1, kp _ _ (nt h2) h2, kp _ _ (nt h3) h3⟩ kp
end
end Cn
namespace Cn
open PySem PySem.Spec PyProof.Rows L2 Ck
section
variable {P : Program} {w : World} {K : PySem.W.Frag} {mg : Str → Option Value} {base : Heap} {C : Addr}
/-- a def at its level -/
def Def (P : Program) (w : World) (K : PySem.W.Frag) (mg : Str → Option Value) (base : Heap) (x : Str) (k : Nat) (ps : List Str) (sp : Sp) : Prop :=
  ∃ f fd, FnOk P w K mg base CX0 k f fd ps sp ∧ mg x = some (.ref f) ∧ PySem.W.keepIn K (.ref f) = true ∧ Binds K fd ps []
theorem def_of {x : Str} {st : Stmt} {ps : List Str} {k : Nat} {sp : Sp} (h : ∃ f fd, DefAt K mg x st ps f fd) (g : ∀ f fd, Fun K x x st f fd → FnOk P w K mg base CX0 k f fd ps sp) : Def P w K mg base x k ps sp := by
  obtain ⟨f, fd, D⟩ := h
  exact ⟨f, fd, g f fd D.F, D.g, D.F.kp, D.b⟩
theorem dBtw (B : Defs K mg C) : Def P w K mg base "is_between" 2 ["thing", "least", "most"] spIsBtw := by
  obtain ⟨fI, fdI, DI⟩ := B.I
  exact def_of B.B fun f fd F => ok_isBtw F B.N DI
/-! is_place -/
def spPlace (C : Addr) : Sp := fun vs H Q _ => ∃ (a : Addr) (f : Fo) (i : Nat), vs = [.ref a, vn i] ∧ FoAt C H a f ∧ i < f.ps.length ∧ Q (.bl true) H
theorem scIsPlace : FnScope ["forest", "thing"] ["forest", "thing"] (defScope sIsPlace) := ⟨rfl, rfl, rfl, by decide +kernel, rfl, by decide +kernel, by decide +kernel⟩
theorem dPlace (B : Defs K mg C) : Def P w K mg base "is_place" 3 ["forest", "thing"] (spPlace C) := by
  obtain ⟨fB, fdB, GB, gB, kB, bB⟩ := dBtw (P := P) (w := w) (base := base) B
  refine def_of B.Pl fun f fd F => ?_
  refine F.ok scIsPlace (fun vs H Q E h => ?_) (fun cdv A outer s H vs Q E hr h => ?_)
  · obtain ⟨a, f, i, rfl, _⟩ := h
    rfl
  · obtain ⟨a, fo, i, rfl, ⟨dx, ap, ab, aa, h0, h1, h2, h3⟩, hi, k⟩ := h
    refine ⟨_, pss_one (ps_ret (pe_call GB hr (by rfl) gB kB bB .nil pass0 (pa_cons (pv 1) (pa_cons pe_int (pa_cons (pe_op op_sub (pe_callB call_len_seq (by rfl) B.N.is.len PySem.boot_len (pa_cons (pe_fld (pv 0) rfl) pa_nil)) pe_int) pa_nil))))), ?_⟩
    refine ⟨_, rfl, _, rfl, a, C, dx, _, _, rfl, h0, B.T.cl, B.T.nP, fP, ap, _, rfl, .inr (tpL h1), _, _, rfl, rfl, (i : Int), 0, _, rfl, ?_⟩
    rw [List.length_map, decide_eq_true (by omega)]
    exact k
/-! way -/
def spWay (C : Addr) : Sp := fun vs H Q _ => ∃ (a : Addr) (f : Fo) (i : Nat), vs = [.ref a, vn i] ∧ FoAt C H a f ∧ Ps f.ps ∧ f.ps.length ≤ 60 ∧ i < f.ps.length ∧ ∀ b H', Same H H' → TDn H' b (road f.ps i) → Q (.ref b) H'
def nWay : List Str := ["forest", "place", "upward", "parent"]
theorem scWay : FnScope nWay ["forest", "place"] (defScope sWay) := ⟨rfl, rfl, rfl, by decide +kernel, rfl, by decide +kernel, by decide +kernel⟩
theorem ps_at {ps : List (Option Nat)} {i : Nat} (hi : i < ps.length) : ∃ q, ps[i]? = some q := ⟨_, List.getElem?_eq_getElem hi⟩
/-- where the walk upward stands -/
def UpAt (ps : List (Option Nat)) (i : Nat) (up : List Nat) : Option Nat → Prop
  | none => road ps i = up.reverse
  | some p => p < i ∧ road ps i = road ps p ++ up.reverse
theorem upStart {ps : List (Option Nat)} {i : Nat} {q : Option Nat} (hp : Ps ps) (h : ps[i]? = some q) : UpAt ps i [i] q := by
  cases q with
  | none => exact road_none h
  | some p => exact ⟨hp i p h, road_some hp h⟩
theorem upNext {ps : List (Option Nat)} {i p : Nat} {up : List Nat} {q : Option Nat} (hp : Ps ps) (h : UpAt ps i up (some p)) (hq : ps[p]? = some q) : UpAt ps i (up ++ [p]) q := by
  obtain ⟨hl, e⟩ := h
  cases q with
  | none =>
    show road ps i = (up ++ [p]).reverse
    rw [e, road_none hq, List.reverse_append]; rfl
  | some r =>
    refine ⟨Nat.lt_trans (hp p r hq) hl, ?_⟩
    rw [e, road_some hp hq, List.reverse_append, List.append_assoc]; rfl
def meas : L2.St → Nat := fun σ => match σ[3]? with
  | some (some (V.int n)) => n.toNat + 1
  | _ => 0
theorem dWay (B : Defs K mg C) : Def P w K mg base "way" 4 ["forest", "place"] (spWay C) := by
  obtain ⟨fB, fdB, GB, gB, kB, bB⟩ := dPlace (P := P) (w := w) (base := base) B
  refine def_of B.W fun f fd F => ?_
  refine F.ok scWay (fun vs H Q E h => ?_) (fun cdv A outer s H vs Q E hr h => ?_)
  · obtain ⟨a, f, i, rfl, _⟩ := h
    rfl
  · obtain ⟨a, fo, i, rfl, hF, hp, hl, hi, k⟩ := h
    refine ⟨_, pss_cons (ps_if (pt_not (pt_val (pe_call GB hr (by rfl) gB kB bB .nil pass0 (pa_cons (pv 0) (pa_cons (pv 1) pa_nil))))) (pss_one ps_never) pss_nil)
      (pss_cons (ps_set (i := 2) scWay.nd rfl (Or.inl rfl) (pe_lst (pa_cons (pv 1) pa_nil)))
      (pss_cons (ps_set (i := 3) scWay.nd rfl (Or.inl rfl) (pe_ix ix_tup (pe_fld (pv 0) rfl) (pv 1) (fun _ _ => rfl)))
      (pss_cons (ps_while PassesOwn.never (pt_cmpR op_notN (pv 3) pe_non (nomark _))
        (pss_cons (ps_expr (pe_bm PySem.F.plainAttrs_list PySem.F.slot_list_append PySem.F.type_list_append mt_append (pv 2) (pa_cons (pv 3) pa_nil)))
        (pss_one (ps_set (i := 3) scWay.nd rfl (Or.inl rfl) (pe_ix ix_tup (pe_fld (pv 0) rfl) (pv 3) (fun _ _ => rfl))))))
      (pss_one (ps_ret (pe_tupRevD rfl (by rfl) B.N.is.tup (by rfl) B.N.rev (pv 2))))))), ?_⟩
    refine ⟨_, rfl, _, rfl, a, fo, i, rfl, hF, hi, true, rfl, ?_⟩
    refine ifF (by decide) ?_
    obtain ⟨dx, ap, ab, aa, h0, h1, h2, h3⟩ := hF
    refine ⟨_, rfl, by show 1 ≤ sizeLine; decide, fun u nu => ?_⟩
    have S1 := smUpd (o := .lst [vn i]) nu
    obtain ⟨q, hq⟩ := ps_at hi
    refine ⟨_, rfl, a, C, dx, _, _, rfl, S1 _ _ h0, B.T.cl, B.T.nP, fP, _, rfl, ap, _, (i : Int), _, rfl, rfl, tpL (S1 _ _ h1), vp_ix hq, ?_⟩
    refine while_by (fun σ H' => ∃ (up : List Nat) (q : Option Nat), σ = [some (.ref a), some (vn i), some (.ref u), some (vp q)] ∧ Same H H' ∧ H' u = some (.lst (up.map vn)) ∧ UpAt fo.ps i up q ∧ up.length ≤ i + 1) (fun σ _ => meas σ) ⟨[i], q, rfl, S1, upd_same, upStart hp hq, by show 1 ≤ i + 1; omega⟩ ?_ ?_
    · rintro σ H' ⟨up, q, rfl, sm, hu, hup, hul⟩
      refine ⟨_, rfl, rfl, _, rfl, ?_⟩
      cases q with
      | none =>
        refine ifF (by decide) ?_
        refine ⟨_, rfl, u, _, rfl, .inl (.inl hu), fun r H2 s2 hr => ?_⟩
        rw [← List.map_reverse] at hr
        have e : road fo.ps i = up.reverse := hup
        refine k r _ (sm.trans s2) ?_
        rw [e]
        exact hr
      | some p =>
        refine ifT (by rw [vp_ne]; rfl) ?_
        obtain ⟨hpi, _⟩ := id hup
        have hpl : p < fo.ps.length := Nat.lt_trans hpi hi
        obtain ⟨r, hr⟩ := ps_at hpl
        refine ⟨_, rfl, .inl ⟨rfl, _, .inl (.inl hu)⟩, _, rfl, u, _, _, rfl, rfl, hu, ?_, ?_⟩
        · rw [List.length_map]; exact small1000 (by omega)
        have nub : ∀ b o, H b = some o → b ≠ u := fun b o e z => by rw [z, nu] at e; cases e
        have sm2 : Same H (upd H' u (.lst (up.map vn ++ [vp (some p)]))) := fun b o e => by rw [upd_ne (nub b o e)]; exact sm b o e
        refine ⟨_, rfl, a, C, dx, _, _, rfl, sm2 _ _ h0, B.T.cl, B.T.nP, fP, _, rfl, ap, _, (p : Int), _, rfl, rfl, tpL (sm2 _ _ h1), vp_ix hr, ?_⟩
        refine ⟨⟨up ++ [p], r, rfl, sm2, ?_, upNext hp hup hr, ?_⟩, ?_⟩
        · rw [upd_same, List.map_append]; rfl
        · have e := road_len hp i hi
          obtain ⟨_, e2⟩ := hup
          have := List.length_pos_iff.mpr (road_ne hp hpl)
          rw [e2, List.length_append, List.length_reverse] at e
          rw [List.length_append, List.length_singleton]
          omega
        · cases r with
          | none => show 0 < (p : Int).toNat + 1; omega
          | some r =>
            have := hp p r hr
            show (r : Int).toNat + 1 < (p : Int).toNat + 1
            omega
    · rintro σ H' Q1 Q2 hq12 ⟨v, hv, e, kk, hk, qq⟩
      exact ⟨v, hv, e, kk, hk, hq12 _ _ qq⟩
end
end Cn
namespace Cn
open PySem PySem.Spec PyProof.Rows L2 Ck
/-! way, as a plain new tuple -/
section
variable {P : Program} {w : World} {K : PySem.W.Frag} {mg : Str → Option Value} {base : Heap} {C : Addr}
def spWayN (C : Addr) : Sp := fun vs H Q _ => ∃ (a : Addr) (f : Fo) (i : Nat), vs = [.ref a, vn i] ∧ FoAt C H a f ∧ Ps f.ps ∧ f.ps.length ≤ 60 ∧ i < f.ps.length ∧ ∀ b H', Same H H' → TN H' b (road f.ps i) → Q (.ref b) H'
theorem dWayN (B : Defs K mg C) : Def P w K mg base "way" 4 ["forest", "place"] (spWayN C) := by
  obtain ⟨fB, fdB, GB, gB, kB, bB⟩ := dPlace (P := P) (w := w) (base := base) B
  refine def_of B.W fun f fd F => ?_
  refine F.ok scWay (fun vs H Q E h => ?_) (fun cdv A outer s H vs Q E hr h => ?_)
  · obtain ⟨a, f, i, rfl, _⟩ := h
    rfl
  · obtain ⟨a, fo, i, rfl, hF, hp, hl, hi, k⟩ := h
    refine ⟨_, pss_cons (ps_if (pt_not (pt_val (pe_call GB hr (by rfl) gB kB bB .nil pass0 (pa_cons (pv 0) (pa_cons (pv 1) pa_nil))))) (pss_one ps_never) pss_nil)
      (pss_cons (ps_set (i := 2) scWay.nd rfl (Or.inl rfl) (pe_lst (pa_cons (pv 1) pa_nil)))
      (pss_cons (ps_set (i := 3) scWay.nd rfl (Or.inl rfl) (pe_ix ix_tup (pe_fld (pv 0) rfl) (pv 1) (fun _ _ => rfl)))
      (pss_cons (ps_while PassesOwn.never (pt_cmpR op_notN (pv 3) pe_non (nomark _))
        (pss_cons (ps_expr (pe_bm PySem.F.plainAttrs_list PySem.F.slot_list_append PySem.F.type_list_append mt_append (pv 2) (pa_cons (pv 3) pa_nil)))
        (pss_one (ps_set (i := 3) scWay.nd rfl (Or.inl rfl) (pe_ix ix_tup (pe_fld (pv 0) rfl) (pv 3) (fun _ _ => rfl))))))
      (pss_one (ps_ret (RT.pe_tupRev rfl (by rfl) B.N.is.tup (by rfl) B.N.rev (pv 2))))))), ?_⟩
    refine ⟨_, rfl, _, rfl, a, fo, i, rfl, hF, hi, true, rfl, ?_⟩
    refine ifF (by decide) ?_
    obtain ⟨dx, ap, ab, aa, h0, h1, h2, h3⟩ := hF
    refine ⟨_, rfl, by show 1 ≤ sizeLine; decide, fun u nu => ?_⟩
    have S1 := smUpd (o := .lst [vn i]) nu
    obtain ⟨q, hq⟩ := ps_at hi
    refine ⟨_, rfl, a, C, dx, _, _, rfl, S1 _ _ h0, B.T.cl, B.T.nP, fP, _, rfl, ap, _, (i : Int), _, rfl, rfl, tpL (S1 _ _ h1), vp_ix hq, ?_⟩
    refine while_by (fun σ H' => ∃ (up : List Nat) (q : Option Nat), σ = [some (.ref a), some (vn i), some (.ref u), some (vp q)] ∧ Same H H' ∧ H' u = some (.lst (up.map vn)) ∧ UpAt fo.ps i up q ∧ up.length ≤ i + 1) (fun σ _ => meas σ) ⟨[i], q, rfl, S1, upd_same, upStart hp hq, by show 1 ≤ i + 1; omega⟩ ?_ ?_
    · rintro σ H' ⟨up, q, rfl, sm, hu, hup, hul⟩
      refine ⟨_, rfl, rfl, _, rfl, ?_⟩
      cases q with
      | none =>
        refine ifF (by decide) ?_
        refine ⟨_, rfl, u, _, rfl, .inl (.inl hu), fun r nr => ?_⟩
        rw [← List.map_reverse]
        have e : road fo.ps i = up.reverse := hup
        refine k r _ (sm.trans (smUpd nr)) ?_
        rw [e]
        exact upd_same
      | some p =>
        refine ifT (by rw [vp_ne]; rfl) ?_
        obtain ⟨hpi, _⟩ := id hup
        have hpl : p < fo.ps.length := Nat.lt_trans hpi hi
        obtain ⟨r, hr⟩ := ps_at hpl
        refine ⟨_, rfl, .inl ⟨rfl, _, .inl (.inl hu)⟩, _, rfl, u, _, _, rfl, rfl, hu, ?_, ?_⟩
        · rw [List.length_map]; exact small1000 (by omega)
        have nub : ∀ b o, H b = some o → b ≠ u := fun b o e z => by rw [z, nu] at e; cases e
        have sm2 : Same H (upd H' u (.lst (up.map vn ++ [vp (some p)]))) := fun b o e => by rw [upd_ne (nub b o e)]; exact sm b o e
        refine ⟨_, rfl, a, C, dx, _, _, rfl, sm2 _ _ h0, B.T.cl, B.T.nP, fP, _, rfl, ap, _, (p : Int), _, rfl, rfl, tpL (sm2 _ _ h1), vp_ix hr, ?_⟩
        refine ⟨⟨up ++ [p], r, rfl, sm2, ?_, upNext hp hup hr, ?_⟩, ?_⟩
        · rw [upd_same, List.map_append]; rfl
        · have e := road_len hp i hi
          obtain ⟨_, e2⟩ := hup
          have := List.length_pos_iff.mpr (road_ne hp hpl)
          rw [e2, List.length_append, List.length_reverse] at e
          rw [List.length_append, List.length_singleton]
          omega
        · cases r with
          | none => show 0 < (p : Int).toNat + 1; omega
          | some r =>
            have := hp p r hr
            show (r : Int).toNat + 1 < (p : Int).toNat + 1
            omega
    · rintro σ H' Q1 Q2 hq12 ⟨v, hv, e, kk, hk, qq⟩
      exact ⟨v, hv, e, kk, hk, hq12 _ _ qq⟩
end
end Cn
namespace Cn
open PySem PySem.Spec PyProof.Rows L2 Ck
/-! data of whole numbers -/
def dn (ns : List Nat) : List PyData := ns.map fun n => PyData.int ((n : Nat) : Int)
theorem dpN {K : PySem.W.Frag} {H : Hp} : ∀ ns : List Nat, DpAll K H (ns.map vn) (dn ns)
  | [] => .nil
  | n :: ns => .cons (.int _) (dpN ns)
theorem dnLay : ∀ ns : List Nat, PyData.canLayAll0 (dn ns) = true
  | [] => rfl
  | n :: ns => by
    show (PyData.canLay0 (.int _) && PyData.canLayAll0 (dn ns)) = true
    rw [dnLay ns]; rfl
theorem dnDepth : ∀ ns : List Nat, PyData.depthAll (dn ns) = 0
  | [] => rfl
  | n :: ns => by
    show max (PyData.depth (.int _)) (PyData.depthAll (dn ns)) = 0
    rw [dnDepth ns]; rfl
theorem dnShL (ns : List Nat) : SeqAt.shaped (.list (dn ns)) = true := by
  show (PyData.canLayAll0 (dn ns) && decide (PyData.depthAll (dn ns) + 1 ≤ 64)) = true
  rw [dnLay, dnDepth]; rfl
theorem dnShT (ns : List Nat) : SeqAt.shaped (.tuple (dn ns)) = true := by
  show (PyData.canLayAll0 (dn ns) && decide (PyData.depthAll (dn ns) + 1 ≤ 64)) = true
  rw [dnLay, dnDepth]; rfl
theorem dnEqL (ns : List Nat) : PyData.eqv (.list (dn ns)) (.list (dn ns)) = true := SeqAt.eqv_refl (.list (dn ns)) (dnLay ns)
theorem dnEqT (ns : List Nat) : PyData.eqv (.tuple (dn ns)) (.tuple (dn ns)) = true := SeqAt.eqv_refl (.tuple (dn ns)) (dnLay ns)
/-- what is sorted and has just the numbers below n, each once -/
theorem sortedRange {ns : List Nat} {n : Nat} {zs : List Int} (nd : ns.Nodup) (hm : ∀ x, x ∈ ns ↔ x < n) (hp : zs.Perm (ns.map fun k => ((k : Nat) : Int))) (hs : zs.Pairwise (· ≤ ·)) : zs = (List.range n).map fun k => ((k : Nat) : Int) := by
  have h1 : ns.Perm (List.range n) := (List.perm_ext_iff_of_nodup nd List.nodup_range).mpr fun x => by rw [hm, List.mem_range]
  refine List.Perm.eq_of_pairwise (le := (· ≤ ·)) (fun a b _ _ p q => Int.le_antisymm p q) hs ?_ (hp.trans (h1.map _))
  rw [List.pairwise_map]
  exact List.pairwise_lt_range.imp fun h => by omega
theorem rgN (n : Nat) : rgV 0 (n : Int) = (List.range n).map vn := by
  unfold rgV
  rw [Int.sub_zero, Int.toNat_natCast]
  refine List.map_congr_left fun i _ => ?_
  show V.int (0 + (i : Int)) = V.int (i : Int)
  rw [Int.zero_add]
theorem mapIV (ns : List Nat) : (ns.map fun k => ((k : Nat) : Int)).map V.int = ns.map vn := by rw [List.map_map]; rfl
/-- cuts: all places, each once -/
structure CutsOk (n : Nat) (cs : List Nat) : Prop where
  len : cs.length = n
  nd : cs.Nodup
  mem : ∀ x, x ∈ cs ↔ x < n
section
variable {P : Program} {w : World} {K : PySem.W.Frag} {mg : Str → Option Value} {base : Heap} {C : Addr}
theorem dInt (B : Defs K mg C) : Def P w K mg base "is_integer" 1 ["thing"] spIsInt := def_of B.I fun f fd F => ok_isInt F B.N
end
end Cn

namespace Cn
open PySem PySem.Spec PyProof.Rows L2 Ck
section
variable {P : Program} {w : World} {K : PySem.W.Frag} {mg : Str → Option Value} {base : Heap} {C : Addr}
/-! is_plan -/
def spIsPlan (C : Addr) : Sp := fun vs H Q _ => ∃ (a b : Addr) (f : Fo) (lv : List Nat), vs = [.ref a, .ref b] ∧ FoAt C H a f ∧ TN H b lv ∧ Ps f.ps ∧ Lv f.ps lv ∧ ∀ H', Same H H' → Q (.bl true) H'
def nIsPlan : List Str := ["forest", "thing", "place", "parent", "most"]
theorem scIsPlan : FnScope nIsPlan ["forest", "thing"] (defScope sIsPlan) := ⟨rfl, rfl, rfl, by decide +kernel, rfl, by decide +kernel, by decide +kernel⟩
theorem dIsPlan (B : Defs K mg C) : Def P w K mg base "is_plan" 3 ["forest", "thing"] (spIsPlan C) := by
  obtain ⟨fB, fdB, GB, gB, kB, bB⟩ := dBtw (P := P) (w := w) (base := base) B
  have N := B.N
  have T := B.T
  refine def_of B.pl fun f fd F => ?_
  refine F.ok scIsPlan (fun vs H Q E h => ?_) (fun cdv A outer s H vs Q E hr h => ?_)
  · obtain ⟨a, b, f, lv, rfl, _⟩ := h
    rfl
  · obtain ⟨a, b, fo, lv, rfl, ⟨dx, ap, ab, aa, h0, h1, h2, h3⟩, hb, hp, hv, k⟩ := h
    refine ⟨_, pss_cons (ps_if (PW.pt (pw_or (pt_not (pt_val (pe_callB call_isi (by rfl) N.is.inst (by decide +kernel) (pa_cons (pv 1) (pa_cons (pe_bltn (v := .ty "tuple") (by rfl) N.is.tup (by decide +kernel) rfl) pa_nil)))))
          (pw_or1 (pt_cmpR op_ne (pe_callB call_len_seq (by rfl) N.is.len PySem.boot_len (pa_cons (pv 1) pa_nil)) (pe_callB call_len_seq (by rfl) N.is.len PySem.boot_len (pa_cons (pe_fld (pv 0) rfl) pa_nil)) (nomark _))))) (pss_one ps_never) pss_nil)
      (pss_cons (ps_for PassesOwn.never rfl (pi_enumT (by rfl) N.enum (pa_cons (pe_fld (pv 0) rfl) pa_nil)) (pg_tup rfl (pgs_cons (pg_name (i := 2) scIsPlan.nd rfl (Or.inl rfl)) (pgs_cons (pg_name (i := 3) scIsPlan.nd rfl (Or.inl rfl)) pgs_nil)))
        (pss_cons (ps_set (i := 4) scIsPlan.nd rfl (Or.inl rfl) (pe_ifExp (pt_cmpR op_isN (pv 3) pe_non (nomark _)) pe_int (pe_op op_add (pe_ix ix_tup (pv 1) (pv 3) (fun _ _ => rfl)) pe_int)))
        (pss_one (ps_if (pt_not (pt_val (pe_call GB hr (by rfl) gB kB bB .nil pass0 (pa_cons (pe_ix ix_tup (pv 1) (pv 2) (fun _ _ => rfl)) (pa_cons pe_int (pa_cons (pv 4) pa_nil)))))) (pss_one ps_never) pss_nil))))
      (pss_one (ps_ret pe_bl))), ?_⟩
    refine ⟨_, rfl, _, .ty "tuple", _, _, true, rfl, .ty _, tupTy hb, kit_ty (by decide +kernel), true, rfl, ?_⟩
    refine ifF (by decide) ?_
    refine ⟨_, rfl, b, _, rfl, .inr (tnL hb), _, rfl, a, C, dx, _, _, rfl, h0, T.cl, T.nP, fP, ap, _, rfl, .inr (tpL h1), rfl, _, rfl, ?_⟩
    refine ifF (by rw [List.length_map, List.length_map, hv.1, decide_eq_true rfl]; decide) ?_
    refine ⟨_, rfl, a, C, dx, _, _, rfl, h0, T.cl, T.nP, fP, ap, _, rfl, tpL h1, ?_⟩
    refine for_it (walk_enumT (xs := fo.ps.map vp)) (fun _ σ H' => Same H H' ∧ ∃ t2 t3 t4, σ = [some (.ref a), some (.ref b), t2, t3, t4]) ⟨Same.refl _, _, _, _, rfl⟩ (fun i σ H' _ z => tpL (z.1 _ _ h1)) ?_ ?_
    · rintro i x σ H' H2 hi ⟨sm, t2, t3, t4, rfl⟩ ⟨T1, x1, y1, rfl, nT, rfl, e1, e2⟩
      cases e1
      obtain ⟨q, hq, rfl⟩ := vp_get (i := i) e2
      refine ⟨T1, _, rfl, .inl (.inl upd_same), rfl, _, _, rfl, _, _, rfl, rfl, ?_⟩
      have sm2 := sm.trans (smUpd (o := .tup [.int (i : Nat), vp q]) nT)
      generalize upd H' T1 (.tup [.int (i : Nat), vp q]) = H2 at sm2 ⊢
      have hb2 := sm2 _ _ hb
      have hil : i < lv.length := by rw [hv.1]; exact (List.getElem?_eq_some_iff.mp hq).1
      have hl := getD_at hil
      have hlv := hv.2 i _ q hl hq
      refine ⟨_, rfl, rfl, _, rfl, ?_⟩
      cases q with
      | none =>
        refine ifT (by decide) ?_
        refine ⟨_, rfl, _, rfl, b, _, (i : Int), _, rfl, rfl, tnL hb2, vn_ix hl, _, rfl, _, _, _, rfl, _, rfl, ?_⟩
        have e : mostLv lv none = 1 := rfl
        refine ifF (by rw [decide_eq_true (by omega)]; decide) ?_
        exact ⟨sm2, _, _, _, rfl⟩
      | some p =>
        refine ifF (by rw [vp_ne]; decide) ?_
        have hpl : p < lv.length := Nat.lt_trans (hp i p hq) hil
        refine ⟨_, rfl, _, rfl, b, _, (p : Int), _, rfl, rfl, tnL hb2, vn_ix (getD_at hpl), _, _, rfl, rfl, ?_⟩
        refine ⟨_, rfl, _, rfl, b, _, (i : Int), _, rfl, rfl, tnL hb2, vn_ix hl, _, rfl, _, _, _, rfl, _, rfl, ?_⟩
        have e : mostLv lv (some p) = lv.getD p 0 + 1 := rfl
        refine ifF (by rw [decide_eq_true (by omega)]; decide) ?_
        exact ⟨sm2, _, _, _, rfl⟩
    · rintro σ H' ⟨sm, _⟩
      exact k _ sm
end
end Cn
namespace Cn
open PySem PySem.Spec PyProof.Rows L2 Ck
theorem smOver {H1 H4 : Hp} {D : Addr} {o : HO} (nD : H1 D = none) (sm : Same H1 H4) : Same H1 (upd H4 D o) := fun b u e => by
  have nb : b ≠ D := fun z => by rw [z, nD] at e; cases e
  rw [upd_ne nb]
  exact sm b u e
end Cn
namespace Cn
open PySem PySem.Spec PyProof.Rows L2 Ck
def dPar (ps : List (Option Nat)) : List PyData := ps.map fun q => match q with | none => PyData.none | some n => PyData.int ((n : Nat) : Int)
theorem dpPar {K : PySem.W.Frag} {H : Hp} : ∀ ps : List (Option Nat), DpAll K H (ps.map vp) (dPar ps)
  | [] => .nil
  | none :: ps => .cons .non (dpPar ps)
  | some n :: ps => .cons (.int _) (dpPar ps)
theorem dParLay : ∀ ps : List (Option Nat), PyData.canLayAll0 (dPar ps) = true
  | [] => rfl
  | none :: ps => by
    show (PyData.canLay0 .none && PyData.canLayAll0 (dPar ps)) = true
    rw [dParLay ps]; rfl
  | some n :: ps => by
    show (PyData.canLay0 (.int _) && PyData.canLayAll0 (dPar ps)) = true
    rw [dParLay ps]; rfl
theorem dParDepth : ∀ ps : List (Option Nat), PyData.depthAll (dPar ps) = 0
  | [] => rfl
  | none :: ps => by
    show max (PyData.depth .none) (PyData.depthAll (dPar ps)) = 0
    rw [dParDepth ps]; rfl
  | some n :: ps => by
    show max (PyData.depth (.int _)) (PyData.depthAll (dPar ps)) = 0
    rw [dParDepth ps]; rfl
theorem dParSh (ps : List (Option Nat)) : SeqAt.shaped (.tuple (dPar ps)) = true := by
  show (PyData.canLayAll0 (dPar ps) && decide (PyData.depthAll (dPar ps) + 1 ≤ 64)) = true
  rw [dParLay, dParDepth]; rfl
theorem dParEq : ∀ {ps qs : List (Option Nat)}, PyData.eqvAll (dPar ps) (dPar qs) = true → ps = qs
  | [], [], _ => rfl
  | [], q :: qs, h => by cases q <;> simp [dPar, PyData.eqvAll] at h
  | p :: ps, [], h => by cases p <;> simp [dPar, PyData.eqvAll] at h
  | none :: ps, none :: qs, h => by
    have h2 : PyData.eqvAll (dPar ps) (dPar qs) = true := by
      have h1 : PyData.eqvAll (PyData.none :: dPar ps) (PyData.none :: dPar qs) = true := h
      simp only [PyData.eqvAll, Bool.and_eq_true] at h1
      exact h1.2
    rw [dParEq h2]
  | some p :: ps, some q :: qs, h => by
    have h1 : PyData.eqvAll (PyData.int ((p : Nat) : Int) :: dPar ps) (PyData.int ((q : Nat) : Int) :: dPar qs) = true := h
    simp only [PyData.eqvAll, PyData.eqv, Bool.and_eq_true, beq_iff_eq] at h1
    rw [dParEq h1.2, show p = q from by omega]
  | none :: ps, some q :: qs, h => by
    have h1 : PyData.eqvAll (PyData.none :: dPar ps) (PyData.int ((q : Nat) : Int) :: dPar qs) = true := h
    simp [PyData.eqvAll, PyData.eqv] at h1
  | some p :: ps, none :: qs, h => by
    have h1 : PyData.eqvAll (PyData.int ((p : Nat) : Int) :: dPar ps) (PyData.none :: dPar qs) = true := h
    simp [PyData.eqvAll, PyData.eqv] at h1
theorem dParEqT {ps qs : List (Option Nat)} (h : PyData.eqv (.tuple (dPar ps)) (.tuple (dPar qs)) = true) : ps = qs := dParEq (by simpa only [PyData.eqv] using h)
end Cn
namespace Cn
open PySem PySem.Spec PyProof.Rows L2 Ck
def rLenQ (K : PySem.W.Frag) : List V → Hp → VK → Prop := fun xs H Q => ∃ p ys, xs = [.ref p] ∧ (SqL K H p ys ∨ SqT K H p ys) ∧ Q (.int ys.length) H
theorem len_q {X : Cx} : CallR X (.builtin "len") (rLenQ X.K) := call_len_seq
/-- either a list or a tuple, in slot i -/
def iSeq (K : PySem.W.Frag) (i : Nat) : TI := fun σ H R => iList K (tVar i) σ H R ∨ iTup K (tVar i) σ H R
theorem lenZero {n : Nat} : decide (V.int (n : Int) = V.int 0) = decide (n = 0) := by
  rw [Bool.eq_iff_iff, decide_eq_true_iff, decide_eq_true_iff]
  exact ⟨fun z => by have := V.int.inj z; omega, fun z => by rw [z]; rfl⟩
end Cn
namespace Cn
open PySem PySem.Spec PyProof.Rows L2 Ck
/-- a list of tuples of numbers -/
def Rows (H : Hp) (g : Nat → List Nat) (n : Nat) (us : List V) : Prop := us.length = n ∧ ∀ i, i < n → ∃ t, us[i]? = some (.ref t) ∧ TN H t (g i)
theorem rows0 {H : Hp} {g : Nat → List Nat} : Rows H g 0 [] := ⟨rfl, fun i h => absurd h (Nat.not_lt_zero _)⟩
theorem rowsSame {H H' : Hp} {g : Nat → List Nat} {n : Nat} {us : List V} (s : Same H H') (h : Rows H g n us) : Rows H' g n us := ⟨h.1, fun i hi => by
  obtain ⟨t, e, ht⟩ := h.2 i hi
  exact ⟨t, e, s _ _ ht⟩⟩
theorem rowsAdd {H : Hp} {g : Nat → List Nat} {n : Nat} {us : List V} {t : Addr} (h : Rows H g n us) (ht : TN H t (g n)) : Rows H g (n + 1) (us ++ [.ref t]) := by
  refine ⟨by rw [List.length_append, h.1]; rfl, fun i hi => ?_⟩
  by_cases e : i < n
  · obtain ⟨t', e', ht'⟩ := h.2 i e
    exact ⟨t', by rw [List.getElem?_append_left (by rw [h.1]; exact e)]; exact e', ht'⟩
  · have : i = n := by omega
    subst this
    exact ⟨t, by rw [List.getElem?_append_right (by rw [h.1]; exact Nat.le_refl _), h.1, Nat.sub_self]; rfl, ht⟩
/-- what is written at D, elsewhere nothing -/
theorem rowsUpd {H0 H' : Hp} {g : Nat → List Nat} {n : Nat} {us : List V} {D : Addr} {o : HO} {xs : List V} (h : Rows H' g n us) (hD : H' D = some (.lst xs)) : Rows (upd H' D o) g n us := ⟨h.1, fun i hi => by
  obtain ⟨t, e, ht⟩ := h.2 i hi
  have ne : t ≠ D := fun z => by
    have ht : H' t = _ := ht
    rw [z, hD] at ht; cases ht
  refine ⟨t, e, ?_⟩
  show upd H' D o t = _
  rw [upd_ne ne]; exact ht⟩
theorem lvLe {ps : List (Option Nat)} {lv : List Nat} (hp : Ps ps) (hv : Lv ps lv) : ∀ i, i < ps.length → lv.getD i 0 ≤ i + 1 := by
  intro i
  induction i using Nat.strongRecOn with
  | ind i ih =>
    intro hi
    have hil : i < lv.length := by rw [hv.1]; exact hi
    rcases opt_cases hi with h | ⟨p, h⟩
    · have h2 := hv.2 i _ _ (getD_at hil) h
      have e : mostLv lv none = 1 := rfl
      omega
    · have h2 := hv.2 i _ _ (getD_at hil) h
      have e : mostLv lv (some p) = lv.getD p 0 + 1 := rfl
      have hl := hp i p h
      have := ih p hl (Nat.lt_trans hl hi)
      omega
theorem stkLe {ps : List (Option Nat)} {lv : List Nat} {i : Nat} (hp : Ps ps) (hv : Lv ps lv) (hl : ps.length ≤ 60) (hi : i < ps.length) : (stk ps lv i).length ≤ 60 := by
  rw [stk_len hp hv i hi]
  have := lvLe hp hv i hi
  omega
theorem tnAt {H : Hp} {a : Addr} {xs : List V} {ns : List Nat} (h : H a = some (.tup xs)) (e : xs = ns.map vn) : TN H a ns := by
  show H a = some (.tup (ns.map vn))
  rw [← e]; exact h
end Cn
namespace Cn
open PySem PySem.Spec PyProof.Rows L2 Ck
/-! a note, notes as the heap has them -/
def NoteR (H : Hp) (v : V) (p : List Nat × List Nat) : Prop := ∃ t x y, v = .ref t ∧ H t = some (.tup [.ref x, .ref y]) ∧ TN H x p.1 ∧ TN H y p.2
theorem noteSame {H H' : Hp} (s : Same H H') {v : V} {p : List Nat × List Nat} (h : NoteR H v p) : NoteR H' v p := by
  obtain ⟨t, x, y, e, h1, h2, h3⟩ := h
  exact ⟨t, x, y, e, s _ _ h1, s _ _ h2, s _ _ h3⟩
def NotesR (H : Hp) (us : List V) (ps : List (List Nat × List Nat)) : Prop := Paired (NoteR H) us ps
theorem notesSame {H H' : Hp} (s : Same H H') {us : List V} {ps : List (List Nat × List Nat)} (h : NotesR H us ps) : NotesR H' us ps := Paired.mapP h fun _ _ z => noteSame s z
theorem notesUpd {H' : Hp} {D : Addr} {o : HO} {xs us : List V} {ps : List (List Nat × List Nat)} (hD : H' D = some (.lst xs)) (h : NotesR H' us ps) : NotesR (upd H' D o) us ps := Paired.mapP h fun v p z => by
  obtain ⟨t, x, y, e, h1, h2, h3⟩ := z
  have ne : ∀ {a : Addr} {ys : List V}, H' a = some (.tup ys) → upd H' D o a = some (.tup ys) := fun {a ys} e2 => by
    have q : a ≠ D := fun z => by rw [z, hD] at e2; cases e2
    rw [upd_ne q]; exact e2
  exact ⟨t, x, y, e, ne h1, ne h2, ne h3⟩
theorem paired_snoc {α β : Type} {F : α → β → Prop} : ∀ {xs : List α} {ys : List β} {x : α} {y : β}, Paired F xs ys → F x y → Paired F (xs ++ [x]) (ys ++ [y])
  | _, _, _, _, .nil, h => .cons h .nil
  | _, _, _, _, .cons a t, h => .cons a (paired_snoc t h)
end Cn
namespace Cn
open PySem PySem.Spec PyProof.Rows L2 Ck
theorem slS {K : PySem.W.Frag} {H : Hp} {a : Addr} {xs : List V} {lo hi : Option Int} {Q : VK} (ha : SqT K H a xs) (k : ∀ b H', Same H H' → SqT K H' b (cutV xs lo hi) → Q (.ref b) H') : rSlA K (.ref a) lo hi H Q :=
  ⟨a, xs, rfl, ha, fun h => k a H (Same.refl _) (by rw [cutWhole h]; exact ha), fun _ p np => k p _ (smUpd np) (.inl (.inl upd_same))⟩
theorem slSN {K : PySem.W.Frag} {σ : L2.St} {H : Hp} {a : Addr} {xs : List V} {lo : Option Int} {Q : VK} (ha : SqT K H a xs) (k : ∀ b H', Same H H' → SqT K H' b (cutV xs lo none) → Q (.ref b) H') : tNoPart σ H (fun u H3 => rSlA K (.ref a) lo u H3 Q) := slS (hi := none) ha k
theorem cutInit (xs : List V) : cutV xs none (some (-1)) = xs.dropLast := by
  unfold cutV
  rw [HT.sIx_none]
  show (xs.drop 0).take (HT.sIx xs.length xs.length (some (-1)) - 0) = xs.dropLast
  have e : HT.sIx xs.length xs.length (some (-1)) = xs.length - 1 := by
    show (if (-1 : Int) < 0 then ((-1 : Int) + (xs.length : Int)).toNat else min (-1 : Int).toNat xs.length) = xs.length - 1
    rw [if_pos (by decide)]
    omega
  rw [e, List.drop_zero, Nat.sub_zero, List.dropLast_eq_take]
/-! the notes of a plan -/
def heldAt (ps : List (Option Nat)) (lv : List Nat) (i : Nat) : List Nat :=
  match (stk ps lv i).dropLast.getLast? with
  | none => road ps i
  | some x => (road ps i).drop ((road ps i).idxOf x + 1)
def noteAt (ps : List (Option Nat)) (be as lv : List Nat) (i : Nat) : List Nat × List Nat :=
  ((heldAt ps lv i).filter fun x => decide (x ∈ be), as.filter fun j => decide (i ∈ stk ps lv j))
def notesOf (ps : List (Option Nat)) (be as lv : List Nat) (n : Nat) : List (List Nat × List Nat) :=
  ((List.range n).map (noteAt ps be as lv)).filter fun p => !p.1.isEmpty && !p.2.isEmpty
theorem takeLe {α : Type} (xs : List α) (m : Nat) : (xs.take m).length ≤ xs.length := by rw [List.length_take]; omega
theorem heldLen {f : Fo} {lv : List Nat} {i : Nat} (ok : FoOk f) (hi : i < f.ps.length) : (heldAt f.ps lv i).length ≤ 1000 := by
  have h1 := road_len ok.ps i hi
  have h2 := ok.l1
  unfold heldAt
  split
  · omega
  · rw [List.length_drop]; omega
theorem lastDrop {xs : List Nat} (h : xs ≠ []) : xs.getLast? = some (xs.getLast h) := List.getLast?_eq_some_getLast h
end Cn
namespace Cn
open PySem PySem.Spec PyProof.Rows L2 Ck
theorem pairedGet {α β : Type} {F : α → β → Prop} : ∀ {xs : List α} {ys : List β} {i : Nat} {x : α}, Paired F xs ys → xs[i]? = some x → ∃ y, ys[i]? = some y ∧ F x y
  | _, _, i, x, .nil, h => by rw [List.getElem?_nil] at h; cases h
  | _, _, 0, x, .cons a t, h => by cases h; exact ⟨_, rfl, a⟩
  | _, _, i + 1, x, .cons a t, h => by
    rw [List.getElem?_cons_succ] at h
    obtain ⟨y, h1, h2⟩ := pairedGet t h
    exact ⟨y, by rw [List.getElem?_cons_succ]; exact h1, h2⟩
def kept2 (p : List Nat × List Nat) : Bool := !p.1.isEmpty && !p.2.isEmpty
theorem vnEmpty (ns : List Nat) : (ns.map vn).isEmpty = ns.isEmpty := by cases ns <;> rfl
theorem noteUpdN {H' : Hp} {D : Addr} {o : HO} (hD : ∀ ys, H' D ≠ some (.tup ys)) {v : V} {p : List Nat × List Nat} (h : NoteR H' v p) : NoteR (upd H' D o) v p := by
  obtain ⟨t, x, y, e, h1, h2, h3⟩ := h
  have ne : ∀ {a : Addr} {ys : List V}, H' a = some (.tup ys) → upd H' D o a = some (.tup ys) := fun {a ys} e2 => by
    have q : a ≠ D := fun z => hD ys (by rw [← z]; exact e2)
    rw [upd_ne q]
    exact e2
  exact ⟨t, x, y, e, ne h1, ne h2, ne h3⟩
end Cn
namespace Cn
open PySem PySem.Spec PyProof.Rows L2 Ck
section
variable {P : Program} {w : World} {K : PySem.W.Frag} {mg : Str → Option Value} {base : Heap} {C : Addr}
def spStacks (C : Addr) : Sp := fun vs H Q _ => ∃ (a b : Addr) (f : Fo) (lv : List Nat), vs = [.ref a, .ref b] ∧ FoAt C H a f ∧ TN H b lv ∧ Ps f.ps ∧ f.ps.length ≤ 60 ∧ Lv f.ps lv ∧
  ∀ r us H', Same H H' → H' r = some (.lst us) → Rows H' (stk f.ps lv) f.ps.length us → Q (.ref r) H'
def nStacks : List Str := ["forest", "plan", "found", "place", "parent", "above"]
theorem scStacks : FnScope nStacks ["forest", "plan"] (defScope sStacks) := ⟨rfl, rfl, rfl, by decide +kernel, rfl, by decide +kernel, by decide +kernel⟩
theorem dStacks (B : Defs K mg C) : Def P w K mg base "_stacks" 1 ["forest", "plan"] (spStacks C) := by
  have N := B.N
  have T := B.T
  refine def_of B.ss fun f fd F => ?_
  refine F.ok scStacks (fun vs H Q E h => ?_) (fun cdv A outer s H vs Q E hr h => ?_)
  · obtain ⟨a, b, f, lv, rfl, _⟩ := h
    rfl
  · obtain ⟨a, b, fo, lv, rfl, hF, hb, hp, hl, hv, k⟩ := h
    refine ⟨_, pss_cons (ps_set (i := 2) scStacks.nd rfl (Or.inl rfl) (pe_lst pa_nil))
      (pss_cons (ps_for PassesOwn.never rfl (pi_enumT (by rfl) N.enum (pa_cons (pe_fld (pv 0) rfl) pa_nil)) (pg_tup rfl (pgs_cons (pg_name (i := 3) scStacks.nd rfl (Or.inl rfl)) (pgs_cons (pg_name (i := 4) scStacks.nd rfl (Or.inl rfl)) pgs_nil)))
        (pss_cons (ps_set (i := 5) scStacks.nd rfl (Or.inl rfl) (pe_ifExp (pt_cmpR op_isN (pv 4) pe_non (nomark _)) (pe_tup pa_nil) (pe_ix ix_list (pv 2) (pv 4) (fun _ _ => rfl))))
        (pss_one (ps_expr (pe_bm PySem.F.plainAttrs_list PySem.F.slot_list_append PySem.F.type_list_append mt_append (pv 2) (pa_cons (pe_op op_catA (pe_slice sl_tupA (pv 5) po_none (po_some (pe_op op_sub (pe_ix ix_tup (pv 1) (pv 3) (fun _ _ => rfl)) pe_int))) (pe_tup (pa_cons (pv 3) pa_nil))) pa_nil))))))
      (pss_one (ps_ret (pv 2)))), ?_⟩
    refine ⟨by show 0 ≤ sizeLine; decide, fun D nD => ?_⟩
    have S1 := smUpd (o := .lst []) nD
    obtain ⟨dx, ap, ab, aa, h0, h1, h2, h3⟩ := hF
    refine ⟨_, rfl, a, C, dx, _, _, rfl, S1 _ _ h0, T.cl, T.nP, fP, ap, _, rfl, tpL (S1 _ _ h1), ?_⟩
    refine for_it (walk_enumT (xs := fo.ps.map vp)) (fun i σ H' => Same H H' ∧ ∃ (us : List V) (t3 t4 t5 : Option V), σ = [some (.ref a), some (.ref b), some (.ref D), t3, t4, t5] ∧ H' D = some (.lst us) ∧ Rows H' (stk fo.ps lv) i us) ⟨S1, [], _, _, _, rfl, upd_same, rows0⟩ (fun i σ H' _ z => tpL (z.1 _ _ h1)) ?_ ?_
    · rintro i x σ H' H2 hi ⟨sm, us, t3, t4, t5, rfl, hD, hR⟩ ⟨T1, x1, y1, rfl, nT, rfl, e1, e2⟩
      cases e1
      obtain ⟨q, hq, rfl⟩ := vp_get (i := i) e2
      rw [List.length_map] at hi
      refine ⟨T1, _, rfl, .inl (.inl upd_same), rfl, _, _, rfl, _, _, rfl, rfl, ?_⟩
      have S2 := smUpd (o := .tup [.int (i : Nat), vp q]) nT
      have sm2 := sm.trans S2
      have hD2 := S2 _ _ hD
      have hR2 := rowsSame S2 hR
      generalize upd H' T1 (.tup [.int (i : Nat), vp q]) = H2 at sm2 hD2 hR2 ⊢
      have hil : i < lv.length := by rw [hv.1]; exact hi
      have hlv := hv.2 i _ q (getD_at hil) hq
      refine ⟨_, rfl, rfl, _, rfl, ?_⟩
      cases q with
      | none =>
        refine ifT (by decide) ?_
        refine ⟨by show 0 ≤ sizeLine; decide, fun t nt => ?_⟩
        have s3 := smUpd (o := .tup []) nt
        have ht : TN (upd H2 t (.tup [])) t [] := upd_same
        generalize upd H2 t (.tup []) = H3 at s3 ht ⊢
        have hz : ([] : List Nat).take (lv.getD i 0 - 1) ++ [i] = stk fo.ps lv i := by rw [stk_none hq, List.take_nil]; rfl
        have hzl : ([] : List Nat).length ≤ 60 := Nat.zero_le _
        have hD3 := s3 _ _ hD2
        have hb3 : TN H3 b lv := s3 _ _ (sm2 _ _ hb)
        refine ⟨_, rfl, .inl ⟨rfl, _, .inl (.inl hD3)⟩, _, rfl, _, rfl, _, rfl, b, _, (i : Int), _, rfl, rfl, tnL hb3, vn_ix (getD_at hil), _, _, rfl, rfl, _, rfl, ?_⟩
        refine slA ht fun c H4 s4 hc => ?_
        have e1 : ((lv.getD i 0 : Nat) : Int) - 1 = ((lv.getD i 0 - 1 : Nat) : Int) := by omega
        rw [e1, cutTake] at hc
        refine ⟨_, rfl, by show 1 ≤ sizeLine; decide, fun t2 n2 => ?_⟩
        have S5 := smUpd (o := .tup [vn i]) n2
        refine catA (S5 _ _ hc) upd_same (by rw [List.length_take, List.length_map]; show min _ _ + 1 ≤ 1000; omega) fun e H6 s6 he => ?_
        have s26 := s3.trans (s4.trans (S5.trans s6))
        have hD6 := s26 _ _ hD2
        refine ⟨D, us, _, rfl, rfl, hD6, by rw [hR2.1]; exact small1000 (by omega), ?_⟩
        have he2 : TN H6 e (stk fo.ps lv i) := tnAt he (by rw [← hz, List.map_append, List.map_take]; rfl)
        exact ⟨smOver nD (sm2.trans s26), _, _, _, _, rfl, upd_same, rowsUpd (H0 := H) (rowsAdd (rowsSame s26 hR2) he2) hD6⟩
      | some p =>
        refine ifF (by rw [vp_ne]; decide) ?_
        obtain ⟨t, hut, ht⟩ := hR2.2 p (hp i p hq)
        have s3 := Same.refl H2
        refine ⟨_, rfl, _, rfl, D, us, (p : Int), _, rfl, rfl, .inl (.inl hD2), atI_nat hut, ?_⟩
        have hz : (stk fo.ps lv p).take (lv.getD i 0 - 1) ++ [i] = stk fo.ps lv i := (stk_some hp hq).symm
        have hpl : p < fo.ps.length := Nat.lt_trans (hp i p hq) hi
        have hzl : (stk fo.ps lv p).length ≤ 60 := stkLe hp hv hl hpl
        have hD3 := s3 _ _ hD2
        have hb3 : TN H2 b lv := s3 _ _ (sm2 _ _ hb)
        refine ⟨_, rfl, .inl ⟨rfl, _, .inl (.inl hD3)⟩, _, rfl, _, rfl, _, rfl, b, _, (i : Int), _, rfl, rfl, tnL hb3, vn_ix (getD_at hil), _, _, rfl, rfl, _, rfl, ?_⟩
        refine slA ht fun c H4 s4 hc => ?_
        have e1 : ((lv.getD i 0 : Nat) : Int) - 1 = ((lv.getD i 0 - 1 : Nat) : Int) := by omega
        rw [e1, cutTake] at hc
        refine ⟨_, rfl, by show 1 ≤ sizeLine; decide, fun t2 n2 => ?_⟩
        have S5 := smUpd (o := .tup [vn i]) n2
        refine catA (S5 _ _ hc) upd_same (by rw [List.length_take, List.length_map]; show min _ _ + 1 ≤ 1000; omega) fun e H6 s6 he => ?_
        have s26 := s3.trans (s4.trans (S5.trans s6))
        have hD6 := s26 _ _ hD2
        refine ⟨D, us, _, rfl, rfl, hD6, by rw [hR2.1]; exact small1000 (by omega), ?_⟩
        have he2 : TN H6 e (stk fo.ps lv i) := tnAt he (by rw [← hz, List.map_append, List.map_take]; rfl)
        exact ⟨smOver nD (sm2.trans s26), _, _, _, _, rfl, upd_same, rowsUpd (H0 := H) (rowsAdd (rowsSame s26 hR2) he2) hD6⟩
    · rintro σ H' ⟨sm, us, t3, t4, t5, rfl, hD, hR⟩
      rw [List.length_map] at hR
      exact ⟨_, rfl, k D us H' sm hD hR⟩
end
end Cn
namespace Cn
open PySem PySem.Spec PyProof.Rows L2 Ck
section
variable {P : Program} {w : World} {K : PySem.W.Frag} {mg : Str → Option Value} {base : Heap} {C : Addr}
/-! _note_at -/
def spNoteAt (C : Addr) : Sp := fun vs H Q _ => ∃ (a r : Addr) (f : Fo) (lv : List Nat) (us : List V) (i : Nat), vs = [.ref a, .ref r, vn i] ∧ FoAt C H a f ∧ FoOk f ∧ Lv f.ps lv ∧ H r = some (.lst us) ∧ Rows H (stk f.ps lv) f.ps.length us ∧ i < f.ps.length ∧
  ∀ v H', Same H H' → NoteR H' v (noteAt f.ps f.be f.as lv i) → Q v H'
def nNoteAt : List Str := ["forest", "found", "place", "held", "ahead", "places", "asks", "i", "j"]
theorem scNoteAt : FnScope nNoteAt ["forest", "found", "place"] (defScope sNoteAt) := ⟨rfl, rfl, rfl, by decide +kernel, rfl, by decide +kernel, by decide +kernel⟩
theorem dNoteAt (B : Defs K mg C) : Def P w K mg base "_note_at" 5 ["forest", "found", "place"] (spNoteAt C) := by
  obtain ⟨fW, fdW, GW, gW, kW, bW⟩ := dWay (P := P) (w := w) (base := base) B
  have N := B.N
  have T := B.T
  refine def_of B.na fun f fd F => ?_
  refine F.ok scNoteAt (fun vs H Q E h => ?_) (fun cdv A outer s H vs Q E hr h => ?_)
  · obtain ⟨a, r, f, lv, us, i, rfl, _⟩ := h
    rfl
  · obtain ⟨a, r, fo, lv, us, i, rfl, hF, ok, hv, hr0, hR, hi, k⟩ := h
    refine ⟨_, pss_cons (ps_set (i := 3) scNoteAt.nd rfl (Or.inl rfl) (pe_call GW hr (by rfl) gW kW bW .nil pass0 (pa_cons (pv 0) (pa_cons (pv 2) pa_nil))))
      (pss_cons (ps_set (i := 4) scNoteAt.nd rfl (Or.inl rfl) (pe_slice sl_tupA (pe_ix ix_list (pv 1) (pv 2) (fun _ _ => rfl)) po_none (po_some (pe_un un_neg pe_int))))
      (pss_cons (ps_if (pt_truth (pv 4) (by intro _; rfl)) (pss_one (ps_set (i := 3) scNoteAt.nd rfl (Or.inl rfl) (pe_slice sl_tupA (pv 3) (po_some (pe_op op_add (pe_bt PySem.F.slot_tuple_index PySem.F.type_tuple_index mt_tidx (pv 3) (pa_cons (pe_ix ix_tup (pv 4) (pe_un un_neg pe_int) (fun _ _ => rfl)) pa_nil)) pe_int)) po_none))) pss_nil)
      (pss_cons (ps_set (i := 5) scNoteAt.nd rfl (Or.inl rfl) (pe_callTy call_tuple_of (by rfl) N.is.tup (by decide +kernel) (pa_cons (pe_lc (own := [("i", 7)]) (g := gName 7) (tt := tTest (tOp (rIn K false) (tVar 7) (tFld K (tVar 0) "bearing"))) rfl scNoteAt.nd (pi_tup (pv 3))
        (blkOk_by (N := nNoteAt) (sc := defScope sNoteAt) (by decide +kernel)) (fun _ _ _ _ _ => pg_name (i := 7) scNoteAt.nd rfl (Or.inl rfl)) (fun _ _ _ _ _ => pts_one (pt_cmpR op_in_seq (pv 7) (pe_fld (pv 0) rfl) (by rfl))) (fun _ _ _ _ _ => pv 7)) pa_nil)))
      (pss_cons (ps_set (i := 6) scNoteAt.nd rfl (Or.inl rfl) (pe_callTy call_tuple_of (by rfl) N.is.tup (by decide +kernel) (pa_cons (pe_lc (own := [("j", 8)]) (g := gName 8) (tt := tTest (tOp (rIn K false) (tVar 2) (tOp (rIxL K) (tVar 1) (tVar 8)))) rfl scNoteAt.nd (pi_tup (pe_fld (pv 0) rfl))
        (blkOk_by (N := nNoteAt) (sc := defScope sNoteAt) (by decide +kernel)) (fun _ _ _ _ _ => pg_name (i := 8) scNoteAt.nd rfl (Or.inl rfl)) (fun _ _ _ _ _ => pts_one (pt_cmpR op_in_seq (pv 2) (pe_ix (r := rIxL K) ix_list (pv 1) (pv 8) (fun _ _ => rfl)) (by rfl))) (fun _ _ _ _ _ => pv 8)) pa_nil)))
      (pss_one (ps_ret (pe_tup (pa_cons (pv 5) (pa_cons (pv 6) pa_nil))))))))), ?_⟩
    refine ⟨_, rfl, _, rfl, a, fo, i, rfl, hF, ok.ps, ok.l1, hi, fun h H1 s1 hh => ?_⟩
    obtain ⟨t, hut, ht⟩ := (rowsSame s1 hR).2 i hi
    refine ⟨_, rfl, _, rfl, r, us, (i : Int), _, rfl, rfl, .inl (.inl (s1 _ _ hr0)), atI_nat hut, _, rfl, _, rfl, ?_⟩
    refine slS (tnL ht) fun b2 H2 s2 hc => ?_
    have hc : SqT K H2 b2 ((stk fo.ps lv i).dropLast.map vn) := by rw [List.map_dropLast, ← cutInit]; exact hc
    refine ⟨_, rfl, _, .inr (.inl ⟨_, hc, rfl⟩), ?_⟩
    have hh2 : TDn H2 h (road fo.ps i) := tdSame s2 hh
    by_cases hne : (stk fo.ps lv i).dropLast = []
    · refine ifF (by rw [hne]; decide) ?_
      have hheld : heldAt fo.ps lv i = road fo.ps i := by unfold heldAt; rw [hne]; rfl
      have hq : SqT K H2 h ((heldAt fo.ps lv i).map vn) := by rw [hheld]; exact tdL hh2
      have S := s1.trans s2
      refine ⟨_, rfl, h, rfl, ⟨_, hq⟩, fun D nD => ?_⟩
      refine lc_tup (xs := (heldAt fo.ps lv i).map vn) (fun m H' => Same H2 H' ∧ H' D = some (.lst ((((heldAt fo.ps lv i).take m).filter fun x => decide (x ∈ fo.be)).map vn))) ⟨smUpd nD, upd_same⟩ (fun m H' _ z => sameT z.1 hq) ?_ ?_
      · rintro m x H' hx ⟨sm, hD⟩
        obtain ⟨n, hn, rfl⟩ := vn_get hx
        obtain ⟨dx, ap, ab, aa, h0, h1, h2, h3⟩ := foAt_same (S.trans sm) hF
        refine ⟨rfl, _, rfl, _, rfl, a, C, dx, _, _, rfl, h0, T.cl, T.nB, fB, ab, _, rfl, .inr (tnL h2), rfl, vn_flat _, _, rfl, ?_⟩
        have et : (heldAt fo.ps lv i).take (m + 1) = (heldAt fo.ps lv i).take m ++ [n] := by rw [List.take_add_one, hn]; rfl
        by_cases c : n ∈ fo.be
        · refine ifT (by show inV (vn n) (fo.be.map vn) = true; rw [inV_vn]; exact decide_eq_true c) ?_
          refine ⟨_, rfl, _, hD, small1000 (by rw [List.length_map]; exact Nat.le_trans (List.length_filter_le _ _) (Nat.le_trans (takeLe _ _) (heldLen ok hi))), smOver nD sm, ?_⟩
          rw [upd_same, et, List.filter_append, List.map_append, List.filter_cons_of_pos (by simpa using c)]
          rfl
        · refine ifF (by show ¬ inV (vn n) (fo.be.map vn) = true; rw [inV_vn]; simpa using c) ?_
          refine ⟨sm, ?_⟩
          rw [et, List.filter_append, List.filter_cons_of_neg (by simpa using c)]
          show _ = some (HO.lst ((_ ++ []).map vn))
          rw [List.append_nil]
          exact hD
      · rintro H5 ⟨sm5, hD5⟩
        rw [List.length_map, List.take_length] at hD5
        refine ⟨D, _, rfl, .inl ⟨.inl (.inl hD5), fun q nq => ?_⟩⟩
        have S6 := (S.trans sm5).trans (smUpd (o := .tup (((heldAt fo.ps lv i).filter fun x => decide (x ∈ fo.be)).map vn)) nq)
        have hq6 : TN (upd H5 q (.tup (((heldAt fo.ps lv i).filter fun x => decide (x ∈ fo.be)).map vn))) q (noteAt fo.ps fo.be fo.as lv i).1 := upd_same
        generalize upd H5 q (.tup (((heldAt fo.ps lv i).filter fun x => decide (x ∈ fo.be)).map vn)) = H6 at S6 hq6 ⊢
        obtain ⟨dx, ap, ab, aa, h0, h1, h2, h3⟩ := foAt_same S6 hF
        refine ⟨_, rfl, a, C, dx, _, _, rfl, h0, T.cl, T.nA, fA, aa, rfl, ⟨_, tnL h3⟩, fun D2 nD2 => ?_⟩
        refine lc_tup (xs := fo.as.map vn) (fun m H' => Same H6 H' ∧ H' D2 = some (.lst (((fo.as.take m).filter fun j => decide (i ∈ stk fo.ps lv j)).map vn))) ⟨smUpd nD2, upd_same⟩ (fun m H' _ z => tnL (z.1 _ _ h3)) ?_ ?_
        · rintro m x H' hx ⟨sm, hD⟩
          obtain ⟨n, hn, rfl⟩ := vn_get hx
          have hnl := ok.al n (List.mem_of_getElem? hn)
          obtain ⟨t, hut, ht⟩ := (rowsSame (S6.trans sm) hR).2 n hnl
          refine ⟨rfl, _, rfl, _, rfl, _, rfl, r, us, (n : Int), _, rfl, rfl, .inl (.inl ((S6.trans sm) _ _ hr0)), atI_nat hut, t, _, rfl, .inr (tnL ht), rfl, vn_flat _, _, rfl, ?_⟩
          have et : fo.as.take (m + 1) = fo.as.take m ++ [n] := by rw [List.take_add_one, hn]; rfl
          by_cases c : i ∈ stk fo.ps lv n
          · refine ifT (by show inV (vn i) ((stk fo.ps lv n).map vn) = true; rw [inV_vn]; exact decide_eq_true c) ?_
            refine ⟨_, rfl, _, hD, small1000 (by rw [List.length_map]; exact Nat.le_trans (List.length_filter_le _ _) (Nat.le_trans (takeLe _ _) (by have := lotLen ok.as ok.al; have := ok.l1; omega))), smOver nD2 sm, ?_⟩
            rw [upd_same, et, List.filter_append, List.map_append, List.filter_cons_of_pos (by simpa using c)]
            rfl
          · refine ifF (by show ¬ inV (vn i) ((stk fo.ps lv n).map vn) = true; rw [inV_vn]; simpa using c) ?_
            refine ⟨sm, ?_⟩
            rw [et, List.filter_append, List.filter_cons_of_neg (by simpa using c)]
            show _ = some (HO.lst ((_ ++ []).map vn))
            rw [List.append_nil]
            exact hD
        · rintro H7 ⟨sm7, hD7⟩
          rw [List.length_map, List.take_length] at hD7
          refine ⟨D2, _, rfl, .inl ⟨.inl (.inl hD7), fun q2 nq2 => ?_⟩⟩
          have S8 := smUpd (o := .tup ((fo.as.filter fun j => decide (i ∈ stk fo.ps lv j)).map vn)) nq2
          refine ⟨_, rfl, _, rfl, by show 2 ≤ sizeLine; decide, fun t nt => ?_⟩
          have S9 := smUpd (o := .tup [.ref q, .ref q2]) nt
          exact k _ _ ((S6.trans sm7).trans (S8.trans S9)) ⟨t, q, q2, rfl, upd_same, S9 _ _ (S8 _ _ (sm7 _ _ hq6)), S9 _ _ upd_same⟩
    · have hem : ((stk fo.ps lv i).dropLast.map vn).isEmpty = false := by
        cases hz : (stk fo.ps lv i).dropLast with
        | nil => exact absurd hz hne
        | cons _ _ => rfl
      refine ifT (by rw [hem]; rfl) ?_
      have hx : (stk fo.ps lv i).dropLast.getLast hne ∈ road fo.ps i := stk_sub ok.ps i hi _ (List.dropLast_subset _ (List.getLast_mem hne))
      have hheld : heldAt fo.ps lv i = (road fo.ps i).drop ((road fo.ps i).idxOf ((stk fo.ps lv i).dropLast.getLast hne) + 1) := by unfold heldAt; rw [lastDrop hne]
      generalize hxx : (stk fo.ps lv i).dropLast.getLast hne = x at hx hheld
      obtain ⟨i1, i2⟩ := vn_idx hx
      refine ⟨_, rfl, _, rfl, ⟨h, _, rfl, hh2⟩, _, rfl, _, rfl, b2, _, (-1 : Int), _, rfl, rfl, hc, vn_last hne hxx, h, _, _, (road fo.ps i).idxOf x, _, rfl, rfl, tdL hh2, rfl, vn_flat _, i1, by rw [vn_inj]; exact decide_eq_true rfl, i2, _, _, rfl, rfl, _, rfl, ?_⟩
      refine slSN (tdL hh2) fun hb0 H4 s4 hq => ?_
      have e1 : (((road fo.ps i).idxOf x : Nat) : Int) + 1 = (((road fo.ps i).idxOf x + 1 : Nat) : Int) := by omega
      have hq : SqT K H4 hb0 ((heldAt fo.ps lv i).map vn) := by
        rw [hheld, List.map_drop, ← cutDrop, ← e1]
        exact hq
      have S := (s1.trans s2).trans s4
      refine ⟨_, rfl, hb0, rfl, ⟨_, hq⟩, fun D nD => ?_⟩
      refine lc_tup (xs := (heldAt fo.ps lv i).map vn) (fun m H' => Same H4 H' ∧ H' D = some (.lst ((((heldAt fo.ps lv i).take m).filter fun x => decide (x ∈ fo.be)).map vn))) ⟨smUpd nD, upd_same⟩ (fun m H' _ z => sameT z.1 hq) ?_ ?_
      · rintro m x H' hx ⟨sm, hD⟩
        obtain ⟨n, hn, rfl⟩ := vn_get hx
        obtain ⟨dx, ap, ab, aa, h0, h1, h2, h3⟩ := foAt_same (S.trans sm) hF
        refine ⟨rfl, _, rfl, _, rfl, a, C, dx, _, _, rfl, h0, T.cl, T.nB, fB, ab, _, rfl, .inr (tnL h2), rfl, vn_flat _, _, rfl, ?_⟩
        have et : (heldAt fo.ps lv i).take (m + 1) = (heldAt fo.ps lv i).take m ++ [n] := by rw [List.take_add_one, hn]; rfl
        by_cases c : n ∈ fo.be
        · refine ifT (by show inV (vn n) (fo.be.map vn) = true; rw [inV_vn]; exact decide_eq_true c) ?_
          refine ⟨_, rfl, _, hD, small1000 (by rw [List.length_map]; exact Nat.le_trans (List.length_filter_le _ _) (Nat.le_trans (takeLe _ _) (heldLen ok hi))), smOver nD sm, ?_⟩
          rw [upd_same, et, List.filter_append, List.map_append, List.filter_cons_of_pos (by simpa using c)]
          rfl
        · refine ifF (by show ¬ inV (vn n) (fo.be.map vn) = true; rw [inV_vn]; simpa using c) ?_
          refine ⟨sm, ?_⟩
          rw [et, List.filter_append, List.filter_cons_of_neg (by simpa using c)]
          show _ = some (HO.lst ((_ ++ []).map vn))
          rw [List.append_nil]
          exact hD
      · rintro H5 ⟨sm5, hD5⟩
        rw [List.length_map, List.take_length] at hD5
        refine ⟨D, _, rfl, .inl ⟨.inl (.inl hD5), fun q nq => ?_⟩⟩
        have S6 := (S.trans sm5).trans (smUpd (o := .tup (((heldAt fo.ps lv i).filter fun x => decide (x ∈ fo.be)).map vn)) nq)
        have hq6 : TN (upd H5 q (.tup (((heldAt fo.ps lv i).filter fun x => decide (x ∈ fo.be)).map vn))) q (noteAt fo.ps fo.be fo.as lv i).1 := upd_same
        generalize upd H5 q (.tup (((heldAt fo.ps lv i).filter fun x => decide (x ∈ fo.be)).map vn)) = H6 at S6 hq6 ⊢
        obtain ⟨dx, ap, ab, aa, h0, h1, h2, h3⟩ := foAt_same S6 hF
        refine ⟨_, rfl, a, C, dx, _, _, rfl, h0, T.cl, T.nA, fA, aa, rfl, ⟨_, tnL h3⟩, fun D2 nD2 => ?_⟩
        refine lc_tup (xs := fo.as.map vn) (fun m H' => Same H6 H' ∧ H' D2 = some (.lst (((fo.as.take m).filter fun j => decide (i ∈ stk fo.ps lv j)).map vn))) ⟨smUpd nD2, upd_same⟩ (fun m H' _ z => tnL (z.1 _ _ h3)) ?_ ?_
        · rintro m x H' hx ⟨sm, hD⟩
          obtain ⟨n, hn, rfl⟩ := vn_get hx
          have hnl := ok.al n (List.mem_of_getElem? hn)
          obtain ⟨t, hut, ht⟩ := (rowsSame (S6.trans sm) hR).2 n hnl
          refine ⟨rfl, _, rfl, _, rfl, _, rfl, r, us, (n : Int), _, rfl, rfl, .inl (.inl ((S6.trans sm) _ _ hr0)), atI_nat hut, t, _, rfl, .inr (tnL ht), rfl, vn_flat _, _, rfl, ?_⟩
          have et : fo.as.take (m + 1) = fo.as.take m ++ [n] := by rw [List.take_add_one, hn]; rfl
          by_cases c : i ∈ stk fo.ps lv n
          · refine ifT (by show inV (vn i) ((stk fo.ps lv n).map vn) = true; rw [inV_vn]; exact decide_eq_true c) ?_
            refine ⟨_, rfl, _, hD, small1000 (by rw [List.length_map]; exact Nat.le_trans (List.length_filter_le _ _) (Nat.le_trans (takeLe _ _) (by have := lotLen ok.as ok.al; have := ok.l1; omega))), smOver nD2 sm, ?_⟩
            rw [upd_same, et, List.filter_append, List.map_append, List.filter_cons_of_pos (by simpa using c)]
            rfl
          · refine ifF (by show ¬ inV (vn i) ((stk fo.ps lv n).map vn) = true; rw [inV_vn]; simpa using c) ?_
            refine ⟨sm, ?_⟩
            rw [et, List.filter_append, List.filter_cons_of_neg (by simpa using c)]
            show _ = some (HO.lst ((_ ++ []).map vn))
            rw [List.append_nil]
            exact hD
        · rintro H7 ⟨sm7, hD7⟩
          rw [List.length_map, List.take_length] at hD7
          refine ⟨D2, _, rfl, .inl ⟨.inl (.inl hD7), fun q2 nq2 => ?_⟩⟩
          have S8 := smUpd (o := .tup ((fo.as.filter fun j => decide (i ∈ stk fo.ps lv j)).map vn)) nq2
          refine ⟨_, rfl, _, rfl, by show 2 ≤ sizeLine; decide, fun t nt => ?_⟩
          have S9 := smUpd (o := .tup [.ref q, .ref q2]) nt
          exact k _ _ ((S6.trans sm7).trans (S8.trans S9)) ⟨t, q, q2, rfl, upd_same, S9 _ _ (S8 _ _ (sm7 _ _ hq6)), S9 _ _ upd_same⟩
end
end Cn
namespace Cn
open PySem PySem.Spec PyProof.Rows L2 Ck
theorem rowsUpdN {H' : Hp} {D : Addr} {o : HO} (hD : ∀ ys, H' D ≠ some (.tup ys)) {g : Nat → List Nat} {n : Nat} {us : List V} (h : Rows H' g n us) : Rows (upd H' D o) g n us := by
  refine ⟨h.1, fun i hi => ?_⟩
  obtain ⟨t, h1, h2⟩ := h.2 i hi
  refine ⟨t, h1, ?_⟩
  have q : t ≠ D := fun z => hD _ (by rw [← z]; exact h2)
  show upd H' D o t = _
  rw [upd_ne q]
  exact h2
/-- the notes by the places at which they are, as the dict of them holds them -/
def heldNotes (ps : List (Option Nat)) (be as lv : List Nat) (n : Nat) : List (Nat × (List Nat × List Nat)) := ((List.range n).map fun s => (s, noteAt ps be as lv s)).filter fun e => kept2 e.2
theorem heldNotes_snd {ps : List (Option Nat)} {be as lv : List Nat} {n : Nat} : (heldNotes ps be as lv n).map (·.2) = notesOf ps be as lv n := by
  unfold heldNotes notesOf
  generalize List.range n = xs
  induction xs with
  | nil => rfl
  | cons x xs ih =>
    rw [List.map_cons, List.map_cons, List.filter_cons, List.filter_cons]
    by_cases c : kept2 (noteAt ps be as lv x) = true
    · rw [if_pos c, if_pos (show (!(noteAt ps be as lv x).1.isEmpty && !(noteAt ps be as lv x).2.isEmpty) = true from c), List.map_cons, ih]
    · rw [if_neg c, if_neg (show ¬ (!(noteAt ps be as lv x).1.isEmpty && !(noteAt ps be as lv x).2.isEmpty) = true from c), ih]
theorem heldNotes_succ {ps : List (Option Nat)} {be as lv : List Nat} {n : Nat} : heldNotes ps be as lv (n + 1) = heldNotes ps be as lv n ++ if kept2 (noteAt ps be as lv n) = true then [(n, noteAt ps be as lv n)] else [] := by
  unfold heldNotes
  rw [List.range_succ, List.map_append, List.filter_append]
  show _ ++ List.filter _ [(n, noteAt ps be as lv n)] = _
  rw [List.filter_cons]
  rfl
theorem heldNotes_len {ps : List (Option Nat)} {be as lv : List Nat} {n : Nat} : (heldNotes ps be as lv n).length ≤ n := by
  unfold heldNotes
  refine Nat.le_trans (List.length_filter_le _ _) ?_
  rw [List.length_map, List.length_range]
  exact Nat.le_refl _
theorem heldNotes_lt {ps : List (Option Nat)} {be as lv : List Nat} {n : Nat} {e : Nat × (List Nat × List Nat)} (h : e ∈ heldNotes ps be as lv n) : e.1 < n := by
  obtain ⟨h1, _⟩ := List.mem_filter.mp h
  obtain ⟨s, h2, rfl⟩ := List.mem_map.mp h1
  exact List.mem_range.mp h2
def ByPlace (H : Hp) (kvs : List (L2.Key × V)) (l : List (Nat × (List Nat × List Nat))) : Prop := Paired (fun kv e => kv.1 = (Sum.inl ((e.1 : Nat) : Int) : L2.Key) ∧ NoteR H kv.2 e.2) kvs l
theorem byPlaceSame {H H' : Hp} {kvs : List (L2.Key × V)} {l : List (Nat × (List Nat × List Nat))} (s : Same H H') (h : ByPlace H kvs l) : ByPlace H' kvs l := Paired.mapP h fun _ _ z => ⟨z.1, noteSame s z.2⟩
theorem byPlaceUpd {H' : Hp} {D : Addr} {o : HO} (hD : ∀ ys, H' D ≠ some (.tup ys)) {kvs : List (L2.Key × V)} {l : List (Nat × (List Nat × List Nat))} (h : ByPlace H' kvs l) : ByPlace (upd H' D o) kvs l := Paired.mapP h fun _ _ z => ⟨z.1, noteUpdN hD z.2⟩
theorem byPlaceAbs {H : Hp} {k : Nat} : ∀ {kvs : List (L2.Key × V)} {l : List (Nat × (List Nat × List Nat))}, ByPlace H kvs l → (∀ e ∈ l, e.1 ≠ k) → valV kvs (Sum.inl ((k : Nat) : Int) : L2.Key) = none
  | _, _, .nil, _ => rfl
  | _, _, .cons a t, h => by
    rw [valV_neg (by rw [a.1]; intro z; exact h _ List.mem_cons_self (Int.ofNat.inj (Sum.inl.inj z)))]
    exact byPlaceAbs t fun e he => h e (List.mem_cons_of_mem _ he)
theorem byPlaceGet {H : Hp} : ∀ {kvs : List (L2.Key × V)} {l : List (Nat × (List Nat × List Nat))} {i : Nat} {k : L2.Key} {v : V}, ByPlace H kvs l → (l.map (·.1)).Nodup → kvs[i]? = some (k, v) → valV kvs k = some v
  | _, _, i, k, v, .nil, _, h => by rw [List.getElem?_nil] at h; cases h
  | _, _, 0, k, v, .cons a t, _, h => by cases h; rw [valV_pos rfl]
  | _, _, i + 1, k, v, .cons (a := a0) (b := b0) a t, nd, h => by
    rw [List.getElem?_cons_succ] at h
    rw [List.map_cons, List.nodup_cons] at nd
    have ht := byPlaceGet t nd.2 h
    obtain ⟨y, hy, hk, _⟩ := pairedGet t h
    rw [valV_neg (by
      rw [a.1]
      intro z
      have z2 : (Sum.inl ((b0.1 : Nat) : Int) : L2.Key) = Sum.inl ((y.1 : Nat) : Int) := z.trans hk
      have z3 : b0.1 = y.1 := Int.ofNat.inj (Sum.inl.inj z2)
      exact nd.1 (by rw [z3]; exact List.mem_map_of_mem (List.mem_of_getElem? hy)))]
    exact ht
theorem heldNotes_nodup {ps : List (Option Nat)} {be as lv : List Nat} {n : Nat} : ((heldNotes ps be as lv n).map (·.1)).Nodup := by
  induction n with
  | zero => exact List.nodup_nil
  | succ n ih =>
    rw [heldNotes_succ]
    split
    · rw [List.map_append, List.nodup_append]
      refine ⟨ih, List.nodup_cons.mpr ⟨fun z => (by cases z), List.nodup_nil⟩, ?_⟩
      rintro x hx y hy rfl
      obtain ⟨e, he, rfl⟩ := List.mem_map.mp hx
      have := heldNotes_lt he
      have hy2 : e.1 = n := by simpa using hy
      omega
    · rw [List.append_nil]; exact ih
theorem byPlaceVals {H : Hp} : ∀ {kvs : List (L2.Key × V)} {l : List (Nat × (List Nat × List Nat))}, ByPlace H kvs l → NotesR H (kvs.map (·.2)) (l.map (·.2))
  | _, _, .nil => .nil
  | _, _, .cons a t => .cons a.2 (byPlaceVals t)
section
variable {P : Program} {w : World} {K : PySem.W.Frag} {mg : Str → Option Value} {base : Heap} {C : Addr}
def spByPlace (C : Addr) : Sp := fun vs H Q _ => ∃ (a b : Addr) (f : Fo) (lv : List Nat), vs = [.ref a, .ref b] ∧ FoAt C H a f ∧ TN H b lv ∧ FoOk f ∧ Lv f.ps lv ∧
  ∀ D kvs H', Same H H' → H D = none → H' D = some (.dK kvs) → ByPlace H' kvs (heldNotes f.ps f.be f.as lv f.ps.length) → Q (.ref D) H'
def nByPlace : List Str := ["forest", "plan", "found", "held", "s", "places", "asks"]
theorem scByPlace : FnScope nByPlace ["forest", "plan"] (defScope sByPlace) := ⟨rfl, rfl, rfl, by decide +kernel, rfl, by decide +kernel, by decide +kernel⟩
theorem dByPlace (B : Defs K mg C) : Def P w K mg base "notes_by_place" 6 ["forest", "plan"] (spByPlace C) := by
  obtain ⟨fS, fdS, GS, gS, kS, bS⟩ := dStacks (P := P) (w := w) (base := base) B
  obtain ⟨fN, fdN, GN, gN, kN, bN⟩ := dNoteAt (P := P) (w := w) (base := base) B
  have N := B.N
  have nd := scByPlace.nd
  refine def_of B.nbp fun f fd F => ?_
  refine F.ok scByPlace (fun vs H Q E h => ?_) (fun cdv A outer s H vs Q E hr h => ?_)
  · obtain ⟨a, b, f, lv, rfl, _⟩ := h
    rfl
  · obtain ⟨a, b, fo, lv, rfl, hF, hb, ok, hv, k⟩ := h
    have hu : (A.deeper (envOfC "notes_by_place" (defScope sByPlace) s.heap.objs.size f cdv)).units + 1 < cLine := by have := hr.units; omega
    have hr1 : Room 1 (A.deeper (envOfC "notes_by_place" (defScope sByPlace) s.heap.objs.size f cdv)) := Room.mono hr (by decide)
    refine ⟨_, pss_cons (ps_set (i := 2) nd rfl (Or.inl rfl) (pe_call GS hr1 (by rfl) gS kS bS .nil pass0 (pa_cons (pv 0) (pa_cons (pv 1) pa_nil))))
      (pss_cons (ps_set (i := 3) nd rfl (Or.inl rfl) pe_dnewK)
      (pss_cons (ps_for PassesOwn.never rfl (pi_range1 (by rfl) N.range (pa_cons (pe_callB call_len_seq (by rfl) N.is.len PySem.boot_len (pa_cons (pv 1) pa_nil)) pa_nil)) (pg_name (i := 4) nd rfl (Or.inl rfl))
        (pss_cons (ps_asg (pe_call GN hr (by rfl) gN kN bN .nil pass0 (pa_cons (pv 0) (pa_cons (pv 2) (pa_cons (pv 4) pa_nil)))) (pg_tup rfl (pgs_cons (pg_name (i := 5) nd rfl (Or.inl rfl)) (pgs_cons (pg_name (i := 6) nd rfl (Or.inl rfl)) pgs_nil))))
        (pss_one (ps_if (PW.pt (pw_and (pt_truth (pv 5) (by intro _; rfl)) (pw_and1 (pt_truth (pv 6) (by intro _; rfl)))))
          (pss_one (ps_dput hu (pv 3) (pv 4) (pe_tup (pa_cons (pv 5) (pa_cons (pv 6) pa_nil))) rfl)) pss_nil))))
      (pss_one (ps_ret (pv 3))))), ?_⟩
    have l60 := ok.l1
    refine ⟨_, rfl, _, rfl, a, b, fo, lv, rfl, hF, hb, ok.ps, l60, hv, fun r us H1 s1 hr2 hR => ?_⟩
    intro D nD
    have S2 := smUpd (o := .dK []) nD
    have hD0 : H D = none := by
      cases e : H D with
      | none => rfl
      | some o => rw [s1 _ _ e] at nD; cases nD
    have hb2 : TN (upd H1 D (.dK [])) b lv := S2 _ _ (s1 _ _ hb)
    have hF2 := foAt_same (s1.trans S2) hF
    have hr3 := S2 _ _ hr2
    have hR2 := rowsSame S2 hR
    have hD2 : upd H1 D (.dK []) D = some (.dK []) := upd_same
    have SS := s1.trans S2
    generalize upd H1 D (.dK []) = H2 at hb2 hF2 hr3 hR2 hD2 SS ⊢
    refine ⟨_, rfl, b, _, rfl, .inr (tnL hb2), ((lv.map vn).length : Int), rfl, by omega, by rw [List.length_map, hv.1]; omega, ?_⟩
    rw [List.length_map, hv.1, Int.toNat_natCast]
    refine for_range (lo := 0) (n := fo.ps.length) (fun i σ H' => Same H H' ∧ FoAt C H' a fo ∧ TN H' b lv ∧ H' r = some (.lst us) ∧ Rows H' (stk fo.ps lv) fo.ps.length us ∧ (∃ kvs, H' D = some (.dK kvs) ∧ ByPlace H' kvs (heldNotes fo.ps fo.be fo.as lv i)) ∧ ∃ t4 t5 t6 : Option V, σ = [some (.ref a), some (.ref b), some (.ref r), some (.ref D), t4, t5, t6])
      ⟨SS, hF2, hb2, hr3, hR2, ⟨[], hD2, .nil⟩, none, none, none, rfl⟩ ?_ ?_
    · rintro i σ H3 hi ⟨s3, hF3, hb3, hr4, hR3, ⟨kvs, hD3, hK⟩, t4, t5, t6, rfl⟩
      rw [Int.zero_add]
      refine ⟨_, rfl, _, rfl, _, rfl, a, r, fo, lv, us, i, rfl, hF3, ok, hv, hr4, hR3, hi, fun v H4 s4 hv4 => ?_⟩
      obtain ⟨t, x1, y1, rfl, ht, hx1, hy1⟩ := hv4
      have hD4 := s4 _ _ hD3
      have S4 := s3.trans s4
      have hK4 := byPlaceSame s4 hK
      refine ⟨t, _, rfl, .inl (.inl ht), rfl, _, _, rfl, _, _, rfl, rfl, ?_⟩
      refine ⟨_, rfl, _, .inr (.inl ⟨_, tnL hx1, rfl⟩), ?_⟩
      rw [vnEmpty]
      have hno : kept2 (noteAt fo.ps fo.be fo.as lv i) = false → ByPlace H4 kvs (heldNotes fo.ps fo.be fo.as lv (i + 1)) := fun c => by
        rw [heldNotes_succ, c, if_neg Bool.false_ne_true, List.append_nil]
        exact hK4
      cases e1 : (noteAt fo.ps fo.be fo.as lv i).1.isEmpty with
      | true =>
        refine ifF (by decide) ?_
        refine ifF (by decide) ?_
        exact ⟨S4, foAt_same s4 hF3, s4 _ _ hb3, s4 _ _ hr4, rowsSame s4 hR3, ⟨kvs, hD4, hno (by unfold kept2; rw [e1]; rfl)⟩, _, _, _, rfl⟩
      | false =>
        refine ifT (by decide) ?_
        refine ⟨_, rfl, _, .inr (.inl ⟨_, tnL hy1, rfl⟩), ?_⟩
        rw [vnEmpty]
        cases e2 : (noteAt fo.ps fo.be fo.as lv i).2.isEmpty with
        | true =>
          refine ifF (by decide) ?_
          exact ⟨S4, foAt_same s4 hF3, s4 _ _ hb3, s4 _ _ hr4, rowsSame s4 hR3, ⟨kvs, hD4, hno (by unfold kept2; rw [e1, e2]; rfl)⟩, _, _, _, rfl⟩
        | false =>
          refine ifT (by decide) ?_
          refine ⟨_, rfl, _, rfl, by show 2 ≤ sizeLine; decide, fun t2 n2 => ?_⟩
          have S5 := smUpd (o := .tup [.ref x1, .ref y1]) n2
          have hD5 := S5 _ _ hD4
          have hn5 : NoteR (upd H4 t2 (.tup [.ref x1, .ref y1])) (.ref t2) (noteAt fo.ps fo.be fo.as lv i) := ⟨t2, x1, y1, rfl, upd_same, S5 _ _ hx1, S5 _ _ hy1⟩
          have S45 := S4.trans S5
          have s45 := s4.trans S5
          have hK5 := byPlaceSame S5 hK4
          generalize upd H4 t2 (.tup [.ref x1, .ref y1]) = H5 at hD5 hn5 S45 s45 hK5 ⊢
          have hl : kvs.length ≤ i := by rw [Paired.length hK5]; exact heldNotes_len
          refine ⟨_, rfl, _, rfl, D, _, rfl, DPut.k (k := Sum.inl ((i : Nat) : Int)) hD5 (small1000 (by omega)), ?_⟩
          have hab : valV kvs (Sum.inl ((i : Nat) : Int) : L2.Key) = none := byPlaceAbs hK5 fun e he z => by
            have := heldNotes_lt he
            omega
          rw [putK_new _ hab]
          have nt : ∀ ys, H5 D ≠ some (.tup ys) := fun ys z => by rw [hD5] at z; cases z
          have So : Same H (upd H5 D (.dK (kvs ++ [(Sum.inl ((i : Nat) : Int), .ref t2)]))) := smOver hD0 S45
          have So2 : ∀ {a : Addr} {o : HO}, H3 a = some o → a ≠ D → upd H5 D (.dK (kvs ++ [(Sum.inl ((i : Nat) : Int), .ref t2)])) a = some o := fun {a o} h1 h2 => by
            rw [upd_ne h2]; exact s45 _ _ h1
          have bD : b ≠ D := fun z => by rw [z] at hb3; rw [show H3 D = _ from hb3] at hD3; cases hD3
          have rD : r ≠ D := fun z => by rw [z, hD3] at hr4; cases hr4
          refine ⟨So, foAt_same So hF, So2 hb3 bD, So2 hr4 rD, ?_, ⟨_, upd_same, ?_⟩, _, _, _, rfl⟩
          · exact rowsUpdN nt (rowsSame s45 hR3)
          · rw [heldNotes_succ, if_pos (by unfold kept2; rw [e1, e2]; rfl)]
            exact paired_snoc (byPlaceUpd nt hK5) ⟨rfl, noteUpdN nt hn5⟩
    · rintro σ H3 ⟨s3, hF3, hb3, hr4, hR3, ⟨kvs, hD3, hK⟩, t4, t5, t6, rfl⟩
      exact ⟨_, rfl, k D kvs H3 s3 hD0 hD3 hK⟩
end
end Cn
namespace Cn
open PySem PySem.Spec PyProof.Rows L2 Ck
theorem atMem {xs : List V} {d : Int} (h0 : 0 ≤ d) (h1 : d < (xs.length : Int)) : ∃ v, atI xs d = some v ∧ v ∈ xs := by
  obtain ⟨n, rfl⟩ := Int.eq_ofNat_of_zero_le h0
  have hn : n < xs.length := by omega
  exact ⟨xs[n], atI_nat (List.getElem?_eq_getElem hn), List.getElem_mem hn⟩
section
variable {P : Program} {w : World} {K : PySem.W.Frag} {mg : Str → Option Value} {base : Heap} {C : Addr}
theorem nOf (B : Defs K mg C) : NamT mg := B.N
theorem dHand (B : Defs K mg C) : Def P w K mg base "_law_pool" 1 ["_law_script"] (spHand K) := def_of B.ha fun f fd F => ok_hand F (nOf B).abs (nOf B).int
theorem dDraw (B : Defs K mg C) : Def P w K mg base "_law_draw" 1 ["_law_pool_here", "_law_many"] spDraw := def_of B.dr fun f fd F => ok_draw F (nOf B).int (nOf B).is.len
end
end Cn
namespace Cn
open PySem PySem.Spec PyProof.Rows L2 Ck
/-! alike, by the pool laws' own look: flat things, lists and tuples of such -/
def EqS (H : Hp) : Nat → V → V → Prop
  | 0 => fun x y => x = y ∧ flatV x = true
  | n + 1 => fun x y => EqS H n x y ∨ ∃ a b xs ys, x = .ref a ∧ y = .ref b ∧ ((H a = some (.lst xs) ∧ H b = some (.lst ys)) ∨ (H a = some (.tup xs) ∧ H b = some (.tup ys))) ∧ xs.length ≤ 4000 ∧ Paired (EqS H n) xs ys
theorem eqS_same {H H' : Hp} (s : Same H H') : ∀ {n : Nat} {x y : V}, EqS H n x y → EqS H' n x y
  | 0, _, _, h => h
  | _ + 1, _, _, h => by
    rcases h with h | ⟨a, b, xs, ys, e1, e2, h, hl, hp⟩
    · exact .inl (eqS_same s h)
    · exact .inr ⟨a, b, xs, ys, e1, e2, h.imp (fun z => ⟨s _ _ z.1, s _ _ z.2⟩) (fun z => ⟨s _ _ z.1, s _ _ z.2⟩), hl, Paired.mapP hp fun _ _ z => eqS_same s z⟩
theorem eqS_up {H : Hp} {n m : Nat} {x y : V} (h : EqS H n x y) (hm : n ≤ m) : EqS H m x y := by
  induction m with
  | zero =>
    have e : n = 0 := by omega
    rw [← e]; exact h
  | succ m ih =>
    by_cases e : n = m + 1
    · rw [← e]; exact h
    · exact .inl (ih (by omega))
theorem eqS_cases {H : Hp} : ∀ {n : Nat} {x y : V}, EqS H n x y → (x = y ∧ flatV x = true) ∨ ∃ m, n = m + 1 ∧ ∃ a b xs ys, x = .ref a ∧ y = .ref b ∧ ((H a = some (.lst xs) ∧ H b = some (.lst ys)) ∨ (H a = some (.tup xs) ∧ H b = some (.tup ys))) ∧ xs.length ≤ 4000 ∧ Paired (EqS H m) xs ys
  | 0, _, _, h => .inl h
  | n + 1, x, y, h => by
    rcases h with h | ⟨a, b, xs, ys, h⟩
    · rcases eqS_cases h with z | ⟨m, e, a, b, xs, ys, e1, e2, e3, e4, e5⟩
      · exact .inl z
      · exact .inr ⟨n, rfl, a, b, xs, ys, e1, e2, e3, e4, Paired.mapP e5 fun _ _ q => eqS_up q (by omega)⟩
    · exact .inr ⟨n, rfl, a, b, xs, ys, h⟩
theorem eqSInt {H : Hp} {i : Int} : EqS H 0 (.int i) (.int i) := ⟨rfl, rfl⟩
theorem eqSSelf {H : Hp} {xs : List V} (h : ∀ x ∈ xs, flatV x = true) : Paired (EqS H 0) xs xs := pairedSelf fun x hx => ⟨rfl, h x hx⟩
theorem eqSN {H : Hp} {a b : Addr} {ns : List Nat} (ha : TN H a ns) (hb : TN H b ns) (hl : ns.length ≤ 1000) : EqS H 1 (.ref a) (.ref b) :=
  .inr ⟨a, b, _, _, rfl, rfl, .inr ⟨ha, hb⟩, by rw [List.length_map]; exact Nat.le_trans hl (by decide), eqSSelf fun x hx => by
    obtain ⟨n, _, rfl⟩ := List.mem_map.mp hx
    rfl⟩
theorem eqSP {H : Hp} {a b : Addr} {ps : List (Option Nat)} (ha : TP H a ps) (hb : TP H b ps) (hl : ps.length ≤ 1000) : EqS H 1 (.ref a) (.ref b) :=
  .inr ⟨a, b, _, _, rfl, rfl, .inr ⟨ha, hb⟩, by rw [List.length_map]; exact Nat.le_trans hl (by decide), eqSSelf fun x hx => by
    obtain ⟨q, _, rfl⟩ := List.mem_map.mp hx
    cases q <;> rfl⟩
def spIsS (n : Nat) : Sp := fun vs H Q _ => ∃ (x y : V), vs = [x, y] ∧ EqS H n x y ∧ ∀ H', Same H H' → Q (.bl true) H'
def spJS : Nat → Sp
  | 0 => fun _ _ _ _ => False
  | n + 1 => spIsS n
theorem leafS {K : PySem.W.Frag} {H : Hp} {x : V} (h : flatV x = true) : ∃ T b, TyX K H x (.type T) ∧ PySem.W.kitAny K (.type T) [.type "tuple", .type "list"] = some false ∧ PySem.W.kitOne K (.type T) (.type "bool") = some b ∧ PySem.W.kitOne K (.type T) (.type "dict") = some false := by
  cases x with
  | non => exact ⟨"NoneType", false, .base .non, kit2 (by decide +kernel), kit_ty (by decide +kernel), kit_ty (by decide +kernel)⟩
  | bl b => exact ⟨"bool", true, .base (.bl b), kit2 (by decide +kernel), kit_ty (by decide +kernel), kit_ty (by decide +kernel)⟩
  | int i => exact ⟨"int", false, .base (.int i), kit2 (by decide +kernel), kit_ty (by decide +kernel), kit_ty (by decide +kernel)⟩
  | str z => exact ⟨"str", false, .base (.str z), kit2 (by decide +kernel), kit_ty (by decide +kernel), kit_ty (by decide +kernel)⟩
  | _ => cases h
theorem seqS {K : PySem.W.Frag} {H : Hp} {a : Addr} {xs : List V} {tu : Bool} (h : if tu = true then H a = some (.tup xs) else H a = some (.lst xs)) : ∃ T, TyX K H (.ref a) (.type T) ∧ PySem.W.kitAny K (.type T) [.type "tuple", .type "list"] = some true ∧ PySem.W.kitOne K (.type T) (.type "tuple") = some tu ∧ PySem.W.kitOne K (.type T) (.type "list") = some (!tu) := by
  cases tu with
  | true => exact ⟨"tuple", .base (.tup (by simpa using h)), kit2 (by decide +kernel), kit_ty (by decide +kernel), kit_ty (by decide +kernel)⟩
  | false => exact ⟨"list", .base (.lst (by simpa using h)), kit2 (by decide +kernel), kit_ty (by decide +kernel), kit_ty (by decide +kernel)⟩
def nIs : List Str := ["_law_told", "_law_due", "_law_at", "_law_key"]
theorem scIs : FnScope nIs ["_law_told", "_law_due"] (defScope sIs) := ⟨rfl, rfl, rfl, by decide +kernel, rfl, by decide +kernel, by decide +kernel⟩
section
variable {P : Program} {w : World} {K : PySem.W.Frag} {mg : Str → Option Value} {base : Heap} {C : Addr}
theorem ok_isS {f : Addr} {fd : FuncData} (F : Fun K "_law_is" "_law_is" sIs f fd) (T : IsTxt mg) (mR : mg "range" = none) (mD : mg "dict" = none) (g : mg "_law_is" = some (.ref f)) (bI : Binds K fd ["_law_told", "_law_due"] []) : ∀ n : Nat, FnOk P w K mg base CX0 (n + 2) f fd ["_law_told", "_law_due"] (spJS n) := by
  intro n
  induction n with
  | zero => exact ⟨fun _ _ _ _ z => z.elim, fun _ _ _ _ _ _ _ _ _ _ _ _ _ z => z.elim⟩
  | succ n ih =>
    have nd := scIs.nd
    refine F.ok scIs (fun vs H Q E h => ?_) (fun cdv A outer s H vs Q E hr h => ?_)
    · obtain ⟨x, y, rfl, _⟩ := h
      rfl
    · obtain ⟨x, y, rfl, hE, k⟩ := h
      refine ⟨_, pss_cons (ps_if (pt_val (pe_callB call_isiT (by rfl) T.inst (by decide +kernel) (pa_cons (pv 1) (pa_cons (pe_tup (pa_cons (pe_bltn (v := .ty "tuple") (by rfl) T.tup (by decide +kernel) rfl) (pa_cons (pe_bltn (v := .ty "list") (by rfl) T.lst (by decide +kernel) rfl) pa_nil))) pa_nil))))
          (pss_cons (ps_if (PW.pt (pw_or (pt_cmpR op_ne (pe_callB call_isi (by rfl) T.inst (by decide +kernel) (pa_cons (pv 0) (pa_cons (pe_bltn (v := .ty "tuple") (by rfl) T.tup (by decide +kernel) rfl) pa_nil))) (pe_callB call_isi (by rfl) T.inst (by decide +kernel) (pa_cons (pv 1) (pa_cons (pe_bltn (v := .ty "tuple") (by rfl) T.tup (by decide +kernel) rfl) pa_nil))) (nomark _))
              (pw_or1 (pt_cmpR op_ne (pe_callB call_isi (by rfl) T.inst (by decide +kernel) (pa_cons (pv 0) (pa_cons (pe_bltn (v := .ty "list") (by rfl) T.lst (by decide +kernel) rfl) pa_nil))) (pe_callB call_isi (by rfl) T.inst (by decide +kernel) (pa_cons (pv 1) (pa_cons (pe_bltn (v := .ty "list") (by rfl) T.lst (by decide +kernel) rfl) pa_nil))) (nomark _)))))
            (pss_one (ps_ret pe_bl)) pss_nil)
          (pss_one (ps_ret (pe_and (pe_cmpR op_eq (pe_callB call_len_seq (by rfl) T.len PySem.boot_len (pa_cons (pv 0) pa_nil)) (pe_callB call_len_seq (by rfl) T.len PySem.boot_len (pa_cons (pv 1) pa_nil)) (nomark _)) (pe_one
            (pe_callB (cr_all rfl) (by rfl) T.all (by decide +kernel) (pa_cons (pe_lc (own := [("_law_at", 2)]) (g := gName 2) (tt := tYes) (te := tCall (spJS n) [] (fun _ _ _ => False) (tCons (tOp (rIx K) (tVar 0) (tVar 2)) (tCons (tOp (rIx K) (tVar 1) (tVar 2)) tNil))) rfl nd (pi_range1 (by rfl) mR (pa_cons (pe_callB call_len_seq (by rfl) T.len PySem.boot_len (pa_cons (pv 1) pa_nil)) pa_nil))
              (blkOk_by (N := nIs) (sc := defScope sIs) (by decide +kernel)) (fun _ _ _ _ _ => pg_name (i := 2) nd rfl (Or.inl rfl)) (fun _ _ _ _ _ => pts_nil)
              (fun _ _ _ _ _ => pe_call ih hr (by rfl) g F.kp bI .nil pass0 (pa_cons (pe_ix ix_seq (pv 0) (pv 2) (fun _ _ => rfl)) (pa_cons (pe_ix ix_seq (pv 1) (pv 2) (fun _ _ => rfl)) pa_nil)))) pa_nil))))))) pss_nil)
        (pss_cons (ps_if (pt_val (pe_callB call_isi (by rfl) T.inst (by decide +kernel) (pa_cons (pv 1) (pa_cons (pe_bltn (v := .ty "dict") (by rfl) mD (by decide +kernel) rfl) pa_nil)))) (pss_cons ps_never (pss_one ps_never)) pss_nil)
        (pss_cons (ps_if (pt_cmpR op_isN (pv 1) pe_non (nomark _)) (pss_one (ps_ret (pe_cmpR op_isN (pv 0) pe_non (nomark _)))) pss_nil)
        (pss_one (ps_ret (pe_and (pe_cmpR op_eq (pe_callB call_isi (by rfl) T.inst (by decide +kernel) (pa_cons (pv 0) (pa_cons (pe_bltn (v := .ty "bool") (by rfl) T.bool (by decide +kernel) rfl) pa_nil))) (pe_callB call_isi (by rfl) T.inst (by decide +kernel) (pa_cons (pv 1) (pa_cons (pe_bltn (v := .ty "bool") (by rfl) T.bool (by decide +kernel) rfl) pa_nil))) (nomark _))
          (pe_and (pe_cmpR op_notN (pv 0) pe_non (nomark _)) (pe_one (pe_cmpR op_eq (pv 0) (pv 1) (nomark _))))))))), ?_⟩
      have cls2 : Paired ClsV [.ty "tuple", .ty "list"] [.type "tuple", .type "list"] := .cons (.ty _) (.cons (.ty _) .nil)
      refine ⟨_, rfl, by show 2 ≤ sizeLine; decide, fun t1 m1 => ?_⟩
      have S1 := smUpd (o := .tup [.ty "tuple", .ty "list"]) m1
      rcases eqS_cases hE with ⟨rfl, hL⟩ | ⟨m, rfl, a, b, xs, ys, rfl, rfl, hk, hx, hp⟩
      · obtain ⟨Ty, bb, ty, k2, k3, k4⟩ := leafS (K := K) (H := upd H t1 (.tup [.ty "tuple", .ty "list"])) hL
        refine ⟨x, t1, _, _, _, false, rfl, upd_same, cls2, ty, k2, false, rfl, ?_⟩
        refine iteF ?_
        refine ⟨_, rfl, x, .ty "dict", _, _, false, rfl, .ty _, ty, k4, false, rfl, ?_⟩
        refine iteF ?_
        refine ⟨_, rfl, rfl, _, rfl, ?_⟩
        by_cases cx : x = V.non
        · subst cx
          refine ifT rfl ?_
          exact ⟨_, rfl, rfl, k _ S1⟩
        refine ifF (by simpa using cx) ?_
        refine ⟨_, rfl, x, .ty "bool", _, _, bb, rfl, .ty _, ty, k3, _, rfl, x, .ty "bool", _, _, bb, rfl, .ty _, ty, k3, rfl, _, rfl, ?_⟩
        refine ifT (decide_eq_true rfl) ?_
        refine ⟨_, rfl, rfl, _, rfl, ?_⟩
        refine ifT (by simpa using cx) ?_
        refine ⟨_, rfl, _, rfl, ?_, ?_⟩
        · cases x <;> first | rfl | cases hL
        · rw [decide_eq_true rfl]; exact k _ S1
      · obtain ⟨tu, ha, hb⟩ : ∃ tu : Bool, (if tu = true then H a = some (.tup xs) else H a = some (.lst xs)) ∧ (if tu = true then H b = some (.tup ys) else H b = some (.lst ys)) := by
          rcases hk with ⟨z1, z2⟩ | ⟨z1, z2⟩
          · exact ⟨false, by simpa using z1, by simpa using z2⟩
          · exact ⟨true, by simpa using z1, by simpa using z2⟩
        have keep : ∀ {H1 : Hp} {c : Addr} {zs : List V}, Same H H1 → (if tu = true then H c = some (.tup zs) else H c = some (.lst zs)) → (if tu = true then H1 c = some (.tup zs) else H1 c = some (.lst zs)) := fun {H1 c zs} sm z => by
          cases tu with
          | true => rw [if_pos rfl] at z ⊢; exact sm _ _ z
          | false => rw [if_neg Bool.false_ne_true] at z ⊢; exact sm _ _ z
        obtain ⟨Tb, ty, k2, k3, k3l⟩ := seqS (K := K) (keep S1 hb)
        refine ⟨_, t1, _, _, _, true, rfl, upd_same, cls2, ty, k2, true, rfl, ?_⟩
        refine iteT ?_
        obtain ⟨Ta, ty2, k4, k5, k5l⟩ := seqS (K := K) (keep S1 ha)
        refine ⟨_, rfl, _, .ty "tuple", _, _, tu, rfl, .ty _, ty2, k5, _, rfl, _, .ty "tuple", _, _, tu, rfl, .ty _, ty, k3, rfl, _, rfl, ?_⟩
        refine ifF (by rw [decide_eq_true rfl]; decide) ?_
        refine ⟨_, rfl, _, .ty "list", _, _, !tu, rfl, .ty _, ty2, k5l, _, rfl, _, .ty "list", _, _, !tu, rfl, .ty _, ty, k3l, rfl, _, rfl, ?_⟩
        refine ifF (by rw [decide_eq_true rfl]; decide) ?_
        have hl : xs.length = ys.length := Paired.length hp
        generalize upd H t1 (.tup [.ty "tuple", .ty "list"]) = H2 at S1 ⊢
        have rd : ∀ {H3 : Hp}, Same H2 H3 → ((SqL K H3 a xs ∧ SqL K H3 b ys) ∨ (SqT K H3 a xs ∧ SqT K H3 b ys)) := fun {H3} s => by
          rcases hk with ⟨z1, z2⟩ | ⟨z1, z2⟩
          · exact .inl ⟨.inl (.inl ((S1.trans s) _ _ z1)), .inl (.inl ((S1.trans s) _ _ z2))⟩
          · exact .inr ⟨.inl (.inl ((S1.trans s) _ _ z1)), .inl (.inl ((S1.trans s) _ _ z2))⟩
        have hk2 := rd (Same.refl H2)
        have la : SqL K H2 a xs ∨ SqT K H2 a xs := hk2.imp And.left And.left
        have lb : SqL K H2 b ys ∨ SqT K H2 b ys := hk2.imp And.right And.right
        refine ⟨_, rfl, a, xs, rfl, la, _, rfl, b, ys, rfl, lb, rfl, _, rfl, ?_⟩
        refine ifT (decide_eq_true (by rw [hl])) ?_
        refine ⟨_, rfl, b, ys, rfl, lb, (ys.length : Int), rfl, by omega, by omega, fun D nD => ?_⟩
        rw [Int.toNat_natCast]
        refine lc_range (lo := 0) (n := ys.length) (fun i G => Same H2 G ∧ G D = some (.lst ((List.replicate i true).map V.bl))) ⟨smUpd nD, upd_same⟩ ?_ ?_
        · rintro i G hi ⟨sm, hD⟩
          rw [show (0 : Int) + (i : Int) = (i : Int) from Int.zero_add _]
          have hxi : xs[i]? = some xs[i] := List.getElem?_eq_getElem (by omega)
          have hyi : ys[i]? = some ys[i] := List.getElem?_eq_getElem hi
          have he : EqS G m xs[i] ys[i] := eqS_same (S1.trans sm) (pairedAt hp hxi hyi)
          refine ⟨rfl, ?_⟩
          show tYes _ _ _
          have fin : ∀ G2, Same G G2 → ∃ acc, G2 D = some (.lst acc) ∧ acc.length < sizeLine ∧ Same H2 (upd G2 D (.lst (acc ++ [V.bl true]))) ∧ upd G2 D (.lst (acc ++ [V.bl true])) D = some (.lst ((List.replicate (i + 1) true).map V.bl)) := fun G2 s2 =>
            ⟨_, s2 _ _ hD, by rw [List.length_map, List.length_replicate]; exact small4000 (by omega), smOver nD (sm.trans s2), by rw [upd_same, List.replicate_succ', List.map_append]; rfl⟩
          cases m with
          | zero =>
            rcases rd sm with ⟨qa, qb⟩ | ⟨qa, qb⟩
            · exact ⟨_, rfl, _, rfl, .inl ⟨a, xs, _, _, rfl, rfl, qa, atI_nat hxi, _, rfl, _, rfl, .inl ⟨b, ys, _, _, rfl, rfl, qb, atI_nat hyi, xs[i], ys[i], rfl, he, fun G2 s2 => fin G2 s2⟩⟩⟩
            · exact ⟨_, rfl, _, rfl, .inr (.inl ⟨a, xs, _, _, rfl, rfl, qa, atI_nat hxi, _, rfl, _, rfl, .inr (.inl ⟨b, ys, _, _, rfl, rfl, qb, atI_nat hyi, xs[i], ys[i], rfl, he, fun G2 s2 => fin G2 s2⟩)⟩)⟩
          | succ m =>
            rcases rd sm with ⟨qa, qb⟩ | ⟨qa, qb⟩
            · exact ⟨_, rfl, _, rfl, .inl ⟨a, xs, _, _, rfl, rfl, qa, atI_nat hxi, _, rfl, _, rfl, .inl ⟨b, ys, _, _, rfl, rfl, qb, atI_nat hyi, xs[i], ys[i], rfl, he, fun G2 s2 => fin G2 s2⟩⟩⟩
            · exact ⟨_, rfl, _, rfl, .inr (.inl ⟨a, xs, _, _, rfl, rfl, qa, atI_nat hxi, _, rfl, _, rfl, .inr (.inl ⟨b, ys, _, _, rfl, rfl, qb, atI_nat hyi, xs[i], ys[i], rfl, he, fun G2 s2 => fin G2 s2⟩)⟩)⟩
        · rintro G ⟨sm, hD⟩
          refine ⟨D, List.replicate ys.length true, rfl, .inl (.inl hD), ?_⟩
          rw [allRep]
          exact k _ (S1.trans sm)
theorem dIs (B : Defs K mg C) : Def P w K mg base "_law_is" 6 ["_law_told", "_law_due"] (spJS 4) := by
  obtain ⟨f, fd, D⟩ := B.is
  exact ⟨f, fd, ok_isS D.F B.N.is B.N.range B.zDict D.g D.b 4, D.g, D.F.kp, D.b⟩
end
end Cn
namespace Cn
open PySem PySem.Spec PyProof.Rows L2 Ck
section
variable {P : Program} {w : World} {K : PySem.W.Frag} {mg : Str → Option Value} {base : Heap} {C : Addr}
def ParOk (n : Nat) (v : V) : Prop := ∃ q, v = vp q ∧ ∀ m, q = some m → m < n
theorem psSnoc {ps : List (Option Nat)} {q : Option Nat} (hp : Ps ps) (hq : ∀ m, q = some m → m < ps.length) : Ps (ps ++ [q]) := fun i m h => by
  by_cases c : i < ps.length
  · rw [List.getElem?_append_left c] at h
    exact hp i m h
  · rw [List.getElem?_append_right (by omega)] at h
    have e : i = ps.length := by
      have := (List.getElem?_eq_some_iff.mp h).1
      simp at this
      omega
    subst e
    rw [Nat.sub_self] at h
    exact hq m (Option.some.inj h)
end
end Cn
namespace Cn
open PySem PySem.Spec PyProof.Rows L2 Ck
/-! drawn levels -/
def LvTo (ps : List (Option Nat)) (lv : List Nat) : Prop := ∀ (j l : Nat) (q : Option Nat), lv[j]? = some l → ps[j]? = some q → 1 ≤ l ∧ l ≤ mostLv lv q
theorem lvTo_le {ps : List (Option Nat)} {lv : List Nat} (hp : Ps ps) (hv : LvTo ps lv) (hl : lv.length ≤ ps.length) : ∀ i l, lv[i]? = some l → l ≤ i + 1 := by
  intro i
  induction i using Nat.strongRecOn with
  | ind i ih =>
    intro l hl2
    have hi : i < lv.length := (List.getElem?_eq_some_iff.mp hl2).1
    rcases opt_cases (ps := ps) (i := i) (by omega) with h | ⟨p, h⟩
    · have h2 := hv i l _ hl2 h
      have e : mostLv lv none = 1 := rfl
      omega
    · have h2 := hv i l _ hl2 h
      have e : mostLv lv (some p) = lv.getD p 0 + 1 := rfl
      have hpi := hp i p h
      have := ih p hpi _ (getD_at (Nat.lt_trans hpi hi))
      omega
theorem mostSnoc {lv : List Nat} {l : Nat} {q : Option Nat} (hq : ∀ m, q = some m → m < lv.length) : mostLv (lv ++ [l]) q = mostLv lv q := by
  cases q with
  | none => rfl
  | some m =>
    show (lv ++ [l]).getD m 0 + 1 = lv.getD m 0 + 1
    rw [List.getD_eq_getElem?_getD, List.getD_eq_getElem?_getD, List.getElem?_append_left (hq m rfl)]
theorem lvSnoc {ps : List (Option Nat)} {lv : List Nat} {l : Nat} {q : Option Nat} (hp : Ps ps) (hv : LvTo ps lv) (hq : ps[lv.length]? = some q) (h1 : 1 ≤ l) (h2 : l ≤ mostLv lv q) : LvTo ps (lv ++ [l]) := fun j m r hm hr => by
  by_cases c : j < lv.length
  · rw [List.getElem?_append_left c] at hm
    rw [mostSnoc fun x e => Nat.lt_trans (hp j x (by rw [hr, e])) c]
    exact hv j m r hm hr
  · rw [List.getElem?_append_right (by omega)] at hm
    have e : j = lv.length := by
      have := (List.getElem?_eq_some_iff.mp hm).1
      simp at this
      omega
    subst e
    rw [Nat.sub_self] at hm
    cases (Option.some.inj hm)
    rw [hq] at hr
    cases (Option.some.inj hr)
    rw [mostSnoc fun x e => hp lv.length x (by rw [hq, e])]
    exact ⟨h1, h2⟩
end Cn

namespace Cn
open PySem PySem.Spec PyProof.Rows L2 Ck
section
variable {P : Program} {w : World} {K : PySem.W.Frag} {mg : Str → Option Value} {base : Heap} {C : Addr}
end
end Cn
namespace Cn
open PySem PySem.Spec PyProof.Rows L2 Ck
def TolR (H : Hp) (r : Addr) (f : Fo) : Prop := ∃ ap ab aa, H r = some (.tup [.ref ap, .ref ab, .ref aa]) ∧ TP H ap f.ps ∧ TN H ab f.be ∧ TN H aa f.as
theorem tolSame {H H' : Hp} {r : Addr} {f : Fo} (s : Same H H') (h : TolR H r f) : TolR H' r f := by
  obtain ⟨ap, ab, aa, h1, h2, h3, h4⟩ := h
  exact ⟨ap, ab, aa, s _ _ h1, s _ _ h2, s _ _ h3, s _ _ h4⟩
theorem tolKept {H H' : Hp} {p c r : Addr} {cells : List Int} {f : Fo} (hI : HandIn H p S) (k : Kept p H H') (h : TolR H r f) : TolR H' r f := by
  obtain ⟨ap, ab, aa, h1, h2, h3, h4⟩ := h
  exact ⟨ap, ab, aa, k _ _ (tup_ne hI h1) h1, k _ _ (tup_ne hI h2) h2, k _ _ (tup_ne hI h3) h3, k _ _ (tup_ne hI h4) h4⟩
end Cn
namespace Cn
open PySem PySem.Spec PyProof.Rows L2 Ck
section
variable {P : Program} {w : World} {K : PySem.W.Frag} {mg : Str → Option Value} {base : Heap} {C : Addr}
def measR : L2.St → Hp → Nat := fun σ H => match σ[2]? with
  | some (some (V.ref D)) => (match H D with
    | some (.lst (V.int n :: _)) => n.toNat
    | _ => 0)
  | _ => 0
end
end Cn
namespace Cn
open PySem PySem.Spec PyProof.Rows L2 Ck
def dwn (ps : List (Option Nat)) (i n : Nat) : List Nat := (List.range n).filter fun j => decide (i ∈ road ps j)
theorem dwn_mem {ps : List (Option Nat)} {i n j : Nat} : j ∈ dwn ps i n ↔ j < n ∧ i ∈ road ps j := by
  unfold dwn
  rw [List.mem_filter, List.mem_range, decide_eq_true_iff]
theorem dwn_len {ps : List (Option Nat)} {i n : Nat} : (dwn ps i n).length ≤ n := by
  have := List.length_filter_le (fun j => decide (i ∈ road ps j)) (List.range n)
  rw [List.length_range] at this
  exact this
theorem dwn_succ {ps : List (Option Nat)} {i j : Nat} : dwn ps i (j + 1) = dwn ps i j ++ if i ∈ road ps j then [j] else [] := by
  unfold dwn
  rw [List.range_succ, List.filter_append]
  by_cases c : i ∈ road ps j
  · rw [if_pos c, List.filter_cons_of_pos (by simpa using c)]; rfl
  · rw [if_neg c, List.filter_cons_of_neg (by simpa using c)]; rfl
theorem dwn_before {ps : List (Option Nat)} {i : Nat} (hp : Ps ps) (hi : i < ps.length) : ∀ j, j ≤ i → dwn ps i j = [] := by
  intro j
  induction j with
  | zero => intro _; rfl
  | succ j ih =>
    intro h
    rw [dwn_succ, ih (by omega), if_neg (fun z => by have := road_le hp j (by omega) i z; omega)]
    rfl
theorem dwn_start {ps : List (Option Nat)} {i : Nat} (hp : Ps ps) (hi : i < ps.length) : dwn ps i (i + 1) = [i] := by
  rw [dwn_succ, dwn_before hp hi i (Nat.le_refl _), if_pos (road_self hp hi)]
  rfl
theorem dwn_step {ps : List (Option Nat)} {i j : Nat} {q : Option Nat} (hp : Ps ps) (hij : i < j) (hj : j < ps.length) (h : ps[j]? = some q) : (i ∈ road ps j) ↔ ∃ p, q = some p ∧ p ∈ dwn ps i j := by
  cases q with
  | none =>
    rw [road_none h]
    constructor
    · intro z; have := List.mem_singleton.mp z; omega
    · rintro ⟨p, z, _⟩; cases z
  | some p =>
    rw [road_some hp h, List.mem_append, List.mem_singleton]
    constructor
    · rintro (z | z)
      · exact ⟨p, rfl, dwn_mem.mpr ⟨hp j p h, z⟩⟩
      · omega
    · rintro ⟨p', z, m⟩
      cases z
      exact .inl (dwn_mem.mp m).2
theorem inV_vp {ns : List Nat} {q : Option Nat} : inV (vp q) (ns.map vn) = decide (∃ p, q = some p ∧ p ∈ ns) := by
  cases q with
  | some p =>
    show inV (vn p) (ns.map vn) = _
    rw [inV_vn]
    by_cases c : p ∈ ns
    · rw [decide_eq_true c, decide_eq_true ⟨p, rfl, c⟩]
    · rw [decide_eq_false c, decide_eq_false (fun ⟨p', z, m⟩ => by cases z; exact c m)]
  | none =>
    rw [decide_eq_false (fun ⟨p', z, m⟩ => by cases z)]
    induction ns with
    | nil => rfl
    | cons n ns ih => exact ih
theorem vp_flat (q : Option Nat) : flatV (vp q) = true := by cases q <;> rfl
def pairsOf (ps : List (Option Nat)) (be as : List Nat) : List (Nat × Nat) := be.flatMap fun i => (as.filter fun j => decide (i ∈ road ps j)).map (Prod.mk i)
def PairR (H : Hp) (v : V) (p : Nat × Nat) : Prop := ∃ t, v = .ref t ∧ H t = some (.tup [vn p.1, vn p.2])
def PairsR (H : Hp) (us : List V) (ps : List (Nat × Nat)) : Prop := Paired (PairR H) us ps
theorem pairSame {H H' : Hp} (s : Same H H') {v : V} {p : Nat × Nat} (h : PairR H v p) : PairR H' v p := by
  obtain ⟨t, e, h1⟩ := h
  exact ⟨t, e, s _ _ h1⟩
theorem pairsSame {H H' : Hp} (s : Same H H') {us : List V} {ps : List (Nat × Nat)} (h : PairsR H us ps) : PairsR H' us ps := Paired.mapP h fun _ _ z => pairSame s z
theorem pairsUpd {H' : Hp} {D : Addr} {o : HO} {xs us : List V} {ps : List (Nat × Nat)} (hD : H' D = some (.lst xs)) (h : PairsR H' us ps) : PairsR (upd H' D o) us ps := Paired.mapP h fun v p z => by
  obtain ⟨t, e, h1⟩ := z
  have q : t ≠ D := fun z => by rw [z, hD] at h1; cases h1
  exact ⟨t, e, by rw [upd_ne q]; exact h1⟩
theorem pairedSnoc {α β : Type} {F : α → β → Prop} : ∀ {xs : List α} {ys : List β} {x : α} {y : β}, Paired F xs ys → F x y → Paired F (xs ++ [x]) (ys ++ [y])
  | _, _, _, _, .nil, h => .cons h .nil
  | _, _, _, _, .cons a t, h => .cons a (pairedSnoc t h)
theorem pairedApp {α β : Type} {F : α → β → Prop} : ∀ {xs xs' : List α} {ys ys' : List β}, Paired F xs ys → Paired F xs' ys' → Paired F (xs ++ xs') (ys ++ ys')
  | _, _, _, _, .nil, h => h
  | _, _, _, _, .cons a t, h => .cons a (pairedApp t h)
theorem pairsOf_len {ps : List (Option Nat)} {as : List Nat} : ∀ {be : List Nat}, (pairsOf ps be as).length ≤ be.length * as.length
  | [] => Nat.zero_le _
  | i :: be => by
    have h := pairsOf_len (ps := ps) (as := as) (be := be)
    show (((as.filter fun j => decide (i ∈ road ps j)).map (Prod.mk i)) ++ pairsOf ps be as).length ≤ (be.length + 1) * as.length
    rw [List.length_append, List.length_map, Nat.add_mul, Nat.one_mul]
    have := List.length_filter_le (fun j => decide (i ∈ road ps j)) as
    omega
theorem pairsOf_snoc {ps : List (Option Nat)} {be as : List Nat} {i : Nat} : pairsOf ps (be ++ [i]) as = pairsOf ps be as ++ (as.filter fun j => decide (i ∈ road ps j)).map (Prod.mk i) := by
  unfold pairsOf
  rw [List.flatMap_append, List.flatMap_singleton]
theorem pairs3600 {f : Fo} (ok : FoOk f) : (pairsOf f.ps f.be f.as).length ≤ 3600 := by
  have h := pairsOf_len (ps := f.ps) (as := f.as) (be := f.be)
  have h1 := lotLen ok.be ok.bl
  have h2 := lotLen ok.as ok.al
  have h3 := ok.l1
  exact Nat.le_trans h (Nat.mul_le_mul (Nat.le_trans h1 h3) (Nat.le_trans h2 h3))
section
variable {P : Program} {w : World} {K : PySem.W.Frag} {mg : Str → Option Value} {base : Heap} {C : Addr}
end
end Cn
namespace Cn
open PySem PySem.Spec PyProof.Rows L2 Ck
section
variable {P : Program} {w : World} {K : PySem.W.Frag} {mg : Str → Option Value} {base : Heap} {C : Addr}
end
end Cn
namespace Cn
open PySem PySem.Spec PyProof.Rows L2 Ck
/-! a dict made by a comprehension, its keys of any kind that a dict of the hand layer has (o0: the empty dict of that kind) -/
section
variable {X : Cx}
/-- stored by the comprehension -/
theorem putIn {pins : List (Addr × Obj)} {σ : L2.St} {H H' : Hp} {s : Shared} {E : Value → Shared → Prop} {D : Addr} {y z : V} {u r : Value} {Q : Unit → Shared → Prop} (hu : X.A.units + 1 < cLine) (I : Inv X pins σ H s) (put : DPut H D y z H') (ry : RelV y u) (rz : RelV z r) (k : ∀ s', Inv X pins σ H' s' → Q () s') : wpAny (model X.prog X.w) X.A (dictSet D u r) Q E s := by
  rcases put with ⟨kvs, q, hD, rfl, hl, rfl⟩ | ⟨kvs, q, b, hD, rfl, hb, hl, rfl⟩
  · exact L2.d_dictSet I hD hl ry rz k
  · cases (show u = Value.ref b from ry)
    obtain ⟨c1, c2, xs, rel, dd⟩ := dt_of I.hok hD
    have c3 : xs.length ≤ sizeLine := Paired.length rel ▸ c1
    have c4 : (putK kvs q z).length ≤ sizeLine := Nat.le_trans (length_putK kvs q z) hl
    refine wpAny_dictSet_heap (hsz := c3) (Nat.lt_of_succ_lt hu) (key_of I.hok hb) dd (fun g ⟨o, es, ep, e1, e2, e3, e4, _, e5⟩ same => k _ ?_)
    have kept : ∀ (c : Addr) (ys : List V), H c = some (.tup ys) → upd H D (.dT (putK kvs q z)) c = some (.tup ys) := fun c ys hc => (upd_ne (L2.ne_of hc hD nofun)).trans hc
    exact d_write I (hD ▸ True.intro) same ⟨o, e1⟩ ⟨c4, c2, _, (rel.put q hb rz).keeps fun c ys hc => kept c ys hc, o, es, ep, e1, e2, e3, e4, e5⟩
/-- a turn's word and the walk's, as for a list -/
def tDcP (o0 : HO) (wi : TI) (g : TG) (tt : TT) (tk tv : TE) (vs : List Nat) : TE := fun σ H Q => wi σ H fun J H1 => ∀ D, H1 D = none → ∃ W : Nat → Nat → Hp → Prop, (∃ m, W 0 m (upd H1 D o0)) ∧ ∀ i m G, W i m G → (J.stop i G ∧ Q (.ref D) G) ∨
  (J.go i G ∧ ∃ Nx : Hp → Prop, (∀ G', Nx G' → ∃ m', m' < m ∧ W (i + 1) m' G') ∧ ∀ x G', J.yld i G x G' → g x (wipe σ vs) G' fun τ G2 => wipe τ vs = wipe σ vs ∧ tt τ G2 fun b G3 => if b = true then tk τ G3 fun y G4 => tv τ G4 fun z G5 => ∃ G6, DPut G5 D y z G6 ∧ Nx G6 else Nx G3)
theorem dcP_core {pins : List (Addr × Obj)} {s : Shared} {σ : L2.St} {H : Hp} {Q : VK} {o0 : HO} {kx vx tg iter : Expr} {ifs : List Expr} {sc : Scope} {own : List (Str × Nat)} {pos ipos : Pos} {wi : TI} {g : TG} {tt : TT} {tk tv : TE} {use : Option (Value → Sem Unit)} {Qf : Value → Shared → Prop} (I : Inv X pins σ H s) (h0 : o0 = .dK [] ∨ o0 = .dT []) (hc : X.calm = true) (hu : X.A.units + 1 < cLine) (hN : X.N.Nodup) (hi : PI X tg iter wi) (ok : BlkOk X.N X.env.scope sc own)
    (hg : ∀ s H C cl fp, PG (X.blk s H sc (compEnvC sc cl C X.env) fp) tg g) (ht : ∀ s H C cl fp, PTs (X.blk s H sc (compEnvC sc cl C X.env) fp) ifs tt) (hk : ∀ s H C cl fp, PE (X.blk s H sc (compEnvC sc cl C X.env) fp) kx tk) (hv : ∀ s H C cl fp, PE (X.blk s H sc (compEnvC sc cl C X.env) fp) vx tv)
    (hs : ∀ x, foldedSetIterable iter X.env x = pure x) (hw : tDcP o0 wi g tt tk tv (own.map (·.2)) σ H Q)
    (last : ∀ D C t m G, Inv X pins σ G t → Q (.ref D) G → t.heap.Ns C m → FpOk X pins G C → compPost (model X.prog X.w) X.A X.xe use Qf (.ref D) C (.ok .next) t) :
    wpAny (model X.prog X.w) X.A (comprehension (.DictComp kx vx [⟨tg, iter, ifs, 0⟩] sc pos) sc X.env ipos newDict false (eval iter X.env) use) Qf X.xe s := by
  have cells : ∀ y ∈ sc.names, y.2 = .free → ∃ c, X.env.cells.lookup y.1 = some c := fun y hy e => (ok.free y hy e).elim (fun z => I.ok.has _ (.inl z)) (fun z => I.ok.has _ (.inr z))
  refine wpAny_comprehension_free (use := use) rfl hs (closure_ok cells) ok.kind (fun y hy e => (ok.uniq y hy).trans (congrArg some e)) ?_
  refine thn (hi.run pins s σ H _ I hw) fun _ sa wa => thn wa fun _ sb ⟨it, fp, tn, J, Ha, e, Ia, T, stA, okA, qq⟩ => ?_
  subst e
  refine wpAny_newObj_type (newEnv_comp ?_)
  obtain ⟨D, hD⟩ : ∃ D, sb.heap.objs.size = D := ⟨_, rfl⟩
  have fresh : Ha D = none := Ia.hok.fresh (Nat.le_of_eq hD)
  obtain ⟨W, ⟨m0, w0⟩, turn⟩ := qq D fresh
  obtain ⟨sd, ed⟩ : ∃ sd : Shared, ({ sb with heap := sb.heap.push { cls := .type "dict", data := .dict #[] } } : Shared) = sd := ⟨_, rfl⟩
  have heq : sd.heap = sb.heap.push { cls := .type "dict", data := .dict #[] } := ed ▸ rfl
  have Ib : Inv X pins σ (upd Ha D o0) sd := by
    subst ed hD
    refine Ia.laid (t' := sb.toks) (fun b o e => Heap.get?_push_of_some _ e) (Nat.le_refl _) ?_
    rcases h0 with rfl | rfl
    · exact dk_empty sb.heap Ia.big
    · exact dt_empty sb.heap Ia.big
  have below : ∀ b ∈ fp, b < sb.heap.objs.size := fun b hb => let ⟨_, e, _⟩ := T.obj _ _ stA b hb; Heap.lt_size e
  have okB : ∀ b ∈ fp, FpOk X pins (upd Ha D o0) b ∧ b < sd.heap.objs.size := fun b hb => by
    have lt := below b hb
    exact ⟨⟨(upd_ne (hD ▸ Nat.ne_of_lt lt)).trans (okA b hb).1, (okA b hb).2⟩, by rw [heq, Heap.size_push]; exact Nat.lt_succ_of_lt lt⟩
  have stB : tn 0 sd.heap := T.keep _ _ _ stA fun b _ o e => heq ▸ Heap.get?_push_of_some _ e
  have Ic := block_start Ib ok hN okB
  obtain ⟨C, hC⟩ : ∃ C, sd.heap.objs.size = C := ⟨_, rfl⟩
  rw [hC] at Ic
  obtain ⟨cl, hcl⟩ : ∃ cl, cellsFrom (C + 1) sc.names (cloFrom X.env.cells sc.names []) = cl := ⟨_, rfl⟩
  rw [hcl] at Ic
  obtain ⟨G, hG⟩ : ∃ G, upd Ha D o0 = G := ⟨_, rfl⟩
  rw [hG] at Ib Ic okB w0
  have rg := hg sd G C cl fp
  have rt := ht sd G C cl fp
  have rk := hk sd G C cl fp
  have rv := hv sd G C cl fp
  obtain ⟨ce, hce⟩ : ∃ ce, compEnvC sc cl C X.env = ce := ⟨_, rfl⟩
  have ceL : ce.locals = C := hce ▸ rfl
  rw [hce] at Ic rg rt rk rv
  obtain ⟨se, hse⟩ : ∃ se : Shared, ({ sd with heap := pushCells (sd.heap.push { cls := .type "dict", data := .dict #[] }) sc.names } : Shared) = se := ⟨_, rfl⟩
  rw [hse] at Ic
  have stC : tn 0 se.heap := T.keep _ _ _ stB fun b _ o e => hse ▸ pushCells_keeps _ _ _ _ (Heap.get?_push_of_some _ e)
  have none0 : ∀ b ∈ fp, G b = none := fun b hb => (okB b hb).1.1
  have looks : ∀ {σ' : L2.St} {H' : Hp} {s' : Shared}, Inv (X.blk sd G sc ce fp) [] σ' H' s' → (∀ b ∈ fp, H' b = none) → ∀ b ∈ fp, FpOk (X.blk sd G sc ce fp) [] H' b := fun I' z b hb =>
    ⟨z b hb, (I'.ok.exf b hb).1, I'.ok.exfs b hb, .inl hb, fun x c e => (I'.ok.exf b hb).2 x c e, fun p hp => nomatch (show p ∈ ([] : List (Addr × Obj)) from hp)⟩
  have whole : codeAny (model X.prog X.w) X.A (.compLoop (.DictComp kx vx [⟨tg, iter, ifs, 0⟩] sc pos) 0 (.ref it) (.ref D) ce) (compPost (model X.prog X.w) X.A X.xe use Qf (.ref D) C) se := by
    refine compLoop_anyD (fun n s' => ∃ i H', Inv (X.blk sd G sc ce fp) [] (wipe σ (own.map (·.2))) H' s' ∧ tn i s'.heap ∧ (∀ b ∈ fp, H' b = none) ∧ W i n H') ?_ m0 ⟨0, G, Ic, stC, none0, w0⟩
    rintro n t ⟨i, Ht, It, stT, noneT, wT⟩
    rcases turn i n Ht wT with ⟨stop, out⟩ | ⟨go, Nx, less, step⟩
    · refine thnF (T.done (X.blk sd G sc ce fp) rfl rfl rfl hc i [] t _ Ht (fun _ _ => False) It (looks It noneT) stT stop) fun r t' ⟨hr, Iu⟩ => ?_
      subst hr
      have back : Inv X pins σ Ht t' := Ib.call' (ch := fp) Iu.os Iu.base Iu.hok Iu.bare fun b hb => let z := (okB b hb).1.2; ⟨z.2.2.1, z.1, z.2.2.2.1, z.2.2.2.2⟩
      have gone : Ht C = none := ceL ▸ Iu.free
      obtain ⟨m, hm, _⟩ := Iu.loc
      have hm : t'.heap.Ns C m := ceL ▸ hm
      exact last D C t' m Ht back out hm (Ib.fpOk (Nat.le_of_eq hC) gone)
    · refine thnF (T.item (X.blk sd G sc ce fp) rfl rfl rfl hc i [] t _ Ht (fun _ _ => False) It (looks It noneT) stT go) fun r t1 ⟨u, hr, hh⟩ => ?_
      subst hr
      refine thnF hh fun _ t2 ⟨x, Hu, Iu, rx, yx, stU, noneU⟩ => ?_
      have Iw := Iu.pinned (looks Iu noneU) (T.obj _ _ stU)
      refine thnF (rg.run _ t2 _ Hu x u _ Iw rx (step x Hu yx)) fun _ t3 ⟨τ, Hv, Iv, wip, qv⟩ => ?_
      refine thnF (rt.run _ t3 τ Hv _ Iv qv) fun b t4 ⟨Hw, Ix, qw⟩ => ?_
      have onward : ∀ (t' : Shared) (H' : Hp), Inv (X.blk sd G sc ce fp) ([] ++ pinsAt fp t2.heap) τ H' t' → Nx H' → ∃ m, m < n ∧ ∃ i H', Inv (X.blk sd G sc ce fp) [] (wipe σ (own.map (·.2))) H' t' ∧ tn i t'.heap ∧ (∀ b ∈ fp, H' b = none) ∧ W i m H' := by
        intro t' H' I' nx
        obtain ⟨m, lt, wm⟩ := less H' nx
        have held : ∀ b ∈ fp, ∀ o, t2.heap.get? b = some o → t'.heap.get? b = some o ∧ H' b = none := fun b hb o e =>
          have z := I'.pin (b, o) (List.mem_append_right _ (List.mem_append_right _ (mem_pinsAt hb e)))
          ⟨z.1, z.2.1⟩
        refine ⟨m, lt, i + 1, H', (I'.unpinned (pins := [])).weak (by rw [← wip, wipe_length]) (fun j v e => (wipe_some (wip ▸ e : (wipe τ (own.map (·.2)))[j]? = some (some v))).1), T.keep _ _ _ stU fun b hb o e => (held b hb o e).1, fun b hb => ?_, wm⟩
        exact let ⟨o, e, _⟩ := T.obj _ _ stU b hb; (held b hb o e).2
      cases b with
      | false =>
        rw [if_neg Bool.false_ne_true] at qw
        rw [if_neg Bool.false_ne_true]
        exact onward t4 Hw Ix qw
      | true =>
        rw [if_pos rfl] at qw
        rw [if_pos rfl]
        refine thnF (rk.run _ t4 τ Hw _ Ix qw) fun z1 t5 ⟨y, Hy, Iy, ry, qy⟩ => ?_
        refine thnF (rv.run _ t5 τ Hy _ Iy qy) fun z2 t6 ⟨z, Hz, Iz, rz, He, put, nx⟩ => ?_
        exact putIn (X := X.blk sd G sc ce fp) hu Iz put ry rz fun t7 I7 => onward t7 He I7 nx
  have start := codeAny_compStart_dict whole (T.self X.A 0 _ _ _ stC whole)
  rw [← hC] at hcl
  subst hcl hce ed hse
  show codeAny _ _ _ _ _
  rw [hC] at start ⊢
  exact hD ▸ start
/-- as a value -/
theorem pe_dcP {o0 : HO} {kx vx tg iter : Expr} {ifs : List Expr} {sc : Scope} {own : List (Str × Nat)} {pos : Pos} {wi : TI} {g : TG} {tt : TT} {tk tv : TE} (h0 : o0 = .dK [] ∨ o0 = .dT []) (hc : X.calm = true) (hu : X.A.units + 1 < cLine) (hN : X.N.Nodup) (hi : PI X tg iter wi) (ok : BlkOk X.N X.env.scope sc own)
    (hg : ∀ s H C cl fp, PG (X.blk s H sc (compEnvC sc cl C X.env) fp) tg g) (ht : ∀ s H C cl fp, PTs (X.blk s H sc (compEnvC sc cl C X.env) fp) ifs tt) (hk : ∀ s H C cl fp, PE (X.blk s H sc (compEnvC sc cl C X.env) fp) kx tk) (hv : ∀ s H C cl fp, PE (X.blk s H sc (compEnvC sc cl C X.env) fp) vx tv)
    (hs : ∀ x, foldedSetIterable iter X.env x = pure x := by intro _; rfl) : PE X (.DictComp kx vx [⟨tg, iter, ifs, 0⟩] sc pos) (tDcP o0 wi g tt tk tv (own.map (·.2))) := by
  refine ⟨fun pins s σ H Q I hw => ?_⟩
  rw [arm_eval_DictComp]
  refine dcP_core I h0 hc hu hN hi ok hg ht hk hv hs hw fun D C t m G It q hm ⟨f0, f1, _, f3, f4, f5⟩ => ⟨m, hm, fun g' same => ?_⟩
  exact ⟨.ref D, G, It.turned (t' := t.toks) (fun b o hb e => (same.2 b hb).trans e) f0 f1 f3 f4 f5, rfl, q⟩
/-- stored under a name on its own row -/
theorem ps_setDcP {i : Nat} {y : Str} {py spos : Pos} {o0 : HO} {kx vx tg iter : Expr} {ifs : List Expr} {sc : Scope} {own : List (Str × Nat)} {pos : Pos} {wi : TI} {g : TG} {tt : TT} {tk tv : TE} (h0 : o0 = .dK [] ∨ o0 = .dT []) (hc : X.calm = true) (hu : X.A.units + 1 < cLine) (hN : X.N.Nodup) (hy : X.N[i]? = some y) (hl : X.env.scope.names.lookup y = some .local)
    (sw : swapsWith (.DictComp kx vx [⟨tg, iter, ifs, 0⟩] sc pos) (some (.Name y py)) spos.line X.env = pure true) (hi : PI X tg iter wi) (ok : BlkOk X.N X.env.scope sc own)
    (hg : ∀ s H C cl fp, PG (X.blk s H sc (compEnvC sc cl C X.env) fp) tg g) (ht : ∀ s H C cl fp, PTs (X.blk s H sc (compEnvC sc cl C X.env) fp) ifs tt) (hk : ∀ s H C cl fp, PE (X.blk s H sc (compEnvC sc cl C X.env) fp) kx tk) (hv : ∀ s H C cl fp, PE (X.blk s H sc (compEnvC sc cl C X.env) fp) vx tv)
    (hs : ∀ x, foldedSetIterable iter X.env x = pure x := by intro _; rfl) :
    PS X (.Assign [.Name y py] (.DictComp kx vx [⟨tg, iter, ifs, 0⟩] sc pos) spos) (tAsg (tDcP o0 wi g tt tk tv (own.map (·.2))) (gName i)) := by
  refine ⟨fun pins s σ H D I hw => ?_⟩
  rw [exec_Assign_Name_used _ _ _ _ sw]
  have hw : tDcP o0 wi g tt tk tv (own.map (·.2)) σ H (fun x G => gName i x σ G D.nx) := hw
  have go := dcP_core (pos := pos) (ipos := firstIterPos [⟨tg, iter, ifs, 0⟩] pos) (use := some (assign (.Name y py) X.env)) (Qf := fun _ s' => SP X pins D .next s') I h0 hc hu hN hi ok hg ht hk hv hs hw fun L C t m G It q hm f => by
    refine wpAny_assign_Name (store_ok2 (v := V.ref L) It hN hy (.inl hl) rfl (fun t2 I2 ⟨a, sb, ha⟩ => ?_) (.inr hl))
    have ne : C ≠ a := ha.elim (fun z => z ▸ f.2.1) (fun z e => f.2.2.2.2.1 y a z e.symm)
    exact ⟨m, hm.sameBut sb ne, fun g' same => ⟨_, G, I2.turned (t' := t2.toks) (fun b o hb e => (same.2 b hb).trans e) f.1 f.2.1 f.2.2.2.1 f.2.2.2.2.1 f.2.2.2.2.2, q⟩⟩
  exact wpAny_bind (wpAny_standAt (wpAny_bind (wpAny_bind (thn go fun _ _ z => wpAny_pure (wpAny_pure z)))))
theorem sw_dict {kx vx : Expr} {gs : List Comprehension} {sc : Scope} {pos py : Pos} {y : Str} {l : Nat} {env : Env} (hk : env.scope.kind = .function) (hy : env.scope.names.lookup y = some .local) (hl : (py.line == pos.line) = true) (ha : (sc.names.any fun q => q.1 == y && (q.2 == .local || q.2 == .cell)) = false) :
    swapsWith (.DictComp kx vx gs sc pos) (some (.Name y py)) l env = pure true := by
  have e1 : env.kindOf y = some .local := hy
  have e2 : env.blockKind = .function := by unfold Env.blockKind; rw [hk]; rfl
  show (pure (env.blockKind == ScopeKind.function && env.kindOf y == some NameKind.local && py.line == pos.line && !(sc.names.any fun q => q.1 == y && (q.2 == .local || q.2 == .cell))) : Sem Bool) = pure true
  rw [e1, e2, hl, ha]
  rfl
end
end Cn
namespace Cn
open PySem PySem.Spec PyProof.Rows L2 Ck
def pk (p : Nat × Nat) : List Key := [.inl (p.1 : Int), .inl (p.2 : Int)]
theorem pk_inj {p q : Nat × Nat} (h : pk p = pk q) : p = q := by
  unfold pk at h
  simp only [List.cons.injEq, Sum.inl.injEq, Int.natCast_inj] at h
  exact Prod.ext h.1 h.2.1
theorem pk_tup {p : Nat × Nat} : (pk p).map kV = [vn p.1, vn p.2] := rfl
def byPair (v : Nat × Nat → V) (prs : List (Nat × Nat)) : List (List Key × V) := prs.map fun p => (pk p, v p)
theorem byPair_no {v : Nat × Nat → V} {q : Nat × Nat} : ∀ {prs : List (Nat × Nat)}, q ∉ prs → valV (byPair v prs) (pk q) = none
  | [], _ => rfl
  | p :: prs, h => (valV_neg (p := (pk p, v p)) (fun z => h (pk_inj z ▸ List.mem_cons_self))).trans (byPair_no fun z => h (List.mem_cons_of_mem _ z))
theorem byPair_yes {v : Nat × Nat → V} {q : Nat × Nat} : ∀ {prs : List (Nat × Nat)}, q ∈ prs → valV (byPair v prs) (pk q) = some (v q)
  | p :: prs, h => by
    by_cases e : p = q
    · rw [e]
      exact valV_pos (p := (pk q, v q)) rfl
    · refine (valV_neg (p := (pk p, v p)) (fun z => e (pk_inj z))).trans (byPair_yes ?_)
      rcases List.mem_cons.mp h with z | z
      · exact absurd z.symm e
      · exact z
theorem byPair_put {v : Nat × Nat → V} {q : Nat × Nat} {prs : List (Nat × Nat)} (h : q ∉ prs) : putK (byPair v prs) (pk q) (v q) = byPair v (prs ++ [q]) := by
  rw [putK_new _ (byPair_no h)]
  unfold byPair
  rw [List.map_append]
  rfl
theorem byPair_set {v : Nat × Nat → V} {q : Nat × Nat} {prs : List (Nat × Nat)} {x : V} (h : q ∈ prs) : putK (byPair v prs) (pk q) x = byPair (fun p => if p = q then x else v p) prs := by
  unfold putK
  have a : ((byPair v prs).any fun kv => decide (kv.1 = pk q)) = true := by rw [valV_any, byPair_yes h]; rfl
  rw [if_pos a]
  unfold byPair
  rw [List.map_map]
  refine List.map_congr_left fun p _ => ?_
  show (if pk p = pk q then (pk p, x) else (pk p, v p)) = (pk p, if p = q then x else v p)
  by_cases e : p = q
  · rw [e, if_pos rfl, if_pos rfl]
  · rw [if_neg (fun z => e (pk_inj z)), if_neg e]
theorem byPair_len {v : Nat × Nat → V} {prs : List (Nat × Nat)} : (byPair v prs).length = prs.length := List.length_map ..
def lexLt (p q : Nat × Nat) : Prop := p.1 < q.1 ∨ (p.1 = q.1 ∧ p.2 < q.2)
theorem pairsOf_mem {ps : List (Option Nat)} {be as : List Nat} {i j : Nat} : (i, j) ∈ pairsOf ps be as ↔ i ∈ be ∧ j ∈ as ∧ i ∈ road ps j := by
  unfold pairsOf
  rw [List.mem_flatMap]
  constructor
  · rintro ⟨a, ha, h⟩
    obtain ⟨b, hb, e⟩ := List.mem_map.mp h
    obtain ⟨hb1, hb2⟩ := List.mem_filter.mp hb
    cases e
    exact ⟨ha, hb1, of_decide_eq_true hb2⟩
  · rintro ⟨h1, h2, h3⟩
    exact ⟨i, h1, List.mem_map.mpr ⟨j, List.mem_filter.mpr ⟨h2, decide_eq_true h3⟩, rfl⟩⟩
theorem pairsOf_asc {ps : List (Option Nat)} {as : List Nat} (ha : as.Pairwise (· < ·)) : ∀ {be : List Nat}, be.Pairwise (· < ·) → (pairsOf ps be as).Pairwise lexLt
  | [], _ => .nil
  | i :: be, hb => by
    obtain ⟨h1, h2⟩ := List.pairwise_cons.mp hb
    show (((as.filter fun j => decide (i ∈ road ps j)).map (Prod.mk i)) ++ pairsOf ps be as).Pairwise lexLt
    refine List.pairwise_append.mpr ⟨List.pairwise_map.mpr ((ha.filter _).imp fun h => .inr ⟨rfl, h⟩), pairsOf_asc ha h2, fun x hx y hy => ?_⟩
    obtain ⟨j, _, rfl⟩ := List.mem_map.mp hx
    exact .inl (h1 _ (pairsOf_mem.mp (show (y.1, y.2) ∈ _ from hy)).1)
theorem pairsOf_nd {f : Fo} (ok : FoOk f) : (pairsOf f.ps f.be f.as).Nodup := (pairsOf_asc ok.as ok.be).imp fun h e => by
  subst e
  rcases h with h | h <;> omega
theorem vnEm (ns : List Nat) : (ns.map vn).isEmpty = ns.isEmpty := by cases ns <;> rfl
structure NoteOk (prs : List (Nat × Nat)) (p : List Nat × List Nat) : Prop where
  a1 : p.1.Pairwise (· < ·)
  a2 : p.2.Pairwise (· < ·)
  n1 : p.1 ≠ []
  n2 : p.2 ≠ []
  l1 : p.1.length ≤ 60
  l2 : p.2.length ≤ 60
  sub : ∀ i ∈ p.1, ∀ j ∈ p.2, (i, j) ∈ prs
section
variable {P : Program} {w : World} {K : PySem.W.Frag} {mg : Str → Option Value} {base : Heap} {C : Addr}
end
end Cn
namespace Cn
open PySem PySem.Spec PyProof.Rows L2 Ck
theorem PI.orr {X : Cx} {tg e : Expr} {w1 w2 : TI} (h : PI X tg e w1) (k : PI X tg e w2) : PI X tg e (fun σ H R => w1 σ H R ∨ w2 σ H R) := ⟨fun pins s σ H R I q => q.elim (h.run pins s σ H R I) (k.run pins s σ H R I)⟩
theorem dcP_list {K : PySem.W.Frag} {o0 : HO} {a : Addr} {xs : List V} {g : TG} {tt : TT} {tk tv : TE} {vs : List Nat} {σ : L2.St} {H1 : Hp} {D : Addr} {Qd : Hp → Prop} (Pv : Nat → Hp → Prop) (h0 : Pv 0 (upd H1 D o0)) (hl : ∀ i H, i ≤ xs.length → Pv i H → SqL K H a xs)
    (hs : ∀ i x H, xs[i]? = some x → Pv i H → g x (wipe σ vs) H fun τ G2 => wipe τ vs = wipe σ vs ∧ tt τ G2 fun b G3 => if b = true then tk τ G3 fun y G4 => tv τ G4 fun z G5 => ∃ G6, DPut G5 D y z G6 ∧ Pv (i + 1) G6 else Pv (i + 1) G3) (hd : ∀ H, Pv xs.length H → Qd H) :
    ∃ W : Nat → Nat → Hp → Prop, (∃ m, W 0 m (upd H1 D o0)) ∧ ∀ i m G, W i m G → ((Itl K a).stop i G ∧ Qd G) ∨
      ((Itl K a).go i G ∧ ∃ Nx : Hp → Prop, (∀ G', Nx G' → ∃ m', m' < m ∧ W (i + 1) m' G') ∧ ∀ x G', (Itl K a).yld i G x G' → g x (wipe σ vs) G' fun τ G2 => wipe τ vs = wipe σ vs ∧ tt τ G2 fun b G3 => if b = true then tk τ G3 fun y G4 => tv τ G4 fun z G5 => ∃ G6, DPut G5 D y z G6 ∧ Nx G6 else Nx G3) := by
  refine ⟨fun i m G => m = xs.length - i ∧ i ≤ xs.length ∧ Pv i G, ⟨_, rfl, Nat.zero_le _, h0⟩, ?_⟩
  rintro i m G ⟨rfl, hi, p⟩
  have sq := hl i G hi p
  rcases Nat.lt_or_ge i xs.length with lt | ge
  · refine .inr ⟨⟨xs, xs[i], sq, List.getElem?_eq_getElem lt⟩, Pv (i + 1), fun G' p' => ⟨_, by omega, rfl, lt, p'⟩, ?_⟩
    rintro x G' ⟨rfl, y⟩
    exact hs i x _ (y xs sq) p
  · have e : i = xs.length := Nat.le_antisymm hi ge
    exact .inl ⟨⟨xs, sq, ge⟩, hd G (e ▸ p)⟩
def SeqH (H : Hp) (b : Addr) (us : List V) : Prop := H b = some (.lst us) ∨ H b = some (.tup us)
theorem seqSame {H H' : Hp} (s : Same H H') {b : Addr} {us : List V} (h : SeqH H b us) : SeqH H' b us := h.imp (s _ _) (s _ _)
theorem seqSq {K : PySem.W.Frag} {H : Hp} {b : Addr} {us : List V} (h : SeqH H b us) : SqL K H b us ∨ SqT K H b us := h.imp (fun z => .inl (.inl z)) (fun z => .inl (.inl z))
theorem seqWalk {K : PySem.W.Frag} {a : Addr} {xs : List V} {σ : L2.St} {H : Hp} {i : Nat} {R : It → Hp → Prop} {H0 : Hp} (hv : σ[i]? = some (some (.ref a))) (hq : SeqH H0 a xs) (s0 : Same H0 H) (k : ∀ J, Walk J xs.length (fun G => Same H0 G) (YAt xs) → R J H) : iList K (tVar i) σ H R ∨ iTup K (tVar i) σ H R :=
  hq.elim (fun z => .inl ⟨_, hv, a, rfl, ⟨xs, .inl (.inl (s0 _ _ z))⟩, k _ ((walk_list (K := K)).mono (fun _ (s : Same H0 _) => .inl (.inl (s _ _ z))) fun _ _ _ _ _ _ y => y)⟩) (fun z => .inr ⟨_, hv, a, rfl, ⟨xs, .inl (.inl (s0 _ _ z))⟩, k _ ((walk_tup (K := K)).mono (fun _ (s : Same H0 _) => .inl (.inl (s _ _ z))) fun _ _ _ _ _ _ y => y)⟩)
theorem seqTyB {K : PySem.W.Frag} {H : Hp} {b : Addr} {us : List V} (h : SeqH H b us) : ∃ t, TyX K H (.ref b) t ∧ PySem.W.kitAny K t [.type "list", .type "tuple"] = some true := by
  rcases h with h | h
  · exact ⟨.type "list", .base (.lst h), kitAny_cons (b := true) (kit_ty (by decide +kernel)) (fun z => absurd z (by decide)) fun _ => rfl⟩
  · exact ⟨.type "tuple", .base (.tup h), kitAny_cons (b := false) (kit_ty (by decide +kernel)) (fun _ => kitAny_cons (b := true) (kit_ty (by decide +kernel)) (fun z => absurd z (by decide)) fun _ => rfl) (fun z => absurd z (by decide))⟩
theorem pairedGetQ {α β : Type} {F : α → β → Prop} : ∀ {xs : List α} {ys : List β} {i : Nat} {x : α}, Paired F xs ys → xs[i]? = some x → ∃ y, ys[i]? = some y ∧ F x y
  | _, _, i, x, .nil, h => by rw [List.getElem?_nil] at h; cases h
  | _, _, 0, x, .cons a t, h => by cases h; exact ⟨_, rfl, a⟩
  | _, _, i + 1, x, .cons a t, h => by
    rw [List.getElem?_cons_succ] at h
    obtain ⟨y, h1, h2⟩ := pairedGetQ t h
    exact ⟨y, by rw [List.getElem?_cons_succ]; exact h1, h2⟩
theorem nd_take {α : Type} {xs : List α} {m : Nat} {x : α} (nd : xs.Nodup) (h : xs[m]? = some x) : x ∉ xs.take m := fun z => by
  obtain ⟨j, hj⟩ := List.getElem?_of_mem z
  rw [List.getElem?_take] at hj
  split at hj
  · have h1 := List.getElem?_eq_some_iff.mp h
    have h2 := List.getElem?_eq_some_iff.mp hj
    have := (List.getElem_inj (h₀ := h2.1) (h₁ := h1.1) nd).mp (h2.2.trans h1.2.symm)
    omega
  · cases hj
section
variable {P : Program} {w : World} {K : PySem.W.Frag} {mg : Str → Option Value} {base : Heap} {C : Addr}
structure NotesOk (prs : List (Nat × Nat)) (ns : List (List Nat × List Nat)) : Prop where
  len : ns.length ≤ 200
  all : ∀ p ∈ ns, NoteOk prs p
end
end Cn
namespace Cn
open PySem PySem.Spec PyProof.Rows L2 Ck
def times (ns : List (List Nat × List Nat)) (p : Nat × Nat) : Nat := ns.countP fun q => decide (p.1 ∈ q.1) && decide (p.2 ∈ q.2)
theorem times_snoc {ns : List (List Nat × List Nat)} {q : List Nat × List Nat} {p : Nat × Nat} : times (ns ++ [q]) p = times ns p + if p.1 ∈ q.1 ∧ p.2 ∈ q.2 then 1 else 0 := by
  unfold times
  rw [List.countP_append, List.countP_singleton]
  by_cases c : p.1 ∈ q.1 ∧ p.2 ∈ q.2
  · rw [if_pos c, if_pos (by rw [decide_eq_true c.1, decide_eq_true c.2]; rfl)]
  · rw [if_neg c, if_neg (fun z => c ⟨of_decide_eq_true (Bool.and_eq_true _ _ ▸ z).1, of_decide_eq_true (Bool.and_eq_true _ _ ▸ z).2⟩)]
def addRow (g : Nat × Nat → Nat) (i : Nat) (js : List Nat) : Nat × Nat → Nat := fun p => g p + if p.1 = i ∧ p.2 ∈ js then 1 else 0
def addBox (g : Nat × Nat → Nat) (is js : List Nat) : Nat × Nat → Nat := fun p => g p + if p.1 ∈ is ∧ p.2 ∈ js then 1 else 0
theorem addRow_nil {g : Nat × Nat → Nat} {i : Nat} : addRow g i [] = g := funext fun p => by
  show g p + (if p.1 = i ∧ p.2 ∈ [] then 1 else 0) = g p
  rw [if_neg (fun z => nomatch z.2)]
  rfl
theorem addBox_nil {g : Nat × Nat → Nat} {js : List Nat} : addBox g [] js = g := funext fun p => by
  show g p + (if p.1 ∈ [] ∧ p.2 ∈ js then 1 else 0) = g p
  rw [if_neg (fun z => nomatch z.1)]
  rfl
theorem addRow_snoc {g : Nat × Nat → Nat} {i j : Nat} {js : List Nat} (h : j ∉ js) : (fun p => if p = (i, j) then addRow g i js (i, j) + 1 else addRow g i js p) = addRow g i (js ++ [j]) := funext fun p => by
  show (if p = (i, j) then g (i, j) + (if i = i ∧ j ∈ js then 1 else 0) + 1 else g p + (if p.1 = i ∧ p.2 ∈ js then 1 else 0)) = g p + (if p.1 = i ∧ p.2 ∈ js ++ [j] then 1 else 0)
  by_cases e : p = (i, j)
  · rw [if_pos e, if_neg (fun z => h z.2), e, if_pos ⟨rfl, List.mem_append_right _ (List.mem_singleton.mpr rfl)⟩]
  · rw [if_neg e]
    by_cases c : p.1 = i ∧ p.2 ∈ js
    · rw [if_pos c, if_pos ⟨c.1, List.mem_append_left _ c.2⟩]
    · rw [if_neg c, if_neg (fun z => (List.mem_append.mp z.2).elim (fun y => c ⟨z.1, y⟩) fun y => e (Prod.ext z.1 (List.mem_singleton.mp y)))]
theorem addBox_snoc {g : Nat × Nat → Nat} {i : Nat} {is js : List Nat} (h : i ∉ is) : addRow (addBox g is js) i js = addBox g (is ++ [i]) js := funext fun p => by
  show g p + (if p.1 ∈ is ∧ p.2 ∈ js then 1 else 0) + (if p.1 = i ∧ p.2 ∈ js then 1 else 0) = g p + (if p.1 ∈ is ++ [i] ∧ p.2 ∈ js then 1 else 0)
  by_cases e : p.1 = i
  · by_cases c : p.2 ∈ js <;> simp [e, h, c]
  · by_cases c : p.1 ∈ is <;> by_cases d : p.2 ∈ js <;> simp [e, c, d]
def cntD (g : Nat × Nat → Nat) (prs : List (Nat × Nat)) : List (List Key × V) := byPair (fun p => vn (g p)) prs
theorem cntD_up {g : Nat × Nat → Nat} {q : Nat × Nat} {prs : List (Nat × Nat)} (h : q ∈ prs) : putK (cntD g prs) (pk q) (.int ((g q : Int) + 1)) = cntD (fun p => if p = q then g q + 1 else g p) prs := by
  unfold cntD
  rw [byPair_set h]
  congr 1
  funext p
  show (if p = q then V.int ((g q : Int) + 1) else vn (g p)) = vn (if p = q then g q + 1 else g p)
  split
  · rfl
  · rfl
theorem nd_asc {xs : List Nat} (h : xs.Pairwise (· < ·)) : xs.Nodup := h.imp fun z e => by subst e; omega
theorem take_at {α : Type} {xs : List α} {m : Nat} {x : α} (h : xs[m]? = some x) : xs.take (m + 1) = xs.take m ++ [x] := by rw [List.take_add_one, h]; rfl
section
variable {P : Program} {w : World} {K : PySem.W.Frag} {mg : Str → Option Value} {base : Heap} {C : Addr}
end
end Cn
namespace Cn
open PySem PySem.Spec PyProof.Rows L2 Ck
theorem ixNat {n i : Nat} (h : i < n) : ixN n (i : Int) = some i := by
  unfold ixN
  rw [if_pos (Int.natCast_nonneg _), if_pos (by omega), Int.toNat_natCast]
theorem noneBack {H H1 : Hp} {D : Addr} (s : Same H H1) (h : H1 D = none) : H D = none := by
  cases e : H D with
  | none => rfl
  | some o => rw [s _ _ e] at h; cases h
end Cn
namespace Cn
open PySem PySem.Spec PyProof.Rows L2 Ck
/-! two tuples of numbers side by side -/
theorem small6063 {m : Nat} (h : m ≤ 6100) : m < sizeLine := Nat.lt_of_le_of_lt h (by decide)
/-- budgets of so many places -/
def BuAt (H : Hp) (b : Addr) (T R : List Nat) : Prop := ∃ t r, H b = some (.tup [.ref t, .ref r]) ∧ TN H t T ∧ TN H r R
theorem buSame {H H' : Hp} {b : Addr} {T R : List Nat} (s : Same H H') (h : BuAt H b T R) : BuAt H' b T R := by
  obtain ⟨t, r, h1, h2, h3⟩ := h
  exact ⟨t, r, s _ _ h1, s _ _ h2, s _ _ h3⟩
/-- own look: at no place greater -/
def leB (n : Nat) (X Y : List Nat) : Bool := ((List.range n).map fun j => decide (X.getD j 0 ≤ Y.getD j 0)).all id
theorem leB_iff {n : Nat} {X Y : List Nat} : leB n X Y = true ↔ ∀ j, j < n → X.getD j 0 ≤ Y.getD j 0 := by
  unfold leB
  rw [List.all_eq_true]
  constructor
  · intro h j hj
    exact of_decide_eq_true (h _ (List.mem_map.mpr ⟨j, List.mem_range.mpr hj, rfl⟩))
  · intro h x hx
    obtain ⟨j, hj, rfl⟩ := List.mem_map.mp hx
    exact decide_eq_true (h j (List.mem_range.mp hj))
theorem pairedUnsnoc {α β : Type} {F : α → β → Prop} {y : β} : ∀ {us : List α} {ws : List β}, Paired F us (ws ++ [y]) → ∃ us' x, us = us' ++ [x] ∧ Paired F us' ws ∧ F x y
  | _, [], .cons a .nil => ⟨[], _, rfl, .nil, a⟩
  | _, z :: ws, .cons a t => by
    obtain ⟨us', x, rfl, h1, h2⟩ := pairedUnsnoc t
    exact ⟨_ :: us', x, rfl, .cons a h1, h2⟩
theorem lastG {us : List V} {v : V} : (us ++ [v])[(us ++ [v]).length - 1]? = some v := by
  rw [List.length_append]
  show (us ++ [v])[us.length + 1 - 1]? = some v
  rw [Nat.add_sub_cancel, List.getElem?_append_right (Nat.le_refl _), Nat.sub_self]
  rfl
end Cn
namespace Cn
/-! notes held, counted twice -/
theorem countP_or {α : Type} {f g : α → Bool} : ∀ {l : List α}, (∀ x ∈ l, ¬ (f x = true ∧ g x = true)) → (l.countP fun x => f x || g x) = l.countP f + l.countP g
  | [], _ => rfl
  | x :: l, h => by
    have ih := countP_or (f := f) (g := g) (l := l) fun y hy => h y (List.mem_cons_of_mem _ hy)
    have hx := h x List.mem_cons_self
    rw [List.countP_cons, List.countP_cons, List.countP_cons, ih]
    cases a : f x <;> cases b : g x <;> simp_all <;> omega
theorem countP_one {p : Nat × Nat} : ∀ {l : List (Nat × Nat)}, l.Nodup → p ∈ l → (l.countP fun q => decide (q = p)) = 1
  | x :: l, nd, h => by
    obtain ⟨n1, n2⟩ := List.nodup_cons.mp nd
    rw [List.countP_cons]
    by_cases e : x = p
    · subst e
      rw [List.countP_eq_zero.mpr fun q hq => by simp only [decide_eq_true_eq]; exact fun z => n1 (z ▸ hq)]
      simp
    · rw [countP_one n2 ((List.mem_cons.mp h).resolve_left fun z => e z.symm)]
      simp [e]
theorem countRow {i : Nat} {prs : List (Nat × Nat)} (nd : prs.Nodup) : ∀ {js : List Nat}, js.Nodup → (∀ j ∈ js, (i, j) ∈ prs) → (prs.countP fun q => decide (q.1 = i) && decide (q.2 ∈ js)) = js.length
  | [], _, _ => List.countP_eq_zero.mpr fun q _ => by simp
  | j :: js, h, m => by
    obtain ⟨n1, n2⟩ := List.nodup_cons.mp h
    have ih := countRow (js := js) nd n2 fun k hk => m k (List.mem_cons_of_mem _ hk)
    have e : (prs.countP fun q => decide (q.1 = i) && decide (q.2 ∈ j :: js)) = prs.countP fun q => decide (q = (i, j)) || (decide (q.1 = i) && decide (q.2 ∈ js)) := by
      refine List.countP_congr fun q _ => ?_
      simp only [Bool.and_eq_true, Bool.or_eq_true, decide_eq_true_eq, List.mem_cons]
      constructor
      · rintro ⟨a, b | b⟩
        · exact .inl (Prod.ext a b)
        · exact .inr ⟨a, b⟩
      · rintro (z | ⟨a, b⟩)
        · rw [z]; exact ⟨rfl, .inl rfl⟩
        · exact ⟨a, .inr b⟩
    rw [e, countP_or fun q _ => ?_, countP_one nd (m j List.mem_cons_self), ih, List.length_cons, Nat.add_comm]
    rintro ⟨a, b⟩
    simp only [Bool.and_eq_true, decide_eq_true_eq] at a b
    rw [a] at b
    exact n1 b.2
theorem countBox {prs : List (Nat × Nat)} {js : List Nat} (nd : prs.Nodup) (hj : js.Nodup) : ∀ {is : List Nat}, is.Nodup → (∀ i ∈ is, ∀ j ∈ js, (i, j) ∈ prs) → (prs.countP fun q => decide (q.1 ∈ is) && decide (q.2 ∈ js)) = is.length * js.length
  | [], _, _ => by rw [List.length_nil, Nat.zero_mul]; exact List.countP_eq_zero.mpr fun q _ => by simp
  | i :: is, h, m => by
    obtain ⟨n1, n2⟩ := List.nodup_cons.mp h
    have ih := countBox (is := is) nd hj n2 fun k hk => m k (List.mem_cons_of_mem _ hk)
    have e : (prs.countP fun q => decide (q.1 ∈ i :: is) && decide (q.2 ∈ js)) = prs.countP fun q => (decide (q.1 = i) && decide (q.2 ∈ js)) || (decide (q.1 ∈ is) && decide (q.2 ∈ js)) := by
      refine List.countP_congr fun q _ => ?_
      simp only [Bool.and_eq_true, Bool.or_eq_true, decide_eq_true_eq, List.mem_cons]
      constructor
      · rintro ⟨a | a, b⟩
        · exact .inl ⟨a, b⟩
        · exact .inr ⟨a, b⟩
      · rintro (⟨a, b⟩ | ⟨a, b⟩)
        · exact ⟨.inl a, b⟩
        · exact ⟨.inr a, b⟩
    rw [e, countP_or fun q _ => ?_, countRow nd hj (m i List.mem_cons_self), ih, List.length_cons, Nat.add_mul, Nat.one_mul, Nat.add_comm]
    rintro ⟨a, b⟩
    simp only [Bool.and_eq_true, decide_eq_true_eq] at a b
    rw [a.1] at b
    exact n1 b.1
theorem sumAdd {α : Type} {f g : α → Nat} : ∀ {l : List α}, (l.map fun x => f x + g x).sum = (l.map f).sum + (l.map g).sum
  | [] => rfl
  | x :: l => by
    have := sumAdd (f := f) (g := g) (l := l)
    simp only [List.map_cons, List.sum_cons]
    omega
theorem sumCount {α : Type} {c : α → Bool} : ∀ {l : List α}, (l.map fun x => if c x = true then 1 else 0).sum = l.countP c
  | [] => rfl
  | x :: l => by
    have := sumCount (c := c) (l := l)
    simp only [List.map_cons, List.sum_cons, List.countP_cons]
    omega
theorem sumLe {α : Type} {f : α → Nat} : ∀ {l : List α}, (∀ x ∈ l, 1 ≤ f x) → l.length ≤ (l.map f).sum ∧ ((l.map f).sum = l.length ↔ ∀ x ∈ l, f x ≤ 1)
  | [], _ => ⟨Nat.le_refl _, by simp⟩
  | x :: l, h => by
    obtain ⟨h1, h2⟩ := sumLe (l := l) fun y hy => h y (List.mem_cons_of_mem _ hy)
    have hx := h x List.mem_cons_self
    simp only [List.map_cons, List.sum_cons, List.length_cons, List.forall_mem_cons]
    refine ⟨by omega, fun e => ⟨by omega, h2.mp (by omega)⟩, fun ⟨a, b⟩ => ?_⟩
    have := h2.mpr b
    omega
end Cn
namespace Ck
/-! over and under, once more -/
section
variable {ps : List (Option Nat)}
theorem rd_cases (hp : Ps ps) {x y : Nat} (hy : y < ps.length) (h : x ∈ road ps y) : x = y ∨ ∃ p, ps[y]? = some (some p) ∧ p < y ∧ x ∈ road ps p := by
  rcases opt_cases hy with e | ⟨p, e⟩
  · rw [road_none e] at h
    exact .inl (List.mem_singleton.mp h)
  · rw [road_some hp e] at h
    rcases List.mem_append.mp h with h | h
    · exact .inr ⟨p, e, hp y p e, h⟩
    · exact .inl (List.mem_singleton.mp h)
theorem rd_up (hp : Ps ps) {x y p : Nat} (e : ps[y]? = some (some p)) (h : x ∈ road ps p) : x ∈ road ps y := by
  rw [road_some hp e]
  exact List.mem_append_left _ h
theorem rd_trans (hp : Ps ps) {x y : Nat} : ∀ z, z < ps.length → x ∈ road ps y → y ∈ road ps z → x ∈ road ps z := by
  intro z
  induction z using Nat.strongRecOn with
  | ind z ih =>
    intro hz hxy hyz
    rcases rd_cases hp hz hyz with rfl | ⟨p, e, hpz, h⟩
    · exact hxy
    · exact rd_up hp e (ih p hpz (Nat.lt_trans hpz hz) hxy h)
theorem rd_lin (hp : Ps ps) {x y : Nat} : ∀ z, z < ps.length → x ∈ road ps z → y ∈ road ps z → x ∈ road ps y ∨ y ∈ road ps x := by
  intro z
  induction z using Nat.strongRecOn with
  | ind z ih =>
    intro hz hx hy
    rcases rd_cases hp hz hx with rfl | ⟨p, e, hpz, h⟩
    · exact .inr hy
    · rcases rd_cases hp hz hy with rfl | ⟨p', e', _, h'⟩
      · exact .inl hx
      · rw [e] at e'
        cases e'
        exact ih p hpz (Nat.lt_trans hpz hz) h h'
theorem rd_anti (hp : Ps ps) {x y : Nat} (hx : x < ps.length) (hy : y < ps.length) (h : x ∈ road ps y) (k : y ∈ road ps x) : x = y := by
  have := road_le hp y hy x h
  have := road_le hp x hx y k
  omega
theorem rd_lt (hp : Ps ps) {x y : Nat} (hy : y < ps.length) (h : x ∈ road ps y) : x < ps.length := Nat.lt_of_le_of_lt (road_le hp y hy x h) hy
theorem road_asc (hp : Ps ps) : ∀ z, z < ps.length → (road ps z).Pairwise (· < ·) := by
  intro z
  induction z using Nat.strongRecOn with
  | ind z ih =>
    intro hz
    rcases opt_cases hz with e | ⟨p, e⟩
    · rw [road_none e]; exact List.pairwise_singleton _ _
    · have hl := hp z p e
      rw [road_some hp e, List.pairwise_append]
      refine ⟨ih p hl (Nat.lt_trans hl hz), List.pairwise_singleton _ _, fun a ha b hb => ?_⟩
      rw [List.mem_singleton.mp hb]
      exact Nat.lt_of_le_of_lt (road_le hp p (Nat.lt_trans hl hz) a ha) hl
end
/-! the topmost place up to which none is cut -/
def top (ps : List (Option Nat)) (cut : List Nat) (i : Nat) : Nat :=
  match ps[i]? with
  | some (some p) => if _h : p < i then (if p ∈ cut then i else top ps cut p) else i
  | _ => i
termination_by i
section
variable {ps : List (Option Nat)} {cut : List Nat}
theorem top_none {i : Nat} (h : ps[i]? = some none) : top ps cut i = i := by rw [top, h]
theorem top_cut {i p : Nat} (hp : Ps ps) (h : ps[i]? = some (some p)) (c : p ∈ cut) : top ps cut i = i := by
  rw [top, h]
  dsimp only
  rw [dif_pos (hp i p h), if_pos c]
theorem top_up {i p : Nat} (hp : Ps ps) (h : ps[i]? = some (some p)) (c : p ∉ cut) : top ps cut i = top ps cut p := by
  rw [top, h]
  dsimp only
  rw [dif_pos (hp i p h), if_neg c]
theorem top_road (hp : Ps ps) : ∀ x, x < ps.length → top ps cut x ∈ road ps x := by
  intro x
  induction x using Nat.strongRecOn with
  | ind x ih =>
    intro hx
    rcases opt_cases hx with e | ⟨p, e⟩
    · rw [top_none e]; exact road_self hp hx
    · by_cases c : p ∈ cut
      · rw [top_cut hp e c]; exact road_self hp hx
      · rw [top_up hp e c]
        exact rd_up hp e (ih p (hp x p e) (Nat.lt_trans (hp x p e) hx))
theorem top_free (hp : Ps ps) : ∀ x, x < ps.length → x ∉ cut → top ps cut x ∉ cut := by
  intro x
  induction x using Nat.strongRecOn with
  | ind x ih =>
    intro hx nx
    rcases opt_cases hx with e | ⟨p, e⟩
    · rw [top_none e]; exact nx
    · by_cases c : p ∈ cut
      · rw [top_cut hp e c]; exact nx
      · rw [top_up hp e c]
        exact ih p (hp x p e) (Nat.lt_trans (hp x p e) hx) c
/-- all from the topmost one down are alike -/
theorem top_seg (hp : Ps ps) {z : Nat} : ∀ x, x < ps.length → x ∉ cut → z ∈ road ps x → top ps cut x ∈ road ps z → z ∉ cut ∧ top ps cut z = top ps cut x := by
  intro x
  induction x using Nat.strongRecOn with
  | ind x ih =>
    intro hx nx hz ht
    rcases rd_cases hp hx hz with rfl | ⟨p, e, hpx, h⟩
    · exact ⟨nx, rfl⟩
    · by_cases c : p ∈ cut
      · rw [top_cut hp e c] at ht
        have h1 := road_le hp p (Nat.lt_trans hpx hx) z h
        have h2 := road_le hp z (Nat.lt_of_le_of_lt h1 (Nat.lt_trans hpx hx)) x ht
        omega
      · rw [top_up hp e c] at ht ⊢
        exact ih p hpx (Nat.lt_trans hpx hx) c h ht
theorem top_same (hp : Ps ps) {y : Nat} : ∀ x, x < ps.length → y ∈ road ps x → (∀ z ∈ road ps x, y ∈ road ps z → z ≠ x → z ∉ cut) → top ps cut x = top ps cut y := by
  intro x
  induction x using Nat.strongRecOn with
  | ind x ih =>
    intro hx hy hf
    rcases rd_cases hp hx hy with rfl | ⟨p, e, hpx, h⟩
    · rfl
    · have hpl := Nat.lt_trans hpx hx
      have c : p ∉ cut := hf p (rd_up hp e (road_self hp hpl)) h (Nat.ne_of_lt hpx)
      rw [top_up hp e c]
      refine ih p hpx hpl h fun z hz hyz _ => hf z (rd_up hp e hz) hyz fun e2 => ?_
      have := road_le hp p hpl z hz
      omega
/-- joined with a place over it just if none between is cut -/
theorem join_iff (hp : Ps ps) {x y : Nat} (hx : x < ps.length) (hy : y ∈ road ps x) : (x ∉ cut ∧ top ps cut x = top ps cut y) ↔ ∀ z ∈ road ps x, y ∈ road ps z → z ∉ cut := by
  have hyl := rd_lt hp hx hy
  constructor
  · rintro ⟨nx, e⟩ z hz hyz
    have hzl := rd_lt hp hx hz
    exact (top_seg hp x hx nx hz (e ▸ rd_trans hp z hzl (top_road hp y hyl) hyz)).1
  · intro h
    exact ⟨h x (road_self hp hx) hy, top_same hp x hx hy fun z hz hyz _ => h z hz hyz⟩
/-! one place more cut -/
theorem cut_far (hp : Ps ps) {x : Nat} : ∀ y, y < ps.length → ¬ (x ∈ road ps y ∧ top ps cut y = top ps cut x) → top ps (x :: cut) y = top ps cut y := by
  intro y
  induction y using Nat.strongRecOn with
  | ind y ih =>
    intro hy hn
    rcases opt_cases hy with e | ⟨p, e⟩
    · rw [top_none e, top_none e]
    · by_cases c : p ∈ cut
      · rw [top_cut hp e c, top_cut hp e (List.mem_cons_of_mem _ c)]
      · have hpy := hp y p e
        have hpl := Nat.lt_trans hpy hy
        have nx : p ≠ x := fun z => by
          subst z
          exact hn ⟨rd_up hp e (road_self hp hpl), top_up hp e c⟩
        rw [top_up hp e c, top_up hp e (fun z => (List.mem_cons.mp z).elim nx c)]
        exact ih p hpy hpl fun z => hn ⟨rd_up hp e z.1, by rw [top_up hp e c]; exact z.2⟩
theorem cut_near (hp : Ps ps) {x : Nat} : ∀ y, y < ps.length → y ∉ cut → y ≠ x → x ∈ road ps y → top ps cut y = top ps cut x → ps[top ps (x :: cut) y]? = some (some x) ∧ top ps (x :: cut) y ∈ road ps y ∧ ∀ c, ps[c]? = some (some x) → c ∈ road ps y → top ps (x :: cut) y = c := by
  intro y
  induction y using Nat.strongRecOn with
  | ind y ih =>
    intro hy ny ne hx ht
    rcases rd_cases hp hy hx with z | ⟨p, e, hpy, h⟩
    · exact absurd z.symm ne
    · have hpl := Nat.lt_trans hpy hy
      by_cases px : p = x
      · subst px
        have et : top ps (p :: cut) y = y := top_cut hp e List.mem_cons_self
        rw [et]
        refine ⟨e, road_self hp hy, fun c hc hcy => ?_⟩
        rcases rd_cases hp hy hcy with z | ⟨p', e', _, h'⟩
        · exact z.symm
        · rw [e] at e'
          cases e'
          have := road_le hp p hpl c h'
          have := hp c p hc
          omega
      · have c : p ∉ cut := fun c => by
          rw [top_cut hp e c] at ht
          have hxl := rd_lt hp hy hx
          have h1 := road_le hp x hxl _ (top_road (cut := cut) hp x hxl)
          have h2 := road_le hp p hpl x h
          omega
        have et : top ps (x :: cut) y = top ps (x :: cut) p := top_up hp e fun z => (List.mem_cons.mp z).elim px c
        rw [top_up hp e c] at ht
        obtain ⟨i1, i2, i3⟩ := ih p hpy hpl c px h ht
        rw [et]
        refine ⟨i1, rd_up hp e i2, fun c' hc hcy => ?_⟩
        rcases rd_cases hp hy hcy with z | ⟨p', e', _, h'⟩
        · subst z
          rw [e] at hc
          cases hc
          exact absurd rfl px
        · rw [e] at e'
          cases e'
          exact i3 c' hc h'
/-! the pieces -/
def comp (ps : List (Option Nat)) (cut : List Nat) (r : Nat) : List Nat := (List.range ps.length).filter fun y => decide (y ∉ cut) && decide (top ps cut y = r)
theorem comp_mem {r y : Nat} : y ∈ comp ps cut r ↔ y < ps.length ∧ y ∉ cut ∧ top ps cut y = r := by
  unfold comp
  rw [List.mem_filter, List.mem_range, Bool.and_eq_true, decide_eq_true_iff, decide_eq_true_iff]
/-- as the law cuts a piece at a place -/
def cutL (ps : List (Option Nat)) (pc : List Nat) (x : Nat) : List (List Nat) :=
  ((pc.filter fun y => !decide (y ∈ pc.filter fun y => decide (x ∈ road ps y))) ::
    ((pc.filter fun y => decide (x ∈ road ps y)).filter fun c => decide (ps[c]? = some (some x))).map fun c => (pc.filter fun y => decide (x ∈ road ps y)).filter fun y => decide (c ∈ road ps y)).filter fun l => !l.isEmpty
structure Tops (ps : List (Option Nat)) (cut : List Nat) (rs : List Nat) : Prop where
  nd : rs.Nodup
  mem : ∀ r, r ∈ rs ↔ r < ps.length ∧ r ∉ cut ∧ top ps cut r = r
theorem filter_eq {α : Type} {f g : α → Bool} {xs : List α} (h : ∀ x ∈ xs, f x = g x) : xs.filter f = xs.filter g := List.filter_congr h
/-- the piece of a place, cut at it -/
theorem cut_parts (hp : Ps ps) {x : Nat} (hx : x < ps.length) (nx : x ∉ cut) : cutL ps (comp ps cut (top ps cut x)) x = ((if top ps cut x = x then [] else [top ps cut x]) ++ (List.range ps.length).filter fun c => decide (c ∉ cut) && decide (ps[c]? = some (some x))).map (comp ps (x :: cut)) := by
  have hr := top_road (cut := cut) hp x hx
  have hrl := rd_lt hp hx hr
  have hrx := road_le hp x hx _ hr
  -- those under it
  have eu : ((comp ps cut (top ps cut x)).filter fun y => decide (x ∈ road ps y)).filter (fun c => decide (ps[c]? = some (some x))) = (List.range ps.length).filter fun c => decide (c ∉ cut) && decide (ps[c]? = some (some x)) := by
    unfold comp
    rw [List.filter_filter, List.filter_filter]
    refine List.filter_congr fun c hc => ?_
    have hcl := List.mem_range.mp hc
    rw [Bool.eq_iff_iff]
    simp only [Bool.and_eq_true, decide_eq_true_eq]
    constructor
    · rintro ⟨⟨a, b⟩, d, e⟩
      exact ⟨d, a⟩
    · rintro ⟨d, a⟩
      exact ⟨⟨a, rd_up hp a (road_self hp hx)⟩, d, top_up hp a nx⟩
  have ec : ∀ c, c < ps.length → c ∉ cut → ps[c]? = some (some x) → ((comp ps cut (top ps cut x)).filter fun y => decide (x ∈ road ps y)).filter (fun y => decide (c ∈ road ps y)) = comp ps (x :: cut) c := by
    intro c hc nc e
    have hxc := hp c x e
    unfold comp
    rw [List.filter_filter, List.filter_filter]
    refine List.filter_congr fun y hy => ?_
    have hyl := List.mem_range.mp hy
    rw [Bool.eq_iff_iff]
    simp only [Bool.and_eq_true, decide_eq_true_eq]
    constructor
    · rintro ⟨⟨a, b⟩, d, t⟩
      have ne : y ≠ x := fun z => by
        subst z
        have := road_le hp y hyl c a
        omega
      exact ⟨fun z => (List.mem_cons.mp z).elim ne d, (cut_near hp y hyl d ne b t).2.2 c e a⟩
    · rintro ⟨d, t⟩
      have dc : y ∉ cut := fun z => d (List.mem_cons_of_mem _ z)
      have hcy : c ∈ road ps y := t ▸ top_road hp y hyl
      have hxy : x ∈ road ps y := rd_trans hp y hyl (rd_up hp e (road_self hp hx)) hcy
      by_cases j : x ∈ road ps y ∧ top ps cut y = top ps cut x
      · exact ⟨⟨hcy, hxy⟩, dc, j.2⟩
      · have := cut_far hp y hyl j
        rw [t] at this
        have h2 := top_seg hp y hyl dc hcy (this ▸ road_self hp hc)
        rw [← h2.2, top_up hp e nx] at this
        exact absurd ⟨hxy, by rw [← h2.2, top_up hp e nx]⟩ j
  have er : ((comp ps cut (top ps cut x)).filter fun y => !decide (y ∈ (comp ps cut (top ps cut x)).filter fun y => decide (x ∈ road ps y))) = if top ps cut x = x then [] else comp ps (x :: cut) (top ps cut x) := by
    have e1 : ((comp ps cut (top ps cut x)).filter fun y => !decide (y ∈ (comp ps cut (top ps cut x)).filter fun y => decide (x ∈ road ps y))) = (comp ps cut (top ps cut x)).filter fun y => !decide (x ∈ road ps y) := by
      refine List.filter_congr fun y hy => ?_
      congr 1
      rw [Bool.eq_iff_iff, decide_eq_true_iff, decide_eq_true_iff, List.mem_filter, decide_eq_true_iff]
      exact ⟨fun z => z.2, fun z => ⟨hy, z⟩⟩
    rw [e1]
    by_cases c : top ps cut x = x
    · rw [if_pos c, List.filter_eq_nil_iff]
      intro y hy
      obtain ⟨hyl, _, t⟩ := comp_mem.mp hy
      have := top_road (cut := cut) hp y hyl
      rw [t, c] at this
      simpa using this
    · rw [if_neg c]
      have nr : x ∉ road ps (top ps cut x) := fun z => c (rd_anti hp hrl hx hr z)
      unfold comp
      rw [List.filter_filter]
      refine List.filter_congr fun y hy => ?_
      have hyl := List.mem_range.mp hy
      rw [Bool.eq_iff_iff]
      simp only [Bool.and_eq_true, decide_eq_true_eq, Bool.not_eq_true', decide_eq_false_iff_not]
      constructor
      · rintro ⟨a, d, t⟩
        refine ⟨fun z => (List.mem_cons.mp z).elim (fun z => a (by rw [← z]; exact road_self hp hyl)) d, ?_⟩
        rw [cut_far hp y hyl (fun z => a z.1)]
        exact t
      · rintro ⟨d, t⟩
        have dc : y ∉ cut := fun z => d (List.mem_cons_of_mem _ z)
        have ne : y ≠ x := fun z => d (z ▸ List.mem_cons_self)
        have j : ¬ (x ∈ road ps y ∧ top ps cut y = top ps cut x) := fun j => by
          have h1 := (cut_near hp y hyl dc ne j.1 j.2).1
          rw [t] at h1
          have := hp _ _ h1
          omega
        have e2 := cut_far hp y hyl j
        rw [t] at e2
        exact ⟨fun z => j ⟨z, e2.symm⟩, dc, e2.symm⟩
  unfold cutL
  rw [er, eu]
  have em : (((List.range ps.length).filter fun c => decide (c ∉ cut) && decide (ps[c]? = some (some x))).map fun c => ((comp ps cut (top ps cut x)).filter fun y => decide (x ∈ road ps y)).filter fun y => decide (c ∈ road ps y)) = ((List.range ps.length).filter fun c => decide (c ∉ cut) && decide (ps[c]? = some (some x))).map (comp ps (x :: cut)) := by
    refine List.map_congr_left fun c hc => ?_
    obtain ⟨h1, h2⟩ := List.mem_filter.mp hc
    simp only [Bool.and_eq_true, decide_eq_true_eq] at h2
    exact ec c (List.mem_range.mp h1) h2.1 h2.2
  rw [em]
  have ne : ∀ r, r < ps.length → r ∉ cut → r ≠ x → top ps (x :: cut) r = r → (!(comp ps (x :: cut) r).isEmpty) = true := fun r hr n1 n2 t => by
    have : r ∈ comp ps (x :: cut) r := comp_mem.mpr ⟨hr, fun z => (List.mem_cons.mp z).elim n2 n1, t⟩
    cases h : comp ps (x :: cut) r with
    | nil => rw [h] at this; cases this
    | cons _ _ => rfl
  have hch : (((List.range ps.length).filter fun c => decide (c ∉ cut) && decide (ps[c]? = some (some x))).map (comp ps (x :: cut))).filter (fun l => !l.isEmpty) = ((List.range ps.length).filter fun c => decide (c ∉ cut) && decide (ps[c]? = some (some x))).map (comp ps (x :: cut)) := by
    rw [List.filter_eq_self]
    intro l hl
    obtain ⟨c, hc, rfl⟩ := List.mem_map.mp hl
    obtain ⟨h1, h2⟩ := List.mem_filter.mp hc
    simp only [Bool.and_eq_true, decide_eq_true_eq] at h2
    have := hp c x h2.2
    exact ne c (List.mem_range.mp h1) h2.1 (by omega) (top_cut hp h2.2 List.mem_cons_self)
  by_cases c : top ps cut x = x
  · rw [if_pos c, if_pos c, List.filter_cons_of_neg (by simp), hch]
    rfl
  · rw [if_neg c, if_neg c, List.filter_cons_of_pos, hch]
    · rfl
    · have nr : x ∉ road ps (top ps cut x) := fun z => c (rd_anti hp hrl hx hr z)
      have tt : top ps cut (top ps cut x) = top ps cut x := (top_seg hp x hx nx hr (road_self hp hrl)).2
      exact ne _ hrl (top_free hp x hx nx) c (by rw [cut_far hp _ hrl (fun z => nr z.1)]; exact tt)
/-- the tops behind a cut -/
theorem tops_next (hp : Ps ps) {rs : List Nat} {x at_ : Nat} (T : Tops ps cut rs) (hx : x < ps.length) (nx : x ∉ cut) (ha : rs[at_]? = some (top ps cut x)) :
    ∃ rs', Tops ps (x :: cut) rs' ∧ (rs.map (comp ps cut)).take at_ ++ cutL ps (comp ps cut (top ps cut x)) x ++ (rs.map (comp ps cut)).drop (at_ + 1) = rs'.map (comp ps (x :: cut)) := by
  have hr := top_road (cut := cut) hp x hx
  have hrl := rd_lt hp hx hr
  have hrx := road_le hp x hx _ hr
  have hal := (List.getElem?_eq_some_iff.mp ha).1
  have hae := (List.getElem?_eq_some_iff.mp ha).2
  have split : rs = rs.take at_ ++ top ps cut x :: rs.drop (at_ + 1) := by
    rw [← hae, ← List.drop_eq_getElem_cons hal, List.take_append_drop]
  have nd := T.nd
  rw [split] at nd
  obtain ⟨nd1, nd2, nd3⟩ := List.nodup_append.mp nd
  obtain ⟨nd4, nd5⟩ := List.nodup_cons.mp nd2
  -- the others
  have far : ∀ r ∈ rs, r ≠ top ps cut x → comp ps cut r = comp ps (x :: cut) r ∧ r ≠ x ∧ top ps (x :: cut) r = r := by
    intro r hr' ne
    obtain ⟨h1, h2, h3⟩ := (T.mem r).mp hr'
    have rx : r ≠ x := fun z => ne (by rw [← z]; exact h3.symm)
    refine ⟨?_, rx, by rw [cut_far hp r h1 (fun z => ne (by rw [← z.2]; exact h3.symm))]; exact h3⟩
    unfold comp
    refine List.filter_congr fun y hy => ?_
    have hyl := List.mem_range.mp hy
    rw [Bool.eq_iff_iff]
    simp only [Bool.and_eq_true, decide_eq_true_eq]
    constructor
    · rintro ⟨d, t⟩
      have yx : y ≠ x := fun z => ne (by rw [← t, z])
      exact ⟨fun z => (List.mem_cons.mp z).elim yx d, by rw [cut_far hp y hyl (fun z => ne (by rw [← t]; exact z.2))]; exact t⟩
    · rintro ⟨d, t⟩
      have dc : y ∉ cut := fun z => d (List.mem_cons_of_mem _ z)
      have yx : y ≠ x := fun z => d (z ▸ List.mem_cons_self)
      by_cases j : x ∈ road ps y ∧ top ps cut y = top ps cut x
      · have h4 := (cut_near hp y hyl dc yx j.1 j.2).1
        rw [t] at h4
        have h5 := top_up (cut := cut) hp h4 nx
        rw [h3] at h5
        exact absurd h5 ne
      · have := cut_far hp y hyl j
        rw [t] at this
        exact ⟨dc, this.symm⟩
  have inT : ∀ r ∈ rs.take at_, r ∈ rs ∧ r ≠ top ps cut x := fun r h => ⟨List.mem_of_mem_take h, nd3 r h _ List.mem_cons_self⟩
  have inD : ∀ r ∈ rs.drop (at_ + 1), r ∈ rs ∧ r ≠ top ps cut x := fun r h => ⟨List.mem_of_mem_drop h, fun z => nd4 (z ▸ h)⟩
  refine ⟨rs.take at_ ++ (((if top ps cut x = x then [] else [top ps cut x]) ++ (List.range ps.length).filter fun c => decide (c ∉ cut) && decide (ps[c]? = some (some x))) ++ rs.drop (at_ + 1)), ⟨?_, fun r => ?_⟩, ?_⟩
  · have chn : ∀ c ∈ (List.range ps.length).filter (fun c => decide (c ∉ cut) && decide (ps[c]? = some (some x))), c ∉ rs ∧ c ≠ top ps cut x := fun c hc => by
      obtain ⟨h1, h2⟩ := List.mem_filter.mp hc
      simp only [Bool.and_eq_true, decide_eq_true_eq] at h2
      have h3 := hp c x h2.2
      have h4 := top_up (cut := cut) hp h2.2 nx
      exact ⟨fun z => by have := ((T.mem c).mp z).2.2; omega, by omega⟩
    rw [List.nodup_append, List.nodup_append, List.nodup_append]
    refine ⟨nd1, ⟨⟨?_, List.nodup_range.filter _, fun a ha b hb z => ?_⟩, nd5, fun a ha b hb z => ?_⟩, fun a ha b hb z => ?_⟩
    · split
      · exact List.nodup_nil
      · exact List.nodup_cons.mpr ⟨List.not_mem_nil, List.nodup_nil⟩
    · subst z
      split at ha
      · cases ha
      · exact (chn a hb).2 (List.mem_singleton.mp ha)
    · subst z
      rcases List.mem_append.mp ha with ha | ha
      · split at ha
        · cases ha
        · exact (inD a hb).2 (List.mem_singleton.mp ha)
      · exact (chn a ha).1 (inD a hb).1
    · subst z
      rcases List.mem_append.mp hb with hb | hb
      · rcases List.mem_append.mp hb with hb | hb
        · split at hb
          · cases hb
          · exact (inT a ha).2 (List.mem_singleton.mp hb)
        · exact (chn a hb).1 (inT a ha).1
      · exact nd3 a ha a (List.mem_cons_of_mem _ hb) rfl
  · rw [List.mem_append, List.mem_append, List.mem_append]
    constructor
    · rintro (h | (h | h) | h)
      · obtain ⟨a, b⟩ := inT r h
        obtain ⟨h1, h2, h3⟩ := (T.mem r).mp a
        obtain ⟨_, f2, f3⟩ := far r a b
        exact ⟨h1, fun z => (List.mem_cons.mp z).elim f2 h2, f3⟩
      · split at h
        · cases h
        · rename_i c
          rw [List.mem_singleton.mp h]
          have nr : x ∉ road ps (top ps cut x) := fun z => c (rd_anti hp hrl hx hr z)
          have tt : top ps cut (top ps cut x) = top ps cut x := (top_seg hp x hx nx hr (road_self hp hrl)).2
          exact ⟨hrl, fun z => (List.mem_cons.mp z).elim c (top_free hp x hx nx), by rw [cut_far hp _ hrl (fun z => nr z.1)]; exact tt⟩
      · obtain ⟨h1, h2⟩ := List.mem_filter.mp h
        simp only [Bool.and_eq_true, decide_eq_true_eq] at h2
        have h3 := hp r x h2.2
        exact ⟨List.mem_range.mp h1, fun z => (List.mem_cons.mp z).elim (by omega) h2.1, top_cut hp h2.2 List.mem_cons_self⟩
      · obtain ⟨a, b⟩ := inD r h
        obtain ⟨h1, h2, h3⟩ := (T.mem r).mp a
        obtain ⟨_, f2, f3⟩ := far r a b
        exact ⟨h1, fun z => (List.mem_cons.mp z).elim f2 h2, f3⟩
    · rintro ⟨h1, h2, h3⟩
      have dc : r ∉ cut := fun z => h2 (List.mem_cons_of_mem _ z)
      have rx : r ≠ x := fun z => h2 (z ▸ List.mem_cons_self)
      by_cases j : x ∈ road ps r ∧ top ps cut r = top ps cut x
      · have h4 := (cut_near hp r h1 dc rx j.1 j.2).1
        rw [h3] at h4
        exact .inr (.inl (.inr (List.mem_filter.mpr ⟨List.mem_range.mpr h1, by simp only [Bool.and_eq_true, decide_eq_true_eq]; exact ⟨dc, h4⟩⟩)))
      · have h4 := cut_far hp r h1 j
        rw [h3] at h4
        have hrs := (T.mem r).mpr ⟨h1, dc, h4.symm⟩
        by_cases e : r = top ps cut x
        · refine .inr (.inl (.inl ?_))
          rw [if_neg (fun z => rx (e.trans z))]
          exact List.mem_singleton.mpr e
        · rw [split] at hrs
          rcases List.mem_append.mp hrs with h | h
          · exact .inl h
          · exact .inr (.inr ((List.mem_cons.mp h).resolve_left e))
  · rw [cut_parts hp hx nx, ← List.map_take, ← List.map_drop]
    generalize ((if top ps cut x = x then [] else [top ps cut x]) ++ (List.range ps.length).filter fun c => decide (c ∉ cut) && decide (ps[c]? = some (some x))) = Y
    rw [List.map_append, List.map_append, List.append_assoc]
    congr 1
    · exact List.map_congr_left fun r h => (far r (inT r h).1 (inT r h).2).1
    · congr 1
      exact List.map_congr_left fun r h => (far r (inD r h).1 (inD r h).2).1
end
end Ck
namespace Cn
open PySem PySem.Spec PyProof.Rows L2 Ck
theorem root_comp {ps : List (Option Nat)} (hp : Ps ps) {r : Nat} (hr : ps[r]? = some none) : comp ps [] r = (List.range ps.length).filter fun y => decide (r ∈ road ps y) := by
  unfold comp
  refine List.filter_congr fun y hy => ?_
  have hyl := List.mem_range.mp hy
  rw [Bool.eq_iff_iff]
  simp only [Bool.and_eq_true, decide_eq_true_eq]
  constructor
  · rintro ⟨_, t⟩
    rw [← t]
    exact top_road hp y hyl
  · intro h
    refine ⟨List.not_mem_nil, ?_⟩
    rw [top_same hp y hyl h fun z _ _ _ => List.not_mem_nil, top_none hr]
theorem root_tops {ps : List (Option Nat)} (hp : Ps ps) : Tops ps [] ((List.range ps.length).filter fun r => decide (ps[r]? = some none)) := by
  refine ⟨List.nodup_range.filter _, fun r => ?_⟩
  rw [List.mem_filter, List.mem_range, decide_eq_true_iff]
  constructor
  · rintro ⟨h1, h2⟩
    exact ⟨h1, List.not_mem_nil, top_none h2⟩
  · rintro ⟨h1, _, h3⟩
    refine ⟨h1, ?_⟩
    rcases opt_cases h1 with e | ⟨p, e⟩
    · exact e
    · rw [top_up hp e List.not_mem_nil] at h3
      have hl := hp r p e
      have := road_le hp p (Nat.lt_trans hl h1) _ (top_road (cut := []) hp p (Nat.lt_trans hl h1))
      omega
theorem tops_len {ps : List (Option Nat)} {cut rs : List Nat} (T : Tops ps cut rs) : rs.length ≤ ps.length := by
  have h : rs.Subset (List.range ps.length) := fun r hr => List.mem_range.mpr ((T.mem r).mp hr).1
  have := T.nd.length_le_of_subset h
  rwa [List.length_range] at this
end Cn
namespace Cn
open PySem PySem.Spec PyProof.Rows L2 Ck
section
variable {P : Program} {w : World} {K : PySem.W.Frag} {mg : Str → Option Value} {base : Heap} {C : Addr}
/-- one of a list or tuple, drawn -/
def spPick : Sp := fun vs H Q _ => ∃ (p : Addr) (S : Addr → Prop) (b : Addr) (xs : List V), vs = [.ref p, .ref b] ∧ HandIn H p S ∧ b ≠ p ∧ (H b = some (.lst xs) ∨ H b = some (.tup xs)) ∧ 0 < xs.length ∧ xs.length ≤ 1000000 ∧
  ∀ (i : Nat) (v : V) H', xs[i]? = some v → HandIn H' p S → Kept p H H' → Q v H'
def nPick : List Str := ["_law_pool_here", "_law_things"]
theorem scPick : FnScope nPick ["_law_pool_here", "_law_things"] (defScope sPick) := ⟨rfl, rfl, rfl, by decide +kernel, rfl, by decide +kernel, by decide +kernel⟩
theorem dPick (B : Defs K mg C) : Def P w K mg base "_law_pick" 2 ["_law_pool_here", "_law_things"] spPick := by
  obtain ⟨fD, fdD, GD, gD, kD, bD⟩ := dDraw (P := P) (w := w) (base := base) B
  have N := B.N
  refine def_of B.pck fun f fd F => ?_
  refine F.ok scPick (fun vs H Q E h => ?_) (fun cdv A outer s H vs Q E hr h => ?_)
  · obtain ⟨p, S, b, xs, rfl, _⟩ := h
    rfl
  · obtain ⟨p, S, b, xs, rfl, hI, bp, hb, l0, l1, k⟩ := h
    refine ⟨_, pss_one (ps_ret (pe_ix ix_seq (pv 1) (pe_call GD hr (by rfl) gD kD bD .nil pass0 (pa_cons (pv 0) (pa_cons (pe_callB call_len_seq (by rfl) N.is.len PySem.boot_len (pa_cons (pv 1) pa_nil)) pa_nil))) (fun _ _ => rfl))), ?_⟩
    have sq : SqL K H b xs ∨ SqT K H b xs := hb.imp (fun h => .inl (.inl h)) (fun h => .inl (.inl h))
    refine ⟨_, rfl, _, rfl, _, rfl, b, xs, rfl, sq, p, S, (xs.length : Int), rfl, hI, by omega, by omega, fun d H1 d0 d1 hI1 k1 => ?_⟩
    obtain ⟨i, rfl⟩ := Int.eq_ofNat_of_zero_le d0
    have hi : xs[i]? = some xs[i] := List.getElem?_eq_getElem (by omega)
    rcases hb with hb | hb
    · exact .inl ⟨b, xs, (i : Int), _, rfl, rfl, .inl (.inl (k1 _ _ bp hb)), atI_nat hi, k i _ H1 hi hI1 k1⟩
    · exact .inr (.inl ⟨b, xs, (i : Int), _, rfl, rfl, .inl (.inl (k1 _ _ bp hb)), atI_nat hi, k i _ H1 hi hI1 k1⟩)
end
end Cn
namespace Cn
open PySem PySem.Spec PyProof.Rows L2 Ck
section
variable {P : Program} {w : World} {K : PySem.W.Frag} {mg : Str → Option Value} {base : Heap} {C : Addr}
/-- a drawn lot -/
def spLawLot : Sp := fun vs H Q _ => ∃ (p : Addr) (S : Addr → Prop) (n : Nat) (sd : Int), vs = [.ref p, vn n, .int sd] ∧ HandIn H p S ∧ n ≤ 60 ∧ 0 < sd ∧ sd < 1073741824 ∧
  ∀ r ns H', ns.Pairwise (· < ·) → (∀ x ∈ ns, x < n) → HandIn H' p S → Kept p H H' → TN H' r ns → Q (.ref r) H'
def nLawLot : List Str := ["_law_pool_here", "_law_many", "_law_sides", "_law_one"]
theorem scLawLot : FnScope nLawLot ["_law_pool_here", "_law_many", "_law_sides"] (defScope sLawLot) := ⟨rfl, rfl, rfl, by decide +kernel, rfl, by decide +kernel, by decide +kernel⟩
theorem dLawLot (B : Defs K mg C) : Def P w K mg base "_law_lot" 2 ["_law_pool_here", "_law_many", "_law_sides"] spLawLot := by
  obtain ⟨fD, fdD, GD, gD, kD, bD⟩ := dDraw (P := P) (w := w) (base := base) B
  have N := B.N
  have nd := scLawLot.nd
  refine def_of B.lo fun f fd F => ?_
  refine F.ok scLawLot (fun vs H Q E h => ?_) (fun cdv A outer s H vs Q E hr h => ?_)
  · obtain ⟨p, S, n, sd, rfl, _⟩ := h
    rfl
  · obtain ⟨p, S, n, sd, rfl, hI, h60, s0, s1, k⟩ := h
    refine ⟨_, pss_one (ps_ret (pe_callTy call_tuple_of (by rfl) N.is.tup (by decide +kernel) (pa_cons (pe_lc (own := [("_law_one", 3)]) (g := gName 3) rfl nd (pi_range1 (by rfl) N.range (pa_cons (pv 1) pa_nil))
        (blkOk_by (N := nLawLot) (sc := defScope sLawLot) (by decide +kernel)) (fun _ _ _ _ _ => pg_name (i := 3) nd rfl (Or.inl rfl)) (fun _ _ _ _ _ => pts_one (pt_cmpR op_gt (pe_call GD hr (by rfl) gD kD bD .nil pass0 (pa_cons (pv 0) (pa_cons (pv 2) pa_nil))) pe_int (nomark _))) (fun _ _ _ _ _ => pv 3)) pa_nil))), ?_⟩
    refine ⟨_, rfl, (n : Int), rfl, by omega, by omega, fun D nD => ?_⟩
    rw [Int.toNat_natCast]
    have nDp := hand_ne hI nD
    refine lc_range (lo := 0) (n := n) (fun i G => HandIn G p (fun x => x = D ∨ S x) ∧ Kept p H G ∧ ∃ ns : List Nat, G D = some (.lst (ns.map vn)) ∧ ns.length ≤ i ∧ ns.Pairwise (· < ·) ∧ ∀ x ∈ ns, x < i) ⟨handIn_add hI nD, kept_same (smUpd nD), [], upd_same, Nat.zero_le _, .nil, fun x hx => by cases hx⟩ ?_ ?_
    · rintro i G hi ⟨hG, kG, ns, hD, hl, hp, hx⟩
      rw [show (0 : Int) + (i : Int) = (i : Int) from Int.zero_add _]
      refine ⟨rfl, _, rfl, _, rfl, p, _, sd, rfl, hG, s0, s1, fun d G2 d0 d1 hG2 k2 => ⟨_, _, rfl, rfl, _, rfl, ?_⟩⟩
      have hD2 := k2 _ _ nDp hD
      have kG2 := kept_trans kG k2
      refine ite2 (fun _ => ?_) (fun _ => ⟨hG2, kG2, ns, hD2, by omega, hp, fun x h => Nat.lt_succ_of_lt (hx x h)⟩)
      refine ⟨_, rfl, _, hD2, small1000 (by rw [List.length_map]; omega), handIn_write hG2 (.inl rfl), kept_over nD kG2, ns ++ [i], by rw [upd_same, List.map_append]; rfl, by rw [List.length_append]; show ns.length + 1 ≤ i + 1; omega, ?_, fun x h => ?_⟩
      · rw [List.pairwise_append]
        exact ⟨hp, List.pairwise_singleton _ _, fun x h y hy => by rw [List.mem_singleton.mp hy]; exact hx x h⟩
      · rcases List.mem_append.mp h with h | h
        · exact Nat.lt_succ_of_lt (hx x h)
        · rw [List.mem_singleton.mp h]; exact Nat.lt_succ_self _
    · rintro G ⟨hG, kG, ns, hD, hl, hp, hx⟩
      refine ⟨D, _, rfl, .inl ⟨.inl (.inl hD), fun r nr => ?_⟩⟩
      exact k r ns _ hp hx (handIn_keep (handIn_less hG fun _ z => .inr z) (smUpd nr)) (kept_trans kG (kept_same (smUpd nr))) upd_same
/-- drawn parents -/
def spParents : Sp := fun vs H Q _ => ∃ (p : Addr) (S : Addr → Prop) (n : Nat), vs = [.ref p, vn n] ∧ HandIn H p S ∧ 1 ≤ n ∧ n ≤ 60 ∧
  ∀ r ps H', Ps ps → ps.length = n → HandIn H' p S → Kept p H H' → TP H' r ps → Q (.ref r) H'
def nParents : List Str := ["_law_pool_here", "_law_many", "_law_kind", "_law_found", "_law_place", "_law_parent"]
theorem scParents : FnScope nParents ["_law_pool_here", "_law_many"] (defScope sParents) := ⟨rfl, rfl, rfl, by decide +kernel, rfl, by decide +kernel, by decide +kernel⟩
theorem dParents (B : Defs K mg C) : Def P w K mg base "_law_parents" 2 ["_law_pool_here", "_law_many"] spParents := by
  obtain ⟨fD, fdD, GD, gD, kD, bD⟩ := dDraw (P := P) (w := w) (base := base) B
  have N := B.N
  have nd := scParents.nd
  refine def_of B.pa fun f fd F => ?_
  refine F.ok scParents (fun vs H Q E h => ?_) (fun cdv A outer s H vs Q E hr h => ?_)
  · obtain ⟨p, S, n, rfl, _⟩ := h
    rfl
  · obtain ⟨p, S, n, rfl, hI, h1, h60, k⟩ := h
    refine ⟨_, pss_cons (ps_set (i := 2) nd rfl (Or.inl rfl) (pe_call GD hr (by rfl) gD kD bD .nil pass0 (pa_cons (pv 0) (pa_cons pe_int pa_nil))))
      (pss_cons (ps_set (i := 3) nd rfl (Or.inl rfl) (pe_lst (pa_cons pe_non pa_nil)))
      (pss_cons (ps_for PassesOwn.never rfl (pi_range2 (by rfl) N.range (pa_cons pe_int (pa_cons (pv 1) pa_nil))) (pg_name (i := 4) nd rfl (Or.inl rfl))
        (pss_cons (ps_set (i := 5) nd rfl (Or.inl rfl) (pe_call GD hr (by rfl) gD kD bD .nil pass0 (pa_cons (pv 0) (pa_cons (pv 4) pa_nil))))
        (psMid (ps_if (PW.pt (pw_or (pt_cmpR op_eq (pv 2) pe_int (nomark _)) (pw_or1 (PW.pt (pw_and (pt_cmpR op_eq (pv 2) pe_int (nomark _)) (pw_and1 (pt_cmpR op_gt (pe_call GD hr (by rfl) gD kD bD .nil pass0 (pa_cons (pv 0) (pa_cons pe_int pa_nil))) pe_int (nomark _))))))))
          (pss_one (ps_set (i := 5) nd rfl (Or.inl rfl) (pe_op op_sub (pv 4) pe_int))) pss_nil)
        (pss_one (ps_expr (pe_bm PySem.F.plainAttrs_list PySem.F.slot_list_append PySem.F.type_list_append mt_append (pv 3) (pa_cons (pe_ifExp (PW.pt (pw_and (pt_cmpR op_eq (pv 2) pe_int (nomark _)) (pw_and1 (pt_cmpR op_eq (pe_call GD hr (by rfl) gD kD bD .nil pass0 (pa_cons (pv 0) (pa_cons pe_int pa_nil))) pe_int (nomark _))))) pe_non (pv 5)) pa_nil)))))))
      (pss_one (ps_ret (pe_callTy call_tuple_of (by rfl) N.is.tup (by decide +kernel) (pa_cons (pv 3) pa_nil)))))), ?_⟩
    refine ⟨_, rfl, p, S, 4, rfl, hI, by decide, by decide, fun kd H1 kd0 kd1 hI1 k1 => ?_⟩
    refine ⟨by show 1 ≤ sizeLine; decide, fun D nD => ?_⟩
    have nDp := hand_ne hI1 nD
    have n0 : ∀ {b : Addr} {o : HO}, b ≠ p → H b = some o → b ≠ D := fun bp e z => by rw [z] at e bp; rw [k1 _ _ bp e] at nD; cases nD
    have kw : ∀ {G : Hp} {o : HO}, Kept p H G → Kept p H (upd G D o) := fun kg b o n e => by rw [upd_ne (n0 n e)]; exact kg b o n e
    refine ⟨_, rfl, 1, (n : Int), rfl, ⟨by decide, by decide, by omega, by omega⟩, ?_⟩
    refine for_range (lo := 1) (n := ((n : Int) - 1).toNat) (fun i σ G => ∃ (ps : List (Option Nat)) (t4 t5 : Option V), σ = [some (.ref p), some (vn n), some (.int kd), some (.ref D), t4, t5] ∧ HandIn G p (fun x => x = D ∨ S x) ∧ Kept p H G ∧ G D = some (.lst (ps.map vp)) ∧ ps.length = i + 1 ∧ Ps ps) ⟨[none], none, none, rfl, handIn_add hI1 nD, kw k1, upd_same, rfl, fun i m h => by
      cases i with
      | zero => cases h
      | succ i => cases h⟩ ?_ ?_
    · rintro i σ G hi ⟨ps, t4, t5, rfl, hG, kG, hD, hl, hp⟩
      have e1 : (1 : Int) + (i : Int) = ((i + 1 : Nat) : Int) := by omega
      rw [e1]
      refine ⟨_, rfl, _, rfl, p, _, ((i + 1 : Nat) : Int), rfl, hG, by omega, by omega, fun d G2 d0 d1 hG2 k2 => ?_⟩
      have hD2 := k2 _ _ nDp hD
      have kG2 := kept_trans kG k2
      obtain ⟨d, rfl⟩ := Int.eq_ofNat_of_zero_le d0
      refine ⟨fun σ J => ∃ m : Nat, m ≤ i ∧ σ = [some (.ref p), some (vn n), some (.int kd), some (.ref D), some (.int ((i + 1 : Nat) : Int)), some (vn m)] ∧ HandIn J p (fun x => x = D ∨ S x) ∧ Kept p H J ∧ J D = some (.lst (ps.map vp)), ?_, ?_⟩
      · have e2 : (((i + 1 : Nat) : Int)) - 1 = ((i : Nat) : Int) := by omega
        have yes : ∀ {J : Hp} (x : Nat), HandIn J p (fun x => x = D ∨ S x) → Kept p H J → J D = some (.lst (ps.map vp)) → ∃ m : Nat, m ≤ i ∧ ([some (.ref p), some (vn n), some (.int kd), some (.ref D), some (.int ((i + 1 : Nat) : Int)), some (.int (((i + 1 : Nat) : Int) - 1))] : L2.St) = [some (.ref p), some (vn n), some (.int kd), some (.ref D), some (.int ((i + 1 : Nat) : Int)), some (vn m)] ∧ HandIn J p (fun x => x = D ∨ S x) ∧ Kept p H J ∧ J D = some (.lst (ps.map vp)) := fun x a b c => ⟨i, Nat.le_refl _, by rw [e2], a, b, c⟩
        refine ⟨_, rfl, rfl, _, rfl, ?_⟩
        refine ite2 (fun _ => ⟨_, rfl, _, _, rfl, rfl, yes 0 hG2 kG2 hD2⟩) (fun _ => ?_)
        refine ⟨_, rfl, rfl, _, rfl, ?_⟩
        refine ite2 (fun _ => ?_) (fun _ => ⟨d, by omega, rfl, hG2, kG2, hD2⟩)
        refine ⟨_, rfl, p, _, 3, rfl, hG2, by decide, by decide, fun e G3 e0 e1 hG3 k3 => ⟨_, _, rfl, rfl, _, rfl, ?_⟩⟩
        refine ite2 (fun _ => ⟨_, rfl, _, _, rfl, rfl, yes 0 hG3 (kept_trans kG2 k3) (k3 _ _ nDp hD2)⟩) (fun _ => ⟨d, by omega, rfl, hG3, kept_trans kG2 k3, k3 _ _ nDp hD2⟩)
      · rintro σ J ⟨m, hm, rfl, hJ, kJ, hDJ⟩
        have fin : ∀ {J2 : Hp} (q : Option Nat), (∀ x, q = some x → x ≤ i) → HandIn J2 p (fun x => x = D ∨ S x) → Kept p H J2 → J2 D = some (.lst (ps.map vp)) → ∃ l xs y, V.ref D = .ref l ∧ [vp q] = [y] ∧ J2 l = some (.lst xs) ∧ xs.length < sizeLine ∧ ∃ (ps' : List (Option Nat)) (t4 t5 : Option V), ([some (.ref p), some (vn n), some (.int kd), some (.ref D), some (.int ((i + 1 : Nat) : Int)), some (vn m)] : L2.St) = [some (.ref p), some (vn n), some (.int kd), some (.ref D), t4, t5] ∧ HandIn (upd J2 l (.lst (xs ++ [y]))) p (fun x => x = D ∨ S x) ∧ Kept p H (upd J2 l (.lst (xs ++ [y]))) ∧ upd J2 l (.lst (xs ++ [y])) D = some (.lst (ps'.map vp)) ∧ ps'.length = i + 1 + 1 ∧ Ps ps' := fun {J2} q hq a b c =>
          ⟨D, _, _, rfl, rfl, c, small1000 (by rw [List.length_map]; omega), ps ++ [q], _, _, rfl, handIn_write a (.inl rfl), kw b, by rw [upd_same, List.map_append]; rfl, by rw [List.length_append, hl]; rfl, psSnoc hp fun x e => by have := hq x e; omega⟩
        refine ⟨_, rfl, .inl ⟨rfl, _, .inl (.inl hDJ)⟩, _, rfl, rfl, _, rfl, ?_⟩
        refine ite2 (fun _ => ?_) (fun _ => ⟨_, rfl, fin (some m) (fun x e => by cases e; exact hm) hJ kJ hDJ⟩)
        refine ⟨_, rfl, p, _, 4, rfl, hJ, by decide, by decide, fun e G3 e0 e1 hG3 k3 => ⟨rfl, _, rfl, ?_⟩⟩
        refine ite2 (fun _ => fin none (fun x e => nomatch e) hG3 (kept_trans kJ k3) (k3 _ _ nDp hDJ)) (fun _ => ⟨_, rfl, fin (some m) (fun x e => by cases e; exact hm) hG3 (kept_trans kJ k3) (k3 _ _ nDp hDJ)⟩)
    · rintro σ G ⟨ps, t4, t5, rfl, hG, kG, hD, hl, hp⟩
      refine ⟨_, rfl, D, _, rfl, .inl ⟨.inl (.inl hD), fun r nr => ?_⟩⟩
      exact k r ps _ hp (by omega) (handIn_keep (handIn_less hG fun _ z => .inr z) (smUpd nr)) (kept_trans kG (kept_same (smUpd nr))) upd_same
end
end Cn
namespace Cn
open PySem PySem.Spec PyProof.Rows L2 Ck
section
variable {P : Program} {w : World} {K : PySem.W.Frag} {mg : Str → Option Value} {base : Heap} {C : Addr}
/-- parts of a forest, drawn -/
def spSpec : Sp := fun vs H Q _ => ∃ (p : Addr) (S : Addr → Prop) (a b : Nat), vs = [.ref p, vn a, vn b] ∧ HandIn H p S ∧ 1 ≤ a ∧ a ≤ b ∧ b ≤ 60 ∧
  ∀ r fo H', FoOk fo → a ≤ fo.ps.length → fo.ps.length ≤ b → HandIn H' p S → Kept p H H' → TolR H' r fo → Q (.ref r) H'
def nSpec : List Str := ["_law_pool_here", "_law_least", "_law_most", "_law_many", "_law_sides"]
theorem scSpec : FnScope nSpec ["_law_pool_here", "_law_least", "_law_most"] (defScope sSpec) := ⟨rfl, rfl, rfl, by decide +kernel, rfl, by decide +kernel, by decide +kernel⟩
theorem dSpec (B : Defs K mg C) : Def P w K mg base "_law_spec" 3 ["_law_pool_here", "_law_least", "_law_most"] spSpec := by
  obtain ⟨fD, fdD, GD, gD, kD, bD⟩ := dDraw (P := P) (w := w) (base := base) B
  obtain ⟨fP, fdP, GP, gP, kP, bP⟩ := dParents (P := P) (w := w) (base := base) B
  obtain ⟨fL, fdL, GL, gL, kL, bL⟩ := dLawLot (P := P) (w := w) (base := base) B
  have N := B.N
  have nd := scSpec.nd
  refine def_of B.spc fun f fd F => ?_
  refine F.ok scSpec (fun vs H Q E h => ?_) (fun cdv A outer s H vs Q E hr h => ?_)
  · obtain ⟨p, S, a, b, rfl, _⟩ := h
    rfl
  · obtain ⟨p, S, a, b, rfl, hI, h1, hab, h60, k⟩ := h
    have r1 : Room 1 (A.deeper (envOfC "_law_spec" (defScope sSpec) s.heap.objs.size f cdv)) := Room.mono hr (by decide)
    refine ⟨_, pss_cons (ps_set (i := 3) nd rfl (Or.inl rfl) (pe_op op_add (pv 1) (pe_call GD r1 (by rfl) gD kD bD .nil pass0 (pa_cons (pv 0) (pa_cons (pe_op op_add (pe_op op_sub (pv 2) (pv 1)) pe_int) pa_nil)))))
      (pss_cons (ps_set (i := 4) nd rfl (Or.inl rfl) (pe_ix ix_list (pe_lst (pa_cons pe_int (pa_cons pe_int (pa_cons pe_int pa_nil)))) (pe_call GD r1 (by rfl) gD kD bD .nil pass0 (pa_cons (pv 0) (pa_cons pe_int pa_nil))) (fun _ _ => rfl)))
      (pss_one (ps_ret (pe_tup (pa_cons (pe_call GP hr (by rfl) gP kP bP .nil pass0 (pa_cons (pv 0) (pa_cons (pv 3) pa_nil))) (pa_cons (pe_call GL hr (by rfl) gL kL bL .nil pass0 (pa_cons (pv 0) (pa_cons (pv 3) (pa_cons (pv 4) pa_nil)))) (pa_cons (pe_call GL hr (by rfl) gL kL bL .nil pass0 (pa_cons (pv 0) (pa_cons (pv 3) (pa_cons (pv 4) pa_nil)))) pa_nil))))))), ?_⟩
    refine ⟨_, rfl, _, rfl, _, rfl, _, rfl, _, _, rfl, rfl, _, _, rfl, rfl, p, S, (b : Int) - (a : Int) + 1, rfl, hI, by omega, by omega, fun d H1 d0 d1 hI1 k1 => ⟨_, _, rfl, rfl, ?_⟩⟩
    obtain ⟨d, rfl⟩ := Int.eq_ofNat_of_zero_le d0
    obtain ⟨n, en⟩ : ∃ n : Nat, n = a + d := ⟨_, rfl⟩
    show gName 3 (V.int ((a : Int) + (d : Int))) _ _ _
    rw [show (a : Int) + (d : Int) = (n : Int) from by omega]
    refine ⟨by show 3 ≤ sizeLine; decide, fun l nl => ?_⟩
    have S1 := smUpd (o := .lst [.int 3, .int 6, .int 2]) nl
    have nlp := hand_ne hI1 nl
    refine ⟨_, rfl, p, S, 3, rfl, handIn_keep hI1 S1, by decide, by decide, fun e H2 e0 e1 hI2 k2 => ?_⟩
    have kk := kept_trans k1 (kept_trans (kept_same S1) k2)
    obtain ⟨sd, hsd, s0, s1⟩ : ∃ sd : Int, atI [V.int 3, V.int 6, V.int 2] e = some (.int sd) ∧ 0 < sd ∧ sd < 1073741824 := by
      rcases (show e = 0 ∨ e = 1 ∨ e = 2 by omega) with rfl | rfl | rfl
      · exact ⟨3, rfl, by decide, by decide⟩
      · exact ⟨6, rfl, by decide, by decide⟩
      · exact ⟨2, rfl, by decide, by decide⟩
    refine ⟨l, _, e, _, rfl, rfl, .inl (.inl (k2 _ _ nlp upd_same)), hsd, ?_⟩
    refine ⟨_, rfl, _, rfl, p, S, n, rfl, hI2, by omega, by omega, fun r1 ps H3 hps hpl hI3 k3 ht3 => ?_⟩
    refine ⟨_, rfl, _, rfl, _, rfl, p, S, n, sd, rfl, hI3, by omega, s0, s1, fun r2 be H4 basc blt hI4 k4 ht4 => ?_⟩
    refine ⟨_, rfl, _, rfl, _, rfl, p, S, n, sd, rfl, hI4, by omega, s0, s1, fun r3 as H5 aasc alt hI5 k5 ht5 => ?_⟩
    refine ⟨by show 3 ≤ sizeLine; decide, fun r nr => ?_⟩
    have S6 := smUpd (o := .tup [.ref r1, .ref r2, .ref r3]) nr
    refine k r ⟨ps, be, as⟩ _ ⟨hps, by show 1 ≤ ps.length; omega, by show ps.length ≤ 60; omega, basc, fun x hx => by show x < ps.length; rw [hpl]; exact blt x hx, aasc, fun x hx => by show x < ps.length; rw [hpl]; exact alt x hx⟩ (by show a ≤ ps.length; omega) (by show ps.length ≤ b; omega) (handIn_keep hI5 S6) (kept_trans kk (kept_trans k3 (kept_trans k4 (kept_trans k5 (kept_same S6))))) ?_
    exact ⟨r1, r2, r3, upd_same, S6 _ _ (k5 _ _ (tup_ne hI4 (k4 _ _ (tup_ne hI3 ht3) ht3)) (k4 _ _ (tup_ne hI3 ht3) ht3)), S6 _ _ (k5 _ _ (tup_ne hI4 ht4) ht4), S6 _ _ ht5⟩
end
end Cn
namespace Cn
open PySem PySem.Spec PyProof.Rows L2 Ck
section
variable {P : Program} {w : World} {K : PySem.W.Frag} {mg : Str → Option Value} {base : Heap} {C : Addr}
/-- levels, drawn -/
def spDPlan : Sp := fun vs H Q _ => ∃ (p : Addr) (S : Addr → Prop) (b : Addr) (ps : List (Option Nat)), vs = [.ref p, .ref b] ∧ HandIn H p S ∧ TP H b ps ∧ Ps ps ∧ ps.length ≤ 60 ∧
  ∀ r lv H', Lv ps lv → HandIn H' p S → Kept p H H' → TN H' r lv → Q (.ref r) H'
def nDPlan : List Str := ["_law_pool_here", "_law_parents_here", "_law_found", "_law_parent"]
theorem scDPlan : FnScope nDPlan ["_law_pool_here", "_law_parents_here"] (defScope sDPlan) := ⟨rfl, rfl, rfl, by decide +kernel, rfl, by decide +kernel, by decide +kernel⟩
theorem dDPlan (B : Defs K mg C) : Def P w K mg base "_law_plan" 2 ["_law_pool_here", "_law_parents_here"] spDPlan := by
  obtain ⟨fD, fdD, GD, gD, kD, bD⟩ := dDraw (P := P) (w := w) (base := base) B
  have N := B.N
  have nd := scDPlan.nd
  refine def_of B.dpl fun f fd F => ?_
  refine F.ok scDPlan (fun vs H Q E h => ?_) (fun cdv A outer s H vs Q E hr h => ?_)
  · obtain ⟨p, S, b, ps, rfl, _⟩ := h
    rfl
  · obtain ⟨p, S, b, ps, rfl, hI, hb, hp, h60, k⟩ := h
    refine ⟨_, pss_cons (ps_set (i := 2) nd rfl (Or.inl rfl) (pe_lst pa_nil))
      (pss_cons (ps_for PassesOwn.never rfl (pi_tup (pv 1)) (pg_name (i := 3) nd rfl (Or.inl rfl))
        (pss_one (ps_expr (pe_bm PySem.F.plainAttrs_list PySem.F.slot_list_append PySem.F.type_list_append mt_append (pv 2) (pa_cons (pe_ifExp (pt_cmpR op_isN (pv 3) pe_non (nomark _)) pe_int (pe_op op_add pe_int (pe_call GD hr (by rfl) gD kD bD .nil pass0 (pa_cons (pv 0) (pa_cons (pe_op op_add (pe_ix ix_list (pv 2) (pv 3) (fun _ _ => rfl)) pe_int) pa_nil))))) pa_nil)))))
      (pss_one (ps_ret (pe_callTy call_tuple_of (by rfl) N.is.tup (by decide +kernel) (pa_cons (pv 2) pa_nil))))), ?_⟩
    refine ⟨by show 0 ≤ sizeLine; decide, fun D nD => ?_⟩
    have nDp := hand_ne hI nD
    have bp := tup_ne hI hb
    have hb1 : TP (upd H D (.lst [])) b ps := smUpd nD _ _ hb
    refine ⟨_, rfl, b, rfl, ⟨_, tpL hb1⟩, ?_⟩
    refine for_it (walk_tup (xs := ps.map vp)) (fun i σ G => HandIn G p (fun x => x = D ∨ S x) ∧ Kept p H G ∧ TP G b ps ∧ ∃ (lv : List Nat) (t3 : Option V), σ = [some (.ref p), some (.ref b), some (.ref D), t3] ∧ G D = some (.lst (lv.map vn)) ∧ lv.length = i ∧ LvTo ps lv) ⟨handIn_add hI nD, kept_same (smUpd nD), hb1, [], none, rfl, upd_same, rfl, fun j l q h => by rw [List.getElem?_nil] at h; cases h⟩ (fun i σ G _ z => tpL z.2.2.1) ?_ ?_
    · rintro i x σ G0 G hi ⟨hG, kG, hbG, lv, t3, rfl, hD, hl, hv⟩ ⟨rfl, hx⟩
      obtain ⟨q, hq, rfl⟩ := vp_get hx
      rw [List.length_map] at hi
      have hq2 : ps[lv.length]? = some q := by rw [hl]; exact hq
      have nbD : b ≠ D := fun z => by
        have hbG : G b = _ := hbG
        rw [z, hD] at hbG; cases hbG
      have fin : ∀ {J : Hp} (m : Nat), 1 ≤ m → m ≤ mostLv lv q → HandIn J p (fun x => x = D ∨ S x) → Kept p H J → TP J b ps → J D = some (.lst (lv.map vn)) → ∃ l xs y, V.ref D = .ref l ∧ [vn m] = [y] ∧ J l = some (.lst xs) ∧ xs.length < sizeLine ∧ HandIn (upd J l (.lst (xs ++ [y]))) p (fun x => x = D ∨ S x) ∧ Kept p H (upd J l (.lst (xs ++ [y]))) ∧ TP (upd J l (.lst (xs ++ [y]))) b ps ∧ ∃ (lv' : List Nat) (t3 : Option V), ([some (.ref p), some (.ref b), some (.ref D), some (vp q)] : L2.St) = [some (.ref p), some (.ref b), some (.ref D), t3] ∧ upd J l (.lst (xs ++ [y])) D = some (.lst (lv'.map vn)) ∧ lv'.length = i + 1 ∧ LvTo ps lv' := fun {J} m m1 m2 a b' c d =>
        ⟨D, _, _, rfl, rfl, d, small1000 (by rw [List.length_map]; omega), handIn_write a (.inl rfl), kept_over nD b', by show upd J D _ b = _; rw [upd_ne nbD]; exact c, lv ++ [m], _, rfl, by rw [upd_same, List.map_append]; rfl, by rw [List.length_append, hl]; rfl, lvSnoc hp hv hq2 m1 m2⟩
      refine ⟨_, rfl, .inl ⟨rfl, _, .inl (.inl hD)⟩, _, rfl, rfl, _, rfl, ?_⟩
      cases q with
      | none =>
        refine ifT (by decide) ?_
        exact fin 1 (Nat.le_refl _) (Nat.le_refl _) hG kG hbG hD
      | some m =>
        refine ifF (by rw [vp_ne]; decide) ?_
        have hm : m < lv.length := by rw [hl]; exact hp i m hq
        have hle := lvTo_le hp hv (by omega) m _ (getD_at hm)
        refine ⟨_, rfl, _, rfl, _, rfl, D, _, (m : Int), _, rfl, rfl, .inl (.inl hD), vn_ix (getD_at hm), _, _, rfl, rfl, p, _, ((lv.getD m 0 : Nat) : Int) + 1, rfl, hG, by omega, by omega, fun d G2 d0 d1 hG2 k2 => ⟨_, _, rfl, rfl, ?_⟩⟩
        obtain ⟨d, rfl⟩ := Int.eq_ofNat_of_zero_le d0
        have z := fin (1 + d) (by omega) (by show 1 + d ≤ lv.getD m 0 + 1; omega) hG2 (kept_trans kG k2) (k2 _ _ bp hbG) (k2 _ _ nDp hD)
        rw [show vn (1 + d) = V.int (1 + (d : Int)) from congrArg V.int (by omega)] at z
        exact z
    · rintro σ G ⟨hG, kG, hbG, lv, t3, rfl, hD, hl, hv⟩
      rw [List.length_map] at hl
      refine ⟨_, rfl, D, _, rfl, .inl ⟨.inl (.inl hD), fun r nr => ?_⟩⟩
      exact k r lv _ ⟨hl, hv⟩ (handIn_keep (handIn_less hG fun _ z => .inr z) (smUpd nr)) (kept_trans kG (kept_same (smUpd nr))) upd_same
end
end Cn
namespace Cn
open PySem PySem.Spec PyProof.Rows L2 Ck
section
variable {P : Program} {w : World} {K : PySem.W.Frag} {mg : Str → Option Value} {base : Heap} {C : Addr}
/-- the way, a list -/
def spLWay : Sp := fun vs H Q _ => ∃ (b : Addr) (ps : List (Option Nat)) (i : Nat), vs = [.ref b, vn i] ∧ TP H b ps ∧ Ps ps ∧ ps.length ≤ 60 ∧ i < ps.length ∧ ∀ r H', Same H H' → H' r = some (.lst ((road ps i).map vn)) → Q (.ref r) H'
def nLWay : List Str := ["_law_parents_here", "_law_place", "_law_found"]
theorem scLWay : FnScope nLWay ["_law_parents_here", "_law_place"] (defScope sLWay) := ⟨rfl, rfl, rfl, by decide +kernel, rfl, by decide +kernel, by decide +kernel⟩
theorem dLWay (B : Defs K mg C) : Def P w K mg base "_law_way" 1 ["_law_parents_here", "_law_place"] spLWay := by
  have N := nOf B
  refine def_of B.lwy fun f fd F => ?_
  refine F.ok scLWay (fun vs H Q E h => ?_) (fun cdv A outer s H vs Q E hr h => ?_)
  · obtain ⟨b, ps, i, rfl, _⟩ := h
    rfl
  · obtain ⟨b, ps, i, rfl, hb, hp, h60, hi, k⟩ := h
    refine ⟨_, pss_cons (ps_set (i := 2) scLWay.nd rfl (Or.inl rfl) (pe_lst (pa_cons (pv 1) pa_nil)))
      (pss_cons (ps_while PassesOwn.never (pt_cmpR op_notN (pe_ix ix_tup (pv 0) (pe_ix ix_list (pv 2) pe_int (fun _ _ => rfl)) (fun _ _ => rfl)) pe_non (nomark _))
        (pss_one (ps_set (i := 2) scLWay.nd rfl (Or.inl rfl) (pe_op op_cat (pe_lst (pa_cons (pe_ix ix_tup (pv 0) (pe_ix ix_list (pv 2) pe_int (fun _ _ => rfl)) (fun _ _ => rfl)) pa_nil)) (pv 2)))))
      (pss_one (ps_ret (pv 2)))), ?_⟩
    refine ⟨_, rfl, by show 1 ≤ sizeLine; decide, fun D nD => ?_⟩
    refine while_by (fun σ H' => ∃ (D : Addr) (x : Nat) (rest : List Nat), σ = [some (.ref b), some (vn i), some (.ref D)] ∧ Same H H' ∧ H' D = some (.lst ((x :: rest).map vn)) ∧ x < ps.length ∧ road ps i = road ps x ++ rest) measR ⟨D, i, [], rfl, smUpd nD, upd_same, hi, (List.append_nil _).symm⟩ ?_ ?_
    · rintro σ H1 ⟨D, x, rest, rfl, sm, hD, hx, hr1⟩
      have hb1 := sm _ _ hb
      obtain ⟨q, hq⟩ := ps_at hx
      refine ⟨_, rfl, _, rfl, D, _, (0 : Int), _, rfl, rfl, .inl (.inl hD), vn_ix (i := 0) (ns := x :: rest) rfl, b, _, (x : Int), _, rfl, rfl, tpL hb1, vp_ix hq, rfl, _, rfl, ?_⟩
      cases q with
      | none =>
        refine ifF (by decide) ?_
        refine ⟨_, rfl, k D _ sm ?_⟩
        rw [hr1, road_none hq]
        exact hD
      | some p =>
        refine ifT (by rw [vp_ne]; rfl) ?_
        have hpx := hp x p hq
        refine ⟨_, rfl, _, rfl, D, _, (0 : Int), _, rfl, rfl, .inl (.inl hD), vn_ix (i := 0) (ns := x :: rest) rfl, b, _, (x : Int), _, rfl, rfl, tpL hb1, vp_ix hq, by show 1 ≤ sizeLine; decide, fun l nl => ?_⟩
        have S2 := smUpd (o := .lst [vp (some p)]) nl
        have hl2 : upd H1 l (.lst [vp (some p)]) l = some (.lst [vp (some p)]) := upd_same
        generalize upd H1 l (.lst [vp (some p)]) = H2 at S2 hl2 ⊢
        have hlen := road_len hp i hi
        have hxl := List.length_pos_iff.mpr (road_ne hp hx)
        rw [hr1, List.length_append] at hlen
        refine ⟨_, rfl, l, D, _, _, rfl, rfl, hl2, S2 _ _ hD, Nat.le_of_lt (small1000 (by rw [List.length_map]; show 1 + (rest.length + 1) ≤ 1000; omega)), fun e ne => ?_⟩
        refine ⟨⟨e, p, x :: rest, rfl, sm.trans (S2.trans (smUpd ne)), upd_same, Nat.lt_trans hpx hx, ?_⟩, ?_⟩
        · rw [hr1, road_some hp hq, List.append_assoc]; rfl
        · have m1 : measR [some (.ref b), some (vn i), some (.ref D)] H1 = x := by
            show (match H1 D with | some (.lst (V.int n :: _)) => n.toNat | _ => 0) = x
            rw [hD]
            exact Int.toNat_natCast x
          have m2 : measR [some (.ref b), some (vn i), some (.ref e)] (upd H2 e (.lst ([vp (some p)] ++ (x :: rest).map vn))) = p := by
            show (match upd H2 e (.lst ([vp (some p)] ++ (x :: rest).map vn)) e with | some (.lst (V.int n :: _)) => n.toNat | _ => 0) = p
            rw [upd_same]
            exact Int.toNat_natCast p
          show measR [some (.ref b), some (vn i), some (.ref e)] (upd H2 e (.lst ([vp (some p)] ++ (x :: rest).map vn))) < measR [some (.ref b), some (vn i), some (.ref D)] H1
          rw [m1, m2]
          exact hpx
    · rintro σ H' Q1 Q2 hq ⟨v, hv, u, hu, l, ys, j, z, e1, e2, e3, e4, p, xs, i, y, f1, f2, f3, f4, e5, kk, hk, qq⟩
      exact ⟨v, hv, u, hu, l, ys, j, z, e1, e2, e3, e4, p, xs, i, y, f1, f2, f3, f4, e5, kk, hk, hq _ _ qq⟩
def spMade (C : Addr) : Sp := fun vs H Q _ => ∃ (r : Addr) (f : Fo), vs = [.ref r] ∧ TolR H r f ∧ FoOk f ∧ ∀ a H', Same H H' → FoAt C H' a f → Q (.ref a) H'
def nMade : List Str := ["_law_spec_here"]
theorem scMade : FnScope nMade ["_law_spec_here"] (defScope sMade) := ⟨rfl, rfl, rfl, by decide +kernel, rfl, by decide +kernel, by decide +kernel⟩
theorem dMade (B : Defs K mg C) : Def P w K mg base "_law_made" 6 ["_law_spec_here"] (spMade C) := by
  obtain ⟨fN, fdN, FN, MN, bN⟩ := B.ini
  obtain ⟨tm, mM⟩ := B.mM
  obtain ⟨fI, fdI, DI⟩ := B.I
  obtain ⟨fL, fdL, DL⟩ := B.L
  obtain ⟨fB, fdB, DB⟩ := B.B
  obtain ⟨fO, fdO, DO⟩ := B.O
  have GN : FnOk P w K mg base CX0 4 fN fdN ["self", "parents", "bearing", "asking"] (spInit C) := ok_init FN B.N B.T mM DI DL DB DO
  refine def_of B.ma fun f fd F => ?_
  refine F.ok scMade (fun vs H Q E h => ?_) (fun cdv A outer s H vs Q E hr h => ?_)
  · obtain ⟨r, fo, rfl, _⟩ := h
    rfl
  · obtain ⟨r, fo, rfl, ⟨ap, ab, aa, h0, h1, h2, h3⟩, ok, k⟩ := h
    refine ⟨_, pss_one (ps_ret (pe_make MN GN hr (by rfl) B.T.mgC bN .nil pass0 (pa_cons (pe_ix ix_tup (pv 0) pe_int (fun _ _ => rfl)) (pa_cons (pe_ix ix_tup (pv 0) pe_int (fun _ _ => rfl)) (pa_cons (pe_ix ix_tup (pv 0) pe_int (fun _ _ => rfl)) pa_nil))))), ?_⟩
    refine ⟨_, rfl, r, _, (0 : Int), _, rfl, rfl, .inl (.inl h0), rfl, _, rfl, r, _, (1 : Int), _, rfl, rfl, .inl (.inl h0), rfl, _, rfl, r, _, (2 : Int), _, rfl, rfl, .inl (.inl h0), rfl, fun x dx nx ndx ne => ?_⟩
    have S1 := smUpd (o := .own x) ndx
    have nx1 : (upd H dx (.own x)) x = none := by rw [upd_ne (Ne.symm ne)]; exact nx
    have S2 := S1.trans (smUpd (o := .ins C dx []) nx1)
    refine ⟨x, dx, ap, ab, aa, fo, rfl, upd_same, S2 _ _ h1, S2 _ _ h2, S2 _ _ h3, ok, fun H' hF kp => ⟨rfl, k x H' (fun b o e => kp b o (fun z => by rw [z, nx] at e; cases e) (S2 _ _ e)) hF⟩⟩
end
end Cn
namespace Cn
open PySem PySem.Spec PyProof.Rows L2
section
/-! x in t, t a tuple of data -/
def rInTD (K : PySem.W.Frag) : R2 := fun x y H Q => ∃ d ds, Dp K H x d ∧ Dp K H y (.tuple ds) ∧ d.depth ≤ 60 ∧ SeqAt.shaped d = true ∧ SeqAt.shaped (.tuple ds) = true ∧ Q (.bl (ds.any fun z => PyData.eqv z d)) H
theorem op_inTD {X : Cx} (hu : X.A.units + 64 < cLine) : OpR X (compareOp .In) (rInTD X.K) := by
  intro pins s σ H x y v u Q I rx ry h
  obtain ⟨d, ds, hd, he, hdp, sd, se, q⟩ := h
  obtain ⟨as, r1⟩ := Dp.reads I d x v hd rx
  obtain ⟨bs, r2⟩ := Dp.reads I (.tuple ds) y u he ry
  exact SeqAt.in_tuple_reads r2 r1 (SeqAt.canLay_of_shaped se) (SeqAt.canLay_of_shaped sd) (by have := Nat.min_le_right (PyData.depthAll ds) d.depth; omega) ⟨.bl _, H, I, rfl, q⟩
end
section
/-! enumerate(l, start=1) -/
theorem callWith_typeK {M : Model} {A : Around} {E : Value → Shared → Prop} {s : Shared} {pos : Pos} {T : String} {first : List Value} {args : List (Bool × Sem Value)} {keywords : List (Option Str × Sem Value)} {Q : Value → Shared → Prop}
    (hplain : args.any (·.1) = false) (hkw : keywords.any (·.1.isNone) = false)
    (h : wpAny M A (evalArgs (.type T) true args keywords) (fun a s₁ => wpAny M A (call (.type T) (first ++ a.pos) a.kw) Q E s₁) E s) :
    wpAny M A (callWith pos (.type T) first args keywords) Q E s := by
  unfold callWith
  refine wpAny_bind (wpAny_holding (wpAny_mono h (fun a s₁ h₁ => wpAny_bind (wpAny_standAt ?_)) fun _ _ x => x))
  simp only [hplain, hkw, Bool.or_false]
  refine wpAny_bind (wpAny_pure ?_)
  exact wpAny_bind (wpAny_mono h₁ (fun r s₂ hr => wpAny_bind (wpAny_holding (wpAny_point (wpAny_pure hr)))) fun _ _ x => x)
variable {prog : Program} {w : World} {A : Around} {E : Value → Shared → Prop} {s : Shared}
theorem enumEndL {e it l : Addr} {i : Nat} {c : Int} {items : Array Value} {old : Value} {Q : Option Value → Shared → Prop} (hh : A.handled = none) (he : IsEnum s.heap e it c old) (hit : s.heap.IsListIter it l i) (hl : s.heap.IsList l items) (hx : items[i]? = none)
    (hQ : ∀ h', Heap.ExtBut it s.heap h' → Q none { s with heap := h' }) : wpAny (model prog w) A (pyNext (.ref e)) Q E s := by
  have hT : s.TypeIs (.ref e) "enumerate" := ⟨_, he, rfl⟩
  unfold pyNext
  refine wpAny_bind (wpAny_attempt (wpAny_callSpecial?_slot (name := Str.ofString "__next__") hT F.slot_enumerate_next
    (wpAny_call_entry F.slot_enumerate_next hT F.entry_enumerate_next ?_ (F.args_enumerate_next_1 _))))
  show wpAny _ _ (field (.ref e) 2 >>= _) _ _ _
  refine wpAny_bind (wpAny_field he rfl (x := .ref it) rfl ?_)
  refine wpAny_bind (wpAny_nextOf_list_end (A := A.in1) hh hit hl hx fun h' x he' hx' => ?_)
  obtain ⟨o, ho, hc⟩ := hx'
  refine wpAny_bind (wpAny_isInstance (T := "StopIteration") (b := true) ⟨o, ho, hc⟩ isSubtype_stop ?_)
  exact wpAny_pure (hQ _ he')
end
/-- the list at a, each item in a new pair, counted from one -/
def Ite1 (K : PySem.W.Frag) (a : Addr) : It :=
  ⟨fun i H => ∃ (xs : List V) (x : V), SqL K H a xs ∧ xs[i]? = some x, fun i H v H' => ∃ T x, v = .ref T ∧ H T = none ∧ H' = upd H T (.tup [.int ((i + 1 : Nat) : Int), x]) ∧ ∀ xs, SqL K H a xs → xs[i]? = some x, fun i H => ∃ xs : List V, SqL K H a xs ∧ xs.length ≤ i⟩
theorem turn_enum1 {P : Program} {w : World} {K : PySem.W.Frag} {elts : List Expr} {kk : Nat} {tpos : Pos} (a e it : Addr) :
    Turn P w K (.Tuple elts kk tpos) (Ite1 K a) [e, it] e (fun i h => (∃ old, IsEnum h e it ((i + 1 : Nat) : Int) old) ∧ h.IsListIter it a i ∧ e ≠ it ∧ a ≠ it ∧ a ≠ e) where
  mem := by simp
  obj := fun i h st b hb => by
    obtain ⟨⟨old, he⟩, ⟨o, ho, hc, hd⟩, _⟩ := st
    have e' : b = e ∨ b = it := by simpa using hb
    rcases e' with z | z
    · rw [z]; exact ⟨_, he, fun v q => nomatch q⟩
    · rw [z]; exact ⟨o, ho, fun v q => by rw [hd] at q; cases q⟩
  keep := fun i h h' st k => let ⟨⟨old, he⟩, hi, hne⟩ := st; ⟨⟨old, k e (by simp) _ he⟩, hi.at fun o q => k it (by simp) o q, hne⟩
  item := by
    intro X hP hw hK hc i pins s σ H E I hf st hg
    subst hP hw hK
    obtain ⟨⟨old, he⟩, hit, hne, hai, hae⟩ := st
    obtain ⟨xs, x, hq, hx⟩ := hg
    obtain ⟨its, rv, p, hz⟩ := I.list hq
    obtain ⟨u, hu, ru⟩ := rv.get hx
    have hel : e < s.heap.objs.size := Heap.lt_size he
    have hil : it < s.heap.objs.size := by obtain ⟨_, q, _⟩ := hit; exact Heap.lt_size q
    have hlt : i < its.toArray.size := by
      have := (List.getElem?_eq_some_iff.mp hu).1
      simpa using this
    refine wpAny_pyNext_enum_itemC (c := ((i + 1 : Nat) : Int)) (Draws.list (A := X.A.in1) (I.ok.hd hc) it a hai its.toArray) he ⟨hit, p.isList⟩ hlt hne (by simp [hne, Ne.symm hae]) fun x' h' tk hP ho hs' hT hsz hk => ?_
    have ex : x' = u := by
      have e1 : its.toArray[i]? = some u := by simpa using hu
      rw [e1] at hP
      exact (Option.some.inj hP).symm
    subst ex
    refine ⟨_, rfl, wpAny_letOwnedTupleGo_enum (s := { s with heap := h', toks := tk + 1 }) ho fun h'' he' sb => ?_⟩
    have hT2 : h''.get? s.heap.objs.size = some { cls := .type "tuple", data := .seq #[.int ((i + 1 : Nat) : Int) tk, x'] } := (sb.2 _ (Nat.ne_of_gt hel)).trans hT
    have new : ObjOk X.prog X.w (upd H s.heap.objs.size (.tup [.int ((i + 1 : Nat) : Int), x])) h'' s.heap.objs.size (.tup [.int ((i + 1 : Nat) : Int), x]) :=
      ⟨by show 2 ≤ sizeLine; decide, [.int ((i + 1 : Nat) : Int) tk, x'], .cons ⟨_, rfl⟩ (.cons ru .nil), ⟨_, hT2, rfl, _, rfl⟩⟩
    have I1 : Inv X pins σ (upd H s.heap.objs.size (.tup [.int ((i + 1 : Nat) : Int), x])) { s with heap := h'', toks := tk + 1 } :=
      I.turnedNew (ch := [e, it]) (fun b ob hb q => (sb.2 b (fun z => hb (by simp [z]))).trans (hk b ob (fun z => hb (by simp [z])) (fun z => hb (by simp [z])) q)) hf (Nat.le_refl _) new
    refine ⟨.ref s.heap.objs.size, _, I1, rfl, ⟨_, x, rfl, I.hok.fresh (Nat.le_refl _), rfl, fun ys hy => by rw [I.list_inj hy hq]; exact hx⟩, ⟨⟨x', ?_⟩, hs'.1.at fun o q => (sb.2 it (Ne.symm hne)).trans q, hne, hai, hae⟩, fun b hb => ?_⟩
    · have e1 : ((i + 1 + 1 : Nat) : Int) = ((i + 1 : Nat) : Int) + 1 := by omega
      rw [e1]; exact he'
    · have hb' : b < s.heap.objs.size := by
        have e' : b = e ∨ b = it := by simpa using hb
        rcases e' with z | z
        · rw [z]; exact hel
        · rw [z]; exact hil
      rw [upd_ne (Nat.ne_of_lt hb')]
      exact (hf b hb).1
  done := by
    intro X hP hw hK hc i pins s σ H E I hf st hg
    subst hP hw hK
    obtain ⟨⟨old, he⟩, hit, hne, hai, hae⟩ := st
    obtain ⟨xs, hq, hx⟩ := hg
    obtain ⟨its, rv, p, hz⟩ := I.list hq
    obtain ⟨f0, f1, f2, f3, f4, f5⟩ := hf it (by simp)
    have hl := rv.length
    exact enumEndL (I.ok.hd hc) he hit p.isList (by simp; omega) fun h' eb => ⟨rfl, I.turned (t' := s.toks) (fun b o hb q => eb b o hb q) f0 f1 f3 f4 f5⟩
  self := fun A i s Q E st h => let ⟨⟨_, he⟩, _⟩ := st; wpAny_pyIter_enum he h
def iEnum1 (K : PySem.W.Frag) (ta tk : TA) : TI := fun σ H R => ta σ H fun vs H1 => tk σ H1 fun zs H2 => ∃ a xs, vs = [.ref a] ∧ zs = [.int 1] ∧ SqL K H2 a xs ∧ R (Ite1 K a) H2
theorem pi_enum1 {X : Cx} {e : Expr} {ta tk : TA} {p pos tpos : Pos} {elts : List Expr} {kk : Nat} {kws : List Keyword} (hg : Gl X "enumerate") (hm : X.mg "enumerate" = none) (ha : PA X [e] ta) (hk : PK X kws tk) (hs : starEach [e] X.env = [(false, eval e X.env)] := by rfl)
    (hnone : (backToKw pos (keywordEach kws X.env)).any (·.1.isNone) = false := by rfl) (hall : (backToKw pos (keywordEach kws X.env)).all (·.1.isSome) = true := by rfl) (hks : (backToKw pos (keywordEach kws X.env)).filterMap (·.1) = [Str.ofString "start"] := by rfl) :
    PI X (.Tuple elts kk tpos) (.Call (.Name "enumerate" p) [e] kws pos) (iEnum1 X.K ta tk) := by
  refine ⟨fun pins s σ H R I h => ?_⟩
  have hA := ha.run pos pins s σ H _ I h
  refine wpAny_Call_Name_kw (ld_blt I hg hm boot_enumerate ?_)
  rw [hs] at hA ⊢
  refine callWith_typeK (by rfl) hnone ?_
  refine PyProof.Rows.evalArgs_kwB hall (thn hA fun us s1 ⟨vs, H1, I1, r1, q1⟩ => thn (hk.run pos pins s1 σ H1 _ I1 q1) fun ws s2 ⟨zs, H2, I2, r2, q2⟩ => ?_)
  rw [hks]
  obtain ⟨a, xs, ex, ez, hq, q⟩ := q2
  subst ex ez
  cases r1 with
  | cons r rr =>
    cases rr
    cases r
    cases r2 with
    | cons r3 rr3 =>
      cases rr3
      obtain ⟨t, rfl⟩ := r3
      obtain ⟨its, rv, p', hz⟩ := I2.list hq
      have hal : a < s2.heap.objs.size := by obtain ⟨_, q, _⟩ := p'.isList; exact Heap.lt_size q
      refine enum_begins_start (begins_list a its.toArray) p'.isList (by decide) (by decide) fun h' he hit hsz hk => wpAny_pyIter_enum he ?_
      have I3 : Inv X pins σ H2 { s2 with heap := h' } := I2.kept (t' := s2.toks) hk
      refine ⟨s2.heap.objs.size + 1, [s2.heap.objs.size + 1, s2.heap.objs.size], _, _, H2, rfl, I3, turn_enum1 a (s2.heap.objs.size + 1) s2.heap.objs.size, ⟨⟨.none, he⟩, ⟨_, hit, rfl, rfl⟩, Nat.succ_ne_self _, Nat.ne_of_lt hal, Nat.ne_of_lt (Nat.lt_succ_of_lt hal)⟩, fun b hb => ?_, q⟩
      have e' : b = s2.heap.objs.size + 1 ∨ b = s2.heap.objs.size := by simpa using hb
      have hle : s2.heap.objs.size ≤ b := by
        rcases e' with z | z
        · rw [z]; exact Nat.le_add_right _ _
        · rw [z]; exact Nat.le_refl _
      exact I2.fpOk hle (I2.hok.fresh hle)
theorem walk_enum1 {K : PySem.W.Frag} {a : Addr} {xs : List V} : Walk (Ite1 K a) xs.length (fun H => SqL K H a xs) (YPair (fun i => some (.int ((i + 1 : Nat) : Int))) (fun i => xs[i]?)) := by
  refine ⟨fun i _ hi q => ⟨xs, xs[i], q, by simp [hi]⟩, fun _ q => ⟨xs, q, Nat.le_refl _⟩, fun i H v H' _ q y => ?_⟩
  obtain ⟨T, x, h1, h2, h3, h4⟩ := y
  exact ⟨T, .int ((i + 1 : Nat) : Int), x, h1, h2, h3, rfl, h4 xs q⟩
end Cn
namespace Cn
open PySem PySem.Spec PyProof.Rows L2 Ck
/-! texts by their signs -/
abbrev Sg (l : List Nat) : Str := SX.S l
theorem lit (s : String) (l : List Nat) (h : s.toList.map Char.toNat = l) : Str.ofString s = Sg l := by
  subst h
  exact TL.ext_tl (TL.tl_ofString s)
theorem lit0 : (Str.ofString "") = Sg [] := lit _ _ (by decide)
theorem litB : (Str.ofString "b") = Sg [98] := lit _ _ (by decide)
theorem litA : (Str.ofString "a") = Sg [97] := lit _ _ (by decide)
theorem litM : (Str.ofString "-") = Sg [45] := lit _ _ (by decide)
theorem litN : (Str.ofString "\n") = Sg [10] := lit _ _ (by decide)
theorem litS : (Str.ofString " ") = Sg [32] := lit _ _ (by decide)
theorem litC : (Str.ofString ",") = Sg [44] := lit _ _ (by decide)
theorem litD : (Str.ofString " : ") = Sg [32, 58, 32] := lit _ _ (by decide)
theorem litSB : (Str.ofString " b") = Sg [32, 98] := lit _ _ (by decide)
theorem litSA : (Str.ofString " a") = Sg [32, 97] := lit _ _ (by decide)
theorem litZ : (Str.ofString "0") = Sg [48] := lit _ _ (by decide)
theorem litF : (Str.ofString "0123456789") = Sg [48, 49, 50, 51, 52, 53, 54, 55, 56, 57] := lit _ _ (by decide)
theorem sg_len (l : List Nat) : (Sg l).length = l.length := SX.S_len l
/-- a number's text -/
abbrev numS (n : Nat) : Str := Sg (TL.numL n)
theorem str_num (n : Nat) : Str.ofString (toString ((n : Nat) : Int)) = numS n := TL.ext_tl (TL.tl_num n)
theorem num_len {n : Nat} (h : n < 100) : (TL.numL n).length ≤ 2 := TL.numL_len (by decide) h
theorem num_int {n : Nat} (h : n < 100) : intText? (numS n) = some (n : Int) := by
  rw [← str_num]
  exact TL.int_num (Nat.le_trans (num_len h) (by decide))
theorem num_pos (n : Nat) : 1 ≤ (TL.numL n).length := List.length_pos_iff.mpr (TL.numL_ne n)
theorem num_dig {n c : Nat} (h : c ∈ TL.numL n) : c ∈ [48, 49, 50, 51, 52, 53, 54, 55, 56, 57] := by
  have h1 : 48 ≤ c := by
    refine Nat.le_of_not_lt fun z => ?_
    exact TL.numL_free (.inl z) h
  have h2 : c ≤ 57 := by
    refine Nat.le_of_not_lt fun z => ?_
    exact TL.numL_free (.inr z) h
  simp only [List.mem_cons, List.not_mem_nil, or_false]
  omega
theorem num_head : ∀ n : Nat, n < 100 → n ≠ 0 → (TL.numL n)[0]? ≠ some 48 := by decide +kernel
theorem num_zero : TL.numL 0 = [48] := by decide +kernel
theorem num_ne0 {n : Nat} (h : n ≠ 0) : TL.numL n ≠ [48] := fun z => h (TL.numL_inj (z.trans num_zero.symm))
theorem joinL_len (s : List Nat) : ∀ ps : List (List Nat), (TL.joinL s ps).length ≤ (ps.map List.length).sum + ps.length * s.length
  | [] => Nat.zero_le _
  | [p] => by show p.length ≤ _; simp only [List.map_cons, List.map_nil, List.sum_cons, List.sum_nil]; omega
  | p :: q :: ps => by
    have h := joinL_len s (q :: ps)
    show (p ++ (s ++ TL.joinL s (q :: ps))).length ≤ _
    rw [List.length_append, List.length_append, List.map_cons, List.sum_cons, List.length_cons (a := p), Nat.succ_mul]
    omega
theorem mem_joinL {s : List Nat} {c : Nat} : ∀ {ps : List (List Nat)}, c ∈ TL.joinL s ps → c ∈ s ∨ ∃ p ∈ ps, c ∈ p
  | [], h => by cases h
  | [p], h => .inr ⟨p, List.mem_cons_self, h⟩
  | p :: q :: ps, h => by
    have h' : c ∈ p ++ (s ++ TL.joinL s (q :: ps)) := h
    rcases List.mem_append.mp h' with h' | h'
    · exact .inr ⟨p, List.mem_cons_self, h'⟩
    · rcases List.mem_append.mp h' with h' | h'
      · exact .inl h'
      · rcases mem_joinL h' with h' | ⟨r, hr, hc⟩
        · exact .inl h'
        · exact .inr ⟨r, List.mem_cons_of_mem _ hr, hc⟩
/-! the lines of a text -/
def txL (ls : List (List Nat)) : List Nat := TL.joinL [] (ls.map (· ++ [10]))
theorem txL_cons (l : List Nat) (ls : List (List Nat)) : txL (l :: ls) = l ++ ([10] ++ txL ls) := by
  cases ls with
  | nil => show l ++ [10] = _; rfl
  | cons m ls => show (l ++ [10]) ++ ([] ++ txL (m :: ls)) = _; rw [List.nil_append, List.append_assoc]
theorem spl_txL : ∀ {ls : List (List Nat)}, (∀ l ∈ ls, 10 ∉ l) → TL.spl [10] 0 [] (txL ls) = ls ++ [[]]
  | [], _ => TL.spl_nil _ _ _
  | l :: ls, h => by
    rw [txL_cons]
    refine (TL.spl_part1 (s := 10) (S := []) (h l List.mem_cons_self)).trans ?_
    rw [spl_txL fun x hx => h x (List.mem_cons_of_mem _ hx)]
    rfl
theorem txL_len : ∀ {ls : List (List Nat)} {k : Nat}, (∀ l ∈ ls, l.length ≤ k) → (txL ls).length ≤ ls.length * (k + 1)
  | [], _, _ => Nat.zero_le _
  | l :: ls, k, h => by
    have h1 := txL_len fun x hx => h x (List.mem_cons_of_mem _ hx)
    have h2 := h l List.mem_cons_self
    rw [txL_cons, List.length_append, List.length_append, List.length_cons (a := l), Nat.succ_mul]
    show _ + (1 + _) ≤ _
    omega
theorem split_tx {ls : List (List Nat)} (h : ∀ l ∈ ls, 10 ∉ l) : Txt.split (Sg (txL ls)) (Str.ofString "\n") = (ls ++ [[]]).map Sg := by
  rw [litN]
  refine (SX.split_S (by decide) (by decide)).trans ?_
  rw [spl_txL h]
/-! a place's line -/
def plF (q : Option Nat) : List Nat := match q with | none => [45] | some n => TL.numL n
def plT (b a : Bool) : List (List Nat) := (if b then [[98]] else []) ++ (if a then [[97]] else [])
def plW (q : Option Nat) (b a : Bool) : List (List Nat) := plF q :: plT b a
def plL (q : Option Nat) (b a : Bool) : List Nat := TL.joinL [32] (plW q b a)
theorem plW_free {q : Option Nat} {b a : Bool} {c : Nat} (hc : c < 45) : ∀ p ∈ plW q b a, c ∉ p := by
  intro p hp hm
  rcases List.mem_cons.mp hp with rfl | hp
  · cases q with
    | none => have : c = 45 := by simpa [plF] using hm
              omega
    | some n => exact TL.numL_free (.inl (by omega)) hm
  · cases b <;> cases a <;> simp [plT] at hp
    · subst hp; have : c = 97 := by simpa using hm
      omega
    · subst hp; have : c = 98 := by simpa using hm
      omega
    · rcases hp with rfl | rfl
      · have : c = 98 := by simpa using hm
        omega
      · have : c = 97 := by simpa using hm
        omega
theorem plL_no10 (q : Option Nat) (b a : Bool) : 10 ∉ plL q b a := fun h => by
  rcases mem_joinL h with h | ⟨p, hp, hc⟩
  · exact absurd h (by decide)
  · exact plW_free (by decide) p hp hc
theorem split_pl (q : Option Nat) (b a : Bool) : Txt.split (Sg (plL q b a)) (Str.ofString " ") = (plW q b a).map Sg := by
  rw [litS]
  refine (SX.split_S (by decide) (by decide)).trans ?_
  exact congrArg (List.map Sg) (SX.spl_join (parts := plW q b a) (List.cons_ne_nil _ _) (plW_free (by decide)))
theorem plL_eq (q : Option Nat) (b a : Bool) : plL q b a = plF q ++ (if b then [32, 98] else []) ++ (if a then [32, 97] else []) := by
  cases b <;> cases a <;> simp [plL, plW, plT, TL.joinL]
theorem plF_len {q : Option Nat} (h : ∀ n, q = some n → n < 100) : (plF q).length ≤ 2 := by
  cases q with
  | none => exact Nat.le_succ 1
  | some n => exact num_len (h n rfl)
theorem plL_len {q : Option Nat} {b a : Bool} (h : ∀ n, q = some n → n < 100) : (plL q b a).length ≤ 6 := by
  have := plF_len h
  rw [plL_eq, List.length_append, List.length_append]
  cases b <;> cases a <;> simp <;> omega
/-! numbers with a sign between them -/
def nlL (c : Nat) (ns : List Nat) : List Nat := TL.joinL [c] (ns.map TL.numL)
theorem split_nl {c : Nat} {ns : List Nat} (h0 : ns ≠ []) (hc : c < 48) : Txt.split (Sg (nlL c ns)) (Sg [c]) = ns.map numS := by
  refine (SX.split_S (by simp) (by simp; omega)).trans ?_
  rw [nlL, SX.spl_join (by simpa using h0) fun p hp => ?_, List.map_map]
  · rfl
  · obtain ⟨n, _, rfl⟩ := List.mem_map.mp hp
    exact TL.numL_free (.inl hc)
theorem nl_free {c d : Nat} {ns : List Nat} (hd : d < 48) (hne : d ≠ c) : d ∉ nlL c ns := fun h => by
  rcases mem_joinL h with h | ⟨p, hp, hm⟩
  · exact hne (by simpa using h)
  · obtain ⟨n, _, rfl⟩ := List.mem_map.mp hp
    exact TL.numL_free (.inl hd) hm
theorem sum_le2 : ∀ {ns : List Nat}, (∀ n ∈ ns, n < 100) → ((ns.map TL.numL).map List.length).sum ≤ ns.length * 2
  | [], _ => Nat.zero_le _
  | n :: ns, h => by
    have h1 := sum_le2 fun x hx => h x (List.mem_cons_of_mem _ hx)
    have h2 := num_len (h n List.mem_cons_self)
    simp only [List.map_cons, List.sum_cons, List.length_cons]
    omega
theorem nl_len {c : Nat} {ns : List Nat} (h : ∀ n ∈ ns, n < 100) : (nlL c ns).length ≤ ns.length * 3 := by
  have h1 := joinL_len [c] (ns.map TL.numL)
  have h2 := sum_le2 h
  rw [List.length_map] at h1
  show (TL.joinL [c] (ns.map TL.numL)).length ≤ _
  simp only [List.length_cons, List.length_nil] at h1
  omega
/-! a note's line -/
def ntL (m : List Nat × List Nat) : List Nat := nlL 44 m.1 ++ ([32, 58, 32] ++ nlL 44 m.2)
theorem split_nt (m : List Nat × List Nat) : Txt.split (Sg (ntL m)) (Str.ofString " : ") = [Sg (nlL 44 m.1), Sg (nlL 44 m.2)] := by
  rw [litD]
  refine (SX.split_S (by decide) (by decide)).trans ?_
  rw [ntL, TL.spl_part1 (s := 32) (S := [58, 32]) (nl_free (by decide) (by decide)), TL.spl_last1 (s := 32) (S := [58, 32]) (nl_free (by decide) (by decide))]
  rfl
theorem nt_no10 (m : List Nat × List Nat) : 10 ∉ ntL m := fun h => by
  rcases List.mem_append.mp h with h | h
  · exact nl_free (by decide) (by decide) h
  · rcases List.mem_append.mp h with h | h
    · exact absurd h (by decide)
    · exact nl_free (by decide) (by decide) h
theorem nt_len {m : List Nat × List Nat} {k : Nat} (h1 : ∀ n ∈ m.1, n < 100) (h2 : ∀ n ∈ m.2, n < 100) (l1 : m.1.length ≤ k) (l2 : m.2.length ≤ k) : (ntL m).length ≤ 6 * k + 3 := by
  have a := nl_len (c := 44) h1
  have b := nl_len (c := 44) h2
  rw [ntL, List.length_append, List.length_append]
  show _ + (3 + _) ≤ _
  omega
end Cn
namespace Cn
open PySem PySem.Spec PyProof.Rows L2 Ck
section
variable {P : Program} {w : World} {K : PySem.W.Frag} {mg : Str → Option Value} {base : Heap} {C : Addr}
/-- a bearing place -/
def spIsBear (C : Addr) : Sp := fun vs H Q _ => ∃ (a : Addr) (fo : Fo) (i : Nat), vs = [.ref a, vn i] ∧ FoAt C H a fo ∧ i ∈ fo.be ∧ Q (.bl true) H
def nIsBear : List Str := ["forest", "thing"]
theorem scIsBear : FnScope nIsBear ["forest", "thing"] (defScope sIsBear) := ⟨rfl, rfl, rfl, by decide +kernel, rfl, by decide +kernel, by decide +kernel⟩
theorem dIsBear (B : Defs K mg C) : Def P w K mg base "is_bearing" 2 ["forest", "thing"] (spIsBear C) := by
  obtain ⟨fI, fdI, DI⟩ := B.I
  have GI : FnOk P w K mg base CX0 1 fI fdI ["thing"] spIsInt := ok_isInt DI.F B.N
  have T := B.T
  refine def_of B.ibe fun f fd F => ?_
  refine F.ok scIsBear (fun vs H Q E h => ?_) (fun cdv A outer s H vs Q E hr h => ?_)
  · obtain ⟨a, fo, i, rfl, _⟩ := h
    rfl
  · obtain ⟨a, fo, i, rfl, ⟨dx, ap, ab, aa, h0, h1, h2, h3⟩, hi, k⟩ := h
    refine ⟨_, pss_one (ps_ret (pe_and (pe_call GI hr (by rfl) DI.g DI.F.kp DI.b .nil pass0 (pa_cons (pv 1) pa_nil)) (pe_one (pe_cmpR op_in_seq (pv 1) (pe_fld (pv 0) rfl) (by rfl))))), ?_⟩
    refine ⟨_, rfl, (i : Int), rfl, true, rfl, ?_⟩
    refine ifT rfl ?_
    refine ⟨_, rfl, _, rfl, a, C, dx, _, _, rfl, h0, T.cl, T.nB, fB, ab, _, rfl, .inr (tnL h2), rfl, vn_flat _, ?_⟩
    have e : inV (vn i) (fo.be.map vn) = true := by rw [inV_vn]; exact decide_eq_true hi
    show Q (.bl (inV (vn i) (fo.be.map vn))) H
    rw [e]
    exact k
/-- an asking place -/
def spIsAsk (C : Addr) : Sp := fun vs H Q _ => ∃ (a : Addr) (fo : Fo) (i : Nat), vs = [.ref a, vn i] ∧ FoAt C H a fo ∧ i ∈ fo.as ∧ Q (.bl true) H
def nIsAsk : List Str := ["forest", "thing"]
theorem scIsAsk : FnScope nIsAsk ["forest", "thing"] (defScope sIsAsk) := ⟨rfl, rfl, rfl, by decide +kernel, rfl, by decide +kernel, by decide +kernel⟩
theorem dIsAsk (B : Defs K mg C) : Def P w K mg base "is_asking" 2 ["forest", "thing"] (spIsAsk C) := by
  obtain ⟨fI, fdI, DI⟩ := B.I
  have GI : FnOk P w K mg base CX0 1 fI fdI ["thing"] spIsInt := ok_isInt DI.F B.N
  have T := B.T
  refine def_of B.iak fun f fd F => ?_
  refine F.ok scIsAsk (fun vs H Q E h => ?_) (fun cdv A outer s H vs Q E hr h => ?_)
  · obtain ⟨a, fo, i, rfl, _⟩ := h
    rfl
  · obtain ⟨a, fo, i, rfl, ⟨dx, ap, ab, aa, h0, h1, h2, h3⟩, hi, k⟩ := h
    refine ⟨_, pss_one (ps_ret (pe_and (pe_call GI hr (by rfl) DI.g DI.F.kp DI.b .nil pass0 (pa_cons (pv 1) pa_nil)) (pe_one (pe_cmpR op_in_seq (pv 1) (pe_fld (pv 0) rfl) (by rfl))))), ?_⟩
    refine ⟨_, rfl, (i : Int), rfl, true, rfl, ?_⟩
    refine ifT rfl ?_
    refine ⟨_, rfl, _, rfl, a, C, dx, _, _, rfl, h0, T.cl, T.nA, fA, aa, _, rfl, .inr (tnL h3), rfl, vn_flat _, ?_⟩
    have e : inV (vn i) (fo.as.map vn) = true := by rw [inV_vn]; exact decide_eq_true hi
    show Q (.bl (inV (vn i) (fo.as.map vn))) H
    rw [e]
    exact k
/-- a tuple with a thing for each bearing place -/
def spIsAmt (C : Addr) : Sp := fun vs H Q _ => ∃ (a b : Addr) (fo : Fo) (xs : List V), vs = [.ref a, .ref b] ∧ FoAt C H a fo ∧ H b = some (.tup xs) ∧ xs.length = fo.be.length ∧ Q (.bl true) H
def nIsAmt : List Str := ["forest", "thing"]
theorem scIsAmt : FnScope nIsAmt ["forest", "thing"] (defScope sIsAmt) := ⟨rfl, rfl, rfl, by decide +kernel, rfl, by decide +kernel, by decide +kernel⟩
theorem dIsAmt (B : Defs K mg C) : Def P w K mg base "is_amounts" 1 ["forest", "thing"] (spIsAmt C) := by
  have N := B.N
  have T := B.T
  refine def_of B.iam fun f fd F => ?_
  refine F.ok scIsAmt (fun vs H Q E h => ?_) (fun cdv A outer s H vs Q E hr h => ?_)
  · obtain ⟨a, b, fo, xs, rfl, _⟩ := h
    rfl
  · obtain ⟨a, b, fo, xs, rfl, ⟨dx, ap, ab, aa, h0, h1, h2, h3⟩, hb, hl, k⟩ := h
    refine ⟨_, pss_one (ps_ret (pe_and (pe_callB call_isi (by rfl) N.is.inst (by decide +kernel) (pa_cons (pv 1) (pa_cons (pe_bltn (v := .ty "tuple") (by rfl) N.is.tup (by decide +kernel) rfl) pa_nil)))
      (pe_one (pe_cmpR op_eq (pe_callB call_len_seq (by rfl) N.is.len PySem.boot_len (pa_cons (pv 1) pa_nil)) (pe_callB call_len_seq (by rfl) N.is.len PySem.boot_len (pa_cons (pe_fld (pv 0) rfl) pa_nil)) (nomark _))))), ?_⟩
    refine ⟨_, rfl, _, .ty "tuple", _, _, true, rfl, .ty _, .base (.tup hb), kit_ty (by decide +kernel), true, rfl, ?_⟩
    refine ifT rfl ?_
    refine ⟨_, rfl, b, _, rfl, .inr (.inl (.inl hb)), _, rfl, a, C, dx, _, _, rfl, h0, T.cl, T.nB, fB, ab, _, rfl, .inr (tnL h2), rfl, ?_⟩
    rw [List.length_map, hl, decide_eq_true rfl]
    exact k
end
end Cn
namespace Cn
open PySem PySem.Spec PyProof.Rows L2 Ck
section
variable {P : Program} {w : World} {K : PySem.W.Frag} {mg : Str → Option Value} {base : Heap} {C : Addr}
theorem anyWalk {J : It} {n : Nat} {G : Hp → Prop} {Y : Nat → Hp → V → Hp → Prop} (w : Walk J n G Y) {H0 : Hp} {Qd : Hp → Prop} {Body : (Hp → Prop) → V → Hp → Prop} (Pv : Nat → Hp → Prop) (start : Pv 0 H0) (still : ∀ i H, i ≤ n → Pv i H → G H)
    (turn : ∀ i x H H', i < n → Pv i H → Y i H x H' → Body (Pv (i + 1)) x H') (over : ∀ H, Pv n H → Qd H) :
    ∃ W : Nat → Nat → Hp → Prop, (∃ m, W 0 m H0) ∧ ∀ i m H, W i m H → (J.stop i H ∧ Qd H) ∨ (J.go i H ∧ ∃ Nx : Hp → Prop, (∀ H', Nx H' → ∃ m', m' < m ∧ W (i + 1) m' H') ∧ ∀ x H', J.yld i H x H' → Body Nx x H') := by
  refine ⟨fun i m H => m + i = n ∧ Pv i H, ⟨n, Nat.add_zero n, start⟩, fun i m H hW => ?_⟩
  obtain ⟨sum, here⟩ := hW
  have st := still i H (by omega) here
  cases m with
  | zero =>
    have ei : i = n := by omega
    subst ei
    exact .inl ⟨w.stops H st, over H here⟩
  | succ m => exact .inr ⟨w.goes i H (by omega) st, Pv (i + 1), fun H' later => ⟨m, Nat.lt_succ_self m, by omega, later⟩, fun x H' y => turn i x H H' (by omega) here (w.yields i H x H' (by omega) st y)⟩
theorem bigLine {n : Nat} (h : n ≤ 16000) : n < sizeLine := Nat.lt_of_le_of_lt h (by decide)
theorem num_log : ∀ n : Nat, n < 100 → ((n : Nat) : Int).natAbs.log2 < 1920 := by decide +kernel
abbrev vS (l : List Nat) : V := .str (Sg l)
theorem vS_get {ls : List (List Nat)} {i : Nat} {x : V} (h : (ls.map vS)[i]? = some x) : ∃ l, ls[i]? = some l ∧ x = vS l := by
  rw [List.getElem?_map] at h
  obtain ⟨l, h1, h2⟩ := Option.map_eq_some_iff.mp h
  exact ⟨l, h1, h2.symm⟩
theorem litAH : (Str.ofString "abcdefgh") = Sg [97, 98, 99, 100, 101, 102, 103, 104] := lit _ _ (by decide)
theorem litXZ : (Str.ofString "xyz") = Sg [120, 121, 122] := lit _ _ (by decide)
theorem atSome {l : List Nat} {d : Int} (d0 : 0 ≤ d) (d1 : d < l.length) : ∃ c, atI l d = some c := by
  obtain ⟨n, rfl⟩ := Int.eq_ofNat_of_zero_le d0
  exact ⟨l[n]'(by omega), atI_nat (List.getElem?_eq_getElem (by omega))⟩
/-- a drawn amount: a text -/
def spLWord : Sp := fun vs H Q _ => ∃ (p : Addr) (S : Addr → Prop) (i : Nat), vs = [.ref p, vn i] ∧ HandIn H p S ∧ i < 100 ∧ ∀ (l : List Nat) (H' : Hp), l.length ≤ 4 → HandIn H' p S → Kept p H H' → Q (vS l) H'
def nLWord : List Str := ["_law_pool_here", "_law_place"]
theorem scLWord : FnScope nLWord ["_law_pool_here", "_law_place"] (defScope sLWord) := ⟨rfl, rfl, rfl, by decide +kernel, rfl, by decide +kernel, by decide +kernel⟩
theorem dLWord (B : Defs K mg C) : Def P w K mg base "_law_word" 2 ["_law_pool_here", "_law_place"] spLWord := by
  obtain ⟨fD, fdD, GD, gD, kD, bD⟩ := dDraw (P := P) (w := w) (base := base) B
  have mS := B.zStr
  refine def_of B.lwd fun f fd F => ?_
  refine F.ok scLWord (fun vs H Q E h => ?_) (fun cdv A outer s H vs Q E hr h => ?_)
  · obtain ⟨p, S, i, rfl, _⟩ := h
    rfl
  · obtain ⟨p, S, i, rfl, hI, hi, k⟩ := h
    refine ⟨_, pss_cons (ps_if (pt_cmpR op_eq (pe_call GD hr (by rfl) gD kD bD .nil pass0 (pa_cons (pv 0) (pa_cons pe_int pa_nil))) pe_int (nomark _)) (pss_one (ps_ret pe_str)) pss_nil)
      (pss_one (ps_ret (pe_op op_add_str (pe_op op_add_str (pe_ix ix_str pe_str (pe_call GD hr (by rfl) gD kD bD .nil pass0 (pa_cons (pv 0) (pa_cons pe_int pa_nil))) (fun _ _ => rfl)) (pe_callTy call_str_int (by rfl) mS (by decide +kernel) (pa_cons (pv 1) pa_nil)))
        (pe_ix ix_str pe_str (pe_call GD hr (by rfl) gD kD bD .nil pass0 (pa_cons (pv 0) (pa_cons pe_int pa_nil))) (fun _ _ => rfl))))), ?_⟩
    refine ⟨_, rfl, p, S, 10, rfl, hI, by decide, by decide, fun d H1 d0 d1 hI1 k1 => ⟨rfl, _, rfl, ?_⟩⟩
    refine ite2 (fun _ => ?_) (fun _ => ?_)
    · rw [lit0]
      exact k [] _ (Nat.zero_le _) hI1 k1
    refine ⟨_, rfl, p, S, 8, rfl, hI1, by decide, by decide, fun e H2 e0 e1 hI2 k2 => ?_⟩
    obtain ⟨c, hc⟩ := atSome (l := [97, 98, 99, 100, 101, 102, 103, 104]) e0 e1
    refine ⟨_, e, c, rfl, rfl, by decide +kernel, by rw [litAH]; exact hc, ?_⟩
    refine ⟨_, rfl, _, rfl, num_log i hi, ?_⟩
    rw [str_num]
    have hl := num_len hi
    refine ⟨_, _, rfl, rfl, by show (Sg [c]).length + _ ≤ _; rw [sg_len, sg_len]; show 1 + _ ≤ 16777216; omega, ?_⟩
    refine ⟨_, rfl, p, S, 3, rfl, hI2, by decide, by decide, fun g H3 e2 e3 hI3 k3 => ?_⟩
    obtain ⟨c2, hc2⟩ := atSome (l := [120, 121, 122]) e2 e3
    refine ⟨_, g, c2, rfl, rfl, by decide +kernel, by rw [litXZ]; exact hc2, ?_⟩
    have ej : ((⟨#[c]⟩ : Str) ++ numS i) = Sg ([c] ++ TL.numL i) := SX.S_cat [c] (TL.numL i)
    rw [ej]
    refine ⟨_, _, rfl, rfl, by show _ + (Sg [c2]).length ≤ _; rw [sg_len, sg_len, List.length_append]; show 1 + _ + 1 ≤ 16777216; omega, ?_⟩
    have ek : (Sg ([c] ++ TL.numL i) ++ (⟨#[c2]⟩ : Str)) = Sg (([c] ++ TL.numL i) ++ [c2]) := SX.S_cat _ [c2]
    rw [ek]
    refine k _ _ ?_ hI3 (kept_trans k1 (kept_trans k2 k3))
    rw [List.length_append, List.length_append]
    show 1 + _ + 1 ≤ 4
    omega
/-- drawn amounts -/
def spLWords : Sp := fun vs H Q _ => ∃ (p : Addr) (S : Addr → Prop) (b : Addr) (ns : List Nat), vs = [.ref p, .ref b] ∧ HandIn H p S ∧ TN H b ns ∧ (∀ n ∈ ns, n < 100) ∧ ns.length ≤ 60 ∧
  ∀ (r : Addr) (ws : List (List Nat)) (H' : Hp), HandIn H' p S → Kept p H H' → ws.length = ns.length → (∀ l ∈ ws, l.length ≤ 4) → H' r = some (.tup (ws.map vS)) → Q (.ref r) H'
def nLWords : List Str := ["_law_pool_here", "_law_places", "_law_place"]
theorem scLWords : FnScope nLWords ["_law_pool_here", "_law_places"] (defScope sLWords) := ⟨rfl, rfl, rfl, by decide +kernel, rfl, by decide +kernel, by decide +kernel⟩
theorem dLWords (B : Defs K mg C) : Def P w K mg base "_law_words" 3 ["_law_pool_here", "_law_places"] spLWords := by
  obtain ⟨fW, fdW, GW, gW, kW, bW⟩ := dLWord (P := P) (w := w) (base := base) B
  have N := B.N
  have nd := scLWords.nd
  refine def_of B.lws fun f fd F => ?_
  refine F.ok scLWords (fun vs H Q E h => ?_) (fun cdv A outer s H vs Q E hr h => ?_)
  · obtain ⟨p, S, b, ns, rfl, _⟩ := h
    rfl
  · obtain ⟨p, S, b, ns, rfl, hI, hb, hn, hl, k⟩ := h
    refine ⟨_, pss_one (ps_ret (pe_callTy call_tuple_of (by rfl) N.is.tup (by decide +kernel) (pa_cons (pe_lc (own := [("_law_place", 2)]) (g := gName 2) (tt := tYes) rfl nd (pi_tup (pv 1))
        (blkOk_by (N := nLWords) (sc := defScope sLWords) (by decide +kernel)) (fun _ _ _ _ _ => pg_name (i := 2) nd rfl (Or.inl rfl)) (fun _ _ _ _ _ => pts_nil) (fun _ _ _ _ _ => pe_call GW hr (by rfl) gW kW bW .nil pass0 (pa_cons (pv 0) (pa_cons (pv 2) pa_nil)))) pa_nil))), ?_⟩
    refine ⟨_, rfl, b, rfl, ⟨_, tnL hb⟩, fun D nD => ?_⟩
    have nDp := hand_ne hI nD
    have bp := tup_ne hI hb
    refine anyWalk (walk_tup (xs := ns.map vn)) (fun i G => HandIn G p (fun x => x = D ∨ S x) ∧ Kept p H G ∧ ∃ ws : List (List Nat), G D = some (.lst (ws.map vS)) ∧ ws.length = i ∧ ∀ l ∈ ws, l.length ≤ 4) ⟨handIn_add hI nD, kept_same (smUpd nD), [], upd_same, rfl, fun l h => nomatch h⟩ (fun i G _ z => tnL (z.2.1 _ _ bp hb)) ?_ ?_
    · rintro i x G G' hi ⟨hG, kG, ws, hD, hlw, hw⟩ ⟨rfl, hx⟩
      obtain ⟨n, hn2, rfl⟩ := vn_get hx
      have hi : i < ns.length := by simpa using hi
      refine ⟨rfl, _, rfl, _, rfl, p, _, n, rfl, hG, hn n (List.mem_of_getElem? hn2), fun l G2 hl4 hG2 k2 => ?_⟩
      have hD2 := k2 _ _ nDp hD
      refine ⟨_, hD2, small1000 (by rw [List.length_map]; omega), handIn_write hG2 (.inl rfl), kept_over nD (kept_trans kG k2), ws ++ [l], by rw [upd_same, List.map_append]; rfl, by rw [List.length_append, hlw]; rfl, fun x h => ?_⟩
      rcases List.mem_append.mp h with h | h
      · exact hw x h
      · rw [List.mem_singleton.mp h]; exact hl4
    · rintro G ⟨hG, kG, ws, hD, hlw, hw⟩
      refine ⟨D, _, rfl, .inl ⟨.inl (.inl hD), fun r nr => ?_⟩⟩
      exact k r ws _ (handIn_keep (handIn_less hG fun _ z => .inr z) (smUpd nr)) (kept_trans kG (kept_same (smUpd nr))) (by rw [hlw, List.length_map]) hw upd_same
end
end Cn
namespace Cn
open PySem PySem.Spec PyProof.Rows L2 Ck
section
variable {P : Program} {w : World} {K : PySem.W.Frag} {mg : Str → Option Value} {base : Heap} {C : Addr}
/-- two texts joined -/
def spLJoin : Sp := fun vs H Q _ => ∃ a b : List Nat, vs = [vS a, vS b] ∧ a.length + b.length ≤ 100000 ∧ Q (vS (a ++ b)) H
def nLJoin : List Str := ["_law_one", "_law_other"]
theorem scLJoin : FnScope nLJoin ["_law_one", "_law_other"] (defScope sLJoin) := ⟨rfl, rfl, rfl, by decide +kernel, rfl, by decide +kernel, by decide +kernel⟩
theorem dLJoin (B : Defs K mg C) : Def P w K mg base "_law_joined" 1 ["_law_one", "_law_other"] spLJoin := by
  refine def_of B.ljo fun f fd F => ?_
  refine F.ok scLJoin (fun vs H Q E h => ?_) (fun cdv A outer s H vs Q E hr h => ?_)
  · obtain ⟨a, b, rfl, _⟩ := h
    rfl
  · obtain ⟨a, b, rfl, hl, k⟩ := h
    refine ⟨_, pss_one (ps_ret (pe_op op_add_str (pv 0) (pv 1))), ?_⟩
    refine ⟨_, rfl, _, rfl, _, _, rfl, rfl, by rw [sg_len, sg_len]; show a.length + b.length ≤ 16777216; omega, ?_⟩
    rw [SX.S_cat]
    exact k
/-- an adding of texts: the def at g, what it gives -/
structure Add (P : Program) (w : World) (K : PySem.W.Frag) (mg : Str → Option Value) (base : Heap) (g : Addr) (ad : List Nat → List Nat → List Nat) : Prop where
  ex : ∃ (fd : FuncData) (ps : List Str) (sp : Sp), FnOk P w K mg base CX0 1 g fd ps sp ∧ PySem.W.keepIn K (.ref g) = true ∧ Binds K fd ps [] ∧ ∀ (a b : List Nat) (H : Hp) (Q : VK) (E : XK), a.length + b.length ≤ 100000 → Q (vS (ad a b)) H → sp [vS a, vS b] H Q E
  len : ∀ a b, (ad a b).length ≤ a.length + b.length
theorem addJoin (B : Defs K mg C) : ∃ g, mg "_law_joined" = some (.ref g) ∧ Add P w K mg base g (fun a b => a ++ b) := by
  obtain ⟨f, fd, G, g, k, b⟩ := dLJoin (P := P) (w := w) (base := base) B
  exact ⟨f, g, ⟨fd, _, _, G, k, b, fun x y H Q E hl q => ⟨x, y, rfl, hl, q⟩⟩, fun a b => by rw [List.length_append]; exact Nat.le_refl _⟩
/-- what texts come to, none for none -/
def togL (ad : List Nat → List Nat → List Nat) : List (List Nat) → Option (List Nat)
  | [] => none
  | l :: ls => some (ls.foldl ad l)
def vA : Option (List Nat) → V
  | none => .non
  | some l => vS l
theorem tog_snoc {ad : List Nat → List Nat → List Nat} {ls : List (List Nat)} {x : List Nat} (h : ls ≠ []) : ∃ y, togL ad ls = some y ∧ togL ad (ls ++ [x]) = some (ad y x) := by
  cases ls with
  | nil => exact absurd rfl h
  | cons l ls => exact ⟨_, rfl, by show some ((ls ++ [x]).foldl ad l) = _; rw [List.foldl_append]; rfl⟩
theorem tog_len {ad : List Nat → List Nat → List Nat} (hl : ∀ a b, (ad a b).length ≤ a.length + b.length) {k : Nat} : ∀ {ls : List (List Nat)} {y : List Nat}, (∀ l ∈ ls, l.length ≤ k) → togL ad ls = some y → y.length ≤ ls.length * k := by
  intro ls
  cases ls with
  | nil => intro y _ h; cases h
  | cons l ls =>
    intro y h e
    cases e
    have go : ∀ (ms : List (List Nat)) (a : List Nat) (n : Nat), (∀ l ∈ ms, l.length ≤ k) → a.length ≤ n → (ms.foldl ad a).length ≤ n + ms.length * k := by
      intro ms
      induction ms with
      | nil => intro a n _ ha; show a.length ≤ n + 0 * k; omega
      | cons m ms ih =>
        intro a n hm ha
        have h1 := hm m List.mem_cons_self
        have h2 := hl a m
        have h3 := ih (ad a m) (n + k) (fun l h => hm l (List.mem_cons_of_mem _ h)) (by omega)
        show (ms.foldl ad (ad a m)).length ≤ n + (ms.length + 1) * k
        rw [Nat.succ_mul]
        omega
    have h1 := go ls l k (fun x hx => h x (List.mem_cons_of_mem _ hx)) (h l List.mem_cons_self)
    show (ls.foldl ad l).length ≤ (ls.length + 1) * k
    rw [Nat.succ_mul]
    omega
end
end Cn
namespace Cn
open PySem PySem.Spec PyProof.Rows L2 Ck
/-! events of a history -/
/-- what may be answered: what texts come to, or a nought -/
inductive An where
  | txt (o : Option (List Nat))
  | zero
deriving DecidableEq
def vAn : An → V
  | .txt o => vA o
  | .zero => .int 0
inductive Ev where
  | chg (k p : Nat) (w : List Nat)
  | ask (k p : Nat)
  | don (k : Nat)
  | tld (k : Nat) (a : An)
def Ev.key : Ev → Nat
  | .chg k _ _ => k
  | .ask k _ => k
  | .don k => k
  | .tld k _ => k
def Ev.word : Ev → Str
  | .chg _ _ _ => "change"
  | .ask _ _ => "ask"
  | .don _ => "done"
  | .tld _ _ => "told"
/-- what a deed's begin leaves due; none where it is ended -/
def Ev.leaves : Ev → Option Bool
  | .chg _ _ _ => some true
  | .ask _ _ => some false
  | .don _ => none
  | .tld _ _ => none
def Ev.ends : Ev → Bool
  | .chg _ _ _ => false
  | .ask _ _ => false
  | .don _ => true
  | .tld _ _ => true
def evV : Ev → List V
  | .chg k p w => [.str "change", vn k, vn p, vS w]
  | .ask k p => [.str "ask", vn k, vn p]
  | .don k => [.str "done", vn k]
  | .tld k a => [.str "told", vn k, vAn a]
def EvAt (H : Hp) (v : V) (e : Ev) : Prop := ∃ t, v = .ref t ∧ H t = some (.tup (evV e))
theorem evSame {H H' : Hp} (s : Same H H') {v : V} {e : Ev} (h : EvAt H v e) : EvAt H' v e := by
  obtain ⟨t, h1, h2⟩ := h
  exact ⟨t, h1, s _ _ h2⟩
/-- a place that the event may name -/
def evFor (fo : Fo) : Ev → Prop
  | .chg _ p _ => p ∈ fo.be
  | .ask _ p => p ∈ fo.as
  | _ => True
/-- what is due of each deed -/
def dstep (d : Nat → Option (Option Bool)) (e : Ev) : Nat → Option (Option Bool) := fun j => if j = e.key then some e.leaves else d j
def due (h : List Ev) : Nat → Option (Option Bool) := h.foldl dstep fun _ => none
theorem due_snoc (h : List Ev) (e : Ev) : due (h ++ [e]) = dstep (due h) e := by
  unfold due
  rw [List.foldl_append]
  rfl
/-- an event that may follow -/
def okE (d : Nat → Option (Option Bool)) : Ev → Prop
  | .chg k _ _ => d k = none
  | .ask k _ => d k = none
  | .don k => d k = some (some true)
  | .tld k _ => d k = some (some false)
structure Hist (fo : Fo) (h : List Ev) : Prop where
  pl : ∀ e ∈ h, evFor fo e
  ok : ∀ (i : Nat) (e : Ev), h[i]? = some e → okE (due (h.take i)) e
theorem hist_nil (fo : Fo) : Hist fo [] := ⟨fun e h => (nomatch h), fun i e h => by cases h⟩
theorem hist_snoc {fo : Fo} {h : List Ev} {e : Ev} (hh : Hist fo h) (p : evFor fo e) (o : okE (due h) e) : Hist fo (h ++ [e]) := by
  refine ⟨fun x hx => ?_, fun i x hx => ?_⟩
  · rcases List.mem_append.mp hx with hx | hx
    · exact hh.pl x hx
    · rw [List.mem_singleton.mp hx]; exact p
  · by_cases c : i < h.length
    · rw [List.getElem?_append_left c] at hx
      rw [List.take_append_of_le_length (Nat.le_of_lt c)]
      exact hh.ok i x hx
    · rw [List.getElem?_append_right (by omega)] at hx
      have ej : i - h.length = 0 := by
        cases e1 : i - h.length with
        | zero => rfl
        | succ m => rw [e1] at hx; cases hx
      rw [ej] at hx
      cases hx
      have ei : i = h.length := by omega
      rw [ei, List.take_left']
      · exact o
      · rfl
theorem hist_take {fo : Fo} {h : List Ev} (hh : Hist fo h) (n : Nat) : Hist fo (h.take n) := by
  refine ⟨fun e he => hh.pl e (List.mem_of_mem_take he), fun i e he => ?_⟩
  have hi : i < n := by
    refine Nat.lt_of_not_le fun z => ?_
    rw [List.getElem?_eq_none (by rw [List.length_take]; omega)] at he
    cases he
  rw [List.getElem?_take_of_lt hi] at he
  rw [List.take_take, Nat.min_eq_left (Nat.le_of_lt hi)]
  exact hh.ok i e he
/-- once begun, a deed is never as if it were not -/
theorem due_some {h : List Ev} {e : Ev} : ∀ {i : Nat}, h[i]? = some e → ∀ n, i < n → due (h.take n) e.key ≠ none := by
  intro i hi n hn
  induction n with
  | zero => omega
  | succ n ih =>
    by_cases hl : n < h.length
    · have hg : h[n]? = some h[n] := List.getElem?_eq_getElem hl
      rw [List.take_add_one, hg]
      show due (h.take n ++ [h[n]]) e.key ≠ none
      rw [due_snoc]
      unfold dstep
      by_cases c : e.key = h[n].key
      · rw [if_pos c]; exact fun z => nomatch z
      · rw [if_neg c]
        refine ih ?_
        refine Nat.lt_of_le_of_ne (Nat.le_of_lt_succ hn) fun z => c ?_
        subst z
        rw [hg] at hi
        rw [Option.some.inj hi]
    · rw [List.take_of_length_le (by omega)]
      have hil := (List.getElem?_eq_some_iff.mp hi).1
      have h2 := ih (by omega)
      rw [List.take_of_length_le (by omega)] at h2
      exact h2
theorem snocInd {α : Type} {P : List α → Prop} (h0 : P []) (h1 : ∀ l x, P l → P (l ++ [x])) (l : List α) : P l := by
  have go : ∀ m : List α, P m.reverse := by
    intro m
    induction m with
    | nil => exact h0
    | cons x m ih => rw [List.reverse_cons]; exact h1 _ x ih
  rw [← List.reverse_reverse l]
  exact go _
/-- the key that is due was begun ahead -/
theorem due_from {h : List Ev} {k : Nat} {o : Option Bool} : due h k = some o → ∃ (i : Nat) (e : Ev), h[i]? = some e ∧ e.key = k ∧ e.leaves = o ∧ ∀ j e', i < j → h[j]? = some e' → e'.key ≠ k := by
  refine snocInd (P := fun h => due h k = some o → ∃ (i : Nat) (e : Ev), h[i]? = some e ∧ e.key = k ∧ e.leaves = o ∧ ∀ j e', i < j → h[j]? = some e' → e'.key ≠ k) ?_ ?_ h
  · intro z; cases z
  · intro h x ih
    rw [due_snoc]
    unfold dstep
    by_cases c : k = x.key
    · rw [if_pos c]
      intro z
      refine ⟨h.length, x, by rw [List.getElem?_append_right (Nat.le_refl _), Nat.sub_self]; rfl, c.symm, Option.some.inj z, fun j e' hj he => ?_⟩
      have := (List.getElem?_eq_some_iff.mp he).1
      rw [List.length_append, List.length_singleton] at this
      omega
    · rw [if_neg c]
      intro z
      obtain ⟨i, e, h1, h2, h3, h4⟩ := ih z
      have hi := (List.getElem?_eq_some_iff.mp h1).1
      refine ⟨i, e, by rw [List.getElem?_append_left hi]; exact h1, h2, h3, fun j e' hj he => ?_⟩
      by_cases hl : j < h.length
      · rw [List.getElem?_append_left hl] at he
        exact h4 j e' hj he
      · rw [List.getElem?_append_right (by omega)] at he
        have ej : j - h.length = 0 := by
          cases e1 : j - h.length with
          | zero => rfl
          | succ m => rw [e1] at he; cases he
        rw [ej] at he
        cases he
        exact fun q => c q.symm
end Cn
namespace Cn
open PySem PySem.Spec PyProof.Rows L2 Ck
section
variable {P : Program} {w : World} {K : PySem.W.Frag} {mg : Str → Option Value} {base : Heap} {C : Addr}
/-- an event by itself -/
def spIsEv (C : Addr) : Sp := fun vs H Q _ => ∃ (a : Addr) (v : V) (fo : Fo) (e : Ev), vs = [.ref a, v] ∧ FoAt C H a fo ∧ EvAt H v e ∧ evFor fo e ∧ Q (.bl true) H
def nIsEv : List Str := ["forest", "thing"]
theorem scIsEv : FnScope nIsEv ["forest", "thing"] (defScope sIsEv) := ⟨rfl, rfl, rfl, by decide +kernel, rfl, by decide +kernel, by decide +kernel⟩
theorem dIsEv (B : Defs K mg C) : Def P w K mg base "_is_event" 3 ["forest", "thing"] (spIsEv C) := by
  obtain ⟨fI, fdI, DI⟩ := B.I
  have GI : FnOk P w K mg base CX0 1 fI fdI ["thing"] spIsInt := ok_isInt DI.F B.N
  obtain ⟨fB', fdB, GB, gB, kB, bB⟩ := dIsBear (P := P) (w := w) (base := base) B
  obtain ⟨fA', fdA, GA, gA, kA, bA⟩ := dIsAsk (P := P) (w := w) (base := base) B
  have N := B.N
  have mS := B.zStr
  refine def_of B.iev fun f fd F => ?_
  refine F.ok scIsEv (fun vs H Q E h => ?_) (fun cdv A outer s H vs Q E hr h => ?_)
  · obtain ⟨a, v, fo, e, rfl, _⟩ := h
    rfl
  · obtain ⟨a, v, fo, e, rfl, hF, ⟨t, rfl, ht⟩, hp, kk⟩ := h
    have h1 : Room 1 _ := hr.mono (by decide)
    refine ⟨_, pss_cons (ps_if (PW.pt (pw_or (pt_not (pt_val (pe_callB call_isi (by rfl) N.is.inst (by decide +kernel) (pa_cons (pv 1) (pa_cons (pe_bltn (v := .ty "tuple") (by rfl) N.is.tup (by decide +kernel) rfl) pa_nil)))))
          (pw_or (pt_cmpR op_lt (pe_callB call_len_seq (by rfl) N.is.len PySem.boot_len (pa_cons (pv 1) pa_nil)) pe_int (nomark _))
          (pw_or1 (pt_not (pt_val (pe_callB call_isi (by rfl) N.is.inst (by decide +kernel) (pa_cons (pe_ix ix_tup (pv 1) pe_int (fun _ _ => rfl)) (pa_cons (pe_bltn (v := .ty "str") (by rfl) mS (by decide +kernel) rfl) pa_nil))))))))) (pss_one ps_never) pss_nil)
      (pss_cons (ps_if (PW.pt (pw_or (pt_not (pt_val (pe_call GI h1 (by rfl) DI.g DI.F.kp DI.b .nil pass0 (pa_cons (pe_ix ix_tup (pv 1) pe_int (fun _ _ => rfl)) pa_nil))))
          (pw_or1 (pt_cmpR op_lt (pe_ix ix_tup (pv 1) pe_int (fun _ _ => rfl)) pe_int (nomark _))))) (pss_one ps_never) pss_nil)
      (pss_cons (ps_if (pt_cmpR op_eq (pe_ix ix_tup (pv 1) pe_int (fun _ _ => rfl)) pe_str (nomark _)) (pss_one (ps_ret (pe_and (pe_cmpR op_eq (pe_callB call_len_seq (by rfl) N.is.len PySem.boot_len (pa_cons (pv 1) pa_nil)) pe_int (nomark _)) (pe_one (pe_call GB hr (by rfl) gB kB bB .nil pass0 (pa_cons (pv 0) (pa_cons (pe_ix ix_tup (pv 1) pe_int (fun _ _ => rfl)) pa_nil))))))) pss_nil)
      (pss_cons (ps_if (pt_cmpR op_eq (pe_ix ix_tup (pv 1) pe_int (fun _ _ => rfl)) pe_str (nomark _)) (pss_one (ps_ret (pe_and (pe_cmpR op_eq (pe_callB call_len_seq (by rfl) N.is.len PySem.boot_len (pa_cons (pv 1) pa_nil)) pe_int (nomark _)) (pe_one (pe_call GA hr (by rfl) gA kA bA .nil pass0 (pa_cons (pv 0) (pa_cons (pe_ix ix_tup (pv 1) pe_int (fun _ _ => rfl)) pa_nil))))))) pss_nil)
      (pss_cons (ps_if (pt_cmpR op_eq (pe_ix ix_tup (pv 1) pe_int (fun _ _ => rfl)) pe_str (nomark _)) (pss_one (ps_ret (pe_cmpR op_eq (pe_callB call_len_seq (by rfl) N.is.len PySem.boot_len (pa_cons (pv 1) pa_nil)) pe_int (nomark _)))) pss_nil)
      (pss_one (ps_ret (pe_and (pe_cmpR op_eq (pe_ix ix_tup (pv 1) pe_int (fun _ _ => rfl)) pe_str (nomark _)) (pe_one (pe_cmpR op_eq (pe_callB call_len_seq (by rfl) N.is.len PySem.boot_len (pa_cons (pv 1) pa_nil)) pe_int (nomark _)))))))))), ?_⟩
    have wd : ∀ {z : V}, (evV e)[0]? = some z → atI (evV e) (0 : Int) = some z := fun {z} h => by
      have : atI (evV e) ((0 : Nat) : Int) = some z := atI_nat h
      exact this
    have kd : ∀ {z : V}, (evV e)[1]? = some z → atI (evV e) (1 : Int) = some z := fun {z} h => by
      have : atI (evV e) ((1 : Nat) : Int) = some z := atI_nat h
      exact this
    have two : ∀ {z : V}, (evV e)[2]? = some z → atI (evV e) (2 : Int) = some z := fun {z} h => by
      have : atI (evV e) ((2 : Nat) : Int) = some z := atI_nat h
      exact this
    have w0 : (evV e)[0]? = some (.str e.word) := by cases e <;> rfl
    have w1 : (evV e)[1]? = some (vn e.key) := by cases e <;> rfl
    have l2 : 2 ≤ (evV e).length := by cases e <;> exact Nat.le_of_ble_eq_true rfl
    have tl : ∀ {G : Hp}, G t = some (.tup (evV e)) → SqT K G t (evV e) := fun h => .inl (.inl h)
    refine ⟨_, rfl, _, .ty "tuple", _, _, true, rfl, .ty _, .base (.tup ht), kit_ty (by decide +kernel), true, rfl, ?_⟩
    refine ifF (by decide) ?_
    refine ⟨_, rfl, t, _, rfl, .inr (tl ht), _, _, rfl, rfl, _, rfl, ?_⟩
    refine ifF (by rw [decide_eq_true_iff]; omega) ?_
    refine ⟨_, rfl, t, _, (0 : Int), _, rfl, rfl, tl ht, wd w0, _, .ty "str", _, _, true, rfl, .ty _, .base (.str _), kit_ty (by decide +kernel), true, rfl, ?_⟩
    refine ifF (by decide) ?_
    refine ⟨_, rfl, t, _, (1 : Int), _, rfl, rfl, tl ht, kd w1, _, rfl, true, rfl, ?_⟩
    refine ifF (by decide) ?_
    refine ⟨_, rfl, t, _, (1 : Int), _, rfl, rfl, tl ht, kd w1, _, _, rfl, rfl, _, rfl, ?_⟩
    refine ifF (by rw [decide_eq_true_iff]; omega) ?_
    refine ⟨_, rfl, t, _, (0 : Int), _, rfl, rfl, tl ht, wd w0, rfl, _, rfl, ?_⟩
    cases e with
    | chg k p w =>
      refine ifT (by show decide (V.str (Str.ofString "change") = V.str (Str.ofString "change")) = true; decide +kernel) ?_
      refine ⟨_, rfl, t, _, rfl, .inr (tl ht), rfl, _, rfl, ?_⟩
      refine ifT (decide_eq_true rfl) ?_
      exact ⟨_, rfl, _, rfl, t, _, (2 : Int), _, rfl, rfl, tl ht, two rfl, a, fo, p, rfl, hF, hp, kk⟩
    | ask k p =>
      refine ifF (by show ¬ decide (V.str (Str.ofString "ask") = V.str (Str.ofString "change")) = true; decide +kernel) ?_
      refine ⟨_, rfl, t, _, (0 : Int), _, rfl, rfl, tl ht, wd w0, rfl, _, rfl, ?_⟩
      refine ifT (by show decide (V.str (Str.ofString "ask") = V.str (Str.ofString "ask")) = true; decide +kernel) ?_
      refine ⟨_, rfl, t, _, rfl, .inr (tl ht), rfl, _, rfl, ?_⟩
      refine ifT (decide_eq_true rfl) ?_
      exact ⟨_, rfl, _, rfl, t, _, (2 : Int), _, rfl, rfl, tl ht, two rfl, a, fo, p, rfl, hF, hp, kk⟩
    | don k =>
      refine ifF (by show ¬ decide (V.str (Str.ofString "done") = V.str (Str.ofString "change")) = true; decide +kernel) ?_
      refine ⟨_, rfl, t, _, (0 : Int), _, rfl, rfl, tl ht, wd w0, rfl, _, rfl, ?_⟩
      refine ifF (by show ¬ decide (V.str (Str.ofString "done") = V.str (Str.ofString "ask")) = true; decide +kernel) ?_
      refine ⟨_, rfl, t, _, (0 : Int), _, rfl, rfl, tl ht, wd w0, rfl, _, rfl, ?_⟩
      refine ifT (by show decide (V.str (Str.ofString "done") = V.str (Str.ofString "done")) = true; decide +kernel) ?_
      exact ⟨_, rfl, t, _, rfl, .inr (tl ht), rfl, kk⟩
    | tld k an =>
      refine ifF (by show ¬ decide (V.str (Str.ofString "told") = V.str (Str.ofString "change")) = true; decide +kernel) ?_
      refine ⟨_, rfl, t, _, (0 : Int), _, rfl, rfl, tl ht, wd w0, rfl, _, rfl, ?_⟩
      refine ifF (by show ¬ decide (V.str (Str.ofString "told") = V.str (Str.ofString "ask")) = true; decide +kernel) ?_
      refine ⟨_, rfl, t, _, (0 : Int), _, rfl, rfl, tl ht, wd w0, rfl, _, rfl, ?_⟩
      refine ifF (by show ¬ decide (V.str (Str.ofString "told") = V.str (Str.ofString "done")) = true; decide +kernel) ?_
      refine ⟨_, rfl, t, _, (0 : Int), _, rfl, rfl, tl ht, wd w0, rfl, _, rfl, ?_⟩
      refine ifT (by show decide (V.str (Str.ofString "told") = V.str (Str.ofString "told")) = true; decide +kernel) ?_
      exact ⟨_, rfl, t, _, rfl, .inr (tl ht), rfl, kk⟩
end
end Cn
namespace Cn
open PySem PySem.Spec PyProof.Rows L2 Ck
section
theorem ix_kd {X : Cx} {d : Addr} {es : Array DictEntry} {n : Nat} (D : KDict X.K X.w d es n) : IxR X (fun x y H Q => ∃ (z : Str) (u0 : Value) (v0 : V), x = .ref d ∧ y = .str z ∧ PySem.W.nsIn X.K d z = some (some u0) ∧ RelV v0 u0 ∧ Q v0 H) := by
  intro value slice pins s σ H x y v u Q I rx ry h hs
  have hx : x = .ref d := by obtain ⟨_, _, _, e, _⟩ := h; exact e
  subst hx
  cases rx
  exact tail_any (kd_type D I) PySem.F.slot_dict_getitem.lookup (op_item_kd D pins s σ H (.ref d) y (.ref d) u Q I rfl ry h) hs
/-- the words with which deeds end, by those with which they begin -/
structure EndsD (K : PySem.W.Frag) (w : World) (mg : Str → Option Value) : Prop where
  ex : ∃ (d : Addr) (es : Array DictEntry) (n : Nat) (t1 t2 : Tok), mg "ENDS" = some (.ref d) ∧ KDict K w d es n ∧ PySem.W.nsIn K d "change" = some (some (.str "done" t1)) ∧ PySem.W.nsIn K d "ask" = some (some (.str "told" t2)) ∧
    PySem.W.nsIn K d "done" = some none ∧ PySem.W.nsIn K d "told" = some none
end
theorem putKLen {kvs : List (L2.Key × V)} {k : L2.Key} {v : V} : (putK kvs k v).length ≤ kvs.length + 1 := by
  unfold putK
  split
  · rw [List.length_map]; omega
  · rw [List.length_append]; exact Nat.le_refl _
/-- what is due, as the program's dict has it -/
def duV : Option Bool → V
  | none => .non
  | some true => .str "done"
  | some false => .str "told"
def DuAt (H : Hp) (D : Addr) (d : Nat → Option (Option Bool)) (n : Nat) : Prop := ∃ kvs : List (L2.Key × V), H D = some (.dK kvs) ∧ kvs.length ≤ n ∧ ∀ k : Nat, valV kvs (.inl (k : Int)) = (d k).map duV
theorem duPut {H : Hp} {D : Addr} {d : Nat → Option (Option Bool)} {n : Nat} {kvs : List (L2.Key × V)} {e : Ev} {v : V} (hv : v = duV e.leaves) (hl : kvs.length ≤ n) (hk : ∀ k : Nat, valV kvs (.inl (k : Int)) = (d k).map duV) :
    DuAt (upd H D (.dK (putK kvs (.inl (e.key : Int)) v))) D (dstep d e) (n + 1) := by
  refine ⟨_, upd_same, Nat.le_trans putKLen (by omega), fun k => ?_⟩
  rw [valV_put]
  unfold dstep
  by_cases c : k = e.key
  · rw [if_pos (by rw [c]), if_pos c, hv]
    rfl
  · rw [if_neg (fun z => c (by injection z with z; omega)), if_neg c]
    exact hk k
section
variable {P : Program} {w : World} {K : PySem.W.Frag} {mg : Str → Option Value} {base : Heap} {C : Addr}
/-- a history's events -/
def EvsAt (H : Hp) (us : List V) (h : List Ev) : Prop := Paired (EvAt H) us h
theorem evsSame {H H' : Hp} (s : Same H H') {us : List V} {h : List Ev} (q : EvsAt H us h) : EvsAt H' us h := Paired.mapP q fun _ _ z => evSame s z
def spAreEv (C : Addr) : Sp := fun vs H Q _ => ∃ (a b : Addr) (fo : Fo) (us : List V) (h : List Ev), vs = [.ref a, .ref b] ∧ FoAt C H a fo ∧ SeqH H b us ∧ EvsAt H us h ∧ Hist fo h ∧ h.length ≤ 200 ∧ ∀ H', Same H H' → Q (.bl true) H'
def nAreEv : List Str := ["forest", "thing", "due", "event", "word", "k"]
theorem scAreEv : FnScope nAreEv ["forest", "thing"] (defScope sAreEv) := ⟨rfl, rfl, rfl, by decide +kernel, rfl, by decide +kernel, by decide +kernel⟩
theorem dAreEv (B : Defs K mg C) (ED : EndsD K w mg) : Def P w K mg base "are_events" 4 ["forest", "thing"] (spAreEv C) := by
  obtain ⟨fE, fdE, GE, gE, kE, bE⟩ := dIsEv (P := P) (w := w) (base := base) B
  obtain ⟨dE, es, n, tk1, tk2, mE, KD, n1, n2, n3, n4⟩ := ED.ex
  obtain ⟨tm, mV⟩ := B.mEv
  have N := B.N
  have nd := scAreEv.nd
  refine def_of B.aev fun f fd F => ?_
  refine F.ok scAreEv (fun vs H Q E h => ?_) (fun cdv A outer s H vs Q E hr h => ?_)
  · obtain ⟨a, b, fo, us, h, rfl, _⟩ := h
    rfl
  · obtain ⟨a, b, fo, us, h, rfl, hF, hb, hE, hh, hl, k⟩ := h
    have hu : (A.deeper (envOfC "are_events" (defScope sAreEv) s.heap.objs.size f cdv)).units + 1 < cLine := by have := hr.units; omega
    refine ⟨_, pss_cons (ps_if (PW.pt (pw_or (pt_not (pt_val (pe_callB call_isiT (by rfl) N.is.inst (by decide +kernel) (pa_cons (pv 1) (pa_cons (pe_tup (pa_cons (pe_bltn (v := .ty "list") (by rfl) N.is.lst (by decide +kernel) rfl) (pa_cons (pe_bltn (v := .ty "tuple") (by rfl) N.is.tup (by decide +kernel) rfl) pa_nil))) pa_nil)))))
          (pw_or1 (pt_cmpR op_gt (pe_callB call_len_seq (by rfl) N.is.len PySem.boot_len (pa_cons (pv 1) pa_nil)) (pe_glob (v := .int 200) (by rfl) mV ⟨_, rfl⟩) (nomark _))))) (pss_one ps_never) pss_nil)
      (pss_cons (ps_set (i := 2) nd rfl (Or.inl rfl) pe_dnewK)
      (pss_cons (ps_for PassesOwn.never rfl (PI.orr (pi_list (pv 1)) (pi_tup (pv 1))) (pg_name (i := 3) nd rfl (Or.inl rfl))
        (pss_cons (ps_if (pt_not (pt_val (pe_call GE hr (by rfl) gE kE bE .nil pass0 (pa_cons (pv 0) (pa_cons (pv 3) pa_nil))))) (pss_one ps_never) pss_nil)
        (pss_cons (ps_par (i := 4) (j := 5) rfl nd rfl rfl (by decide) rfl rfl (pa_cons (pe_ix ix_tup (pv 3) pe_int (fun _ _ => rfl)) (pa_cons (pe_ix ix_tup (pv 3) pe_int (fun _ _ => rfl)) pa_nil)) rfl)
        (pss_one (ps_if (pt_cmpR (op_in_kd KD) (pv 4) (pe_glob (v := .ref dE) (by rfl) mE rfl) (by rfl))
          (pss_cons (ps_if (pt_cmp (pc_din hu (pv 5) (pv 2))) (pss_one ps_never) pss_nil)
          (pss_one (ps_dput hu (pv 2) (pv 5) (pe_ix (ix_kd KD) (pe_glob (v := .ref dE) (by rfl) mE rfl) (pv 4) (fun _ _ => rfl)) rfl)))
          (pss_cons (ps_if (PW.pt (pw_or (pt_cmp (pc_dnotin hu (pv 5) (pv 2))) (pw_or1 (pt_cmpR op_ne (pe_dget hu (pv 2) (pv 5) (fun _ _ => rfl)) (pv 4) (nomark _))))) (pss_one ps_never) pss_nil)
          (pss_one (ps_dput hu (pv 2) (pv 5) pe_non rfl))))))))
      (pss_one (ps_ret pe_bl)))), ?_⟩
    have ul : us.length = h.length := Paired.length hE
    refine ⟨_, rfl, by show 2 ≤ sizeLine; decide, fun t1 m1 => ?_⟩
    have S1 := smUpd (o := .tup [.ty "list", .ty "tuple"]) m1
    have ht1 : upd H t1 (.tup [.ty "list", .ty "tuple"]) t1 = some (.tup [.ty "list", .ty "tuple"]) := upd_same
    generalize upd H t1 (.tup [.ty "list", .ty "tuple"]) = H1 at S1 ht1 ⊢
    obtain ⟨ty, hty, kty⟩ := seqTyB (K := K) (seqSame S1 hb)
    refine ⟨_, t1, _, _, _, true, rfl, ht1, .cons (.ty _) (.cons (.ty _) .nil), hty, kty, true, rfl, ?_⟩
    refine ifF (by decide) ?_
    refine ⟨_, rfl, b, _, rfl, seqSq (seqSame S1 hb), _, _, rfl, rfl, _, rfl, ?_⟩
    refine ifF (by rw [decide_eq_true_iff]; omega) ?_
    refine fun D nD => ?_
    have sD : Same H1 (upd H1 D (.dK [])) := smUpd nD
    show _ ∨ _
    refine seqWalk rfl (seqSame S1 hb) sD fun J wk => ?_
    refine for_it wk (fun i σ G => Same H1 G ∧ (∃ t3 t4 t5 : Option V, σ = [some (.ref a), some (.ref b), some (.ref D), t3, t4, t5]) ∧ DuAt G D (due (h.take i)) i) ⟨sD, ⟨_, _, _, rfl⟩, [], upd_same, Nat.le_refl _, fun k => rfl⟩ (fun i σ G _ z => z.1) ?_ ?_
    · rintro i x σ G G2 hi ⟨sm, ⟨t3, t4, t5, rfl⟩, kvs, hD, hkl, hkv⟩ ⟨rfl, hx⟩
      obtain ⟨e, he, hv⟩ := pairedGetQ (evsSame (S1.trans sm) hE) hx
      obtain ⟨t, rfl, ht⟩ := id hv
      have hok := hh.ok i e he
      have et : h.take (i + 1) = h.take i ++ [e] := by rw [List.take_add_one, he]; rfl
      have w0 : (evV e)[0]? = some (.str e.word) := by cases e <;> rfl
      have w1 : (evV e)[1]? = some (vn e.key) := by cases e <;> rfl
      have wd : atI (evV e) (0 : Int) = some (.str e.word) := by
        have : atI (evV e) ((0 : Nat) : Int) = some (.str e.word) := atI_nat w0
        exact this
      have kd : atI (evV e) (1 : Int) = some (vn e.key) := by
        have : atI (evV e) ((1 : Nat) : Int) = some (vn e.key) := atI_nat w1
        exact this
      refine ⟨_, rfl, _, rfl, a, .ref t, fo, e, rfl, foAt_same (S1.trans sm) hF, hv, hh.pl e (List.mem_of_getElem? he), true, rfl, ?_⟩
      refine ifF (by decide) ?_
      have tl : SqT K G2 t (evV e) := .inl (.inl ht)
      refine ⟨_, rfl, t, _, (0 : Int), _, rfl, rfl, tl, wd, _, rfl, t, _, (1 : Int), _, rfl, rfl, tl, kd, _, _, rfl, ?_⟩
      cases e with
      | chg ky p w =>
        have hnone : valV kvs (.inl (ky : Int)) = none := by
          rw [hkv, show due (h.take i) ky = none from hok]
          rfl
        refine ⟨_, rfl, _, _, rfl, rfl, n1, _, rfl, ?_⟩
        refine ifT rfl ?_
        refine ⟨_, rfl, _, rfl, D, none, rfl, .inl ⟨kvs, .inl (ky : Int), .inl hD, rfl, hnone.symm⟩, _, rfl, ?_⟩
        refine ifF (by decide) ?_
        refine ⟨_, rfl, _, _, .str "done", rfl, rfl, n1, ⟨_, rfl⟩, _, rfl, _, rfl, D, _, rfl, DPut.k (k := .inl (ky : Int)) hD (bigLine (by omega)), smOver nD sm, ⟨_, _, _, rfl⟩, ?_⟩
        rw [et, due_snoc]
        exact duPut (e := .chg ky p w) rfl hkl hkv
      | ask ky p =>
        have hnone : valV kvs (.inl (ky : Int)) = none := by
          rw [hkv, show due (h.take i) ky = none from hok]
          rfl
        refine ⟨_, rfl, _, _, rfl, rfl, n2, _, rfl, ?_⟩
        refine ifT rfl ?_
        refine ⟨_, rfl, _, rfl, D, none, rfl, .inl ⟨kvs, .inl (ky : Int), .inl hD, rfl, hnone.symm⟩, _, rfl, ?_⟩
        refine ifF (by decide) ?_
        refine ⟨_, rfl, _, _, .str "told", rfl, rfl, n2, ⟨_, rfl⟩, _, rfl, _, rfl, D, _, rfl, DPut.k (k := .inl (ky : Int)) hD (bigLine (by omega)), smOver nD sm, ⟨_, _, _, rfl⟩, ?_⟩
        rw [et, due_snoc]
        exact duPut (e := .ask ky p) rfl hkl hkv
      | don ky =>
        have hsome : valV kvs (.inl (ky : Int)) = some (duV (some true)) := by
          rw [hkv, show due (h.take i) ky = some (some true) from hok]
          rfl
        refine ⟨_, rfl, _, _, rfl, rfl, n3, _, rfl, ?_⟩
        refine ifF (by decide) ?_
        refine ⟨_, rfl, _, rfl, D, some _, rfl, .inl ⟨kvs, .inl (ky : Int), .inl hD, rfl, hsome.symm⟩, _, rfl, ?_⟩
        refine ifF (by decide) ?_
        refine ⟨_, rfl, _, rfl, D, _, rfl, .inl ⟨kvs, .inl (ky : Int), .inl hD, rfl, hsome.symm⟩, _, rfl, rfl, _, rfl, ?_⟩
        refine ifF (by show ¬ ((!decide (V.str (Str.ofString "done") = V.str (Str.ofString "done"))) = true); decide +kernel) ?_
        refine ⟨_, rfl, _, rfl, D, _, rfl, DPut.k (k := .inl (ky : Int)) hD (bigLine (by omega)), smOver nD sm, ⟨_, _, _, rfl⟩, ?_⟩
        rw [et, due_snoc]
        exact duPut (e := .don ky) rfl hkl hkv
      | tld ky an =>
        have hsome : valV kvs (.inl (ky : Int)) = some (duV (some false)) := by
          rw [hkv, show due (h.take i) ky = some (some false) from hok]
          rfl
        refine ⟨_, rfl, _, _, rfl, rfl, n4, _, rfl, ?_⟩
        refine ifF (by decide) ?_
        refine ⟨_, rfl, _, rfl, D, some _, rfl, .inl ⟨kvs, .inl (ky : Int), .inl hD, rfl, hsome.symm⟩, _, rfl, ?_⟩
        refine ifF (by decide) ?_
        refine ⟨_, rfl, _, rfl, D, _, rfl, .inl ⟨kvs, .inl (ky : Int), .inl hD, rfl, hsome.symm⟩, _, rfl, rfl, _, rfl, ?_⟩
        refine ifF (by show ¬ ((!decide (V.str (Str.ofString "told") = V.str (Str.ofString "told"))) = true); decide +kernel) ?_
        refine ⟨_, rfl, _, rfl, D, _, rfl, DPut.k (k := .inl (ky : Int)) hD (bigLine (by omega)), smOver nD sm, ⟨_, _, _, rfl⟩, ?_⟩
        rw [et, due_snoc]
        exact duPut (e := .tld ky an) rfl hkl hkv
    · rintro σ G ⟨sm, _⟩
      exact k _ (S1.trans sm)
/-- a history -/
def nIsHist : List Str := ["forest", "thing"]
theorem scIsHist : FnScope nIsHist ["forest", "thing"] (defScope sIsHist) := ⟨rfl, rfl, rfl, by decide +kernel, rfl, by decide +kernel, by decide +kernel⟩
theorem dIsHist (B : Defs K mg C) (ED : EndsD K w mg) : Def P w K mg base "is_history" 5 ["forest", "thing"] (spAreEv C) := by
  obtain ⟨fE, fdE, GE, gE, kE, bE⟩ := dAreEv (P := P) (w := w) (base := base) B ED
  refine def_of B.ihs fun f fd F => ?_
  refine F.ok scIsHist (fun vs H Q E h => ?_) (fun cdv A outer s H vs Q E hr h => ?_)
  · obtain ⟨a, b, fo, us, h, rfl, _⟩ := h
    rfl
  · obtain ⟨a, b, fo, us, h, rfl, q⟩ := h
    refine ⟨_, pss_one (ps_ret (pe_call GE hr (by rfl) gE kE bE .nil pass0 (pa_cons (pv 0) (pa_cons (pv 1) pa_nil)))), ?_⟩
    exact ⟨_, rfl, _, rfl, a, b, fo, us, h, rfl, q⟩
end
end Cn
namespace Cn
open PySem PySem.Spec PyProof.Rows L2 Ck
/-! where deeds end -/
def estep (s : (Nat → Option Nat) × Nat) (e : Ev) : (Nat → Option Nat) × Nat := ((fun j => if e.ends = true ∧ j = e.key then some s.2 else s.1 j), s.2 + 1)
theorem estep_len : ∀ (h : List Ev) (s : (Nat → Option Nat) × Nat), (h.foldl estep s).2 = s.2 + h.length
  | [], s => rfl
  | e :: h, s => by
    show (h.foldl estep (estep s e)).2 = _
    rw [estep_len h, List.length_cons]
    show s.2 + 1 + h.length = _
    omega
def endsOf (h : List Ev) : Nat → Option Nat := (h.foldl estep ((fun _ => none), 0)).1
theorem ends_snoc (h : List Ev) (e : Ev) : endsOf (h ++ [e]) = fun j => if e.ends = true ∧ j = e.key then some h.length else endsOf h j := by
  unfold endsOf
  rw [List.foldl_append]
  show (estep (h.foldl estep ((fun _ => none), 0)) e).1 = _
  funext j
  show (if e.ends = true ∧ j = e.key then some (h.foldl estep ((fun _ => none), 0)).2 else _) = _
  rw [estep_len]
  show (if e.ends = true ∧ j = e.key then some (0 + h.length) else _) = _
  rw [Nat.zero_add]
theorem ends_mem {h : List Ev} {k j : Nat} : endsOf h k = some j → ∃ e, h[j]? = some e ∧ e.ends = true ∧ e.key = k := by
  refine snocInd (P := fun h => endsOf h k = some j → ∃ e, h[j]? = some e ∧ e.ends = true ∧ e.key = k) ?_ ?_ h
  · intro z; cases z
  · intro h x ih z
    rw [ends_snoc] at z
    by_cases c : x.ends = true ∧ k = x.key
    · have z : some h.length = some j := by
        have := z
        simp only [if_pos c] at this
        exact this
      have ej := Option.some.inj z
      exact ⟨x, by rw [← ej, List.getElem?_append_right (Nat.le_refl _), Nat.sub_self]; rfl, c.1, c.2.symm⟩
    · have z : endsOf h k = some j := by
        have := z
        simp only [if_neg c] at this
        exact this
      obtain ⟨e, h1, h2, h3⟩ := ih z
      exact ⟨e, by rw [List.getElem?_append_left (List.getElem?_eq_some_iff.mp h1).1]; exact h1, h2, h3⟩
section
variable {P : Program} {w : World} {K : PySem.W.Frag} {mg : Str → Option Value} {base : Heap} {C : Addr}
def rNK (K : PySem.W.Frag) (d : Addr) : R2 := fun x y H Q => ∃ (z : Str) (r : Option Value), x = .str z ∧ y = .ref d ∧ PySem.W.nsIn K d z = some r ∧ Q (.bl (!r.isSome)) H
theorem op_nkd {X : Cx} {d : Addr} {es : Array DictEntry} {n : Nat} (D : KDict X.K X.w d es n) : OpR X (compareOp .NotIn) (rNK X.K d) := op_notIn_kd D
theorem seqEnum {K : PySem.W.Frag} {a : Addr} {xs : List V} {σ : L2.St} {H : Hp} {i : Nat} {R : It → Hp → Prop} {H0 : Hp} (hv : σ[i]? = some (some (.ref a))) (hq : SeqH H0 a xs) (s0 : Same H0 H)
    (k : ∀ J, Walk J xs.length (fun G => Same H0 G) (YPair (fun i => some (.int (i : Nat))) (fun i => xs[i]?)) → R J H) : iEnum K (tCons (tVar i) tNil) σ H R ∨ iEnumT K (tCons (tVar i) tNil) σ H R :=
  hq.elim (fun z => .inl ⟨_, hv, a, xs, rfl, .inl (.inl (s0 _ _ z)), k _ ((walk_enum (K := K)).mono (fun _ (s : Same H0 _) => .inl (.inl (s _ _ z))) fun _ _ _ _ _ _ y => y)⟩)
    (fun z => .inr ⟨_, hv, a, xs, rfl, .inl (.inl (s0 _ _ z)), k _ ((walk_enumT (K := K)).mono (fun _ (s : Same H0 _) => .inl (.inl (s _ _ z))) fun _ _ _ _ _ _ y => y)⟩)
def spEndsOf : Sp := fun vs H Q _ => ∃ (b : Addr) (us : List V) (h : List Ev), vs = [.ref b] ∧ SeqH H b us ∧ EvsAt H us h ∧ h.length ≤ 200 ∧
  ∀ (D : Addr) (kvs : List (L2.Key × V)) (H' : Hp), Same H H' → H D = none → H' D = some (.dK kvs) → kvs.length ≤ 200 → (∀ k : Nat, valV kvs (.inl (k : Int)) = (endsOf h k).map vn) → Q (.ref D) H'
def nEndsOf : List Str := ["history", "at", "event"]
theorem scEndsOf : FnScope nEndsOf ["history"] (defScope sEndsOf) := ⟨rfl, rfl, rfl, by decide +kernel, rfl, by decide +kernel, by decide +kernel⟩
theorem dEndsOf (B : Defs K mg C) (ED : EndsD K w mg) : Def P w K mg base "ends_of" 1 ["history"] spEndsOf := by
  obtain ⟨dE, es, n, tk1, tk2, mE, KD, n1, n2, n3, n4⟩ := ED.ex
  have N := B.N
  have nd := scEndsOf.nd
  refine def_of B.eof fun f fd F => ?_
  refine F.ok scEndsOf (fun vs H Q E h => ?_) (fun cdv A outer s H vs Q E hr h => ?_)
  · obtain ⟨b, us, h, rfl, _⟩ := h
    rfl
  · obtain ⟨b, us, h, rfl, hb, hE, hl, k⟩ := h
    refine ⟨_, pss_one (ps_ret (pe_dc (own := [("at", 1), ("event", 2)]) (g := gTup K 2 (gCons (gName 1) (gCons (gName 2) gNil))) (tt := tTest (tOp (rNK K dE) (tOp (rIxT K) (tVar 2) (tC (.int 0))) (tC (.ref dE)))) (tk := tOp (rIxT K) (tVar 2) (tC (.int 1))) rfl nd (PI.orr (pi_enum (by rfl) N.enum (pa_cons (pv 0) pa_nil)) (pi_enumT (by rfl) N.enum (pa_cons (pv 0) pa_nil)))
        (blkOk_by (N := nEndsOf) (sc := defScope sEndsOf) (by decide +kernel)) (fun _ _ _ _ _ => pg_tup rfl (pgs_cons (pg_name (i := 1) nd rfl (Or.inl rfl)) (pgs_cons (pg_name (i := 2) nd rfl (Or.inl rfl)) pgs_nil)))
        (fun _ _ _ _ _ => pts_one (pt_cmpR (r := rNK K dE) (op_nkd KD) (pe_ix (r := rIxT K) ix_tup (pv 2) pe_int (fun _ _ => rfl)) (pe_glob (v := .ref dE) (by rfl) mE rfl) (by rfl))) (fun _ _ _ _ _ => pe_ix (r := rIxT K) ix_tup (pv 2) pe_int (fun _ _ => rfl)) (fun _ _ _ _ _ => pv 1))), ?_⟩
    have ul : us.length = h.length := Paired.length hE
    show _ ∨ _
    refine seqEnum rfl hb (Same.refl _) fun J wk D nD => ?_
    refine anyWalk wk (fun i G => Same H G ∧ ∃ kvs : List (L2.Key × V), G D = some (.dK kvs) ∧ kvs.length ≤ i ∧ ∀ k : Nat, valV kvs (.inl (k : Int)) = (endsOf (h.take i) k).map vn) ⟨smUpd nD, [], upd_same, Nat.le_refl _, fun k => rfl⟩ (fun i G _ z => z.1) ?_ ?_
    · rintro i x G G2 hi ⟨sm, kvs, hD, hkl, hkv⟩ ⟨T, x1, y1, rfl, nT, rfl, e1, e2⟩
      cases e1
      obtain ⟨e, he, t, rfl, ht⟩ := pairedGetQ hE e2
      have hi : i < h.length := by omega
      have sT := sm.trans (smUpd (o := .tup [.int ((i : Nat) : Int), .ref t]) nT)
      have hD2 := (smUpd (o := .tup [.int ((i : Nat) : Int), .ref t]) nT) _ _ hD
      have hT2 : upd G T (.tup [.int ((i : Nat) : Int), .ref t]) T = some (.tup [.int ((i : Nat) : Int), .ref t]) := upd_same
      generalize upd G T (.tup [.int ((i : Nat) : Int), .ref t]) = G2 at sT hD2 hT2 ⊢
      have tl : SqT K G2 t (evV e) := .inl (.inl (sT _ _ ht))
      have et : h.take (i + 1) = h.take i ++ [e] := by rw [List.take_add_one, he]; rfl
      have w0 : (evV e)[0]? = some (.str e.word) := by cases e <;> rfl
      have w1 : (evV e)[1]? = some (vn e.key) := by cases e <;> rfl
      have wd : atI (evV e) (0 : Int) = some (.str e.word) := by
        have : atI (evV e) ((0 : Nat) : Int) = some (.str e.word) := atI_nat w0
        exact this
      have kd : atI (evV e) (1 : Int) = some (vn e.key) := by
        have : atI (evV e) ((1 : Nat) : Int) = some (vn e.key) := atI_nat w1
        exact this
      have tl' : (h.take i).length = i := by rw [List.length_take]; omega
      refine ⟨T, _, rfl, .inl (.inl hT2), rfl, _, _, rfl, _, _, rfl, rfl, rfl, _, rfl, t, _, (0 : Int), _, rfl, rfl, tl, wd, ?_⟩
      have stay : e.ends = false → Same H G2 ∧ ∃ kvs : List (L2.Key × V), G2 D = some (.dK kvs) ∧ kvs.length ≤ i + 1 ∧ ∀ k : Nat, valV kvs (.inl (k : Int)) = (endsOf (h.take (i + 1)) k).map vn := fun en =>
        ⟨sT, kvs, hD2, Nat.le_succ_of_le hkl, fun k => by rw [hkv, et, ends_snoc]; show _ = Option.map vn (if e.ends = true ∧ k = e.key then _ else _); rw [if_neg (fun z => by rw [en] at z; exact nomatch z.1)]⟩
      have put : e.ends = true → (∃ v, atI (evV e) (1 : Int) = some v ∧ v = vn e.key) → Same H (upd G2 D (.dK (putK kvs (.inl (e.key : Int)) (vn i)))) ∧ ∃ kvs' : List (L2.Key × V), upd G2 D (.dK (putK kvs (.inl (e.key : Int)) (vn i))) D = some (.dK kvs') ∧ kvs'.length ≤ i + 1 ∧ ∀ k : Nat, valV kvs' (.inl (k : Int)) = (endsOf (h.take (i + 1)) k).map vn := fun en _ =>
        ⟨smOver nD sT, _, upd_same, Nat.le_trans putKLen (by omega), fun k => by
          rw [valV_put, et, ends_snoc, tl']
          show _ = Option.map vn (if e.ends = true ∧ k = e.key then some i else endsOf (h.take i) k)
          by_cases c : k = e.key
          · rw [if_pos (by rw [c]), if_pos ⟨en, c⟩]
            rfl
          · rw [if_neg (fun z => c (by injection z with z; omega)), if_neg (fun z => c z.2)]
            exact hkv k⟩
      cases e with
      | chg ky p w =>
        refine ⟨_, _, rfl, rfl, n1, _, rfl, ?_⟩
        exact ifF (by show ¬ ((!true) = true); decide) (stay rfl)
      | ask ky p =>
        refine ⟨_, _, rfl, rfl, n2, _, rfl, ?_⟩
        exact ifF (by show ¬ ((!true) = true); decide) (stay rfl)
      | don ky =>
        refine ⟨_, _, rfl, rfl, n3, _, rfl, ?_⟩
        refine ifT rfl ?_
        exact ⟨_, rfl, t, _, (1 : Int), _, rfl, rfl, tl, kd, _, rfl, kvs, .inl (ky : Int), rfl, hD2, bigLine (by omega), put rfl ⟨_, kd, rfl⟩⟩
      | tld ky an =>
        refine ⟨_, _, rfl, rfl, n4, _, rfl, ?_⟩
        refine ifT rfl ?_
        exact ⟨_, rfl, t, _, (1 : Int), _, rfl, rfl, tl, kd, _, rfl, kvs, .inl (ky : Int), rfl, hD2, bigLine (by omega), put rfl ⟨_, kd, rfl⟩⟩
    · rintro G ⟨sm, kvs, hD, hkl, hkv⟩
      rw [ul, List.take_length] at hkv
      exact k D kvs _ sm nD hD (by omega) hkv
end
end Cn
namespace Cn
open PySem PySem.Spec PyProof.Rows L2 Ck
section
variable {P : Program} {w : World} {K : PySem.W.Frag} {mg : Str → Option Value} {base : Heap} {C : Addr}
/-- begin, end and amount of a change -/
abbrev Life := Int × Int × List Nat
def LfAt (H : Hp) (v : V) (x : Life) : Prop := ∃ t, v = .ref t ∧ H t = some (.tup [.int x.1, .int x.2.1, vS x.2.2])
theorem lfSame {H H' : Hp} (s : Same H H') {v : V} {x : Life} (h : LfAt H v x) : LfAt H' v x := by
  obtain ⟨t, h1, h2⟩ := h
  exact ⟨t, h1, s _ _ h2⟩
def outB (L : List Life) (e a : Int) : Bool := L.any fun u => decide (e < u.1) && decide (u.2.1 < a)
theorem outTake {L : List Life} {e a : Int} : (L.map fun u => decide (e < u.1) && decide (u.2.1 < a)).any id = outB L e a := by
  rw [List.any_map]
  rfl
def spOutd : Sp := fun vs H Q _ => ∃ (b : Addr) (e a : Int) (us : List V) (L : List Life), vs = [.ref b, .int e, .int a] ∧ H b = some (.lst us) ∧ Paired (LfAt H) us L ∧ L.length ≤ 300 ∧ ∀ H', Same H H' → Q (.bl (outB L e a)) H'
def nOutd : List Str := ["lives", "end", "asked_at", "begin", "later_end", "_"]
theorem scOutd : FnScope nOutd ["lives", "end", "asked_at"] (defScope sOutd) := ⟨rfl, rfl, rfl, by decide +kernel, rfl, by decide +kernel, by decide +kernel⟩
theorem dOutd (B : Defs K mg C) : Def P w K mg base "_is_outdated" 1 ["lives", "end", "asked_at"] spOutd := by
  have N := B.N
  have mA := B.zAny
  have nd := scOutd.nd
  refine def_of B.otd fun f fd F => ?_
  refine F.ok scOutd (fun vs H Q E h => ?_) (fun cdv A outer s H vs Q E hr h => ?_)
  · obtain ⟨b, e, a, us, L, rfl, _⟩ := h
    rfl
  · obtain ⟨b, e, a, us, L, rfl, hb, hL, hl, k⟩ := h
    refine ⟨_, pss_one (ps_ret (pe_callB (r := rAny K) (cr_any rfl) (by rfl) mA (by decide +kernel) (pa_cons (pe_lc (own := [("begin", 3), ("later_end", 4), ("_", 5)]) (g := gTup K 3 (gCons (gName 3) (gCons (gName 4) (gCons (gName 5) gNil)))) (tt := tYes) rfl nd (pi_list (pv 0))
        (blkOk_by (N := nOutd) (sc := defScope sOutd) (by decide +kernel)) (fun _ _ _ _ _ => pg_tup rfl (pgs_cons (pg_name (i := 3) nd rfl (Or.inl rfl)) (pgs_cons (pg_name (i := 4) nd rfl (Or.inl rfl)) (pgs_cons (pg_name (i := 5) nd rfl (Or.inl rfl)) pgs_nil)))) (fun _ _ _ _ _ => pts_nil)
        (fun _ _ _ _ _ => pe_and (pe_cmpR op_lt (pv 1) (pv 3) (nomark _)) (pe_one (pe_cmpR op_lt (pv 4) (pv 2) (nomark _))))) pa_nil))), ?_⟩
    have ul : us.length = L.length := Paired.length hL
    refine ⟨_, rfl, b, rfl, ⟨_, .inl (.inl hb)⟩, fun D nD => ?_⟩
    refine anyWalk (walk_list (xs := us)) (fun i G => Same H G ∧ G D = some (.lst (((L.take i).map fun u => decide (e < u.1) && decide (u.2.1 < a)).map V.bl))) ⟨smUpd nD, upd_same⟩ (fun i G _ z => .inl (.inl (z.1 _ _ hb))) ?_ ?_
    · rintro i x G G' hi ⟨sm, hD⟩ ⟨rfl, hx⟩
      obtain ⟨u, hu, t, rfl, ht⟩ := pairedGetQ hL hx
      have fin : ∀ {c : Bool}, c = (decide (e < u.1) && decide (u.2.1 < a)) → ∃ acc, G' D = some (.lst acc) ∧ acc.length < sizeLine ∧ Same H (upd G' D (.lst (acc ++ [.bl c]))) ∧ upd G' D (.lst (acc ++ [.bl c])) D = some (.lst (((L.take (i + 1)).map fun u => decide (e < u.1) && decide (u.2.1 < a)).map V.bl)) := fun {c} hc =>
        ⟨_, hD, bigLine (by rw [List.length_map, List.length_map, List.length_take]; omega), smOver nD sm, by rw [upd_same, List.take_add_one, hu, List.map_append, List.map_append, hc]; rfl⟩
      refine ⟨t, _, rfl, .inl (.inl (sm _ _ ht)), rfl, _, _, rfl, _, _, rfl, _, _, rfl, rfl, rfl, _, rfl, _, rfl, _, _, rfl, rfl, _, rfl, ?_⟩
      by_cases c : e < u.1
      · refine ifT (decide_eq_true c) ?_
        refine ⟨_, rfl, _, rfl, _, _, rfl, rfl, fin ?_⟩
        rw [decide_eq_true c, Bool.true_and]
      · refine ifF (by rw [decide_eq_true_iff]; exact c) ?_
        refine fin ?_
        rw [decide_eq_false c, Bool.false_and]
    · rintro G ⟨sm, hD⟩
      rw [ul, List.take_length] at hD
      refine ⟨D, _, rfl, .inl (.inl hD), ?_⟩
      rw [outTake]
      exact k _ sm
/-- the amounts that may be chosen -/
def choL (L : List Life) (a : Int) : List (List Nat) := (L.filter fun t => !outB L t.2.1 a).map fun t => t.2.2
def spChoi : Sp := fun vs H Q _ => ∃ (b : Addr) (a : Int) (us : List V) (L : List Life), vs = [.ref b, .int a] ∧ H b = some (.lst us) ∧ Paired (LfAt H) us L ∧ L.length ≤ 300 ∧ ∀ r H', Same H H' → H r = none → H' r = some (.lst ((choL L a).map vS)) → Q (.ref r) H'
def nChoi : List Str := ["lives", "asked_at", "_", "end", "amount"]
theorem scChoi : FnScope nChoi ["lives", "asked_at"] (defScope sChoi) := ⟨rfl, rfl, rfl, by decide +kernel, rfl, by decide +kernel, by decide +kernel⟩
theorem dChoi (B : Defs K mg C) : Def P w K mg base "choices" 2 ["lives", "asked_at"] spChoi := by
  obtain ⟨fO, fdO, GO, gO, kO, bO⟩ := dOutd (P := P) (w := w) (base := base) B
  have nd := scChoi.nd
  refine def_of B.chs fun f fd F => ?_
  refine F.ok scChoi (fun vs H Q E h => ?_) (fun cdv A outer s H vs Q E hr h => ?_)
  · obtain ⟨b, a, us, L, rfl, _⟩ := h
    rfl
  · obtain ⟨b, a, us, L, rfl, hb, hL, hl, k⟩ := h
    refine ⟨_, pss_one (ps_ret (pe_lc (own := [("_", 2), ("end", 3), ("amount", 4)]) (g := gTup K 3 (gCons (gName 2) (gCons (gName 3) (gCons (gName 4) gNil)))) rfl nd (pi_list (pv 0))
        (blkOk_by (N := nChoi) (sc := defScope sChoi) (by decide +kernel)) (fun _ _ _ _ _ => pg_tup rfl (pgs_cons (pg_name (i := 2) nd rfl (Or.inl rfl)) (pgs_cons (pg_name (i := 3) nd rfl (Or.inl rfl)) (pgs_cons (pg_name (i := 4) nd rfl (Or.inl rfl)) pgs_nil))))
        (fun _ _ _ _ _ => pts_one (pt_not (pt_val (pe_call GO hr (by rfl) gO kO bO .nil pass0 (pa_cons (pv 0) (pa_cons (pv 3) (pa_cons (pv 1) pa_nil))))))) (fun _ _ _ _ _ => pv 4))), ?_⟩
    have ul : us.length = L.length := Paired.length hL
    refine ⟨_, rfl, b, rfl, ⟨_, .inl (.inl hb)⟩, fun D nD => ?_⟩
    refine anyWalk (walk_list (xs := us)) (fun i G => Same H G ∧ G D = some (.lst ((((L.take i).filter fun t => !outB L t.2.1 a).map fun t => t.2.2).map vS))) ⟨smUpd nD, upd_same⟩ (fun i G _ z => .inl (.inl (z.1 _ _ hb))) ?_ ?_
    · rintro i x G G' hi ⟨sm, hD⟩ ⟨rfl, hx⟩
      obtain ⟨u, hu, t, rfl, ht⟩ := pairedGetQ hL hx
      have fl : ((L.take i).filter fun t => !outB L t.2.1 a).length ≤ 300 := Nat.le_trans (List.length_filter_le _ _) (by rw [List.length_take]; omega)
      refine ⟨t, _, rfl, .inl (.inl (sm _ _ ht)), rfl, _, _, rfl, _, _, rfl, _, _, rfl, rfl, rfl, _, rfl, _, rfl, _, rfl, b, u.2.1, a, us, L, rfl, sm _ _ hb, Paired.mapP hL fun _ _ z => lfSame sm z, hl, fun G2 s2 => ⟨_, rfl, ?_⟩⟩
      have hD2 := s2 _ _ hD
      have et : (L.take (i + 1)).filter (fun t => !outB L t.2.1 a) = (L.take i).filter (fun t => !outB L t.2.1 a) ++ if (!outB L u.2.1 a) = true then [u] else [] := by
        rw [List.take_add_one, hu]
        show ((L.take i) ++ [u]).filter _ = _
        rw [List.filter_append, List.filter_cons, List.filter_nil]
      by_cases c : (!outB L u.2.1 a) = true
      · refine ifT c ?_
        refine ⟨_, rfl, _, hD2, bigLine (by rw [List.length_map, List.length_map]; omega), smOver nD (sm.trans s2), ?_⟩
        rw [upd_same, et, if_pos c, List.map_append, List.map_append]
        rfl
      · refine ifF c ?_
        refine ⟨sm.trans s2, ?_⟩
        rw [et, if_neg c, List.append_nil]
        exact hD2
    · rintro G ⟨sm, hD⟩
      rw [ul, List.take_length] at hD
      exact k D _ sm nD hD
end
end Cn
namespace Cn
open PySem PySem.Spec PyProof.Rows L2 Ck
/-! all that choices can come to -/
def stepA (ad : List Nat → List Nat → List Nat) (ws am : List (List Nat)) : List (List Nat) := ws.flatMap fun w => am.map fun x => ad w x
def allA (ad : List Nat → List Nat → List Nat) : List (List (List Nat)) → List (Option (List Nat))
  | [] => [none]
  | c :: cs => (cs.foldl (stepA ad) c).map some
def prodC (cs : List (List (List Nat))) : Nat := cs.foldl (fun n c => n * c.length) 1
theorem prodC_snoc (cs : List (List (List Nat))) (c : List (List Nat)) : prodC (cs ++ [c]) = prodC cs * c.length := by
  unfold prodC
  rw [List.foldl_append]
  rfl
theorem prod_go : ∀ (cs : List (List (List Nat))) (n : Nat), cs.foldl (fun n c => n * c.length) n = n * prodC cs
  | [], n => (Nat.mul_one n).symm
  | c :: cs, n => by
    show cs.foldl _ (n * c.length) = n * cs.foldl _ (1 * c.length)
    rw [prod_go cs (n * c.length), prod_go cs (1 * c.length), Nat.one_mul, Nat.mul_assoc]
theorem prodC_cons (c : List (List Nat)) (cs : List (List (List Nat))) : prodC (c :: cs) = c.length * prodC cs := by
  show cs.foldl _ (1 * c.length) = _
  rw [prod_go, Nat.one_mul]
theorem prodC_pos : ∀ {cs : List (List (List Nat))}, (∀ c ∈ cs, c ≠ []) → 1 ≤ prodC cs
  | [], _ => Nat.le_refl 1
  | c :: cs, h => by
    rw [prodC_cons]
    have h1 := prodC_pos fun x hx => h x (List.mem_cons_of_mem _ hx)
    have h2 : 1 ≤ c.length := List.length_pos_iff.mpr (h c List.mem_cons_self)
    exact Nat.mul_le_mul h2 h1
theorem prodC_app (a b : List (List (List Nat))) : prodC (a ++ b) = prodC a * prodC b := by
  unfold prodC
  rw [List.foldl_append, prod_go]
  rfl
theorem prodC_take {cs : List (List (List Nat))} (h : ∀ c ∈ cs, c ≠ []) (n : Nat) : prodC (cs.take n) ≤ prodC cs := by
  have e := prodC_app (cs.take n) (cs.drop n)
  rw [List.take_append_drop] at e
  rw [e]
  exact Nat.le_mul_of_pos_right _ (prodC_pos fun c hc => h c (List.mem_of_mem_drop hc))
theorem stepA_len {ad : List Nat → List Nat → List Nat} : ∀ {ws am : List (List Nat)}, (stepA ad ws am).length = ws.length * am.length
  | [], am => by simp [stepA]
  | w :: ws, am => by
    have := stepA_len (ad := ad) (ws := ws) (am := am)
    show ((am.map fun x => ad w x) ++ stepA ad ws am).length = _
    rw [List.length_append, List.length_map, this, List.length_cons, Nat.succ_mul, Nat.add_comm]
theorem stepA_snoc {ad : List Nat → List Nat → List Nat} {ws am : List (List Nat)} {w : List Nat} : stepA ad (ws ++ [w]) am = stepA ad ws am ++ am.map fun x => ad w x := by
  unfold stepA
  rw [List.flatMap_append]
  simp
theorem fold_len {ad : List Nat → List Nat → List Nat} (al : ∀ a b, (ad a b).length ≤ a.length + b.length) : ∀ {cs : List (List (List Nat))} {ws : List (List Nat)} {n : Nat}, (∀ w ∈ ws, w.length ≤ n) → (∀ c ∈ cs, ∀ l ∈ c, l.length ≤ 100) → ∀ w ∈ cs.foldl (stepA ad) ws, w.length ≤ n + cs.length * 100
  | [], ws, n, h, _, w, hw => by have := h w hw; show w.length ≤ n + 0 * 100; omega
  | c :: cs, ws, n, h, hc, w, hw => by
    have h1 := fold_len al (cs := cs) (ws := stepA ad ws c) (n := n + 100) (fun x hx => by
      obtain ⟨y, hy, hx⟩ := List.mem_flatMap.mp hx
      obtain ⟨z, hz, rfl⟩ := List.mem_map.mp hx
      have a1 := al y z
      have a2 := h y hy
      have a3 := hc c List.mem_cons_self z hz
      omega) (fun d hd => hc d (List.mem_cons_of_mem _ hd)) w hw
    rw [List.length_cons, Nat.succ_mul]
    omega
theorem fold_count {ad : List Nat → List Nat → List Nat} : ∀ {cs : List (List (List Nat))} {ws : List (List Nat)}, (cs.foldl (stepA ad) ws).length = ws.length * prodC cs
  | [], ws => (Nat.mul_one _).symm
  | c :: cs, ws => by
    show (cs.foldl (stepA ad) (stepA ad ws c)).length = _
    rw [fold_count (cs := cs), stepA_len, prodC_cons, Nat.mul_assoc]
theorem vA_inj {a b : Option (List Nat)} (h : vA a = vA b) : a = b := by
  cases a <;> cases b
  · rfl
  · cases h
  · cases h
  · exact congrArg some (SX.S_inj (V.str.inj h))
def allT (ad : List Nat → List Nat → List Nat) (cs : List (List (List Nat))) : List An := (allA ad cs).map An.txt
theorem vAn_inj {x : Option (List Nat)} {a : An} (h : vA x = vAn a) : a = .txt x := by
  cases a with
  | txt o => exact congrArg An.txt (vA_inj h).symm
  | zero => cases x <;> cases h
theorem any_vA {xs : List (Option (List Nat))} {a : An} : (xs.map fun x => decide (vA x = vAn a)).any id = decide (a ∈ xs.map An.txt) := by
  rw [Bool.eq_iff_iff, List.any_map, List.any_eq_true, decide_eq_true_iff]
  constructor
  · rintro ⟨x, hx, e⟩
    rw [vAn_inj (of_decide_eq_true e)]
    exact List.mem_map.mpr ⟨x, hx, rfl⟩
  · intro h
    obtain ⟨x, hx, rfl⟩ := List.mem_map.mp h
    exact ⟨x, hx, decide_eq_true rfl⟩
theorem scal_vA (a : Option (List Nat)) (b : An) : scal (vA a) (vAn b) = true := by
  cases b with
  | txt o => cases a <;> cases o <;> rfl
  | zero => cases a <;> rfl
theorem at0' {α : Type} {l : List α} {c : α} (h : l[0]? = some c) : atI l (0 : Int) = some c := by
  have : atI l ((0 : Nat) : Int) = some c := atI_nat h
  exact this
theorem ip_mul {X : Cx} : PIp X .Mult (rI CMul fun i j => .int (i * j)) := fun pins s σ H x y v u Q I r1 r2 h => iop_mul pins s σ H x y v u Q I r1 r2 h
/-- a list of lists of texts -/
def LsAt (H : Hp) (v : V) (c : List (List Nat)) : Prop := ∃ t, v = .ref t ∧ H t = some (.lst (c.map vS))
theorem lsSame {H H' : Hp} (s : Same H H') {v : V} {c : List (List Nat)} (h : LsAt H v c) : LsAt H' v c := by
  obtain ⟨t, h1, h2⟩ := h
  exact ⟨t, h1, s _ _ h2⟩
section
variable {P : Program} {w : World} {K : PySem.W.Frag} {mg : Str → Option Value} {base : Heap} {C : Addr}
def spPoss (P : Program) (w : World) (K : PySem.W.Frag) (mg : Str → Option Value) (base : Heap) : Sp := fun vs H Q _ => ∃ (g b : Addr) (ad : List Nat → List Nat → List Nat) (a : An) (us : List V) (cs : List (List (List Nat))), vs = [.ref g, .ref b, vAn a] ∧ Add P w K mg base g ad ∧ H b = some (.lst us) ∧ Paired (LsAt H) us cs ∧
  cs.length ≤ 60 ∧ prodC cs ≤ 2000 ∧ (∀ c ∈ cs, c ≠ [] ∧ ∀ l ∈ c, l.length ≤ 100) ∧ ∀ H', Same H H' → Q (.bl (decide (a ∈ allT ad cs))) H'
def nPoss : List Str := ["adding", "chosen", "answer", "many", "amounts", "wholes", "whole", "amount"]
theorem scPoss : FnScope nPoss ["adding", "chosen", "answer"] (defScope sPoss) := ⟨rfl, rfl, rfl, by decide +kernel, rfl, by decide +kernel, by decide +kernel⟩
theorem dPoss (B : Defs K mg C) : Def P w K mg base "_is_possible" 2 ["adding", "chosen", "answer"] (spPoss P w K mg base) := by
  have N := B.N
  have mA := B.zAny
  obtain ⟨tm, mC⟩ := B.mCh
  have nd := scPoss.nd
  refine def_of B.ipo fun f fd F => ?_
  refine F.ok scPoss (fun vs H Q E h => ?_) (fun cdv A outer s H vs Q E hr h => ?_)
  · obtain ⟨g, b, ad, a, us, cs, rfl, _⟩ := h
    rfl
  · obtain ⟨g, b, ad, a, us, cs, rfl, ⟨⟨fdG, psG, spG, FG, kG, bG, yes⟩, al⟩, hb, hU, hl, hpr, hcs, k⟩ := h
    refine ⟨_, pss_cons (ps_set (i := 3) nd rfl (Or.inl rfl) pe_int)
      (pss_cons (ps_for PassesOwn.never rfl (pi_list (pv 1)) (pg_name (i := 4) nd rfl (Or.inr rfl)) (pss_one (ps_aug (i := 3) nd rfl (Or.inl rfl) (pe_callB call_len_seq (by rfl) N.is.len PySem.boot_len (pa_cons (pv 4) pa_nil)) ip_mul)))
      (pss_cons (ps_if (pt_cmpR op_gt (pv 3) (pe_glob (v := .int 2000) (by rfl) mC ⟨_, rfl⟩) (nomark _)) (pss_one ps_never) pss_nil)
      (psMid (ps_set (i := 5) nd rfl (Or.inl rfl) (pe_ifExp (pt_truth (pv 1) (by intro _; rfl)) (pe_ix ix_list (pv 1) pe_int (fun _ _ => rfl)) (pe_lst (pa_cons pe_non pa_nil))))
      (pss_cons (ps_for PassesOwn.never rfl (pi_list (pe_slice sl_list (pv 1) (po_some pe_int) po_none)) (pg_name (i := 4) nd rfl (Or.inr rfl))
        (pss_one (ps_setLc2 (i := 5) (own := [("whole", 6), ("amount", 7)]) (vs1 := [7]) (wi1 := iList K (tVar 4)) (g := gName 6) (tt := tYes) (g1 := gName 7) (tt1 := tYes) (te := tCallL 0 g spG [] (fun _ _ _ => False) (tCons (tVar 6) (tCons (tVar 7) tNil))) rfl nd rfl rfl (sw_true rfl rfl rfl (by decide +kernel))
          (pi_list (pv 5)) (blkOk_by (N := nPoss) (sc := defScope sPoss) (by decide +kernel)) (by decide)
          (fun _ _ _ _ _ => pg_name (i := 6) nd rfl (Or.inl rfl)) (fun _ _ _ _ _ => pts_nil) (fun _ _ _ _ _ => pi_list (pv 4)) (fun _ _ _ _ _ => pg_name (i := 7) nd rfl (Or.inl rfl)) (fun _ _ _ _ _ => pts_nil)
          (fun _ _ _ _ _ => pe_callL (i := 0) FG hr rfl (by first | exact Or.inl rfl | exact Or.inr (Or.inl rfl) | exact Or.inr (Or.inr rfl)) kG bG .nil pass0 (pa_cons (pv 6) (pa_cons (pv 7) pa_nil))))))
      (pss_one (ps_ret (pe_callB (r := rAny K) (cr_any rfl) (by rfl) mA (by decide +kernel) (pa_cons (pe_lc (own := [("whole", 6)]) (g := gName 6) (tt := tYes) rfl nd (pi_list (pv 5))
          (blkOk_by (N := nPoss) (sc := defScope sPoss) (by decide +kernel)) (fun _ _ _ _ _ => pg_name (i := 6) nd rfl (Or.inl rfl)) (fun _ _ _ _ _ => pts_nil) (fun _ _ _ _ _ => pe_cmpR op_eq (pv 6) (pv 2) (nomark _))) pa_nil)))))))), ?_⟩
    have ul : us.length = cs.length := Paired.length hU
    have ne : ∀ c ∈ cs, c ≠ [] := fun c hc => (hcs c hc).1
    refine ⟨_, rfl, b, rfl, ⟨_, .inl (.inl hb)⟩, ?_⟩
    refine for_it (walk_list (xs := us)) (fun i σ G => G = H ∧ ∃ t4 : Option V, σ = [some (.ref g), some (.ref b), some (vAn a), some (vn (prodC (cs.take i))), t4, none, none, none]) ⟨rfl, _, rfl⟩ (fun i σ G _ z => by rw [z.1]; exact .inl (.inl hb)) ?_ ?_
    · rintro i x σ G G2 hi ⟨rfl, t4, rfl⟩ ⟨rfl, hx⟩
      obtain ⟨c, hc, t, rfl, ht⟩ := pairedGetQ hU hx
      have pl := Nat.le_trans (prodC_take ne i) hpr
      refine ⟨_, rfl, _, rfl, t, _, rfl, .inl (.inl (.inl ht)), _, _, rfl, rfl, .inl ⟨by omega, by omega⟩, rfl, some (.ref t), ?_⟩
      rw [List.take_add_one, hc]
      show _ = [_, _, _, some (vn (prodC (cs.take i ++ [c]))), _, _, _, _]
      rw [prodC_snoc, List.length_map]
      show [_, _, _, some (V.int (((prodC (cs.take i) : Nat) : Int) * ((c.length : Nat) : Int))), _, _, _, _] = [_, _, _, some (V.int ((prodC (cs.take i) * c.length : Nat) : Int)), _, _, _, _]
      rw [Int.natCast_mul]
    rintro σ G ⟨rfl, t4, rfl⟩
    rw [ul, List.take_length]
    refine ⟨_, rfl, _, _, rfl, rfl, _, rfl, ?_⟩
    refine ifF (by rw [decide_eq_true_iff]; omega) ?_
    refine ⟨fun σ J => ∃ (W : Addr) (t4 : Option V), σ = [some (.ref g), some (.ref b), some (vAn a), some (vn (prodC cs)), t4, some (.ref W), none, none] ∧ Same G J ∧ J W = some (.lst ((allA ad (cs.take 1)).map vA)), ?_, ?_⟩
    · refine ⟨_, rfl, _, .inl ⟨us, .inl (.inl hb), rfl⟩, ?_⟩
      cases hU with
      | nil =>
        refine ifF (by decide) ?_
        exact ⟨by show 1 ≤ sizeLine; decide, fun W nW => ⟨W, _, rfl, smUpd nW, upd_same⟩⟩
      | cons q rest =>
        rename_i v c us' cs'
        obtain ⟨t, rfl, ht⟩ := q
        refine ifT rfl ?_
        refine ⟨_, rfl, b, _, (0 : Int), _, rfl, rfl, .inl (.inl hb), at0' rfl, t, _, rfl, Same.refl _, ?_⟩
        rw [ht]
        show _ = some (HO.lst ((c.map some).map vA))
        rw [List.map_map]
        rfl
    rintro σ J ⟨W, t4, rfl, sJ, hW⟩
    refine ⟨_, rfl, 1, rfl, b, us, rfl, .inl (.inl (sJ _ _ hb)), fun d nd' => ?_⟩
    rw [show (some (1 : Int)) = some ((1 : Nat) : Int) from rfl, cutDrop]
    have hd : upd J d (.lst (us.drop 1)) d = some (.lst (us.drop 1)) := upd_same
    have sd : Same J (upd J d (.lst (us.drop 1))) := smUpd nd'
    generalize upd J d (.lst (us.drop 1)) = J2 at hd sd ⊢
    have s2 := sJ.trans sd
    refine ⟨d, rfl, ⟨_, .inl (.inl hd)⟩, ?_⟩
    refine for_it (walk_list (xs := us.drop 1)) (fun i σ G2 => Same J2 G2 ∧ ∃ (W : Addr) (t4 : Option V), σ = [some (.ref g), some (.ref b), some (vAn a), some (vn (prodC cs)), t4, some (.ref W), none, none] ∧ G2 W = some (.lst ((allA ad (cs.take (1 + i))).map vA))) ⟨Same.refl _, W, _, rfl, sd _ _ hW⟩ (fun i σ G _ z => .inl (.inl (z.1 _ _ hd))) ?_ ?_
    · rintro i x σ G2 G3 hi ⟨sm, W, t4, rfl, hW⟩ ⟨rfl, hx⟩
      rw [List.getElem?_drop] at hx
      obtain ⟨c, hc, t, rfl, ht⟩ := pairedGetQ hU hx
      cases cs with
      | nil => cases hc
      | cons c0 cs' =>
        have hc' : cs'[i]? = some c := by
          rw [Nat.add_comm] at hc
          exact hc
        have ews : allA ad ((c0 :: cs').take (1 + i)) = ((cs'.take i).foldl (stepA ad) c0).map some := by
          rw [Nat.add_comm]
          rfl
        obtain ⟨ws, hws⟩ : ∃ ws, ws = (cs'.take i).foldl (stepA ad) c0 := ⟨_, rfl⟩
        rw [ews, ← hws, List.map_map] at hW
        have hW : G3 W = some (.lst (ws.map vS)) := hW
        have en : (cs'.take (i + 1)).foldl (stepA ad) c0 = stepA ad ws c := by
          rw [List.take_add_one, hc', List.foldl_append, ← hws]
          rfl
        have enext : allA ad ((c0 :: cs').take (1 + (i + 1))) = (stepA ad ws c).map some := by
          rw [Nat.add_comm, List.take_succ_cons]
          show ((cs'.take (i + 1)).foldl (stepA ad) c0).map some = _
          rw [en]
        have cnt : ws.length * c.length ≤ 2000 := by
          rw [← stepA_len (ad := ad), ← en, fold_count, ← prodC_cons]
          exact Nat.le_trans (prodC_take (cs := c0 :: cs') ne (i + 2)) hpr
        have wl : ∀ x ∈ ws, x.length ≤ 100 + (cs'.take i).length * 100 := by
          rw [hws]
          exact fold_len al (fun x hx => (hcs c0 List.mem_cons_self).2 x hx) fun d hd x hx => (hcs d (List.mem_cons_of_mem _ (List.mem_of_mem_take hd))).2 x hx
        have il : (cs'.take i).length ≤ 60 := by
          rw [List.length_take]
          have := hl
          rw [List.length_cons] at this
          omega
        have cl : ∀ x ∈ c, x.length ≤ 100 := (hcs c (List.mem_of_getElem? hc)).2
        have htG := sm _ _ (s2 _ _ ht)
        refine ⟨_, rfl, W, rfl, ⟨_, .inl (.inl hW)⟩, fun D nD => ?_⟩
        refine anyWalk (walk_list (xs := ws.map vS)) (fun j J3 => Same G3 J3 ∧ J3 D = some (.lst ((stepA ad (ws.take j) c).map vS))) ⟨smUpd nD, upd_same⟩ (fun j J _ z => .inl (.inl (z.1 _ _ hW))) ?_ ?_
        · rintro j x J3 J4 hj ⟨s3, hD⟩ ⟨rfl, hx⟩
          obtain ⟨wd, hwd, rfl⟩ := vS_get hx
          have hj : j < ws.length := by simpa using hj
          have jc : j * c.length + c.length ≤ ws.length * c.length := by
            rw [← Nat.succ_mul]
            exact Nat.mul_le_mul_right _ hj
          refine ⟨rfl, ?_⟩
          show tYes _ _ _
          refine ⟨_, rfl, t, rfl, ⟨_, .inl (.inl (s3 _ _ htG))⟩, ?_⟩
          refine anyWalk (walk_list (xs := c.map vS)) (fun m J5 => Same G3 J5 ∧ J5 D = some (.lst ((stepA ad (ws.take j) c ++ (c.take m).map fun x => ad wd x).map vS))) ⟨s3, by rw [hD]; simp⟩ (fun m J _ z => .inl (.inl (z.1 _ _ htG))) ?_ ?_
          · rintro m y J5 J6 hm ⟨s5, hD5⟩ ⟨rfl, hy⟩
            obtain ⟨x, hx, rfl⟩ := vS_get hy
            have hm : m < c.length := by simpa using hm
            have e1 := wl wd (List.mem_of_getElem? hwd)
            have e2 := cl x (List.mem_of_getElem? hx)
            refine ⟨rfl, rfl, _, rfl, _, rfl, yes wd x _ _ _ (by omega) ⟨_, hD5, bigLine ?_, smOver nD s5, ?_⟩⟩
            · rw [List.length_map, List.length_append, stepA_len, List.length_map, List.length_take, List.length_take, Nat.min_eq_left (Nat.le_of_lt hj)]
              omega
            · rw [upd_same, List.take_add_one, hx]
              simp [List.append_assoc]
          · rintro J5 ⟨s5, hD5⟩
            rw [List.length_map, List.take_length] at hD5
            refine ⟨s5, ?_⟩
            rw [hD5, List.take_add_one, hwd]
            show _ = some (HO.lst ((stepA ad (ws.take j ++ [wd]) c).map vS))
            rw [stepA_snoc]
        · rintro J3 ⟨s3, hD⟩
          rw [List.length_map, List.take_length] at hD
          exact ⟨sm.trans s3, D, _, rfl, by rw [enext, List.map_map]; exact hD⟩
    · rintro σ G2 ⟨sm, W, t4, rfl, hW⟩
      have eall : cs.take (1 + (us.drop 1).length) = cs := List.take_of_length_le (by rw [List.length_drop]; omega)
      rw [eall] at hW
      refine ⟨_, rfl, W, rfl, ⟨_, .inl (.inl hW)⟩, fun D nD => ?_⟩
      refine anyWalk (walk_list (xs := (allA ad cs).map vA)) (fun i G3 => Same G2 G3 ∧ G3 D = some (.lst ((((allA ad cs).take i).map fun x => decide (vA x = vAn a)).map V.bl))) ⟨smUpd nD, upd_same⟩ (fun i G _ z => .inl (.inl (z.1 _ _ hW))) ?_ ?_
      · rintro i x G3 G4 hi ⟨s3, hD⟩ ⟨rfl, hx⟩
        rw [List.getElem?_map] at hx
        obtain ⟨y, hy, rfl⟩ := Option.map_eq_some_iff.mp hx
        have hlen : (allA ad cs).length ≤ 2001 := by
          cases cs with
          | nil => exact Nat.le_of_ble_eq_true rfl
          | cons c cs => show ((cs.foldl (stepA ad) c).map some).length ≤ 2001; rw [List.length_map, fold_count, ← prodC_cons]; omega
        refine ⟨rfl, _, rfl, _, rfl, scal_vA _ _, _, hD, bigLine (by rw [List.length_map, List.length_map, List.length_take]; omega), smOver nD s3, ?_⟩
        rw [upd_same, List.take_add_one, hy, List.map_append, List.map_append]
        rfl
      · rintro G3 ⟨s3, hD⟩
        rw [List.length_map, List.take_length] at hD
        refine ⟨D, _, rfl, .inl (.inl hD), ?_⟩
        rw [any_vA]
        exact k _ (s2.trans (sm.trans s3))
end
end Cn
namespace Cn
open PySem PySem.Spec PyProof.Rows L2 Ck
/-! the changes of a place, in a history -/
def one (E : Nat → Int) (p : Nat) (e : Ev) (i : Nat) : List Life :=
  match e with
  | .chg k q w => if q = p then [((i : Int), E k, w)] else []
  | _ => []
def lstep (E : Nat → Int) (p : Nat) (s : List Life × Nat) (e : Ev) : List Life × Nat := (s.1 ++ one E p e s.2, s.2 + 1)
def lives (E : Nat → Int) (p : Nat) (h : List Ev) : List Life := (h.foldl (lstep E p) ([], 0)).1
theorem lstep_len (E : Nat → Int) (p : Nat) : ∀ (h : List Ev) (s : List Life × Nat), (h.foldl (lstep E p) s).2 = s.2 + h.length
  | [], s => rfl
  | e :: h, s => by
    show (h.foldl (lstep E p) (lstep E p s e)).2 = _
    rw [lstep_len E p h, List.length_cons]
    show s.2 + 1 + h.length = _
    omega
theorem lives_snoc (E : Nat → Int) (p : Nat) (h : List Ev) (e : Ev) : lives E p (h ++ [e]) = lives E p h ++ one E p e h.length := by
  unfold lives
  rw [List.foldl_append]
  show (h.foldl (lstep E p) ([], 0)).1 ++ one E p e (h.foldl (lstep E p) ([], 0)).2 = _
  rw [lstep_len]
  show _ ++ one E p e (0 + h.length) = _
  rw [Nat.zero_add]
theorem one_len {E : Nat → Int} {p : Nat} {e : Ev} {i : Nat} : (one E p e i).length ≤ 1 := by
  cases e <;> simp only [one] <;> first | (split <;> simp) | simp
theorem lives_len {E : Nat → Int} {p : Nat} (h : List Ev) : (lives E p h).length ≤ h.length := by
  refine snocInd (P := fun h => (lives E p h).length ≤ h.length) ?_ ?_ h
  · exact Nat.le_refl 0
  · intro h e ih
    rw [lives_snoc, List.length_append, List.length_append]
    have := one_len (E := E) (p := p) (e := e) (i := h.length)
    show _ ≤ h.length + 1
    omega
/-- what stands among the changes -/
theorem lives_mem {E : Nat → Int} {p : Nat} {h : List Ev} {x : Life} : x ∈ lives E p h → ∃ (i k : Nat) (w : List Nat), h[i]? = some (.chg k p w) ∧ x = ((i : Int), E k, w) := by
  refine snocInd (P := fun h => x ∈ lives E p h → ∃ (i k : Nat) (w : List Nat), h[i]? = some (.chg k p w) ∧ x = ((i : Int), E k, w)) ?_ ?_ h
  · intro z; cases z
  · intro h e ih z
    rw [lives_snoc] at z
    rcases List.mem_append.mp z with z | z
    · obtain ⟨i, k, w, h1, h2⟩ := ih z
      exact ⟨i, k, w, by rw [List.getElem?_append_left (List.getElem?_eq_some_iff.mp h1).1]; exact h1, h2⟩
    · cases e with
      | chg k q w =>
        simp only [one] at z
        by_cases c : q = p
        · rw [if_pos c] at z
          refine ⟨h.length, k, w, ?_, List.mem_singleton.mp z⟩
          rw [List.getElem?_append_right (Nat.le_refl _), Nat.sub_self, c]
          rfl
        · rw [if_neg c] at z
          cases z
      | ask k q => cases z
      | don k => cases z
      | tld k a => cases z
/-- those that begin ahead of n are those of the first n events -/
theorem lives_take {E : Nat → Int} {p : Nat} {h : List Ev} {n : Nat} (hn : n ≤ h.length) : (lives E p h).filter (fun x => decide (x.1 < (n : Int))) = lives E p (h.take n) := by
  have go : ∀ h2 : List Ev, n ≤ h2.length → (lives E p h2).filter (fun x => decide (x.1 < (n : Int))) = lives E p (h2.take n) := by
    intro h2
    refine snocInd (P := fun h2 => n ≤ h2.length → (lives E p h2).filter (fun x => decide (x.1 < (n : Int))) = lives E p (h2.take n)) ?_ ?_ h2
    · intro z
      have : n = 0 := by simpa using z
      subst this
      rfl
    · intro h2 e ih z
      rw [List.length_append, List.length_singleton] at z
      by_cases c : n ≤ h2.length
      · rw [lives_snoc, List.filter_append, ih c, List.take_append_of_le_length c]
        have e0 : (one E p e h2.length).filter (fun x => decide (x.1 < (n : Int))) = [] := by
          rw [List.filter_eq_nil_iff]
          intro x hx
          have : x.1 = (h2.length : Int) := by
            cases e with
            | chg k q w =>
              simp only [one] at hx
              by_cases cq : q = p
              · rw [if_pos cq] at hx
                rw [List.mem_singleton.mp hx]
              · rw [if_neg cq] at hx
                cases hx
            | ask k q => cases hx
            | don k => cases hx
            | tld k a => cases hx
          rw [decide_eq_true_iff, this]
          omega
        rw [e0, List.append_nil]
      · have en : n = h2.length + 1 := by omega
        rw [List.take_of_length_le (by rw [List.length_append, List.length_singleton]; omega), List.filter_eq_self.mpr]
        intro x hx
        obtain ⟨i, k, w, h1, h2'⟩ := lives_mem hx
        have := (List.getElem?_eq_some_iff.mp h1).1
        rw [List.length_append, List.length_singleton] at this
        rw [h2', decide_eq_true_iff]
        show (i : Int) < _
        omega
  exact go h hn
/-- what the law counts, and what may be chosen -/
def mayL (L : List Life) (b e : Int) (a0 : List Nat) : List (List Nat) := (((-1, -1, a0) :: L).filter fun t => decide (t.1 < e) && !outB L t.2.1 b).map fun t => t.2.2
/-- the ends come behind the begins, an ask's begin ahead of the answer: the law's own look is the program's -/
theorem may_eq {E : Nat → Int} {p : Nat} {h : List Ev} {b e : Nat} {a0 : List Nat} (he : e ≤ h.length) (hb : b ≤ e) (hE : ∀ (i k : Nat) (q : Nat) (w : List Nat), h[i]? = some (.chg k q w) → (i : Int) < E k) :
    mayL (lives E p h) (b : Int) (e : Int) a0 = choL ((-1, -1, a0) :: lives E p (h.take e)) (b : Int) := by
  have out : ∀ t : Int, -1 ≤ t → outB (lives E p h) t (b : Int) = outB ((-1, -1, a0) :: lives E p (h.take e)) t (b : Int) := by
    intro t ht
    rw [← lives_take he]
    unfold outB
    rw [Bool.eq_iff_iff, List.any_eq_true, List.any_eq_true]
    constructor
    · rintro ⟨u, hu, z⟩
      refine ⟨u, List.mem_cons_of_mem _ (List.mem_filter.mpr ⟨hu, ?_⟩), z⟩
      obtain ⟨i, k, w, h1, rfl⟩ := lives_mem hu
      have h2 := hE i k p w h1
      rw [Bool.and_eq_true, decide_eq_true_iff, decide_eq_true_iff] at z
      rw [decide_eq_true_iff]
      have z2 : E k < (b : Int) := z.2
      show (i : Int) < (e : Int)
      omega
    · rintro ⟨u, hu, z⟩
      rcases List.mem_cons.mp hu with rfl | hu
      · rw [Bool.and_eq_true, decide_eq_true_iff] at z
        have z1 : t < -1 := z.1
        omega
      · exact ⟨u, (List.mem_filter.mp hu).1, z⟩
  unfold mayL choL
  rw [← List.filter_filter, ← lives_take he]
  congr 1
  have first : ((-1, -1, a0) :: lives E p h).filter (fun t => !outB (lives E p h) t.2.1 (b : Int)) = ((-1, -1, a0) :: lives E p h).filter (fun t => !outB ((-1, -1, a0) :: lives E p (h.take e)) t.2.1 (b : Int)) := by
    refine List.filter_congr fun t ht => ?_
    rcases List.mem_cons.mp ht with rfl | ht
    · rw [out (-1) (Int.le_refl _)]
    · obtain ⟨i, k, w, h1, rfl⟩ := lives_mem ht
      have := hE i k p w h1
      rw [out (E k) (by omega)]
  rw [first, List.filter_filter, lives_take he]
  have back : ((-1, -1, a0) :: lives E p (h.take e)) = ((-1, -1, a0) :: lives E p h).filter (fun x => decide (x.1 < (e : Int))) := by
    rw [List.filter_cons, if_pos (by rw [decide_eq_true_iff]; show (-1 : Int) < _; omega), lives_take he]
  conv => rhs; rw [back]
  rw [List.filter_filter, ← back]
  refine List.filter_congr fun t _ => ?_
  rw [Bool.and_comm]
end Cn
namespace Cn
open PySem PySem.Spec PyProof.Rows L2 Ck
/-! where changes end, by the law -/
def Ev.isDon : Ev → Bool
  | .don _ => true
  | _ => false
def estepD (s : (Nat → Option Nat) × Nat) (e : Ev) : (Nat → Option Nat) × Nat := ((fun j => if e.isDon = true ∧ j = e.key then some s.2 else s.1 j), s.2 + 1)
theorem estepD_len : ∀ (h : List Ev) (s : (Nat → Option Nat) × Nat), (h.foldl estepD s).2 = s.2 + h.length
  | [], s => rfl
  | e :: h, s => by
    show (h.foldl estepD (estepD s e)).2 = _
    rw [estepD_len h, List.length_cons]
    show s.2 + 1 + h.length = _
    omega
def donesOf (h : List Ev) : Nat → Option Nat := (h.foldl estepD ((fun _ => none), 0)).1
theorem dones_snoc (h : List Ev) (e : Ev) : donesOf (h ++ [e]) = fun j => if e.isDon = true ∧ j = e.key then some h.length else donesOf h j := by
  unfold donesOf
  rw [List.foldl_append]
  show (estepD (h.foldl estepD ((fun _ => none), 0)) e).1 = _
  funext j
  show (if e.isDon = true ∧ j = e.key then some (h.foldl estepD ((fun _ => none), 0)).2 else _) = _
  rw [estepD_len]
  show (if e.isDon = true ∧ j = e.key then some (0 + h.length) else _) = _
  rw [Nat.zero_add]
def endD (h : List Ev) (k : Nat) : Int := ((donesOf h k).getD h.length : Nat)
theorem lfUpd {H : Hp} {D : Addr} {o : HO} {xs us : List V} {L : List Life} (hD : H D = some (.lst xs)) (h : Paired (LfAt H) us L) : Paired (LfAt (upd H D o)) us L := Paired.mapP h fun v p z => by
  obtain ⟨t, h1, h2⟩ := z
  exact ⟨t, h1, by rw [upd_ne (fun z => by rw [z, hD] at h2; cases h2)]; exact h2⟩
theorem filt0 {α : Type} {c : α → Bool} : ∀ {l : List α}, decide ((l.filter c).length = 0) = !l.any c
  | [] => rfl
  | x :: l => by
    rw [List.filter_cons, List.any_cons]
    cases h : c x
    · simpa using filt0 (c := c) (l := l)
    · simp
section
variable {P : Program} {w : World} {K : PySem.W.Frag} {mg : Str → Option Value} {base : Heap} {C : Addr}
theorem ixSeqH {K : PySem.W.Frag} {H : Hp} {b : Addr} {us : List V} {i : Int} {v : V} {Q : VK} (h : SeqH H b us) (hv : atI us i = some v) (q : Q v H) : rIx K (.ref b) (.int i) H Q :=
  h.elim (fun z => .inl ⟨b, us, i, v, rfl, rfl, .inl (.inl z), hv, q⟩) (fun z => .inr (.inl ⟨b, us, i, v, rfl, rfl, .inl (.inl z), hv, q⟩))
/-- the amounts of a place that an answer can count, by the law -/
def spLMayC : Sp := fun vs H Q _ => ∃ (b : Addr) (p bg en : Nat) (a0 : List Nat) (us : List V) (h : List Ev), vs = [.ref b, vn p, vS a0, vn bg, vn en] ∧ SeqH H b us ∧ EvsAt H us h ∧ h.length ≤ 200 ∧
  ∀ r H', Same H H' → H r = none → H' r = some (.lst ((mayL (lives (endD h) p h) (bg : Int) (en : Int) a0).map vS)) → Q (.ref r) H'
def nLMayC : List Str := ["_law_history", "_law_place", "_law_amount", "_law_begin", "_law_end", "_law_ends", "_law_at", "_law_event", "_law_changes", "_law_found", "_law_first", "_law_last", "_law_told", "_law_later", "_law_one"]
theorem scLMayC : FnScope nLMayC ["_law_history", "_law_place", "_law_amount", "_law_begin", "_law_end"] (defScope sLMayC) := ⟨rfl, rfl, rfl, by decide +kernel, rfl, by decide +kernel, by decide +kernel⟩
theorem dLMayC (B : Defs K mg C) : Def P w K mg base "_law_may_count" 1 ["_law_history", "_law_place", "_law_amount", "_law_begin", "_law_end"] spLMayC := by
  have N := B.N
  have nd := scLMayC.nd
  refine def_of B.lmc fun f fd F => ?_
  refine F.ok scLMayC (fun vs H Q E h => ?_) (fun cdv A outer s H vs Q E hr h => ?_)
  · obtain ⟨b, p, bg, en, a0, us, h, rfl, _⟩ := h
    rfl
  · obtain ⟨b, p, bg, en, a0, us, h, rfl, hb, hE, hl, k⟩ := h
    have hu : (A.deeper (envOfC "_law_may_count" (defScope sLMayC) s.heap.objs.size f cdv)).units + 1 < cLine := by have := hr.units; omega
    refine ⟨_, pss_cons (ps_set (i := 5) nd rfl (Or.inl rfl) pe_dnewK)
      (pss_cons (ps_for PassesOwn.never rfl (PI.orr (pi_enum (by rfl) N.enum (pa_cons (pv 0) pa_nil)) (pi_enumT (by rfl) N.enum (pa_cons (pv 0) pa_nil))) (pg_tup rfl (pgs_cons (pg_name (i := 6) nd rfl (Or.inl rfl)) (pgs_cons (pg_name (i := 7) nd rfl (Or.inl rfl)) pgs_nil)))
        (pss_one (ps_if (pt_cmpR op_eq (pe_ix ix_tup (pv 7) pe_int (fun _ _ => rfl)) pe_str (nomark _)) (pss_one (ps_dput hu (pv 5) (pe_ix ix_tup (pv 7) pe_int (fun _ _ => rfl)) (pv 6) rfl)) pss_nil)))
      (pss_cons (ps_set (i := 8) nd rfl (Or.inl rfl) (pe_lst (pa_cons (pe_tup (pa_cons (pe_un un_neg pe_int) (pa_cons (pe_un un_neg pe_int) (pa_cons (pv 2) pa_nil)))) pa_nil)))
      (pss_cons (ps_for PassesOwn.never rfl (PI.orr (pi_enum (by rfl) N.enum (pa_cons (pv 0) pa_nil)) (pi_enumT (by rfl) N.enum (pa_cons (pv 0) pa_nil))) (pg_tup rfl (pgs_cons (pg_name (i := 6) nd rfl (Or.inl rfl)) (pgs_cons (pg_name (i := 7) nd rfl (Or.inl rfl)) pgs_nil)))
        (pss_one (ps_if (PW.pt (pw_and (pt_cmpR op_eq (pe_ix ix_tup (pv 7) pe_int (fun _ _ => rfl)) pe_str (nomark _)) (pw_and1 (pt_cmpR op_eq (pe_ix ix_tup (pv 7) pe_int (fun _ _ => rfl)) (pv 1) (nomark _)))))
          (pss_one (ps_expr (pe_bm PySem.F.plainAttrs_list PySem.F.slot_list_append PySem.F.type_list_append mt_append (pv 8) (pa_cons (pe_tup (pa_cons (pv 6) (pa_cons (pe_dget2 hu (pv 5) (pe_ix ix_tup (pv 7) pe_int (fun _ _ => rfl)) (pe_callB call_len_seq (by rfl) N.is.len PySem.boot_len (pa_cons (pv 0) pa_nil)) (by constructor <;> rfl)) (pa_cons (pe_ix ix_tup (pv 7) pe_int (fun _ _ => rfl)) pa_nil)))) pa_nil)))) pss_nil)))
      (pss_cons (ps_set (i := 9) nd rfl (Or.inl rfl) (pe_lst pa_nil))
      (pss_cons (ps_for PassesOwn.never rfl (pi_list (pv 8)) (pg_tup rfl (pgs_cons (pg_name (i := 10) nd rfl (Or.inl rfl)) (pgs_cons (pg_name (i := 11) nd rfl (Or.inr rfl)) (pgs_cons (pg_name (i := 12) nd rfl (Or.inl rfl)) pgs_nil))))
        (pss_cons (ps_setLc (i := 13) (own := [("_law_one", 14)]) (g := gName 14) rfl nd rfl rfl (sw_true rfl rfl rfl (by decide +kernel)) (pi_list (pe_slice sl_list (pv 8) (po_some pe_int) po_none))
          (blkOk_by (N := nLMayC) (sc := defScope sLMayC) (by decide +kernel)) (fun _ _ _ _ _ => pg_name (i := 14) nd rfl (Or.inl rfl))
          (fun _ _ _ _ _ => pts_one (PW.pt (pw_and (pt_cmpR op_gt (pe_ix (r := rIxT K) ix_tup (pv 14) pe_int (fun _ _ => rfl)) (pv 11) (nomark _)) (pw_and1 (pt_cmpR op_lt (pe_ix (r := rIxT K) ix_tup (pv 14) pe_int (fun _ _ => rfl)) (pv 3) (nomark _)))))) (fun _ _ _ _ _ => pv 14))
        (pss_one (ps_if (PW.pt (pw_and (pt_cmpR op_lt (pv 10) (pv 4) (nomark _)) (pw_and1 (pt_cmpR op_eq (pe_callB call_len_seq (by rfl) N.is.len PySem.boot_len (pa_cons (pv 13) pa_nil)) pe_int (nomark _)))))
          (pss_one (ps_expr (pe_bm PySem.F.plainAttrs_list PySem.F.slot_list_append PySem.F.type_list_append mt_append (pv 9) (pa_cons (pv 12) pa_nil)))) pss_nil))))
      (pss_one (ps_ret (pv 9)))))))), ?_⟩
    have ul : us.length = h.length := Paired.length hE
    refine fun D nD => ?_
    have sD : Same H (upd H D (.dK [])) := smUpd nD
    have hD0 : upd H D (.dK []) D = some (.dK []) := upd_same
    generalize upd H D (.dK []) = H1 at sD hD0 ⊢
    show _ ∨ _
    refine seqEnum rfl hb sD fun J wk => ?_
    refine for_it wk (fun i σ G => Same H G ∧ (∃ t6 t7 : Option V, σ = [some (.ref b), some (vn p), some (vS a0), some (vn bg), some (vn en), some (.ref D), t6, t7, none, none, none, none, none, none, none]) ∧ ∃ kvs : List (L2.Key × V), G D = some (.dK kvs) ∧ kvs.length ≤ i ∧ ∀ k : Nat, valV kvs (.inl (k : Int)) = (donesOf (h.take i) k).map vn)
      ⟨sD, ⟨_, _, rfl⟩, [], hD0, Nat.le_refl _, fun k => rfl⟩ (fun i σ G _ z => z.1) ?_ ?_
    · rintro i x σ G G2 hi ⟨sm, ⟨t6, t7, rfl⟩, kvs, hD, hkl, hkv⟩ ⟨T, x1, y1, rfl, nT, rfl, e1, e2⟩
      cases e1
      obtain ⟨e, he, t, rfl, ht⟩ := pairedGetQ hE e2
      have hi : i < h.length := by omega
      have sT := sm.trans (smUpd (o := .tup [.int ((i : Nat) : Int), .ref t]) nT)
      have T2 : Same G (upd G T (.tup [.int ((i : Nat) : Int), .ref t])) := smUpd nT
      have hT2 : upd G T (.tup [.int ((i : Nat) : Int), .ref t]) T = some (.tup [.int ((i : Nat) : Int), .ref t]) := upd_same
      generalize upd G T (.tup [.int ((i : Nat) : Int), .ref t]) = G2 at sT T2 hT2 ⊢
      have tl : SqT K G2 t (evV e) := .inl (.inl (sT _ _ ht))
      have et : h.take (i + 1) = h.take i ++ [e] := by rw [List.take_add_one, he]; rfl
      have tl' : (h.take i).length = i := by rw [List.length_take]; omega
      have w0 : (evV e)[0]? = some (.str e.word) := by cases e <;> rfl
      have w1 : (evV e)[1]? = some (vn e.key) := by cases e <;> rfl
      have wd : atI (evV e) (0 : Int) = some (.str e.word) := at0' w0
      have kd : atI (evV e) (1 : Int) = some (vn e.key) := by
        have : atI (evV e) ((1 : Nat) : Int) = some (vn e.key) := atI_nat w1
        exact this
      refine ⟨T, _, rfl, .inl (.inl hT2), rfl, _, _, rfl, _, _, rfl, rfl, ?_⟩
      refine ⟨_, rfl, t, _, (0 : Int), _, rfl, rfl, tl, wd, rfl, _, rfl, ?_⟩
      have hD2 := T2 _ _ hD
      have stay : e.isDon = false → Same H G2 ∧ (∃ t6 t7 : Option V, [some (.ref b), some (vn p), some (vS a0), some (vn bg), some (vn en), some (.ref D), some (.int ((i : Nat) : Int)), some (.ref t), none, none, none, none, none, none, none] = [some (.ref b), some (vn p), some (vS a0), some (vn bg), some (vn en), some (.ref D), t6, t7, none, none, none, none, none, none, none]) ∧ ∃ kvs : List (L2.Key × V), G2 D = some (.dK kvs) ∧ kvs.length ≤ i + 1 ∧ ∀ k : Nat, valV kvs (.inl (k : Int)) = (donesOf (h.take (i + 1)) k).map vn := fun en =>
        ⟨sT, ⟨_, _, rfl⟩, kvs, hD2, Nat.le_succ_of_le hkl, fun k => by rw [hkv, et, dones_snoc]; show _ = Option.map vn (if e.isDon = true ∧ k = e.key then _ else _); rw [if_neg (fun z => by rw [en] at z; exact nomatch z.1)]⟩
      cases e with
      | chg ky q w =>
        refine ifF (by show ¬ decide (V.str (Str.ofString "change") = V.str (Str.ofString "done")) = true; decide +kernel) ?_
        exact stay rfl
      | ask ky q =>
        refine ifF (by show ¬ decide (V.str (Str.ofString "ask") = V.str (Str.ofString "done")) = true; decide +kernel) ?_
        exact stay rfl
      | don ky =>
        refine ifT (by show decide (V.str (Str.ofString "done") = V.str (Str.ofString "done")) = true; decide +kernel) ?_
        refine ⟨_, rfl, _, rfl, _, rfl, t, _, (1 : Int), _, rfl, rfl, tl, kd, D, _, rfl, DPut.k (k := .inl (ky : Int)) hD2 (bigLine (by omega)), smOver nD sT, ⟨_, _, rfl⟩, _, upd_same, Nat.le_trans putKLen (by omega), fun k => ?_⟩
        rw [valV_put, et, dones_snoc, tl']
        show _ = Option.map vn (if (Ev.don ky).isDon = true ∧ k = ky then some i else donesOf (h.take i) k)
        by_cases c : k = ky
        · rw [if_pos (by rw [c]), if_pos ⟨rfl, c⟩]
          rfl
        · rw [if_neg (fun z => c (by injection z with z; omega)), if_neg (fun z => c z.2)]
          exact hkv k
      | tld ky an =>
        refine ifF (by show ¬ decide (V.str (Str.ofString "told") = V.str (Str.ofString "done")) = true; decide +kernel) ?_
        exact stay rfl
    rintro σ Ga ⟨sm1, ⟨t6, t7, rfl⟩, kvs, hD, hkl, hkv⟩
    rw [ul, List.take_length] at hkv
    refine ⟨_, rfl, _, rfl, _, rfl, by show 3 ≤ sizeLine; decide, fun T0 nT0 => ⟨by show 1 ≤ sizeLine; decide, fun W nW => ?_⟩⟩
    have q0 : Same Ga (upd Ga T0 (.tup [.int (-1), .int (-1), vS a0])) := smUpd nT0
    have hT0 : upd Ga T0 (.tup [.int (-1), .int (-1), vS a0]) T0 = some (.tup [.int (-1), .int (-1), vS a0]) := upd_same
    have q1 := smUpd (o := .lst [.ref T0]) nW
    have hW0 : upd (upd Ga T0 (.tup [.int (-1), .int (-1), vS a0])) W (.lst [.ref T0]) W = some (.lst [.ref T0]) := upd_same
    have hT1 := q1 _ _ hT0
    have q01 := q0.trans q1
    have nWa : Ga W = none := by
      cases e : Ga W with
      | none => rfl
      | some o => rw [q0 _ _ e] at nW; cases nW
    generalize upd (upd Ga T0 (.tup [.int (-1), .int (-1), vS a0])) W (.lst [.ref T0]) = J0 at q01 hW0 hT1 ⊢
    show _ ∨ _
    refine seqEnum rfl (seqSame sm1 hb) q01 fun J2 wk2 => ?_
    refine for_it wk2 (fun i σ G => Same Ga G ∧ (∃ t6 t7 : Option V, σ = [some (.ref b), some (vn p), some (vS a0), some (vn bg), some (vn en), some (.ref D), t6, t7, some (.ref W), none, none, none, none, none, none]) ∧ ∃ cu : List V, G W = some (.lst cu) ∧ Paired (LfAt G) cu ((-1, -1, a0) :: lives (endD h) p (h.take i)))
      ⟨q01, ⟨_, _, rfl⟩, [.ref T0], hW0, .cons ⟨T0, rfl, hT1⟩ .nil⟩ (fun i σ G _ z => z.1) ?_ ?_
    · rintro i x σ G G2 hi ⟨smG, ⟨t6, t7, rfl⟩, cu, hW, hP⟩ ⟨T, x1, y1, rfl, nT, rfl, e1, e2⟩
      cases e1
      have sm := sm1.trans smG
      obtain ⟨e, he, t, rfl, ht⟩ := pairedGetQ hE e2
      have hi : i < h.length := by omega
      have sT := sm.trans (smUpd (o := .tup [.int ((i : Nat) : Int), .ref t]) nT)
      have T2 : Same G (upd G T (.tup [.int ((i : Nat) : Int), .ref t])) := smUpd nT
      have hT2 : upd G T (.tup [.int ((i : Nat) : Int), .ref t]) T = some (.tup [.int ((i : Nat) : Int), .ref t]) := upd_same
      generalize upd G T (.tup [.int ((i : Nat) : Int), .ref t]) = G2 at sT T2 hT2 ⊢
      have tl : SqT K G2 t (evV e) := .inl (.inl (sT _ _ ht))
      have et : h.take (i + 1) = h.take i ++ [e] := by rw [List.take_add_one, he]; rfl
      have tl' : (h.take i).length = i := by rw [List.length_take]; omega
      have w0 : (evV e)[0]? = some (.str e.word) := by cases e <;> rfl
      have w1 : (evV e)[1]? = some (vn e.key) := by cases e <;> rfl
      have wd : atI (evV e) (0 : Int) = some (.str e.word) := at0' w0
      have kd : atI (evV e) (1 : Int) = some (vn e.key) := by
        have : atI (evV e) ((1 : Nat) : Int) = some (vn e.key) := atI_nat w1
        exact this
      refine ⟨T, _, rfl, .inl (.inl hT2), rfl, _, _, rfl, _, _, rfl, rfl, ?_⟩
      refine ⟨_, rfl, t, _, (0 : Int), _, rfl, rfl, tl, wd, rfl, _, rfl, ?_⟩
      have gT := smG.trans T2
      have hW2 := T2 _ _ hW
      have hP2 := Paired.mapP hP fun _ _ z => lfSame T2 z
      cases e with
      | chg ky q w =>
        refine ifT (by show decide (V.str (Str.ofString "change") = V.str (Str.ofString "change")) = true; decide +kernel) ?_
        have two : atI (evV (.chg ky q w)) (2 : Int) = some (vn q) := by
          have : atI (evV (.chg ky q w)) ((2 : Nat) : Int) = some (vn q) := atI_nat rfl
          exact this
        have three : atI (evV (.chg ky q w)) (3 : Int) = some (vS w) := by
          have : atI (evV (.chg ky q w)) ((3 : Nat) : Int) = some (vS w) := atI_nat rfl
          exact this
        refine ⟨_, rfl, t, _, (2 : Int), _, rfl, rfl, tl, two, _, rfl, rfl, _, rfl, ?_⟩
        by_cases c : q = p
        · refine ifT (decide_eq_true (by rw [c])) ?_
          have hD2 := gT _ _ hD
          have hb2 := seqSame sT hb
          have ev : ((donesOf h ky).map vn).getD (.int ((us.length : Nat) : Int)) = .int (endD h ky) := by
            unfold endD
            rw [ul]
            cases donesOf h ky <;> rfl
          refine ⟨_, rfl, .inl ⟨rfl, _, .inl (.inl hW2)⟩, _, rfl, _, rfl, D, rfl, .inl ⟨kvs, .inl hD2⟩, _, rfl, t, _, (1 : Int), _, rfl, rfl, tl, kd, _, rfl, b, _, rfl, seqSq hb2, (donesOf h ky).map vn, .inl ⟨kvs, .inl (ky : Int), .inl hD2, rfl, (hkv ky).symm⟩, _, rfl, t, _, (3 : Int), _, rfl, rfl, tl, three, by show 3 ≤ sizeLine; decide, fun T3 nT3 => ?_⟩
          rw [ev]
          have s3 := smUpd (o := .tup [.int ((i : Nat) : Int), .int (endD h ky), vS w]) nT3
          have hW3 := s3 _ _ hW2
          have hT3 : upd G2 T3 (.tup [.int ((i : Nat) : Int), .int (endD h ky), vS w]) T3 = some (.tup [.int ((i : Nat) : Int), .int (endD h ky), vS w]) := upd_same
          have hP3 := Paired.mapP hP2 fun _ _ z => lfSame s3 z
          have g3 := gT.trans s3
          generalize upd G2 T3 (.tup [.int ((i : Nat) : Int), .int (endD h ky), vS w]) = G4 at s3 hW3 hT3 hP3 g3 ⊢
          have lc : cu.length ≤ 300 := by
            have h1 := Paired.length hP3
            have h2 := lives_len (E := endD h) (p := p) (h.take i)
            rw [List.length_cons] at h1
            omega
          refine ⟨W, cu, .ref T3, rfl, rfl, hW3, small1000 (by omega), smOver nWa g3, ⟨_, _, rfl⟩, cu ++ [.ref T3], upd_same, ?_⟩
          rw [et, lives_snoc, tl']
          show Paired _ (cu ++ [.ref T3]) (((-1, -1, a0) :: lives (endD h) p (h.take i)) ++ (if q = p then [((i : Int), endD h ky, w)] else []))
          rw [if_pos c]
          refine paired_snoc (lfUpd hW3 hP3) ⟨T3, rfl, ?_⟩
          rw [upd_ne (fun z => by rw [z, hW3] at hT3; cases hT3)]
          exact hT3
        · refine ifF (by rw [decide_eq_true_iff]; exact fun z => c (by injection z with z; omega)) ?_
          refine ⟨gT, ⟨_, _, rfl⟩, cu, hW2, ?_⟩
          rw [et, lives_snoc]
          show Paired _ cu ((-1, -1, a0) :: (_ ++ (if q = p then _ else [])))
          rw [if_neg c, List.append_nil]
          exact hP2
      | ask ky q =>
        refine ifF (by show ¬ decide (V.str (Str.ofString "ask") = V.str (Str.ofString "change")) = true; decide +kernel) ?_
        exact ⟨gT, ⟨_, _, rfl⟩, cu, hW2, by rw [et, lives_snoc]; show Paired _ cu ((-1, -1, a0) :: (_ ++ [])); rw [List.append_nil]; exact hP2⟩
      | don ky =>
        refine ifF (by show ¬ decide (V.str (Str.ofString "done") = V.str (Str.ofString "change")) = true; decide +kernel) ?_
        exact ⟨gT, ⟨_, _, rfl⟩, cu, hW2, by rw [et, lives_snoc]; show Paired _ cu ((-1, -1, a0) :: (_ ++ [])); rw [List.append_nil]; exact hP2⟩
      | tld ky an =>
        refine ifF (by show ¬ decide (V.str (Str.ofString "told") = V.str (Str.ofString "change")) = true; decide +kernel) ?_
        exact ⟨gT, ⟨_, _, rfl⟩, cu, hW2, by rw [et, lives_snoc]; show Paired _ cu ((-1, -1, a0) :: (_ ++ [])); rw [List.append_nil]; exact hP2⟩
    rintro σ Gb ⟨smb, ⟨t6', t7', rfl⟩, cu, hW, hP⟩
    rw [ul, List.take_length] at hP
    have lcu : cu.length ≤ 201 := by
      have h1 := Paired.length hP
      have h2 := lives_len (E := endD h) (p := p) h
      rw [List.length_cons] at h1
      omega
    obtain ⟨L, hL⟩ : ∃ L, L = lives (endD h) p h := ⟨_, rfl⟩
    rw [← hL] at hP k
    have lL : cu.length = L.length + 1 := by
      have h1 := Paired.length hP
      rw [List.length_cons] at h1
      exact h1
    have sHb := sm1.trans smb
    refine ⟨by show 0 ≤ sizeLine; decide, fun F1 nF => ?_⟩
    have sF : Same Gb (upd Gb F1 (.lst [])) := smUpd nF
    have hF0 : upd Gb F1 (.lst []) F1 = some (.lst []) := upd_same
    have nFH : H F1 = none := by
      cases e : H F1 with
      | none => rfl
      | some o => rw [sHb _ _ e] at nF; cases nF
    refine ⟨_, rfl, W, rfl, ⟨_, .inl (.inl (sF _ _ hW))⟩, ?_⟩
    refine for_it (walk_list (xs := cu)) (fun i σ G => Same Gb G ∧ (∃ t6 t7 t10 t11 t12 t13 : Option V, σ = [some (.ref b), some (vn p), some (vS a0), some (vn bg), some (vn en), some (.ref D), t6, t7, some (.ref W), some (.ref F1), t10, t11, t12, t13, none]) ∧ G F1 = some (.lst ((((((-1, -1, a0) : Life) :: L).take i).filter fun t => decide (t.1 < (en : Int)) && !outB L t.2.1 (bg : Int)).map fun t => vS t.2.2)))
      ⟨sF, ⟨_, _, _, _, _, _, rfl⟩, hF0⟩ (fun i σ G _ z => .inl (.inl (z.1 _ _ hW))) ?_ ?_
    · rintro i x σ G G2 hi ⟨smG, ⟨t6, t7, t10, t11, t12, t13, rfl⟩, hF⟩ ⟨rfl, hx⟩
      obtain ⟨u, hu, t, rfl, ht⟩ := pairedGetQ hP hx
      refine ⟨t, _, rfl, .inl (.inl (smG _ _ ht)), rfl, _, _, rfl, _, _, rfl, _, _, rfl, rfl, ?_⟩
      refine ⟨_, rfl, 1, rfl, W, cu, rfl, .inl (.inl (smG _ _ hW)), fun d nd' => ?_⟩
      rw [show (some (1 : Int)) = some ((1 : Nat) : Int) from rfl, cutDrop]
      have hd : upd G2 d (.lst (cu.drop 1)) d = some (.lst (cu.drop 1)) := upd_same
      have sd : Same G2 (upd G2 d (.lst (cu.drop 1))) := smUpd nd'
      generalize upd G2 d (.lst (cu.drop 1)) = J1 at hd sd ⊢
      refine ⟨d, rfl, ⟨_, .inl (.inl hd)⟩, fun D3 nD3 => ?_⟩
      refine anyWalk (walk_list (xs := cu.drop 1)) (fun m J => Same J1 J ∧ ∃ vs : List V, J D3 = some (.lst vs) ∧ vs.length = ((L.take m).filter fun z => decide (u.2.1 < z.1) && decide (z.2.1 < (bg : Int))).length) ⟨smUpd nD3, [], upd_same, rfl⟩ (fun m J _ z => .inl (.inl (z.1 _ _ hd))) ?_ ?_
      · rintro m y J J' hm ⟨sj, vs, hD3, hvl⟩ ⟨rfl, hy⟩
        rw [List.getElem?_drop] at hy
        obtain ⟨z, hz, tz, rfl, htz⟩ := pairedGetQ hP hy
        have hz : L[m]? = some z := by
          rw [Nat.add_comm] at hz
          exact hz
        have hm2 := (List.getElem?_eq_some_iff.mp hz).1
        have htJ := sj _ _ (sd _ _ (smG _ _ htz))
        have tl : SqT K J' tz [.int z.1, .int z.2.1, vS z.2.2] := .inl (.inl htJ)
        have i0 : atI [V.int z.1, .int z.2.1, vS z.2.2] (0 : Int) = some (.int z.1) := at0' rfl
        have i1 : atI [V.int z.1, .int z.2.1, vS z.2.2] (1 : Int) = some (.int z.2.1) := by
          have : atI [V.int z.1, .int z.2.1, vS z.2.2] ((1 : Nat) : Int) = some (.int z.2.1) := atI_nat rfl
          exact this
        have fl : ((L.take m).filter fun z => decide (u.2.1 < z.1) && decide (z.2.1 < (bg : Int))).length ≤ 300 := Nat.le_trans (List.length_filter_le _ _) (by rw [List.length_take]; omega)
        have et : (L.take (m + 1)).filter (fun z => decide (u.2.1 < z.1) && decide (z.2.1 < (bg : Int))) = (L.take m).filter (fun z => decide (u.2.1 < z.1) && decide (z.2.1 < (bg : Int))) ++ if (decide (u.2.1 < z.1) && decide (z.2.1 < (bg : Int))) = true then [z] else [] := by
          rw [List.take_add_one, hz]
          show ((L.take m) ++ [z]).filter _ = _
          rw [List.filter_append, List.filter_cons, List.filter_nil]
        refine ⟨rfl, _, rfl, tz, _, (0 : Int), _, rfl, rfl, tl, i0, _, rfl, _, _, rfl, rfl, _, rfl, ?_⟩
        by_cases c1 : u.2.1 < z.1
        · refine ifT (decide_eq_true c1) ?_
          refine ⟨_, rfl, tz, _, (1 : Int), _, rfl, rfl, tl, i1, _, rfl, _, _, rfl, rfl, _, rfl, ?_⟩
          by_cases c2 : z.2.1 < (bg : Int)
          · refine ifT (decide_eq_true c2) ?_
            refine ⟨_, rfl, vs, hD3, bigLine (by omega), smOver nD3 sj, _, upd_same, ?_⟩
            rw [et, if_pos (by rw [decide_eq_true c1, decide_eq_true c2]; rfl), List.length_append, List.length_append, hvl]
            rfl
          · refine ifF (by rw [decide_eq_true_iff]; exact c2) ?_
            refine ⟨sj, vs, hD3, ?_⟩
            rw [et, if_neg (by rw [decide_eq_false c2, Bool.and_false]; decide), List.append_nil]
            exact hvl
        · refine ifF (by rw [decide_eq_true_iff]; exact c1) ?_
          refine ⟨sj, vs, hD3, ?_⟩
          rw [et, if_neg (by rw [decide_eq_false c1, Bool.false_and]; decide), List.append_nil]
          exact hvl
      rintro J ⟨sj, vs, hD3, hvl⟩
      have eL : L.take (cu.drop 1).length = L := List.take_of_length_le (by rw [List.length_drop]; omega)
      rw [eL] at hvl
      have sGJ := sd.trans sj
      have hFJ := sGJ _ _ hF
      have et : (((-1, -1, a0) : Life) :: L).take (i + 1) = (((-1, -1, a0) : Life) :: L).take i ++ [u] := by rw [List.take_add_one, hu]; rfl
      have eo : decide (vs.length = 0) = !outB L u.2.1 (bg : Int) := by
        rw [hvl]
        exact filt0
      have ef : ((((-1, -1, a0) : Life) :: L).take (i + 1)).filter (fun t => decide (t.1 < (en : Int)) && !outB L t.2.1 (bg : Int)) = ((((-1, -1, a0) : Life) :: L).take i).filter (fun t => decide (t.1 < (en : Int)) && !outB L t.2.1 (bg : Int)) ++ if (decide (u.1 < (en : Int)) && !outB L u.2.1 (bg : Int)) = true then [u] else [] := by
        rw [et, List.filter_append, List.filter_cons, List.filter_nil]
      have fl : (((((-1, -1, a0) : Life) :: L).take i).filter fun t => decide (t.1 < (en : Int)) && !outB L t.2.1 (bg : Int)).length ≤ 300 := Nat.le_trans (List.length_filter_le _ _) (by rw [List.length_take, List.length_cons]; omega)
      have no : ¬ (decide (u.1 < (en : Int)) && !outB L u.2.1 (bg : Int)) = true → Same Gb J ∧ (∃ t6' t7' t10' t11' t12' t13' : Option V, [some (.ref b), some (vn p), some (vS a0), some (vn bg), some (vn en), some (.ref D), t6, t7, some (.ref W), some (.ref F1), some (.int u.1), some (.int u.2.1), some (vS u.2.2), some (.ref D3), none] = [some (.ref b), some (vn p), some (vS a0), some (vn bg), some (vn en), some (.ref D), t6', t7', some (.ref W), some (.ref F1), t10', t11', t12', t13', none]) ∧ J F1 = some (.lst ((((((-1, -1, a0) : Life) :: L).take (i + 1)).filter fun t => decide (t.1 < (en : Int)) && !outB L t.2.1 (bg : Int)).map fun t => vS t.2.2)) := fun c =>
        ⟨smG.trans sGJ, ⟨_, _, _, _, _, _, rfl⟩, by rw [ef, if_neg c, List.append_nil]; exact hFJ⟩
      refine ⟨_, rfl, _, rfl, _, _, rfl, rfl, _, rfl, ?_⟩
      by_cases c1 : u.1 < (en : Int)
      · refine ifT (decide_eq_true c1) ?_
        refine ⟨_, rfl, D3, _, rfl, .inl (.inl (.inl hD3)), rfl, _, rfl, ?_⟩
        by_cases c2 : vs.length = 0
        · refine ifT (decide_eq_true (by rw [c2]; rfl)) ?_
          refine ⟨_, rfl, .inl ⟨rfl, _, .inl (.inl hFJ)⟩, _, rfl, F1, _, _, rfl, rfl, hFJ, small1000 (by rw [List.length_map]; omega), smOver nF (smG.trans sGJ), ⟨_, _, _, _, _, _, rfl⟩, ?_⟩
          rw [upd_same, ef, if_pos (by rw [decide_eq_true c1, ← eo, decide_eq_true c2]; rfl), List.map_append]
          rfl
        · refine ifF (by rw [decide_eq_true_iff]; exact fun z => c2 (by injection z with z; omega)) ?_
          exact no (by rw [← eo, decide_eq_false c2, Bool.and_false]; decide)
      · refine ifF (by rw [decide_eq_true_iff]; exact c1) ?_
        exact no (by rw [decide_eq_false c1, Bool.false_and]; decide)
    · rintro σ G ⟨smG, ⟨t6, t7, t10, t11, t12, t13, rfl⟩, hF⟩
      rw [List.take_of_length_le (by rw [List.length_cons]; omega)] at hF
      refine ⟨_, rfl, k F1 _ (sHb.trans smG) nFH ?_⟩
      rw [hF]
      unfold mayL
      rw [List.map_map]
      rfl
end
end Cn
namespace Cn
open PySem PySem.Spec PyProof.Rows L2 Ck
/-- the choices of an answer, downwards -/
def chosenL (fo : Fo) (am : Nat → List Nat) (h : List Ev) (pl bg en : Nat) : List (List (List Nat)) := ((road fo.ps pl).filter fun p => decide (p ∈ fo.be)).map fun p => mayL (lives (endD h) p h) (bg : Int) (en : Int) (am p)
/-- the amounts of the bearing places, in a dict -/
def AmD (H : Hp) (d : Addr) (fo : Fo) (am : Nat → List Nat) : Prop := ∃ kvs : List (L2.Key × V), H d = some (.dK kvs) ∧ ∀ p ∈ fo.be, valV kvs (.inl (p : Int)) = some (vS (am p))
theorem lsUpd {H : Hp} {D : Addr} {o : HO} : ∀ {us : List V} {cs : List (List (List Nat))}, (∀ v ∈ us, v ≠ V.ref D) → Paired (LsAt H) us cs → Paired (LsAt (upd H D o)) us cs
  | [], _, _, .nil => .nil
  | v :: us, _, hn, .cons ⟨t, h1, h2⟩ r => .cons ⟨t, h1, by rw [upd_ne (fun z => hn v List.mem_cons_self (by rw [h1, z]))]; exact h2⟩ (lsUpd (fun x hx => hn x (List.mem_cons_of_mem _ hx)) r)
theorem ls_snoc {H : Hp} {us : List V} {cs : List (List (List Nat))} {c : List (List Nat)} {t : Addr} (h : Paired (LsAt H) us cs) (ht : H t = some (.lst (c.map vS))) : Paired (LsAt H) (us ++ [.ref t]) (cs ++ [c]) := paired_snoc h ⟨t, rfl, ht⟩
section
variable {P : Program} {w : World} {K : PySem.W.Frag} {mg : Str → Option Value} {base : Heap} {C : Addr}
def spLChoi : Sp := fun vs H Q _ => ∃ (r d b : Addr) (en bg ky pl : Nat) (fo : Fo) (am : Nat → List Nat) (us : List V) (h : List Ev) (ee : Ev), vs = [.ref r, .ref d, .ref b, vn en] ∧ TolR H r fo ∧ FoOk fo ∧ AmD H d fo am ∧ SeqH H b us ∧ EvsAt H us h ∧ h.length ≤ 200 ∧ h[en]? = some ee ∧ ee.key = ky ∧ h[bg]? = some (.ask ky pl) ∧ (∀ j q, h[j]? = some (.ask ky q) → j = bg) ∧ pl < fo.ps.length ∧
  ∀ q vs H', Same H H' → H q = none → H' q = some (.lst vs) → Paired (LsAt H') vs (chosenL fo am h pl bg en) → Q (.ref q) H'
def nLChoi : List Str := ["_law_spec_here", "_law_amounts", "_law_history", "_law_end", "_law_begin", "_law_found", "_law_place", "_law_at", "_law_event"]
theorem scLChoi : FnScope nLChoi ["_law_spec_here", "_law_amounts", "_law_history", "_law_end"] (defScope sLChoi) := ⟨rfl, rfl, rfl, by decide +kernel, rfl, by decide +kernel, by decide +kernel⟩
theorem dLChoi (B : Defs K mg C) : Def P w K mg base "_law_choices" 2 ["_law_spec_here", "_law_amounts", "_law_history", "_law_end"] spLChoi := by
  obtain ⟨fW, fdW, GW, gW, kW, bW⟩ := dLWay (P := P) (w := w) (base := base) B
  obtain ⟨fM, fdM, GM, gM, kM, bM⟩ := dLMayC (P := P) (w := w) (base := base) B
  have N := B.N
  have nd := scLChoi.nd
  refine def_of B.lch fun f fd F => ?_
  refine F.ok scLChoi (fun vs H Q E h => ?_) (fun cdv A outer s H vs Q E hr h => ?_)
  · obtain ⟨r, d, b, en, bg, ky, pl, fo, am, us, h, ee, rfl, _⟩ := h
    rfl
  · obtain ⟨r, d, b, en, bg, ky, pl, fo, am, us, h, ee, rfl, hT, ok, ⟨kvs, hd, ham⟩, hb, hE, hl, hen, hek, hbg, huq, hpl, k⟩ := h
    have hu : (A.deeper (envOfC "_law_choices" (defScope sLChoi) s.heap.objs.size f cdv)).units + 1 < cLine := by have := hr.units; omega
    refine ⟨_, pss_cons (ps_set (i := 4) nd rfl (Or.inl rfl) (pe_ix ix_list (pe_lc (own := [("_law_at", 7), ("_law_event", 8)]) (g := gTup K 2 (gCons (gName 7) (gCons (gName 8) gNil))) rfl nd (PI.orr (pi_enum (by rfl) N.enum (pa_cons (pv 2) pa_nil)) (pi_enumT (by rfl) N.enum (pa_cons (pv 2) pa_nil)))
        (blkOk_by (N := nLChoi) (sc := defScope sLChoi) (by decide +kernel)) (fun _ _ _ _ _ => pg_tup rfl (pgs_cons (pg_name (i := 7) nd rfl (Or.inl rfl)) (pgs_cons (pg_name (i := 8) nd rfl (Or.inl rfl)) pgs_nil)))
        (fun _ _ _ _ _ => pts_one (PW.pt (pw_and (pt_cmpR op_eq (pe_ix (r := rIxT K) ix_tup (pv 8) pe_int (fun _ _ => rfl)) pe_str (nomark _)) (pw_and1 (pt_cmpR op_eq (pe_ix (r := rIxT K) ix_tup (pv 8) pe_int (fun _ _ => rfl)) (pe_ix (r := rIxT K) ix_tup (pe_ix (r := rIx K) ix_seq (pv 2) (pv 3) (fun _ _ => rfl)) pe_int (fun _ _ => rfl)) (nomark _)))))) (fun _ _ _ _ _ => pv 7)) pe_int (fun _ _ => rfl)))
      (pss_cons (ps_set (i := 5) nd rfl (Or.inl rfl) (pe_lst pa_nil))
      (pss_cons (ps_for PassesOwn.never rfl (pi_list (pe_call GW hr (by rfl) gW kW bW .nil pass0 (pa_cons (pe_ix ix_tup (pv 0) pe_int (fun _ _ => rfl)) (pa_cons (pe_ix ix_tup (pe_ix ix_seq (pv 2) (pv 4) (fun _ _ => rfl)) pe_int (fun _ _ => rfl)) pa_nil)))) (pg_name (i := 6) nd rfl (Or.inl rfl))
        (pss_one (ps_if (pt_cmpR op_in_seq (pv 6) (pe_ix ix_tup (pv 0) pe_int (fun _ _ => rfl)) (by rfl))
          (pss_one (ps_expr (pe_bm PySem.F.plainAttrs_list PySem.F.slot_list_append PySem.F.type_list_append mt_append (pv 5) (pa_cons (pe_call GM hr (by rfl) gM kM bM .nil pass0 (pa_cons (pv 2) (pa_cons (pv 6) (pa_cons (pe_dget hu (pv 1) (pv 6) (fun _ _ => rfl)) (pa_cons (pv 4) (pa_cons (pv 3) pa_nil)))))) pa_nil)))) pss_nil)))
      (pss_one (ps_ret (pv 5))))), ?_⟩
    have ul : us.length = h.length := Paired.length hE
    obtain ⟨ap, ab, aa, o0, o1, o2, o3⟩ := id hT
    have uen : ∃ v, us[en]? = some v := ⟨us[en]'(by rw [ul]; exact (List.getElem?_eq_some_iff.mp hen).1), List.getElem?_eq_getElem _⟩
    obtain ⟨v1, hv1⟩ := uen
    obtain ⟨e1, he1, te, rfl, hte⟩ := pairedGetQ hE hv1
    rw [hen] at he1
    cases he1
    have ubg : ∃ v, us[bg]? = some v := ⟨us[bg]'(by rw [ul]; exact (List.getElem?_eq_some_iff.mp hbg).1), List.getElem?_eq_getElem _⟩
    obtain ⟨v2, hv2⟩ := ubg
    obtain ⟨e2, he2, tb, rfl, htb⟩ := pairedGetQ hE hv2
    rw [hbg] at he2
    cases he2
    have kd : atI (evV ee) (1 : Int) = some (vn ky) := by
      have w1 : (evV ee)[1]? = some (vn ky) := by rw [← hek]; cases ee <;> rfl
      have : atI (evV ee) ((1 : Nat) : Int) = some (vn ky) := atI_nat w1
      exact this
    show _ ∨ _
    refine seqEnum rfl hb (Same.refl _) fun J wk D3 nD3 => ?_
    refine anyWalk wk (fun i G => Same H G ∧ G D3 = some (.lst (if bg < i then [vn bg] else []))) ⟨smUpd nD3, by rw [upd_same, if_neg (Nat.not_lt_zero _)]⟩ (fun i G _ z => z.1) ?_ ?_
    · rintro i x G G2 hi ⟨sm, hD⟩ ⟨T, x1, y1, rfl, nT, rfl, e1, e2⟩
      cases e1
      obtain ⟨e, he, t, rfl, ht⟩ := pairedGetQ hE e2
      have sT := sm.trans (smUpd (o := .tup [.int ((i : Nat) : Int), .ref t]) nT)
      have T2 : Same G (upd G T (.tup [.int ((i : Nat) : Int), .ref t])) := smUpd nT
      have hT2 : upd G T (.tup [.int ((i : Nat) : Int), .ref t]) T = some (.tup [.int ((i : Nat) : Int), .ref t]) := upd_same
      generalize upd G T (.tup [.int ((i : Nat) : Int), .ref t]) = G2 at sT T2 hT2 ⊢
      have hD2 := T2 _ _ hD
      have tl : SqT K G2 t (evV e) := .inl (.inl (sT _ _ ht))
      have w0 : (evV e)[0]? = some (.str e.word) := by cases e <;> rfl
      have w1 : (evV e)[1]? = some (vn e.key) := by cases e <;> rfl
      have wd : atI (evV e) (0 : Int) = some (.str e.word) := at0' w0
      have kde : atI (evV e) (1 : Int) = some (vn e.key) := by
        have : atI (evV e) ((1 : Nat) : Int) = some (vn e.key) := atI_nat w1
        exact this
      have stay : i ≠ bg → Same H G2 ∧ G2 D3 = some (.lst (if bg < i + 1 then [vn bg] else [])) := fun z => ⟨sT, by
        rw [hD2]
        by_cases c : bg < i
        · rw [if_pos c, if_pos (by omega)]
        · rw [if_neg c, if_neg (by omega)]⟩
      refine ⟨T, _, rfl, .inl (.inl hT2), rfl, _, _, rfl, _, _, rfl, rfl, rfl, _, rfl, t, _, (0 : Int), _, rfl, rfl, tl, wd, rfl, _, rfl, ?_⟩
      cases e with
      | chg k2 q w =>
        refine ifF (by show ¬ decide (V.str (Str.ofString "change") = V.str (Str.ofString "ask")) = true; decide +kernel) ?_
        exact stay fun z => by rw [z, hbg] at he; cases he
      | don k2 =>
        refine ifF (by show ¬ decide (V.str (Str.ofString "done") = V.str (Str.ofString "ask")) = true; decide +kernel) ?_
        exact stay fun z => by rw [z, hbg] at he; cases he
      | tld k2 an =>
        refine ifF (by show ¬ decide (V.str (Str.ofString "told") = V.str (Str.ofString "ask")) = true; decide +kernel) ?_
        exact stay fun z => by rw [z, hbg] at he; cases he
      | ask k2 q =>
        refine ifT (by show decide (V.str (Str.ofString "ask") = V.str (Str.ofString "ask")) = true; decide +kernel) ?_
        refine ⟨_, rfl, t, _, (1 : Int), _, rfl, rfl, tl, kde, _, rfl, _, rfl, ixSeqH (seqSame sT hb) (atI_nat hv1) ⟨te, _, (1 : Int), _, rfl, rfl, .inl (.inl (sT _ _ hte)), kd, rfl, _, rfl, ?_⟩⟩
        by_cases c : k2 = ky
        · subst c
          have ei := huq i q he
          subst ei
          refine ifT (decide_eq_true rfl) ?_
          refine ⟨_, rfl, _, hD2, bigLine (by rw [if_neg (Nat.lt_irrefl _)]; exact Nat.zero_le _), smOver nD3 sT, ?_⟩
          rw [upd_same, if_neg (Nat.lt_irrefl _), if_pos (Nat.lt_succ_self _)]
          rfl
        · refine ifF (by rw [decide_eq_true_iff]; exact fun z => c (by injection z with z; show k2 = ky; have z : ((k2 : Nat) : Int) = (ky : Int) := z; omega)) ?_
          exact stay fun z => by
            rw [z, hbg] at he
            cases he
            exact c rfl
    rintro G ⟨sm, hD⟩
    rw [if_pos (by rw [ul]; exact (List.getElem?_eq_some_iff.mp hbg).1)] at hD
    refine ⟨D3, _, (0 : Int), _, rfl, rfl, .inl (.inl hD), at0' rfl, ?_⟩
    refine ⟨by show 0 ≤ sizeLine; decide, fun F1 nF => ?_⟩
    have sF : Same G (upd G F1 (.lst [])) := smUpd nF
    have hF0 : upd G F1 (.lst []) F1 = some (.lst []) := upd_same
    have nFH : H F1 = none := by
      cases e : H F1 with
      | none => rfl
      | some o => rw [sm _ _ e] at nF; cases nF
    have two : atI (evV (.ask ky pl)) (2 : Int) = some (vn pl) := by
      have : atI (evV (.ask ky pl)) ((2 : Nat) : Int) = some (vn pl) := atI_nat rfl
      exact this
    generalize upd G F1 (.lst []) = G1 at sF hF0 ⊢
    have s1 := sm.trans sF
    refine ⟨_, rfl, r, _, (0 : Int), _, rfl, rfl, .inl (.inl (s1 _ _ o0)), rfl, _, rfl, _, rfl, ixSeqH (seqSame s1 hb) (atI_nat hv2) ⟨tb, _, (2 : Int), _, rfl, rfl, .inl (.inl (s1 _ _ htb)), two, ap, fo.ps, pl, rfl, s1 _ _ o1, ok.ps, ok.l1, hpl, fun y G2 s2 hy => ⟨y, rfl, ⟨_, .inl (.inl hy)⟩, ?_⟩⟩⟩
    have yF : y ≠ F1 := fun z => by
      rw [z, s2 _ _ hF0] at hy
      have e1 : ([] : List V) = (road fo.ps pl).map vn := by injection (Option.some.inj hy)
      exact road_ne ok.ps hpl (List.map_eq_nil_iff.mp e1.symm)
    refine for_it (walk_list (xs := (road fo.ps pl).map vn)) (fun i σ G3 => Same G G3 ∧ G3 y = some (.lst ((road fo.ps pl).map vn)) ∧ (∃ t6 : Option V, σ = [some (.ref r), some (.ref d), some (.ref b), some (vn en), some (vn bg), some (.ref F1), t6, none, none]) ∧ ∃ vs, G3 F1 = some (.lst vs) ∧ vs.length ≤ i ∧ (∀ v ∈ vs, v ≠ V.ref F1) ∧ Paired (LsAt G3) vs ((((road fo.ps pl).take i).filter fun p => decide (p ∈ fo.be)).map fun p => mayL (lives (endD h) p h) (bg : Int) (en : Int) (am p)))
      ⟨sF.trans s2, hy, ⟨_, rfl⟩, [], s2 _ _ hF0, Nat.le_refl _, (fun v h => nomatch h), .nil⟩ (fun i σ G _ z => .inl (.inl z.2.1)) ?_ ?_
    · rintro i x σ G3 G4 hi ⟨s3, hy3, ⟨t6, rfl⟩, vs, hF, hvl, hvn, hP⟩ ⟨rfl, hx⟩
      obtain ⟨q, hq, rfl⟩ := vn_get hx
      have s13 := sm.trans s3
      have rl : (road fo.ps pl).length ≤ 60 := by
        have := road_len ok.ps pl hpl
        have := ok.l1
        omega
      rw [List.length_map] at hi
      have et : ((road fo.ps pl).take (i + 1)).filter (fun p => decide (p ∈ fo.be)) = ((road fo.ps pl).take i).filter (fun p => decide (p ∈ fo.be)) ++ if decide (q ∈ fo.be) = true then [q] else [] := by
        rw [List.take_add_one, hq]
        show (((road fo.ps pl).take i) ++ [q]).filter _ = _
        rw [List.filter_append, List.filter_cons, List.filter_nil]
      refine ⟨_, rfl, _, rfl, r, _, (1 : Int), _, rfl, rfl, .inl (.inl (s13 _ _ o0)), rfl, ab, _, rfl, .inr (tnL (s13 _ _ o2)), rfl, vn_flat _, _, rfl, ?_⟩
      by_cases c : q ∈ fo.be
      · refine ifT (by show inV (vn q) (fo.be.map vn) = true; rw [inV_vn]; exact decide_eq_true c) ?_
        refine ⟨_, rfl, .inl ⟨rfl, _, .inl (.inl hF)⟩, _, rfl, _, rfl, _, rfl, _, rfl, d, vS (am q), rfl, .inl ⟨kvs, .inl (q : Int), .inl (s13 _ _ hd), rfl, (ham q c).symm⟩, _, rfl, _, rfl, b, q, bg, en, am q, us, h, rfl, seqSame s13 hb, evsSame s13 hE, hl, fun r2 G5 s5 n5 hr2 => ?_⟩
        have hF5 := s5 _ _ hF
        have ne : r2 ≠ F1 := fun z => by rw [z, hF] at n5; cases n5
        refine ⟨F1, vs, .ref r2, rfl, rfl, hF5, small1000 (by omega), smOver nF (s3.trans s5), by rw [upd_ne yF]; exact s5 _ _ hy3, ⟨_, rfl⟩, vs ++ [.ref r2], upd_same, by rw [List.length_append]; show vs.length + 1 ≤ i + 1; omega, fun v hv => ?_, ?_⟩
        · rcases List.mem_append.mp hv with hv | hv
          · exact hvn v hv
          · rw [List.mem_singleton.mp hv]; exact fun z => ne (V.ref.inj z)
        rw [et, if_pos (decide_eq_true c), List.map_append]
        have hP5 : Paired (LsAt (upd G5 F1 (.lst (vs ++ [.ref r2])))) vs ((((road fo.ps pl).take i).filter fun p => decide (p ∈ fo.be)).map fun p => mayL (lives (endD h) p h) (bg : Int) (en : Int) (am p)) := by
          exact lsUpd hvn (Paired.mapP hP fun _ _ z => lsSame s5 z)
        exact ls_snoc hP5 (by rw [upd_ne ne]; exact hr2)
      · refine ifF (by show ¬ inV (vn q) (fo.be.map vn) = true; rw [inV_vn]; simpa using c) ?_
        refine ⟨s3, hy3, ⟨_, rfl⟩, vs, hF, Nat.le_succ_of_le hvl, hvn, ?_⟩
        rw [et, if_neg (by rw [decide_eq_true_iff]; exact c), List.append_nil]
        exact hP
    · rintro σ G3 ⟨s3, hy3, ⟨t6, rfl⟩, vs, hF, hvl, hvn, hP⟩
      rw [List.length_map, List.take_length] at hP
      exact ⟨_, rfl, k F1 vs _ (sm.trans s3) nFH hF hP⟩
end
end Cn
namespace Cn
open PySem PySem.Spec PyProof.Rows L2 Ck
/-! in a right history deeds end behind their begins -/
theorem dones_mem {h : List Ev} {k j : Nat} : donesOf h k = some j → h[j]? = some (.don k) := by
  refine snocInd (P := fun h => donesOf h k = some j → h[j]? = some (.don k)) ?_ ?_ h
  · intro z; cases z
  · intro h x ih z
    rw [dones_snoc] at z
    by_cases c : x.isDon = true ∧ k = x.key
    · have z : some h.length = some j := by
        have := z
        simp only [if_pos c] at this
        exact this
      have ej := Option.some.inj z
      have ex : x = .don k := by
        cases x with
        | don k2 => rw [show k = k2 from c.2]
        | chg _ _ _ => cases c.1
        | ask _ _ => cases c.1
        | tld _ _ => cases c.1
      rw [← ej, List.getElem?_append_right (Nat.le_refl _), Nat.sub_self, ex]
      rfl
    · have z : donesOf h k = some j := by
        have := z
        simp only [if_neg c] at this
        exact this
      have h1 := ih z
      rw [List.getElem?_append_left (List.getElem?_eq_some_iff.mp h1).1]
      exact h1
/-- what begins a deed is the first of its number -/
theorem hist_first {fo : Fo} {h : List Ev} (hh : Hist fo h) {i j : Nat} {e e' : Ev} (hi : h[i]? = some e) (hb : e.ends = false) (hj : h[j]? = some e') (hk : e'.key = e.key) : i ≤ j := by
  refine Nat.le_of_not_lt fun z => ?_
  have h1 := due_some hj i z
  have h2 := hh.ok i e hi
  rw [hk] at h1
  cases e with
  | chg k p w => exact h1 h2
  | ask k p => exact h1 h2
  | don k => cases hb
  | tld k a => cases hb
theorem end_behind {fo : Fo} {h : List Ev} (hh : Hist fo h) {i k q : Nat} {w : List Nat} (hi : h[i]? = some (.chg k q w)) : (i : Int) < endD h k := by
  unfold endD
  cases hd : donesOf h k with
  | none =>
    have := (List.getElem?_eq_some_iff.mp hi).1
    show (i : Int) < ((h.length : Nat) : Int)
    omega
  | some j =>
    have h1 := dones_mem hd
    have h2 := hist_first hh hi rfl h1 rfl
    have h3 : i ≠ j := fun z => by rw [← z, hi] at h1; cases h1
    show (i : Int) < ((j : Nat) : Int)
    omega
/-- an ask's number is not a change's -/
theorem no_both {fo : Fo} {h : List Ev} (hh : Hist fo h) {i j k p q : Nat} {w : List Nat} (hi : h[i]? = some (.chg k q w)) (hj : h[j]? = some (.ask k p)) : False := by
  have h1 := hist_first hh hi rfl hj rfl
  have h2 := hist_first hh hj rfl hi rfl
  have e : i = j := Nat.le_antisymm h1 h2
  rw [e, hj] at hi
  cases hi
theorem ask_once {fo : Fo} {h : List Ev} (hh : Hist fo h) {i j k p q : Nat} (hi : h[i]? = some (.ask k p)) (hj : h[j]? = some (.ask k q)) : j = i :=
  Nat.le_antisymm (hist_first hh hj rfl hi rfl) (hist_first hh hi rfl hj rfl)
/-- an answer's ask -/
theorem told_ask {fo : Fo} {h : List Ev} (hh : Hist fo h) {j k : Nat} {a : An} (hj : h[j]? = some (.tld k a)) : ∃ i p, i < j ∧ h[i]? = some (.ask k p) ∧ p ∈ fo.as := by
  have h1 : due (h.take j) k = some (some false) := hh.ok j _ hj
  obtain ⟨i, e, h2, h3, h4, _⟩ := due_from h1
  have hi : i < j := by
    have := (List.getElem?_eq_some_iff.mp h2).1
    rw [List.length_take] at this
    omega
  rw [List.getElem?_take_of_lt hi] at h2
  cases e with
  | ask k2 p =>
    have ek : k2 = k := h3
    subst ek
    exact ⟨i, p, hi, h2, hh.pl _ (List.mem_of_getElem? h2)⟩
  | chg _ _ _ => cases h4
  | don _ => cases h4
  | tld _ _ => cases h4
theorem ends_dones {k : Nat} {h : List Ev} : (∀ e ∈ h, e.key = k → e.ends = true → e.isDon = true) → endsOf h k = donesOf h k := by
  refine snocInd (P := fun h => (∀ e ∈ h, e.key = k → e.ends = true → e.isDon = true) → endsOf h k = donesOf h k) ?_ ?_ h
  · intro _; rfl
  · intro h x ih z
    rw [ends_snoc, dones_snoc]
    show (if x.ends = true ∧ k = x.key then some h.length else endsOf h k) = (if x.isDon = true ∧ k = x.key then some h.length else donesOf h k)
    rw [ih fun e he => z e (List.mem_append.mpr (.inl he))]
    by_cases c : x.ends = true ∧ k = x.key
    · rw [if_pos c, if_pos ⟨z x (List.mem_append.mpr (.inr List.mem_cons_self)) c.2.symm c.1, c.2⟩]
    · have en : x.isDon = true → x.ends = true := fun q => by
        cases x with
        | don _ => rfl
        | chg _ _ _ => cases q
        | ask _ _ => cases q
        | tld _ _ => cases q
      rw [if_neg c, if_neg (fun q => c ⟨en q.1, q.2⟩)]
/-- of a change the program's end is the law's -/
theorem end_same {fo : Fo} {h : List Ev} (hh : Hist fo h) {i k q : Nat} {w : List Nat} (hi : h[i]? = some (.chg k q w)) : (((endsOf h k).getD h.length : Nat) : Int) = endD h k := by
  unfold endD
  rw [ends_dones]
  intro e he hk hend
  obtain ⟨j, hj⟩ := List.getElem?_of_mem he
  cases e with
  | don _ => rfl
  | chg _ _ _ => cases hend
  | ask _ _ => cases hend
  | tld k2 a =>
    have ek : k2 = k := hk
    subst ek
    obtain ⟨i2, p, _, h2, _⟩ := told_ask hh hj
    exact (no_both hh hi h2).elim
theorem exMax : ∀ (l : List Life), l ≠ [] → ∃ u ∈ l, ∀ v ∈ l, v.1 ≤ u.1
  | [], h => absurd rfl h
  | x :: l, _ => by
    by_cases c : l = []
    · subst c
      exact ⟨x, List.mem_cons_self, fun v hv => by rw [List.mem_singleton.mp hv]; exact Int.le_refl _⟩
    · obtain ⟨u, hu, hm⟩ := exMax l c
      by_cases d : x.1 ≤ u.1
      · refine ⟨u, List.mem_cons_of_mem _ hu, fun v hv => ?_⟩
        rcases List.mem_cons.mp hv with e | hv
        · rw [e]; exact d
        · exact hm v hv
      · refine ⟨x, List.mem_cons_self, fun v hv => ?_⟩
        rcases List.mem_cons.mp hv with e | hv
        · rw [e]; exact Int.le_refl _
        · have := hm v hv
          omega
/-- something may always be chosen -/
theorem cho_ne {L : List Life} {b : Int} {a0 : List Nat} (hE : ∀ u ∈ L, u.1 < u.2.1 ∧ 0 ≤ u.1) : choL ((-1, -1, a0) :: L) b ≠ [] := by
  have pick : ∀ t ∈ ((-1, -1, a0) : Life) :: L, outB (((-1, -1, a0) : Life) :: L) t.2.1 b = false → choL (((-1, -1, a0) : Life) :: L) b ≠ [] := fun t ht ho z => by
    unfold choL at z
    have hf : t ∈ ((((-1, -1, a0) : Life) :: L).filter fun t => !outB (((-1, -1, a0) : Life) :: L) t.2.1 b) := List.mem_filter.mpr ⟨ht, by rw [ho]; rfl⟩
    rw [List.map_eq_nil_iff.mp z] at hf
    cases hf
  have notOut : ∀ t : Int, (∀ u ∈ ((-1, -1, a0) : Life) :: L, t < u.1 → ¬ u.2.1 < b) → outB (((-1, -1, a0) : Life) :: L) t b = false := fun t h => by
    unfold outB
    rw [List.any_eq_false]
    intro u hu z
    rw [Bool.and_eq_true, decide_eq_true_iff, decide_eq_true_iff] at z
    exact h u hu z.1 z.2
  by_cases c : (L.filter fun u => decide (u.2.1 < b)) = []
  · refine pick _ List.mem_cons_self (notOut (-1) fun u hu h1 h2 => ?_)
    rcases List.mem_cons.mp hu with e | hu
    · rw [e] at h1
      exact absurd h1 (Int.lt_irrefl _)
    · have : u ∈ L.filter fun u => decide (u.2.1 < b) := List.mem_filter.mpr ⟨hu, decide_eq_true h2⟩
      rw [c] at this
      cases this
  · obtain ⟨u, hu, hm⟩ := exMax _ c
    obtain ⟨hu1, hu2⟩ := List.mem_filter.mp hu
    refine pick u (List.mem_cons_of_mem _ hu1) (notOut u.2.1 fun v hv h1 h2 => ?_)
    have h3 := hE u hu1
    rcases List.mem_cons.mp hv with e | hv
    · rw [e] at h1
      have h1 : u.2.1 < -1 := h1
      omega
    · have h4 := hm v (List.mem_filter.mpr ⟨hv, decide_eq_true h2⟩)
      omega
end Cn
namespace Cn
open PySem PySem.Spec PyProof.Rows L2 Ck
section
variable {P : Program} {w : World} {K : PySem.W.Frag} {mg : Str → Option Value} {base : Heap} {C : Addr}
/-- how many choices there are -/
def spLProd : Sp := fun vs H Q _ => ∃ (b : Addr) (us : List V) (cs : List (List (List Nat))), vs = [.ref b] ∧ H b = some (.lst us) ∧ Paired (LsAt H) us cs ∧ (∀ c ∈ cs, c.length ≤ 1000) ∧ Q (vn (prodC cs)) H
def nLProd : List Str := ["_law_choices_here", "_law_many", "_law_some"]
theorem scLProd : FnScope nLProd ["_law_choices_here"] (defScope sLProd) := ⟨rfl, rfl, rfl, by decide +kernel, rfl, by decide +kernel, by decide +kernel⟩
theorem dLProd (B : Defs K mg C) : Def P w K mg base "_law_product" 1 ["_law_choices_here"] spLProd := by
  have N := B.N
  have nd := scLProd.nd
  refine def_of B.lpd fun f fd F => ?_
  refine F.ok scLProd (fun vs H Q E h => ?_) (fun cdv A outer s H vs Q E hr h => ?_)
  · obtain ⟨b, us, cs, rfl, _⟩ := h
    rfl
  · obtain ⟨b, us, cs, rfl, hb, hU, hc1, k⟩ := h
    refine ⟨_, pss_cons (ps_set (i := 1) nd rfl (Or.inl rfl) pe_int)
      (pss_cons (ps_for PassesOwn.never rfl (pi_list (pv 0)) (pg_name (i := 2) nd rfl (Or.inl rfl)) (pss_one (ps_set (i := 1) nd rfl (Or.inl rfl) (pe_op op_mul (pv 1) (pe_callB call_len_seq (by rfl) N.is.len PySem.boot_len (pa_cons (pv 2) pa_nil))))))
      (pss_one (ps_ret (pv 1)))), ?_⟩
    have ul : us.length = cs.length := Paired.length hU
    refine ⟨_, rfl, b, rfl, ⟨_, .inl (.inl hb)⟩, ?_⟩
    refine for_it (walk_list (xs := us)) (fun i σ G => G = H ∧ ∃ t2 : Option V, σ = [some (.ref b), some (vn (prodC (cs.take i))), t2]) ⟨rfl, _, rfl⟩ (fun i σ G _ z => by rw [z.1]; exact .inl (.inl hb)) ?_ ?_
    · rintro i x σ G G2 hi ⟨rfl, t2, rfl⟩ ⟨rfl, hx⟩
      obtain ⟨c, hc, t, rfl, ht⟩ := pairedGetQ hU hx
      have c1 := hc1 c (List.mem_of_getElem? hc)
      refine ⟨_, rfl, _, rfl, t, _, rfl, .inl (.inl (.inl ht)), _, _, rfl, rfl, .inr ⟨by rw [List.length_map]; omega, by rw [List.length_map]; omega⟩, rfl, some (.ref t), ?_⟩
      rw [List.take_add_one, hc]
      show _ = [_, some (vn (prodC (cs.take i ++ [c]))), _]
      rw [prodC_snoc, List.length_map]
      show [_, some (V.int (((prodC (cs.take i) : Nat) : Int) * ((c.length : Nat) : Int))), _] = [_, some (V.int ((prodC (cs.take i) * c.length : Nat) : Int)), _]
      rw [Int.natCast_mul]
    · rintro σ G ⟨rfl, t2, rfl⟩
      rw [ul, List.take_length]
      exact ⟨_, rfl, k⟩
/-- all that choices come to, by the law -/
def spLAllA (P : Program) (w : World) (K : PySem.W.Frag) (mg : Str → Option Value) (base : Heap) : Sp := fun vs H Q _ => ∃ (g b : Addr) (ad : List Nat → List Nat → List Nat) (us : List V) (cs : List (List (List Nat))), vs = [.ref g, .ref b] ∧ Add P w K mg base g ad ∧ H b = some (.lst us) ∧ Paired (LsAt H) us cs ∧
  cs.length ≤ 60 ∧ prodC cs ≤ 2000 ∧ (∀ c ∈ cs, c ≠ [] ∧ ∀ l ∈ c, l.length ≤ 100) ∧ ∀ r H', Same H H' → H' r = some (.lst ((allA ad cs).map vA)) → Q (.ref r) H'
def nLAllA : List Str := ["_law_add", "_law_choices_here", "_law_found", "_law_some", "_law_longer", "_law_one", "_law_other"]
theorem scLAllA : FnScope nLAllA ["_law_add", "_law_choices_here"] (defScope sLAllA) := ⟨rfl, rfl, rfl, by decide +kernel, rfl, by decide +kernel, by decide +kernel⟩
theorem dLAllA (B : Defs K mg C) : Def P w K mg base "_law_all_answers" 2 ["_law_add", "_law_choices_here"] (spLAllA P w K mg base) := by
  have N := B.N
  have nd := scLAllA.nd
  refine def_of B.laa fun f fd F => ?_
  refine F.ok scLAllA (fun vs H Q E h => ?_) (fun cdv A outer s H vs Q E hr h => ?_)
  · obtain ⟨g, b, ad, us, cs, rfl, _⟩ := h
    rfl
  · obtain ⟨g, b, ad, us, cs, rfl, ⟨⟨fdG, psG, spG, FG, kG, bG, yes⟩, al⟩, hb, hU, hl, hpr, hcs, k⟩ := h
    refine ⟨_, pss_cons (ps_if (pt_cmpR op_eq (pe_callB call_len_seq (by rfl) N.is.len PySem.boot_len (pa_cons (pv 1) pa_nil)) pe_int (nomark _)) (pss_one (ps_ret (pe_lst (pa_cons pe_non pa_nil)))) pss_nil)
      (pss_cons (ps_set (i := 2) nd rfl (Or.inl rfl) (pe_callTy call_list_of (by rfl) N.is.lst (by decide +kernel) (pa_cons (pe_ix ix_list (pv 1) pe_int (fun _ _ => rfl)) pa_nil)))
      (pss_cons (ps_for PassesOwn.never rfl (pi_list (pe_slice sl_list (pv 1) (po_some pe_int) po_none)) (pg_name (i := 3) nd rfl (Or.inl rfl))
        (pss_cons (ps_set (i := 4) nd rfl (Or.inl rfl) (pe_lst pa_nil))
        (pss_cons (ps_for PassesOwn.never rfl (pi_list (pv 2)) (pg_name (i := 5) nd rfl (Or.inr rfl))
          (pss_one (ps_expr (pe_bm PySem.F.plainAttrs_list PySem.F.slot_list_extend PySem.F.type_list_extend mt_extend (pv 4) (pa_cons (pe_lc (own := [("_law_other", 6)]) (g := gName 6) (tt := tYes) (te := tCallL 0 g spG [] (fun _ _ _ => False) (tCons (tVar 5) (tCons (tVar 6) tNil))) rfl nd (pi_list (pv 3))
            (blkOk_by (N := nLAllA) (sc := defScope sLAllA) (by decide +kernel)) (fun _ _ _ _ _ => pg_name (i := 6) nd rfl (Or.inl rfl)) (fun _ _ _ _ _ => pts_nil)
            (fun _ _ _ _ _ => pe_callL (i := 0) FG hr rfl (by first | exact Or.inl rfl | exact Or.inr (Or.inl rfl) | exact Or.inr (Or.inr rfl)) kG bG .nil pass0 (pa_cons (pv 5) (pa_cons (pv 6) pa_nil)))) pa_nil)))))
        (pss_one (ps_set (i := 2) nd rfl (Or.inl rfl) (pv 4))))))
      (pss_one (ps_ret (pv 2))))), ?_⟩
    have ul : us.length = cs.length := Paired.length hU
    have ne : ∀ c ∈ cs, c ≠ [] := fun c hc => (hcs c hc).1
    refine ⟨_, rfl, b, _, rfl, .inl (.inl (.inl hb)), rfl, _, rfl, ?_⟩
    cases cs with
    | nil =>
      refine ifT (decide_eq_true (by rw [ul]; rfl)) ?_
      exact ⟨by show 1 ≤ sizeLine; decide, fun W nW => k W _ (smUpd nW) upd_same⟩
    | cons c0 cs' =>
      refine ifF (by rw [decide_eq_true_iff, ul]; exact fun z => by injection z with z; rw [List.length_cons] at z; omega) ?_
      have hx0 : ∃ v, us[0]? = some v := ⟨us[0]'(by rw [ul, List.length_cons]; omega), List.getElem?_eq_getElem _⟩
      obtain ⟨v0, hv0⟩ := hx0
      obtain ⟨c, hc, t0, rfl, ht0⟩ := pairedGetQ hU hv0
      cases hc
      refine ⟨_, rfl, b, _, (0 : Int), _, rfl, rfl, .inl (.inl hb), at0' hv0, t0, _, rfl, .inl (.inl (.inl ht0)), fun W nW => ?_⟩
      have sW : Same H (upd H W (.lst (c0.map vS))) := smUpd nW
      have hW : upd H W (.lst (c0.map vS)) W = some (.lst (c0.map vS)) := upd_same
      generalize upd H W (.lst (c0.map vS)) = H1 at sW hW ⊢
      refine ⟨_, rfl, 1, rfl, b, us, rfl, .inl (.inl (sW _ _ hb)), fun d nd' => ?_⟩
      rw [show (some (1 : Int)) = some ((1 : Nat) : Int) from rfl, cutDrop]
      have hd : upd H1 d (.lst (us.drop 1)) d = some (.lst (us.drop 1)) := upd_same
      have sd : Same H1 (upd H1 d (.lst (us.drop 1))) := smUpd nd'
      generalize upd H1 d (.lst (us.drop 1)) = J2 at hd sd ⊢
      have s2 := sW.trans sd
      refine ⟨d, rfl, ⟨_, .inl (.inl hd)⟩, ?_⟩
      refine for_it (walk_list (xs := us.drop 1)) (fun i σ G => Same J2 G ∧ ∃ (W : Addr) (t3 t4 t5 : Option V), σ = [some (.ref g), some (.ref b), some (.ref W), t3, t4, t5, none] ∧ G W = some (.lst (((cs'.take i).foldl (stepA ad) c0).map vS))) ⟨Same.refl _, W, _, _, _, rfl, sd _ _ hW⟩ (fun i σ G _ z => .inl (.inl (z.1 _ _ hd))) ?_ ?_
      · rintro i x σ G G3 hi ⟨sm, W, t3, t4, t5, rfl, hW⟩ ⟨rfl, hx⟩
        rw [List.getElem?_drop] at hx
        obtain ⟨c, hc, t, rfl, ht⟩ := pairedGetQ hU hx
        have hc' : cs'[i]? = some c := by
          rw [Nat.add_comm] at hc
          exact hc
        obtain ⟨ws, hws⟩ : ∃ ws, ws = (cs'.take i).foldl (stepA ad) c0 := ⟨_, rfl⟩
        rw [← hws] at hW
        have en : (cs'.take (i + 1)).foldl (stepA ad) c0 = stepA ad ws c := by
          rw [List.take_add_one, hc', List.foldl_append, ← hws]
          rfl
        have cnt : ws.length * c.length ≤ 2000 := by
          rw [← stepA_len (ad := ad), ← en, fold_count, ← prodC_cons]
          exact Nat.le_trans (prodC_take (cs := c0 :: cs') ne (i + 2)) hpr
        have wl : ∀ x ∈ ws, x.length ≤ 100 + (cs'.take i).length * 100 := by
          rw [hws]
          exact fold_len al (fun x hx => (hcs c0 List.mem_cons_self).2 x hx) fun d hd x hx => (hcs d (List.mem_cons_of_mem _ (List.mem_of_mem_take hd))).2 x hx
        have il : (cs'.take i).length ≤ 60 := by
          rw [List.length_take]
          have := hl
          rw [List.length_cons] at this
          omega
        have cl : ∀ x ∈ c, x.length ≤ 100 := (hcs c (List.mem_of_getElem? hc)).2
        have htG := sm _ _ (s2 _ _ ht)
        refine ⟨by show 0 ≤ sizeLine; decide, fun L nL => ?_⟩
        have hL0 : upd G3 L (.lst []) L = some (.lst []) := upd_same
        have sL : Same G3 (upd G3 L (.lst [])) := smUpd nL
        refine ⟨_, rfl, W, rfl, ⟨_, .inl (.inl (sL _ _ hW))⟩, ?_⟩
        refine for_it (walk_list (xs := ws.map vS)) (fun j σ J3 => Same G3 J3 ∧ (∃ t5 : Option V, σ = [some (.ref g), some (.ref b), some (.ref W), some (.ref t), some (.ref L), t5, none]) ∧ J3 L = some (.lst ((stepA ad (ws.take j) c).map vS))) ⟨sL, ⟨_, rfl⟩, hL0⟩ (fun j σ J _ z => .inl (.inl (z.1 _ _ hW))) ?_ ?_
        · rintro j x σ J3 J4 hj ⟨s3, ⟨t5, rfl⟩, hL⟩ ⟨rfl, hx⟩
          obtain ⟨wd, hwd, rfl⟩ := vS_get hx
          have hj : j < ws.length := by simpa using hj
          have jc : j * c.length + c.length ≤ ws.length * c.length := by
            rw [← Nat.succ_mul]
            exact Nat.mul_le_mul_right _ hj
          refine ⟨_, rfl, .inl ⟨rfl, _, .inl (.inl hL)⟩, _, rfl, t, rfl, ⟨_, .inl (.inl (s3 _ _ htG))⟩, fun D nD => ?_⟩
          refine anyWalk (walk_list (xs := c.map vS)) (fun m J5 => Same J4 J5 ∧ J5 D = some (.lst (((c.take m).map fun x => ad wd x).map vS))) ⟨smUpd nD, upd_same⟩ (fun m J _ z => .inl (.inl (z.1 _ _ (s3 _ _ htG)))) ?_ ?_
          · rintro m y J5 J6 hm ⟨s5, hD5⟩ ⟨rfl, hy⟩
            obtain ⟨x, hx, rfl⟩ := vS_get hy
            have hm : m < c.length := by simpa using hm
            have e1 := wl wd (List.mem_of_getElem? hwd)
            have e2 := cl x (List.mem_of_getElem? hx)
            refine ⟨rfl, rfl, _, rfl, _, rfl, yes wd x _ _ _ (by omega) ⟨_, hD5, bigLine ?_, smOver nD s5, ?_⟩⟩
            · rw [List.length_map, List.length_map, List.length_take]
              omega
            · rw [upd_same, List.take_add_one, hx, List.map_append, List.map_append]
              rfl
          · rintro J5 ⟨s5, hD5⟩
            rw [List.length_map, List.take_length] at hD5
            refine ⟨L, D, _, _, rfl, rfl, s5 _ _ hL, hD5, ?_, smOver nL (s3.trans s5), ⟨_, rfl⟩, ?_⟩
            · rw [List.length_map, List.length_map, List.length_map, stepA_len, List.length_take, Nat.min_eq_left (Nat.le_of_lt hj)]
              show _ ≤ 16777216
              omega
            · rw [upd_same, List.take_add_one, hwd]
              show _ = some (HO.lst ((stepA ad (ws.take j ++ [wd]) c).map vS))
              rw [stepA_snoc, List.map_append]
        · rintro σ J3 ⟨s3, ⟨t5, rfl⟩, hL⟩
          rw [List.length_map, List.take_length] at hL
          exact ⟨_, rfl, sm.trans s3, L, _, _, _, rfl, by rw [en]; exact hL⟩
      · rintro σ G ⟨sm, W, t3, t4, t5, rfl, hW⟩
        have eall : cs'.take (us.drop 1).length = cs' := List.take_of_length_le (by rw [List.length_drop, ul, List.length_cons]; omega)
        rw [eall] at hW
        refine ⟨_, rfl, k W _ (s2.trans sm) ?_⟩
        rw [hW]
        show _ = some (HO.lst (((cs'.foldl (stepA ad) c0).map some).map vA))
        rw [List.map_map]
        rfl
end
end Cn
namespace Cn
open PySem PySem.Spec PyProof.Rows L2 Ck
/-- the texts of a history are short -/
def Short (am : Nat → List Nat) (h : List Ev) : Prop := (∀ p, (am p).length ≤ 100) ∧ ∀ k p w, Ev.chg k p w ∈ h → w.length ≤ 100
theorem chosen_ok {fo : Fo} {am : Nat → List Nat} {h : List Ev} {pl bg en : Nat} (hh : Hist fo h) (sh : Short am h) (ok : FoOk fo) (hpl : pl < fo.ps.length) (hbe : bg ≤ en) (hen : en ≤ h.length) : (chosenL fo am h pl bg en).length ≤ 60 ∧ ∀ c ∈ chosenL fo am h pl bg en, c ≠ [] ∧ ∀ l ∈ c, l.length ≤ 100 := by
  refine ⟨?_, fun c hc => ?_⟩
  · unfold chosenL
    rw [List.length_map]
    have h1 := road_len ok.ps pl hpl
    have h2 := ok.l1
    exact Nat.le_trans (List.length_filter_le _ _) (by omega)
  · obtain ⟨p, _, rfl⟩ := List.mem_map.mp hc
    rw [may_eq hen hbe fun i k q w hi => end_behind hh hi]
    refine ⟨cho_ne fun u hu => ?_, fun l hl => ?_⟩
    · obtain ⟨i, k, w, h1, rfl⟩ := lives_mem hu
      have hi : i < en := by
        have := (List.getElem?_eq_some_iff.mp h1).1
        rw [List.length_take] at this
        omega
      rw [List.getElem?_take_of_lt hi] at h1
      have := end_behind hh h1
      exact ⟨this, Int.natCast_nonneg _⟩
    · obtain ⟨t, ht, rfl⟩ := List.mem_map.mp hl
      have ht := (List.mem_filter.mp ht).1
      rcases List.mem_cons.mp ht with rfl | ht
      · exact sh.1 p
      · obtain ⟨i, k, w, h1, rfl⟩ := lives_mem ht
        exact sh.2 k p w (List.mem_of_mem_take (List.mem_of_getElem? h1))
theorem allA_len {ad : List Nat → List Nat → List Nat} : ∀ {cs : List (List (List Nat))}, (allA ad cs).length = prodC cs
  | [] => rfl
  | c :: cs => by
    show ((cs.foldl (stepA ad) c).map some).length = _
    rw [List.length_map, fold_count, ← prodC_cons]
/-- an answer and its ask -/
def Told (h : List Ev) (at_ k bg pl : Nat) (a : An) : Prop := h[at_]? = some (.tld k a) ∧ h[bg]? = some (.ask k pl)
def Good (fo : Fo) (am : Nat → List Nat) (ad : List Nat → List Nat → List Nat) (h : List Ev) (most at_ : Nat) : Prop := ∀ k bg pl a, Told h at_ k bg pl a → prodC (chosenL fo am h pl bg at_) ≤ most ∧ a ∈ allT ad (chosenL fo am h pl bg at_)
def First (fo : Fo) (am : Nat → List Nat) (ad : List Nat → List Nat → List Nat) (h : List Ev) (most at_ : Nat) : Prop := (∀ j, j < at_ → Good fo am ad h most j) ∧ ∃ k bg pl a, Told h at_ k bg pl a ∧ prodC (chosenL fo am h pl bg at_) ≤ most ∧ a ∉ allT ad (chosenL fo am h pl bg at_)
/-- what a history's judge tells -/
def Judged (fo : Fo) (am : Nat → List Nat) (ad : List Nat → List Nat → List Nat) (h : List Ev) (most : Nat) : Option Nat → Prop
  | some at_ => First fo am ad h most at_
  | none => ∀ j, Good fo am ad h most j
def FirstOut (fo : Fo) (am : Nat → List Nat) (ad : List Nat → List Nat → List Nat) (h : List Ev) (most : Nat) (v : V) : Prop := (∃ res, Judged fo am ad h most res ∧ v = vp res) ∨ (v = .str "many" ∧ ∃ j k bg pl a, Told h j k bg pl a ∧ most < prodC (chosenL fo am h pl bg j))
section
variable {P : Program} {w : World} {K : PySem.W.Frag} {mg : Str → Option Value} {base : Heap} {C : Addr}
/-- the first answer that is not possible, by the law -/
def spLFirstW (P : Program) (w : World) (K : PySem.W.Frag) (mg : Str → Option Value) (base : Heap) : Sp := fun vs H Q _ => ∃ (r d g b : Addr) (most : Nat) (fo : Fo) (am : Nat → List Nat) (ad : List Nat → List Nat → List Nat) (us : List V) (h : List Ev), vs = [.ref r, .ref d, .ref g, .ref b, vn most] ∧ TolR H r fo ∧ FoOk fo ∧ AmD H d fo am ∧ Add P w K mg base g ad ∧ SeqH H b us ∧ EvsAt H us h ∧ h.length ≤ 200 ∧ Hist fo h ∧ Short am h ∧ most ≤ 2000 ∧
  ∀ (v : V) H', Same H H' → FirstOut fo am ad h most v → Q v H'
def nLFirstW : List Str := ["_law_spec_here", "_law_amounts", "_law_add", "_law_history", "_law_most", "_law_at", "_law_event", "_law_choices_here", "_law_one"]
theorem scLFirstW : FnScope nLFirstW ["_law_spec_here", "_law_amounts", "_law_add", "_law_history", "_law_most"] (defScope sLFirstW) := ⟨rfl, rfl, rfl, by decide +kernel, rfl, by decide +kernel, by decide +kernel⟩
theorem dLFirstW (B : Defs K mg C) : Def P w K mg base "_law_first_wrong" 3 ["_law_spec_here", "_law_amounts", "_law_add", "_law_history", "_law_most"] (spLFirstW P w K mg base) := by
  obtain ⟨fC, fdC, GC, gC, kC, bC⟩ := dLChoi (P := P) (w := w) (base := base) B
  obtain ⟨fP', fdP, GP, gP, kP, bP⟩ := dLProd (P := P) (w := w) (base := base) B
  obtain ⟨fA', fdA, GA, gA, kA, bA⟩ := dLAllA (P := P) (w := w) (base := base) B
  have N := B.N
  have mA := B.zAny
  have nd := scLFirstW.nd
  refine def_of B.lfw fun f fd F => ?_
  refine F.ok scLFirstW (fun vs H Q E h => ?_) (fun cdv A outer s H vs Q E hr h => ?_)
  · obtain ⟨r, d, g, b, most, fo, am, ad, us, h, rfl, _⟩ := h
    rfl
  · obtain ⟨r, d, g, b, most, fo, am, ad, us, h, rfl, hT, ok, hA, hAd, hb, hE, hl, hh, sh, hm, k⟩ := h
    refine ⟨_, pss_cons (ps_for PassesOwn.never rfl (PI.orr (pi_enum (by rfl) N.enum (pa_cons (pv 3) pa_nil)) (pi_enumT (by rfl) N.enum (pa_cons (pv 3) pa_nil))) (pg_tup rfl (pgs_cons (pg_name (i := 5) nd rfl (Or.inl rfl)) (pgs_cons (pg_name (i := 6) nd rfl (Or.inr rfl)) pgs_nil)))
        (pss_one (ps_if (pt_cmpR op_eq (pe_ix ix_tup (pv 6) pe_int (fun _ _ => rfl)) pe_str (nomark _))
          (pss_cons (ps_set (i := 7) nd rfl (Or.inl rfl) (pe_call GC hr (by rfl) gC kC bC .nil pass0 (pa_cons (pv 0) (pa_cons (pv 1) (pa_cons (pv 3) (pa_cons (pv 5) pa_nil))))))
          (pss_cons (ps_if (pt_cmpR op_gt (pe_call GP (hr.mono (by decide)) (by rfl) gP kP bP .nil pass0 (pa_cons (pv 7) pa_nil)) (pv 4) (nomark _)) (pss_one (ps_ret pe_str)) pss_nil)
          (pss_one (ps_if (pt_not (pt_val (pe_callB (r := rAny K) (cr_any rfl) (by rfl) mA (by decide +kernel) (pa_cons (pe_lc (own := [("_law_one", 8)]) (g := gName 8) (tt := tYes) (te := tOp rEq (tVar 8) (tOp (rIxT K) (tVar 6) (tC (.int 2)))) rfl nd (pi_list (pe_call GA hr (by rfl) gA kA bA .nil pass0 (pa_cons (pv 2) (pa_cons (pv 7) pa_nil))))
            (blkOk_by (N := nLFirstW) (sc := defScope sLFirstW) (by decide +kernel)) (fun _ _ _ _ _ => pg_name (i := 8) nd rfl (Or.inl rfl)) (fun _ _ _ _ _ => pts_nil) (fun _ _ _ _ _ => pe_cmpR (r := rEq) op_eq (pv 8) (pe_ix (r := rIxT K) ix_tup (pv 6) pe_int (fun _ _ => rfl)) (nomark _))) pa_nil))))
            (pss_one (ps_ret (pv 5))) pss_nil)))) pss_nil)))
      (pss_one (ps_ret pe_non)), ?_⟩
    have ul : us.length = h.length := Paired.length hE
    show _ ∨ _
    refine seqEnum rfl hb (Same.refl _) fun J wk => ?_
    refine for_it wk (fun i σ G => Same H G ∧ (∃ t5 t6 t7 : Option V, σ = [some (.ref r), some (.ref d), some (.ref g), some (.ref b), some (vn most), t5, t6, t7, none]) ∧ ∀ j, j < i → Good fo am ad h most j) ⟨Same.refl _, ⟨_, _, _, rfl⟩, fun j hj => absurd hj (Nat.not_lt_zero _)⟩ (fun i σ G _ z => z.1) ?_ ?_
    · rintro i x σ G G2 hi ⟨sm, ⟨t5, t6, t7, rfl⟩, hg⟩ ⟨T, x1, y1, rfl, nT, rfl, e1, e2⟩
      cases e1
      obtain ⟨e, he, t, rfl, ht⟩ := pairedGetQ hE e2
      have sT := sm.trans (smUpd (o := .tup [.int ((i : Nat) : Int), .ref t]) nT)
      have hT2 : upd G T (.tup [.int ((i : Nat) : Int), .ref t]) T = some (.tup [.int ((i : Nat) : Int), .ref t]) := upd_same
      generalize upd G T (.tup [.int ((i : Nat) : Int), .ref t]) = G2 at sT hT2 ⊢
      have tl : ∀ {J : Hp}, Same G2 J → SqT K J t (evV e) := fun z => .inl (.inl (z _ _ (sT _ _ ht)))
      have wd : atI (evV e) (0 : Int) = some (.str e.word) := at0' (by cases e <;> rfl)
      have other : (∀ k a, e ≠ .tld k a) → ∀ j, j < i + 1 → Good fo am ad h most j := fun z j hj => by
        by_cases c : j < i
        · exact hg j c
        · have ej : j = i := by omega
          subst ej
          intro k bg pl a ht2
          have h1 := ht2.1
          rw [he] at h1
          exact absurd (Option.some.inj h1) (z k a)
      refine ⟨T, _, rfl, .inl (.inl hT2), rfl, _, _, rfl, _, _, rfl, rfl, ?_⟩
      refine ⟨_, rfl, t, _, (0 : Int), _, rfl, rfl, tl (Same.refl _), wd, rfl, _, rfl, ?_⟩
      cases e with
      | chg k2 q w =>
        refine ifF (by show ¬ decide (V.str (Str.ofString "change") = V.str (Str.ofString "told")) = true; decide +kernel) ?_
        exact ⟨sT, ⟨_, _, _, rfl⟩, other fun k a z => by cases z⟩
      | ask k2 q =>
        refine ifF (by show ¬ decide (V.str (Str.ofString "ask") = V.str (Str.ofString "told")) = true; decide +kernel) ?_
        exact ⟨sT, ⟨_, _, _, rfl⟩, other fun k a z => by cases z⟩
      | don k2 =>
        refine ifF (by show ¬ decide (V.str (Str.ofString "done") = V.str (Str.ofString "told")) = true; decide +kernel) ?_
        exact ⟨sT, ⟨_, _, _, rfl⟩, other fun k a z => by cases z⟩
      | tld ky an =>
        refine ifT (by show decide (V.str (Str.ofString "told") = V.str (Str.ofString "told")) = true; decide +kernel) ?_
        obtain ⟨bg, pl, hbi, hbg, hpa⟩ := told_ask hh he
        have hpl := ok.al pl hpa
        have hil : i ≤ h.length := Nat.le_of_lt (List.getElem?_eq_some_iff.mp he).1
        obtain ⟨c1, c2⟩ := chosen_ok (am := am) hh sh ok hpl (Nat.le_of_lt hbi) hil
        have hA2 : AmD G2 d fo am := by
          obtain ⟨kvs, q1, q2⟩ := hA
          exact ⟨kvs, sT _ _ q1, q2⟩
        refine ⟨_, rfl, _, rfl, _, rfl, _, rfl, r, d, b, i, bg, ky, pl, fo, am, us, h, .tld ky an, rfl, tolSame sT hT, ok, hA2, seqSame sT hb, evsSame sT hE, hl, he, rfl, hbg, fun j q hj => ask_once hh hbg hj, hpl, fun q cu G3 s3 nq hq hP => ?_⟩
        refine ⟨_, rfl, q, cu, _, rfl, hq, hP, fun c hc => ?_, ?_⟩
        · obtain ⟨p, _, rfl⟩ := List.mem_map.mp hc
          unfold mayL
          rw [List.length_map]
          refine Nat.le_trans (List.length_filter_le _ _) ?_
          rw [List.length_cons]
          have := lives_len (E := endD h) (p := p) h
          omega
        have s23 := sT.trans s3
        refine ⟨_, rfl, _, _, rfl, rfl, _, rfl, ?_⟩
        by_cases c : prodC (chosenL fo am h pl bg i) ≤ most
        case neg =>
          refine ifT (decide_eq_true (by omega)) ?_
          exact k _ _ s23 (.inr ⟨rfl, i, ky, bg, pl, an, ⟨he, hbg⟩, by omega⟩)
        refine ifF (by rw [decide_eq_true_iff]; omega) ?_
        refine ⟨_, rfl, _, rfl, g, q, ad, cu, _, rfl, hAd, hq, hP, c1, by omega, c2, fun r2 G4 s4 hr2 => ⟨r2, rfl, ⟨_, .inl (.inl hr2)⟩, fun D nD => ?_⟩⟩
        have two : atI (evV (.tld ky an)) (2 : Int) = some (vAn an) := by
          have : atI (evV (.tld ky an)) ((2 : Nat) : Int) = some (vAn an) := atI_nat rfl
          exact this
        have al := allA_len (ad := ad) (cs := chosenL fo am h pl bg i)
        refine anyWalk (walk_list (xs := (allA ad (chosenL fo am h pl bg i)).map vA)) (fun m J => Same G4 J ∧ J D = some (.lst ((((allA ad (chosenL fo am h pl bg i)).take m).map fun x => decide (vA x = vAn an)).map V.bl))) ⟨smUpd nD, upd_same⟩ (fun m J _ z => .inl (.inl (z.1 _ _ hr2))) ?_ ?_
        · rintro m y J J' hm2 ⟨sj, hD⟩ ⟨rfl, hy⟩
          rw [List.getElem?_map] at hy
          obtain ⟨z, hz, rfl⟩ := Option.map_eq_some_iff.mp hy
          refine ⟨rfl, _, rfl, _, rfl, t, _, (2 : Int), _, rfl, rfl, tl (s3.trans (s4.trans sj)), two, scal_vA _ _, _, hD, bigLine (by rw [List.length_map, List.length_map, List.length_take]; omega), smOver nD sj, ?_⟩
          rw [upd_same, List.take_add_one, hz, List.map_append, List.map_append]
          rfl
        rintro J ⟨sj, hD⟩
        rw [List.length_map, List.take_length] at hD
        have sHJ := s23.trans (s4.trans sj)
        refine ⟨D, _, rfl, .inl (.inl hD), ?_⟩
        rw [any_vA]
        refine ⟨_, rfl, ?_⟩
        by_cases ca : an ∈ allT ad (chosenL fo am h pl bg i)
        · refine ifF (by show ¬ (!decide (an ∈ allT ad (chosenL fo am h pl bg i))) = true; rw [decide_eq_true ca]; decide) ?_
          refine ⟨sHJ, ⟨_, _, _, rfl⟩, fun j hj => ?_⟩
          by_cases cj : j < i
          · exact hg j cj
          · have ej : j = i := by omega
            subst ej
            intro k2 bg2 pl2 a2 ht2
            have h1 := ht2.1
            rw [he] at h1
            cases h1
            have eb := ask_once hh hbg ht2.2
            subst eb
            have h2 := ht2.2
            rw [hbg] at h2
            cases h2
            exact ⟨c, ca⟩
        · refine ifT (by show (!decide (an ∈ allT ad (chosenL fo am h pl bg i))) = true; rw [decide_eq_false ca]; rfl) ?_
          exact ⟨_, rfl, k _ _ sHJ (.inl ⟨some i, ⟨hg, ky, bg, pl, an, ⟨he, hbg⟩, c, ca⟩, rfl⟩)⟩
    · rintro σ G ⟨sm, ⟨t5, t6, t7, rfl⟩, hg⟩
      refine k _ _ sm (.inl ⟨none, fun j => ?_, rfl⟩)
      by_cases c : j < us.length
      · exact hg j c
      · intro k2 bg pl a ht2
        have := (List.getElem?_eq_some_iff.mp ht2.1).1
        omega
end
end Cn
namespace Cn
open PySem PySem.Spec PyProof.Rows L2 Ck
/-- the changes of each bearing place so far, in lists of one's own -/
def LvAt (H0 H : Hp) (cell : Nat → Addr) (E : Nat → Int) (am : Nat → List Nat) (hs : List Ev) (ps : List Nat) : Prop := ∀ p ∈ ps, H0 (cell p) = none ∧ ∃ us, H (cell p) = some (.lst us) ∧ Paired (LfAt H) us ((-1, -1, am p) :: lives E p hs)
theorem nBack {H G : Hp} {b : Addr} (s : Same H G) (n : G b = none) : H b = none := by
  cases e : H b with
  | none => rfl
  | some o => rw [s _ _ e] at n; cases n
theorem lvStay {H0 G G' : Hp} {cell : Nat → Addr} {E : Nat → Int} {am : Nat → List Nat} {hs : List Ev} {e : Ev} {ps : List Nat} (h : LvAt H0 G cell E am hs ps) (s : Same G G') (n : ∀ p, one E p e hs.length = []) : LvAt H0 G' cell E am (hs ++ [e]) ps := fun p hp => by
  obtain ⟨h1, us, h2, h3⟩ := h p hp
  refine ⟨h1, us, s _ _ h2, ?_⟩
  rw [lives_snoc, n, List.append_nil]
  exact Paired.mapP h3 fun _ _ z => lfSame s z
theorem lvSame {H0 G G' : Hp} {cell : Nat → Addr} {E : Nat → Int} {am : Nat → List Nat} {hs : List Ev} {ps : List Nat} (h : LvAt H0 G cell E am hs ps) (s : Same G G') : LvAt H0 G' cell E am hs ps := fun p hp => by
  obtain ⟨h1, us, h2, h3⟩ := h p hp
  exact ⟨h1, us, s _ _ h2, Paired.mapP h3 fun _ _ z => lfSame s z⟩
theorem lfUpdD {H : Hp} {D : Addr} {o : HO} {kvs : List (L2.Key × V)} {us : List V} {L : List Life} (hD : H D = some (.dK kvs)) (h : Paired (LfAt H) us L) : Paired (LfAt (upd H D o)) us L := Paired.mapP h fun v p z => by
  obtain ⟨t, h1, h2⟩ := z
  exact ⟨t, h1, by rw [upd_ne (fun z => by rw [z, hD] at h2; cases h2)]; exact h2⟩
/-- a dict is written: the lists stay -/
theorem lvUpdD {H0 G : Hp} {D : Addr} {o : HO} {kvs : List (L2.Key × V)} {cell : Nat → Addr} {E : Nat → Int} {am : Nat → List Nat} {hs : List Ev} {ps : List Nat} (hD : G D = some (.dK kvs)) (h : LvAt H0 G cell E am hs ps) : LvAt H0 (upd G D o) cell E am hs ps := fun p hp => by
  obtain ⟨h1, us, h2, h3⟩ := h p hp
  exact ⟨h1, us, by rw [upd_ne (fun z => by rw [z, hD] at h2; cases h2)]; exact h2, lfUpdD hD h3⟩
theorem lvPut {H0 G : Hp} {cell : Nat → Addr} {E : Nat → Int} {am : Nat → List Nat} {hs : List Ev} {ps : List Nat} {k q : Nat} {w : List Nat} {t : Addr} {us : List V} (h : LvAt H0 G cell E am hs ps) (inj : ∀ p ∈ ps, ∀ r ∈ ps, cell p = cell r → p = r) (hq : q ∈ ps) (hc : G (cell q) = some (.lst us))
    (ht : G t = some (.tup [.int (hs.length : Int), .int (E k), vS w])) : LvAt H0 (upd G (cell q) (.lst (us ++ [.ref t]))) cell E am (hs ++ [.chg k q w]) ps := fun p hp => by
  obtain ⟨h1, us', h2, h3⟩ := h p hp
  rw [lives_snoc]
  by_cases c : q = p
  · subst c
    rw [hc] at h2
    cases h2
    refine ⟨h1, _, upd_same, ?_⟩
    show Paired _ (us ++ [.ref t]) (((-1, -1, am q) :: lives E q hs) ++ (if q = q then [((hs.length : Int), E k, w)] else []))
    rw [if_pos rfl]
    exact paired_snoc (lfUpd hc h3) ⟨t, rfl, by rw [upd_ne (fun z => by rw [z, hc] at ht; cases ht)]; exact ht⟩
  · refine ⟨h1, us', by rw [upd_ne (fun z => c (inj q hq p hp z.symm))]; exact h2, ?_⟩
    show Paired _ us' ((-1, -1, am p) :: (lives E p hs ++ (if q = p then [((hs.length : Int), E k, w)] else [])))
    rw [if_neg c, List.append_nil]
    exact lfUpd hc h3
/-- the asks so far -/
def AsksAt (G : Hp) (kvs : List (L2.Key × V)) (h : List Ev) (i : Nat) : Prop := ∀ bg k pl, bg < i → h[bg]? = some (.ask k pl) → ∃ t, valV kvs (.inl (k : Int)) = some (.ref t) ∧ G t = some (.tup [vn bg, vn pl])
theorem asksSame {G G' : Hp} {kvs : List (L2.Key × V)} {h : List Ev} {i : Nat} (s : Same G G') (q : AsksAt G kvs h i) : AsksAt G' kvs h i := fun bg k pl h1 h2 => by
  obtain ⟨t, h3, h4⟩ := q bg k pl h1 h2
  exact ⟨t, h3, s _ _ h4⟩
theorem asksUpd {G : Hp} {b : Addr} {o o2 : HO} {kvs : List (L2.Key × V)} {h : List Ev} {i : Nat} (hb : G b = some o) (no : ∀ xs, o ≠ .tup xs) (q : AsksAt G kvs h i) : AsksAt (upd G b o2) kvs h i := fun bg k pl h1 h2 => by
  obtain ⟨t, h3, h4⟩ := q bg k pl h1 h2
  exact ⟨t, h3, by rw [upd_ne (fun z => by rw [z, hb] at h4; exact no _ (Option.some.inj h4))]; exact h4⟩
theorem asksStay {G : Hp} {kvs : List (L2.Key × V)} {h : List Ev} {i : Nat} {e : Ev} (hi : h[i]? = some e) (no : ∀ k p, e ≠ .ask k p) (q : AsksAt G kvs h i) : AsksAt G kvs h (i + 1) := fun bg k pl h1 h2 => by
  by_cases c : bg < i
  · exact q bg k pl c h2
  · have eb : bg = i := by omega
    subst eb
    rw [hi] at h2
    exact absurd (Option.some.inj h2) (no k pl)
/-- beyond a right answer all was right -/
theorem judged_many {fo : Fo} {am : Nat → List Nat} {ad : List Nat → List Nat → List Nat} {h : List Ev} {most : Nat} {res : Option Nat} (hh : Hist fo h) (hj : Judged fo am ad h most res) {i : Nat} (hg : ∀ j, j < i → Good fo am ad h most j) {k bg pl : Nat} {a : An} (ht : Told h i k bg pl a) :
    prodC (chosenL fo am h pl bg i) ≤ most ∧ (a ∉ allT ad (chosenL fo am h pl bg i) → res = some i) := by
  cases res with
  | none => exact ⟨(hj _ _ _ _ _ ht).1, fun z => absurd (hj _ _ _ _ _ ht).2 z⟩
  | some at_ =>
    obtain ⟨f1, k2, bg2, pl2, a2, t2, p2, n2⟩ := hj
    rcases Nat.lt_trichotomy i at_ with c | c | c
    · exact ⟨(f1 i c _ _ _ _ ht).1, fun z => absurd (f1 i c _ _ _ _ ht).2 z⟩
    · subst c
      have e1 := t2.1
      rw [ht.1] at e1
      cases e1
      have e2 := ask_once hh ht.2 t2.2
      subst e2
      have e3 := t2.2
      rw [ht.2] at e3
      cases e3
      exact ⟨p2, fun _ => rfl⟩
    · exact absurd (hg at_ c _ _ _ _ t2).2 n2
section
variable {P : Program} {w : World} {K : PySem.W.Frag} {mg : Str → Option Value} {base : Heap} {C : Addr}
/-- the first answer that is not possible -/
def spWrong (P : Program) (w : World) (K : PySem.W.Frag) (mg : Str → Option Value) (base : Heap) (C : Addr) : Sp := fun vs H Q _ => ∃ (a m g b : Addr) (fo : Fo) (ws : List (List Nat)) (am : Nat → List Nat) (ad : List Nat → List Nat → List Nat) (us : List V) (h : List Ev) (res : Option Nat) (most : Nat), vs = [.ref a, .ref m, .ref g, .ref b] ∧ FoAt C H a fo ∧ FoOk fo ∧
  H m = some (.tup (ws.map vS)) ∧ ws.length = fo.be.length ∧ (∀ i p : Nat, fo.be[i]? = some p → ws[i]? = some (am p)) ∧ Add P w K mg base g ad ∧ SeqH H b us ∧ EvsAt H us h ∧ h.length ≤ 200 ∧ Hist fo h ∧ Short am h ∧ most ≤ 2000 ∧ Judged fo am ad h most res ∧ ∀ H', Same H H' → Q (vp res) H'
def nWrong : List Str := ["forest", "amounts", "adding", "history", "ends", "place", "lives", "asks", "at", "event", "word", "k", "asked_at", "chosen", "amount", "i"]
theorem scWrong : FnScope nWrong ["forest", "amounts", "adding", "history"] (defScope sWrong) := ⟨rfl, rfl, rfl, by decide +kernel, rfl, by decide +kernel, by decide +kernel⟩
theorem dWrong (B : Defs K mg C) (ED : EndsD K w mg) : Def P w K mg base "wrong_answer" 6 ["forest", "amounts", "adding", "history"] (spWrong P w K mg base C) := by
  obtain ⟨fA, fdA, GA, gA, kA, bA⟩ := dIsAmt (P := P) (w := w) (base := base) B
  obtain ⟨fH, fdH, GH, gH, kH, bH⟩ := dIsHist (P := P) (w := w) (base := base) B ED
  obtain ⟨fE, fdE, GE, gE, kE, bE⟩ := dEndsOf (P := P) (w := w) (base := base) B ED
  obtain ⟨fC, fdC, GC, gC, kC, bC⟩ := dChoi (P := P) (w := w) (base := base) B
  obtain ⟨fW, fdW, GW, gW, kW, bW⟩ := dWayN (P := P) (w := w) (base := base) B
  obtain ⟨fO, fdO, GO, gO, kO, bO⟩ := dPoss (P := P) (w := w) (base := base) B
  have N := B.N
  have TT := B.T
  have nd := scWrong.nd
  refine def_of B.wra fun f fd F => ?_
  refine F.ok scWrong (fun vs H Q E h => ?_) (fun cdv A outer s H vs Q E hr h => ?_)
  · obtain ⟨a, m, g, b, fo, ws, am, ad, us, h, res, most, rfl, _⟩ := h
    rfl
  · obtain ⟨a, m, g, b, fo, ws, am, ad, us, h, res, most, rfl, hF, ok, hm, hwl, ham, hAd, hb, hE, hl, hh, sh, hmost, hres, k⟩ := h
    have hu : (A.deeper (envOfC "wrong_answer" (defScope sWrong) s.heap.objs.size f cdv)).units + 1 < cLine := by have := hr.units; omega
    refine ⟨_, pss_cons (ps_if (pt_not (pt_val (pe_call GA (hr.mono (by decide)) (by rfl) gA kA bA .nil pass0 (pa_cons (pv 0) (pa_cons (pv 1) pa_nil))))) (pss_one ps_never) pss_nil)
      (pss_cons (ps_if (pt_not (pt_val (pe_call GH hr (by rfl) gH kH bH .nil pass0 (pa_cons (pv 0) (pa_cons (pv 3) pa_nil))))) (pss_one ps_never) pss_nil)
      (pss_cons (ps_set (i := 4) nd rfl (Or.inl rfl) (pe_call GE (hr.mono (by decide)) (by rfl) gE kE bE .nil pass0 (pa_cons (pv 3) pa_nil)))
      (pss_cons (ps_set (i := 6) nd rfl (Or.inr rfl) (pe_dc (own := [("place", 5), ("amount", 14)]) (g := gTup K 2 (gCons (gName 5) (gCons (gName 14) gNil))) (tt := tYes) (tk := tVar 5) rfl nd (RZ.pi_zipA (by rfl) N.is.zip (pa_cons (pe_fld (pv 0) rfl) (pa_cons (pv 1) pa_nil)))
          (blkOk_by (N := nWrong) (sc := defScope sWrong) (by decide +kernel)) (fun _ _ _ _ _ => pg_tup rfl (pgs_cons (pg_name (i := 5) nd rfl (Or.inl rfl)) (pgs_cons (pg_name (i := 14) nd rfl (Or.inl rfl)) pgs_nil))) (fun _ _ _ _ _ => pts_nil) (fun _ _ _ _ _ => pv 5)
          (fun _ _ _ _ _ => pe_lst (pa_cons (pe_tup (pa_cons (pe_un un_neg pe_int) (pa_cons (pe_un un_neg pe_int) (pa_cons (pv 14) pa_nil)))) pa_nil))))
      (pss_cons (ps_set (i := 7) nd rfl (Or.inl rfl) pe_dnewK)
      (pss_cons (ps_for PassesOwn.never rfl (PI.orr (pi_enum (by rfl) N.enum (pa_cons (pv 3) pa_nil)) (pi_enumT (by rfl) N.enum (pa_cons (pv 3) pa_nil))) (pg_tup rfl (pgs_cons (pg_name (i := 8) nd rfl (Or.inl rfl)) (pgs_cons (pg_name (i := 9) nd rfl (Or.inl rfl)) pgs_nil)))
        (pss_cons (ps_par (i := 10) (j := 11) rfl nd rfl rfl (by decide) rfl rfl (pa_cons (pe_ix ix_tup (pv 9) pe_int (fun _ _ => rfl)) (pa_cons (pe_ix ix_tup (pv 9) pe_int (fun _ _ => rfl)) pa_nil)) rfl)
        (pss_cons (ps_if (pt_cmpR op_eq (pv 10) pe_str (nomark _))
          (pss_one (ps_expr (pe_bm PySem.F.plainAttrs_list PySem.F.slot_list_append PySem.F.type_list_append mt_append (pe_dget hu (pv 6) (pe_ix ix_tup (pv 9) pe_int (fun _ _ => rfl)) (fun _ _ => rfl))
            (pa_cons (pe_tup (pa_cons (pv 8) (pa_cons (pe_dget2 hu (pv 4) (pv 11) (pe_callB call_len_seq (by rfl) N.is.len PySem.boot_len (pa_cons (pv 3) pa_nil)) (by constructor <;> rfl)) (pa_cons (pe_ix ix_tup (pv 9) pe_int (fun _ _ => rfl)) pa_nil)))) pa_nil)))) pss_nil)
        (pss_cons (ps_if (pt_cmpR op_eq (pv 10) pe_str (nomark _))
          (pss_one (ps_dput hu (pv 7) (pv 11) (pe_tup (pa_cons (pv 8) (pa_cons (pe_ix ix_tup (pv 9) pe_int (fun _ _ => rfl)) pa_nil))) rfl)) pss_nil)
        (pss_one (ps_if (pt_cmpR op_eq (pv 10) pe_str (nomark _))
          (pss_cons (ps_asg (pe_dget hu (pv 7) (pv 11) (fun _ _ => rfl)) (pg_tup rfl (pgs_cons (pg_name (i := 12) nd rfl (Or.inr rfl)) (pgs_cons (pg_name (i := 5) nd rfl (Or.inl rfl)) pgs_nil))))
          (pss_cons (ps_setLc (i := 13) (own := [("i", 15)]) (g := gName 15) rfl nd rfl rfl (sw_true rfl rfl rfl (by decide +kernel)) (pi_tup (pe_call GW (hr.mono (by decide)) (by rfl) gW kW bW .nil pass0 (pa_cons (pv 0) (pa_cons (pv 5) pa_nil))))
            (blkOk_by (N := nWrong) (sc := defScope sWrong) (by decide +kernel)) (fun _ _ _ _ _ => pg_name (i := 15) nd rfl (Or.inl rfl)) (fun _ _ _ _ _ => pts_one (pt_cmp (pc_din hu (pv 15) (pv 6))))
            (fun _ _ _ _ _ => pe_call GC (hr.mono (by decide)) (by rfl) gC kC bC .nil pass0 (pa_cons (pe_dget hu (pv 6) (pv 15) (fun _ _ => rfl)) (pa_cons (pv 12) pa_nil))))
          (pss_one (ps_if (pt_not (pt_val (pe_call GO (hr.mono (by decide)) (by rfl) gO kO bO .nil pass0 (pa_cons (pv 2) (pa_cons (pv 13) (pa_cons (pe_ix ix_tup (pv 9) pe_int (fun _ _ => rfl)) pa_nil))))))
            (pss_one (ps_ret (pv 8))) pss_nil)))) pss_nil))))))
      (pss_one (ps_ret pe_non))))))), ?_⟩
    have ul : us.length = h.length := Paired.length hE
    obtain ⟨dx, ap, ab, aa, h0, h1, h2, h3⟩ := id hF
    refine ⟨_, rfl, _, rfl, a, m, fo, ws.map vS, rfl, hF, hm, by rw [List.length_map]; exact hwl, true, rfl, ?_⟩
    refine ifF (by decide) ?_
    refine ⟨_, rfl, _, rfl, a, b, fo, us, h, rfl, hF, hb, hE, hh, hl, fun H1 s1 => ⟨true, rfl, ?_⟩⟩
    refine ifF (by decide) ?_
    refine ⟨_, rfl, b, us, h, rfl, seqSame s1 hb, evsSame s1 hE, hl, fun En ke H2 s2 nEn hEn kel kev => ?_⟩
    have s02 := s1.trans s2
    refine ⟨_, rfl, a, C, dx, _, _, rfl, s02 _ _ h0, TT.cl, TT.nB, fB, _, rfl, ab, m, fo.be.map vn, ws.map vS, rfl, .inr ⟨tnL (s02 _ _ h2), .inl (.inl (s02 _ _ hm)), fun D nD => ?_⟩⟩
    refine anyWalk (walk_zipT (n := fo.be.length) (xs := fo.be.map vn) (ys := ws.map vS) (by rw [List.length_map, List.length_map, hwl, Nat.min_self])) (fun i G => Same H2 G ∧ ∃ (kvs : List (L2.Key × V)) (cell : Nat → Addr), G D = some (.dK kvs) ∧ kvs.length ≤ i ∧ (∀ p : Nat, valV kvs (.inl (p : Int)) = if p ∈ fo.be.take i then some (.ref (cell p)) else none) ∧ (∀ p ∈ fo.be.take i, ∀ r ∈ fo.be.take i, cell p = cell r → p = r) ∧ LvAt H2 G cell (endD h) am [] (fo.be.take i))
      ⟨smUpd nD, [], fun _ => D, upd_same, Nat.le_refl _, (fun p => by rw [List.take_zero]; rfl), (fun p hp => by rw [List.take_zero] at hp; cases hp), (fun p hp => by rw [List.take_zero] at hp; cases hp)⟩ (fun i G _ z => ⟨tnL (z.1 _ _ (s02 _ _ h2)), .inl (.inl (z.1 _ _ (s02 _ _ hm)))⟩) ?_ ?_
    · rintro i x G G2 hi ⟨sm, kvs, cell, hD, hkl, hkv, hinj, hL⟩ ⟨T, x1, y1, rfl, nT, rfl, e1, e2⟩
      obtain ⟨p, hp, rfl⟩ := vn_get (i := i) e1
      obtain ⟨w0, hw0, rfl⟩ := vS_get e2
      have ew : w0 = am p := by
        rw [ham i p hp] at hw0
        exact (Option.some.inj hw0).symm
      subst ew
      have T2 : Same G (upd G T (.tup [vn p, vS (am p)])) := smUpd nT
      have hT2 : upd G T (.tup [vn p, vS (am p)]) T = some (.tup [vn p, vS (am p)]) := upd_same
      generalize upd G T (.tup [vn p, vS (am p)]) = G2 at T2 hT2 ⊢
      refine ⟨T, _, rfl, .inl (.inl hT2), rfl, _, _, rfl, _, _, rfl, rfl, rfl, _, rfl, _, rfl, _, rfl, _, rfl, by show 3 ≤ sizeLine; decide, fun T0 nT0 => ⟨by show 1 ≤ sizeLine; decide, fun W nW => ?_⟩⟩
      have q0 := smUpd (o := .tup [.int (-1), .int (-1), vS (am p)]) nT0
      have hT0 : upd G2 T0 (.tup [.int (-1), .int (-1), vS (am p)]) T0 = some (.tup [.int (-1), .int (-1), vS (am p)]) := upd_same
      have q1 := smUpd (o := .lst [.ref T0]) nW
      have hW0 : upd (upd G2 T0 (.tup [.int (-1), .int (-1), vS (am p)])) W (.lst [.ref T0]) W = some (.lst [.ref T0]) := upd_same
      have hT1 := q1 _ _ hT0
      have nWG := nBack (T2.trans q0) nW
      have qq := T2.trans (q0.trans q1)
      generalize upd (upd G2 T0 (.tup [.int (-1), .int (-1), vS (am p)])) W (.lst [.ref T0]) = G4 at qq hW0 hT1 ⊢
      have hD4 := qq _ _ hD
      have hnp : p ∉ fo.be.take i := fun z => by
        obtain ⟨j, hj⟩ := List.getElem?_of_mem z
        have hji : j < i := by
          have := (List.getElem?_eq_some_iff.mp hj).1
          rw [List.length_take] at this
          omega
        rw [List.getElem?_take_of_lt hji] at hj
        have lj := (List.getElem?_eq_some_iff.mp hj)
        have li := (List.getElem?_eq_some_iff.mp hp)
        have := List.pairwise_iff_getElem.mp ok.be j i lj.1 li.1 hji
        rw [lj.2, li.2] at this
        omega
      have et : fo.be.take (i + 1) = fo.be.take i ++ [p] := by rw [List.take_add_one, hp]; rfl
      have cW : ∀ q ∈ fo.be.take i, cell q ≠ W := fun q hq z => by
        obtain ⟨_, us', h5, _⟩ := hL q hq
        rw [z, nWG] at h5
        cases h5
      have nWH := nBack sm nWG
      refine ⟨kvs, .inl (p : Int), rfl, hD4, bigLine (by have := lotLen ok.be ok.bl; have := ok.l1; have := (List.getElem?_eq_some_iff.mp hp).1; omega), smOver nD (sm.trans qq), putK kvs (.inl (p : Int)) (.ref W), fun q => if q = p then W else cell q, upd_same, Nat.le_trans putKLen (by omega), fun q => ?_, fun q hq r hr z => ?_, fun q hq => ?_⟩
      · rw [valV_put, et]
        by_cases c : q = p
        · subst c
          rw [if_pos rfl, if_pos (List.mem_append.mpr (.inr List.mem_cons_self))]
          show some (V.ref W) = some (V.ref (if q = q then W else cell q))
          rw [if_pos rfl]
        · rw [if_neg (fun z => c (by injection z with z; omega)), hkv q]
          by_cases c2 : q ∈ fo.be.take i
          · rw [if_pos c2, if_pos (List.mem_append.mpr (.inl c2))]
            show some (V.ref (cell q)) = some (V.ref (if q = p then W else cell q))
            rw [if_neg c]
          · rw [if_neg c2, if_neg (fun z => (List.mem_append.mp z).elim c2 fun y => c (List.mem_singleton.mp y))]
      · rw [et] at hq hr
        have z : (if q = p then W else cell q) = (if r = p then W else cell r) := z
        by_cases c : q = p
        · by_cases c2 : r = p
          · rw [c, c2]
          · rw [if_pos c, if_neg c2] at z
            exact absurd z.symm (cW r ((List.mem_append.mp hr).elim id fun y => absurd (List.mem_singleton.mp y) c2))
        · by_cases c2 : r = p
          · rw [if_neg c, if_pos c2] at z
            exact absurd z (cW q ((List.mem_append.mp hq).elim id fun y => absurd (List.mem_singleton.mp y) c))
          · rw [if_neg c, if_neg c2] at z
            exact hinj q ((List.mem_append.mp hq).elim id fun y => absurd (List.mem_singleton.mp y) c) r ((List.mem_append.mp hr).elim id fun y => absurd (List.mem_singleton.mp y) c2) z
      · show H2 (if q = p then W else cell q) = none ∧ ∃ us', upd G4 D _ (if q = p then W else cell q) = some (.lst us') ∧ _
        rw [et] at hq
        by_cases c : q = p
        · rw [if_pos c]
          refine ⟨nWH, [.ref T0], by rw [upd_ne (fun z => by rw [z, hD4] at hW0; cases hW0)]; exact hW0, lfUpdD hD4 ?_⟩
          rw [c]
          exact .cons ⟨T0, rfl, hT1⟩ .nil
        · rw [if_neg c]
          obtain ⟨h5, us', h6, h7⟩ := hL q ((List.mem_append.mp hq).elim id fun y => absurd (List.mem_singleton.mp y) c)
          exact ⟨h5, us', by rw [upd_ne (fun z => by rw [z, hD] at h6; cases h6)]; exact qq _ _ h6, lfUpdD hD4 (Paired.mapP h7 fun _ _ z => lfSame qq z)⟩
    rintro G0 ⟨sm0, kvs, cell, hD, hkl, hkv, hinj, hL⟩
    rw [List.take_length] at hkv hinj hL
    refine fun Ak nA => ?_
    have sA : Same G0 (upd G0 Ak (.dK [])) := smUpd nA
    have hA0 : upd G0 Ak (.dK []) Ak = some (.dK []) := upd_same
    have nAH := nBack sm0 nA
    generalize upd G0 Ak (.dK []) = Ga at sA hA0 ⊢
    have hDa := sA _ _ hD
    have hLa := lvSame hL sA
    have sma := sm0.trans sA
    show _ ∨ _
    refine seqEnum rfl (seqSame s02 hb) sma fun J wk => ?_
    refine for_it wk (fun i σ G => Same H2 G ∧ (∃ t5 t8 t9 t10 t11 t12 t13 : Option V, σ = [some (.ref a), some (.ref m), some (.ref g), some (.ref b), some (.ref En), t5, some (.ref D), some (.ref Ak), t8, t9, t10, t11, t12, t13, none, none]) ∧ G D = some (.dK kvs) ∧ LvAt H2 G cell (endD h) am (h.take i) fo.be ∧ (∃ kvA : List (L2.Key × V), G Ak = some (.dK kvA) ∧ kvA.length ≤ i ∧ AsksAt G kvA h i) ∧ ∀ j, j < i → Good fo am ad h most j)
      ⟨sma, ⟨_, _, _, _, _, _, _, rfl⟩, hDa, hLa, ⟨[], hA0, Nat.le_refl _, fun bg k pl z => absurd z (Nat.not_lt_zero _)⟩, fun j z => absurd z (Nat.not_lt_zero _)⟩ (fun i σ G _ z => z.1) ?_ ?_
    · rintro i x σ G G2 hi ⟨sm, ⟨t5, t8, t9, t10, t11, t12, t13, rfl⟩, hDG, hLG, ⟨kvA, hAG, hAl, hAs⟩, hg⟩ ⟨T, x1, y1, rfl, nT, rfl, e1, e2⟩
      cases e1
      obtain ⟨e, he, t, rfl, ht⟩ := pairedGetQ (evsSame s02 hE) e2
      have hi : i < h.length := by omega
      have sT := sm.trans (smUpd (o := .tup [.int ((i : Nat) : Int), .ref t]) nT)
      have T2 : Same G (upd G T (.tup [.int ((i : Nat) : Int), .ref t])) := smUpd nT
      have hT2 : upd G T (.tup [.int ((i : Nat) : Int), .ref t]) T = some (.tup [.int ((i : Nat) : Int), .ref t]) := upd_same
      generalize upd G T (.tup [.int ((i : Nat) : Int), .ref t]) = G2 at sT T2 hT2 ⊢
      have hD2 := T2 _ _ hDG
      have hA2 := T2 _ _ hAG
      have hL2 := lvSame hLG T2
      have hAs2 := asksSame T2 hAs
      have htl : ∀ {J : Hp}, Same G2 J → SqT K J t (evV e) := fun z => .inl (.inl (z _ _ (sT _ _ ht)))
      have et : h.take (i + 1) = h.take i ++ [e] := by rw [List.take_add_one, he]; rfl
      have tl' : (h.take i).length = i := by rw [List.length_take]; omega
      have w0 : (evV e)[0]? = some (.str e.word) := by cases e <;> rfl
      have w1 : (evV e)[1]? = some (vn e.key) := by cases e <;> rfl
      have wd : atI (evV e) (0 : Int) = some (.str e.word) := at0' w0
      have kd : atI (evV e) (1 : Int) = some (vn e.key) := by
        have : atI (evV e) ((1 : Nat) : Int) = some (vn e.key) := atI_nat w1
        exact this
      refine ⟨T, _, rfl, .inl (.inl hT2), rfl, _, _, rfl, _, _, rfl, rfl, ?_⟩
      refine ⟨_, rfl, t, _, (0 : Int), _, rfl, rfl, htl (Same.refl _), wd, _, rfl, t, _, (1 : Int), _, rfl, rfl, htl (Same.refl _), kd, _, _, rfl, ?_⟩
      have other : (∀ k a, e ≠ .tld k a) → ∀ j, j < i + 1 → Good fo am ad h most j := fun z j hj => by
        by_cases c : j < i
        · exact hg j c
        · have ej : j = i := by omega
          subst ej
          intro k bg pl a ht2
          have h1 := ht2.1
          rw [he] at h1
          exact absurd (Option.some.inj h1) (z k a)
      cases e with
      | chg ky q w =>
        have hq : q ∈ fo.be := hh.pl _ (List.mem_of_getElem? he)
        have two : atI (evV (.chg ky q w)) (2 : Int) = some (vn q) := by
          have : atI (evV (.chg ky q w)) ((2 : Nat) : Int) = some (vn q) := atI_nat rfl
          exact this
        have three : atI (evV (.chg ky q w)) (3 : Int) = some (vS w) := by
          have : atI (evV (.chg ky q w)) ((3 : Nat) : Int) = some (vS w) := atI_nat rfl
          exact this
        obtain ⟨nC, cu, hC, hP⟩ := hL2 q hq
        have hkq : valV kvs (.inl (q : Int)) = some (.ref (cell q)) := by rw [hkv q, if_pos hq]
        have ev : ((endsOf h ky).map vn).getD (.int ((us.length : Nat) : Int)) = .int (endD h ky) := by
          rw [← end_same hh he, ul]
          cases endsOf h ky <;> rfl
        refine ⟨_, rfl, rfl, _, rfl, ?_⟩
        refine ifT (by show decide (V.str (Str.ofString "change") = V.str (Str.ofString "change")) = true; decide +kernel) ?_
        refine ⟨_, rfl, _, rfl, t, _, (2 : Int), _, rfl, rfl, htl (Same.refl _), two, D, _, rfl, .inl ⟨kvs, .inl (q : Int), .inl hD2, rfl, hkq.symm⟩, .inl ⟨rfl, _, .inl (.inl hC)⟩, ?_⟩
        refine ⟨_, rfl, _, rfl, En, rfl, .inl ⟨ke, .inl (sT _ _ hEn)⟩, _, rfl, _, rfl, b, _, rfl, seqSq (seqSame (s02.trans sT) hb), (endsOf h ky).map vn, .inl ⟨ke, .inl (ky : Int), .inl (sT _ _ hEn), rfl, (kev ky).symm⟩, _, rfl, t, _, (3 : Int), _, rfl, rfl, htl (Same.refl _), three, by show 3 ≤ sizeLine; decide, fun T3 nT3 => ?_⟩
        rw [ev]
        have s3 := smUpd (o := .tup [.int ((i : Nat) : Int), .int (endD h ky), vS w]) nT3
        have hC3 := s3 _ _ hC
        have hT3 : upd G2 T3 (.tup [.int ((i : Nat) : Int), .int (endD h ky), vS w]) T3 = some (.tup [.int ((i : Nat) : Int), .int (endD h ky), vS w]) := upd_same
        have hL3 := lvSame hL2 s3
        have hD3 := s3 _ _ hD2
        have hA3 := s3 _ _ hA2
        have hAs3 := asksSame s3 hAs2
        have g3 := sT.trans s3
        generalize upd G2 T3 (.tup [.int ((i : Nat) : Int), .int (endD h ky), vS w]) = G3 at s3 hC3 hT3 hL3 hD3 hA3 hAs3 g3 ⊢
        have lc : cu.length ≤ 300 := by
          have h1 := Paired.length hP
          have h2 := lives_len (E := endD h) (p := q) (h.take i)
          rw [List.length_cons] at h1
          omega
        refine ⟨cell q, cu, .ref T3, rfl, rfl, hC3, small1000 (by omega), ?_⟩
        refine ⟨_, rfl, rfl, _, rfl, ?_⟩
        refine ifF (by show ¬ decide (V.str (Str.ofString "change") = V.str (Str.ofString "ask")) = true; decide +kernel) ?_ 
        refine ⟨_, rfl, rfl, _, rfl, ?_⟩
        refine ifF (by show ¬ decide (V.str (Str.ofString "change") = V.str (Str.ofString "told")) = true; decide +kernel) ?_
        refine ⟨smOver nC g3, ⟨_, _, _, _, _, _, _, rfl⟩, by rw [upd_ne (fun z => by rw [z, hC3] at hD3; cases hD3)]; exact hD3, ?_, ⟨kvA, by rw [upd_ne (fun z => by rw [z, hC3] at hA3; cases hA3)]; exact hA3, Nat.le_succ_of_le hAl, asksStay he (fun _ _ z => by cases z) (asksUpd hC3 (fun _ z => by cases z) hAs3)⟩, other fun k a z => by cases z⟩
        rw [et]
        exact lvPut hL3 hinj hq hC3 (by rw [tl']; exact hT3)
      | ask ky q =>
        have two : atI (evV (.ask ky q)) (2 : Int) = some (vn q) := by
          have : atI (evV (.ask ky q)) ((2 : Nat) : Int) = some (vn q) := atI_nat rfl
          exact this
        refine ⟨_, rfl, rfl, _, rfl, ?_⟩
        refine ifF (by show ¬ decide (V.str (Str.ofString "ask") = V.str (Str.ofString "change")) = true; decide +kernel) ?_
        refine ⟨_, rfl, rfl, _, rfl, ?_⟩
        refine ifT (by show decide (V.str (Str.ofString "ask") = V.str (Str.ofString "ask")) = true; decide +kernel) ?_
        refine ⟨_, rfl, _, rfl, t, _, (2 : Int), _, rfl, rfl, htl (Same.refl _), two, by show 2 ≤ sizeLine; decide, fun T3 nT3 => ?_⟩
        have s3 := smUpd (o := .tup [.int ((i : Nat) : Int), vn q]) nT3
        have hT3 : upd G2 T3 (.tup [.int ((i : Nat) : Int), vn q]) T3 = some (.tup [.int ((i : Nat) : Int), vn q]) := upd_same
        have hL3 := lvSame hL2 s3
        have hD3 := s3 _ _ hD2
        have hA3 := s3 _ _ hA2
        have hAs3 := asksSame s3 hAs2
        have g3 := sT.trans s3
        generalize upd G2 T3 (.tup [.int ((i : Nat) : Int), vn q]) = G3 at s3 hT3 hL3 hD3 hA3 hAs3 g3 ⊢
        refine ⟨_, rfl, _, rfl, Ak, _, rfl, DPut.k (k := .inl (ky : Int)) hA3 (bigLine (by omega)), ?_⟩
        refine ⟨_, rfl, rfl, _, rfl, ?_⟩
        refine ifF (by show ¬ decide (V.str (Str.ofString "ask") = V.str (Str.ofString "told")) = true; decide +kernel) ?_
        have neD : D ≠ Ak := fun z => by rw [z] at hD; rw [hD] at nA; cases nA
        refine ⟨smOver nAH g3, ⟨_, _, _, _, _, _, _, rfl⟩, by rw [upd_ne neD]; exact hD3, ?_, ⟨_, upd_same, Nat.le_trans putKLen (by omega), fun bg k2 pl hb2 hk2 => ?_⟩, other fun k a z => by cases z⟩
        · rw [et]
          exact lvUpdD hA3 (lvStay hL3 (Same.refl _) fun p => rfl)
        · rw [valV_put]
          by_cases c : bg < i
          · obtain ⟨t2, h5, h6⟩ := hAs3 bg k2 pl c hk2
            have nk : k2 ≠ ky := fun z => by
              rw [z] at hk2
              have := ask_once hh hk2 he
              omega
            refine ⟨t2, ?_, by rw [upd_ne (fun z => by rw [z, hA3] at h6; cases h6)]; exact h6⟩
            rw [if_neg (fun z => nk (by injection z with z; omega))]
            exact h5
          · have eb : bg = i := by omega
            subst eb
            rw [he] at hk2
            cases hk2
            exact ⟨T3, by rw [if_pos rfl], by rw [upd_ne (fun z => by rw [z, hA3] at hT3; cases hT3)]; exact hT3⟩
      | don ky =>
        refine ⟨_, rfl, rfl, _, rfl, ?_⟩
        refine ifF (by show ¬ decide (V.str (Str.ofString "done") = V.str (Str.ofString "change")) = true; decide +kernel) ?_
        refine ⟨_, rfl, rfl, _, rfl, ?_⟩
        refine ifF (by show ¬ decide (V.str (Str.ofString "done") = V.str (Str.ofString "ask")) = true; decide +kernel) ?_
        refine ⟨_, rfl, rfl, _, rfl, ?_⟩
        refine ifF (by show ¬ decide (V.str (Str.ofString "done") = V.str (Str.ofString "told")) = true; decide +kernel) ?_
        exact ⟨sT, ⟨_, _, _, _, _, _, _, rfl⟩, hD2, by rw [et]; exact lvStay hL2 (Same.refl _) fun p => rfl, ⟨kvA, hA2, Nat.le_succ_of_le hAl, asksStay he (fun _ _ z => by cases z) hAs2⟩, other fun k a z => by cases z⟩
      | tld ky an =>
        obtain ⟨bg, pl, hbi, hbg, hpa⟩ := told_ask hh he
        have hpl := ok.al pl hpa
        have hil : i ≤ h.length := Nat.le_of_lt hi
        obtain ⟨c1, c2⟩ := chosen_ok (am := am) hh sh ok hpl (Nat.le_of_lt hbi) hil
        obtain ⟨j1, j2⟩ := judged_many hh hres hg ⟨he, hbg⟩
        obtain ⟨ta, hka, hta⟩ := hAs2 bg ky pl hbi hbg
        have two : atI (evV (.tld ky an)) (2 : Int) = some (vAn an) := by
          have : atI (evV (.tld ky an)) ((2 : Nat) : Int) = some (vAn an) := atI_nat rfl
          exact this
        refine ⟨_, rfl, rfl, _, rfl, ?_⟩
        refine ifF (by show ¬ decide (V.str (Str.ofString "told") = V.str (Str.ofString "change")) = true; decide +kernel) ?_
        refine ⟨_, rfl, rfl, _, rfl, ?_⟩
        refine ifF (by show ¬ decide (V.str (Str.ofString "told") = V.str (Str.ofString "ask")) = true; decide +kernel) ?_
        refine ⟨_, rfl, rfl, _, rfl, ?_⟩
        refine ifT (by show decide (V.str (Str.ofString "told") = V.str (Str.ofString "told")) = true; decide +kernel) ?_
        refine ⟨_, rfl, _, rfl, Ak, _, rfl, .inl ⟨kvA, .inl (ky : Int), .inl hA2, rfl, hka.symm⟩, ?_⟩
        refine ⟨ta, _, rfl, .inl (.inl hta), rfl, _, _, rfl, _, _, rfl, rfl, ?_⟩
        refine ⟨_, rfl, _, rfl, a, fo, pl, rfl, foAt_same (s02.trans sT) hF, ok.ps, ok.l1, hpl, fun y G3 s3 hy => ⟨y, rfl, ⟨_, tnL hy⟩, fun W nW => ?_⟩⟩
        have hL3 := lvSame hL2 s3
        have hD3 := s3 _ _ hD2
        have nWH := nBack (sT.trans s3) nW
        refine anyWalk (walk_tup (xs := (road fo.ps pl).map vn)) (fun j J => Same G3 J ∧ ∃ cu : List V, J W = some (.lst cu) ∧ (∀ v ∈ cu, v ≠ V.ref W) ∧ cu.length ≤ j ∧ Paired (LsAt J) cu ((((road fo.ps pl).take j).filter fun p => decide (p ∈ fo.be)).map fun p => choL ((-1, -1, am p) :: lives (endD h) p (h.take i)) (bg : Int)))
          ⟨smUpd nW, [], upd_same, (fun v hv => nomatch hv), Nat.le_refl _, .nil⟩ (fun j J _ z => tnL (z.1 _ _ hy)) ?_ ?_
        · rintro j x J J' hj ⟨sj, cu, hW, hn, hcl, hP⟩ ⟨rfl, hx⟩
          obtain ⟨q, hq, rfl⟩ := vn_get hx
          have rl : (road fo.ps pl).length ≤ 60 := by
            have := road_len ok.ps pl hpl
            have := ok.l1
            omega
          rw [List.length_map] at hj
          have eq1 : ((road fo.ps pl).take (j + 1)).filter (fun p => decide (p ∈ fo.be)) = ((road fo.ps pl).take j).filter (fun p => decide (p ∈ fo.be)) ++ if decide (q ∈ fo.be) = true then [q] else [] := by
            rw [List.take_add_one, hq]
            show (((road fo.ps pl).take j) ++ [q]).filter _ = _
            rw [List.filter_append, List.filter_cons, List.filter_nil]
          refine ⟨rfl, _, rfl, _, rfl, D, _, rfl, .inl ⟨kvs, .inl (q : Int), .inl (sj _ _ hD3), rfl, (hkv q).symm⟩, _, rfl, ?_⟩
          by_cases c : q ∈ fo.be
          · rw [if_pos c]
            refine ifT rfl ?_
            obtain ⟨nC, cq, hC, hPq⟩ := hL3 q c
            have lq : ((-1, -1, am q) :: lives (endD h) q (h.take i)).length ≤ 300 := by
              have h2 := lives_len (E := endD h) (p := q) (h.take i)
              rw [List.length_cons]
              omega
            refine ⟨_, rfl, _, rfl, D, _, rfl, .inl ⟨kvs, .inl (q : Int), .inl (sj _ _ hD3), rfl, by rw [hkv q, if_pos c]⟩, _, rfl, cell q, (bg : Int), cq, _, rfl, sj _ _ hC, Paired.mapP hPq fun _ _ z => lfSame sj z, lq, fun r2 J5 s5 n5 hr2 => ?_⟩
            have hW5 := s5 _ _ hW
            have ne : r2 ≠ W := fun z => by rw [z, hW] at n5; cases n5
            refine ⟨cu, hW5, small1000 (by omega), smOver nW (sj.trans s5), cu ++ [.ref r2], upd_same, fun v hv => ?_, by rw [List.length_append]; show cu.length + 1 ≤ j + 1; omega, ?_⟩
            · rcases List.mem_append.mp hv with hv | hv
              · exact hn v hv
              · rw [List.mem_singleton.mp hv]; exact fun z => ne (V.ref.inj z)
            rw [eq1, if_pos (decide_eq_true c), List.map_append]
            exact ls_snoc (lsUpd hn (Paired.mapP hP fun _ _ z => lsSame s5 z)) (by rw [upd_ne ne]; exact hr2)
          · rw [if_neg c]
            refine ifF (by decide) ?_
            refine ⟨sj, cu, hW, hn, Nat.le_succ_of_le hcl, ?_⟩
            rw [eq1, if_neg (by rw [decide_eq_true_iff]; exact c), List.append_nil]
            exact hP
        rintro J ⟨sj, cu, hW, hn, hcl, hP⟩
        rw [List.length_map, List.take_length] at hP
        have eqC : (((road fo.ps pl).filter fun p => decide (p ∈ fo.be)).map fun p => choL ((-1, -1, am p) :: lives (endD h) p (h.take i)) (bg : Int)) = chosenL fo am h pl bg i := by
          unfold chosenL
          exact List.map_congr_left fun p _ => (may_eq hil (Nat.le_of_lt hbi) fun i k q w hi => end_behind hh hi).symm
        rw [eqC] at hP
        have s2J := s3.trans sj
        refine ⟨_, rfl, _, rfl, _, rfl, t, _, (2 : Int), _, rfl, rfl, htl s2J, two, g, W, ad, an, cu, _, rfl, hAd, hW, hP, c1, Nat.le_trans j1 hmost, c2, fun J6 s6 => ⟨_, rfl, ?_⟩⟩
        have s26 := s2J.trans s6
        by_cases ca : an ∈ allT ad (chosenL fo am h pl bg i)
        · refine ifF (by rw [decide_eq_true ca]; decide) ?_
          refine ⟨sT.trans s26, ⟨_, _, _, _, _, _, _, rfl⟩, s26 _ _ hD2, by rw [et]; exact lvStay hL2 s26 fun p => rfl, ⟨kvA, s26 _ _ hA2, Nat.le_succ_of_le hAl, asksSame s26 (asksStay he (fun _ _ z => by cases z) hAs2)⟩, fun j hj => ?_⟩
          by_cases cj : j < i
          · exact hg j cj
          · have ej : j = i := by omega
            subst ej
            intro k2 bg2 pl2 a2 ht2
            have h1 := ht2.1
            rw [he] at h1
            cases h1
            have eb := ask_once hh hbg ht2.2
            subst eb
            have h2 := ht2.2
            rw [hbg] at h2
            cases h2
            exact ⟨j1, ca⟩
        · refine ifT (by rw [decide_eq_false ca]; rfl) ?_
          have er := j2 ca
          subst er
          exact ⟨_, rfl, k _ (s02.trans (sT.trans s26))⟩
    · rintro σ G ⟨sm, _, _, _, _, hg⟩
      have all : ∀ j, Good fo am ad h most j := fun j => by
        by_cases c : j < us.length
        · exact hg j c
        · intro k2 bg pl a ht2
          have := (List.getElem?_eq_some_iff.mp ht2.1).1
          omega
      cases res with
      | none => exact k _ (s02.trans sm)
      | some at_ =>
        obtain ⟨_, k2, bg2, pl2, a2, t2, p2, n2⟩ := hres
        exact absurd (all at_ _ _ _ _ t2).2 n2
end
end Cn
namespace Cn
open PySem PySem.Spec PyProof.Rows L2 Ck
/-! deeds that go on by one note at each turn -/
inductive Deed (α : Type) where
  | chg (p : Nat) (a : α)
  | ask (p : Nat)
inductive EvG (α : Type) where
  | chg (k p : Nat) (a : α)
  | ask (k p : Nat)
  | don (k : Nat)
  | tld (k : Nat) (a : Option α)
/-- the notes: a place, what it holds, what it is read by -/
abbrev NtL := List (Nat × (List Nat × List Nat))
def holdsN (nt : NtL) (p : Nat) : List Nat := (nt.filter fun e => decide (p ∈ e.2.1)).map fun e => e.1
def readsN (nt : NtL) (q : Nat) : List Nat := (nt.filter fun e => decide (q ∈ e.2.2)).map fun e => e.1
def placesN (nt : NtL) (s : Nat) : List Nat := match nt.find? fun e => e.1 == s with
  | some e => e.2.1
  | none => []
theorem placesN_of {nt : NtL} (nd : (nt.map fun e => e.1).Nodup) {e : Nat × (List Nat × List Nat)} (he : e ∈ nt) : placesN nt e.1 = e.2.1 := by
  unfold placesN
  induction nt with
  | nil => cases he
  | cons x nt ih =>
    have nd' := List.nodup_cons.mp nd
    rw [List.find?_cons]
    by_cases c : x.1 = e.1
    · rw [show (x.1 == e.1) = true from beq_iff_eq.mpr c]
      rcases List.mem_cons.mp he with rfl | h
      · rfl
      · exact absurd (by show x.1 ∈ _; rw [c]; exact List.mem_map.mpr ⟨e, h, rfl⟩) nd'.1
    · rw [show (x.1 == e.1) = false from by rw [← Bool.not_eq_true]; exact fun z => c (beq_iff_eq.mp z)]
      rcases List.mem_cons.mp he with rfl | h
      · exact absurd rfl c
      · exact ih nd'.2 h
theorem holds_mem {nt : NtL} (nd : (nt.map fun e => e.1).Nodup) {s p : Nat} : s ∈ holdsN nt p ↔ s ∈ nt.map (fun e => e.1) ∧ p ∈ placesN nt s := by
  unfold holdsN
  constructor
  · intro h
    obtain ⟨e, he, rfl⟩ := List.mem_map.mp h
    obtain ⟨h1, h2⟩ := List.mem_filter.mp he
    exact ⟨List.mem_map.mpr ⟨e, h1, rfl⟩, by rw [placesN_of nd h1]; exact of_decide_eq_true h2⟩
  · rintro ⟨h1, h2⟩
    obtain ⟨e, he, rfl⟩ := List.mem_map.mp h1
    rw [placesN_of nd he] at h2
    exact List.mem_map.mpr ⟨e, List.mem_filter.mpr ⟨he, decide_eq_true h2⟩, rfl⟩
theorem reads_sub {nt : NtL} {s q : Nat} (h : s ∈ readsN nt q) : s ∈ nt.map fun e => e.1 := by
  obtain ⟨e, he, rfl⟩ := List.mem_map.mp h
  exact List.mem_map.mpr ⟨e, (List.mem_filter.mp he).1, rfl⟩
section
variable {α : Type}
/-- what things come to, none for none -/
def togG (ad : α → α → α) : List α → Option α
  | [] => none
  | x :: xs => some (xs.foldl ad x)
/-- what the places of a note hold together -/
def sumP (ad : α → α → α) (am : Nat → α) : List Nat → α
  | [] => am 0
  | p :: ps => (ps.map am).foldl ad (am p)
theorem tog_sum {ad : α → α → α} {am : Nat → α} {ps : List Nat} (h : ps ≠ []) : togG ad (ps.map am) = some (sumP ad am ps) := by
  cases ps with
  | nil => exact absurd rfl h
  | cons p ps => rfl
structure Lm (α : Type) where
  am : Nat → α
  sm : Nat → α
  hd : Nat → Option (List Nat)
  rd : Nat → List α
  ev : List (EvG α)
def begL (nt : NtL) (st : Lm α) (k : Nat) : Deed α → Lm α
  | .chg p a => { st with am := fun i => if i = p then a else st.am i, hd := fun i => if i = k then some (holdsN nt p).reverse else st.hd i, ev := st.ev ++ [.chg k p a] }
  | .ask p => { st with hd := fun i => if i = k then some (readsN nt p) else st.hd i, rd := fun i => if i = k then [] else st.rd i, ev := st.ev ++ [.ask k p] }
def goL (ad : α → α → α) (nt : NtL) (st : Lm α) (k : Nat) (d : Deed α) : Lm α := match st.hd k with
  | some (s :: r) => (match d with
    | .chg _ _ => { st with hd := fun i => if i = k then some r else st.hd i, sm := fun i => if i = s then sumP ad st.am (placesN nt s) else st.sm i }
    | .ask _ => { st with hd := fun i => if i = k then some r else st.hd i, rd := fun i => if i = k then st.rd k ++ [st.sm s] else st.rd i })
  | _ => st
def endL (ad : α → α → α) (st : Lm α) (k : Nat) (d : Deed α) : Lm α := match st.hd k with
  | some [] => (match d with
    | .chg _ _ => { st with ev := st.ev ++ [.don k] }
    | .ask _ => { st with ev := st.ev ++ [.tld k (togG ad (st.rd k))] })
  | _ => st
def turnL (ad : α → α → α) (nt : NtL) (st : Lm α) (k : Nat) (d : Deed α) : Lm α := match st.hd k with
  | none => endL ad (goL ad nt (begL nt st k d) k d) k d
  | some [] => st
  | some (_ :: _) => endL ad (goL ad nt st k d) k d
def lm0 (ad : α → α → α) (nt : NtL) (am : Nat → α) : Lm α := ⟨am, fun s => sumP ad am (placesN nt s), fun _ => none, fun _ => [], []⟩
def stepW (ad : α → α → α) (nt : NtL) (ds : List (Deed α)) (st : Lm α) (k : Nat) : Lm α := match ds[k]? with
  | some d => turnL ad nt st k d
  | none => st
/-- all turns, one behind another -/
def weaveL (ad : α → α → α) (nt : NtL) (ds : List (Deed α)) (st : Lm α) (ts : List Nat) : Lm α := ts.foldl (stepW ad nt ds) st
theorem weave_cons (ad : α → α → α) (nt : NtL) (ds : List (Deed α)) (st : Lm α) (k : Nat) (ts : List Nat) : weaveL ad nt ds st (k :: ts) = weaveL ad nt ds (stepW ad nt ds st k) ts := rfl
theorem weave_snoc (ad : α → α → α) (nt : NtL) (ds : List (Deed α)) (st : Lm α) (ts : List Nat) (k : Nat) : weaveL ad nt ds st (ts ++ [k]) = stepW ad nt ds (weaveL ad nt ds st ts) k := by
  unfold weaveL
  rw [List.foldl_append]
  rfl
theorem stepW_of {ad : α → α → α} {nt : NtL} {ds : List (Deed α)} {st : Lm α} {k : Nat} {d : Deed α} (h : ds[k]? = some d) : stepW ad nt ds st k = turnL ad nt st k d := by
  unfold stepW
  rw [h]
end
end Cn
namespace RT
open PySem PySem.Spec PyProof.Rows L2
/-! list(reversed(a list)) -/
section
variable {prog : Program} {w : World} {A : Around} {E : Value → Shared → Prop} {s : Shared}
theorem extend_rev {R : Result → Shared → Prop} {it l : Addr} {items : Array Value} (hh : A.handled = none) (hit : s.heap.IsRevIter it l ((items.size : Int) - 1)) (hl : s.heap.IsList l items) (hne : l ≠ it) (hn : items.size ≤ sizeLine) (S : Addr) (hSi : S ≠ it) (hSl : S ≠ l) (res : Value) (c₀ : Nat) (hS : s.heap.get? S = some { cls := .type "list", data := .seq #[] c₀ })
    (hR : ∀ h' tk acc' c', (∀ b o, b ≠ S → b ≠ it → s.heap.get? b = some o → h'.get? b = some o) → h'.get? S = some { cls := .type "list", dict := none, data := .seq acc' c', slots := #[] } → ItemsOf (fun i v => items[items.size - 1 - i]? = some v) acc' items.size → R (.ok (.ret res)) { s with heap := h', toks := tk }) :
    wpAny (model prog w) A.in1 (Builtin.List.listExtendWith (.ref S) (.ref it) res)
      (fun fin s' => match fin with | .done f => R (.ok f) s' | .again c' => c'.quiet = true ∧ codeAny (model prog w) A c' R s') (fun e s' => R (.error e) s') s := by
  have W := (Walks.listRev (prog := prog) (w := w) (A := A.in1) hh it l hne items).toS
  have hSf : S ∉ [it, l] := by simp only [List.mem_cons, List.not_mem_nil, or_false, not_or]; exact ⟨hSi, hSl⟩
  have hT : s.TypeIs (.ref it) "list_reverseiterator" := hit.typeIs
  have h1 : Builtin.List.listSameRef (.ref S) (.ref it) = false := by simp [Builtin.List.listSameRef, hSi]
  unfold Builtin.List.listExtendWith
  refine wpAny_bind (wpAny_typeOf hT ?_)
  rw [if_neg (by rw [h1]; decide)]
  refine wpAny_bind (wpAny_pyIter_revIter hit ?_)
  refine wpAny_bind (wpAny_holding ?_)
  unfold Builtin.List.listLengthHint
  refine wpAny_bind (wpAny_specialOf hT nolen_lri ?_)
  show wpAny _ A.in1 (specialOf (Value.ref it) (Str.ofString "__length_hint__") >>= _) _ _ _
  refine wpAny_bind (wpAny_specialOf hT hint_lri ?_)
  generalize hid : ("list_reverseiterator.__length_hint__" : String) = id0
  wp_delta
  rw [show splitId id0 = some ("list_reverseiterator", "__length_hint__") from by subst hid; decide +kernel]
  subst hid
  refine wpAny_bind (wpAny_isInstance (b := true) hT (by rw [isSubtype_type]; kernel_rfl) ?_)
  refine wpAny_pure ?_
  rw [if_neg (by decide)]
  have e0 : ((items.size : Nat) : Int) - 1 - ((0 : Nat) : Int) = (items.size : Int) - 1 := by omega
  refine wpAny_pure ⟨plainId_quiet F.plain_extend_loop _, codeAny_extend_loopS W hn _ hSf _ items.size 0 _ _ _ rfl (Nat.zero_le _) ⟨Nat.zero_le _, by rw [e0]; exact hit, hl⟩ hS (ItemsOf.nil _) fun s' acc' c' hm hS' hacc => ?_⟩
  rw [Moved.eq_with hm]
  refine hR s'.heap s'.toks acc' c' (fun b o hb hb2 e => hm.heap b o (fun hmem => ?_) e) hS' hacc
  rcases List.mem_cons.mp hmem with e' | hmem
  · exact hb e'
  · exact hb2 (List.mem_singleton.mp hmem)
theorem list_init_rev {R : Result → Shared → Prop} {it l : Addr} {items : Array Value} (hh : A.handled = none) (hit : s.heap.IsRevIter it l ((items.size : Int) - 1)) (hl : s.heap.IsList l items) (hne : l ≠ it) (hn : items.size ≤ sizeLine) (S : Addr) (hSi : S ≠ it) (hSl : S ≠ l) (hS : s.heap.get? S = some { cls := .type "list", data := .seq #[] })
    (hR : ∀ h' tk acc' c', (∀ b o, b ≠ S → b ≠ it → s.heap.get? b = some o → h'.get? b = some o) → h'.get? S = some { cls := .type "list", dict := none, data := .seq acc' c', slots := #[] } → ItemsOf (fun i v => items[items.size - 1 - i]? = some v) acc' items.size → R (.ok (.ret .none)) { s with heap := h', toks := tk }) :
    wpAny (model prog w) A.in1 (Builtin.«list.__init__» ⟨[.ref S, .ref it], []⟩)
      (fun fin s' => match fin with | .done f => R (.ok f) s' | .again c' => c'.quiet = true ∧ codeAny (model prog w) A c' R s') (fun e s' => R (.error e) s') s := by
  show wpAny _ _ (do let old ← Builtin.List.listItems (.ref S); Builtin.List.listUpdate (.ref S) (fun _ => #[]); letGo old.toList.reverse; Builtin.List.listExtendWith (.ref S) (.ref it) .none) _ _ s
  refine wpAny_bind ?_
  unfold Builtin.List.listItems
  refine wpAny_bind (wpAny_seqItems hS rfl (wpAny_pure ?_))
  show wpAny _ _ (updateSeq S (fun _ => #[]) >>= fun _ => letGo (#[] : Array Value).toList.reverse >>= fun _ => Builtin.List.listExtendWith (.ref S) (.ref it) .none) _ _ s
  refine wpAny_bind (wpAny_updateSeq hS rfl ?_)
  have hS₂ := Heap.get?_update_self (Obj.mapSeq (fun _ => (#[] : Array Value))) hS rfl
  have oth : ∀ b o, b ≠ S → s.heap.get? b = some o → (s.heap.update S (Obj.mapSeq (fun _ => (#[] : Array Value)))).get? b = some o :=
    fun b o hb e => (Heap.get?_update_other _ _ (Ne.symm hb)).trans e
  refine wpAny_bind (wpAny_letGo ?_)
  obtain ⟨ol, hol, hlc⟩ := id hl
  refine extend_rev (s := { s with heap := s.heap.update S (Obj.mapSeq (fun _ => (#[] : Array Value))) }) hh (hit.at fun o e => oth _ o hSi.symm e) ⟨ol, oth _ _ hSl.symm hol, hlc⟩ hne hn S hSi hSl .none _ hS₂ (fun h' tk acc' c' hk hS' hacc => ?_)
  exact hR h' tk acc' c' (fun b o hb hb2 e => hk b o hb hb2 (oth b o hb e)) hS' hacc
theorem call_list_rev {it l : Addr} {items : Array Value} {Q : Value → Shared → Prop} (hh : A.handled = none) (hit : s.heap.IsRevIter it l ((items.size : Int) - 1)) (hl : s.heap.IsList l items) (hne : l ≠ it) (hn : items.size ≤ sizeLine)
    (hQ : ∀ h' tk acc' c', (∀ b o, b ≠ it → s.heap.get? b = some o → h'.get? b = some o) → h'.get? s.heap.objs.size = some { cls := .type "list", dict := none, data := .seq acc' c', slots := #[] } → ItemsOf (fun i v => items[items.size - 1 - i]? = some v) acc' items.size → Q (.ref s.heap.objs.size) { s with heap := h', toks := tk }) :
    wpAny (model prog w) A (call (.type "list") [.ref it]) Q E s := by
  refine callType_codes (Q₁ := fun obj s₁ => obj = .ref s.heap.objs.size ∧ s₁ = { s with heap := s.heap.push { cls := .type "list", data := .seq #[] } }) PySem.F.called_list (PySem.F.typeCall_list_1 _) PySem.F.entry_list_init
    (PySem.code_list_new _ ⟨rfl, rfl⟩) fun obj s₁ h₁ => ?_
  obtain ⟨rfl, rfl⟩ := h₁
  have hS : (s.heap.push { cls := .type "list", data := .seq #[] }).get? s.heap.objs.size = some { cls := .type "list", data := .seq #[] } := Heap.get?_push_size _ rfl
  obtain ⟨oi, hoi, _⟩ := id hit
  obtain ⟨ol, hol, _⟩ := id hl
  have hSi : s.heap.objs.size ≠ it := Nat.ne_of_gt (Heap.lt_size hoi)
  have hSl : s.heap.objs.size ≠ l := Nat.ne_of_gt (Heap.lt_size hol)
  refine ⟨⟨_, hS, rfl⟩, PySem.F.args_list_init_2 _ _, list_init_rev (A := A.in1) (s := { s with heap := s.heap.push { cls := .type "list", data := .seq #[] } }) hh (hit.at fun o e => Heap.get?_push_of_some _ e) (hl.push _) hne hn _ hSi hSl hS (fun h' tk acc' c' hk hS' hacc => ?_)⟩
  exact ⟨rfl, hQ h' tk acc' c' (fun b o hb e => hk b o (Nat.ne_of_lt (Heap.lt_size e)) hb (Heap.get?_push_of_some _ e)) hS' hacc⟩
end
/-- list(reversed(x)), x a list: a new list -/
def tLstRev (K : PySem.W.Frag) (te : TE) : TE := fun σ H Q => te σ H fun v H1 => ∃ (a : Addr) (xs : List V), v = .ref a ∧ SqL K H1 a xs ∧ ∀ q, H1 q = none → Q (.ref q) (upd H1 q (.lst xs.reverse))
section
variable {X : Cx}
theorem pe_lstRev {e : Expr} {te : TE} {p p2 pos pos2 : Pos} (hc : X.calm = true) (hg : Gl X "list") (hm : X.mg "list" = none) (hg2 : Gl X "reversed") (hm2 : X.mg "reversed" = none) (he : PE X e te)
    (hs : starEach [e] X.env = (false, eval e X.env) :: starEach [] X.env := by rfl)
    (hs2 : starEach [.Call (.Name "reversed" p2) [e] [] pos2] X.env = (false, eval (.Call (.Name "reversed" p2) [e] [] pos2) X.env) :: starEach [] X.env := by rfl) :
    PE X (.Call (.Name "list" p) [.Call (.Name "reversed" p2) [e] [] pos2] [] pos) (tLstRev X.K te) := by
  refine ⟨fun pins s σ H Q I h => ?_⟩
  refine Call_ (ld_blt I hg hm boot_list (PyProof.Rows.callWith_type1 (args_cons (Call_ (ld_blt I hg2 hm2 PyProof.Rows.boot_reversed (PyProof.Rows.callWith_type1 (args_cons (thn (he.run pins s σ H _ I h) fun u s1 ⟨v, H1, I1, r1, q1⟩ => args_nil ?_) hs) hs rfl))) hs2) hs2 rfl))
  obtain ⟨a, xs, ev, hq, q⟩ := q1
  subst ev
  obtain rfl : u = Value.ref a := r1
  obtain ⟨its, rv, p', hz⟩ := I1.list hq
  refine call_reversed_list p'.isList (args_nil ?_)
  have k0 : ∀ b o, s1.heap.get? b = some o → (s1.heap.push (revObj a ((its.toArray.size : Int) - 1))).get? b = some o := fun b o e => Heap.get?_push_of_some _ e
  have I2 : Inv X pins σ H1 { s1 with heap := s1.heap.push (revObj a ((its.toArray.size : Int) - 1)) } := I1.kept (t' := s1.toks) k0
  have fp := I1.fpOk (H' := H1) (b := s1.heap.objs.size) (Nat.le_refl _) (I1.hok.fresh (Nat.le_refl _))
  have hl := p'.isList
  obtain ⟨ol, hol, _⟩ := id hl
  have hne : a ≠ s1.heap.objs.size := Nat.ne_of_lt (Heap.lt_size hol)
  have hn : its.toArray.size ≤ sizeLine := by rw [List.size_toArray, ← rv.length]; exact hz
  refine call_list_rev (s := { s1 with heap := s1.heap.push (revObj a ((its.toArray.size : Int) - 1)) }) (I1.ok.hd hc) ⟨_, Heap.get?_push_size _ rfl, rfl, rfl⟩ (hl.push _) hne hn fun h' tk acc c hk hS hi => ?_
  refine ⟨.ref _, upd H1 (s1.heap.push (revObj a ((its.toArray.size : Int) - 1))).objs.size (.lst xs.reverse), I2.turnedNew (t' := tk) (ch := [s1.heap.objs.size]) (fun b o hb e => hk b o (fun z => hb (by rw [z]; exact List.mem_singleton_self _)) e) (fun b hb => by rw [List.mem_singleton.mp hb]; exact fp) (Nat.le_refl _) (show ObjOk X.prog X.w _ _ _ (.lst xs.reverse) from ⟨by rw [List.length_reverse]; exact hz, acc.toList, c, vals_rev rv hi, by rw [Array.toArray_toList]; exact hS⟩), rfl, q _ (I2.hok.fresh (Nat.le_refl _))⟩
end
end RT
namespace Cn
open PySem PySem.Spec PyProof.Rows L2 Ck
/-! amounts of any kind: what stands for them, how it is kept, a size that what is put together has at most the sum of -/
structure Dom (α : Type) where
  rep : Hp → V → α → Prop
  keep : ∀ {H H' : Hp} {v : V} {a : α}, (∀ t xs, H t = some (.tup xs) → H' t = some (.tup xs)) → rep H v a → rep H' v a
  sz : α → Nat
theorem Dom.same {α : Type} (D : Dom α) {H H' : Hp} {v : V} {a : α} (s : Same H H') (h : D.rep H v a) : D.rep H' v a := D.keep (fun t xs e => s _ _ e) h
theorem Dom.upd {α : Type} (D : Dom α) {H : Hp} {b : Addr} {o o2 : HO} {v : V} {a : α} (hb : H b = some o) (no : ∀ xs, o ≠ .tup xs) (h : D.rep H v a) : D.rep (upd H b o2) v a :=
  D.keep (fun t xs e => by rw [upd_ne (fun z => by rw [z, hb] at e; exact no xs (Option.some.inj e))]; exact e) h
def Dom.opt {α : Type} (D : Dom α) (H : Hp) (v : V) : Option α → Prop
  | none => v = .non
  | some a => D.rep H v a
theorem Dom.optSame {α : Type} (D : Dom α) {H H' : Hp} {v : V} {a : Option α} (s : Same H H') (h : D.opt H v a) : D.opt H' v a := by
  cases a with
  | none => exact h
  | some a => exact D.same s h
theorem Dom.all {α : Type} (D : Dom α) {H H' : Hp} {us : List V} {xs : List α} (s : Same H H') (h : Paired (D.rep H) us xs) : Paired (D.rep H') us xs := Paired.mapP h fun _ _ z => D.same s z
theorem Dom.allUpd {α : Type} (D : Dom α) {H : Hp} {b : Addr} {o o2 : HO} {us : List V} {xs : List α} (hb : H b = some o) (no : ∀ xs, o ≠ .tup xs) (h : Paired (D.rep H) us xs) : Paired (D.rep (L2.upd H b o2)) us xs := Paired.mapP h fun _ _ z => D.upd hb no z
/-- an adding: the def at g, what it gives -/
structure AddG {α : Type} (P : Program) (w : World) (K : PySem.W.Frag) (mg : Str → Option Value) (base : Heap) (D : Dom α) (g : Addr) (ad : α → α → α) : Prop where
  ex : ∃ (fd : FuncData) (ps : List Str) (sp : Sp), FnOk P w K mg base CX0 1 g fd ps sp ∧ PySem.W.keepIn K (.ref g) = true ∧ Binds K fd ps [] ∧
    ∀ (H : Hp) (u v : V) (a b : α) (Q : VK) (E : XK), D.rep H u a → D.rep H v b → D.sz a + D.sz b ≤ 100000 → (∀ x H', Same H H' → D.rep H' x (ad a b) → Q x H') → sp [u, v] H Q E
  len : ∀ a b, D.sz (ad a b) ≤ D.sz a + D.sz b
theorem togG_snoc {α : Type} {ad : α → α → α} {ls : List α} {x : α} (h : ls ≠ []) : ∃ y, togG ad ls = some y ∧ togG ad (ls ++ [x]) = some (ad y x) := by
  cases ls with
  | nil => exact absurd rfl h
  | cons l ls => exact ⟨_, rfl, by show some ((ls ++ [x]).foldl ad l) = _; rw [List.foldl_append]; rfl⟩
theorem togG_sz {α : Type} {sz : α → Nat} {ad : α → α → α} (hl : ∀ a b, sz (ad a b) ≤ sz a + sz b) {k : Nat} : ∀ {ls : List α} {y : α}, (∀ l ∈ ls, sz l ≤ k) → togG ad ls = some y → sz y ≤ ls.length * k := by
  intro ls
  cases ls with
  | nil => intro y _ h; cases h
  | cons l ls =>
    intro y h e
    cases e
    have go : ∀ (ms : List α) (a : α) (n : Nat), (∀ l ∈ ms, sz l ≤ k) → sz a ≤ n → sz (ms.foldl ad a) ≤ n + ms.length * k := by
      intro ms
      induction ms with
      | nil => intro a n _ ha; show sz a ≤ n + 0 * k; omega
      | cons m ms ih =>
        intro a n hm ha
        have h1 := hm m List.mem_cons_self
        have h2 := hl a m
        have h3 := ih (ad a m) (n + k) (fun l h => hm l (List.mem_cons_of_mem _ h)) (by omega)
        show sz (ms.foldl ad (ad a m)) ≤ n + (ms.length + 1) * k
        rw [Nat.succ_mul]
        omega
    have h1 := go ls l k (fun x hx => h x (List.mem_cons_of_mem _ hx)) (h l List.mem_cons_self)
    show sz (ls.foldl ad l) ≤ (ls.length + 1) * k
    rw [Nat.succ_mul]
    omega
section
variable {P : Program} {w : World} {K : PySem.W.Frag} {mg : Str → Option Value} {base : Heap} {C : Addr}
/-- what things come to -/
def spTogt {α : Type} (P : Program) (w : World) (K : PySem.W.Frag) (mg : Str → Option Value) (base : Heap) (D : Dom α) : Sp := fun vs H Q _ => ∃ (g b : Addr) (ad : α → α → α) (us : List V) (xs : List α) (m : Nat), vs = [.ref g, .ref b] ∧ AddG P w K mg base D g ad ∧ H b = some (.lst us) ∧ Paired (D.rep H) us xs ∧ (∀ x ∈ xs, D.sz x ≤ m) ∧ xs.length * m ≤ 100000 ∧
  ∀ v H', Same H H' → D.opt H' v (togG ad xs) → Q v H'
def nTogt : List Str := ["adding", "things", "whole", "at", "thing"]
theorem scTogt : FnScope nTogt ["adding", "things"] (defScope sTogt) := ⟨rfl, rfl, rfl, by decide +kernel, rfl, by decide +kernel, by decide +kernel⟩
theorem dTogt {α : Type} (D : Dom α) (B : Defs K mg C) : Def P w K mg base "together" 2 ["adding", "things"] (spTogt P w K mg base D) := by
  have N := B.N
  have nd := scTogt.nd
  refine def_of B.tgt fun f fd F => ?_
  refine F.ok scTogt (fun vs H Q E h => ?_) (fun cdv A outer s H vs Q E hr h => ?_)
  · obtain ⟨g, b, ad, us, xs, m, rfl, _⟩ := h
    rfl
  · obtain ⟨g, b, ad, us, xs, m, rfl, ⟨⟨fdG, psG, spG, FG, kG, bG, yes⟩, al⟩, hb, hP, hm, hlm, k⟩ := h
    refine ⟨_, pss_cons (ps_set (i := 2) nd rfl (Or.inl rfl) pe_non)
      (pss_cons (ps_for PassesOwn.never rfl (pi_enum (by rfl) N.enum (pa_cons (pv 1) pa_nil)) (pg_tup rfl (pgs_cons (pg_name (i := 3) nd rfl (Or.inl rfl)) (pgs_cons (pg_name (i := 4) nd rfl (Or.inl rfl)) pgs_nil)))
        (pss_one (ps_set (i := 2) nd rfl (Or.inl rfl) (pe_ifExp (pt_truth (pv 3) (fun _ => rfl)) (pe_callL (i := 0) FG hr rfl (Or.inl rfl) kG bG .nil pass0 (pa_cons (pv 2) (pa_cons (pv 4) pa_nil))) (pv 4)))))
      (pss_one (ps_ret (pv 2)))), ?_⟩
    have ul : us.length = xs.length := Paired.length hP
    refine ⟨_, rfl, b, us, rfl, .inl (.inl hb), ?_⟩
    refine for_it (walk_enum (xs := us)) (fun i σ G => Same H G ∧ ∃ (v : V) (t3 t4 : Option V), σ = [some (.ref g), some (.ref b), some v, t3, t4] ∧ D.opt G v (togG ad (xs.take i))) ⟨Same.refl _, .non, none, none, rfl, rfl⟩ (fun i σ G _ z => .inl (.inl (z.1 _ _ hb))) ?_ ?_
    · rintro i x σ G G2 hi ⟨sm, v, t3, t4, rfl, hv⟩ ⟨T, x1, y1, rfl, nT, rfl, e1, e2⟩
      cases e1
      obtain ⟨a, ha, hr1⟩ := pairedGetQ hP e2
      have sT := smUpd (o := .tup [.int ((i : Nat) : Int), y1]) nT
      have hT2 : upd G T (.tup [.int ((i : Nat) : Int), y1]) T = some (.tup [.int ((i : Nat) : Int), y1]) := upd_same
      generalize upd G T (.tup [.int ((i : Nat) : Int), y1]) = G2 at sT hT2 ⊢
      have s2 := sm.trans sT
      have et : xs.take (i + 1) = xs.take i ++ [a] := by rw [List.take_add_one, ha]; rfl
      refine ⟨T, _, rfl, .inl (.inl hT2), rfl, _, _, rfl, _, _, rfl, rfl, ?_⟩
      refine ⟨_, rfl, ((i : Nat) : Int) != 0, rfl, ?_⟩
      by_cases c : i = 0
      · subst c
        refine ifF (by decide) ?_
        refine ⟨_, rfl, s2, y1, _, _, rfl, ?_⟩
        rw [et]
        exact D.same s2 hr1
      · refine ifT (by rw [bne_iff_ne]; omega) ?_
        have hne : xs.take i ≠ [] := fun z => by
          have := congrArg List.length z
          rw [List.length_take, List.length_nil] at this
          omega
        obtain ⟨y, hy1, hy2⟩ := togG_snoc (ad := ad) (x := a) hne
        have hyl := togG_sz (k := m) al (fun l h => hm l (List.mem_of_mem_take h)) hy1
        have hal := hm a (List.mem_of_getElem? ha)
        rw [List.length_take] at hyl
        rw [hy1] at hv
        have hv : D.rep G v y := hv
        refine ⟨rfl, _, rfl, _, rfl, yes _ _ _ y a _ _ (D.same sT hv) (D.same s2 hr1) ?_ fun x G3 s3 hx => ?_⟩
        · have h1 : (i + 1) * m ≤ xs.length * m := Nat.mul_le_mul_right m (by omega)
          have h2 : min i xs.length * m ≤ i * m := Nat.mul_le_mul_right m (Nat.min_le_left _ _)
          rw [Nat.succ_mul] at h1
          omega
        · refine ⟨s2.trans s3, x, _, _, rfl, ?_⟩
          rw [et, hy2]
          exact hx
    · rintro σ G ⟨sm, v, t3, t4, rfl, hv⟩
      rw [ul, List.take_length] at hv
      exact ⟨_, rfl, k v G sm hv⟩
end
end Cn
namespace Cn
open PySem PySem.Spec PyProof.Rows L2 Ck
/-! the notes in their dict -/
def sxRhs : Stmt → Expr
  | .Assign _ e _ => e
  | .Return (some e) _ => e
  | .Expr e _ => e
  | _ => default
def sxIf : Expr → Expr
  | .ListComp _ (⟨_, _, e :: _, _⟩ :: _) _ _ => e
  | _ => default
def sxArg : Expr → Expr
  | .Call _ (e :: _) _ _ => e
  | _ => default
def sxScope : Expr → Scope
  | .ListComp _ _ sc _ => sc
  | _ => default
def sxRel (sc base : Scope) : Scope := { sc with names := sc.names.map fun (n, k) => if (k == .free && base.kind == .function && base.names.lookup n == some .cell) then (n, .cell) else (n, k) }
theorem ftake {α : Type} {c : α → Bool} {xs : List α} {m : Nat} {x : α} (h : xs[m]? = some x) : (xs.take (m + 1)).filter c = (xs.take m).filter c ++ if c x = true then [x] else [] := by
  rw [List.take_add_one, h]
  show ((xs.take m) ++ [x]).filter c = _
  rw [List.filter_append, List.filter_cons, List.filter_nil]
theorem byPlaceAt {H : Hp} {kvs : List (L2.Key × V)} {nt : List (Nat × (List Nat × List Nat))} (h : ByPlace H kvs nt) {i : Nat} {k : L2.Key} {v : V} (hk : kvs[i]? = some (k, v)) : ∃ e, nt[i]? = some e ∧ k = .inl (e.1 : Int) ∧ NoteR H v e.2 := by
  obtain ⟨e, he, h1, h2⟩ := pairedGetQ h hk
  exact ⟨e, he, h1, h2⟩
/-- a dict that is locked, read and let go is the same -/
theorem lockSame {H HL H' : Hp} {d : Addr} {u u2 : HO} (hd : H d = some u) (hL : HL = upd H d u2) (s : Same HL H') : Same H (upd H' d u) := fun b o e => by
  by_cases c : b = d
  · rw [c, upd_same, ← hd, ← c]
    exact e
  · rw [upd_ne c]
    refine s _ _ ?_
    rw [hL, upd_ne c]
    exact e
def holdsA (nt : NtL) (ps : List Nat) : List Nat := (nt.filter fun e => ps.any fun p => decide (p ∈ e.2.1)).map fun e => e.1
theorem holdsA_one {nt : NtL} {p : Nat} : holdsA nt [p] = holdsN nt p := by
  unfold holdsA holdsN
  congr 2
  funext e
  simp
section
variable {P : Program} {w : World} {K : PySem.W.Frag} {mg : Str → Option Value} {base : Heap} {C : Addr}
/-- the notes that a place reads -/
def spReadAt : Sp := fun vs H Q _ => ∃ (d : Addr) (kvs : List (L2.Key × V)) (nt : NtL) (q : Nat), vs = [.ref d, vn q] ∧ H d = some (.dK kvs) ∧ ByPlace H kvs nt ∧ (nt.map fun e => e.1).Nodup ∧ nt.length ≤ 60 ∧
  ∀ r H', Same H H' → H r = none → H' r = some (.lst ((readsN nt q).map vn)) → Q (.ref r) H'
def nReadAt : List Str := ["notes", "place", "s"]
theorem scReadAt : FnScope nReadAt ["notes", "place"] (defScope sReadAt) := ⟨rfl, rfl, rfl, by decide +kernel, rfl, by decide +kernel, by decide +kernel⟩
theorem dReadAt (B : Defs K mg C) : Def P w K mg base "reading_at" 1 ["notes", "place"] spReadAt := by
  have N := B.N
  have nd := scReadAt.nd
  refine def_of B.rda fun f fd F => ?_
  refine F.ok scReadAt (fun vs H Q E h => ?_) (fun cdv A outer s H vs Q E hr h => ?_)
  · obtain ⟨d, kvs, nt, q, rfl, _⟩ := h
    rfl
  · obtain ⟨d, kvs, nt, q, rfl, hd, hB, ndN, h60, k⟩ := h
    have hu : (A.deeper (envOfC "reading_at" (defScope sReadAt) s.heap.objs.size f cdv)).units + 1 < cLine := by have := hr.units; omega
    refine ⟨_, pss_one (ps_ret (pe_lock (pe_lc (own := [("s", 2)]) (g := gName 2) (te := tVar 2) rfl nd (pi_keys (pv 0))
        (blkOk_by (N := nReadAt) (sc := defScope sReadAt) (by decide +kernel)) (fun _ _ _ _ _ => pg_name (i := 2) nd rfl (Or.inl rfl)) (fun _ _ _ _ _ => pts_one (pt_cmpR (r := rIn K false) op_in_seq (pv 1) (pe_ix (r := rIxT K) ix_tup (pe_dget hu (pv 0) (pv 2) (fun _ _ => rfl)) pe_int (fun _ _ => rfl)) (by rfl)))
        (fun _ _ _ _ _ => pv 2)))), ?_⟩
    refine ⟨d, _, hd, trivial, fun od => ?_⟩
    have hL : upd H d (.frz od (.dK kvs)) d = some (.frz od (.dK kvs)) := upd_same
    have nt0 : ∀ ys, H d ≠ some (.tup ys) := fun ys z => by rw [hd] at z; cases z
    have hBL := byPlaceUpd (o := .frz od (.dK kvs)) nt0 hB
    obtain ⟨HL, eL⟩ : ∃ HL, HL = upd H d (.frz od (.dK kvs)) := ⟨_, rfl⟩
    rw [← eL] at hL hBL ⊢
    have kl : kvs.length = nt.length := Paired.length hB
    refine ⟨_, rfl, d, od, rfl, .inl ⟨_, hL, fun D2 nD2 => ?_⟩⟩
    refine anyWalk walk_keys (fun m G => Same HL G ∧ G D2 = some (.lst ((readsN (nt.take m) q).map vn))) ⟨smUpd nD2, upd_same⟩ (fun m G _ z => z.1 _ _ hL) ?_ ?_
    · rintro m x G G' hm ⟨sm, hW⟩ ⟨rfl, kk, v, hkv, rfl⟩
      obtain ⟨e, he, hke, t, x1, y1, rfl, ht, hx1, hy1⟩ := byPlaceAt hBL hkv
      subst hke
      have hget : DGet G' d (kV (.inl (e.1 : Int))) (some (.ref t)) := .inl ⟨kvs, _, .inr ⟨od, sm _ _ hL⟩, rfl, (byPlaceGet hB ndN hkv).symm⟩
      refine ⟨rfl, _, rfl, _, rfl, _, rfl, d, _, rfl, hget, t, _, (1 : Int), _, rfl, rfl, .inl (.inl (sm _ _ ht)), rfl, y1, _, rfl, .inr (tnL (sm _ _ hy1)), rfl, vn_flat _, _, rfl, ?_⟩
      have ft := ftake (c := fun e : Nat × (List Nat × List Nat) => decide (q ∈ e.2.2)) he
      have fl : (readsN (nt.take m) q).length ≤ m := by
        unfold readsN
        rw [List.length_map]
        refine Nat.le_trans (List.length_filter_le _ _) ?_
        rw [List.length_take]
        omega
      by_cases c : q ∈ e.2.2
      · refine ifT (by show inV (vn q) (e.2.2.map vn) = true; rw [inV_vn]; exact decide_eq_true c) ?_
        refine ⟨_, rfl, _, hW, small1000 (by rw [List.length_map]; omega), smOver nD2 sm, ?_⟩
        rw [upd_same]
        unfold readsN
        rw [ft, if_pos (decide_eq_true c), List.map_append, List.map_append]
        rfl
      · refine ifF (by show ¬ inV (vn q) (e.2.2.map vn) = true; rw [inV_vn]; simpa using c) ?_
        refine ⟨sm, ?_⟩
        unfold readsN
        rw [ft, if_neg (by rw [decide_eq_true_iff]; exact c), List.append_nil]
        exact hW
    · rintro G ⟨sm, hW⟩
      rw [kl, List.take_length] at hW
      have hD3 := sm _ _ hL
      have ne : D2 ≠ d := fun z => by rw [z, hL] at nD2; cases nD2
      have nD0 : H D2 = none := by
        rw [eL, upd_ne ne] at nD2
        exact nD2
      exact ⟨hD3, k D2 _ (lockSame hd eL sm) nD0 (by rw [upd_ne ne]; exact hW)⟩
/-- the notes that hold one of some places -/
def spHold1 : Sp := fun vs H Q _ => ∃ (d b : Addr) (kvs : List (L2.Key × V)) (nt : NtL) (ps : List Nat), vs = [.ref d, .ref b] ∧ H d = some (.dK kvs) ∧ ByPlace H kvs nt ∧ (nt.map fun e => e.1).Nodup ∧ nt.length ≤ 60 ∧ H b = some (.lst (ps.map vn)) ∧ ps.length ≤ 60 ∧
  ∀ r H', Same H H' → H r = none → H' r = some (.lst ((holdsA nt ps).map vn)) → Q (.ref r) H'
def nHold1 : List Str := ["notes", "places", "s", "place"]
theorem scHold1 : FnScope nHold1 ["notes", "places"] (defScope sHold1) := ⟨rfl, rfl, rfl, by decide +kernel, rfl, by decide +kernel, by decide +kernel⟩
def scHo1 : Scope := sxRel (sxScope (sxRhs ((defBody sHold1).getD 0 default))) (defScope sHold1)
theorem dHold1 (B : Defs K mg C) : Def P w K mg base "holding_one" 1 ["notes", "places"] spHold1 := by
  have N := B.N
  have mA := B.zAny
  have nd := scHold1.nd
  refine def_of B.hlo fun f fd F => ?_
  refine F.ok scHold1 (fun vs H Q E h => ?_) (fun cdv A outer s H vs Q E hr h => ?_)
  · obtain ⟨d, b, kvs, nt, ps, rfl, _⟩ := h
    rfl
  · obtain ⟨d, b, kvs, nt, ps, rfl, hd, hB, ndN, h60, hb, hpl, k⟩ := h
    have hu : (A.deeper (envOfC "holding_one" (defScope sHold1) s.heap.objs.size f cdv)).units + 1 < cLine := by have := hr.units; omega
    refine ⟨_, pss_one (ps_ret (pe_lock (pe_lc (own := [("s", 2)]) (g := gName 2) (tt := tTest (tCB (rAny K) (tCons (tLc (iList K (tVar 1)) (gName 3) tYes (tOp (rIn K false) (tVar 3) (tOp (rIxT K) (tDGet (tVar 0) (tVar 2)) (tC (.int 0)))) [3]) tNil))) (te := tVar 2) rfl nd (pi_keys (pv 0))
        (blkOk_by (N := nHold1) (sc := defScope sHold1) (by decide +kernel)) (fun _ _ _ _ _ => pg_name (i := 2) nd rfl (Or.inr rfl)) (fun _ _ _ _ _ => pts_one (pt_val (pe_callB (r := rAny K) (cr_any rfl) (by rfl) mA (by decide +kernel) (pa_cons (pe_lc (own := [("place", 3)]) (g := gName 3) (tt := tYes) (te := tOp (rIn K false) (tVar 3) (tOp (rIxT K) (tDGet (tVar 0) (tVar 2)) (tC (.int 0)))) rfl nd (pi_list (pv 1))
          (blkOk_by (N := nHold1) (sc := scHo1) (by decide +kernel)) (fun _ _ _ _ _ => pg_name (i := 3) nd rfl (Or.inl rfl)) (fun _ _ _ _ _ => pts_nil)
          (fun _ _ _ _ _ => pe_cmpR (r := rIn K false) op_in_seq (pv 3) (pe_ix (r := rIxT K) ix_tup (pe_dget hu (pv 0) (pv 2) (fun _ _ => rfl)) pe_int (fun _ _ => rfl)) (by rfl))) pa_nil))))
        (fun _ _ _ _ _ => pv 2)))), ?_⟩
    refine ⟨d, _, hd, trivial, fun od => ?_⟩
    have hL : upd H d (.frz od (.dK kvs)) d = some (.frz od (.dK kvs)) := upd_same
    have nt0 : ∀ ys, H d ≠ some (.tup ys) := fun ys z => by rw [hd] at z; cases z
    have hBL := byPlaceUpd (o := .frz od (.dK kvs)) nt0 hB
    have bd : b ≠ d := fun z => by rw [z, hd] at hb; cases hb
    have hbL : upd H d (.frz od (.dK kvs)) b = some (.lst (ps.map vn)) := by rw [upd_ne bd]; exact hb
    obtain ⟨HL, eL⟩ : ∃ HL, HL = upd H d (.frz od (.dK kvs)) := ⟨_, rfl⟩
    rw [← eL] at hL hBL hbL ⊢
    have kl : kvs.length = nt.length := Paired.length hB
    refine ⟨_, rfl, d, od, rfl, .inl ⟨_, hL, fun D2 nD2 => ?_⟩⟩
    refine anyWalk walk_keys (fun m G => Same HL G ∧ G D2 = some (.lst ((holdsA (nt.take m) ps).map vn))) ⟨smUpd nD2, upd_same⟩ (fun m G _ z => z.1 _ _ hL) ?_ ?_
    · rintro m x G G' hm ⟨sm, hW⟩ ⟨rfl, kk, v, hkv, rfl⟩
      obtain ⟨e, he, hke, t, x1, y1, rfl, ht, hx1, hy1⟩ := byPlaceAt hBL hkv
      subst hke
      refine ⟨rfl, _, rfl, b, rfl, ⟨_, .inl (.inl (sm _ _ hbL))⟩, fun D3 nD3 => ?_⟩
      refine anyWalk (walk_list (xs := ps.map vn)) (fun j J => Same G' J ∧ J D3 = some (.lst (((ps.take j).map fun p => decide (p ∈ e.2.1)).map V.bl))) ⟨smUpd nD3, upd_same⟩ (fun j J _ z => .inl (.inl (z.1 _ _ (sm _ _ hbL)))) ?_ ?_
      · rintro j y J J' hj ⟨sj, hD3⟩ ⟨rfl, hy⟩
        obtain ⟨p, hp, rfl⟩ := vn_get hy
        have s2 := sm.trans sj
        have hget : DGet J' d (kV (.inl (e.1 : Int))) (some (.ref t)) := .inl ⟨kvs, _, .inr ⟨od, s2 _ _ hL⟩, rfl, (byPlaceGet hB ndN hkv).symm⟩
        refine ⟨rfl, _, rfl, _, rfl, _, rfl, d, _, rfl, hget, t, _, (0 : Int), _, rfl, rfl, .inl (.inl (s2 _ _ ht)), rfl, x1, _, rfl, .inr (tnL (s2 _ _ hx1)), rfl, vn_flat _, ?_⟩
        refine ⟨_, hD3, small1000 (by rw [List.length_map, List.length_map, List.length_take]; omega), smOver nD3 sj, ?_⟩
        rw [upd_same, List.take_add_one, hp, List.map_append, List.map_append]
        show some (HO.lst (_ ++ [V.bl (inV (vn p) (e.2.1.map vn))])) = some (HO.lst (_ ++ [V.bl (decide (p ∈ e.2.1))]))
        rw [inV_vn]
      rintro J ⟨sj, hD3⟩
      rw [List.length_map, List.take_length] at hD3
      refine ⟨D3, _, rfl, .inl (.inl hD3), ?_⟩
      have ea : (ps.map fun p => decide (p ∈ e.2.1)).any id = ps.any fun p => decide (p ∈ e.2.1) := by rw [List.any_map]; rfl
      rw [ea]
      refine ⟨_, rfl, ?_⟩
      have hWJ := sj _ _ hW
      have ft := ftake (c := fun e : Nat × (List Nat × List Nat) => ps.any fun p => decide (p ∈ e.2.1)) he
      have fl : (holdsA (nt.take m) ps).length ≤ m := by
        unfold holdsA
        rw [List.length_map]
        refine Nat.le_trans (List.length_filter_le _ _) ?_
        rw [List.length_take]
        omega
      by_cases c : (ps.any fun p => decide (p ∈ e.2.1)) = true
      · refine ifT c ?_
        refine ⟨_, rfl, _, hWJ, small1000 (by rw [List.length_map]; omega), smOver nD2 (sm.trans sj), ?_⟩
        rw [upd_same]
        unfold holdsA
        rw [ft, if_pos c, List.map_append, List.map_append]
        rfl
      · refine ifF c ?_
        refine ⟨sm.trans sj, ?_⟩
        unfold holdsA
        rw [ft, if_neg c, List.append_nil]
        exact hWJ
    · rintro G ⟨sm, hW⟩
      rw [kl, List.take_length] at hW
      have hD3 := sm _ _ hL
      have ne : D2 ≠ d := fun z => by rw [z, hL] at nD2; cases nD2
      have nD0 : H D2 = none := by
        rw [eL, upd_ne ne] at nD2
        exact nD2
      exact ⟨hD3, k D2 _ (lockSame hd eL sm) nD0 (by rw [upd_ne ne]; exact hW)⟩
end
end Cn
namespace Cn
open PySem PySem.Spec PyProof.Rows L2 Ck
/-! deeds -/
def DeedAt {α : Type} (D : Dom α) (H : Hp) (v : V) : Deed α → Prop
  | .chg p a => ∃ t x, v = .ref t ∧ H t = some (.tup [.str "change", vn p, x]) ∧ D.rep H x a
  | .ask q => ∃ t, v = .ref t ∧ H t = some (.tup [.str "ask", vn q])
theorem deedKeep {α : Type} {D : Dom α} {H H' : Hp} {v : V} {d : Deed α} (k : ∀ t xs, H t = some (.tup xs) → H' t = some (.tup xs)) (h : DeedAt D H v d) : DeedAt D H' v d := by
  cases d with
  | chg p a =>
    obtain ⟨t, x, h1, h2, h3⟩ := h
    exact ⟨t, x, h1, k _ _ h2, D.keep k h3⟩
  | ask q =>
    obtain ⟨t, h1, h2⟩ := h
    exact ⟨t, h1, k _ _ h2⟩
theorem deedSame {α : Type} {D : Dom α} {H H' : Hp} {v : V} {d : Deed α} (s : Same H H') (h : DeedAt D H v d) : DeedAt D H' v d := deedKeep (fun t xs e => s _ _ e) h
/-- a deed of the forest -/
def deedFor {α : Type} (fo : Fo) : Deed α → Prop
  | .chg p _ => p ∈ fo.be
  | .ask q => q ∈ fo.as
section
variable {P : Program} {w : World} {K : PySem.W.Frag} {mg : Str → Option Value} {base : Heap} {C : Addr}
def spIsDeed {α : Type} (C : Addr) (D : Dom α) : Sp := fun vs H Q _ => ∃ (a : Addr) (v : V) (fo : Fo) (d : Deed α), vs = [.ref a, v] ∧ FoAt C H a fo ∧ DeedAt D H v d ∧ deedFor fo d ∧ Q (.bl true) H
def nIsDeed : List Str := ["forest", "thing"]
theorem scIsDeed : FnScope nIsDeed ["forest", "thing"] (defScope sIsDeed) := ⟨rfl, rfl, rfl, by decide +kernel, rfl, by decide +kernel, by decide +kernel⟩
theorem dIsDeed {α : Type} (D : Dom α) (B : Defs K mg C) : Def P w K mg base "_is_deed" 3 ["forest", "thing"] (spIsDeed C D) := by
  obtain ⟨fB', fdB, GB, gB, kB, bB⟩ := dIsBear (P := P) (w := w) (base := base) B
  obtain ⟨fA', fdA, GA, gA, kA, bA⟩ := dIsAsk (P := P) (w := w) (base := base) B
  have N := B.N
  have mS := B.zStr
  refine def_of B.idd fun f fd F => ?_
  refine F.ok scIsDeed (fun vs H Q E h => ?_) (fun cdv A outer s H vs Q E hr h => ?_)
  · obtain ⟨a, v, fo, d, rfl, _⟩ := h
    rfl
  · obtain ⟨a, v, fo, d, rfl, hF, hd, hp, kk⟩ := h
    refine ⟨_, pss_cons (ps_if (PW.pt (pw_or (pt_not (pt_val (pe_callB call_isi (by rfl) N.is.inst (by decide +kernel) (pa_cons (pv 1) (pa_cons (pe_bltn (v := .ty "tuple") (by rfl) N.is.tup (by decide +kernel) rfl) pa_nil)))))
          (pw_or (pt_cmpR op_lt (pe_callB call_len_seq (by rfl) N.is.len PySem.boot_len (pa_cons (pv 1) pa_nil)) pe_int (nomark _))
          (pw_or1 (pt_not (pt_val (pe_callB call_isi (by rfl) N.is.inst (by decide +kernel) (pa_cons (pe_ix ix_tup (pv 1) pe_int (fun _ _ => rfl)) (pa_cons (pe_bltn (v := .ty "str") (by rfl) mS (by decide +kernel) rfl) pa_nil))))))))) (pss_one ps_never) pss_nil)
      (pss_cons (ps_if (pt_cmpR op_eq (pe_ix ix_tup (pv 1) pe_int (fun _ _ => rfl)) pe_str (nomark _)) (pss_one (ps_ret (pe_and (pe_cmpR op_eq (pe_callB call_len_seq (by rfl) N.is.len PySem.boot_len (pa_cons (pv 1) pa_nil)) pe_int (nomark _)) (pe_one (pe_call GB hr (by rfl) gB kB bB .nil pass0 (pa_cons (pv 0) (pa_cons (pe_ix ix_tup (pv 1) pe_int (fun _ _ => rfl)) pa_nil))))))) pss_nil)
      (pss_one (ps_ret (pe_and (pe_cmpR op_eq (pe_ix ix_tup (pv 1) pe_int (fun _ _ => rfl)) pe_str (nomark _)) (pe_and (pe_cmpR op_eq (pe_callB call_len_seq (by rfl) N.is.len PySem.boot_len (pa_cons (pv 1) pa_nil)) pe_int (nomark _)) (pe_one (pe_call GA hr (by rfl) gA kA bA .nil pass0 (pa_cons (pv 0) (pa_cons (pe_ix ix_tup (pv 1) pe_int (fun _ _ => rfl)) pa_nil))))))))), ?_⟩
    cases d with
    | chg p am =>
      obtain ⟨t, x, rfl, ht, _⟩ := hd
      have sq : SqT K H t [.str "change", vn p, x] := .inl (.inl ht)
      refine ⟨_, rfl, _, .ty "tuple", _, _, true, rfl, .ty _, .base (.tup ht), kit_ty (by decide +kernel), true, rfl, ?_⟩
      refine ifF (by decide) ?_
      refine ⟨_, rfl, t, _, rfl, .inr sq, _, _, rfl, rfl, _, rfl, ?_⟩
      refine ifF (by show ¬ decide (((3 : Nat) : Int) < 2) = true; decide) ?_
      refine ⟨_, rfl, t, _, (0 : Int), _, rfl, rfl, sq, rfl, _, .ty "str", _, _, true, rfl, .ty _, .base (.str _), kit_ty (by decide +kernel), true, rfl, ?_⟩
      refine ifF (by decide) ?_
      refine ⟨_, rfl, t, _, (0 : Int), _, rfl, rfl, sq, rfl, rfl, _, rfl, ?_⟩
      refine ifT (by show decide (V.str (Str.ofString "change") = V.str (Str.ofString "change")) = true; decide +kernel) ?_
      refine ⟨_, rfl, t, _, rfl, .inr sq, rfl, _, rfl, ?_⟩
      refine ifT (decide_eq_true rfl) ?_
      exact ⟨_, rfl, _, rfl, t, _, (1 : Int), _, rfl, rfl, sq, rfl, a, fo, p, rfl, hF, hp, kk⟩
    | ask q =>
      obtain ⟨t, rfl, ht⟩ := hd
      have sq : SqT K H t [.str "ask", vn q] := .inl (.inl ht)
      refine ⟨_, rfl, _, .ty "tuple", _, _, true, rfl, .ty _, .base (.tup ht), kit_ty (by decide +kernel), true, rfl, ?_⟩
      refine ifF (by decide) ?_
      refine ⟨_, rfl, t, _, rfl, .inr sq, _, _, rfl, rfl, _, rfl, ?_⟩
      refine ifF (by show ¬ decide (((2 : Nat) : Int) < 2) = true; decide) ?_
      refine ⟨_, rfl, t, _, (0 : Int), _, rfl, rfl, sq, rfl, _, .ty "str", _, _, true, rfl, .ty _, .base (.str _), kit_ty (by decide +kernel), true, rfl, ?_⟩
      refine ifF (by decide) ?_
      refine ⟨_, rfl, t, _, (0 : Int), _, rfl, rfl, sq, rfl, rfl, _, rfl, ?_⟩
      refine ifF (by show ¬ decide (V.str (Str.ofString "ask") = V.str (Str.ofString "change")) = true; decide +kernel) ?_
      refine ⟨_, rfl, t, _, (0 : Int), _, rfl, rfl, sq, rfl, rfl, _, rfl, ?_⟩
      refine ifT (by show decide (V.str (Str.ofString "ask") = V.str (Str.ofString "ask")) = true; decide +kernel) ?_
      refine ⟨_, rfl, t, _, rfl, .inr sq, rfl, _, rfl, ?_⟩
      refine ifT (decide_eq_true rfl) ?_
      exact ⟨_, rfl, _, rfl, t, _, (1 : Int), _, rfl, rfl, sq, rfl, a, fo, q, rfl, hF, hp, kk⟩
/-- deeds -/
def spIsDeeds {α : Type} (C : Addr) (D : Dom α) : Sp := fun vs H Q _ => ∃ (a b : Addr) (fo : Fo) (us : List V) (ds : List (Deed α)), vs = [.ref a, .ref b] ∧ FoAt C H a fo ∧ SeqH H b us ∧ Paired (DeedAt D H) us ds ∧ (∀ d ∈ ds, deedFor fo d) ∧ ds.length ≤ 20 ∧ ∀ H', Same H H' → Q (.bl true) H'
def nIsDeeds : List Str := ["forest", "thing", "item"]
theorem scIsDeeds : FnScope nIsDeeds ["forest", "thing"] (defScope sIsDeeds) := ⟨rfl, rfl, rfl, by decide +kernel, rfl, by decide +kernel, by decide +kernel⟩
theorem dIsDeeds {α : Type} (D : Dom α) (B : Defs K mg C) : Def P w K mg base "_is_deeds" 4 ["forest", "thing"] (spIsDeeds C D) := by
  obtain ⟨fD, fdD, GD, gD, kD, bD⟩ := dIsDeed (P := P) (w := w) (base := base) D B
  obtain ⟨tm, mN⟩ := B.mDe
  have N := B.N
  have nd := scIsDeeds.nd
  refine def_of B.ids fun f fd F => ?_
  refine F.ok scIsDeeds (fun vs H Q E h => ?_) (fun cdv A outer s H vs Q E hr h => ?_)
  · obtain ⟨a, b, fo, us, ds, rfl, _⟩ := h
    rfl
  · obtain ⟨a, b, fo, us, ds, rfl, hF, hb, hP, hp, hl, k⟩ := h
    refine ⟨_, pss_cons (ps_if (PW.pt (pw_or (pt_not (pt_val (pe_callB call_isiT (by rfl) N.is.inst (by decide +kernel) (pa_cons (pv 1) (pa_cons (pe_tup (pa_cons (pe_bltn (v := .ty "list") (by rfl) N.is.lst (by decide +kernel) rfl) (pa_cons (pe_bltn (v := .ty "tuple") (by rfl) N.is.tup (by decide +kernel) rfl) pa_nil))) pa_nil)))))
          (pw_or1 (pt_cmpR op_gt (pe_callB call_len_seq (by rfl) N.is.len PySem.boot_len (pa_cons (pv 1) pa_nil)) (pe_glob (v := .int 20) (by rfl) mN ⟨_, rfl⟩) (nomark _))))) (pss_one ps_never) pss_nil)
      (pss_one (ps_ret (pe_callB (r := rAll K) (cr_all rfl) (by rfl) N.is.all (by decide +kernel) (pa_cons (pe_lc (own := [("item", 2)]) (g := gName 2) (tt := tYes) rfl nd (show PI _ _ _ (iSeq K 1) from PI.orr (pi_list (pv 1)) (pi_tup (pv 1)))
          (blkOk_by (N := nIsDeeds) (sc := defScope sIsDeeds) (by decide +kernel)) (fun _ _ _ _ _ => pg_name (i := 2) nd rfl (Or.inl rfl)) (fun _ _ _ _ _ => pts_nil) (fun _ _ _ _ _ => pe_call GD hr (by rfl) gD kD bD .nil pass0 (pa_cons (pv 0) (pa_cons (pv 2) pa_nil)))) pa_nil)))), ?_⟩
    have ul : us.length = ds.length := Paired.length hP
    refine ⟨_, rfl, by show 2 ≤ sizeLine; decide, fun t1 m1 => ?_⟩
    have S1 := smUpd (o := .tup [.ty "list", .ty "tuple"]) m1
    have ht1 : upd H t1 (.tup [.ty "list", .ty "tuple"]) t1 = some (.tup [.ty "list", .ty "tuple"]) := upd_same
    generalize upd H t1 (.tup [.ty "list", .ty "tuple"]) = H1 at S1 ht1 ⊢
    obtain ⟨ty, hty, kty⟩ := seqTyB (K := K) (seqSame S1 hb)
    refine ⟨_, t1, _, _, _, true, rfl, ht1, .cons (.ty _) (.cons (.ty _) .nil), hty, kty, true, rfl, ?_⟩
    refine ifF (by decide) ?_
    refine ⟨_, rfl, b, _, rfl, seqSq (seqSame S1 hb), _, _, rfl, rfl, _, rfl, ?_⟩
    refine ifF (by rw [decide_eq_true_iff]; omega) ?_
    refine seqWalk rfl (seqSame S1 hb) (Same.refl _) fun J wk D2 nD2 => ?_
    refine anyWalk wk (fun i G => Same H1 G ∧ G D2 = some (.lst ((List.replicate i true).map V.bl))) ⟨smUpd nD2, upd_same⟩ (fun i G _ z => z.1) ?_ ?_
    · rintro i x G G2 hi ⟨sm, hD⟩ ⟨rfl, hx⟩
      obtain ⟨d, hd, hv⟩ := pairedGetQ hP hx
      refine ⟨rfl, _, rfl, _, rfl, a, x, fo, d, rfl, foAt_same (S1.trans sm) hF, deedSame (S1.trans sm) hv, hp d (List.mem_of_getElem? hd), ?_⟩
      exact ⟨_, hD, small1000 (by rw [List.length_map, List.length_replicate]; omega), smOver nD2 sm, by rw [upd_same, List.replicate_succ', List.map_append]; rfl⟩
    · rintro G ⟨sm, hD⟩
      refine ⟨D2, List.replicate us.length true, rfl, .inl (.inl hD), ?_⟩
      rw [allRep]
      exact k _ (S1.trans sm)
/-- turns -/
def spIsTurns : Sp := fun vs H Q _ => ∃ (a b : Addr) (us : List V) (ts : List Nat), vs = [.ref a, .ref b] ∧ SeqH H a us ∧ us.length ≤ 20 ∧ SeqH H b (ts.map vn) ∧ (∀ k ∈ ts, k < us.length) ∧ ts.length ≤ 400 ∧ ∀ H', Same H H' → Q (.bl true) H'
def nIsTurns : List Str := ["deeds", "thing", "item"]
theorem scIsTurns : FnScope nIsTurns ["deeds", "thing"] (defScope sIsTurns) := ⟨rfl, rfl, rfl, by decide +kernel, rfl, by decide +kernel, by decide +kernel⟩
theorem dIsTurns (B : Defs K mg C) : Def P w K mg base "_is_turns" 3 ["deeds", "thing"] spIsTurns := by
  obtain ⟨fD, fdD, GD, gD, kD, bD⟩ := dBtw (P := P) (w := w) (base := base) B
  obtain ⟨tm, mN⟩ := B.mTu
  have N := B.N
  have nd := scIsTurns.nd
  refine def_of B.itn fun f fd F => ?_
  refine F.ok scIsTurns (fun vs H Q E h => ?_) (fun cdv A outer s H vs Q E hr h => ?_)
  · obtain ⟨a, b, us, ts, rfl, _⟩ := h
    rfl
  · obtain ⟨a, b, us, ts, rfl, ha, hul, hb, ht, hl, k⟩ := h
    refine ⟨_, pss_cons (ps_if (PW.pt (pw_or (pt_not (pt_val (pe_callB call_isiT (by rfl) N.is.inst (by decide +kernel) (pa_cons (pv 1) (pa_cons (pe_tup (pa_cons (pe_bltn (v := .ty "list") (by rfl) N.is.lst (by decide +kernel) rfl) (pa_cons (pe_bltn (v := .ty "tuple") (by rfl) N.is.tup (by decide +kernel) rfl) pa_nil))) pa_nil)))))
          (pw_or1 (pt_cmpR op_gt (pe_callB call_len_seq (by rfl) N.is.len PySem.boot_len (pa_cons (pv 1) pa_nil)) (pe_glob (v := .int 400) (by rfl) mN ⟨_, rfl⟩) (nomark _))))) (pss_one ps_never) pss_nil)
      (pss_one (ps_ret (pe_callB (r := rAll K) (cr_all rfl) (by rfl) N.is.all (by decide +kernel) (pa_cons (pe_lc (own := [("item", 2)]) (g := gName 2) (tt := tYes) rfl nd (show PI _ _ _ (iSeq K 1) from PI.orr (pi_list (pv 1)) (pi_tup (pv 1)))
          (blkOk_by (N := nIsTurns) (sc := defScope sIsTurns) (by decide +kernel)) (fun _ _ _ _ _ => pg_name (i := 2) nd rfl (Or.inl rfl)) (fun _ _ _ _ _ => pts_nil) (fun _ _ _ _ _ => pe_call GD hr (by rfl) gD kD bD .nil pass0 (pa_cons (pv 2) (pa_cons pe_int (pa_cons (pe_op op_sub (pe_callB (r := rLenQ K) len_q (by rfl) N.is.len PySem.boot_len (pa_cons (pv 0) pa_nil)) pe_int) pa_nil))))) pa_nil)))), ?_⟩
    refine ⟨_, rfl, by show 2 ≤ sizeLine; decide, fun t1 m1 => ?_⟩
    have S1 := smUpd (o := .tup [.ty "list", .ty "tuple"]) m1
    have ht1 : upd H t1 (.tup [.ty "list", .ty "tuple"]) t1 = some (.tup [.ty "list", .ty "tuple"]) := upd_same
    generalize upd H t1 (.tup [.ty "list", .ty "tuple"]) = H1 at S1 ht1 ⊢
    obtain ⟨ty, hty, kty⟩ := seqTyB (K := K) (seqSame S1 hb)
    refine ⟨_, t1, _, _, _, true, rfl, ht1, .cons (.ty _) (.cons (.ty _) .nil), hty, kty, true, rfl, ?_⟩
    refine ifF (by decide) ?_
    refine ⟨_, rfl, b, _, rfl, seqSq (seqSame S1 hb), _, _, rfl, rfl, _, rfl, ?_⟩
    refine ifF (by rw [decide_eq_true_iff, List.length_map]; omega) ?_
    refine seqWalk rfl (seqSame S1 hb) (Same.refl _) fun J wk D2 nD2 => ?_
    refine anyWalk wk (fun i G => Same H1 G ∧ G D2 = some (.lst ((List.replicate i true).map V.bl))) ⟨smUpd nD2, upd_same⟩ (fun i G _ z => z.1) ?_ ?_
    · rintro i x G G2 hi ⟨sm, hD⟩ ⟨rfl, hx⟩
      obtain ⟨n, hn, rfl⟩ := vn_get hx
      have hnl := ht n (List.mem_of_getElem? hn)
      rw [List.length_map] at hi
      refine ⟨rfl, _, rfl, _, rfl, a, _, rfl, seqSq (seqSame (S1.trans sm) ha), _, _, rfl, rfl, (n : Int), _, _, rfl, ?_⟩
      rw [decide_eq_true (show (0 : Int) ≤ (n : Int) ∧ (n : Int) ≤ ((us.length : Nat) : Int) - 1 by omega)]
      exact ⟨_, hD, small1000 (by rw [List.length_map, List.length_replicate]; omega), smOver nD2 sm, by rw [upd_same, List.replicate_succ', List.map_append]; rfl⟩
    · rintro G ⟨sm, hD⟩
      rw [List.length_map] at hD
      refine ⟨D2, List.replicate ts.length true, rfl, .inl (.inl hD), ?_⟩
      rw [allRep]
      exact k _ (S1.trans sm)
end
end Cn
namespace Cn
open PySem PySem.Spec PyProof.Rows L2 Ck
/-! a loom -/
def EvGAt {α : Type} (D : Dom α) (H : Hp) (v : V) : EvG α → Prop
  | .chg k p a => ∃ t x, v = .ref t ∧ H t = some (.tup [.str "change", vn k, vn p, x]) ∧ D.rep H x a
  | .ask k p => ∃ t, v = .ref t ∧ H t = some (.tup [.str "ask", vn k, vn p])
  | .don k => ∃ t, v = .ref t ∧ H t = some (.tup [.str "done", vn k])
  | .tld k a => ∃ t x, v = .ref t ∧ H t = some (.tup [.str "told", vn k, x]) ∧ D.opt H x a
theorem Dom.optKeep {α : Type} (D : Dom α) {H H' : Hp} {v : V} {a : Option α} (k : ∀ t xs, H t = some (.tup xs) → H' t = some (.tup xs)) (h : D.opt H v a) : D.opt H' v a := by
  cases a with
  | none => exact h
  | some a => exact D.keep k h
theorem evgKeep {α : Type} {D : Dom α} {H H' : Hp} {v : V} {e : EvG α} (k : ∀ t xs, H t = some (.tup xs) → H' t = some (.tup xs)) (h : EvGAt D H v e) : EvGAt D H' v e := by
  cases e with
  | chg i p a =>
    obtain ⟨t, x, h1, h2, h3⟩ := h
    exact ⟨t, x, h1, k _ _ h2, D.keep k h3⟩
  | ask i p =>
    obtain ⟨t, h1, h2⟩ := h
    exact ⟨t, h1, k _ _ h2⟩
  | don i =>
    obtain ⟨t, h1, h2⟩ := h
    exact ⟨t, h1, k _ _ h2⟩
  | tld i a =>
    obtain ⟨t, x, h1, h2, h3⟩ := h
    exact ⟨t, x, h1, k _ _ h2, D.optKeep k h3⟩
/-- tuples stay -/
def TK (H H' : Hp) : Prop := ∀ t xs, H t = some (.tup xs) → H' t = some (.tup xs)
theorem tkSame {H H' : Hp} (s : Same H H') : TK H H' := fun t xs e => s _ _ e
theorem tkUpd {H : Hp} {b : Addr} {o o2 : HO} (hb : H b = some o) (no : ∀ xs, o ≠ .tup xs) : TK H (upd H b o2) := fun t xs e => by
  rw [upd_ne (fun z => by rw [z, hb] at e; exact no xs (Option.some.inj e))]
  exact e
theorem TK.trans {H H1 H2 : Hp} (a : TK H H1) (b : TK H1 H2) : TK H H2 := fun t xs e => b t xs (a t xs e)
def NtAt (H : Hp) (nn : Addr) (nt : NtL) : Prop := ∃ kvs : List (L2.Key × V), Rd H nn (.dK kvs) ∧ ByPlace H kvs nt
theorem byPlaceTK {H H' : Hp} {kvs : List (L2.Key × V)} {l : List (Nat × (List Nat × List Nat))} (k : TK H H') (h : ByPlace H kvs l) : ByPlace H' kvs l := Paired.mapP h fun _ _ z => ⟨z.1, by
  obtain ⟨t, x, y, h1, h2, h3, h4⟩ := z.2
  exact ⟨t, x, y, h1, k _ _ h2, k _ _ h3, k _ _ h4⟩⟩
theorem ntGet {H : Hp} {kvs : List (L2.Key × V)} {nt : NtL} (h : ByPlace H kvs nt) (nd : (nt.map fun e => e.1).Nodup) {s : Nat} (hs : s ∈ nt.map fun e => e.1) : ∃ (t x y : Addr) (rs : List Nat), valV kvs (.inl (s : Int)) = some (.ref t) ∧ H t = some (.tup [.ref x, .ref y]) ∧ TN H x (placesN nt s) ∧ TN H y rs := by
  obtain ⟨e, he, rfl⟩ := List.mem_map.mp hs
  obtain ⟨i, hi⟩ := List.getElem?_of_mem he
  have hk : ∃ kv, kvs[i]? = some kv := ⟨kvs[i]'(by rw [Paired.length h]; exact (List.getElem?_eq_some_iff.mp hi).1), List.getElem?_eq_getElem _⟩
  obtain ⟨⟨kk, v⟩, hk⟩ := hk
  obtain ⟨e', he', hke, t, x, y, rfl, h2, h3, h4⟩ := byPlaceAt h hk
  rw [hi] at he'
  cases he'
  subst hke
  exact ⟨t, x, y, e.2.2, byPlaceGet h nd hk, h2, by rw [placesN_of nd he]; exact h3, h4⟩
def AmsAt {α : Type} (D : Dom α) (H : Hp) (am : Addr) (amf : Nat → α) (ps : List Nat) (n : Nat) : Prop := ∃ kvs : List (L2.Key × V), H am = some (.dK kvs) ∧ kvs.length ≤ n ∧ ∀ q ∈ ps, ∃ v, valV kvs (.inl (q : Int)) = some v ∧ D.rep H v (amf q)
theorem amsTK {α : Type} {D : Dom α} {H H' : Hp} {am : Addr} {amf : Nat → α} {ps : List Nat} {n : Nat} (k : TK H H') (e : ∀ kvs, H am = some (.dK kvs) → H' am = some (.dK kvs)) (h : AmsAt D H am amf ps n) : AmsAt D H' am amf ps n := by
  obtain ⟨kvs, h1, hl, h2⟩ := h
  refine ⟨kvs, e _ h1, hl, fun q hq => ?_⟩
  obtain ⟨v, h3, h4⟩ := h2 q hq
  exact ⟨v, h3, D.keep k h4⟩
def fieldsLo (nn am g sm ev hd rd : Addr) : List (Str × V) := [("notes", .ref nn), ("amounts", .ref am), ("adding", .ref g), ("sums", .ref sm), ("events", .ref ev), ("ahead", .ref hd), ("read", .ref rd)]
section
variable {P : Program} {w : World} {K : PySem.W.Frag} {mg : Str → Option Value} {base : Heap} {C Z : Addr}
/-- what the places of a note hold together -/
def spLoP {α : Type} (P : Program) (w : World) (K : PySem.W.Frag) (mg : Str → Option Value) (base : Heap) (Z : Addr) (D : Dom α) : Sp := fun vs H Q _ => ∃ (p dx nn am g : Addr) (fs : List (Str × V)) (nt : NtL) (s n m : Nat) (amf : Nat → α) (ad : α → α → α), vs = [.ref p, vn s] ∧ H p = some (.ins Z dx fs) ∧ fs.lookup ("notes" : Str) = some (.ref nn) ∧ fs.lookup ("amounts" : Str) = some (.ref am) ∧ fs.lookup ("adding" : Str) = some (.ref g) ∧
  AddG P w K mg base D g ad ∧ NtAt H nn nt ∧ (nt.map fun e => e.1).Nodup ∧ s ∈ nt.map (fun e => e.1) ∧ AmsAt D H am amf (placesN nt s) n ∧ placesN nt s ≠ [] ∧ (placesN nt s).length ≤ 60 ∧ (∀ q ∈ placesN nt s, D.sz (amf q) ≤ m) ∧ m ≤ 1000 ∧
  ∀ v H', Same H H' → D.rep H' v (sumP ad amf (placesN nt s)) → Q v H'
def nLoP : List Str := ["self", "s", "i"]
theorem scLoP : FnScope nLoP ["self", "s"] (defScope sLo_put_together) := ⟨rfl, rfl, rfl, by decide +kernel, rfl, by decide +kernel, by decide +kernel⟩
theorem dLoP {α : Type} (D : Dom α) (B : Defs K mg C) (U : LoT K mg Z) : ∃ f fd, FnOk P w K mg base CX0 3 f fd ["self", "s"] (spLoP P w K mg base Z D) ∧ Meth K Z "put_together" f ∧ Binds K fd ["self", "s"] [] := by
  obtain ⟨fT, fdT, GT, gT, kT, bT⟩ := dTogt (P := P) (w := w) (base := base) D B
  obtain ⟨f, fd, F, M, b⟩ := U.m_put_together
  have N := B.N
  have nd := scLoP.nd
  refine ⟨f, fd, ?_, M, b⟩
  refine F.ok scLoP (fun vs H Q E h => ?_) (fun cdv A outer s H vs Q E hr h => ?_)
  · obtain ⟨p, dx, nn, am, g, fs, nt, s, n, m, amf, ad, rfl, _⟩ := h
    rfl
  · obtain ⟨p, dx, nn, am, g, fs, nt, sx, n, m, amf, ad, rfl, hp, lN, lM, lA, hAd, ⟨kvN, hN, hB⟩, ndN, hs, ⟨kvA, hA, hAl, hAv⟩, hne, h60, hm, hm1, k⟩ := h
    have hu : (A.deeper (envOfC "Loom.put_together" (defScope sLo_put_together) s.heap.objs.size f cdv)).units + 1 < cLine := by have := hr.units; omega
    refine ⟨_, pss_one (ps_ret (pe_call GT hr (by rfl) gT kT bT .nil pass0 (pa_cons (pe_fld (pv 0) rfl) (pa_cons (pe_lc (own := [("i", 2)]) (g := gName 2) (tt := tYes) (te := tDGet (tFld K (tVar 0) "amounts") (tVar 2)) rfl nd (pi_tup (pe_ix ix_tup (pe_dget hu (pe_fld (pv 0) rfl) (pv 1) (fun _ _ => rfl)) pe_int (fun _ _ => rfl)))
        (blkOk_by (N := nLoP) (sc := defScope sLo_put_together) (by decide +kernel)) (fun _ _ _ _ _ => pg_name (i := 2) nd rfl (Or.inl rfl)) (fun _ _ _ _ _ => pts_nil) (fun _ _ _ _ _ => pe_dget hu (pe_fld (pv 0) rfl) (pv 2) (fun _ _ => rfl))) pa_nil)))), ?_⟩
    obtain ⟨t, x, y, rs, hv, ht, hx, hy⟩ := ntGet hB ndN hs
    refine ⟨_, rfl, p, Z, dx, fs, _, rfl, hp, U.cl, U.n_adding, lA, _, rfl, p, Z, dx, fs, _, rfl, hp, U.cl, U.n_notes, lN, _, rfl, nn, .ref t, rfl, .inl ⟨kvN, .inl (sx : Int), hN, rfl, hv.symm⟩, t, _, (0 : Int), _, rfl, rfl, .inl (.inl ht), rfl, x, rfl, ⟨_, tnL hx⟩, fun D2 nD2 => ?_⟩
    refine anyWalk (walk_tup (xs := (placesN nt sx).map vn)) (fun j J => Same H J ∧ ∃ us, J D2 = some (.lst us) ∧ Paired (D.rep J) us (((placesN nt sx).take j).map amf)) ⟨smUpd nD2, [], upd_same, .nil⟩ (fun j J _ z => tnL (z.1 _ _ hx)) ?_ ?_
    · rintro j v0 J J' hj ⟨sj, us, hD, hP⟩ ⟨rfl, hv0⟩
      obtain ⟨q, hq, rfl⟩ := vn_get hv0
      rw [List.length_map] at hj
      obtain ⟨v, hv1, hv2⟩ := hAv q (List.mem_of_getElem? hq)
      have ul := Paired.length hP
      rw [List.length_map, List.length_take] at ul
      refine ⟨rfl, _, rfl, p, Z, dx, fs, _, rfl, sj _ _ hp, U.cl, U.n_amounts, lM, _, rfl, am, v, rfl, .inl ⟨kvA, .inl (q : Int), .inl (sj _ _ hA), rfl, hv1.symm⟩, us, hD, small1000 (by omega), smOver nD2 sj, us ++ [v], upd_same, ?_⟩
      rw [List.take_add_one, hq, List.map_append]
      exact paired_snoc (D.allUpd hD (fun xs z => by cases z) hP) (D.upd hD (fun xs z => by cases z) (D.same sj hv2))
    rintro J ⟨sj, us, hD, hP⟩
    rw [List.length_map, List.take_length] at hP
    refine ⟨g, D2, ad, us, (placesN nt sx).map amf, m, rfl, hAd, hD, hP, fun z hz => ?_, ?_, fun v H' s' hv' => ?_⟩
    · obtain ⟨q, hq, rfl⟩ := List.mem_map.mp hz
      exact hm q hq
    · rw [List.length_map]
      have : (placesN nt sx).length * m ≤ 60 * 1000 := Nat.mul_le_mul h60 hm1
      omega
    · rw [tog_sum hne] at hv'
      exact k v H' (sj.trans s') hv'
/-- where a loom's things are -/
structure LoA where
  p : Addr
  dx : Addr
  nn : Addr
  am : Addr
  g : Addr
  sm : Addr
  ev : Addr
  hd : Addr
  rd : Addr
  fh : Nat → Addr
  fr : Nat → Addr
/-- a loom, as it stands; F are the addresses that are its own -/
structure LoomAt {α : Type} (Z : Addr) (D : Dom α) (F : Addr → Prop) (nt : NtL) (be : List Nat) (ds : List (Deed α)) (n : Nat) (X : LoA) (st : Lm α) (H : Hp) : Prop where
  ins : H X.p = some (.ins Z X.dx (fieldsLo X.nn X.am X.g X.sm X.ev X.hd X.rd))
  free : ∀ b, H b = none → F b
  own : F X.am ∧ F X.sm ∧ F X.ev ∧ F X.hd ∧ F X.rd
  notes : ∃ kvs : List (L2.Key × V), H X.nn = some (.dK kvs) ∧ ByPlace H kvs nt
  amts : AmsAt D H X.am st.am be 100
  sums : AmsAt D H X.sm st.sm (nt.map fun e => e.1) 100
  evs : ∃ us, H X.ev = some (.lst us) ∧ Paired (EvGAt D H) us st.ev
  heads : ∃ kvs : List (L2.Key × V), H X.hd = some (.dK kvs) ∧ kvs.length ≤ n ∧ ∀ k : Nat, (st.hd k = none → valV kvs (.inl (k : Int)) = none) ∧ ∀ r, st.hd k = some r → valV kvs (.inl (k : Int)) = some (.ref (X.fh k)) ∧ H (X.fh k) = some (.lst (r.map vn)) ∧ F (X.fh k) ∧ X.fh k ≠ X.ev ∧ r.length ≤ 60
  reads : ∃ kvs : List (L2.Key × V), H X.rd = some (.dK kvs) ∧ kvs.length ≤ n ∧ ∀ k q : Nat, st.hd k ≠ none → ds[k]? = some (.ask q) → valV kvs (.inl (k : Int)) = some (.ref (X.fr k)) ∧ (∃ us, H (X.fr k) = some (.lst us) ∧ us.length ≤ n ∧ Paired (D.rep H) us (st.rd k)) ∧ F (X.fr k) ∧ X.fr k ≠ X.ev
  ih : ∀ k k', st.hd k ≠ none → st.hd k' ≠ none → X.fh k = X.fh k' → k = k'
  ir : ∀ k k' q q', st.hd k ≠ none → st.hd k' ≠ none → ds[k]? = some (.ask q) → ds[k']? = some (.ask q') → X.fr k = X.fr k' → k = k'
  ihr : ∀ k k' q, st.hd k ≠ none → st.hd k' ≠ none → ds[k']? = some (.ask q) → X.fh k ≠ X.fr k'
  dis : X.am ≠ X.sm ∧ X.am ≠ X.hd ∧ X.am ≠ X.rd ∧ X.sm ≠ X.hd ∧ X.sm ≠ X.rd ∧ X.hd ≠ X.rd ∧ X.nn ≠ X.am ∧ X.nn ≠ X.sm ∧ X.nn ≠ X.hd ∧ X.nn ≠ X.rd
def KeptOut (F : Addr → Prop) (H H' : Hp) : Prop := ∀ b o, ¬ F b → H b = some o → H' b = some o
theorem KeptOut.trans {F : Addr → Prop} {H H1 H2 : Hp} (a : KeptOut F H H1) (b : KeptOut F H1 H2) : KeptOut F H H2 := fun c o n e => b c o n (a c o n e)
theorem keptSame {F : Addr → Prop} {H H' : Hp} (s : Same H H') : KeptOut F H H' := fun b o _ e => s b o e
theorem keptUpd {F : Addr → Prop} {H : Hp} {b : Addr} {o : HO} (hb : F b) : KeptOut F H (upd H b o) := fun c u n e => by
  rw [upd_ne (fun z => n (by rw [z]; exact hb))]
  exact e
/-- what is new lies beside it -/
theorem LoomAt.same {α : Type} {Z : Addr} {D : Dom α} {F : Addr → Prop} {nt : NtL} {be : List Nat} {ds : List (Deed α)} {n : Nat} {X : LoA} {st : Lm α} {H H' : Hp} (L : LoomAt Z D F nt be ds n X st H) (s : Same H H') : LoomAt Z D F nt be ds n X st H' :=
  { ins := s _ _ L.ins, free := fun b e => L.free b (by
      cases q : H b with
      | none => rfl
      | some o => rw [s _ _ q] at e; cases e),
    own := L.own, ih := L.ih, ir := L.ir, ihr := L.ihr, dis := L.dis,
    notes := by obtain ⟨kvs, h1, h2⟩ := L.notes; exact ⟨kvs, s _ _ h1, byPlaceSame s h2⟩,
    amts := amsTK (tkSame s) (fun _ e => s _ _ e) L.amts, sums := amsTK (tkSame s) (fun _ e => s _ _ e) L.sums,
    evs := by obtain ⟨us, h1, h2⟩ := L.evs; exact ⟨us, s _ _ h1, Paired.mapP h2 fun _ _ z => evgKeep (tkSame s) z⟩,
    heads := by
      obtain ⟨kvs, h1, hl, h2⟩ := L.heads
      refine ⟨kvs, s _ _ h1, hl, fun k => ⟨(h2 k).1, fun r hr => ?_⟩⟩
      obtain ⟨a, b, c⟩ := (h2 k).2 r hr
      exact ⟨a, s _ _ b, c⟩,
    reads := by
      obtain ⟨kvs, h1, hl, h2⟩ := L.reads
      refine ⟨kvs, s _ _ h1, hl, fun k q hk hd => ?_⟩
      obtain ⟨a, ⟨us, b1, b2, b3⟩, c⟩ := h2 k q hk hd
      exact ⟨a, ⟨us, s _ _ b1, b2, D.all s b3⟩, c⟩ }
end
end Cn
namespace Cn
open PySem PySem.Spec PyProof.Rows L2 Ck
/-! a loom, write by write -/
theorem putK_old {kvs : List (L2.Key × V)} {k : L2.Key} {v w : V} (h : valV kvs k = some w) : (putK kvs k v).length = kvs.length := by
  have e : (kvs.any fun kv => decide (kv.1 = k)) = true := by rw [valV_any, h]; rfl
  unfold putK
  rw [if_pos e, List.length_map]
theorem neK {H : Hp} {a b : Addr} {o u : HO} (h1 : H a = some o) (h2 : H b = some u) (n : o ≠ u) : a ≠ b := fun z => by
  rw [z, h2] at h1
  exact n (Option.some.inj h1).symm
section
variable {α : Type} {Z : Addr} {D : Dom α} {F : Addr → Prop} {nt : NtL} {be : List Nat} {ds : List (Deed α)} {n : Nat} {X : LoA} {st : Lm α} {H : Hp}
theorem LoomAt.mono {n' : Nat} (L : LoomAt Z D F nt be ds n X st H) (h : n ≤ n') : LoomAt Z D F nt be ds n' X st H :=
  { L with
    heads := by obtain ⟨kvs, h1, hl, h2⟩ := L.heads; exact ⟨kvs, h1, Nat.le_trans hl h, h2⟩,
    reads := by
      obtain ⟨kvs, h1, hl, h2⟩ := L.reads
      refine ⟨kvs, h1, Nat.le_trans hl h, fun k q hk hd => ?_⟩
      obtain ⟨a, ⟨us, b1, b2, b3⟩, c⟩ := h2 k q hk hd
      exact ⟨a, ⟨us, b1, Nat.le_trans b2 h, b3⟩, c⟩ }
theorem freeU {b : Addr} {o u : HO} (hb : H b = some u) (L : ∀ c, H c = none → F c) : ∀ c, upd H b o c = none → F c := fun c z => by
  by_cases e : c = b
  · rw [e, upd_same] at z; cases z
  · rw [upd_ne e] at z; exact L c z
/-- an event more -/
theorem LoomAt.evt (L : LoomAt Z D F nt be ds n X st H) {us : List V} (hus : H X.ev = some (.lst us)) {v : V} {e : EvG α} (he : EvGAt D H v e) : LoomAt Z D F nt be ds n X { st with ev := st.ev ++ [e] } (upd H X.ev (.lst (us ++ [v]))) := by
  have tk : TK H (upd H X.ev (.lst (us ++ [v]))) := tkUpd hus fun xs z => by cases z
  have dk : ∀ {a : Addr} {kvs : List (L2.Key × V)}, H a = some (.dK kvs) → upd H X.ev (.lst (us ++ [v])) a = some (.dK kvs) := fun h => by rw [upd_ne (neK h hus fun z => by cases z)]; exact h
  exact { L with
    ins := by rw [upd_ne (neK L.ins hus fun z => by cases z)]; exact L.ins,
    free := freeU hus L.free,
    notes := by obtain ⟨kvs, h1, h2⟩ := L.notes; exact ⟨kvs, dk h1, byPlaceTK tk h2⟩,
    amts := amsTK tk (fun _ e => dk e) L.amts, sums := amsTK tk (fun _ e => dk e) L.sums,
    evs := by
      obtain ⟨us', h1, h2⟩ := L.evs
      rw [hus] at h1
      cases h1
      exact ⟨_, upd_same, paired_snoc (Paired.mapP h2 fun _ _ z => evgKeep tk z) (evgKeep tk he)⟩,
    heads := by
      obtain ⟨kvs, h1, hl, h2⟩ := L.heads
      refine ⟨kvs, dk h1, hl, fun k => ⟨(h2 k).1, fun r hr => ?_⟩⟩
      obtain ⟨a, b, c, d, e⟩ := (h2 k).2 r hr
      exact ⟨a, by rw [upd_ne d]; exact b, c, d, e⟩,
    reads := by
      obtain ⟨kvs, h1, hl, h2⟩ := L.reads
      refine ⟨kvs, dk h1, hl, fun k q hk hd => ?_⟩
      obtain ⟨a, ⟨us, b1, b2, b3⟩, c, d⟩ := h2 k q hk hd
      exact ⟨a, ⟨us, by rw [upd_ne d]; exact b1, b2, Paired.mapP b3 fun _ _ z => D.keep tk z⟩, c, d⟩ }
/-- an amount is set -/
theorem LoomAt.amt (L : LoomAt Z D F nt be ds n X st H) {kvs : List (L2.Key × V)} (hk : H X.am = some (.dK kvs)) {q : Nat} (hq : q ∈ be) {v : V} {a : α} (hv : D.rep H v a) : LoomAt Z D F nt be ds n X { st with am := fun i => if i = q then a else st.am i } (upd H X.am (.dK (putK kvs (.inl (q : Int)) v))) := by
  have tk : TK H (upd H X.am (.dK (putK kvs (.inl (q : Int)) v))) := tkUpd hk fun xs z => by cases z
  have ls : ∀ {b : Addr} {xs : List V}, H b = some (.lst xs) → upd H X.am (.dK (putK kvs (.inl (q : Int)) v)) b = some (.lst xs) := fun h => by rw [upd_ne (neK h hk fun z => by cases z)]; exact h
  obtain ⟨d1, d2, d3, d4, d5, d6, d7, d8, d9, d10⟩ := L.dis
  have ot : ∀ {b : Addr} {o : HO}, b ≠ X.am → H b = some o → upd H X.am (.dK (putK kvs (.inl (q : Int)) v)) b = some o := fun n h => by rw [upd_ne n]; exact h
  exact { L with
    ins := by rw [upd_ne (neK L.ins hk fun z => by cases z)]; exact L.ins,
    free := freeU hk L.free,
    notes := by obtain ⟨kvs, h1, h2⟩ := L.notes; exact ⟨kvs, ot d7 h1, byPlaceTK tk h2⟩,
    amts := by
      obtain ⟨kvs', h1, hl, h2⟩ := L.amts
      rw [hk] at h1
      cases h1
      refine ⟨_, upd_same, ?_, fun i hi => ?_⟩
      · obtain ⟨w, hw, _⟩ := h2 q hq
        rw [putK_old hw]
        exact hl
      · rw [valV_put]
        show ∃ x, _ ∧ D.rep _ x (if i = q then a else st.am i)
        by_cases c : i = q
        · rw [if_pos (by rw [c]), if_pos c]
          exact ⟨v, rfl, D.keep tk hv⟩
        · rw [if_neg (fun z => c (by injection z with z; omega)), if_neg c]
          obtain ⟨w, hw, hw2⟩ := h2 i hi
          exact ⟨w, hw, D.keep tk hw2⟩,
    sums := amsTK tk (fun _ e => ot d1.symm e) L.sums,
    evs := by obtain ⟨us, h1, h2⟩ := L.evs; exact ⟨us, ls h1, Paired.mapP h2 fun _ _ z => evgKeep tk z⟩,
    heads := by
      obtain ⟨kvs, h1, hl, h2⟩ := L.heads
      refine ⟨kvs, ot d2.symm h1, hl, fun k => ⟨(h2 k).1, fun r hr => ?_⟩⟩
      obtain ⟨a, b, c⟩ := (h2 k).2 r hr
      exact ⟨a, ls b, c⟩,
    reads := by
      obtain ⟨kvs, h1, hl, h2⟩ := L.reads
      refine ⟨kvs, ot d3.symm h1, hl, fun k q hk hd => ?_⟩
      obtain ⟨a, ⟨us, b1, b2, b3⟩, c⟩ := h2 k q hk hd
      exact ⟨a, ⟨us, ls b1, b2, Paired.mapP b3 fun _ _ z => D.keep tk z⟩, c⟩ }
/-- a sum is set -/
theorem LoomAt.sumS (L : LoomAt Z D F nt be ds n X st H) {kvs : List (L2.Key × V)} (hk : H X.sm = some (.dK kvs)) {s : Nat} (hs : s ∈ nt.map fun e => e.1) {v : V} {a : α} (hv : D.rep H v a) : LoomAt Z D F nt be ds n X { st with sm := fun i => if i = s then a else st.sm i } (upd H X.sm (.dK (putK kvs (.inl (s : Int)) v))) := by
  have tk : TK H (upd H X.sm (.dK (putK kvs (.inl (s : Int)) v))) := tkUpd hk fun xs z => by cases z
  have ls : ∀ {b : Addr} {xs : List V}, H b = some (.lst xs) → upd H X.sm (.dK (putK kvs (.inl (s : Int)) v)) b = some (.lst xs) := fun h => by rw [upd_ne (neK h hk fun z => by cases z)]; exact h
  obtain ⟨d1, d2, d3, d4, d5, d6, d7, d8, d9, d10⟩ := L.dis
  have ot : ∀ {b : Addr} {o : HO}, b ≠ X.sm → H b = some o → upd H X.sm (.dK (putK kvs (.inl (s : Int)) v)) b = some o := fun n h => by rw [upd_ne n]; exact h
  exact { L with
    ins := by rw [upd_ne (neK L.ins hk fun z => by cases z)]; exact L.ins,
    free := freeU hk L.free,
    notes := by obtain ⟨kvs, h1, h2⟩ := L.notes; exact ⟨kvs, ot d8 h1, byPlaceTK tk h2⟩,
    sums := by
      obtain ⟨kvs', h1, hl, h2⟩ := L.sums
      rw [hk] at h1
      cases h1
      refine ⟨_, upd_same, ?_, fun i hi => ?_⟩
      · obtain ⟨w, hw, _⟩ := h2 s hs
        rw [putK_old hw]
        exact hl
      · rw [valV_put]
        show ∃ x, _ ∧ D.rep _ x (if i = s then a else st.sm i)
        by_cases c : i = s
        · rw [if_pos (by rw [c]), if_pos c]
          exact ⟨v, rfl, D.keep tk hv⟩
        · rw [if_neg (fun z => c (by injection z with z; omega)), if_neg c]
          obtain ⟨w, hw, hw2⟩ := h2 i hi
          exact ⟨w, hw, D.keep tk hw2⟩,
    amts := amsTK tk (fun _ e => ot d1 e) L.amts,
    evs := by obtain ⟨us, h1, h2⟩ := L.evs; exact ⟨us, ls h1, Paired.mapP h2 fun _ _ z => evgKeep tk z⟩,
    heads := by
      obtain ⟨kvs, h1, hl, h2⟩ := L.heads
      refine ⟨kvs, ot d4.symm h1, hl, fun k => ⟨(h2 k).1, fun r hr => ?_⟩⟩
      obtain ⟨a, b, c⟩ := (h2 k).2 r hr
      exact ⟨a, ls b, c⟩,
    reads := by
      obtain ⟨kvs, h1, hl, h2⟩ := L.reads
      refine ⟨kvs, ot d5.symm h1, hl, fun k q hk hd => ?_⟩
      obtain ⟨a, ⟨us, b1, b2, b3⟩, c⟩ := h2 k q hk hd
      exact ⟨a, ⟨us, ls b1, b2, Paired.mapP b3 fun _ _ z => D.keep tk z⟩, c⟩ }
/-- what is ahead has one less -/
theorem LoomAt.pop (L : LoomAt Z D F nt be ds n X st H) {k s : Nat} {r : List Nat} (hk : st.hd k = some (s :: r)) : LoomAt Z D F nt be ds n X { st with hd := fun i => if i = k then some r else st.hd i } (upd H (X.fh k) (.lst (r.map vn))) := by
  obtain ⟨kvs, h1, hl, h2⟩ := L.heads
  obtain ⟨a0, hb, c0, d0, e0⟩ := (h2 k).2 _ hk
  have kn : st.hd k ≠ none := by rw [hk]; exact fun z => nomatch z
  have tk : TK H (upd H (X.fh k) (.lst (r.map vn))) := tkUpd hb fun xs z => by cases z
  have dk : ∀ {a : Addr} {kvs : List (L2.Key × V)}, H a = some (.dK kvs) → upd H (X.fh k) (.lst (r.map vn)) a = some (.dK kvs) := fun h => by rw [upd_ne (neK h hb fun z => by cases z)]; exact h
  have act : ∀ i, (if i = k then some r else st.hd i) ≠ none → st.hd i ≠ none := fun i z => by
    by_cases c : i = k
    · rw [c]; exact kn
    · rw [if_neg c] at z; exact z
  exact { L with
    ins := by rw [upd_ne (neK L.ins hb fun z => by cases z)]; exact L.ins,
    free := freeU hb L.free,
    notes := by obtain ⟨kvs, h1, h2⟩ := L.notes; exact ⟨kvs, dk h1, byPlaceTK tk h2⟩,
    amts := amsTK tk (fun _ e => dk e) L.amts, sums := amsTK tk (fun _ e => dk e) L.sums,
    evs := by obtain ⟨us, h1, h2⟩ := L.evs; exact ⟨us, by rw [upd_ne d0.symm]; exact h1, Paired.mapP h2 fun _ _ z => evgKeep tk z⟩,
    heads := by
      refine ⟨kvs, dk h1, hl, fun i => ⟨fun z => ?_, fun r' hr => ?_⟩⟩
      · have z : (if i = k then some r else st.hd i) = none := z
        by_cases c : i = k
        · rw [if_pos c] at z; cases z
        · rw [if_neg c] at z; exact (h2 i).1 z
      · have hr : (if i = k then some r else st.hd i) = some r' := hr
        by_cases c : i = k
        · rw [if_pos c] at hr
          cases hr
          subst c
          exact ⟨a0, upd_same, c0, d0, Nat.le_trans (Nat.le_succ _) e0⟩
        · rw [if_neg c] at hr
          obtain ⟨a, b, cc, d, e⟩ := (h2 i).2 r' hr
          exact ⟨a, by rw [upd_ne (fun z => c (L.ih i k (by rw [hr]; exact fun z => nomatch z) kn z))]; exact b, cc, d, e⟩,
    reads := by
      obtain ⟨kvs, h1, hl, h3⟩ := L.reads
      refine ⟨kvs, dk h1, hl, fun i q hi hd => ?_⟩
      have hi := act i hi
      obtain ⟨a, ⟨us, b1, b2, b3⟩, c⟩ := h3 i q hi hd
      exact ⟨a, ⟨us, by rw [upd_ne (L.ihr k i q kn hi hd).symm]; exact b1, b2, Paired.mapP b3 fun _ _ z => D.keep tk z⟩, c⟩,
    ih := fun i j hi hj => L.ih i j (act i hi) (act j hj),
    ir := fun i j q q' hi hj => L.ir i j q q' (act i hi) (act j hj),
    ihr := fun i j q hi hj => L.ihr i j q (act i hi) (act j hj) }
/-- what was read has one more -/
theorem LoomAt.read (L : LoomAt Z D F nt be ds n X st H) {k q : Nat} (kn : st.hd k ≠ none) (hq : ds[k]? = some (.ask q)) {us : List V} (hb : H (X.fr k) = some (.lst us)) {v : V} {a : α} (hv : D.rep H v a) (hun : us.length + 1 ≤ n) : LoomAt Z D F nt be ds n X { st with rd := fun i => if i = k then st.rd k ++ [a] else st.rd i } (upd H (X.fr k) (.lst (us ++ [v]))) := by
  obtain ⟨kvr, g1, gl, g2⟩ := L.reads
  obtain ⟨a0, ⟨us0, b1, b2, b3⟩, c0, d0⟩ := g2 k q kn hq
  rw [hb] at b1
  cases b1
  have tk : TK H (upd H (X.fr k) (.lst (us ++ [v]))) := tkUpd hb fun xs z => by cases z
  have dk : ∀ {a : Addr} {kvs : List (L2.Key × V)}, H a = some (.dK kvs) → upd H (X.fr k) (.lst (us ++ [v])) a = some (.dK kvs) := fun h => by rw [upd_ne (neK h hb fun z => by cases z)]; exact h
  exact { L with
    ins := by rw [upd_ne (neK L.ins hb fun z => by cases z)]; exact L.ins,
    free := freeU hb L.free,
    notes := by obtain ⟨kvs, h1, h2⟩ := L.notes; exact ⟨kvs, dk h1, byPlaceTK tk h2⟩,
    amts := amsTK tk (fun _ e => dk e) L.amts, sums := amsTK tk (fun _ e => dk e) L.sums,
    evs := by obtain ⟨us, h1, h2⟩ := L.evs; exact ⟨us, by rw [upd_ne d0.symm]; exact h1, Paired.mapP h2 fun _ _ z => evgKeep tk z⟩,
    heads := by
      obtain ⟨kvs, h1, hl, h2⟩ := L.heads
      refine ⟨kvs, dk h1, hl, fun i => ⟨(h2 i).1, fun r hr => ?_⟩⟩
      obtain ⟨a, b, c⟩ := (h2 i).2 r hr
      exact ⟨a, by rw [upd_ne (L.ihr i k q (by rw [hr]; exact fun z => nomatch z) kn hq)]; exact b, c⟩,
    reads := by
      refine ⟨kvr, dk g1, gl, fun i q' hi hd => ?_⟩
      obtain ⟨a1, ⟨us1, b1, b4, b5⟩, c1, d1⟩ := g2 i q' hi hd
      show _ ∧ (∃ us, _ ∧ _ ∧ Paired _ us (if i = k then st.rd k ++ [a] else st.rd i)) ∧ _
      by_cases c : i = k
      · subst c
        rw [if_pos rfl]
        exact ⟨a1, ⟨_, upd_same, by rw [List.length_append]; exact hun, paired_snoc (Paired.mapP b3 fun _ _ z => D.keep tk z) (D.keep tk hv)⟩, c1, d1⟩
      · rw [if_neg c]
        exact ⟨a1, ⟨us1, by rw [upd_ne (fun z => c (L.ir i k q' q hi kn hd hq z))]; exact b1, b4, Paired.mapP b5 fun _ _ z => D.keep tk z⟩, c1, d1⟩ }
/-- a change is begun: its list -/
theorem LoomAt.hdC (L : LoomAt Z D F nt be ds n X st H) {kvs : List (L2.Key × V)} (hk : H X.hd = some (.dK kvs)) {k p : Nat} {x : α} {r : List Nat} {l : Addr} (kn : st.hd k = none) (hd : ds[k]? = some (.chg p x)) (hl : H l = some (.lst (r.map vn))) (hF : F l) (hle : l ≠ X.ev) (hr : r.length ≤ 60) (n1 : ∀ i, st.hd i ≠ none → X.fh i ≠ l) (n2 : ∀ i q, st.hd i ≠ none → ds[i]? = some (.ask q) → l ≠ X.fr i) :
    LoomAt Z D F nt be ds (n + 1) { X with fh := fun i => if i = k then l else X.fh i } { st with hd := fun i => if i = k then some r else st.hd i } (upd H X.hd (.dK (putK kvs (.inl (k : Int)) (.ref l)))) := by
  have tk : TK H (upd H X.hd (.dK (putK kvs (.inl (k : Int)) (.ref l)))) := tkUpd hk fun xs z => by cases z
  have ls : ∀ {b : Addr} {xs : List V}, H b = some (.lst xs) → upd H X.hd (.dK (putK kvs (.inl (k : Int)) (.ref l))) b = some (.lst xs) := fun h => by rw [upd_ne (neK h hk fun z => by cases z)]; exact h
  obtain ⟨d1, d2, d3, d4, d5, d6, d7, d8, d9, d10⟩ := L.dis
  have ot : ∀ {b : Addr} {o : HO}, b ≠ X.hd → H b = some o → upd H X.hd (.dK (putK kvs (.inl (k : Int)) (.ref l))) b = some o := fun n h => by rw [upd_ne n]; exact h
  have act : ∀ i, (if i = k then some r else st.hd i) ≠ none → i ≠ k → st.hd i ≠ none := fun i z c => by rw [if_neg c] at z; exact z
  have nA : ∀ i q, ds[i]? = some (.ask q) → i ≠ k := fun i q h c => by rw [c, hd] at h; cases h
  exact { L with
    ins := by rw [upd_ne (neK L.ins hk fun z => by cases z)]; exact L.ins,
    free := freeU hk L.free,
    notes := by obtain ⟨kvs, h1, h2⟩ := L.notes; exact ⟨kvs, ot d9 h1, byPlaceTK tk h2⟩,
    amts := amsTK tk (fun _ e => ot d2 e) L.amts, sums := amsTK tk (fun _ e => ot d4 e) L.sums,
    evs := by obtain ⟨us, h1, h2⟩ := L.evs; exact ⟨us, ls h1, Paired.mapP h2 fun _ _ z => evgKeep tk z⟩,
    heads := by
      obtain ⟨kvs', h1, hlen, h2⟩ := L.heads
      rw [hk] at h1
      cases h1
      refine ⟨_, upd_same, Nat.le_trans putKLen (by omega), fun i => ⟨fun z => ?_, fun r' hr' => ?_⟩⟩
      · have z : (if i = k then some r else st.hd i) = none := z
        by_cases c : i = k
        · rw [if_pos c] at z; cases z
        · rw [if_neg c] at z
          rw [valV_put, if_neg (fun z => c (by injection z with z; omega))]
          exact (h2 i).1 z
      · have hr' : (if i = k then some r else st.hd i) = some r' := hr'
        show valV _ _ = some (.ref (if i = k then l else X.fh i)) ∧ upd H X.hd _ (if i = k then l else X.fh i) = _ ∧ F (if i = k then l else X.fh i) ∧ (if i = k then l else X.fh i) ≠ X.ev ∧ _
        rw [valV_put]
        by_cases c : i = k
        · rw [if_pos c] at hr'
          cases hr'
          rw [if_pos (by rw [c]), if_pos c]
          exact ⟨rfl, ls hl, hF, hle, hr⟩
        · rw [if_neg c] at hr'
          rw [if_neg (fun z => c (by injection z with z; omega)), if_neg c]
          obtain ⟨a, b, cc⟩ := (h2 i).2 r' hr'
          exact ⟨a, ls b, cc⟩,
    reads := by
      obtain ⟨kvs, h1, hlen, h3⟩ := L.reads
      refine ⟨kvs, ot d6.symm h1, by omega, fun i q hi hd' => ?_⟩
      have hi := act i hi (nA i q hd')
      obtain ⟨a, ⟨us, b1, b2, b3⟩, c⟩ := h3 i q hi hd'
      exact ⟨a, ⟨us, ls b1, by omega, Paired.mapP b3 fun _ _ z => D.keep tk z⟩, c⟩,
    ih := fun i j hi hj z => by
      have z : (if i = k then l else X.fh i) = (if j = k then l else X.fh j) := z
      by_cases c : i = k
      · by_cases c2 : j = k
        · rw [c, c2]
        · rw [if_pos c, if_neg c2] at z
          exact absurd z.symm (n1 j (act j hj c2))
      · by_cases c2 : j = k
        · rw [if_neg c, if_pos c2] at z
          exact absurd z (n1 i (act i hi c))
        · rw [if_neg c, if_neg c2] at z
          exact L.ih i j (act i hi c) (act j hj c2) z,
    ir := fun i j q q' hi hj h1 h2 => L.ir i j q q' (act i hi (nA i q h1)) (act j hj (nA j q' h2)) h1 h2,
    ihr := fun i j q hi hj h1 => by
      show (if i = k then l else X.fh i) ≠ X.fr j
      have hj := act j hj (nA j q h1)
      by_cases c : i = k
      · rw [if_pos c]; exact n2 j q hj h1
      · rw [if_neg c]; exact L.ihr i j q (act i hi c) hj h1 }
/-- an ask is begun: its list, and nothing read -/
theorem LoomAt.hdA (L : LoomAt Z D F nt be ds n X st H) {kvs kvr : List (L2.Key × V)} (hk : H X.hd = some (.dK kvs)) (hkr : H X.rd = some (.dK kvr)) {k p : Nat} {r : List Nat} {l l2 : Addr} (kn : st.hd k = none) (hd : ds[k]? = some (.ask p)) (hl : H l = some (.lst (r.map vn))) (hF : F l) (hle : l ≠ X.ev) (hr : r.length ≤ 60) (n1 : ∀ i, st.hd i ≠ none → X.fh i ≠ l) (n2 : ∀ i q, st.hd i ≠ none → ds[i]? = some (.ask q) → l ≠ X.fr i)
    (h2 : H l2 = none) : LoomAt Z D F nt be ds (n + 1) { X with fh := fun i => if i = k then l else X.fh i, fr := fun i => if i = k then l2 else X.fr i } { st with hd := fun i => if i = k then some r else st.hd i, rd := fun i => if i = k then [] else st.rd i } (upd (upd (upd H X.hd (.dK (putK kvs (.inl (k : Int)) (.ref l)))) l2 (.lst [])) X.rd (.dK (putK kvr (.inl (k : Int)) (.ref l2)))) := by
  obtain ⟨d1, d2, d3, d4, d5, d6, d7, d8, d9, d10⟩ := L.dis
  have l2r : l2 ≠ X.rd := fun z => by rw [z, hkr] at h2; cases h2
  obtain ⟨G, eG⟩ : ∃ G, G = upd (upd (upd H X.hd (.dK (putK kvs (.inl (k : Int)) (.ref l)))) l2 (.lst [])) X.rd (.dK (putK kvr (.inl (k : Int)) (.ref l2))) := ⟨_, rfl⟩
  have ot : ∀ {b : Addr} {o : HO}, b ≠ X.hd → b ≠ X.rd → H b = some o → G b = some o := fun {b o} x y h => by
    rw [eG, upd_ne y, upd_ne (fun z => by rw [z, h2] at h; cases h), upd_ne x]
    exact h
  have tk : TK H G := fun t xs h => ot (neK h hk fun z => by cases z) (neK h hkr fun z => by cases z) h
  have ls : ∀ {b : Addr} {xs : List V}, H b = some (.lst xs) → G b = some (.lst xs) := fun h => ot (neK h hk fun z => by cases z) (neK h hkr fun z => by cases z) h
  have ghd : G X.hd = some (.dK (putK kvs (.inl (k : Int)) (.ref l))) := by
    rw [eG, upd_ne d6, upd_ne (fun z => by rw [← z, hk] at h2; cases h2), upd_same]
  have grd : G X.rd = some (.dK (putK kvr (.inl (k : Int)) (.ref l2))) := by rw [eG, upd_same]
  have gl2 : G l2 = some (.lst []) := by rw [eG, upd_ne l2r, upd_same]
  have fr2 : ∀ {b : Addr} {o : HO}, H b = some o → l2 ≠ b := fun h z => by rw [← z, h2] at h; cases h
  have act : ∀ i, (if i = k then some r else st.hd i) ≠ none → i ≠ k → st.hd i ≠ none := fun i z c => by rw [if_neg c] at z; exact z
  obtain ⟨kvs', hh1, hhl, hh2⟩ := L.heads
  rw [hk] at hh1
  cases hh1
  obtain ⟨kvr', rr1, rrl, rr2⟩ := L.reads
  rw [hkr] at rr1
  cases rr1
  have fhAt : ∀ i, st.hd i ≠ none → ∃ xs, H (X.fh i) = some (.lst xs) := fun i hi => by
    cases e : st.hd i with
    | none => exact absurd e hi
    | some r => exact ⟨_, ((hh2 i).2 r e).2.1⟩
  have frAt : ∀ i q, st.hd i ≠ none → ds[i]? = some (.ask q) → ∃ xs, H (X.fr i) = some (.lst xs) := fun i q hi hq => by
    obtain ⟨_, ⟨us, u1, _⟩, _⟩ := rr2 i q hi hq
    exact ⟨us, u1⟩
  rw [← eG]
  exact { L with
    ins := ot (neK L.ins hk fun z => by cases z) (neK L.ins hkr fun z => by cases z) L.ins,
    free := by rw [eG]; exact freeU (u := .dK kvr) (by rw [upd_ne l2r.symm, upd_ne d6.symm]; exact hkr) (fun c z => by
      by_cases e : c = l2
      · rw [e, upd_same] at z; cases z
      · rw [upd_ne e] at z; exact freeU hk L.free c z),
    notes := by obtain ⟨kvs, h1, h2⟩ := L.notes; exact ⟨kvs, ot d9 d10 h1, byPlaceTK tk h2⟩,
    amts := amsTK tk (fun _ e => ot d2 d3 e) L.amts, sums := amsTK tk (fun _ e => ot d4 d5 e) L.sums,
    evs := by obtain ⟨us, h1, h2⟩ := L.evs; exact ⟨us, ls h1, Paired.mapP h2 fun _ _ z => evgKeep tk z⟩,
    heads := by
      refine ⟨_, ghd, Nat.le_trans putKLen (by omega), fun i => ⟨fun z => ?_, fun r' hr' => ?_⟩⟩
      · have z : (if i = k then some r else st.hd i) = none := z
        by_cases c : i = k
        · rw [if_pos c] at z; cases z
        · rw [if_neg c] at z
          rw [valV_put, if_neg (fun z => c (by injection z with z; omega))]
          exact (hh2 i).1 z
      · have hr' : (if i = k then some r else st.hd i) = some r' := hr'
        show valV _ _ = some (.ref (if i = k then l else X.fh i)) ∧ G (if i = k then l else X.fh i) = _ ∧ F (if i = k then l else X.fh i) ∧ (if i = k then l else X.fh i) ≠ X.ev ∧ _
        rw [valV_put]
        by_cases c : i = k
        · rw [if_pos c] at hr'
          cases hr'
          rw [if_pos (by rw [c]), if_pos c]
          exact ⟨rfl, ls hl, hF, hle, hr⟩
        · rw [if_neg c] at hr'
          rw [if_neg (fun z => c (by injection z with z; omega)), if_neg c]
          obtain ⟨a, b, cc⟩ := (hh2 i).2 r' hr'
          exact ⟨a, ls b, cc⟩,
    reads := by
      refine ⟨_, grd, Nat.le_trans putKLen (by omega), fun i q hi hd' => ?_⟩
      show valV _ _ = some (.ref (if i = k then l2 else X.fr i)) ∧ (∃ us, G (if i = k then l2 else X.fr i) = _ ∧ _ ∧ Paired _ us (if i = k then [] else st.rd i)) ∧ F (if i = k then l2 else X.fr i) ∧ (if i = k then l2 else X.fr i) ≠ X.ev
      rw [valV_put]
      by_cases c : i = k
      · rw [if_pos (by rw [c]), if_pos c, if_pos c]
        obtain ⟨us, u1, _⟩ := L.evs
        exact ⟨rfl, ⟨[], gl2, Nat.zero_le _, .nil⟩, L.free l2 h2, fr2 u1⟩
      · rw [if_neg (fun z => c (by injection z with z; omega)), if_neg c, if_neg c]
        obtain ⟨a, ⟨us, b1, b2, b3⟩, cc⟩ := rr2 i q (act i hi c) hd'
        exact ⟨a, ⟨us, ls b1, by omega, Paired.mapP b3 fun _ _ z => D.keep tk z⟩, cc⟩,
    ih := fun i j hi hj z => by
      have z : (if i = k then l else X.fh i) = (if j = k then l else X.fh j) := z
      by_cases c : i = k
      · by_cases c2 : j = k
        · rw [c, c2]
        · rw [if_pos c, if_neg c2] at z
          exact absurd z.symm (n1 j (act j hj c2))
      · by_cases c2 : j = k
        · rw [if_neg c, if_pos c2] at z
          exact absurd z (n1 i (act i hi c))
        · rw [if_neg c, if_neg c2] at z
          exact L.ih i j (act i hi c) (act j hj c2) z,
    ir := fun i j q q' hi hj g1 g2 z => by
      have z : (if i = k then l2 else X.fr i) = (if j = k then l2 else X.fr j) := z
      by_cases c : i = k
      · by_cases c2 : j = k
        · rw [c, c2]
        · rw [if_pos c, if_neg c2] at z
          obtain ⟨xs, e⟩ := frAt j q' (act j hj c2) g2
          exact absurd z (fr2 e)
      · by_cases c2 : j = k
        · rw [if_neg c, if_pos c2] at z
          obtain ⟨xs, e⟩ := frAt i q (act i hi c) g1
          exact absurd z.symm (fr2 e)
        · rw [if_neg c, if_neg c2] at z
          exact L.ir i j q q' (act i hi c) (act j hj c2) g1 g2 z,
    ihr := fun i j q hi hj h1 => by
      show (if i = k then l else X.fh i) ≠ (if j = k then l2 else X.fr j)
      by_cases c2 : j = k
      · rw [if_pos c2]
        by_cases c : i = k
        · rw [if_pos c]; exact (fr2 hl).symm
        · rw [if_neg c]
          obtain ⟨xs, e⟩ := fhAt i (act i hi c)
          exact (fr2 e).symm
      · rw [if_neg c2]
        by_cases c : i = k
        · rw [if_pos c]; exact n2 j q (act j hj c2) h1
        · rw [if_neg c]; exact L.ihr i j q (act i hi c) (act j hj c2) h1 }
end
end Cn
namespace Cn
open PySem PySem.Spec PyProof.Rows L2 Ck
section
variable {P : Program} {w : World} {K : PySem.W.Frag} {mg : Str → Option Value} {base : Heap} {C Z : Addr}
/-- what the notes of a plan keep to -/
structure NtOk (nt : NtL) (be : List Nat) : Prop where
  nd : (nt.map fun e => e.1).Nodup
  len : nt.length ≤ 60
  ne : ∀ s ∈ nt.map (fun e => e.1), placesN nt s ≠ [] ∧ (placesN nt s).length ≤ 60 ∧ ∀ q ∈ placesN nt s, q ∈ be
theorem amsSub {α : Type} {D : Dom α} {H : Hp} {am : Addr} {amf : Nat → α} {ps qs : List Nat} {n : Nat} (s : ∀ q ∈ qs, q ∈ ps) (h : AmsAt D H am amf ps n) : AmsAt D H am amf qs n := by
  obtain ⟨kvs, h1, h2, h3⟩ := h
  exact ⟨kvs, h1, h2, fun q hq => h3 q (s q hq)⟩
/-- a loom is made -/
def spLoI {α : Type} (P : Program) (w : World) (K : PySem.W.Frag) (mg : Str → Option Value) (base : Heap) (Z : Addr) (D : Dom α) : Sp := fun vs H Q _ => ∃ (p dx nn am g : Addr) (F : Addr → Prop) (nt : NtL) (be : List Nat) (ds : List (Deed α)) (m : Nat) (amf : Nat → α) (ad : α → α → α) (kvN : List (L2.Key × V)), vs = [.ref p, .ref nn, .ref am, .ref g] ∧ H p = some (.ins Z dx []) ∧
  (∀ b, H b = none → F b) ∧ F p ∧ F am ∧ am ≠ nn ∧ AddG P w K mg base D g ad ∧ H nn = some (.dK kvN) ∧ ByPlace H kvN nt ∧ NtOk nt be ∧ AmsAt D H am amf be 100 ∧ (∀ q, D.sz (amf q) ≤ m) ∧ m ≤ 1000 ∧
  ∀ X H', X.p = p → LoomAt Z D F nt be ds 0 X (lm0 ad nt amf) H' → X.g = g → KeptOut F H H' → Q .non H'
def nLoI : List Str := ["self", "notes", "amounts", "adding", "s"]
theorem scLoI : FnScope nLoI ["self", "notes", "amounts", "adding"] (defScope sLo_init) := ⟨rfl, rfl, rfl, by decide +kernel, rfl, by decide +kernel, by decide +kernel⟩
theorem dLoI {α : Type} (D : Dom α) (B : Defs K mg C) (U : LoT K mg Z) : ∃ f fd, FnOk P w K mg base CX0 4 f fd ["self", "notes", "amounts", "adding"] (spLoI P w K mg base Z D) ∧ Mk K Z f ∧ Binds K fd ["self", "notes", "amounts", "adding"] [] := by
  obtain ⟨fP, fdP, GP, MP, bP⟩ := dLoP (P := P) (w := w) (base := base) D B U
  obtain ⟨f, fd, F0, M, b⟩ := U.ini
  have N := B.N
  have nd := scLoI.nd
  refine ⟨f, fd, ?_, M, b⟩
  refine F0.ok scLoI (fun vs H Q E h => ?_) (fun cdv A outer s H vs Q E hr h => ?_)
  · obtain ⟨p, dx, nn, am, g, F, nt, be, ds, m, amf, ad, kvN, rfl, _⟩ := h
    rfl
  · obtain ⟨p, dx, nn, am, g, F, nt, be, ds, m, amf, ad, kvN, rfl, hp, hfree, hFp, hFam, amn, hAd, hN, hB, ok, hA, hsz, hm, k⟩ := h
    refine ⟨_, pss_cons (ps_fld (pv 0) (pv 1) rfl) (pss_cons (ps_fld (pv 0) (pv 2) rfl) (pss_cons (ps_fld (pv 0) (pv 3) rfl)
      (pss_cons (ps_fld (pv 0) (pe_lock (pe_dc (own := [("s", 4)]) (g := gName 4) (tt := tYes) (tk := tVar 4) rfl nd (pi_keys (pv 1)) (blkOk_by (N := nLoI) (sc := defScope sLo_init) (by decide +kernel)) (fun _ _ _ _ _ => pg_name (i := 4) nd rfl (Or.inl rfl)) (fun _ _ _ _ _ => pts_nil) (fun _ _ _ _ _ => pv 4)
        (fun _ _ _ _ _ => pe_meth (pv 0) U.cl MP GP hr bP .nil pass0 (pa_cons (pv 4) pa_nil)))) rfl)
      (pss_cons (ps_fld (pv 0) (pe_lst pa_nil) rfl) (pss_cons (ps_fld (pv 0) pe_dnewK rfl) (pss_one (ps_fld (pv 0) pe_dnewK rfl))))))), ?_⟩
    obtain ⟨kvA, hA1, hAl, hA2⟩ := hA
    have amp : am ≠ p := neK hA1 hp fun z => by cases z
    have nnp : nn ≠ p := neK hN hp fun z => by cases z
    refine ⟨_, rfl, _, rfl, p, Z, dx, [], rfl, hp, U.cl, U.n_notes, (by show 0 < 1000; decide), ?_⟩
    refine ⟨_, rfl, _, rfl, p, Z, dx, _, rfl, upd_same, U.cl, U.n_amounts, (by show 1 < 1000; decide), ?_⟩
    refine ⟨_, rfl, _, rfl, p, Z, dx, _, rfl, upd_same, U.cl, U.n_adding, (by show 2 < 1000; decide), ?_⟩
    have tkp : ∀ {G : Hp} {fs fs2 : List (Str × V)} {dx2 : Addr}, G p = some (.ins Z dx fs) → TK G (upd G p (.ins Z dx2 fs2)) := fun h => tkUpd h fun xs z => by cases z
    have k1 : ∀ {b : Addr} {o : HO}, b ≠ p → H b = some o → upd (upd (upd H p (.ins Z dx (putF "notes" (.ref nn) []))) p (.ins Z dx (putF "amounts" (.ref am) (putF "notes" (.ref nn) [])))) p (.ins Z dx (putF "adding" (.ref g) (putF "amounts" (.ref am) (putF "notes" (.ref nn) [])))) b = some o := fun n h => by rw [upd_ne n, upd_ne n, upd_ne n]; exact h
    have hp3 : upd (upd (upd H p (.ins Z dx (putF "notes" (.ref nn) []))) p (.ins Z dx (putF "amounts" (.ref am) (putF "notes" (.ref nn) [])))) p (.ins Z dx (putF "adding" (.ref g) (putF "amounts" (.ref am) (putF "notes" (.ref nn) [])))) p = some (.ins Z dx [("notes", .ref nn), ("amounts", .ref am), ("adding", .ref g)]) := upd_same
    have tk3 : TK H (upd (upd (upd H p (.ins Z dx (putF "notes" (.ref nn) []))) p (.ins Z dx (putF "amounts" (.ref am) (putF "notes" (.ref nn) [])))) p (.ins Z dx (putF "adding" (.ref g) (putF "amounts" (.ref am) (putF "notes" (.ref nn) []))))) := fun t xs e => k1 (neK e hp fun z => by cases z) e
    have fr3 : ∀ b, upd (upd (upd H p (.ins Z dx (putF "notes" (.ref nn) []))) p (.ins Z dx (putF "amounts" (.ref am) (putF "notes" (.ref nn) [])))) p (.ins Z dx (putF "adding" (.ref g) (putF "amounts" (.ref am) (putF "notes" (.ref nn) [])))) b = none → F b := fun b z => by
      by_cases c : b = p
      · rw [c, upd_same] at z; cases z
      · rw [upd_ne c, upd_ne c, upd_ne c] at z; exact hfree b z
    generalize upd (upd (upd H p (.ins Z dx (putF "notes" (.ref nn) []))) p (.ins Z dx (putF "amounts" (.ref am) (putF "notes" (.ref nn) [])))) p (.ins Z dx (putF "adding" (.ref g) (putF "amounts" (.ref am) (putF "notes" (.ref nn) [])))) = H3 at k1 hp3 tk3 fr3 ⊢
    have hN3 := k1 nnp hN
    have hA3 := k1 amp hA1
    refine ⟨nn, _, hN3, trivial, fun od => ?_⟩
    have hL : upd H3 nn (.frz od (.dK kvN)) nn = some (.frz od (.dK kvN)) := upd_same
    have tkL : TK H3 (upd H3 nn (.frz od (.dK kvN))) := tkUpd hN3 fun xs z => by cases z
    obtain ⟨HL, eL⟩ : ∃ HL, HL = upd H3 nn (.frz od (.dK kvN)) := ⟨_, rfl⟩
    rw [← eL] at hL tkL ⊢
    have hpL : HL p = some (.ins Z dx [("notes", .ref nn), ("amounts", .ref am), ("adding", .ref g)]) := by rw [eL, upd_ne nnp.symm]; exact hp3
    have hAL : HL am = some (.dK kvA) := by rw [eL, upd_ne amn]; exact hA3
    have hBL := byPlaceTK tkL (byPlaceTK tk3 hB)
    have kl : kvN.length = nt.length := Paired.length hB
    refine ⟨_, rfl, nn, od, rfl, .inl ⟨_, hL, fun D2 nD2 => ?_⟩⟩
    refine anyWalk walk_keys (fun j G => Same HL G ∧ ∃ kvs : List (L2.Key × V), G D2 = some (.dK kvs) ∧ kvs.length ≤ j ∧ ∀ e ∈ nt.take j, ∃ v, valV kvs (.inl (e.1 : Int)) = some v ∧ D.rep G v (sumP ad amf (placesN nt e.1))) ⟨smUpd nD2, [], upd_same, Nat.le_refl _, fun e he => by rw [List.take_zero] at he; cases he⟩ (fun j G _ z => z.1 _ _ hL) ?_ ?_
    · rintro j x G G' hj ⟨sm, kvs, hD, hlen, hv⟩ ⟨rfl, kk, v, hkv, rfl⟩
      obtain ⟨e, he, hke, _⟩ := byPlaceAt hBL hkv
      subst hke
      have hem : e.1 ∈ nt.map (fun e => e.1) := List.mem_map.mpr ⟨e, List.mem_of_getElem? he, rfl⟩
      obtain ⟨o1, o2, o3⟩ := ok.ne e.1 hem
      have hpG := sm _ _ hpL
      refine ⟨rfl, _, rfl, _, rfl, p, dx, _, rfl, hpG, rfl, _, rfl, p, dx, nn, am, g, _, nt, e.1, 100, m, amf, ad, rfl, hpG, rfl, rfl, rfl, hAd, ⟨kvN, .inr ⟨od, sm _ _ hL⟩, byPlaceSame sm hBL⟩, ok.nd, hem, ⟨kvA, sm _ _ hAL, hAl, fun q hq => ?_⟩, o1, o2, fun q _ => hsz q, hm, fun v2 G2 s2 hv2 => ?_⟩
      · obtain ⟨v, a1, a2⟩ := hA2 q (o3 q hq)
        exact ⟨v, a1, D.same sm (D.keep tkL (D.keep tk3 a2))⟩
      have hD2 := s2 _ _ hD
      have tkD : ∀ {o : HO}, TK G2 (upd G2 D2 o) := tkUpd hD2 fun xs z => by cases z
      have nl := ok.len
      refine ⟨kvs, .inl (e.1 : Int), rfl, hD2, bigLine (by omega), smOver nD2 (sm.trans s2), _, upd_same, Nat.le_trans putKLen (by omega), fun e' he' => ?_⟩
      rw [List.take_add_one, he] at he'
      rw [valV_put]
      by_cases c : e'.1 = e.1
      · rw [if_pos (by rw [c]), c]
        exact ⟨v2, rfl, D.keep tkD hv2⟩
      · rw [if_neg (fun z => c (by injection z with z; omega))]
        rcases List.mem_append.mp he' with h1 | h1
        · obtain ⟨v, a1, a2⟩ := hv e' h1
          exact ⟨v, a1, D.keep tkD (D.same s2 a2)⟩
        · exact absurd (by rw [show e' = e from List.mem_singleton.mp h1]) c
    rintro G ⟨sm, kvS, hD, hSl, hSv⟩
    rw [kl, List.take_length] at hSv
    have hLG := sm _ _ hL
    have neD : D2 ≠ nn := fun z => by rw [z, hL] at nD2; cases nD2
    refine ⟨hLG, ?_⟩
    have tkU : TK G (upd G nn (.dK kvN)) := tkUpd hLG fun xs z => by cases z
    have s3G : Same H3 (upd G nn (.dK kvN)) := lockSame hN3 eL sm
    have hDU : upd G nn (.dK kvN) D2 = some (.dK kvS) := by rw [upd_ne neD]; exact hD
    have hSU : ∀ e ∈ nt, ∃ v, valV kvS (.inl (e.1 : Int)) = some v ∧ D.rep (upd G nn (.dK kvN)) v (sumP ad amf (placesN nt e.1)) := fun e he => by
      obtain ⟨v, a1, a2⟩ := hSv e he
      exact ⟨v, a1, D.keep tkU a2⟩
    have nD3 : H3 D2 = none := by rw [eL, upd_ne neD] at nD2; exact nD2
    generalize upd G nn (.dK kvN) = H4 at s3G hDU hSU ⊢
    have hp4 := s3G _ _ hp3
    have D2p : D2 ≠ p := neK hDU hp4 fun z => by cases z
    refine ⟨_, rfl, p, Z, dx, _, rfl, hp4, U.cl, U.n_sums, (by show 3 < 1000; decide), by show 0 ≤ sizeLine; decide, fun E0 nE => ?_⟩
    have h5p : upd H4 p (.ins Z dx (putF "sums" (.ref D2) [("notes", .ref nn), ("amounts", .ref am), ("adding", .ref g)])) p = some (.ins Z dx [("notes", .ref nn), ("amounts", .ref am), ("adding", .ref g), ("sums", .ref D2)]) := upd_same
    have h5 : ∀ {b : Addr} {o : HO}, b ≠ p → H4 b = some o → upd H4 p (.ins Z dx (putF "sums" (.ref D2) [("notes", .ref nn), ("amounts", .ref am), ("adding", .ref g)])) b = some o := fun n h => by rw [upd_ne n]; exact h
    generalize upd H4 p (.ins Z dx (putF "sums" (.ref D2) [("notes", .ref nn), ("amounts", .ref am), ("adding", .ref g)])) = H5 at h5p h5 nE ⊢
    have s6 := smUpd (o := .lst []) nE
    have hE6 : upd H5 E0 (.lst []) E0 = some (.lst []) := upd_same
    generalize upd H5 E0 (.lst []) = H6 at s6 hE6 ⊢
    have hp6 := s6 _ _ h5p
    have E0p : E0 ≠ p := neK hE6 hp6 fun z => by cases z
    refine ⟨_, rfl, p, Z, dx, _, rfl, hp6, U.cl, U.n_events, (by show 4 < 1000; decide), fun A0 nA => ?_⟩
    have h7p : upd H6 p (.ins Z dx (putF "events" (.ref E0) [("notes", .ref nn), ("amounts", .ref am), ("adding", .ref g), ("sums", .ref D2)])) p = some (.ins Z dx [("notes", .ref nn), ("amounts", .ref am), ("adding", .ref g), ("sums", .ref D2), ("events", .ref E0)]) := upd_same
    have h7 : ∀ {b : Addr} {o : HO}, b ≠ p → H6 b = some o → upd H6 p (.ins Z dx (putF "events" (.ref E0) [("notes", .ref nn), ("amounts", .ref am), ("adding", .ref g), ("sums", .ref D2)])) b = some o := fun n h => by rw [upd_ne n]; exact h
    generalize upd H6 p (.ins Z dx (putF "events" (.ref E0) [("notes", .ref nn), ("amounts", .ref am), ("adding", .ref g), ("sums", .ref D2)])) = H7 at h7p h7 nA ⊢
    have s8 := smUpd (o := .dK []) nA
    have hA8 : upd H7 A0 (.dK []) A0 = some (.dK []) := upd_same
    generalize upd H7 A0 (.dK []) = H8 at s8 hA8 ⊢
    have hp8 := s8 _ _ h7p
    have A0p : A0 ≠ p := neK hA8 hp8 fun z => by cases z
    refine ⟨_, rfl, p, Z, dx, _, rfl, hp8, U.cl, U.n_ahead, (by show 5 < 1000; decide), fun R0 nR => ?_⟩
    have h9p : upd H8 p (.ins Z dx (putF "ahead" (.ref A0) [("notes", .ref nn), ("amounts", .ref am), ("adding", .ref g), ("sums", .ref D2), ("events", .ref E0)])) p = some (.ins Z dx [("notes", .ref nn), ("amounts", .ref am), ("adding", .ref g), ("sums", .ref D2), ("events", .ref E0), ("ahead", .ref A0)]) := upd_same
    have h9 : ∀ {b : Addr} {o : HO}, b ≠ p → H8 b = some o → upd H8 p (.ins Z dx (putF "ahead" (.ref A0) [("notes", .ref nn), ("amounts", .ref am), ("adding", .ref g), ("sums", .ref D2), ("events", .ref E0)])) b = some o := fun n h => by rw [upd_ne n]; exact h
    generalize upd H8 p (.ins Z dx (putF "ahead" (.ref A0) [("notes", .ref nn), ("amounts", .ref am), ("adding", .ref g), ("sums", .ref D2), ("events", .ref E0)])) = H9 at h9p h9 nR ⊢
    have s10 := smUpd (o := .dK []) nR
    have hR10 : upd H9 R0 (.dK []) R0 = some (.dK []) := upd_same
    generalize upd H9 R0 (.dK []) = H10 at s10 hR10 ⊢
    have hp10 := s10 _ _ h9p
    have R0p : R0 ≠ p := neK hR10 hp10 fun z => by cases z
    refine ⟨_, rfl, p, Z, dx, _, rfl, hp10, U.cl, U.n_read, (by show 6 < 1000; decide), ?_⟩
    have hpE : upd H10 p (.ins Z dx (putF "read" (.ref R0) [("notes", .ref nn), ("amounts", .ref am), ("adding", .ref g), ("sums", .ref D2), ("events", .ref E0), ("ahead", .ref A0)])) p = some (.ins Z dx (fieldsLo nn am g D2 E0 A0 R0)) := upd_same
    have hE : ∀ {b : Addr} {o : HO}, b ≠ p → H10 b = some o → upd H10 p (.ins Z dx (putF "read" (.ref R0) [("notes", .ref nn), ("amounts", .ref am), ("adding", .ref g), ("sums", .ref D2), ("events", .ref E0), ("ahead", .ref A0)])) b = some o := fun n h => by rw [upd_ne n]; exact h
    generalize upd H10 p (.ins Z dx (putF "read" (.ref R0) [("notes", .ref nn), ("amounts", .ref am), ("adding", .ref g), ("sums", .ref D2), ("events", .ref E0), ("ahead", .ref A0)])) = HE at hpE hE ⊢
    have k89 : ∀ {b : Addr} {o : HO}, b ≠ p → H8 b = some o → HE b = some o := fun n h => hE n (s10 _ _ (h9 n h))
    have k69 : ∀ {b : Addr} {o : HO}, b ≠ p → H6 b = some o → HE b = some o := fun n h => k89 n (s8 _ _ (h7 n h))
    have k49 : ∀ {b : Addr} {o : HO}, b ≠ p → H4 b = some o → HE b = some o := fun n h => k69 n (s6 _ _ (h5 n h))
    have k39 : ∀ {b : Addr} {o : HO}, b ≠ p → H3 b = some o → HE b = some o := fun n h => k49 n (s3G _ _ h)
    have kH : ∀ {b : Addr} {o : HO}, b ≠ p → H b = some o → HE b = some o := fun n h => k39 n (k1 n h)
    have tkE : TK H HE := fun t xs e => kH (neK e hp fun z => by cases z) e
    have tk4E : TK H4 HE := fun t xs e => k49 (neK e hp4 fun z => by cases z) e
    have back : ∀ {b : Addr}, HE b = none → H3 b = none := fun {b} z => by
      cases e : H3 b with
      | none => rfl
      | some o =>
        by_cases c : b = p
        · rw [c, hpE] at z; cases z
        · rw [k39 c e] at z; cases z
    have n5 : ∀ {b : Addr}, H5 b = none → H3 b = none := fun {b} z => by
      cases e : H3 b with
      | none => rfl
      | some o =>
        by_cases c : b = p
        · rw [c, h5p] at z; cases z
        · rw [h5 c (s3G _ _ e)] at z; cases z
    have n7 : ∀ {b : Addr}, H7 b = none → H5 b = none := fun {b} z => by
      cases e : H5 b with
      | none => rfl
      | some o =>
        by_cases c : b = p
        · rw [c, h7p] at z; cases z
        · rw [h7 c (s6 _ _ e)] at z; cases z
    have n9 : ∀ {b : Addr}, H9 b = none → H7 b = none := fun {b} z => by
      cases e : H7 b with
      | none => rfl
      | some o =>
        by_cases c : b = p
        · rw [c, h9p] at z; cases z
        · rw [h9 c (s8 _ _ e)] at z; cases z
    have hD5 := h5 D2p hDU
    have hD7 := h7 D2p (s6 _ _ hD5)
    have hA9 := h9 A0p hA8
    have D2A : D2 ≠ A0 := fun z => by rw [← z, hD7] at nA; cases nA
    have D2R : D2 ≠ R0 := fun z => by rw [← z, h9 D2p (s8 _ _ hD7)] at nR; cases nR
    have A0R : A0 ≠ R0 := fun z => by rw [← z, hA9] at nR; cases nR
    have amD : am ≠ D2 := fun z => by rw [← z, hA3] at nD3; cases nD3
    have amA : am ≠ A0 := fun z => by rw [← z, h7 amp (s6 _ _ (h5 amp (s3G _ _ hA3)))] at nA; cases nA
    have amR : am ≠ R0 := fun z => by rw [← z, h9 amp (s8 _ _ (h7 amp (s6 _ _ (h5 amp (s3G _ _ hA3)))))] at nR; cases nR
    have nnA : nn ≠ A0 := fun z => by rw [← z, h7 nnp (s6 _ _ (h5 nnp (s3G _ _ hN3)))] at nA; cases nA
    have nnR : nn ≠ R0 := fun z => by rw [← z, h9 nnp (s8 _ _ (h7 nnp (s6 _ _ (h5 nnp (s3G _ _ hN3)))))] at nR; cases nR
    refine k ⟨p, dx, nn, am, g, D2, E0, A0, R0, fun _ => p, fun _ => p⟩ HE rfl ?_ rfl fun b o n e => kH (fun z => n (by rw [z]; exact hFp)) e
    exact {
      ins := hpE, free := fun b z => fr3 b (back z),
      own := ⟨hFam, fr3 _ nD3, fr3 _ (n5 nE), fr3 _ (n5 (n7 nA)), fr3 _ (n5 (n7 (n9 nR)))⟩,
      notes := ⟨kvN, kH nnp hN, byPlaceTK tkE hB⟩,
      amts := ⟨kvA, kH amp hA1, hAl, fun q hq => by
        obtain ⟨v, a1, a2⟩ := hA2 q hq
        exact ⟨v, a1, D.keep tkE a2⟩⟩,
      sums := ⟨kvS, k49 D2p hDU, by have := ok.len; omega, fun s hs => by
        obtain ⟨e, he, rfl⟩ := List.mem_map.mp hs
        obtain ⟨v, a1, a2⟩ := hSU e he
        exact ⟨v, a1, D.keep tk4E a2⟩⟩,
      evs := ⟨[], k69 E0p hE6, .nil⟩,
      heads := ⟨[], k89 A0p hA8, Nat.le_refl _, fun i => ⟨fun _ => rfl, fun r z => by cases z⟩⟩,
      reads := ⟨[], hE R0p hR10, Nat.le_refl _, fun i q z => absurd rfl z⟩,
      ih := fun i j z => absurd rfl z, ir := fun i j q q' z => absurd rfl z, ihr := fun i j q z => absurd rfl z,
      dis := ⟨amD, amA, amR, D2A, D2R, A0R, amn.symm, neD.symm, nnA, nnR⟩ }
end
end Cn
namespace Cn
open PySem PySem.Spec PyProof.Rows L2 Ck
/-! sizes stay small -/
structure SzOk {α : Type} (sz : α → Nat) (m : Nat) (nt : NtL) (ds : List (Deed α)) (st : Lm α) : Prop where
  h : ∀ k r, st.hd k = some r → ∀ s ∈ r, s ∈ nt.map (fun e => e.1)
  a : ∀ q, sz (st.am q) ≤ m
  s : ∀ s, sz (st.sm s) ≤ 60 * m
  r : ∀ k q r, ds[k]? = some (.ask q) → st.hd k = some r → (st.rd k).length + r.length ≤ 60 ∧ ∀ x ∈ st.rd k, sz x ≤ 60 * m
theorem sumP_sz {α : Type} {sz : α → Nat} {ad : α → α → α} (al : ∀ a b, sz (ad a b) ≤ sz a + sz b) {am : Nat → α} {m : Nat} (h : ∀ q, sz (am q) ≤ m) {ps : List Nat} (hl : ps.length ≤ 60) : sz (sumP ad am ps) ≤ 60 * m := by
  cases ps with
  | nil =>
    have := h 0
    show sz (am 0) ≤ 60 * m
    omega
  | cons p ps =>
    have h1 := togG_sz (sz := sz) (k := m) al (ls := (p :: ps).map am) (y := sumP ad am (p :: ps)) (fun l hl => by
      obtain ⟨q, _, rfl⟩ := List.mem_map.mp hl
      exact h q) rfl
    rw [List.length_map] at h1
    exact Nat.le_trans h1 (Nat.mul_le_mul_right m hl)
theorem szBeg {α : Type} {sz : α → Nat} {m : Nat} {nt : NtL} {be : List Nat} {ds : List (Deed α)} {st : Lm α} (S : SzOk sz m nt ds st) (ok : NtOk nt be) {k : Nat} {d : Deed α} (hk : st.hd k = none) (hd : ds[k]? = some d) (hs : ∀ p a, d = .chg p a → sz a ≤ m) : SzOk sz m nt ds (begL nt st k d) := by
  cases d with
  | chg p a =>
    refine ⟨fun k2 r z s hs => ?_, fun q => ?_, S.s, fun k2 q r z y => ?_⟩
    · have z : (if k2 = k then some (holdsN nt p).reverse else st.hd k2) = some r := z
      by_cases c : k2 = k
      · rw [if_pos c] at z
        cases z
        exact ((holds_mem ok.nd).mp (List.mem_reverse.mp hs)).1
      · rw [if_neg c] at z; exact S.h k2 r z s hs
    · show sz (if q = p then a else st.am q) ≤ m
      by_cases c : q = p
      · rw [if_pos c]; exact hs p a rfl
      · rw [if_neg c]; exact S.a q
    · have y : (if k2 = k then some (holdsN nt p).reverse else st.hd k2) = some r := y
      have c : k2 ≠ k := fun c => by rw [c, hd] at z; cases z
      rw [if_neg c] at y
      exact S.r k2 q r z y
  | ask p =>
    refine ⟨fun k2 r z s hs => ?_, S.a, S.s, fun k2 q r z y => ?_⟩
    · have z : (if k2 = k then some (readsN nt p) else st.hd k2) = some r := z
      by_cases c : k2 = k
      · rw [if_pos c] at z
        cases z
        exact reads_sub hs
      · rw [if_neg c] at z; exact S.h k2 r z s hs
    · have y : (if k2 = k then some (readsN nt p) else st.hd k2) = some r := y
      show (if k2 = k then [] else st.rd k2).length + r.length ≤ 60 ∧ ∀ x ∈ (if k2 = k then [] else st.rd k2), _
      by_cases c : k2 = k
      · rw [if_pos c] at y
        cases y
        rw [if_pos c]
        refine ⟨?_, fun x hx => nomatch hx⟩
        have h1 : (readsN nt p).length ≤ nt.length := by
          unfold readsN
          rw [List.length_map]
          exact List.length_filter_le _ _
        have := ok.len
        show 0 + _ ≤ 60
        omega
      · rw [if_neg c] at y ⊢
        exact S.r k2 q r z y
theorem szGo {α : Type} {sz : α → Nat} {ad : α → α → α} (al : ∀ a b, sz (ad a b) ≤ sz a + sz b) {m : Nat} {nt : NtL} {be : List Nat} {ds : List (Deed α)} {st : Lm α} (S : SzOk sz m nt ds st) (ok : NtOk nt be) {k : Nat} {d : Deed α} (hd : ds[k]? = some d) : SzOk sz m nt ds (goL ad nt st k d) := by
  unfold goL
  cases h : st.hd k with
  | none => exact S
  | some l =>
    cases l with
    | nil => exact S
    | cons s r =>
      have sub : ∀ k2 r2, (if k2 = k then some r else st.hd k2) = some r2 → ∀ x ∈ r2, x ∈ nt.map (fun e => e.1) := fun k2 r2 z x hx => by
        by_cases c : k2 = k
        · rw [if_pos c] at z
          cases z
          exact S.h k _ h x (List.mem_cons_of_mem _ hx)
        · rw [if_neg c] at z; exact S.h k2 r2 z x hx
      cases d with
      | chg p a =>
        refine ⟨sub, S.a, fun i => ?_, fun k2 q r2 z y => ?_⟩
        · show sz (if i = s then sumP ad st.am (placesN nt s) else st.sm i) ≤ 60 * m
          by_cases c : i = s
          · rw [if_pos c]
            exact sumP_sz al S.a (ok.ne s (S.h k _ h s List.mem_cons_self)).2.1
          · rw [if_neg c]; exact S.s i
        · have c : k2 ≠ k := fun c => by rw [c, hd] at z; cases z
          have y : (if k2 = k then some r else st.hd k2) = some r2 := y
          rw [if_neg c] at y
          exact S.r k2 q r2 z y
      | ask p =>
        refine ⟨sub, S.a, S.s, fun k2 q r2 z y => ?_⟩
        have y : (if k2 = k then some r else st.hd k2) = some r2 := y
        show (if k2 = k then st.rd k ++ [st.sm s] else st.rd k2).length + r2.length ≤ 60 ∧ ∀ x ∈ (if k2 = k then st.rd k ++ [st.sm s] else st.rd k2), _
        by_cases c : k2 = k
        · rw [if_pos c] at y
          cases y
          rw [if_pos c]
          obtain ⟨a1, a2⟩ := S.r k p _ hd h
          rw [List.length_cons] at a1
          refine ⟨by rw [List.length_append]; show _ + 1 + _ ≤ 60; omega, fun x hx => ?_⟩
          rcases List.mem_append.mp hx with hx | hx
          · exact a2 x hx
          · rw [List.mem_singleton.mp hx]; exact S.s s
        · rw [if_neg c] at y ⊢
          exact S.r k2 q r2 z y
theorem szEnd {α : Type} {sz : α → Nat} {ad : α → α → α} {m : Nat} {nt : NtL} {ds : List (Deed α)} {st : Lm α} (S : SzOk sz m nt ds st) {k : Nat} {d : Deed α} : SzOk sz m nt ds (endL ad st k d) := by
  unfold endL
  cases h : st.hd k with
  | none => exact S
  | some l =>
    cases l with
    | cons s r => exact S
    | nil =>
      cases d with
      | chg p a => exact ⟨S.h, S.a, S.s, S.r⟩
      | ask p => exact ⟨S.h, S.a, S.s, S.r⟩
theorem szTurn {α : Type} {sz : α → Nat} {ad : α → α → α} (al : ∀ a b, sz (ad a b) ≤ sz a + sz b) {m : Nat} {nt : NtL} {be : List Nat} {ds : List (Deed α)} {st : Lm α} (S : SzOk sz m nt ds st) (ok : NtOk nt be) {k : Nat} {d : Deed α} (hd : ds[k]? = some d) (hs : ∀ p a, d = .chg p a → sz a ≤ m) : SzOk sz m nt ds (turnL ad nt st k d) := by
  unfold turnL
  cases h : st.hd k with
  | none => exact szEnd (szGo al (szBeg S ok h hd hs) ok hd)
  | some l =>
    cases l with
    | nil => exact S
    | cons s r => exact szEnd (szGo al S ok hd)
theorem evTurn {α : Type} {ad : α → α → α} {nt : NtL} {st : Lm α} {k : Nat} {d : Deed α} : (turnL ad nt st k d).ev.length ≤ st.ev.length + 2 := by
  have e1 : ∀ st : Lm α, (endL ad st k d).ev.length ≤ st.ev.length + 1 := fun st => by
    unfold endL
    cases st.hd k with
    | none => exact Nat.le_succ _
    | some l =>
      cases l with
      | cons s r => exact Nat.le_succ _
      | nil => cases d <;> (show (st.ev ++ [_]).length ≤ _; rw [List.length_append]; exact Nat.le_refl _)
  have e2 : ∀ st : Lm α, (goL ad nt st k d).ev.length = st.ev.length := fun st => by
    unfold goL
    cases st.hd k with
    | none => rfl
    | some l =>
      cases l with
      | nil => rfl
      | cons s r => cases d <;> rfl
  have e3 : (begL nt st k d).ev.length = st.ev.length + 1 := by
    cases d <;> (show (st.ev ++ [_]).length = _; rw [List.length_append]; rfl)
  unfold turnL
  cases h : st.hd k with
  | none =>
    have h1 := e1 (goL ad nt (begL nt st k d) k d)
    rw [e2, e3] at h1
    exact h1
  | some l =>
    cases l with
    | nil => show st.ev.length ≤ _; omega
    | cons s r =>
      have h1 := e1 (goL ad nt st k d)
      rw [e2] at h1
      show (endL ad (goL ad nt st k d) k d).ev.length ≤ _
      omega
section
variable {P : Program} {w : World} {K : PySem.W.Frag} {mg : Str → Option Value} {base : Heap} {C Z : Addr}
/-- a loom's step: what is asked of it, and what stands behind it -/
def LoomTo {α : Type} (Z : Addr) (D : Dom α) (F : Addr → Prop) (nt : NtL) (be : List Nat) (ds : List (Deed α)) (n : Nat) (X : LoA) (st : Lm α) (H : Hp) (Q : VK) : Prop := ∀ X' H', X'.p = X.p → X'.g = X.g → LoomAt Z D F nt be ds n X' st H' → KeptOut F H H' → TK H H' → Q .non H'
/-- a deed begins -/
def spLoB {α : Type} (Z : Addr) (D : Dom α) : Sp := fun vs H Q _ => ∃ (X : LoA) (F : Addr → Prop) (nt : NtL) (be : List Nat) (ds : List (Deed α)) (n k : Nat) (st : Lm α) (d : Deed α) (v : V), vs = [.ref X.p, vn k, v] ∧ LoomAt Z D F nt be ds n X st H ∧ NtOk nt be ∧ st.hd k = none ∧ ds[k]? = some d ∧ DeedAt D H v d ∧ (∀ p a, d = .chg p a → p ∈ be) ∧ n ≤ 2000 ∧ st.ev.length ≤ 4000 ∧
  LoomTo Z D F nt be ds (n + 1) X (begL nt st k d) H Q
def nLoB : List Str := ["self", "k", "deed"]
theorem scLoB : FnScope nLoB ["self", "k", "deed"] (defScope sLo_begin) := ⟨rfl, rfl, rfl, by decide +kernel, rfl, by decide +kernel, by decide +kernel⟩
theorem dLoB {α : Type} (D : Dom α) (B : Defs K mg C) (U : LoT K mg Z) : ∃ f fd, FnOk P w K mg base CX0 2 f fd ["self", "k", "deed"] (spLoB Z D) ∧ Meth K Z "begin" f ∧ Binds K fd ["self", "k", "deed"] [] := by
  obtain ⟨fH, fdH, GH, gH, kH, bH⟩ := dHold1 (P := P) (w := w) (base := base) B
  obtain ⟨fR, fdR, GR, gR, kR, bR⟩ := dReadAt (P := P) (w := w) (base := base) B
  obtain ⟨f, fd, F0, M, b⟩ := U.m_begin
  have N := B.N
  have nd := scLoB.nd
  refine ⟨f, fd, ?_, M, b⟩
  refine F0.ok scLoB (fun vs H Q E h => ?_) (fun cdv A outer s H vs Q E hr h => ?_)
  · obtain ⟨X, F, nt, be, ds, n, k, st, d, v, rfl, _⟩ := h
    rfl
  · obtain ⟨X, F, nt, be, ds, n, k, st, d, v, rfl, L, ok, hk, hd, hv, hbe, hn, hev, kk⟩ := h
    have hu : (A.deeper (envOfC "Loom.begin" (defScope sLo_begin) s.heap.objs.size f cdv)).units + 1 < cLine := by have := hr.units; omega
    refine ⟨_, pss_cons (ps_expr (pe_bm PySem.F.plainAttrs_list PySem.F.slot_list_append PySem.F.type_list_append mt_append (pe_fld (pv 0) rfl) (pa_cons (pe_op op_catA (pe_tup (pa_cons (pe_ix ix_tup (pv 2) pe_int (fun _ _ => rfl)) (pa_cons (pv 1) pa_nil))) (pe_slice sl_tupA (pv 2) (po_some pe_int) po_none)) pa_nil)))
      (pss_one (ps_if (pt_cmpR op_eq (pe_ix ix_tup (pv 2) pe_int (fun _ _ => rfl)) pe_str (nomark _))
        (pss_cons (ps_dput hu (pe_fld (pv 0) rfl) (pe_ix ix_tup (pv 2) pe_int (fun _ _ => rfl)) (pe_ix ix_tup (pv 2) pe_int (fun _ _ => rfl)) rfl)
        (pss_one (ps_dput hu (pe_fld (pv 0) rfl) (pv 1) (RT.pe_lstRev rfl (by rfl) N.is.lst (by rfl) N.rev (pe_call GH hr (by rfl) gH kH bH .nil pass0 (pa_cons (pe_fld (pv 0) rfl) (pa_cons (pe_lst (pa_cons (pe_ix ix_tup (pv 2) pe_int (fun _ _ => rfl)) pa_nil)) pa_nil)))) rfl)))
        (pss_cons (ps_dput hu (pe_fld (pv 0) rfl) (pv 1) (pe_call GR hr (by rfl) gR kR bR .nil pass0 (pa_cons (pe_fld (pv 0) rfl) (pa_cons (pe_ix ix_tup (pv 2) pe_int (fun _ _ => rfl)) pa_nil))) rfl)
        (pss_one (ps_dput hu (pe_fld (pv 0) rfl) (pv 1) (pe_lst pa_nil) rfl))))), ?_⟩
    obtain ⟨us, hus, hU⟩ := L.evs
    have ul := Paired.length hU
    have fE : (fieldsLo X.nn X.am X.g X.sm X.ev X.hd X.rd).lookup ("events" : Str) = some (.ref X.ev) := rfl
    have fA : (fieldsLo X.nn X.am X.g X.sm X.ev X.hd X.rd).lookup ("amounts" : Str) = some (.ref X.am) := rfl
    have fN : (fieldsLo X.nn X.am X.g X.sm X.ev X.hd X.rd).lookup ("notes" : Str) = some (.ref X.nn) := rfl
    have fH : (fieldsLo X.nn X.am X.g X.sm X.ev X.hd X.rd).lookup ("ahead" : Str) = some (.ref X.hd) := rfl
    have fR : (fieldsLo X.nn X.am X.g X.sm X.ev X.hd X.rd).lookup ("read" : Str) = some (.ref X.rd) := rfl
    have nl := ok.len
    cases d with
    | chg p a =>
      obtain ⟨t, x, rfl, ht, hx⟩ := hv
      have hp := hbe p a rfl
      refine ⟨_, rfl, X.p, Z, X.dx, _, _, rfl, L.ins, U.cl, U.n_events, fE, .inl ⟨rfl, _, .inl (.inl hus)⟩, ?_⟩
      refine ⟨_, rfl, t, _, (0 : Int), _, rfl, rfl, .inl (.inl ht), rfl, _, rfl, by show 2 ≤ sizeLine; decide, fun T1 nT1 => ?_⟩
      have s1 := smUpd (o := .tup [.str "change", vn k]) nT1
      have hT1 : upd H T1 (.tup [.str "change", vn k]) T1 = some (.tup [.str "change", vn k]) := upd_same
      generalize upd H T1 (.tup [.str "change", vn k]) = H1 at s1 hT1 ⊢
      refine ⟨_, rfl, 1, rfl, ?_⟩
      refine slN (s1 _ _ ht) fun T2 H2 s2 hT2 => ?_
      rw [show (some (1 : Int)) = some ((1 : Nat) : Int) from rfl, cutDrop] at hT2
      refine catA (s2 _ _ hT1) hT2 (by show 2 + 2 ≤ 1000; decide) fun T3 H3 s3 hT3 => ?_
      have hT3 : H3 T3 = some (.tup [.str "change", vn k, vn p, x]) := hT3
      have s13 := s1.trans (s2.trans s3)
      have L3 := L.same s13
      refine ⟨X.ev, us, .ref T3, rfl, rfl, s13 _ _ hus, bigLine (by omega), ?_⟩
      have L4 := L3.evt (e := .chg k p a) (s13 _ _ hus) ⟨T3, x, rfl, hT3, D.same s13 hx⟩
      have t4 : TK H3 (upd H3 X.ev (.lst (us ++ [.ref T3]))) := tkUpd (s13 _ _ hus) fun xs z => by cases z
      have k4 : KeptOut F H3 (upd H3 X.ev (.lst (us ++ [.ref T3]))) := keptUpd L.own.2.2.1
      have ht4 := t4 _ _ (s13 _ _ ht)
      have hx4 := D.keep t4 (D.same s13 hx)
      generalize upd H3 X.ev (.lst (us ++ [.ref T3])) = H4 at L4 t4 k4 ht4 hx4 ⊢
      refine ⟨_, rfl, t, _, (0 : Int), _, rfl, rfl, .inl (.inl ht4), rfl, rfl, _, rfl, ?_⟩
      refine ifT (by show decide (V.str (Str.ofString "change") = V.str (Str.ofString "change")) = true; decide +kernel) ?_
      obtain ⟨kvA, hA, hAl, hA2⟩ := L4.amts
      refine ⟨_, rfl, t, _, (2 : Int), _, rfl, rfl, .inl (.inl ht4), rfl, _, rfl, X.p, Z, X.dx, _, _, rfl, L4.ins, U.cl, U.n_amounts, fA, _, rfl, t, _, (1 : Int), _, rfl, rfl, .inl (.inl ht4), rfl, X.am, _, rfl, DPut.k (k := .inl (p : Int)) hA (by
        obtain ⟨w0, hw0, _⟩ := hA2 p hp
        exact bigLine (by omega)), ?_⟩
      have L5 := L4.amt hA hp hx4
      have t5 : TK H4 (upd H4 X.am (.dK (putK kvA (.inl (p : Int)) x))) := tkUpd hA fun xs z => by cases z
      have k5 : KeptOut F H4 (upd H4 X.am (.dK (putK kvA (.inl (p : Int)) x))) := keptUpd L.own.1
      have ht5 := t5 _ _ ht4
      generalize upd H4 X.am (.dK (putK kvA (.inl (p : Int)) x)) = H5 at L5 t5 k5 ht5 ⊢
      obtain ⟨kvN, hN, hB⟩ := L5.notes
      refine ⟨_, rfl, X.p, Z, X.dx, _, _, rfl, L5.ins, U.cl, U.n_notes, fN, _, rfl, t, _, (1 : Int), _, rfl, rfl, .inl (.inl ht5), rfl, by show 1 ≤ sizeLine; decide, fun T6 nT6 => ?_⟩
      have s6 := smUpd (o := .lst [vn p]) nT6
      have hT6 : upd H5 T6 (.lst [vn p]) T6 = some (.lst ([p].map vn)) := upd_same
      have nF6 := L5.free T6 nT6
      have L6 := L5.same s6
      generalize upd H5 T6 (.lst [vn p]) = H6 at s6 hT6 L6 ⊢
      refine ⟨X.nn, T6, kvN, nt, [p], rfl, s6 _ _ hN, byPlaceSame s6 hB, ok.nd, ok.len, hT6, by show 1 ≤ 60; decide, fun l7 H7 s7 nl7 hl7 => ⟨l7, _, rfl, .inl (.inl hl7), fun l8 nl8 => ?_⟩⟩
      have L7 := L6.same s7
      have s8 := smUpd (o := .lst ((holdsA nt [p]).map vn).reverse) nl8
      have hl8 : upd H7 l8 (.lst ((holdsA nt [p]).map vn).reverse) l8 = some (.lst (((holdsN nt p).reverse).map vn)) := by rw [upd_same, holdsA_one, List.map_reverse]
      have L8 := L7.same s8
      have nF8 := L7.free l8 nl8
      have e8 : l8 ≠ X.ev := fun z => by
        obtain ⟨us7, h7, _⟩ := L7.evs
        rw [← z, nl8] at h7
        cases h7
      have n1 : ∀ i, st.hd i ≠ none → X.fh i ≠ l8 := fun i hi z => by
        obtain ⟨_, _, _, h2⟩ := L7.heads
        cases e : st.hd i with
        | none => exact hi e
        | some r =>
          obtain ⟨_, b2, _⟩ := (h2 i).2 r e
          rw [z, nl8] at b2
          cases b2
      have n2 : ∀ i q, st.hd i ≠ none → ds[i]? = some (.ask q) → l8 ≠ X.fr i := fun i q hi hq z => by
        obtain ⟨_, _, _, h2⟩ := L7.reads
        obtain ⟨_, ⟨_, b2, _⟩, _⟩ := h2 i q hi hq
        rw [← z, nl8] at b2
        cases b2
      generalize upd H7 l8 (.lst ((holdsA nt [p]).map vn).reverse) = H8 at s8 hl8 L8 ⊢
      obtain ⟨kvH, hH, hHl, _⟩ := L8.heads
      have rl : ((holdsN nt p).reverse).length ≤ 60 := by
        rw [List.length_reverse]
        unfold holdsN
        rw [List.length_map]
        exact Nat.le_trans (List.length_filter_le _ _) ok.len
      refine ⟨_, rfl, X.p, Z, X.dx, _, _, rfl, L8.ins, U.cl, U.n_ahead, fH, _, rfl, X.hd, _, rfl, DPut.k (k := .inl (k : Int)) hH (bigLine (by omega)), ?_⟩
      have L9 := L8.hdC hH hk hd hl8 nF8 e8 rl n1 n2
      have t9 : TK H8 (upd H8 X.hd (.dK (putK kvH (.inl (k : Int)) (.ref l8)))) := tkUpd hH fun xs z => by cases z
      have k9 : KeptOut F H8 (upd H8 X.hd (.dK (putK kvH (.inl (k : Int)) (.ref l8)))) := keptUpd L.own.2.2.2.1
      have s58 := s6.trans (s7.trans s8)
      exact kk { X with fh := fun i => if i = k then l8 else X.fh i } _ rfl rfl L9 ((keptSame s13).trans (k4.trans (k5.trans ((keptSame s58).trans k9)))) ((tkSame s13).trans (t4.trans (t5.trans ((tkSame s58).trans t9))))
    | ask q =>
      obtain ⟨t, rfl, ht⟩ := hv
      refine ⟨_, rfl, X.p, Z, X.dx, _, _, rfl, L.ins, U.cl, U.n_events, fE, .inl ⟨rfl, _, .inl (.inl hus)⟩, ?_⟩
      refine ⟨_, rfl, t, _, (0 : Int), _, rfl, rfl, .inl (.inl ht), rfl, _, rfl, by show 2 ≤ sizeLine; decide, fun T1 nT1 => ?_⟩
      have s1 := smUpd (o := .tup [.str "ask", vn k]) nT1
      have hT1 : upd H T1 (.tup [.str "ask", vn k]) T1 = some (.tup [.str "ask", vn k]) := upd_same
      generalize upd H T1 (.tup [.str "ask", vn k]) = H1 at s1 hT1 ⊢
      refine ⟨_, rfl, 1, rfl, ?_⟩
      refine slN (s1 _ _ ht) fun T2 H2 s2 hT2 => ?_
      rw [show (some (1 : Int)) = some ((1 : Nat) : Int) from rfl, cutDrop] at hT2
      refine catA (s2 _ _ hT1) hT2 (by show 2 + 1 ≤ 1000; decide) fun T3 H3 s3 hT3 => ?_
      have hT3 : H3 T3 = some (.tup [.str "ask", vn k, vn q]) := hT3
      have s13 := s1.trans (s2.trans s3)
      have L3 := L.same s13
      refine ⟨X.ev, us, .ref T3, rfl, rfl, s13 _ _ hus, bigLine (by omega), ?_⟩
      have L4 := L3.evt (e := .ask k q) (s13 _ _ hus) ⟨T3, rfl, hT3⟩
      have t4 : TK H3 (upd H3 X.ev (.lst (us ++ [.ref T3]))) := tkUpd (s13 _ _ hus) fun xs z => by cases z
      have k4 : KeptOut F H3 (upd H3 X.ev (.lst (us ++ [.ref T3]))) := keptUpd L.own.2.2.1
      have ht4 := t4 _ _ (s13 _ _ ht)
      generalize upd H3 X.ev (.lst (us ++ [.ref T3])) = H4 at L4 t4 k4 ht4 ⊢
      refine ⟨_, rfl, t, _, (0 : Int), _, rfl, rfl, .inl (.inl ht4), rfl, rfl, _, rfl, ?_⟩
      refine ifF (by show ¬ decide (V.str (Str.ofString "ask") = V.str (Str.ofString "change")) = true; decide +kernel) ?_
      obtain ⟨kvN, hN, hB⟩ := L4.notes
      refine ⟨_, rfl, X.p, Z, X.dx, _, _, rfl, L4.ins, U.cl, U.n_notes, fN, _, rfl, t, _, (1 : Int), _, rfl, rfl, .inl (.inl ht4), rfl, X.nn, kvN, nt, q, rfl, hN, hB, ok.nd, ok.len, fun l8 H8 s8 nl8 hl8 => ?_⟩
      have L8 := L4.same s8
      have nF8 := L4.free l8 nl8
      have e8 : l8 ≠ X.ev := fun z => by
        obtain ⟨us7, h7, _⟩ := L4.evs
        rw [← z, nl8] at h7
        cases h7
      have n1 : ∀ i, st.hd i ≠ none → X.fh i ≠ l8 := fun i hi z => by
        obtain ⟨_, _, _, h2⟩ := L4.heads
        cases e : st.hd i with
        | none => exact hi e
        | some r =>
          obtain ⟨_, b2, _⟩ := (h2 i).2 r e
          rw [z, nl8] at b2
          cases b2
      have n2 : ∀ i q, st.hd i ≠ none → ds[i]? = some (.ask q) → l8 ≠ X.fr i := fun i q hi hq z => by
        obtain ⟨_, _, _, h2⟩ := L4.reads
        obtain ⟨_, ⟨_, b2, _⟩, _⟩ := h2 i q hi hq
        rw [← z, nl8] at b2
        cases b2
      have rl : (readsN nt q).length ≤ 60 := by
        unfold readsN
        rw [List.length_map]
        exact Nat.le_trans (List.length_filter_le _ _) ok.len
      obtain ⟨kvH, hH, hHl, _⟩ := L8.heads
      obtain ⟨kvR, hR, hRl, _⟩ := L8.reads
      refine ⟨_, rfl, X.p, Z, X.dx, _, _, rfl, L8.ins, U.cl, U.n_ahead, fH, _, rfl, X.hd, _, rfl, DPut.k (k := .inl (k : Int)) hH (bigLine (by omega)), by show 0 ≤ sizeLine; decide, fun l2 nl2 => ?_⟩
      obtain ⟨d1, d2, d3, d4, d5, d6, d7, d8, d9, d10⟩ := L8.dis
      have nl2' : H8 l2 = none := by
        by_cases c : l2 = X.hd
        · rw [c, upd_same] at nl2; cases nl2
        · rw [upd_ne c] at nl2; exact nl2
      have L9 := L8.hdA hH hR hk hd hl8 nF8 e8 rl n1 n2 nl2'
      have rdne : X.rd ≠ l2 := fun z => by rw [← z, hR] at nl2'; cases nl2'
      have pne : X.p ≠ l2 := fun z => by rw [← z, L8.ins] at nl2'; cases nl2'
      have php : X.p ≠ X.hd := neK L8.ins hH fun z => by cases z
      refine ⟨_, rfl, X.p, Z, X.dx, _, _, rfl, by rw [upd_ne pne, upd_ne php]; exact L8.ins, U.cl, U.n_read, fR, _, rfl, X.rd, _, rfl, DPut.k (k := .inl (k : Int)) (kvs := kvR) (by rw [upd_ne rdne, upd_ne d6.symm]; exact hR) (bigLine (by omega)), ?_⟩
      have t9 : TK H8 (upd H8 X.hd (.dK (putK kvH (.inl (k : Int)) (.ref l8)))) := tkUpd hH fun xs z => by cases z
      have k9 : KeptOut F H8 (upd H8 X.hd (.dK (putK kvH (.inl (k : Int)) (.ref l8)))) := keptUpd L.own.2.2.2.1
      have s10 := smUpd (o := .lst []) nl2
      have hR10 : upd (upd H8 X.hd (.dK (putK kvH (.inl (k : Int)) (.ref l8)))) l2 (.lst []) X.rd = some (.dK kvR) := by rw [upd_ne rdne, upd_ne d6.symm]; exact hR
      exact kk { X with fh := fun i => if i = k then l8 else X.fh i, fr := fun i => if i = k then l2 else X.fr i } _ rfl rfl L9 ((keptSame s13).trans (k4.trans ((keptSame s8).trans (k9.trans ((keptSame s10).trans (keptUpd L.own.2.2.2.2)))))) ((tkSame s13).trans (t4.trans ((tkSame s8).trans (t9.trans ((tkSame s10).trans (tkUpd hR10 fun xs z => by cases z))))))
end
end Cn
namespace Cn
open PySem PySem.Spec PyProof.Rows L2 Ck
section
variable {P : Program} {w : World} {K : PySem.W.Frag} {mg : Str → Option Value} {base : Heap} {C Z : Addr}
/-- going on by a note -/
def spLoG {α : Type} (P : Program) (w : World) (K : PySem.W.Frag) (mg : Str → Option Value) (base : Heap) (Z : Addr) (D : Dom α) : Sp := fun vs H Q _ => ∃ (X : LoA) (F : Addr → Prop) (nt : NtL) (be : List Nat) (ds : List (Deed α)) (n k m s : Nat) (r : List Nat) (st : Lm α) (d : Deed α) (v : V) (ad : α → α → α), vs = [.ref X.p, vn k, v] ∧ LoomAt Z D F nt be ds n X st H ∧ NtOk nt be ∧ AddG P w K mg base D X.g ad ∧ SzOk D.sz m nt ds st ∧ m ≤ 20 ∧ st.hd k = some (s :: r) ∧ ds[k]? = some d ∧ DeedAt D H v d ∧ n ≤ 2000 ∧
  LoomTo Z D F nt be ds (n + 1) X (goL ad nt st k d) H Q
def nLoG : List Str := ["self", "k", "deed", "s"]
theorem scLoG : FnScope nLoG ["self", "k", "deed"] (defScope sLo_go_on) := ⟨rfl, rfl, rfl, by decide +kernel, rfl, by decide +kernel, by decide +kernel⟩
theorem dLoG {α : Type} (D : Dom α) (B : Defs K mg C) (U : LoT K mg Z) : ∃ f fd, FnOk P w K mg base CX0 4 f fd ["self", "k", "deed"] (spLoG P w K mg base Z D) ∧ Meth K Z "go_on" f ∧ Binds K fd ["self", "k", "deed"] [] := by
  obtain ⟨fP, fdP, GP, MP, bP⟩ := dLoP (P := P) (w := w) (base := base) D B U
  obtain ⟨f, fd, F0, M, b⟩ := U.m_go_on
  have N := B.N
  have nd := scLoG.nd
  refine ⟨f, fd, ?_, M, b⟩
  refine F0.ok scLoG (fun vs H Q E h => ?_) (fun cdv A outer s H vs Q E hr h => ?_)
  · obtain ⟨X, F, nt, be, ds, n, k, m, s, r, st, d, v, ad, rfl, _⟩ := h
    rfl
  · obtain ⟨X, F, nt, be, ds, n, k, m, sx, r, st, d, v, ad, rfl, L, ok, hAd, S, hm, hk, hd, hv, hn, kk⟩ := h
    have hu : (A.deeper (envOfC "Loom.go_on" (defScope sLo_go_on) s.heap.objs.size f cdv)).units + 1 < cLine := by have := hr.units; omega
    refine ⟨_, pss_cons (ps_set (i := 3) nd rfl (Or.inl rfl) (pe_bm PySem.F.plainAttrs_list PySem.F.slot_list_pop PySem.F.type_list_pop mt_popAt (pe_dget hu (pe_fld (pv 0) rfl) (pv 1) (fun _ _ => rfl)) (pa_cons pe_int pa_nil)))
      (pss_one (ps_if (pt_cmpR op_eq (pe_ix ix_tup (pv 2) pe_int (fun _ _ => rfl)) pe_str (nomark _))
        (pss_one (ps_dput hu (pe_fld (pv 0) rfl) (pv 3) (pe_meth (pv 0) U.cl MP GP hr bP .nil pass0 (pa_cons (pv 3) pa_nil)) rfl))
        (pss_one (ps_expr (pe_bm PySem.F.plainAttrs_list PySem.F.slot_list_append PySem.F.type_list_append mt_append (pe_dget hu (pe_fld (pv 0) rfl) (pv 1) (fun _ _ => rfl)) (pa_cons (pe_dget hu (pe_fld (pv 0) rfl) (pv 3) (fun _ _ => rfl)) pa_nil)))))), ?_⟩
    have fS : (fieldsLo X.nn X.am X.g X.sm X.ev X.hd X.rd).lookup ("sums" : Str) = some (.ref X.sm) := rfl
    have fH : (fieldsLo X.nn X.am X.g X.sm X.ev X.hd X.rd).lookup ("ahead" : Str) = some (.ref X.hd) := rfl
    have fR : (fieldsLo X.nn X.am X.g X.sm X.ev X.hd X.rd).lookup ("read" : Str) = some (.ref X.rd) := rfl
    have hs : sx ∈ nt.map (fun e => e.1) := S.h k _ hk sx List.mem_cons_self
    have kn : st.hd k ≠ none := by rw [hk]; exact fun z => nomatch z
    obtain ⟨kvH, hH, hHl, hH2⟩ := L.heads
    obtain ⟨a0, hb, c0, d0, e0⟩ := (hH2 k).2 _ hk
    refine ⟨_, rfl, X.p, Z, X.dx, _, _, rfl, L.ins, U.cl, U.n_ahead, fH, _, rfl, X.hd, .ref (X.fh k), rfl, .inl ⟨kvH, .inl (k : Int), .inl hH, rfl, a0.symm⟩, .inl ⟨rfl, _, .inl (.inl hb)⟩, X.fh k, _, 0, 0, vn sx, rfl, rfl, hb, by decide, by decide, (ixN_seq (ixNat (n := ((sx :: r).map vn).length) (i := 0) (by rw [List.length_map]; exact Nat.succ_pos _))).1, rfl, ?_⟩
    have L1 : LoomAt Z D F nt be ds n X { st with hd := fun i => if i = k then some r else st.hd i } (upd H (X.fh k) (.lst (((sx :: r).map vn).eraseIdx 0))) := L.pop hk
    have t1 : TK H (upd H (X.fh k) (.lst (((sx :: r).map vn).eraseIdx 0))) := tkUpd hb fun xs z => by cases z
    have k1 : KeptOut F H (upd H (X.fh k) (.lst (((sx :: r).map vn).eraseIdx 0))) := keptUpd c0
    generalize upd H (X.fh k) (.lst (((sx :: r).map vn).eraseIdx 0)) = H1 at L1 t1 k1 ⊢
    cases d with
    | chg p a =>
      obtain ⟨t, x, rfl, ht, hx⟩ := hv
      have ht1 := t1 _ _ ht
      have eg : goL ad nt st k (.chg p a) = { st with hd := fun i => if i = k then some r else st.hd i, sm := fun i => if i = sx then sumP ad st.am (placesN nt sx) else st.sm i } := by unfold goL; rw [hk]
      rw [eg] at kk
      refine ⟨_, rfl, t, _, (0 : Int), _, rfl, rfl, .inl (.inl ht1), rfl, rfl, _, rfl, ?_⟩
      refine ifT (by show decide (V.str (Str.ofString "change") = V.str (Str.ofString "change")) = true; decide +kernel) ?_
      obtain ⟨kvN, hN, hB⟩ := L1.notes
      obtain ⟨o1, o2, o3⟩ := ok.ne sx hs
      refine ⟨_, rfl, X.p, X.dx, _, rfl, L1.ins, rfl, _, rfl, X.p, X.dx, X.nn, X.am, X.g, _, nt, sx, 100, m, st.am, ad, rfl, L1.ins, rfl, rfl, rfl, hAd, ⟨kvN, .inl hN, hB⟩, ok.nd, hs, amsSub o3 L1.amts, o1, o2, fun q _ => S.a q, by omega, fun v2 H2 s2 hv2 => ?_⟩
      have L2 := L1.same s2
      obtain ⟨kvS, hS, hSl, _⟩ := L2.sums
      refine ⟨_, rfl, X.p, Z, X.dx, _, _, rfl, L2.ins, U.cl, U.n_sums, fS, _, rfl, X.sm, _, rfl, DPut.k (k := .inl (sx : Int)) hS (bigLine (by omega)), ?_⟩
      have L3 := (L2.sumS hS hs hv2).mono (Nat.le_succ n)
      have t3 : TK H2 (upd H2 X.sm (.dK (putK kvS (.inl (sx : Int)) v2))) := tkUpd hS fun xs z => by cases z
      exact kk X _ rfl rfl L3 (k1.trans ((keptSame s2).trans (keptUpd L.own.2.1))) (t1.trans ((tkSame s2).trans t3))
    | ask q =>
      obtain ⟨t, rfl, ht⟩ := hv
      have ht1 := t1 _ _ ht
      have eg : goL ad nt st k (.ask q) = { st with hd := fun i => if i = k then some r else st.hd i, rd := fun i => if i = k then st.rd k ++ [st.sm sx] else st.rd i } := by unfold goL; rw [hk]
      rw [eg] at kk
      refine ⟨_, rfl, t, _, (0 : Int), _, rfl, rfl, .inl (.inl ht1), rfl, rfl, _, rfl, ?_⟩
      refine ifF (by show ¬ decide (V.str (Str.ofString "ask") = V.str (Str.ofString "change")) = true; decide +kernel) ?_
      have kn1 : (if k = k then some r else st.hd k) ≠ none := by rw [if_pos rfl]; exact fun z => nomatch z
      obtain ⟨kvR, hR, hRl, hR2⟩ := L1.reads
      obtain ⟨a1, ⟨us, b1, b2, b3⟩, c1, d1⟩ := hR2 k q kn1 hd
      obtain ⟨kvS, hS, hSl, hS2⟩ := L1.sums
      obtain ⟨v2, w1, w2⟩ := hS2 sx hs
      refine ⟨_, rfl, X.p, Z, X.dx, _, _, rfl, L1.ins, U.cl, U.n_read, fR, _, rfl, X.rd, .ref (X.fr k), rfl, .inl ⟨kvR, .inl (k : Int), .inl hR, rfl, a1.symm⟩, .inl ⟨rfl, _, .inl (.inl b1)⟩, _, rfl, X.p, Z, X.dx, _, _, rfl, L1.ins, U.cl, U.n_sums, fS, _, rfl, X.sm, v2, rfl, .inl ⟨kvS, .inl (sx : Int), .inl hS, rfl, w1.symm⟩, X.fr k, us, v2, rfl, rfl, b1, bigLine (by omega), ?_⟩
      have L2 := (L1.mono (Nat.le_succ n)).read kn1 hd b1 w2 (by omega)
      have t3 : TK H1 (upd H1 (X.fr k) (.lst (us ++ [v2]))) := tkUpd b1 fun xs z => by cases z
      exact kk X _ rfl rfl L2 (k1.trans (keptUpd c1)) (t1.trans t3)
/-- a deed ends -/
def spLoE {α : Type} (P : Program) (w : World) (K : PySem.W.Frag) (mg : Str → Option Value) (base : Heap) (Z : Addr) (D : Dom α) : Sp := fun vs H Q _ => ∃ (X : LoA) (F : Addr → Prop) (nt : NtL) (be : List Nat) (ds : List (Deed α)) (n k m : Nat) (st : Lm α) (d : Deed α) (v : V) (ad : α → α → α), vs = [.ref X.p, vn k, v] ∧ LoomAt Z D F nt be ds n X st H ∧ AddG P w K mg base D X.g ad ∧ SzOk D.sz m nt ds st ∧ m ≤ 20 ∧ st.hd k = some [] ∧ ds[k]? = some d ∧ DeedAt D H v d ∧ st.ev.length ≤ 4000 ∧
  LoomTo Z D F nt be ds n X (endL ad st k d) H Q
def nLoE : List Str := ["self", "k", "deed"]
theorem scLoE : FnScope nLoE ["self", "k", "deed"] (defScope sLo_end) := ⟨rfl, rfl, rfl, by decide +kernel, rfl, by decide +kernel, by decide +kernel⟩
theorem dLoE {α : Type} (D : Dom α) (B : Defs K mg C) (U : LoT K mg Z) : ∃ f fd, FnOk P w K mg base CX0 3 f fd ["self", "k", "deed"] (spLoE P w K mg base Z D) ∧ Meth K Z "end" f ∧ Binds K fd ["self", "k", "deed"] [] := by
  obtain ⟨fT, fdT, GT, gT, kT, bT⟩ := dTogt (P := P) (w := w) (base := base) D B
  obtain ⟨f, fd, F0, M, b⟩ := U.m_end
  have N := B.N
  have nd := scLoE.nd
  refine ⟨f, fd, ?_, M, b⟩
  refine F0.ok scLoE (fun vs H Q E h => ?_) (fun cdv A outer s H vs Q E hr h => ?_)
  · obtain ⟨X, F, nt, be, ds, n, k, m, st, d, v, ad, rfl, _⟩ := h
    rfl
  · obtain ⟨X, F, nt, be, ds, n, k, m, st, d, v, ad, rfl, L, hAd, S, hm, hk, hd, hv, hev, kk⟩ := h
    have hu : (A.deeper (envOfC "Loom.end" (defScope sLo_end) s.heap.objs.size f cdv)).units + 1 < cLine := by have := hr.units; omega
    refine ⟨_, pss_one (ps_if (pt_cmpR op_eq (pe_ix ix_tup (pv 2) pe_int (fun _ _ => rfl)) pe_str (nomark _))
        (pss_one (ps_expr (pe_bm PySem.F.plainAttrs_list PySem.F.slot_list_append PySem.F.type_list_append mt_append (pe_fld (pv 0) rfl) (pa_cons (pe_tup (pa_cons pe_str (pa_cons (pv 1) pa_nil))) pa_nil))))
        (pss_one (ps_expr (pe_bm PySem.F.plainAttrs_list PySem.F.slot_list_append PySem.F.type_list_append mt_append (pe_fld (pv 0) rfl) (pa_cons (pe_tup (pa_cons pe_str (pa_cons (pv 1) (pa_cons (pe_call GT hr (by rfl) gT kT bT .nil pass0 (pa_cons (pe_fld (pv 0) rfl) (pa_cons (pe_dget hu (pe_fld (pv 0) rfl) (pv 1) (fun _ _ => rfl)) pa_nil))) pa_nil)))) pa_nil))))), ?_⟩
    have fE : (fieldsLo X.nn X.am X.g X.sm X.ev X.hd X.rd).lookup ("events" : Str) = some (.ref X.ev) := rfl
    have fG : (fieldsLo X.nn X.am X.g X.sm X.ev X.hd X.rd).lookup ("adding" : Str) = some (.ref X.g) := rfl
    have fR : (fieldsLo X.nn X.am X.g X.sm X.ev X.hd X.rd).lookup ("read" : Str) = some (.ref X.rd) := rfl
    have kn : st.hd k ≠ none := by rw [hk]; exact fun z => nomatch z
    obtain ⟨us, hus, hU⟩ := L.evs
    have ul := Paired.length hU
    cases d with
    | chg p a =>
      obtain ⟨t, x, rfl, ht, hx⟩ := hv
      have eg : endL ad st k (.chg p a) = { st with ev := st.ev ++ [.don k] } := by unfold endL; rw [hk]
      rw [eg] at kk
      refine ⟨_, rfl, t, _, (0 : Int), _, rfl, rfl, .inl (.inl ht), rfl, rfl, _, rfl, ?_⟩
      refine ifT (by show decide (V.str (Str.ofString "change") = V.str (Str.ofString "change")) = true; decide +kernel) ?_
      refine ⟨_, rfl, X.p, Z, X.dx, _, _, rfl, L.ins, U.cl, U.n_events, fE, .inl ⟨rfl, _, .inl (.inl hus)⟩, _, rfl, by show 2 ≤ sizeLine; decide, fun T nT => ?_⟩
      have s1 := smUpd (o := .tup [.str "done", vn k]) nT
      have hT : upd H T (.tup [.str "done", vn k]) T = some (.tup [.str "done", vn k]) := upd_same
      have L1 := L.same s1
      generalize upd H T (.tup [.str "done", vn k]) = H1 at s1 hT L1 ⊢
      refine ⟨X.ev, us, .ref T, rfl, rfl, s1 _ _ hus, bigLine (by omega), ?_⟩
      have L2 := L1.evt (e := .don k) (s1 _ _ hus) ⟨T, rfl, hT⟩
      exact kk X _ rfl rfl L2 ((keptSame s1).trans (keptUpd L.own.2.2.1)) ((tkSame s1).trans (tkUpd (s1 _ _ hus) fun xs z => by cases z))
    | ask q =>
      obtain ⟨t, rfl, ht⟩ := hv
      have eg : endL ad st k (.ask q) = { st with ev := st.ev ++ [.tld k (togG ad (st.rd k))] } := by unfold endL; rw [hk]
      rw [eg] at kk
      obtain ⟨kvR, hR, hRl, hR2⟩ := L.reads
      obtain ⟨a1, ⟨rs, b1, b2, b3⟩, c1, d1⟩ := hR2 k q kn hd
      obtain ⟨z1, z2⟩ := S.r k q [] hd hk
      refine ⟨_, rfl, t, _, (0 : Int), _, rfl, rfl, .inl (.inl ht), rfl, rfl, _, rfl, ?_⟩
      refine ifF (by show ¬ decide (V.str (Str.ofString "ask") = V.str (Str.ofString "change")) = true; decide +kernel) ?_
      refine ⟨_, rfl, X.p, Z, X.dx, _, _, rfl, L.ins, U.cl, U.n_events, fE, .inl ⟨rfl, _, .inl (.inl hus)⟩, _, rfl, _, rfl, X.p, Z, X.dx, _, _, rfl, L.ins, U.cl, U.n_adding, fG, _, rfl, X.p, Z, X.dx, _, _, rfl, L.ins, U.cl, U.n_read, fR, _, rfl, X.rd, .ref (X.fr k), rfl, .inl ⟨kvR, .inl (k : Int), .inl hR, rfl, a1.symm⟩, X.g, X.fr k, ad, rs, st.rd k, 60 * m, rfl, hAd, b1, b3, z2, ?_, fun v2 H1 s1 hv2 => ?_⟩
      · have : (st.rd k).length * (60 * m) ≤ 60 * (60 * 20) := Nat.mul_le_mul (by rw [List.length_nil] at z1; omega) (Nat.mul_le_mul_left 60 hm)
        omega
      refine ⟨by show 3 ≤ sizeLine; decide, fun T nT => ?_⟩
      have s2 := smUpd (o := .tup [.str "told", vn k, v2]) nT
      have hT : upd H1 T (.tup [.str "told", vn k, v2]) T = some (.tup [.str "told", vn k, v2]) := upd_same
      have s12 := s1.trans s2
      have L1 := L.same s12
      have hv3 := D.optSame s2 hv2
      generalize upd H1 T (.tup [.str "told", vn k, v2]) = H2 at s2 hT s12 L1 hv3 ⊢
      refine ⟨X.ev, us, .ref T, rfl, rfl, s12 _ _ hus, bigLine (by omega), ?_⟩
      have L2 := L1.evt (e := .tld k (togG ad (st.rd k))) (s12 _ _ hus) ⟨T, v2, rfl, hT, hv3⟩
      exact kk X _ rfl rfl L2 ((keptSame s12).trans (keptUpd L.own.2.2.1)) ((tkSame s12).trans (tkUpd (s12 _ _ hus) fun xs z => by cases z))
/-- a turn -/
def spLoTu {α : Type} (P : Program) (w : World) (K : PySem.W.Frag) (mg : Str → Option Value) (base : Heap) (Z : Addr) (D : Dom α) : Sp := fun vs H Q _ => ∃ (X : LoA) (F : Addr → Prop) (nt : NtL) (be : List Nat) (ds : List (Deed α)) (n k m : Nat) (st : Lm α) (d : Deed α) (v : V) (ad : α → α → α), vs = [.ref X.p, vn k, v] ∧ LoomAt Z D F nt be ds n X st H ∧ NtOk nt be ∧ AddG P w K mg base D X.g ad ∧ SzOk D.sz m nt ds st ∧ m ≤ 20 ∧ ds[k]? = some d ∧ DeedAt D H v d ∧ (∀ p a, d = .chg p a → p ∈ be ∧ D.sz a ≤ m) ∧ n ≤ 1000 ∧ st.ev.length ≤ 2000 ∧
  LoomTo Z D F nt be ds (n + 2) X (turnL ad nt st k d) H Q
def nLoTu : List Str := ["self", "k", "deed"]
theorem scLoTu : FnScope nLoTu ["self", "k", "deed"] (defScope sLo_turn) := ⟨rfl, rfl, rfl, by decide +kernel, rfl, by decide +kernel, by decide +kernel⟩
theorem dLoTu {α : Type} (D : Dom α) (B : Defs K mg C) (U : LoT K mg Z) : ∃ f fd, FnOk P w K mg base CX0 5 f fd ["self", "k", "deed"] (spLoTu P w K mg base Z D) ∧ Meth K Z "turn" f ∧ Binds K fd ["self", "k", "deed"] [] := by
  obtain ⟨fB, fdB, GB, MB, bB⟩ := dLoB (P := P) (w := w) (base := base) D B U
  obtain ⟨fG, fdG, GG, MG, bG⟩ := dLoG (P := P) (w := w) (base := base) D B U
  obtain ⟨fE, fdE, GE, ME, bE⟩ := dLoE (P := P) (w := w) (base := base) D B U
  obtain ⟨f, fd, F0, M, b⟩ := U.m_turn
  have N := B.N
  have nd := scLoTu.nd
  refine ⟨f, fd, ?_, M, b⟩
  refine F0.ok scLoTu (fun vs H Q E h => ?_) (fun cdv A outer s H vs Q E hr h => ?_)
  · obtain ⟨X, F, nt, be, ds, n, k, m, st, d, v, ad, rfl, _⟩ := h
    rfl
  · obtain ⟨X, F, nt, be, ds, n, k, m, st, d, v, ad, rfl, L, ok, hAd, S, hm, hd, hv, hda, hn, hev, kk⟩ := h
    have hu : (A.deeper (envOfC "Loom.turn" (defScope sLo_turn) s.heap.objs.size f cdv)).units + 1 < cLine := by have := hr.units; omega
    refine ⟨_, psMid (ps_if (pt_cmp (pc_dnotin hu (pv 1) (pe_fld (pv 0) rfl)))
        (pss_one (ps_expr (pe_meth (pv 0) U.cl MB GB (hr.mono (by decide)) bB .nil pass0 (pa_cons (pv 1) (pa_cons (pv 2) pa_nil)))))
        (pss_one (ps_if (pt_not (pt_truth (pe_dget hu (pe_fld (pv 0) rfl) (pv 1) (fun _ _ => rfl)) (fun _ => rfl))) (pss_one ps_retN) pss_nil)))
      (psMid (ps_if (pt_truth (pe_dget hu (pe_fld (pv 0) rfl) (pv 1) (fun _ _ => rfl)) (fun _ => rfl)) (pss_one (ps_expr (pe_meth (pv 0) U.cl MG GG hr bG .nil pass0 (pa_cons (pv 1) (pa_cons (pv 2) pa_nil))))) pss_nil)
      (pss_one (ps_if (pt_not (pt_truth (pe_dget hu (pe_fld (pv 0) rfl) (pv 1) (fun _ _ => rfl)) (fun _ => rfl))) (pss_one (ps_expr (pe_meth (pv 0) U.cl ME GE (hr.mono (by decide)) bE .nil pass0 (pa_cons (pv 1) (pa_cons (pv 2) pa_nil))))) pss_nil))), ?_⟩
    have al := hAd.len
    refine ⟨fun σ H1 => σ = [some (.ref X.p), some (vn k), some v] ∧ ∃ (X1 : LoA) (st1 : Lm α), X1.p = X.p ∧ X1.g = X.g ∧ LoomAt Z D F nt be ds (n + 1) X1 st1 H1 ∧ KeptOut F H H1 ∧ TK H H1 ∧ st1.hd k ≠ none ∧ SzOk D.sz m nt ds st1 ∧ st1.ev.length ≤ 2001 ∧ turnL ad nt st k d = endL ad (goL ad nt st1 k d) k d, ?_, ?_⟩
    · obtain ⟨kvH, hH, hHl, hH2⟩ := L.heads
      have fH : (fieldsLo X.nn X.am X.g X.sm X.ev X.hd X.rd).lookup ("ahead" : Str) = some (.ref X.hd) := rfl
      cases hk : st.hd k with
      | none =>
        have eT : turnL ad nt st k d = endL ad (goL ad nt (begL nt st k d) k d) k d := by unfold turnL; rw [hk]
        refine ⟨_, rfl, _, rfl, X.p, Z, X.dx, _, _, rfl, L.ins, U.cl, U.n_ahead, fH, X.hd, none, rfl, .inl ⟨kvH, .inl (k : Int), .inl hH, rfl, ((hH2 k).1 hk).symm⟩, _, rfl, ?_⟩
        refine ifT rfl ?_
        refine ⟨_, rfl, X.p, X.dx, _, rfl, L.ins, rfl, _, rfl, _, rfl, X, F, nt, be, ds, n, k, st, d, v, rfl, L, ok, hk, hd, hv, fun p a e => (hda p a e).1, by omega, by omega, fun X' H' e1 e2 L' k' t' => ?_⟩
        refine ⟨rfl, X', _, e1, e2, L', k', t', ?_, szBeg S ok hk hd fun p a e => (hda p a e).2, ?_, eT⟩
        · cases d with
          | chg p a => show (if k = k then some _ else _) ≠ none; rw [if_pos rfl]; exact fun z => nomatch z
          | ask p => show (if k = k then some _ else _) ≠ none; rw [if_pos rfl]; exact fun z => nomatch z
        · cases d with
          | chg p a => show (st.ev ++ [_]).length ≤ 2001; rw [List.length_append]; show _ + 1 ≤ _; omega
          | ask p => show (st.ev ++ [_]).length ≤ 2001; rw [List.length_append]; show _ + 1 ≤ _; omega
      | some l =>
        obtain ⟨a0, hb, _⟩ := (hH2 k).2 _ hk
        refine ⟨_, rfl, _, rfl, X.p, Z, X.dx, _, _, rfl, L.ins, U.cl, U.n_ahead, fH, X.hd, some _, rfl, .inl ⟨kvH, .inl (k : Int), .inl hH, rfl, a0.symm⟩, _, rfl, ?_⟩
        refine ifF (by show ¬ (!true) = true; decide) ?_
        refine ⟨_, rfl, X.p, Z, X.dx, _, _, rfl, L.ins, U.cl, U.n_ahead, fH, _, rfl, X.hd, _, rfl, .inl ⟨kvH, .inl (k : Int), .inl hH, rfl, a0.symm⟩, !(l.map vn).isEmpty, .inl ⟨_, .inl (.inl hb), rfl⟩, ?_⟩
        cases l with
        | nil =>
          refine ifT rfl ?_
          have eT : turnL ad nt st k d = st := by unfold turnL; rw [hk]
          rw [eT] at kk
          exact kk X H rfl rfl (L.mono (by omega)) (fun _ _ _ e => e) (fun _ _ e => e)
        | cons s r =>
          refine ifF (by show ¬ (!(!false)) = true; decide) ?_
          have eT : turnL ad nt st k d = endL ad (goL ad nt st k d) k d := by unfold turnL; rw [hk]
          exact ⟨rfl, X, st, rfl, rfl, L.mono (Nat.le_succ n), (fun _ _ _ e => e), (fun _ _ e => e), (by rw [hk]; exact fun z => nomatch z), S, by omega, eT⟩
    rintro σ H1 ⟨rfl, X1, st1, ep, eg, L1, k1, t1, kn, S1, hev1, eT⟩
    rw [← ep]
    refine ⟨fun σ H2 => σ = [some (.ref X1.p), some (vn k), some v] ∧ ∃ (X2 : LoA) (st2 : Lm α), X2.p = X1.p ∧ X2.g = X1.g ∧ LoomAt Z D F nt be ds (n + 2) X2 st2 H2 ∧ KeptOut F H1 H2 ∧ TK H1 H2 ∧ st2.hd k ≠ none ∧ SzOk D.sz m nt ds st2 ∧ st2.ev.length ≤ 2001 ∧ turnL ad nt st k d = endL ad st2 k d, ?_, ?_⟩
    · obtain ⟨kvH, hH, hHl, hH2⟩ := L1.heads
      have fH : (fieldsLo X1.nn X1.am X1.g X1.sm X1.ev X1.hd X1.rd).lookup ("ahead" : Str) = some (.ref X1.hd) := rfl
      cases hk : st1.hd k with
      | none => exact absurd hk kn
      | some l =>
        obtain ⟨a0, hb, _⟩ := (hH2 k).2 _ hk
        refine ⟨_, rfl, X1.p, Z, X1.dx, _, _, rfl, L1.ins, U.cl, U.n_ahead, fH, _, rfl, X1.hd, _, rfl, .inl ⟨kvH, .inl (k : Int), .inl hH, rfl, a0.symm⟩, !(l.map vn).isEmpty, .inl ⟨_, .inl (.inl hb), rfl⟩, ?_⟩
        cases l with
        | nil =>
          refine ifF (by decide) ?_
          have eG : goL ad nt st1 k d = st1 := by unfold goL; rw [hk]
          rw [eG] at eT
          exact ⟨rfl, X1, st1, rfl, rfl, L1.mono (Nat.le_succ _), (fun _ _ _ e => e), (fun _ _ e => e), kn, S1, hev1, eT⟩
        | cons s r =>
          refine ifT rfl ?_
          refine ⟨_, rfl, X1.p, X1.dx, _, rfl, L1.ins, rfl, _, rfl, _, rfl, X1, F, nt, be, ds, n + 1, k, m, s, r, st1, d, v, ad, rfl, L1, ok, by rw [eg]; exact hAd, S1, hm, hk, hd, deedKeep t1 hv, by omega, fun X' H' e1 e2 L' k' t' => ?_⟩
          refine ⟨rfl, X', _, e1, e2, L', k', t', ?_, szGo al S1 ok hd, ?_, eT⟩
          · unfold goL
            rw [hk]
            cases d with
            | chg p a => show (if k = k then some r else _) ≠ none; rw [if_pos rfl]; exact fun z => nomatch z
            | ask p => show (if k = k then some r else _) ≠ none; rw [if_pos rfl]; exact fun z => nomatch z
          · unfold goL
            rw [hk]
            cases d with
            | chg p a => exact hev1
            | ask p => exact hev1
    rintro σ H2 ⟨rfl, X2, st2, ep2, eg2, L2, k2, t2, kn2, S2, hev2, eT2⟩
    rw [eT2] at kk
    obtain ⟨kvH, hH, hHl, hH2⟩ := L2.heads
    have fH : (fieldsLo X2.nn X2.am X2.g X2.sm X2.ev X2.hd X2.rd).lookup ("ahead" : Str) = some (.ref X2.hd) := rfl
    cases hk : st2.hd k with
    | none => exact absurd hk kn2
    | some l =>
      obtain ⟨a0, hb, _⟩ := (hH2 k).2 _ hk
      rw [← ep2]
      refine ⟨_, rfl, X2.p, Z, X2.dx, _, _, rfl, L2.ins, U.cl, U.n_ahead, fH, _, rfl, X2.hd, _, rfl, .inl ⟨kvH, .inl (k : Int), .inl hH, rfl, a0.symm⟩, !(l.map vn).isEmpty, .inl ⟨_, .inl (.inl hb), rfl⟩, ?_⟩
      cases l with
      | nil =>
        refine ifT rfl ?_
        exact ⟨_, rfl, X2.p, X2.dx, _, rfl, L2.ins, rfl, _, rfl, _, rfl, X2, F, nt, be, ds, n + 2, k, m, st2, d, v, ad, rfl, L2, by rw [eg2, eg]; exact hAd, S2, hm, hk, hd, deedKeep (t1.trans t2) hv, by omega, fun X' H' e1 e2 L' k' t' => kk X' H' (e1.trans (ep2.trans ep)) (e2.trans (eg2.trans eg)) L' (k1.trans (k2.trans k')) (t1.trans (t2.trans t'))⟩
      | cons s r =>
        refine ifF (by show ¬ (!(!false)) = true; decide) ?_
        have eE : endL ad st2 k d = st2 := by unfold endL; rw [hk]
        rw [eE] at kk
        exact kk X2 H2 (ep2.trans ep) (eg2.trans eg) L2 (k1.trans k2) (t1.trans t2)
end
end Cn
namespace Cn
open PySem PySem.Spec PyProof.Rows L2 Ck
theorem ntOk_held {fo : Fo} {lv : List Nat} (ok : FoOk fo) : NtOk (heldNotes fo.ps fo.be fo.as lv fo.ps.length) fo.be := by
  have l60 := ok.l1
  refine ⟨heldNotes_nodup, Nat.le_trans heldNotes_len l60, fun s hs => ?_⟩
  obtain ⟨e, he, rfl⟩ := List.mem_map.mp hs
  rw [placesN_of heldNotes_nodup he]
  have hlt := heldNotes_lt he
  obtain ⟨h1, h2⟩ := List.mem_filter.mp he
  obtain ⟨i, _, rfl⟩ := List.mem_map.mp h1
  have h2 : (!(noteAt fo.ps fo.be fo.as lv i).1.isEmpty && !(noteAt fo.ps fo.be fo.as lv i).2.isEmpty) = true := h2
  rw [Bool.and_eq_true] at h2
  have rl := road_len ok.ps i hlt
  have hlt : i < fo.ps.length := hlt
  refine ⟨fun z => ?_, ?_, fun q hq => ?_⟩
  · have z : (noteAt fo.ps fo.be fo.as lv i).1 = [] := z
    rw [z] at h2
    exact absurd h2.1 (by decide)
  · show ((heldAt fo.ps lv i).filter _).length ≤ 60
    refine Nat.le_trans (List.length_filter_le _ _) ?_
    unfold heldAt
    split
    · omega
    · rw [List.length_drop]; omega
  · exact of_decide_eq_true (List.mem_filter.mp hq).2
section
variable {P : Program} {w : World} {K : PySem.W.Frag} {mg : Str → Option Value} {base : Heap} {C Z : Addr}
/-- deeds woven -/
def spWoven {α : Type} (P : Program) (w : World) (K : PySem.W.Frag) (mg : Str → Option Value) (base : Heap) (C : Addr) (D : Dom α) : Sp := fun vs H Q _ => ∃ (a b m g dd tt : Addr) (fo : Fo) (lv : List Nat) (ws us : List V) (ds : List (Deed α)) (ts : List Nat) (am : Nat → α) (ad : α → α → α) (m0 : Nat), vs = [.ref a, .ref b, .ref m, .ref g, .ref dd, .ref tt] ∧ FoAt C H a fo ∧ FoOk fo ∧ TN H b lv ∧ Lv fo.ps lv ∧
  H m = some (.tup ws) ∧ ws.length = fo.be.length ∧ (∀ i p : Nat, fo.be[i]? = some p → ∃ v, ws[i]? = some v ∧ D.rep H v (am p)) ∧ AddG P w K mg base D g ad ∧ SeqH H dd us ∧ Paired (DeedAt D H) us ds ∧ (∀ d ∈ ds, deedFor fo d) ∧ ds.length ≤ 20 ∧ (∀ q, D.sz (am q) ≤ m0) ∧ (∀ p a, Deed.chg p a ∈ ds → D.sz a ≤ m0) ∧ m0 ≤ 20 ∧
  SeqH H tt (ts.map vn) ∧ (∀ k ∈ ts, k < ds.length) ∧ ts.length ≤ 400 ∧
  ∀ r rs H', Same H H' → H' r = some (.tup rs) → Paired (EvGAt D H') rs (weaveL ad (heldNotes fo.ps fo.be fo.as lv fo.ps.length) ds (lm0 ad (heldNotes fo.ps fo.be fo.as lv fo.ps.length) am) ts).ev → Q (.ref r) H'
def nWoven : List Str := ["forest", "plan", "amounts", "adding", "deeds", "turns", "borne", "loom", "k", "place", "amount"]
theorem scWoven : FnScope nWoven ["forest", "plan", "amounts", "adding", "deeds", "turns"] (defScope sWoven) := ⟨rfl, rfl, rfl, by decide +kernel, rfl, by decide +kernel, by decide +kernel⟩
theorem dWoven {α : Type} (D : Dom α) (B : Defs K mg C) : Def P w K mg base "woven" 7 ["forest", "plan", "amounts", "adding", "deeds", "turns"] (spWoven P w K mg base C D) := by
  obtain ⟨Z, U⟩ := B.cLo
  obtain ⟨f1, fd1, G1, g1, k1, b1⟩ := dIsPlan (P := P) (w := w) (base := base) B
  obtain ⟨f2, fd2, G2, g2, k2, b2⟩ := dIsAmt (P := P) (w := w) (base := base) B
  obtain ⟨f3, fd3, G3, g3, k3, b3⟩ := dIsDeeds (P := P) (w := w) (base := base) D B
  obtain ⟨f4, fd4, G4, g4, k4, b4⟩ := dIsTurns (P := P) (w := w) (base := base) B
  obtain ⟨f5, fd5, G5, g5, k5, b5⟩ := dByPlace (P := P) (w := w) (base := base) B
  obtain ⟨fI, fdI, GI, MI, bI⟩ := dLoI (P := P) (w := w) (base := base) D B U
  obtain ⟨fT, fdT, GT, MT, bT⟩ := dLoTu (P := P) (w := w) (base := base) D B U
  have N := B.N
  have TT := B.T
  have nd := scWoven.nd
  refine def_of B.wvn fun f fd F0 => ?_
  refine F0.ok scWoven (fun vs H Q E h => ?_) (fun cdv A outer s H vs Q E hr h => ?_)
  · obtain ⟨a, b, m, g, dd, tt, fo, lv, ws, us, ds, ts, am, ad, m0, rfl, _⟩ := h
    rfl
  · obtain ⟨a, b, m, g, dd, tt, fo, lv, ws, us, ds, ts, am, ad, m0, rfl, hF, ok, hb, hv, hm, hwl, ham, hAd, hdd, hU, hfor, hdl, hsa, hsd, hm0, htt, htl, ht4, k⟩ := h
    have hu : (A.deeper (envOfC "woven" (defScope sWoven) s.heap.objs.size f cdv)).units + 1 < cLine := by have := hr.units; omega
    refine ⟨_, pss_cons (ps_if (pt_not (pt_val (pe_call G1 (hr.mono (by decide)) (by rfl) g1 k1 b1 .nil pass0 (pa_cons (pv 0) (pa_cons (pv 1) pa_nil))))) (pss_one ps_never) pss_nil)
      (pss_cons (ps_if (pt_not (pt_val (pe_call G2 (hr.mono (by decide)) (by rfl) g2 k2 b2 .nil pass0 (pa_cons (pv 0) (pa_cons (pv 2) pa_nil))))) (pss_one ps_never) pss_nil)
      (pss_cons (ps_if (pt_not (pt_val (pe_call G3 (hr.mono (by decide)) (by rfl) g3 k3 b3 .nil pass0 (pa_cons (pv 0) (pa_cons (pv 4) pa_nil))))) (pss_one ps_never) pss_nil)
      (pss_cons (ps_if (pt_not (pt_val (pe_call G4 (hr.mono (by decide)) (by rfl) g4 k4 b4 .nil pass0 (pa_cons (pv 4) (pa_cons (pv 5) pa_nil))))) (pss_one ps_never) pss_nil)
      (pss_cons (ps_setDcP (i := 6) (o0 := .dK []) (own := [("place", 9), ("amount", 10)]) (g := gTup K 2 (gCons (gName 9) (gCons (gName 10) gNil))) (tt := tYes) (tk := tVar 9) (tv := tVar 10) (.inl rfl) rfl hu nd rfl rfl (sw_dict rfl rfl rfl (by decide +kernel)) (RZ.pi_zipA (by rfl) N.is.zip (pa_cons (pe_fld (pv 0) rfl) (pa_cons (pv 2) pa_nil)))
          (blkOk_by (N := nWoven) (sc := defScope sWoven) (by decide +kernel)) (fun _ _ _ _ _ => pg_tup rfl (pgs_cons (pg_name (i := 9) nd rfl (Or.inl rfl)) (pgs_cons (pg_name (i := 10) nd rfl (Or.inl rfl)) pgs_nil))) (fun _ _ _ _ _ => pts_nil) (fun _ _ _ _ _ => pv 9) (fun _ _ _ _ _ => pv 10))
      (pss_cons (ps_set (i := 7) nd rfl (Or.inl rfl) (pe_make MI GI (hr.mono (by decide)) (by rfl) U.mgC bI .nil pass0 (pa_cons (pe_call G5 hr (by rfl) g5 k5 b5 .nil pass0 (pa_cons (pv 0) (pa_cons (pv 1) pa_nil))) (pa_cons (pv 6) (pa_cons (pv 3) pa_nil)))))
      (pss_cons (ps_for PassesOwn.never rfl (PI.orr (pi_list (pv 5)) (pi_tup (pv 5))) (pg_name (i := 8) nd rfl (Or.inl rfl))
        (pss_one (ps_expr (pe_meth (pv 7) U.cl MT GT (hr.mono (by decide)) bT .nil pass0 (pa_cons (pv 8) (pa_cons (pe_ix ix_seq (pv 4) (pv 8) (fun _ _ => rfl)) pa_nil))))))
      (pss_one (ps_ret (pe_callTy call_tuple_of (by rfl) N.is.tup (by decide +kernel) (pa_cons (pe_fld (pv 7) rfl) pa_nil)))))))))), ?_⟩
    have l60 := ok.l1
    have bl60 := lotLen ok.be ok.bl
    have ul : us.length = ds.length := Paired.length hU
    refine ⟨_, rfl, _, rfl, a, b, fo, lv, rfl, hF, hb, ok.ps, hv, fun H1 s1 => ⟨true, rfl, ?_⟩⟩
    refine ifF (by decide) ?_
    refine ⟨_, rfl, _, rfl, a, m, fo, ws, rfl, foAt_same s1 hF, s1 _ _ hm, hwl, true, rfl, ?_⟩
    refine ifF (by decide) ?_
    refine ⟨_, rfl, _, rfl, a, dd, fo, us, ds, rfl, foAt_same s1 hF, seqSame s1 hdd, Paired.mapP hU fun _ _ z => deedSame s1 z, hfor, hdl, fun H2 s2 => ⟨true, rfl, ?_⟩⟩
    refine ifF (by decide) ?_
    have s12 := s1.trans s2
    refine ⟨_, rfl, _, rfl, dd, tt, us, ts, rfl, seqSame s12 hdd, by omega, seqSame s12 htt, fun k hk => by rw [ul]; exact htl k hk, ht4, fun H3 s3 => ⟨true, rfl, ?_⟩⟩
    refine ifF (by decide) ?_
    have s13 := s12.trans s3
    obtain ⟨dx, ap, ab, aa, h0, h1, h2, h3⟩ := foAt_same s13 hF
    refine ⟨_, rfl, a, C, dx, _, _, rfl, h0, TT.cl, TT.nB, fB, _, rfl, ab, m, fo.be.map vn, ws, rfl, .inr ⟨tnL h2, .inl (.inl (s13 _ _ hm)), fun D1 nD1 => ?_⟩⟩
    refine anyWalk (walk_zipT (n := fo.be.length) (xs := fo.be.map vn) (ys := ws) (by rw [List.length_map, hwl, Nat.min_self])) (fun i G => Same H3 G ∧ ∃ kvs : List (L2.Key × V), G D1 = some (.dK kvs) ∧ kvs.length ≤ i ∧ ∀ p ∈ fo.be.take i, ∃ v, valV kvs (.inl (p : Int)) = some v ∧ D.rep G v (am p))
      ⟨smUpd nD1, [], upd_same, Nat.le_refl _, (fun p hp => by rw [List.take_zero] at hp; cases hp)⟩ (fun i G _ z => ⟨tnL (z.1 _ _ h2), .inl (.inl (z.1 _ _ (s13 _ _ hm)))⟩) ?_ ?_
    · rintro i x G G2 hi ⟨sm, kvs, hD, hkl, hkv⟩ ⟨T, x1, y1, rfl, nT, rfl, e1, e2⟩
      obtain ⟨p, hp, rfl⟩ := vn_get (i := i) e1
      obtain ⟨v, hv1, hv2⟩ := ham i p hp
      have ey : y1 = v := by
        have e2 : ws[i]? = some y1 := e2
        rw [hv1] at e2
        exact (Option.some.inj e2).symm
      subst ey
      have T2 : Same G (upd G T (.tup [vn p, y1])) := smUpd nT
      have hT2 : upd G T (.tup [vn p, y1]) T = some (.tup [vn p, y1]) := upd_same
      generalize upd G T (.tup [vn p, y1]) = G2 at T2 hT2 ⊢
      have hD2 := T2 _ _ hD
      have tkD : TK G2 (upd G2 D1 (.dK (putK kvs (.inl (p : Int)) y1))) := tkUpd hD2 fun xs z => by cases z
      refine ⟨T, _, rfl, .inl (.inl hT2), rfl, _, _, rfl, _, _, rfl, rfl, rfl, _, rfl, _, rfl, _, DPut.k (k := .inl (p : Int)) hD2 (bigLine (by omega)), smOver nD1 (sm.trans T2), putK kvs (.inl (p : Int)) y1, upd_same, Nat.le_trans putKLen (by omega), fun q hq => ?_⟩
      rw [List.take_add_one, hp] at hq
      rw [valV_put]
      by_cases c : q = p
      · rw [if_pos (by rw [c]), c]
        exact ⟨y1, rfl, D.keep tkD (D.same (s13.trans (sm.trans T2)) hv2)⟩
      · rw [if_neg (fun z => c (by injection z with z; omega))]
        rcases List.mem_append.mp hq with h1 | h1
        · obtain ⟨v, a1, a2⟩ := hkv q h1
          exact ⟨v, a1, D.keep tkD (D.same T2 a2)⟩
        · exact absurd (List.mem_singleton.mp h1) c
    rintro H4 ⟨s34, kvA, hA, hAl, hAv⟩
    rw [List.take_length] at hAv
    have s14 := s13.trans s34
    refine ⟨_, rfl, _, rfl, a, b, fo, lv, rfl, foAt_same s14 hF, s14 _ _ hb, ok, hv, fun nn kvN H5 s5 nN hN hB => ?_⟩
    refine ⟨_, rfl, _, rfl, fun p dx nx ndx ne => ?_⟩
    have s6 := smUpd (o := .own p) ndx
    have nx6 : (upd H5 dx (.own p)) p = none := by rw [upd_ne ne.symm]; exact nx
    have s7 := smUpd (o := .ins Z dx []) nx6
    have hp7 : upd (upd H5 dx (.own p)) p (.ins Z dx []) p = some (.ins Z dx []) := upd_same
    have s57 := s6.trans s7
    have s37 := s34.trans (s5.trans s57)
    have nxH3 : H3 p = none := nBack (s34.trans s5) nx
    generalize upd (upd H5 dx (.own p)) p (.ins Z dx []) = H7 at s6 s7 hp7 s57 s37 ⊢
    have okN := ntOk_held (lv := lv) ok
    have hA7 := s57 _ _ (s5 _ _ hA)
    have hN7 := s57 _ _ hN
    have amn : D1 ≠ nn := fun z => by rw [← z, hA] at nN; cases nN
    refine ⟨p, dx, nn, D1, g, (fun b => H3 b = none), heldNotes fo.ps fo.be fo.as lv fo.ps.length, fo.be, ds, m0, am, ad, kvN, rfl, hp7, fun b z => nBack s37 z, nxH3, nD1, amn, hAd, hN7, byPlaceSame s57 hB, okN, ⟨kvA, hA7, by omega, fun q hq => ?_⟩, hsa, by omega, fun X0 H8 eX L0 eg k8 => ⟨rfl, ?_⟩⟩
    · obtain ⟨v, a1, a2⟩ := hAv q hq
      exact ⟨v, a1, D.same (s5.trans s57) a2⟩
    have k38 : Same H3 H8 := fun b o e => k8 b o (fun z => by rw [z] at e; cases e) (s37 _ _ e)
    show _ ∨ _
    refine seqWalk rfl (seqSame s13 htt) k38 fun J wk => ?_
    refine for_it wk (fun i σ G => Same H3 G ∧ ∃ (t8 : Option V) (X : LoA) (st : Lm α) (n : Nat), σ = [some (.ref a), some (.ref b), some (.ref m), some (.ref g), some (.ref dd), some (.ref tt), some (.ref D1), some (.ref X.p), t8, none, none] ∧ X.g = g ∧ LoomAt Z D (fun b => H3 b = none) (heldNotes fo.ps fo.be fo.as lv fo.ps.length) fo.be ds n X st G ∧ st = weaveL ad (heldNotes fo.ps fo.be fo.as lv fo.ps.length) ds (lm0 ad (heldNotes fo.ps fo.be fo.as lv fo.ps.length) am) (ts.take i) ∧ SzOk D.sz m0 (heldNotes fo.ps fo.be fo.as lv fo.ps.length) ds st ∧ n ≤ 2 * i ∧ st.ev.length ≤ 2 * i)
      ⟨k38, none, X0, _, 0, (by rw [eX]; rfl), eg, L0, rfl, ⟨fun i r z => (by cases z), hsa, fun s => sumP_sz hAd.len hsa ?_, fun i q r _ z => (by cases z)⟩, Nat.le_refl _, Nat.le_refl _⟩ (fun i σ G _ z => z.1) ?_ ?_
    · by_cases c : s ∈ (heldNotes fo.ps fo.be fo.as lv fo.ps.length).map fun e => e.1
      · exact (okN.ne s c).2.1
      · have : placesN (heldNotes fo.ps fo.be fo.as lv fo.ps.length) s = [] := by
          unfold placesN
          rw [List.find?_eq_none.mpr]
          intro e he z
          exact c (List.mem_map.mpr ⟨e, he, beq_iff_eq.mp z⟩)
        rw [this]
        exact Nat.zero_le _
    · rintro i x σ G G2 hi ⟨sG, t8, X, st, n, rfl, eg', L, est, S, hn, hev⟩ ⟨rfl, hx⟩
      obtain ⟨kt, hkt, rfl⟩ := vn_get hx
      rw [List.length_map] at hi
      have hkl := htl kt (List.mem_of_getElem? hkt)
      have hd : ds[kt]? = some ds[kt] := List.getElem?_eq_getElem hkl
      have hu' : us[kt]? = some (us[kt]'(by omega)) := List.getElem?_eq_getElem (by omega)
      obtain ⟨d', hd', hv'⟩ := pairedGetQ hU hu'
      rw [hd] at hd'
      cases hd'
      have sHG := s13.trans sG
      have fin : ∀ {Q' : VK}, (∀ H', (Same H3 H' ∧ ∃ (t8 : Option V) (X : LoA) (st : Lm α) (n : Nat), ([some (.ref a), some (.ref b), some (.ref m), some (.ref g), some (.ref dd), some (.ref tt), some (.ref D1), some (.ref X0.p), some (vn kt), none, none] : L2.St) = [some (.ref a), some (.ref b), some (.ref m), some (.ref g), some (.ref dd), some (.ref tt), some (.ref D1), some (.ref X.p), t8, none, none] ∧ X.g = g ∧ LoomAt Z D (fun b => H3 b = none) (heldNotes fo.ps fo.be fo.as lv fo.ps.length) fo.be ds n X st H' ∧ st = weaveL ad (heldNotes fo.ps fo.be fo.as lv fo.ps.length) ds (lm0 ad (heldNotes fo.ps fo.be fo.as lv fo.ps.length) am) (ts.take (i + 1)) ∧ SzOk D.sz m0 (heldNotes fo.ps fo.be fo.as lv fo.ps.length) ds st ∧ n ≤ 2 * (i + 1) ∧ st.ev.length ≤ 2 * (i + 1)) → Q' .non H') → True := fun _ => trivial
      have go : ∀ {Q' : VK}, (∀ X' H', X'.p = X.p → X'.g = g → LoomAt Z D (fun b => H3 b = none) (heldNotes fo.ps fo.be fo.as lv fo.ps.length) fo.be ds (n + 2) X' (turnL ad (heldNotes fo.ps fo.be fo.as lv fo.ps.length) st kt ds[kt]) H' → Same H3 H' → Q' .non H') → spLoTu P w K mg base Z D [.ref X.p, vn kt, us[kt]'(by omega)] G2 Q' E := fun q =>
        ⟨X, _, _, _, ds, n, kt, m0, st, ds[kt], _, ad, rfl, L, okN, by rw [eg']; exact hAd, S, hm0, hd, deedSame sHG hv', fun p x e => ⟨by
          have hz := hfor ds[kt] (List.getElem_mem hkl)
          rw [e] at hz
          exact hz, hsd p x (by rw [← e]; exact List.getElem_mem hkl)⟩, by omega, by omega, fun X' H' e1 e2 L' k' t' => q X' H' e1 (e2.trans eg') L' fun b o e => k' b o (fun z => by rw [z] at e; cases e) (sG _ _ e)⟩
      have done : ∀ X' H', X'.p = X.p → X'.g = g → LoomAt Z D (fun b => H3 b = none) (heldNotes fo.ps fo.be fo.as lv fo.ps.length) fo.be ds (n + 2) X' (turnL ad (heldNotes fo.ps fo.be fo.as lv fo.ps.length) st kt ds[kt]) H' → Same H3 H' → Same H3 H' ∧ ∃ (t8 : Option V) (X2 : LoA) (st : Lm α) (n : Nat), ([some (.ref a), some (.ref b), some (.ref m), some (.ref g), some (.ref dd), some (.ref tt), some (.ref D1), some (.ref X.p), some (vn kt), none, none] : L2.St) = [some (.ref a), some (.ref b), some (.ref m), some (.ref g), some (.ref dd), some (.ref tt), some (.ref D1), some (.ref X2.p), t8, none, none] ∧ X2.g = g ∧ LoomAt Z D (fun b => H3 b = none) (heldNotes fo.ps fo.be fo.as lv fo.ps.length) fo.be ds n X2 st H' ∧ st = weaveL ad (heldNotes fo.ps fo.be fo.as lv fo.ps.length) ds (lm0 ad (heldNotes fo.ps fo.be fo.as lv fo.ps.length) am) (ts.take (i + 1)) ∧ SzOk D.sz m0 (heldNotes fo.ps fo.be fo.as lv fo.ps.length) ds st ∧ n ≤ 2 * (i + 1) ∧ st.ev.length ≤ 2 * (i + 1) := fun X' H' e1 e2 L' s' =>
        ⟨s', _, X', _, n + 2, by rw [e1], e2, L', by
          rw [List.take_add_one, hkt]
          show _ = weaveL _ _ _ _ (ts.take i ++ [kt])
          rw [weave_snoc, ← est, stepW_of hd], szTurn hAd.len S okN hd (fun p x e => hsd p x (by rw [← e]; exact List.getElem_mem hkl)), by omega, Nat.le_trans evTurn (by omega)⟩
      have at_ : atI us ((kt : Nat) : Int) = some (us[kt]'(by omega)) := atI_nat hu'
      refine ⟨_, rfl, X.p, X.dx, _, rfl, L.ins, rfl, _, rfl, _, rfl, _, rfl, ?_⟩
      rcases hdd with hdd | hdd
      · exact .inl ⟨dd, us, (kt : Int), _, rfl, rfl, .inl (.inl (sHG _ _ hdd)), at_, go done⟩
      · exact .inr (.inl ⟨dd, us, (kt : Int), _, rfl, rfl, .inl (.inl (sHG _ _ hdd)), at_, go done⟩)
    · rintro σ G ⟨sG, t8, X, st, n, rfl, eg', L, est, S, hn, hev⟩
      rw [List.length_map, List.take_length] at est
      obtain ⟨es, he, hP⟩ := L.evs
      refine ⟨_, rfl, X.p, Z, X.dx, _, _, rfl, L.ins, U.cl, U.n_events, rfl, X.ev, es, rfl, .inl ⟨.inl (.inl he), fun q nq => ?_⟩⟩
      have sq := smUpd (o := .tup es) nq
      refine k q es _ (s13.trans (sG.trans sq)) upd_same ?_
      rw [← est]
      exact Paired.mapP hP fun _ _ z => evgKeep (tkSame sq) z
end
end Cn
namespace Cn
open PySem PySem.Spec PyProof.Rows L2 Ck
/-! the eighth fact: what is woven is possible -/
def toEv : EvG (List Nat) → Ev
  | .chg k p a => .chg k p a
  | .ask k p => .ask k p
  | .don k => .don k
  | .tld k a => .tld k (.txt a)
def lstepV (p : Nat) (v : List Nat) : Ev → List Nat
  | .chg _ q w => if q = p then w else v
  | _ => v
/-- the amount of a place behind a history -/
def lastV (am : Nat → List Nat) (h : List Ev) (p : Nat) : List Nat := h.foldl (lstepV p) (am p)
theorem last_snoc (am : Nat → List Nat) (h : List Ev) (e : Ev) (p : Nat) : lastV am (h ++ [e]) p = lstepV p (lastV am h p) e := by
  unfold lastV
  rw [List.foldl_append]
  rfl
/-- it is the first one, or that of the latest change -/
theorem last_of {am : Nat → List Nat} {p : Nat} (h : List Ev) : (lastV am h p = am p ∧ ∀ (j k : Nat) (w : List Nat), h[j]? ≠ some (Ev.chg k p w)) ∨ ∃ (j k : Nat), h[j]? = some (Ev.chg k p (lastV am h p)) ∧ ∀ (j' k' : Nat) (w' : List Nat), h[j']? = some (Ev.chg k' p w') → j' ≤ j := by
  refine snocInd (P := fun h => (lastV am h p = am p ∧ ∀ (j k : Nat) (w : List Nat), h[j]? ≠ some (Ev.chg k p w)) ∨ ∃ (j k : Nat), h[j]? = some (Ev.chg k p (lastV am h p)) ∧ ∀ (j' k' : Nat) (w' : List Nat), h[j']? = some (Ev.chg k' p w') → j' ≤ j) ?_ ?_ h
  · exact .inl ⟨rfl, fun j k w z => by cases z⟩
  · intro h e ih
    have old : ∀ {j : Nat} {x : Ev}, (h ++ [e])[j]? = some x → (j < h.length ∧ h[j]? = some x) ∨ (j = h.length ∧ x = e) := fun {j x} z => by
      by_cases c : j < h.length
      · rw [List.getElem?_append_left c] at z
        exact .inl ⟨c, z⟩
      · have := (List.getElem?_eq_some_iff.mp z).1
        rw [List.length_append, List.length_singleton] at this
        have ej : j = h.length := by omega
        subst ej
        rw [List.getElem?_append_right (Nat.le_refl _), Nat.sub_self] at z
        exact .inr ⟨rfl, (Option.some.inj z).symm⟩
    have keep : (∀ (k : Nat) (w : List Nat), e ≠ Ev.chg k p w) → (lastV am (h ++ [e]) p = am p ∧ ∀ (j k : Nat) (w : List Nat), (h ++ [e])[j]? ≠ some (Ev.chg k p w)) ∨ ∃ (j k : Nat), (h ++ [e])[j]? = some (Ev.chg k p (lastV am (h ++ [e]) p)) ∧ ∀ (j' k' : Nat) (w' : List Nat), (h ++ [e])[j']? = some (Ev.chg k' p w') → j' ≤ j := fun no => by
      have es : lastV am (h ++ [e]) p = lastV am h p := by
        rw [last_snoc]
        cases e with
        | chg k q w =>
          show (if q = p then w else _) = _
          rw [if_neg (fun z => no k w (by rw [z]))]
        | ask k q => rfl
        | don k => rfl
        | tld k a => rfl
      rw [es]
      rcases ih with ⟨h1, h2⟩ | ⟨j, k, h1, h2⟩
      · refine .inl ⟨h1, fun j k w z => ?_⟩
        rcases old z with ⟨_, z⟩ | ⟨_, z⟩
        · exact h2 j k w z
        · exact no k w z.symm
      · refine .inr ⟨j, k, by rw [List.getElem?_append_left (List.getElem?_eq_some_iff.mp h1).1]; exact h1, fun j' k' w' z => ?_⟩
        rcases old z with ⟨_, z⟩ | ⟨_, z⟩
        · exact h2 j' k' w' z
        · exact absurd z.symm (no k' w')
    cases e with
    | chg k q w =>
      by_cases c : q = p
      · subst c
        refine .inr ⟨h.length, k, ?_, fun j' k' w' z => ?_⟩
        · rw [last_snoc, List.getElem?_append_right (Nat.le_refl _), Nat.sub_self]
          show some (Ev.chg k q w) = some (Ev.chg k q (if q = q then w else _))
          rw [if_pos rfl]
        · rcases old z with ⟨z1, _⟩ | ⟨z1, _⟩ <;> omega
      · exact keep fun k' w' z => c (by injection z)
    | ask k q => exact keep fun _ _ z => by cases z
    | don k => exact keep fun _ _ z => by cases z
    | tld k a => exact keep fun _ _ z => by cases z
/-! ends that come later do not matter -/
def Clip (m : Int) (u v : Life) : Prop := u.1 = v.1 ∧ u.2.2 = v.2.2 ∧ u.1 < m ∧ (u.2.1 = v.2.1 ∨ (m ≤ u.2.1 ∧ m ≤ v.2.1))
theorem out_clip {m b : Int} (hb : b ≤ m) {e e' : Int} (he : e = e' ∨ (m ≤ e ∧ m ≤ e')) : ∀ {L L' : List Life}, Paired (Clip m) L L' → outB L e b = outB L' e' b
  | [], [], .nil => rfl
  | u :: L, v :: L', .cons ⟨h1, h2, h3, h4⟩ t => by
    have ih := out_clip hb he t
    unfold outB at ih ⊢
    rw [List.any_cons, List.any_cons, ih]
    congr 1
    rw [Bool.eq_iff_iff, Bool.and_eq_true, Bool.and_eq_true, decide_eq_true_iff, decide_eq_true_iff, decide_eq_true_iff, decide_eq_true_iff]
    omega
theorem cho_clip {m b : Int} (hb : b ≤ m) {L L' : List Life} (h : Paired (Clip m) L L') : choL L b = choL L' b := by
  unfold choL
  have go : ∀ {M M' : List Life}, Paired (Clip m) M M' → (M.filter fun t => !outB L t.2.1 b).map (fun t => t.2.2) = (M'.filter fun t => !outB L' t.2.1 b).map (fun t => t.2.2) := by
    intro M M' q
    induction q with
    | nil => rfl
    | @cons u v M M' c t ih =>
      obtain ⟨h1, h2, h3, h4⟩ := c
      have e := out_clip hb h4 h
      rw [List.filter_cons, List.filter_cons, e]
      by_cases c : (!outB L' v.2.1 b) = true
      · rw [if_pos c, if_pos c, List.map_cons, List.map_cons, ih, h2]
      · rw [if_neg c, if_neg c, ih]
  exact go h
theorem lives_clip {m : Nat} {E E' : Nat → Int} {p : Nat} {h : List Ev} (hm : h.length ≤ m) (hE : ∀ (i k : Nat) (w : List Nat), h[i]? = some (.chg k p w) → E k = E' k ∨ ((m : Int) ≤ E k ∧ (m : Int) ≤ E' k)) : Paired (Clip (m : Int)) (lives E p h) (lives E' p h) := by
  revert hm hE
  refine snocInd (P := fun h => h.length ≤ m → (∀ (i k : Nat) (w : List Nat), h[i]? = some (.chg k p w) → E k = E' k ∨ ((m : Int) ≤ E k ∧ (m : Int) ≤ E' k)) → Paired (Clip (m : Int)) (lives E p h) (lives E' p h)) ?_ ?_ h
  · intro _ _; exact .nil
  · intro h e ih hm hE
    rw [List.length_append, List.length_singleton] at hm
    rw [lives_snoc, lives_snoc]
    have i1 := ih (by omega) fun i k w z => hE i k w (by rw [List.getElem?_append_left (List.getElem?_eq_some_iff.mp z).1]; exact z)
    cases e with
    | chg k q w =>
      show Paired _ (_ ++ (if q = p then _ else [])) (_ ++ (if q = p then _ else []))
      by_cases c : q = p
      · subst c
        rw [if_pos rfl, if_pos rfl]
        have := hE h.length k w (by rw [List.getElem?_append_right (Nat.le_refl _), Nat.sub_self]; rfl)
        exact paired_snoc i1 ⟨rfl, rfl, by show (h.length : Int) < m; omega, this⟩
      · rw [if_neg c, if_neg c, List.append_nil, List.append_nil]
        exact i1
    | ask k q => show Paired _ (_ ++ []) (_ ++ []); rw [List.append_nil, List.append_nil]; exact i1
    | don k => show Paired _ (_ ++ []) (_ ++ []); rw [List.append_nil, List.append_nil]; exact i1
    | tld k a => show Paired _ (_ ++ []) (_ ++ []); rw [List.append_nil, List.append_nil]; exact i1
theorem dones_len {h : List Ev} {k j : Nat} (z : donesOf h k = some j) : j < h.length := (List.getElem?_eq_some_iff.mp (dones_mem z)).1
/-- the ends by a beginning of the history: the same, or both behind it -/
theorem end_take {fo : Fo} {h : List Ev} (hh : Hist fo h) {n k : Nat} (hn : n ≤ h.length) : endD (h.take n) k = endD h k ∨ ((n : Int) ≤ endD (h.take n) k ∧ (n : Int) ≤ endD h k) := by
  have tl : (h.take n).length = n := by rw [List.length_take]; omega
  have sub : ∀ m, n ≤ m → m ≤ h.length → (∀ j, donesOf (h.take n) k = some j → donesOf (h.take m) k = some j) ∧ (donesOf (h.take n) k = none → ∀ j, donesOf (h.take m) k = some j → n ≤ j) := by
    intro m
    induction m with
    | zero =>
      intro h1 _
      have : n = 0 := by omega
      subst this
      exact ⟨fun j z => z, fun z j y => by rw [z] at y; cases y⟩
    | succ m ih =>
      intro h1 h2
      by_cases c : n = m + 1
      · subst c
        exact ⟨fun j z => z, fun z j y => by rw [z] at y; cases y⟩
      · obtain ⟨a, b⟩ := ih (by omega) (by omega)
        have hg : h[m]? = some h[m] := List.getElem?_eq_getElem (by omega)
        have ml : (h.take m).length = m := by rw [List.length_take]; omega
        rw [List.take_add_one, hg]
        show (∀ j, donesOf (h.take n) k = some j → donesOf (h.take m ++ [h[m]]) k = some j) ∧ (_ → ∀ j, donesOf (h.take m ++ [h[m]]) k = some j → n ≤ j)
        rw [dones_snoc, ml]
        by_cases d : h[m].isDon = true ∧ k = h[m].key
        · constructor
          · intro j z
            exfalso
            have z1 := dones_mem z
            have z2 := (List.getElem?_eq_some_iff.mp z1).1
            rw [tl] at z2
            rw [List.getElem?_take_of_lt z2] at z1
            have ex : h[m] = .don k := by
              have hd := d.1
              have hk := d.2
              cases hx : h[m] with
              | don k2 => rw [hx] at hk; rw [show k = k2 from hk]
              | chg _ _ _ => rw [hx] at hd; cases hd
              | ask _ _ => rw [hx] at hd; cases hd
              | tld _ _ => rw [hx] at hd; cases hd
            have o1 := hh.ok m _ hg
            rw [ex] at o1
            have o1 : due (h.take m) k = some (some true) := o1
            obtain ⟨i, e, q1, q2, q3, q4⟩ := due_from o1
            have hji : ¬ i < j := fun lt => q4 j (.don k) lt (by rw [List.getElem?_take_of_lt (by omega)]; exact z1) rfl
            have il := (List.getElem?_eq_some_iff.mp q1).1
            rw [ml] at il
            rw [List.getElem?_take_of_lt il] at q1
            have o2 := hh.ok j _ z1
            have o2 : due (h.take j) k = some (some true) := o2
            by_cases ij : i = j
            · subst ij
              rw [z1] at q1
              cases q1
              cases q3
            · have hs := hist_first hh q1 (by cases e <;> first | rfl | cases q3) z1 (by show k = _; exact q2.symm)
              omega
          · intro _ j z
            have z : (if h[m].isDon = true ∧ k = h[m].key then some m else _) = some j := z
            rw [if_pos d] at z
            cases z
            omega
        · constructor
          · intro j z
            show (if h[m].isDon = true ∧ k = h[m].key then some m else donesOf (h.take m) k) = some j
            rw [if_neg d]
            exact a j z
          · intro z0 j z
            have z : (if h[m].isDon = true ∧ k = h[m].key then some m else donesOf (h.take m) k) = some j := z
            rw [if_neg d] at z
            exact b z0 j z
  obtain ⟨a, b⟩ := sub h.length hn (Nat.le_refl _)
  rw [List.take_length] at a b
  unfold endD
  cases e1 : donesOf (h.take n) k with
  | some j => rw [a j e1]; exact .inl rfl
  | none =>
    refine .inr ⟨by show (n : Int) ≤ (((h.take n).length : Nat) : Int); rw [tl]; exact Int.le_refl _, ?_⟩
    cases e2 : donesOf h k with
    | none => show (n : Int) ≤ ((h.length : Nat) : Int); omega
    | some j =>
      have := b e1 j e2
      show (n : Int) ≤ ((j : Nat) : Int)
      omega
/-- what an answer may count is told by what stands ahead of it -/
theorem chosen_take {fo : Fo} {am : Nat → List Nat} {h : List Ev} (hh : Hist fo h) {pl bg en n : Nat} (hn : n ≤ h.length) (he : en ≤ n) (hb : bg ≤ en) : chosenL fo am (h.take n) pl bg en = chosenL fo am h pl bg en := by
  unfold chosenL
  refine List.map_congr_left fun p _ => ?_
  have tl : (h.take n).length = n := by rw [List.length_take]; omega
  rw [may_eq (h := h.take n) (by omega) hb fun i k q w hi => end_behind (hist_take hh n) hi, may_eq (by omega) hb fun i k q w hi => end_behind hh hi, List.take_take, Nat.min_eq_left he]
  refine cho_clip (m := (n : Int)) (by omega) (.cons ⟨rfl, rfl, by show (-1 : Int) < _; omega, .inl rfl⟩ (lives_clip (by rw [List.length_take]; omega) fun i k w hi => end_take hh hn))
theorem getSnoc {α : Type} {h : List α} {e x : α} {j : Nat} (z : (h ++ [e])[j]? = some x) : (j < h.length ∧ h[j]? = some x) ∨ (j = h.length ∧ x = e) := by
  by_cases c : j < h.length
  · rw [List.getElem?_append_left c] at z
    exact .inl ⟨c, z⟩
  · have := (List.getElem?_eq_some_iff.mp z).1
    rw [List.length_append, List.length_singleton] at this
    have ej : j = h.length := by omega
    subst ej
    rw [List.getElem?_append_right (Nat.le_refl _), Nat.sub_self] at z
    exact .inr ⟨rfl, (Option.some.inj z).symm⟩
theorem mem_lives {E : Nat → Int} {p : Nat} {h : List Ev} {j k : Nat} {w : List Nat} : h[j]? = some (.chg k p w) → ((j : Int), E k, w) ∈ lives E p h := by
  refine snocInd (P := fun h => h[j]? = some (.chg k p w) → ((j : Int), E k, w) ∈ lives E p h) ?_ ?_ h
  · intro z; cases z
  · intro h e ih z
    rw [lives_snoc]
    rcases getSnoc z with ⟨_, z⟩ | ⟨z1, z2⟩
    · exact List.mem_append.mpr (.inl (ih z))
    · subst z2
      refine List.mem_append.mpr (.inr ?_)
      show _ ∈ (if p = p then _ else [])
      rw [if_pos rfl, z1]
      exact List.mem_cons_self
/-- the amount of an elder time may be chosen, if nothing that is over begins behind it -/
theorem val_cho {fo : Fo} {am : Nat → List Nat} {h : List Ev} {e : Ev} {p n bg : Nat} (hh : Hist fo (h ++ [e])) (hb : bg ≤ h.length) (cond : ∀ (j k : Nat) (w : List Nat) (i : Nat), h[j]? = some (Ev.chg k p w) → h[i]? = some (Ev.don k) → i < bg → j < n) :
    lastV am (h.take n) p ∈ choL ((-1, -1, am p) :: lives (endD (h ++ [e])) p h) (bg : Int) := by
  have done : ∀ k, endD (h ++ [e]) k < (bg : Int) → ∃ i, i < bg ∧ h[i]? = some (.don k) := fun k hk => by
    unfold endD at hk
    cases hd : donesOf (h ++ [e]) k with
    | none =>
      rw [hd] at hk
      have hk : (((h ++ [e]).length : Nat) : Int) < (bg : Int) := hk
      rw [List.length_append] at hk
      omega
    | some i =>
      rw [hd] at hk
      have hk : ((i : Nat) : Int) < (bg : Int) := hk
      have h1 := dones_mem hd
      rw [List.getElem?_append_left (by omega)] at h1
      exact ⟨i, by omega, h1⟩
  have fresh : ∀ u ∈ ((-1, -1, am p) : Life) :: lives (endD (h ++ [e])) p h, ∀ t : Int, -1 ≤ t → t < u.1 → u.2.1 < (bg : Int) → ∃ (j k : Nat) (w : List Nat), (h.take n)[j]? = some (.chg k p w) ∧ u.1 = (j : Int) := fun u hu t ht h1 h2 => by
    rcases List.mem_cons.mp hu with rfl | hu
    · have : t < -1 := h1
      omega
    · obtain ⟨j, k, w, hj, rfl⟩ := lives_mem hu
      obtain ⟨i, hi, hdn⟩ := done k h2
      have := cond j k w i hj hdn hi
      exact ⟨j, k, w, by rw [List.getElem?_take_of_lt this]; exact hj, rfl⟩
  unfold choL
  rcases last_of (am := am) (p := p) (h.take n) with ⟨h1, h2⟩ | ⟨j0, k0, h1, h2⟩
  · rw [h1]
    refine List.mem_map.mpr ⟨(-1, -1, am p), List.mem_filter.mpr ⟨List.mem_cons_self, ?_⟩, rfl⟩
    rw [Bool.not_eq_true', ← Bool.not_eq_true]
    intro z
    obtain ⟨u, hu, z⟩ := List.any_eq_true.mp z
    rw [Bool.and_eq_true, decide_eq_true_iff, decide_eq_true_iff] at z
    obtain ⟨j, k, w, q, _⟩ := fresh u hu (-1) (Int.le_refl _) z.1 z.2
    exact h2 j k w q
  · have hj0 : j0 < n := by
      have := (List.getElem?_eq_some_iff.mp h1).1
      rw [List.length_take] at this
      omega
    have h1' := h1
    rw [List.getElem?_take_of_lt hj0] at h1'
    refine List.mem_map.mpr ⟨((j0 : Int), endD (h ++ [e]) k0, lastV am (h.take n) p), List.mem_filter.mpr ⟨List.mem_cons_of_mem _ (mem_lives h1'), ?_⟩, rfl⟩
    rw [Bool.not_eq_true', ← Bool.not_eq_true]
    intro z
    obtain ⟨u, hu, z⟩ := List.any_eq_true.mp z
    rw [Bool.and_eq_true, decide_eq_true_iff, decide_eq_true_iff] at z
    have eb := end_behind hh (i := j0) (k := k0) (q := p) (w := lastV am (h.take n) p) (by rw [List.getElem?_append_left (List.getElem?_eq_some_iff.mp h1').1]; exact h1')
    have z1 : endD (h ++ [e]) k0 < u.1 := z.1
    obtain ⟨j, k, w, q, qe⟩ := fresh u hu (endD (h ++ [e]) k0) (by omega) z1 z.2
    have := h2 j k w q
    omega
theorem foldl_assoc {α : Type} {ad : α → α → α} (as : ∀ a b c, ad (ad a b) c = ad a (ad b c)) : ∀ (xs : List α) (a b : α), xs.foldl ad (ad a b) = ad a (xs.foldl ad b)
  | [], _, _ => rfl
  | x :: xs, a, b => by
    show xs.foldl ad (ad (ad a b) x) = ad a (xs.foldl ad (ad b x))
    rw [as, foldl_assoc as xs]
theorem tog_go {α : Type} {ad : α → α → α} (as : ∀ a b c, ad (ad a b) c = ad a (ad b c)) {vs : List α} {xss : List (List α)} (h : Paired (fun v xs => xs ≠ [] ∧ togG ad xs = some v) vs xss) : ∀ v, vs.foldl ad v = xss.flatten.foldl ad v := by
  induction h with
  | nil => exact fun v => rfl
  | @cons u ys us yss d t ih =>
    intro v
    obtain ⟨d1, d2⟩ := d
    cases ys with
    | nil => exact absurd rfl d1
    | cons y ys =>
      have d2 : ys.foldl ad y = u := Option.some.inj d2
      show us.foldl ad (ad v u) = ((y :: ys) ++ yss.flatten).foldl ad v
      rw [ih, List.foldl_append]
      show _ = yss.flatten.foldl ad (ys.foldl ad (ad v y))
      rw [foldl_assoc as ys, d2]
theorem tog_flat {α : Type} {ad : α → α → α} (as : ∀ a b c, ad (ad a b) c = ad a (ad b c)) {vs : List α} {xss : List (List α)} (h : Paired (fun v xs => xs ≠ [] ∧ togG ad xs = some v) vs xss) : togG ad vs = togG ad xss.flatten := by
  cases h with
  | nil => rfl
  | @cons v xs vs xss c t =>
    obtain ⟨c1, c2⟩ := c
    cases xs with
    | nil => exact absurd rfl c1
    | cons x xs =>
      have c2 : xs.foldl ad x = v := Option.some.inj c2
      show some (vs.foldl ad v) = some ((xs ++ xss.flatten).foldl ad x)
      rw [List.foldl_append, c2, tog_go as t]
theorem step_mem {ad : List Nat → List Nat → List Nat} : ∀ {ys : List (List Nat)} {cs : List (List (List Nat))} {ws : List (List Nat)} {y : List Nat}, y ∈ ws → Paired (fun y c => y ∈ c) ys cs → ys.foldl ad y ∈ cs.foldl (stepA ad) ws
  | [], [], _, _, h, .nil => h
  | x :: ys, c :: cs, ws, y, h, .cons a t => step_mem (ys := ys) (cs := cs) (ws := stepA ad ws c) (y := ad y x) (List.mem_flatMap.mpr ⟨y, h, List.mem_map.mpr ⟨x, a, rfl⟩⟩) t
theorem mem_allA {ad : List Nat → List Nat → List Nat} {ys : List (List Nat)} {cs : List (List (List Nat))} (h : Paired (fun y c => y ∈ c) ys cs) : togG ad ys ∈ allA ad cs := by
  cases h with
  | nil => exact List.mem_cons_self
  | @cons y c ys cs a t => exact List.mem_map.mpr ⟨_, step_mem a t, rfl⟩
theorem paired_flat {α β γ : Type} {R : α → β → Prop} {S : List α → γ → Prop} {f : γ → List β} (k : ∀ xs g, S xs g → Paired R xs (f g)) : ∀ {xss : List (List α)} {gs : List γ}, Paired S xss gs → Paired R xss.flatten (gs.flatMap f)
  | [], [], .nil => .nil
  | xs :: xss, g :: gs, .cons a t => by
    have h1 := k xs g a
    have h2 := paired_flat k t
    clear a
    show Paired R (xs ++ xss.flatten) (f g ++ gs.flatMap f)
    generalize f g = ys at h1 ⊢
    induction h1 with
    | nil => exact h2
    | cons b _ ih => exact .cons b ih
theorem paired_mapSelf {α β : Type} {R : β → α → Prop} {f : α → β} : ∀ {xs : List α}, (∀ x ∈ xs, R (f x) x) → Paired R (xs.map f) xs
  | [], _ => .nil
  | x :: xs, h => .cons (h x List.mem_cons_self) (paired_mapSelf fun y hy => h y (List.mem_cons_of_mem _ hy))
/-- what was read at a note: the amounts of a time not too early -/
def Rd8 (am : Nat → List Nat) (ad : List Nat → List Nat → List Nat) (nt : NtL) (h : List Ev) (b : Nat) (v : List Nat) (s : Nat) : Prop := s ∈ nt.map (fun e => e.1) ∧ ∃ n, n ≤ h.length ∧ v = sumP ad (lastV am (h.take n)) (placesN nt s) ∧ ∀ (j k p : Nat) (w : List Nat) (i : Nat), h[j]? = some (Ev.chg k p w) → p ∈ placesN nt s → h[i]? = some (Ev.don k) → i < b → j < n
theorem no_key {h : List Ev} {k : Nat} (d : due h k = none) {i : Nat} {e : Ev} (hi : h[i]? = some e) : e.key ≠ k := fun z => by
  have := due_some hi h.length (List.getElem?_eq_some_iff.mp hi).1
  rw [List.take_length, z] at this
  exact this d
theorem rd8_snoc {fo : Fo} {am : Nat → List Nat} {ad : List Nat → List Nat → List Nat} {nt : NtL} {h : List Ev} {e : Ev} {b : Nat} {v : List Nat} {s : Nat} (hh : Hist fo (h ++ [e])) (hb : b ≤ h.length) (r : Rd8 am ad nt h b v s) : Rd8 am ad nt (h ++ [e]) b v s := by
  obtain ⟨hs, n, h1, h2, h3⟩ := r
  refine ⟨hs, n, by rw [List.length_append]; omega, by rw [List.take_append_of_le_length h1]; exact h2, fun j k p w i hj hp hi hib => ?_⟩
  rcases getSnoc hi with ⟨_, hi⟩ | ⟨hi, _⟩
  · rcases getSnoc hj with ⟨_, hj⟩ | ⟨hj1, hj2⟩
    · exact h3 j k p w i hj hp hi hib
    · have o := hh.ok h.length e (by rw [List.getElem?_append_right (Nat.le_refl _), Nat.sub_self]; rfl)
      rw [List.take_left', ← hj2] at o
      · exact absurd rfl (no_key o hi)
      · rfl
  · omega
def isC {α : Type} : Deed α → Bool
  | .chg _ _ => true
  | .ask _ => false
def hOf (st : Lm (List Nat)) : List Ev := st.ev.map toEv
structure W8 (fo : Fo) (am : Nat → List Nat) (ad : List Nat → List Nat → List Nat) (nt : NtL) (ds : List (Deed (List Nat))) (st : Lm (List Nat)) : Prop where
  hist : Hist fo (hOf st)
  short : Short am (hOf st)
  aA : ∀ p, st.am p = lastV am (hOf st) p
  eC : ∀ (j k p : Nat) (w : List Nat), (hOf st)[j]? = some (Ev.chg k p w) → ds[k]? = some (.chg p w) ∧ st.hd k ≠ none
  eA : ∀ (j k p : Nat), (hOf st)[j]? = some (Ev.ask k p) → ds[k]? = some (.ask p) ∧ st.hd k ≠ none
  eD : ∀ (j k : Nat), (hOf st)[j]? = some (Ev.don k) → st.hd k = some []
  dN : ∀ k, st.hd k = none → due (hOf st) k = none
  dR : ∀ k r d, st.hd k = some r → ds[k]? = some d → due (hOf st) k = some (some (isC d)) ∨ (r = [] ∧ due (hOf st) k = some none)
  sS : ∀ s ∈ nt.map (fun e => e.1), ∃ n, n ≤ (hOf st).length ∧ st.sm s = sumP ad (lastV am ((hOf st).take n)) (placesN nt s) ∧ ∀ (j k p : Nat) (w : List Nat), (hOf st)[j]? = some (Ev.chg k p w) → p ∈ placesN nt s → (∃ r, st.hd k = some r ∧ s ∈ r) ∨ j < n
  rR : ∀ (b k q : Nat) (r : List Nat), (hOf st)[b]? = some (Ev.ask k q) → st.hd k = some r → ∃ dn, readsN nt q = dn ++ r ∧ Paired (Rd8 am ad nt (hOf st) b) (st.rd k) dn
  sub : ∀ k r, st.hd k = some r → ∀ s ∈ r, s ∈ nt.map (fun e => e.1)
  good : ∀ at_ k bg pl a, Told (hOf st) at_ k bg pl a → a ∈ allT ad (chosenL fo am (hOf st) pl bg at_)
theorem good_snoc {fo : Fo} {am : Nat → List Nat} {ad : List Nat → List Nat → List Nat} {h : List Ev} {e : Ev} (hh : Hist fo (h ++ [e])) (g : ∀ at_ k bg pl a, Told h at_ k bg pl a → a ∈ allT ad (chosenL fo am h pl bg at_)) {at_ k bg pl : Nat} {a : An} (ha : at_ < h.length) (t : Told (h ++ [e]) at_ k bg pl a) : a ∈ allT ad (chosenL fo am (h ++ [e]) pl bg at_) := by
  obtain ⟨i, q, h1, h2, _⟩ := told_ask hh t.1
  have eb := ask_once hh h2 t.2
  have tk : (h ++ [e]).take h.length = h := by rw [List.take_left']; rfl
  have := chosen_take (am := am) hh (pl := pl) (bg := bg) (en := at_) (n := h.length) (by rw [List.length_append]; omega) (Nat.le_of_lt ha) (by omega)
  rw [tk] at this
  rw [← this]
  refine g at_ k bg pl a ⟨?_, ?_⟩
  · have := t.1
    rw [List.getElem?_append_left ha] at this
    exact this
  · have := t.2
    rw [List.getElem?_append_left (by omega)] at this
    exact this

section
variable {fo : Fo} {am : Nat → List Nat} {ad : List Nat → List Nat → List Nat} {nt : NtL} {ds : List (Deed (List Nat))} {st : Lm (List Nat)}
/-- a deed that may be -/
def DeedOk (fo : Fo) : Deed (List Nat) → Prop
  | .chg p a => p ∈ fo.be ∧ a.length ≤ 100
  | .ask q => q ∈ fo.as
theorem short_snoc {h : List Ev} {e : Ev} (s : Short am h) (w : ∀ (k q : Nat) (w : List Nat), e = Ev.chg k q w → w.length ≤ 100) : Short am (h ++ [e]) := ⟨s.1, fun k q x hm => by
  rcases List.mem_append.mp hm with hm | hm
  · exact s.2 k q x hm
  · exact w k q x (List.mem_singleton.mp hm).symm⟩
theorem hOf_snoc {e : EvG (List Nat)} {a : Nat → List Nat} {b : Nat → List Nat} {c : Nat → Option (List Nat)} {d : Nat → List (List Nat)} : hOf ⟨a, b, c, d, st.ev ++ [e]⟩ = hOf st ++ [toEv e] := by
  show (st.ev ++ [e]).map toEv = _
  rw [List.map_append]
  rfl
theorem w8_begC (ndN : (nt.map fun e => e.1).Nodup) (W : W8 fo am ad nt ds st) {k p : Nat} {a : List Nat} (hk : st.hd k = none) (hd : ds[k]? = some (.chg p a)) (hp : p ∈ fo.be) (ha : a.length ≤ 100) :
    W8 fo am ad nt ds (begL nt st k (.chg p a)) ∧ due (hOf (begL nt st k (.chg p a))) k = some (some true) := by
  have eh : hOf (begL nt st k (.chg p a)) = hOf st ++ [Ev.chg k p a] := hOf_snoc (e := .chg k p a)
  have nk : ∀ {i : Nat} {r : List Nat}, st.hd i = some r → i ≠ k := fun h z => by rw [z, hk] at h; cases h
  have ndu := W.dN k hk
  have hd' : ∀ i, (begL nt st k (.chg p a)).hd i = if i = k then some (holdsN nt p).reverse else st.hd i := fun i => rfl
  have hh' : Hist fo (hOf st ++ [Ev.chg k p a]) := hist_snoc W.hist hp ndu
  have keep : ∀ {i : Nat} {r : List Nat}, st.hd i = some r → (begL nt st k (.chg p a)).hd i = some r := fun {i r} h => by rw [hd', if_neg (nk h)]; exact h
  have ne' : ∀ {i : Nat}, st.hd i ≠ none → (begL nt st k (.chg p a)).hd i ≠ none := fun {i} h => by
    rw [hd']
    by_cases c : i = k
    · rw [if_pos c]; exact fun z => nomatch z
    · rw [if_neg c]; exact h
  constructor
  · constructor
    · rw [eh]; exact hh'
    · rw [eh]; exact short_snoc W.short fun k2 q w z => by cases z; exact ha
    · intro i
      rw [eh, last_snoc]
      show (if i = p then a else st.am i) = (if p = i then a else lastV am (hOf st) i)
      by_cases c : i = p
      · rw [if_pos c, if_pos c.symm]
      · rw [if_neg c, if_neg (fun z => c z.symm)]; exact W.aA i
    · intro j k2 q w z
      rw [eh] at z
      rcases getSnoc z with ⟨_, z⟩ | ⟨_, z⟩
      · exact ⟨(W.eC j k2 q w z).1, ne' (W.eC j k2 q w z).2⟩
      · cases z
        exact ⟨hd, by rw [hd', if_pos rfl]; exact fun z => nomatch z⟩
    · intro j k2 q z
      rw [eh] at z
      rcases getSnoc z with ⟨_, z⟩ | ⟨_, z⟩
      · exact ⟨(W.eA j k2 q z).1, ne' (W.eA j k2 q z).2⟩
      · cases z
    · intro j k2 z
      rw [eh] at z
      rcases getSnoc z with ⟨_, z⟩ | ⟨_, z⟩
      · exact keep (W.eD j k2 z)
      · cases z
    · intro k2 z
      rw [hd'] at z
      by_cases c : k2 = k
      · rw [if_pos c] at z; cases z
      · rw [if_neg c] at z
        rw [eh, due_snoc]
        show (if k2 = k then _ else due (hOf st) k2) = none
        rw [if_neg c]
        exact W.dN k2 z
    · intro k2 r d z y
      rw [eh, due_snoc]
      rw [hd'] at z
      by_cases c : k2 = k
      · subst c
        rw [hd] at y
        cases y
        refine .inl ?_
        show (if k2 = k2 then some (some true) else _) = _
        rw [if_pos rfl]
        rfl
      · rw [if_neg c] at z
        have e2 : dstep (due (hOf st)) (Ev.chg k p a) k2 = due (hOf st) k2 := by
          show (if k2 = k then _ else due (hOf st) k2) = _
          rw [if_neg c]
        rw [e2]
        exact W.dR k2 r d z y
    · intro s hs
      obtain ⟨n, h1, h2, h3⟩ := W.sS s hs
      refine ⟨n, by rw [eh, List.length_append]; omega, by rw [eh, List.take_append_of_le_length h1]; exact h2, fun j k2 q w z hq => ?_⟩
      rw [eh] at z
      rcases getSnoc z with ⟨_, z⟩ | ⟨_, z⟩
      · rcases h3 j k2 q w z hq with ⟨r, y1, y2⟩ | y
        · exact .inl ⟨r, keep y1, y2⟩
        · exact .inr y
      · cases z
        exact .inl ⟨_, by rw [hd', if_pos rfl], List.mem_reverse.mpr ((holds_mem ndN).mpr ⟨hs, hq⟩)⟩
    · intro b k2 q r z y
      rw [eh] at z
      rcases getSnoc z with ⟨zb, z⟩ | ⟨_, z⟩
      · have ne2 : k2 ≠ k := fun c => (W.eA b k2 q z).2 (by rw [c]; exact hk)
        rw [hd', if_neg ne2] at y
        obtain ⟨dn, q1, q2⟩ := W.rR b k2 q r z y
        exact ⟨dn, q1, Paired.mapP q2 fun _ _ y => by rw [eh]; exact rd8_snoc hh' (by omega) y⟩
      · cases z
    · intro k2 r z s hs
      rw [hd'] at z
      by_cases c : k2 = k
      · rw [if_pos c] at z
        cases z
        exact ((holds_mem ndN).mp (List.mem_reverse.mp hs)).1
      · rw [if_neg c] at z
        exact W.sub k2 r z s hs
    · intro at_ k2 bg pl x t
      rw [eh] at t ⊢
      refine good_snoc hh' W.good ?_ t
      rcases getSnoc t.1 with ⟨z, _⟩ | ⟨_, z⟩
      · exact z
      · cases z
  · rw [eh, due_snoc]
    show (if k = k then some (some true) else _) = _
    rw [if_pos rfl]
theorem w8_begA (W : W8 fo am ad nt ds st) {k p : Nat} (hk : st.hd k = none) (hd : ds[k]? = some (.ask p)) (hp : p ∈ fo.as) :
    W8 fo am ad nt ds (begL nt st k (.ask p)) ∧ due (hOf (begL nt st k (.ask p))) k = some (some false) := by
  have eh : hOf (begL nt st k (.ask p)) = hOf st ++ [Ev.ask k p] := hOf_snoc (e := .ask k p)
  have nk : ∀ {i : Nat} {r : List Nat}, st.hd i = some r → i ≠ k := fun h z => by rw [z, hk] at h; cases h
  have ndu := W.dN k hk
  have hd' : ∀ i, (begL nt st k (.ask p)).hd i = if i = k then some (readsN nt p) else st.hd i := fun i => rfl
  have rd' : ∀ i, (begL nt st k (.ask p)).rd i = if i = k then [] else st.rd i := fun i => rfl
  have hh' : Hist fo (hOf st ++ [Ev.ask k p]) := hist_snoc W.hist hp ndu
  have keep : ∀ {i : Nat} {r : List Nat}, st.hd i = some r → (begL nt st k (.ask p)).hd i = some r := fun {i r} h => by rw [hd', if_neg (nk h)]; exact h
  have ne' : ∀ {i : Nat}, st.hd i ≠ none → (begL nt st k (.ask p)).hd i ≠ none := fun {i} h => by
    rw [hd']
    by_cases c : i = k
    · rw [if_pos c]; exact fun z => nomatch z
    · rw [if_neg c]; exact h
  constructor
  · constructor
    · rw [eh]; exact hh'
    · rw [eh]; exact short_snoc W.short fun k2 q w z => by cases z
    · intro i
      rw [eh, last_snoc]
      exact W.aA i
    · intro j k2 q w z
      rw [eh] at z
      rcases getSnoc z with ⟨_, z⟩ | ⟨_, z⟩
      · exact ⟨(W.eC j k2 q w z).1, ne' (W.eC j k2 q w z).2⟩
      · cases z
    · intro j k2 q z
      rw [eh] at z
      rcases getSnoc z with ⟨_, z⟩ | ⟨_, z⟩
      · exact ⟨(W.eA j k2 q z).1, ne' (W.eA j k2 q z).2⟩
      · cases z
        exact ⟨hd, by rw [hd', if_pos rfl]; exact fun z => nomatch z⟩
    · intro j k2 z
      rw [eh] at z
      rcases getSnoc z with ⟨_, z⟩ | ⟨_, z⟩
      · exact keep (W.eD j k2 z)
      · cases z
    · intro k2 z
      rw [hd'] at z
      by_cases c : k2 = k
      · rw [if_pos c] at z; cases z
      · rw [if_neg c] at z
        rw [eh, due_snoc]
        show (if k2 = k then _ else due (hOf st) k2) = none
        rw [if_neg c]
        exact W.dN k2 z
    · intro k2 r d z y
      rw [eh, due_snoc]
      rw [hd'] at z
      by_cases c : k2 = k
      · subst c
        rw [hd] at y
        cases y
        refine .inl ?_
        show (if k2 = k2 then some (some false) else _) = _
        rw [if_pos rfl]
        rfl
      · rw [if_neg c] at z
        have e2 : dstep (due (hOf st)) (Ev.ask k p) k2 = due (hOf st) k2 := by
          show (if k2 = k then _ else due (hOf st) k2) = _
          rw [if_neg c]
        rw [e2]
        exact W.dR k2 r d z y
    · intro s hs
      obtain ⟨n, h1, h2, h3⟩ := W.sS s hs
      refine ⟨n, by rw [eh, List.length_append]; omega, by rw [eh, List.take_append_of_le_length h1]; exact h2, fun j k2 q w z hq => ?_⟩
      rw [eh] at z
      rcases getSnoc z with ⟨_, z⟩ | ⟨_, z⟩
      · rcases h3 j k2 q w z hq with ⟨r, y1, y2⟩ | y
        · exact .inl ⟨r, keep y1, y2⟩
        · exact .inr y
      · cases z
    · intro b k2 q r z y
      rw [eh] at z
      rcases getSnoc z with ⟨zb, z⟩ | ⟨_, z⟩
      · have ne2 : k2 ≠ k := fun c => (W.eA b k2 q z).2 (by rw [c]; exact hk)
        rw [hd', if_neg ne2] at y
        obtain ⟨dn, q1, q2⟩ := W.rR b k2 q r z y
        rw [rd', if_neg ne2]
        exact ⟨dn, q1, Paired.mapP q2 fun _ _ y => by rw [eh]; exact rd8_snoc hh' (by omega) y⟩
      · cases z
        rw [hd', if_pos rfl] at y
        cases y
        exact ⟨[], rfl, by rw [rd', if_pos rfl]; exact .nil⟩
    · intro k2 r z s hs
      rw [hd'] at z
      by_cases c : k2 = k
      · rw [if_pos c] at z
        cases z
        exact reads_sub hs
      · rw [if_neg c] at z
        exact W.sub k2 r z s hs
    · intro at_ k2 bg pl x t
      rw [eh] at t ⊢
      refine good_snoc hh' W.good ?_ t
      rcases getSnoc t.1 with ⟨z, _⟩ | ⟨_, z⟩
      · exact z
      · cases z
  · rw [eh, due_snoc]
    show (if k = k then some (some false) else _) = _
    rw [if_pos rfl]
theorem sum_am {f g : Nat → List Nat} (h : ∀ p, f p = g p) {ps : List Nat} : sumP ad f ps = sumP ad g ps := by
  rw [funext h]
/-- going on by a note, of a change -/
theorem w8_goC (W : W8 fo am ad nt ds st) {k s p : Nat} {r : List Nat} {a : List Nat} (hk : st.hd k = some (s :: r)) (hd : ds[k]? = some (.chg p a)) :
    W8 fo am ad nt ds { st with hd := fun i => if i = k then some r else st.hd i, sm := fun i => if i = s then sumP ad st.am (placesN nt s) else st.sm i } := by
  have hsr := W.sub k _ hk
  constructor
  · exact W.hist
  · exact W.short
  · exact W.aA
  · intro j k2 q w z
    refine ⟨(W.eC j k2 q w z).1, ?_⟩
    show (if k2 = k then some r else st.hd k2) ≠ none
    by_cases c : k2 = k
    · rw [if_pos c]; exact fun z => nomatch z
    · rw [if_neg c]; exact (W.eC j k2 q w z).2
  · intro j k2 q z
    refine ⟨(W.eA j k2 q z).1, ?_⟩
    show (if k2 = k then some r else st.hd k2) ≠ none
    by_cases c : k2 = k
    · rw [if_pos c]; exact fun z => nomatch z
    · rw [if_neg c]; exact (W.eA j k2 q z).2
  · intro j k2 z
    have := W.eD j k2 z
    show (if k2 = k then some r else st.hd k2) = some []
    by_cases c : k2 = k
    · rw [c, hk] at this; cases this
    · rw [if_neg c]; exact this
  · intro k2 z
    have z : (if k2 = k then some r else st.hd k2) = none := z
    by_cases c : k2 = k
    · rw [if_pos c] at z; cases z
    · rw [if_neg c] at z; exact W.dN k2 z
  · intro k2 r2 d z y
    have z : (if k2 = k then some r else st.hd k2) = some r2 := z
    by_cases c : k2 = k
    · rcases W.dR k2 _ d (by rw [c]; exact hk) y with q | ⟨q, _⟩
      · exact .inl q
      · cases q
    · rw [if_neg c] at z; exact W.dR k2 r2 d z y
  · intro s2 hs
    by_cases cs : s2 = s
    · subst cs
      refine ⟨(hOf st).length, Nat.le_refl _, ?_, fun j k2 q w z _ => .inr (List.getElem?_eq_some_iff.mp z).1⟩
      show (if s2 = s2 then sumP ad st.am (placesN nt s2) else _) = sumP ad (lastV am ((hOf st).take (hOf st).length)) (placesN nt s2)
      rw [if_pos rfl, List.take_length]
      exact sum_am W.aA
    · obtain ⟨n, h1, h2, h3⟩ := W.sS s2 hs
      refine ⟨n, h1, ?_, fun j k2 q w z hq => ?_⟩
      · show (if s2 = s then _ else st.sm s2) = _
        rw [if_neg cs]
        exact h2
      · rcases h3 j k2 q w z hq with ⟨r2, y1, y2⟩ | y
        · refine .inl ?_
          show ∃ r2, (if k2 = k then some r else st.hd k2) = some r2 ∧ s2 ∈ r2
          by_cases c : k2 = k
          · rw [c, hk] at y1
            cases y1
            exact ⟨r, by rw [if_pos c], (List.mem_cons.mp y2).resolve_left cs⟩
          · exact ⟨r2, by rw [if_neg c]; exact y1, y2⟩
        · exact .inr y
  · intro b k2 q r2 z y
    have y : (if k2 = k then some r else st.hd k2) = some r2 := y
    have c : k2 ≠ k := fun c => by
      have := (W.eA b k2 q z).1
      rw [c, hd] at this
      cases this
    rw [if_neg c] at y
    exact W.rR b k2 q r2 z y
  · intro k2 r2 z s2 hs
    have z : (if k2 = k then some r else st.hd k2) = some r2 := z
    by_cases c : k2 = k
    · rw [if_pos c] at z
      cases z
      exact hsr s2 (List.mem_cons_of_mem _ hs)
    · rw [if_neg c] at z; exact W.sub k2 r2 z s2 hs
  · exact W.good
/-- going on by a note, of an ask -/
theorem w8_goA (W : W8 fo am ad nt ds st) {k s p : Nat} {r : List Nat} (hk : st.hd k = some (s :: r)) (hd : ds[k]? = some (.ask p)) :
    W8 fo am ad nt ds { st with hd := fun i => if i = k then some r else st.hd i, rd := fun i => if i = k then st.rd k ++ [st.sm s] else st.rd i } := by
  have hsr := W.sub k _ hk
  constructor
  · exact W.hist
  · exact W.short
  · exact W.aA
  · intro j k2 q w z
    refine ⟨(W.eC j k2 q w z).1, ?_⟩
    show (if k2 = k then some r else st.hd k2) ≠ none
    by_cases c : k2 = k
    · rw [if_pos c]; exact fun z => nomatch z
    · rw [if_neg c]; exact (W.eC j k2 q w z).2
  · intro j k2 q z
    refine ⟨(W.eA j k2 q z).1, ?_⟩
    show (if k2 = k then some r else st.hd k2) ≠ none
    by_cases c : k2 = k
    · rw [if_pos c]; exact fun z => nomatch z
    · rw [if_neg c]; exact (W.eA j k2 q z).2
  · intro j k2 z
    have := W.eD j k2 z
    show (if k2 = k then some r else st.hd k2) = some []
    by_cases c : k2 = k
    · rw [c, hk] at this; cases this
    · rw [if_neg c]; exact this
  · intro k2 z
    have z : (if k2 = k then some r else st.hd k2) = none := z
    by_cases c : k2 = k
    · rw [if_pos c] at z; cases z
    · rw [if_neg c] at z; exact W.dN k2 z
  · intro k2 r2 d z y
    have z : (if k2 = k then some r else st.hd k2) = some r2 := z
    by_cases c : k2 = k
    · rcases W.dR k2 _ d (by rw [c]; exact hk) y with q | ⟨q, _⟩
      · exact .inl q
      · cases q
    · rw [if_neg c] at z; exact W.dR k2 r2 d z y
  · intro s2 hs
    obtain ⟨n, h1, h2, h3⟩ := W.sS s2 hs
    refine ⟨n, h1, h2, fun j k2 q w z hq => ?_⟩
    have c : k2 ≠ k := fun c => by
      have := (W.eC j k2 q w z).1
      rw [c, hd] at this
      cases this
    rcases h3 j k2 q w z hq with ⟨r2, y1, y2⟩ | y
    · exact .inl ⟨r2, by show (if k2 = k then some r else st.hd k2) = some r2; rw [if_neg c]; exact y1, y2⟩
    · exact .inr y
  · intro b k2 q r2 z y
    have y : (if k2 = k then some r else st.hd k2) = some r2 := y
    show ∃ dn, readsN nt q = dn ++ r2 ∧ Paired (Rd8 am ad nt (hOf st) b) (if k2 = k then st.rd k ++ [st.sm s] else st.rd k2) dn
    by_cases c : k2 = k
    · subst c
      rw [if_pos rfl] at y ⊢
      cases y
      obtain ⟨dn, q1, q2⟩ := W.rR b k2 q _ z hk
      refine ⟨dn ++ [s], by rw [List.append_assoc]; exact q1, paired_snoc q2 ?_⟩
      have hs := hsr s List.mem_cons_self
      obtain ⟨n, h1, h2, h3⟩ := W.sS s hs
      refine ⟨hs, n, h1, h2, fun j k3 p3 w3 i3 hj hp hi _ => ?_⟩
      rcases h3 j k3 p3 w3 hj hp with ⟨r3, y1, y2⟩ | y
      · rw [W.eD i3 k3 hi] at y1
        cases y1
        cases y2
      · exact y
    · rw [if_neg c] at y ⊢
      exact W.rR b k2 q r2 z y
  · intro k2 r2 z s2 hs
    have z : (if k2 = k then some r else st.hd k2) = some r2 := z
    by_cases c : k2 = k
    · rw [if_pos c] at z
      cases z
      exact hsr s2 (List.mem_cons_of_mem _ hs)
    · rw [if_neg c] at z; exact W.sub k2 r2 z s2 hs
  · exact W.good
/-- a deed's end: an event that is no change and no ask -/
theorem w8_end (W : W8 fo am ad nt ds st) {k : Nat} {d : Deed (List Nat)} {e : Ev} (hk : st.hd k = some []) (hd : ds[k]? = some d) (hdu : due (hOf st) k = some (some (isC d))) {g : EvG (List Nat)} (hg : toEv g = e) (he : (isC d = true ∧ e = Ev.don k) ∨ (isC d = false ∧ ∃ x, e = Ev.tld k x))
    (new : ∀ bg pl a, Told (hOf st ++ [e]) (hOf st).length k bg pl a → Hist fo (hOf st ++ [e]) → a ∈ allT ad (chosenL fo am (hOf st ++ [e]) pl bg (hOf st).length)) : W8 fo am ad nt ds { st with ev := st.ev ++ [g] } := by
  have eh : hOf { st with ev := st.ev ++ [g] } = hOf st ++ [e] := by rw [← hg]; exact hOf_snoc
  have hkey : e.key = k ∧ e.leaves = none ∧ evFor fo e ∧ okE (due (hOf st)) e ∧ (∀ k2 p w, e ≠ Ev.chg k2 p w) ∧ (∀ k2 p, e ≠ Ev.ask k2 p) ∧ (∀ p v, lstepV p v e = v) ∧ ∀ k2, e = Ev.don k2 → k2 = k := by
    rcases he with ⟨h1, rfl⟩ | ⟨h1, x, rfl⟩
    · rw [h1] at hdu
      exact ⟨rfl, rfl, trivial, hdu, fun _ _ _ z => (by cases z), fun _ _ z => (by cases z), fun _ _ => rfl, fun k2 z => (by cases z; rfl)⟩
    · rw [h1] at hdu
      exact ⟨rfl, rfl, trivial, hdu, fun _ _ _ z => (by cases z), fun _ _ z => (by cases z), fun _ _ => rfl, fun k2 z => (by cases z)⟩
  obtain ⟨e1, e2, e3, e4, e5, e6, e7, e8⟩ := hkey
  have hh' : Hist fo (hOf st ++ [e]) := hist_snoc W.hist e3 e4
  have du' : ∀ k2, due (hOf st ++ [e]) k2 = if k2 = k then some none else due (hOf st) k2 := fun k2 => by
    rw [due_snoc]
    show (if k2 = e.key then some e.leaves else due (hOf st) k2) = _
    rw [e1, e2]
  constructor
  · rw [eh]; exact hh'
  · rw [eh]; exact short_snoc W.short fun k2 q w z => absurd z (e5 k2 q w)
  · intro i
    rw [eh, last_snoc, e7]
    exact W.aA i
  · intro j k2 q w z
    rw [eh] at z
    rcases getSnoc z with ⟨_, z⟩ | ⟨_, z⟩
    · exact W.eC j k2 q w z
    · exact absurd z.symm (e5 k2 q w)
  · intro j k2 q z
    rw [eh] at z
    rcases getSnoc z with ⟨_, z⟩ | ⟨_, z⟩
    · exact W.eA j k2 q z
    · exact absurd z.symm (e6 k2 q)
  · intro j k2 z
    rw [eh] at z
    rcases getSnoc z with ⟨_, z⟩ | ⟨_, z⟩
    · exact W.eD j k2 z
    · rw [e8 k2 z.symm]; exact hk
  · intro k2 z
    have z : st.hd k2 = none := z
    have c : k2 ≠ k := fun c => by rw [c, hk] at z; cases z
    rw [eh, du', if_neg c]
    exact W.dN k2 z
  · intro k2 r d2 z y
    have z : st.hd k2 = some r := z
    rw [eh, du']
    by_cases c : k2 = k
    · rw [c, hk] at z
      cases z
      exact .inr ⟨rfl, by rw [if_pos c]⟩
    · rw [if_neg c]
      exact W.dR k2 r d2 z y
  · intro s hs
    obtain ⟨n, h1, h2, h3⟩ := W.sS s hs
    refine ⟨n, by rw [eh, List.length_append]; omega, by rw [eh, List.take_append_of_le_length h1]; exact h2, fun j k2 q w z hq => ?_⟩
    rw [eh] at z
    rcases getSnoc z with ⟨_, z⟩ | ⟨_, z⟩
    · exact h3 j k2 q w z hq
    · exact absurd z.symm (e5 k2 q w)
  · intro b k2 q r z y
    rw [eh] at z
    rcases getSnoc z with ⟨zb, z⟩ | ⟨_, z⟩
    · obtain ⟨dn, q1, q2⟩ := W.rR b k2 q r z y
      exact ⟨dn, q1, Paired.mapP q2 fun _ _ y => by rw [eh]; exact rd8_snoc hh' (by omega) y⟩
    · exact absurd z.symm (e6 k2 q)
  · exact W.sub
  · intro at_ k2 bg pl x t
    rw [eh] at t ⊢
    rcases getSnoc t.1 with ⟨z, _⟩ | ⟨z1, z2⟩
    · exact good_snoc hh' W.good z t
    · subst z1
      have ek : k2 = k := by
        rw [← e1, ← z2]
        rfl
      subst ek
      exact new bg pl x t hh'
/-- what is told when an ask ends -/
theorem told_new (as : ∀ a b c, ad (ad a b) c = ad a (ad b c)) (ndN : (nt.map fun e => e.1).Nodup) (ne : ∀ s ∈ nt.map (fun e => e.1), placesN nt s ≠ []) (RD : ∀ q ∈ fo.as, (readsN nt q).flatMap (placesN nt) = (road fo.ps q).filter fun p => decide (p ∈ fo.be))
    (W : W8 fo am ad nt ds st) {k : Nat} (hk : st.hd k = some []) {bg pl : Nat} {a : An} (t : Told (hOf st ++ [Ev.tld k (.txt (togG ad (st.rd k)))]) (hOf st).length k bg pl a) (hh : Hist fo (hOf st ++ [Ev.tld k (.txt (togG ad (st.rd k)))])) :
    a ∈ allT ad (chosenL fo am (hOf st ++ [Ev.tld k (.txt (togG ad (st.rd k)))]) pl bg (hOf st).length) := by
  have ea : a = .txt (togG ad (st.rd k)) := by
    have := t.1
    rw [List.getElem?_append_right (Nat.le_refl _), Nat.sub_self] at this
    have := Option.some.inj this
    injection this with _ z
    exact z.symm
  subst ea
  obtain ⟨zb, hb⟩ : bg < (hOf st).length ∧ (hOf st)[bg]? = some (Ev.ask k pl) := by
    rcases getSnoc t.2 with z | ⟨_, z⟩
    · exact z
    · cases z
  have hpa : pl ∈ fo.as := W.hist.pl _ (List.mem_of_getElem? hb)
  obtain ⟨dn, q1, q2⟩ := W.rR bg k pl [] hb hk
  rw [List.append_nil] at q1
  have tk : (hOf st ++ [Ev.tld k (.txt (togG ad (st.rd k)))]).take (hOf st).length = hOf st := by rw [List.take_left']; rfl
  have split : ∃ xss : List (List (List Nat)), Paired (fun v xs => xs ≠ [] ∧ togG ad xs = some v) (st.rd k) xss ∧ Paired (fun xs s => ∃ n, xs = (placesN nt s).map (lastV am ((hOf st).take n)) ∧ ∀ (j k p : Nat) (w : List Nat) (i : Nat), (hOf st)[j]? = some (Ev.chg k p w) → p ∈ placesN nt s → (hOf st)[i]? = some (Ev.don k) → i < bg → j < n) xss dn := by
    clear t hh tk q1 hk
    generalize st.rd k = rd at q2
    induction q2 with
    | nil => exact ⟨[], .nil, .nil⟩
    | @cons v s vs ss c _ ih =>
      obtain ⟨hs, n, h1, h2, h3⟩ := c
      obtain ⟨xss, i1, i2⟩ := ih
      refine ⟨(placesN nt s).map (lastV am ((hOf st).take n)) :: xss, .cons ⟨fun z => ne s hs (List.map_eq_nil_iff.mp z), ?_⟩ i1, .cons ⟨n, rfl, h3⟩ i2⟩
      rw [tog_sum (ne s hs), h2]
  obtain ⟨xss, p1, p2⟩ := split
  have hx := tog_flat as p1
  generalize togG ad (st.rd k) = x at hx hh tk ⊢
  have fl := paired_flat (R := fun y p => y ∈ choL ((-1, -1, am p) :: lives (endD (hOf st ++ [Ev.tld k (.txt x)])) p (hOf st)) (bg : Int)) (f := placesN nt) (fun xs s hs => by
    obtain ⟨n, rfl, cond⟩ := hs
    exact paired_mapSelf fun p hp => val_cho hh (Nat.le_of_lt zb) fun j k w i hj hi hib => cond j k p w i hj hp hi hib) p2
  rw [← q1, RD pl hpa] at fl
  have ec : chosenL fo am (hOf st ++ [Ev.tld k (.txt x)]) pl bg (hOf st).length = ((road fo.ps pl).filter fun p => decide (p ∈ fo.be)).map fun p => choL ((-1, -1, am p) :: lives (endD (hOf st ++ [Ev.tld k (.txt x)])) p (hOf st)) (bg : Int) := by
    unfold chosenL
    refine List.map_congr_left fun p _ => ?_
    rw [may_eq (by rw [List.length_append]; omega) (Nat.le_of_lt zb) fun i k q w hi => end_behind hh hi, tk]
  have main : togG ad xss.flatten ∈ allA ad (chosenL fo am (hOf st ++ [Ev.tld k (.txt x)]) pl bg (hOf st).length) := by
    refine mem_allA ?_
    rw [ec]
    clear ec hx p1
    generalize (road fo.ps pl).filter (fun p => decide (p ∈ fo.be)) = ps at fl
    generalize xss.flatten = ys at fl
    induction fl with
    | nil => exact .nil
    | cons c _ ih => exact .cons c ih
  rw [← hx] at main
  exact List.mem_map.mpr ⟨_, main, rfl⟩
/-- THE EIGHTH FACT, a turn -/
theorem w8_turn (as : ∀ a b c, ad (ad a b) c = ad a (ad b c)) (ndN : (nt.map fun e => e.1).Nodup) (ne : ∀ s ∈ nt.map (fun e => e.1), placesN nt s ≠ []) (RD : ∀ q ∈ fo.as, (readsN nt q).flatMap (placesN nt) = (road fo.ps q).filter fun p => decide (p ∈ fo.be))
    (W : W8 fo am ad nt ds st) {k : Nat} {d : Deed (List Nat)} (hd : ds[k]? = some d) (okD : DeedOk fo d) : W8 fo am ad nt ds (turnL ad nt st k d) := by
  have fin : ∀ {st : Lm (List Nat)}, W8 fo am ad nt ds st → due (hOf st) k = some (some (isC d)) → W8 fo am ad nt ds (endL ad st k d) := fun {st} W du => by
    unfold endL
    cases h : st.hd k with
    | none => exact W
    | some l =>
      cases l with
      | cons s r => exact W
      | nil =>
        cases d with
        | chg p a => exact w8_end W h hd du (g := .don k) (e := Ev.don k) rfl (.inl ⟨rfl, rfl⟩) (fun bg pl x t _ => by have z := t.1; rw [List.getElem?_append_right (Nat.le_refl _), Nat.sub_self] at z; cases z)
        | ask q => exact w8_end W h hd du (g := .tld k (togG ad (st.rd k))) (e := Ev.tld k (.txt (togG ad (st.rd k)))) rfl (.inr ⟨rfl, _, rfl⟩) fun bg pl x t hh => told_new as ndN ne RD W h t hh
  have going : ∀ {st : Lm (List Nat)}, W8 fo am ad nt ds st → due (hOf st) k = some (some (isC d)) → W8 fo am ad nt ds (goL ad nt st k d) ∧ due (hOf (goL ad nt st k d)) k = some (some (isC d)) := fun {st} W du => by
    unfold goL
    cases h : st.hd k with
    | none => exact ⟨W, du⟩
    | some l =>
      cases l with
      | nil => exact ⟨W, du⟩
      | cons s r =>
        cases d with
        | chg p a => exact ⟨w8_goC W h hd, du⟩
        | ask q => exact ⟨w8_goA W h hd, du⟩
  unfold turnL
  cases h : st.hd k with
  | none =>
    cases d with
    | chg p a =>
      obtain ⟨W1, d1⟩ := w8_begC ndN W h hd okD.1 okD.2
      obtain ⟨W2, d2⟩ := going W1 d1
      exact fin W2 d2
    | ask q =>
      obtain ⟨W1, d1⟩ := w8_begA W h hd okD
      obtain ⟨W2, d2⟩ := going W1 d1
      exact fin W2 d2
  | some l =>
    cases l with
    | nil => exact W
    | cons s r =>
      rcases W.dR k _ d h hd with du | ⟨z, _⟩
      · obtain ⟨W2, d2⟩ := going W du
        exact fin W2 d2
      · cases z
theorem w8_start (sh : ∀ p, (am p).length ≤ 100) : W8 fo am ad nt ds (lm0 ad nt am) := by
  constructor
  · exact hist_nil fo
  · exact ⟨sh, fun k q w z => nomatch z⟩
  · exact fun p => rfl
  · intro j k p w z; cases z
  · intro j k p z; cases z
  · intro j k z; cases z
  · exact fun k z => rfl
  · intro k r d z; cases z
  · exact fun s _ => ⟨0, Nat.le_refl _, rfl, fun j k p w z => by cases z⟩
  · intro b k q r z; cases z
  · intro k r z; cases z
  · intro at_ k bg pl a t
    have := t.1
    cases this
/-- THE EIGHTH FACT -/
theorem w8_weave (as : ∀ a b c, ad (ad a b) c = ad a (ad b c)) (ndN : (nt.map fun e => e.1).Nodup) (ne : ∀ s ∈ nt.map (fun e => e.1), placesN nt s ≠ []) (RD : ∀ q ∈ fo.as, (readsN nt q).flatMap (placesN nt) = (road fo.ps q).filter fun p => decide (p ∈ fo.be)) (okD : ∀ d ∈ ds, DeedOk fo d) :
    ∀ (ts : List Nat) {st : Lm (List Nat)}, W8 fo am ad nt ds st → W8 fo am ad nt ds (weaveL ad nt ds st ts)
  | [], _, W => W
  | k :: ts, st, W => by
    rw [weave_cons]
    cases h : ds[k]? with
    | none =>
      rw [show stepW ad nt ds st k = st from by unfold stepW; rw [h]]
      exact w8_weave as ndN ne RD okD ts W
    | some d =>
      rw [stepW_of h]
      exact w8_weave as ndN ne RD okD ts (w8_turn as ndN ne RD W h (okD d (List.mem_of_getElem? h)))
end
end Cn
namespace Cn
open PySem PySem.Spec PyProof.Rows L2 Ck
/-! what a place reads, note by note, is its way -/
section
variable {ps : List (Option Nat)} {lv : List Nat}
theorem stk_asc (hp : Ps ps) : ∀ n, n < ps.length → (stk ps lv n).Pairwise (· < ·) := by
  intro n
  induction n using Nat.strongRecOn with
  | ind n ih =>
    intro hn
    rcases opt_cases hn with h | ⟨p, h⟩
    · rw [stk_none h]; exact List.pairwise_singleton _ _
    · have pn := hp n p h
      rw [stk_some hp h, List.pairwise_append]
      refine ⟨(ih p pn (by omega)).sublist (List.take_sublist _ _), List.pairwise_singleton _ _, fun a ha b hb => ?_⟩
      rw [List.mem_singleton.mp hb]
      have := road_le hp p (by omega) a (stk_sub hp p (by omega) a (List.mem_of_mem_take ha))
      omega
theorem stk_at (hp : Ps ps) : ∀ n, n < ps.length → ∀ t x, (stk ps lv n)[t]? = some x → stk ps lv x = (stk ps lv n).take (t + 1) := by
  intro n
  induction n using Nat.strongRecOn with
  | ind n ih =>
    intro hn t x hx
    rcases opt_cases hn with h | ⟨p, h⟩
    · rw [stk_none h] at hx ⊢
      cases t with
      | zero => cases hx; rw [stk_none h]; rfl
      | succ t => cases hx
    · have pn := hp n p h
      have e := stk_some (lv := lv) hp h
      rw [e] at hx ⊢
      by_cases c : t < ((stk ps lv p).take (lv.getD n 0 - 1)).length
      · rw [List.getElem?_append_left c] at hx
        have c2 := c
        rw [List.length_take] at c2
        rw [List.getElem?_take_of_lt (by omega)] at hx
        rw [List.take_append_of_le_length (by omega), ih p pn (by omega) t x hx, List.take_take, Nat.min_eq_left (by omega)]
      · rw [List.getElem?_append_right (by omega)] at hx
        have e0 : t - ((stk ps lv p).take (lv.getD n 0 - 1)).length = 0 := by
          cases e1 : t - ((stk ps lv p).take (lv.getD n 0 - 1)).length with
          | zero => rfl
          | succ m => rw [e1] at hx; cases hx
        rw [e0] at hx
        cases hx
        rw [List.take_of_length_le (by rw [List.length_append]; show _ + 1 ≤ _; omega), ← e]
theorem road_at (hp : Ps ps) : ∀ n, n < ps.length → ∀ x ∈ road ps n, road ps x ++ (road ps n).drop ((road ps n).idxOf x + 1) = road ps n := by
  intro n
  induction n using Nat.strongRecOn with
  | ind n ih =>
    intro hn x hx
    rcases opt_cases hn with h | ⟨p, h⟩
    · rw [road_none h] at hx ⊢
      have ex := List.mem_singleton.mp hx
      subst ex
      rw [road_none h]
      simp
    · have pn := hp n p h
      have e := road_some hp h
      rw [e] at hx ⊢
      by_cases c : x ∈ road ps p
      · have hi := List.idxOf_lt_length_of_mem c
        rw [List.idxOf_append, if_pos c, List.drop_append_of_le_length (by omega), ← List.append_assoc, ih p pn (by omega) x c]
      · have ex : x = n := (List.mem_append.mp hx).elim (fun z => absurd z c) List.mem_singleton.mp
        subst ex
        rw [List.drop_of_length_le (by
          rw [List.idxOf_append, if_neg c]
          simp), List.append_nil, e]
theorem held_flat (hp : Ps ps) : ∀ n, n < ps.length → (stk ps lv n).flatMap (heldAt ps lv) = road ps n := by
  intro n
  induction n using Nat.strongRecOn with
  | ind n ih =>
    intro hn
    obtain ⟨ini, e⟩ : ∃ ini, stk ps lv n = ini ++ [n] := by
      rcases opt_cases hn with h | ⟨p, h⟩
      · exact ⟨[], stk_none h⟩
      · exact ⟨_, stk_some hp h⟩
    have dl : (stk ps lv n).dropLast = ini := by rw [e, List.dropLast_concat]
    rw [e, List.flatMap_append]
    show _ ++ (heldAt ps lv n ++ []) = _
    rw [List.append_nil]
    unfold heldAt
    rw [dl]
    cases g : ini.getLast? with
    | none =>
      have : ini = [] := List.getLast?_eq_none_iff.mp g
      rw [this]
      rfl
    | some x =>
      rw [List.getLast?_eq_getElem?] at g
      have hl := (List.getElem?_eq_some_iff.mp g).1
      have gx : (stk ps lv n)[ini.length - 1]? = some x := by rw [e, List.getElem?_append_left hl]; exact g
      have sx := stk_at hp n hn _ x gx
      have e1 : ini.length - 1 + 1 = ini.length := by omega
      rw [e1, e, List.take_left'] at sx
      · have xm : x ∈ stk ps lv n := List.mem_of_getElem? gx
        have xr := stk_sub hp n hn x xm
        have xl : x < n := by
          have pw := stk_asc (lv := lv) hp n hn
          rw [e, List.pairwise_append] at pw
          exact pw.2.2 x (List.mem_of_getElem? g) n List.mem_cons_self
        have := ih x xl (by omega)
        rw [sx] at this
        show ini.flatMap (heldAt ps lv) ++ (road ps n).drop ((road ps n).idxOf x + 1) = road ps n
        rw [this]
        exact road_at hp n hn x xr
      · rfl
theorem asc_ext {a b : List Nat} (ha : a.Pairwise (· < ·)) (hb : b.Pairwise (· < ·)) (h : ∀ x, x ∈ a ↔ x ∈ b) : a = b :=
  List.Perm.eq_of_pairwise (le := (· ≤ ·)) (fun x y _ _ p q => Nat.le_antisymm p q) (ha.imp Nat.le_of_lt) (hb.imp Nat.le_of_lt) ((List.perm_ext_iff_of_nodup (ha.imp Nat.ne_of_lt) (hb.imp Nat.ne_of_lt)).mpr h)
theorem flat_filter {α β : Type} {f : α → List β} {c : α → Bool} : ∀ {xs : List α}, (∀ x ∈ xs, c x = false → f x = []) → (xs.filter c).flatMap f = xs.flatMap f
  | [], _ => rfl
  | x :: xs, h => by
    rw [List.filter_cons]
    have ih := flat_filter (f := f) (c := c) (xs := xs) fun y hy => h y (List.mem_cons_of_mem _ hy)
    cases hc : c x with
    | true =>
      show (x :: xs.filter c).flatMap f = f x ++ xs.flatMap f
      rw [← ih]
      rfl
    | false =>
      rw [if_neg (by decide), ih]
      show _ = f x ++ xs.flatMap f
      rw [h x List.mem_cons_self hc]
      rfl
theorem filter_flat {α : Type} {f : α → List Nat} {c : Nat → Bool} : ∀ {xs : List α}, xs.flatMap (fun x => (f x).filter c) = (xs.flatMap f).filter c
  | [] => rfl
  | x :: xs => by
    show (f x).filter c ++ xs.flatMap (fun x => (f x).filter c) = (f x ++ xs.flatMap f).filter c
    rw [List.filter_append, filter_flat (xs := xs)]
end
/-- what a place reads, is what bears over it -/
theorem reads_flat {fo : Fo} {lv : List Nat} (ok : FoOk fo) {q : Nat} (hq : q ∈ fo.as) : (readsN (heldNotes fo.ps fo.be fo.as lv fo.ps.length) q).flatMap (placesN (heldNotes fo.ps fo.be fo.as lv fo.ps.length)) = (road fo.ps q).filter fun p => decide (p ∈ fo.be) := by
  have hql := ok.al q hq
  have e1 : (readsN (heldNotes fo.ps fo.be fo.as lv fo.ps.length) q).flatMap (placesN (heldNotes fo.ps fo.be fo.as lv fo.ps.length)) = ((heldNotes fo.ps fo.be fo.as lv fo.ps.length).filter fun e => decide (q ∈ e.2.2)).flatMap fun e => e.2.1 := by
    unfold readsN
    rw [List.flatMap_map]
    have : ∀ l : List (Nat × (List Nat × List Nat)), (∀ e ∈ l, e ∈ heldNotes fo.ps fo.be fo.as lv fo.ps.length) → l.flatMap (fun e => placesN (heldNotes fo.ps fo.be fo.as lv fo.ps.length) e.1) = l.flatMap fun e => e.2.1 := by
      intro l
      induction l with
      | nil => intro _; rfl
      | cons e l ih =>
        intro h
        show placesN _ e.1 ++ l.flatMap _ = e.2.1 ++ l.flatMap _
        rw [placesN_of heldNotes_nodup (h e List.mem_cons_self), ih fun x hx => h x (List.mem_cons_of_mem _ hx)]
    exact this _ fun e he => (List.mem_filter.mp he).1
  rw [e1]
  unfold heldNotes
  rw [List.filter_filter, List.filter_map, List.flatMap_map]
  have e2 : (List.range fo.ps.length).filter (fun s => decide (s ∈ stk fo.ps lv q)) = stk fo.ps lv q := by
    refine asc_ext (List.pairwise_lt_range.sublist List.filter_sublist) (stk_asc ok.ps q hql) fun x => ?_
    rw [List.mem_filter, List.mem_range, decide_eq_true_iff]
    refine ⟨fun z => z.2, fun z => ⟨?_, z⟩⟩
    have := road_le ok.ps q hql x (stk_sub ok.ps q hql x z)
    omega
  have e3 : ∀ s, (decide (q ∈ (noteAt fo.ps fo.be fo.as lv s).2) && kept2 (noteAt fo.ps fo.be fo.as lv s)) = (decide (s ∈ stk fo.ps lv q) && !(noteAt fo.ps fo.be fo.as lv s).1.isEmpty) := fun s => by
    have h1 : q ∈ (noteAt fo.ps fo.be fo.as lv s).2 ↔ s ∈ stk fo.ps lv q := by
      show q ∈ fo.as.filter _ ↔ _
      rw [List.mem_filter, decide_eq_true_iff]
      exact ⟨fun z => z.2, fun z => ⟨hq, z⟩⟩
    by_cases c : s ∈ stk fo.ps lv q
    · rw [decide_eq_true (h1.mpr c), decide_eq_true c, Bool.true_and, Bool.true_and]
      unfold kept2
      cases h2 : (noteAt fo.ps fo.be fo.as lv s).2 with
      | nil =>
        have := h1.mpr c
        rw [h2] at this
        cases this
      | cons x xs => exact Bool.and_true _
    · rw [decide_eq_false (fun z => c (h1.mp z)), decide_eq_false c, Bool.false_and, Bool.false_and]
  have e4 : (List.range fo.ps.length).filter ((fun e : Nat × (List Nat × List Nat) => decide (q ∈ e.2.2) && kept2 e.2) ∘ fun s => (s, noteAt fo.ps fo.be fo.as lv s)) = (stk fo.ps lv q).filter fun s => !(noteAt fo.ps fo.be fo.as lv s).1.isEmpty := by
    rw [← e2, List.filter_filter]
    refine List.filter_congr fun s _ => ?_
    show (decide (q ∈ (noteAt fo.ps fo.be fo.as lv s).2) && kept2 (noteAt fo.ps fo.be fo.as lv s)) = _
    rw [e3 s, Bool.and_comm]
  rw [e4, flat_filter (fun s _ hc => by
    have : (noteAt fo.ps fo.be fo.as lv s).1.isEmpty = true := by simpa using hc
    exact List.isEmpty_iff.mp this)]
  show (stk fo.ps lv q).flatMap (fun s => (heldAt fo.ps lv s).filter fun x => decide (x ∈ fo.be)) = _
  rw [filter_flat, held_flat ok.ps q hql]
end Cn
namespace Cn
open PySem PySem.Spec PyProof.Rows L2 Ck
/-! texts as amounts; drawn deeds and turns -/
def dW : Dom (List Nat) := ⟨fun _ v a => v = vS a, fun _ h => h, List.length⟩
/-- a deed that is drawn -/
def Deed6 (fo : Fo) : Deed (List Nat) → Prop
  | .chg p a => p ∈ fo.be ∧ a.length ≤ 6
  | .ask q => q ∈ fo.as
theorem lastCut {xs : List V} : cutV xs (some (-1)) none = xs.drop (xs.length - 1) := by
  unfold cutV
  rw [HT.sIx_none]
  have : HT.sIx xs.length 0 (some (-1)) = xs.length - 1 := by
    show (if (-1 : Int) < 0 then ((-1 : Int) + (xs.length : Int)).toNat else min (-1 : Int).toNat xs.length) = _
    rw [if_pos (by decide)]
    omega
  rw [this, List.take_of_length_le (by rw [List.length_drop]; exact Nat.le_refl _)]
section
variable {P : Program} {w : World} {K : PySem.W.Frag} {mg : Str → Option Value} {base : Heap} {C : Addr}
def spLSoDe : Sp := fun vs H Q _ => ∃ (p : Addr) (S : Addr → Prop) (r : Addr) (fo : Fo) (most : Nat), vs = [.ref p, .ref r, vn most] ∧ HandIn H p S ∧ TolR H r fo ∧ FoOk fo ∧ most ≤ 20 ∧
  ∀ b us ds H', HandIn H' p S → Kept p H H' → H b = none → H' b = some (.lst us) → Paired (DeedAt dW H') us ds → (∀ d ∈ ds, Deed6 fo d) → ds.length ≤ most → Q (.ref b) H'
def nLSoDe : List Str := ["_law_pool_here", "_law_spec_here", "_law_most", "_law_found", "_law_number", "_law_place"]
theorem scLSoDe : FnScope nLSoDe ["_law_pool_here", "_law_spec_here", "_law_most"] (defScope sLSoDe) := ⟨rfl, rfl, rfl, by decide +kernel, rfl, by decide +kernel, by decide +kernel⟩
theorem dLSoDe (B : Defs K mg C) : Def P w K mg base "_law_some_deeds" 3 ["_law_pool_here", "_law_spec_here", "_law_most"] spLSoDe := by
  obtain ⟨fD, fdD, GD, gD, kD, bD⟩ := dDraw (P := P) (w := w) (base := base) B
  obtain ⟨fP', fdP, GP, gP, kP, bP⟩ := dPick (P := P) (w := w) (base := base) B
  obtain ⟨fW, fdW, GW, gW, kW, bW⟩ := dLWord (P := P) (w := w) (base := base) B
  have N := B.N
  have mS := B.zStr
  have nd := scLSoDe.nd
  refine def_of B.lsd fun f fd F => ?_
  refine F.ok scLSoDe (fun vs H Q E h => ?_) (fun cdv A outer s H vs Q E hr h => ?_)
  · obtain ⟨p, S, r, fo, most, rfl, _⟩ := h
    rfl
  · obtain ⟨p, S, r, fo, most, rfl, hI, hT, ok, hm, k⟩ := h
    have r1 : Room 1 (A.deeper (envOfC "_law_some_deeds" (defScope sLSoDe) s.heap.objs.size f cdv)) := Room.mono hr (by decide)
    refine ⟨_, pss_cons (ps_set (i := 3) nd rfl (Or.inl rfl) (pe_lst pa_nil))
      (pss_cons (ps_for PassesOwn.never rfl (pi_range1 (by rfl) N.range (pa_cons (pe_call GD r1 (by rfl) gD kD bD .nil pass0 (pa_cons (pv 0) (pa_cons (pe_op op_add (pv 2) pe_int) pa_nil))) pa_nil)) (pg_name (i := 4) nd rfl (Or.inl rfl))
        (pss_one (ps_if (PW.pt (pw_and (pt_cmpR op_gt (pe_callB call_len_seq (by rfl) N.is.len PySem.boot_len (pa_cons (pe_ix ix_tup (pv 1) pe_int (fun _ _ => rfl)) pa_nil)) pe_int (nomark _)) (pw_and1 (PW.pt (pw_or (pt_cmpR op_eq (pe_callB call_len_seq (by rfl) N.is.len PySem.boot_len (pa_cons (pe_ix ix_tup (pv 1) pe_int (fun _ _ => rfl)) pa_nil)) pe_int (nomark _)) (pw_or1 (pt_cmpR op_eq (pe_call GD r1 (by rfl) gD kD bD .nil pass0 (pa_cons (pv 0) (pa_cons pe_int pa_nil))) pe_int (nomark _))))))))
          (pss_cons (ps_set (i := 5) nd rfl (Or.inl rfl) (pe_call GP hr (by rfl) gP kP bP .nil pass0 (pa_cons (pv 0) (pa_cons (pe_ix ix_tup (pv 1) pe_int (fun _ _ => rfl)) pa_nil))))
            (pss_one (ps_expr (pe_bm PySem.F.plainAttrs_list PySem.F.slot_list_append PySem.F.type_list_append mt_append (pv 3) (pa_cons (pe_tup (pa_cons pe_str (pa_cons (pv 5) (pa_cons (pe_op op_add_str (pe_call GW hr (by rfl) gW kW bW .nil pass0 (pa_cons (pv 0) (pa_cons (pv 5) pa_nil))) (pe_callTy call_str_int (by rfl) mS (by decide +kernel) (pa_cons (pv 4) pa_nil))) pa_nil)))) pa_nil)))))
          (pss_one (ps_if (pt_cmpR op_gt (pe_callB call_len_seq (by rfl) N.is.len PySem.boot_len (pa_cons (pe_ix ix_tup (pv 1) pe_int (fun _ _ => rfl)) pa_nil)) pe_int (nomark _))
            (pss_one (ps_expr (pe_bm PySem.F.plainAttrs_list PySem.F.slot_list_append PySem.F.type_list_append mt_append (pv 3) (pa_cons (pe_tup (pa_cons pe_str (pa_cons (pe_call GP hr (by rfl) gP kP bP .nil pass0 (pa_cons (pv 0) (pa_cons (pe_ix ix_tup (pv 1) pe_int (fun _ _ => rfl)) pa_nil))) pa_nil))) pa_nil)))) pss_nil)))))
      (pss_one (ps_ret (pv 3)))), ?_⟩
    have l1 := ok.l1
    have lbe : fo.be.length ≤ 60 := Nat.le_trans (lotLen ok.be ok.bl) l1
    have las : fo.as.length ≤ 60 := Nat.le_trans (lotLen ok.as ok.al) l1
    refine ⟨by show 0 ≤ sizeLine; decide, fun W nW => ?_⟩
    have hI1 := handIn_add (o := .lst []) hI nW
    have kW1 : Kept p H (upd H W (.lst [])) := kept_same (smUpd nW)
    have hW1 : upd H W (.lst []) W = some (.lst []) := upd_same
    have nWp := hand_ne hI nW
    generalize upd H W (.lst []) = H1 at hI1 kW1 hW1 ⊢
    refine ⟨_, rfl, _, rfl, _, _, rfl, rfl, p, _, ((most : Nat) : Int) + 1, rfl, hI1, by omega, by omega, fun d H2 d0 d1 hI2 k2 => ⟨d, rfl, by omega, by omega, ?_⟩⟩
    refine for_range (lo := 0) (n := d.toNat) (fun i σ G => ∃ (us : List V) (ds : List (Deed (List Nat))) (t4 t5 : Option V), σ = [some (.ref p), some (.ref r), some (vn most), some (.ref W), t4, t5] ∧ HandIn G p (fun x => x = W ∨ S x) ∧ Kept p H G ∧ G W = some (.lst us) ∧ Paired (DeedAt dW G) us ds ∧ (∀ d ∈ ds, Deed6 fo d) ∧ ds.length ≤ i)
      ⟨[], [], _, _, rfl, hI2, kept_trans kW1 k2, k2 _ _ nWp hW1, .nil, (fun m h => nomatch h), Nat.le_refl _⟩ ?_ ?_
    · rintro i σ G hi ⟨us, ds, t4, t5, rfl, hG, kG, hW, hP, hN, hl⟩
      rw [show (0 : Int) + (i : Int) = (i : Int) from Int.zero_add _]
      have tG := tolKept (c := p) (cells := []) hI kG hT
      obtain ⟨ap, ab, aa, g0, g1, g2, g3⟩ := id tG
      refine ⟨_, rfl, r, _, (1 : Int), _, rfl, rfl, .inl (.inl g0), rfl, ab, _, rfl, .inr (tnL g2), _, _, rfl, rfl, _, rfl, ?_⟩
      by_cases hbe : 0 < fo.be.length
      case neg =>
        refine ifF (by rw [decide_eq_true_iff, List.length_map]; omega) ?_
        have a0 := g0
        have a3 := g3
        have hG1 := hG
        have kG1 := kG
        have hW1 := hW
        have hP1 := hP
        refine ⟨_, rfl, r, _, (2 : Int), _, rfl, rfl, .inl (.inl a0), rfl, aa, _, rfl, .inr (tnL a3), _, _, rfl, rfl, _, rfl, ?_⟩
        by_cases has : 0 < fo.as.length
        case neg =>
          refine ifF (by rw [decide_eq_true_iff, List.length_map]; omega) ?_
          exact ⟨us, ds, _, _, rfl, hG1, kG1, hW1, hP1, hN, Nat.le_succ_of_le hl⟩
        refine ifT (decide_eq_true (by rw [List.length_map]; omega)) ?_
        refine ⟨_, rfl, .inl ⟨rfl, _, .inl (.inl hW1)⟩, _, rfl, _, rfl, r, _, (2 : Int), _, rfl, rfl, .inl (.inl a0), rfl, p, _, aa, fo.as.map vn, rfl, hG1, tup_ne hG1 a3, .inr a3, by rw [List.length_map]; exact has, by rw [List.length_map]; omega, fun m v G2 hv hG2 k2 => ?_⟩
        obtain ⟨q, hq, rfl⟩ := vn_get hv
        have hqb := List.mem_of_getElem? hq
        have hW2 := k2 _ _ nWp hW1
        refine ⟨by show 2 ≤ sizeLine; decide, fun T nT => ?_⟩
        have sT := smUpd (o := .tup [.str "ask", vn q]) nT
        have hTT : upd G2 T (.tup [.str "ask", vn q]) T = some (.tup [.str "ask", vn q]) := upd_same
        generalize upd G2 T (.tup [.str "ask", vn q]) = G4 at sT hTT ⊢
        have hW4 := sT _ _ hW2
        have ul := Paired.length hP1
        refine ⟨W, us, .ref T, rfl, rfl, hW4, small1000 (by omega), ?_⟩
        have hP4 : Paired (DeedAt dW G4) us ds := Paired.mapP hP1 fun _ _ z => deedKeep (fun t xs e => sT _ _ (k2 _ _ (tup_ne hG1 e) e)) z
        refine ⟨us ++ [.ref T], ds ++ [.ask q], _, _, rfl, handIn_write (handIn_keep hG2 sT) (.inl rfl), kept_over nW (kept_trans kG1 (kept_trans k2 (kept_same sT))), upd_same, ?_, fun d hd => ?_, by rw [List.length_append]; show ds.length + 1 ≤ i + 1; omega⟩
        · exact paired_snoc (Paired.mapP hP4 fun _ _ z => deedKeep (fun t xs e => by rw [upd_ne (fun y => by rw [y, hW4] at e; cases e)]; exact e) z) ⟨T, rfl, by rw [upd_ne (fun y => by rw [y, hW4] at hTT; cases hTT)]; exact hTT⟩
        · rcases List.mem_append.mp hd with hd | hd
          · exact hN d hd
          · rw [List.mem_singleton.mp hd]
            exact hqb
      refine ifT (decide_eq_true (by rw [List.length_map]; omega)) ?_
      refine ⟨_, rfl, r, _, (2 : Int), _, rfl, rfl, .inl (.inl g0), rfl, aa, _, rfl, .inr (tnL g3), rfl, _, rfl, ?_⟩
      by_cases hae : fo.as.length = 0
      case pos =>
        refine ifT (decide_eq_true (by rw [List.length_map, hae]; rfl)) ?_
        have a0 := g0
        have a2 := g2
        have hG1 := hG
        have kG1 := kG
        have hW1 := hW
        have hP1 := hP
        refine ⟨_, rfl, _, rfl, r, _, (1 : Int), _, rfl, rfl, .inl (.inl a0), rfl, p, _, ab, fo.be.map vn, rfl, hG1, tup_ne hG1 a2, .inr a2, by rw [List.length_map]; exact hbe, by rw [List.length_map]; omega, fun m v G2 hv hG2 k2 => ?_⟩
        obtain ⟨q, hq, rfl⟩ := vn_get hv
        have hqb := List.mem_of_getElem? hq
        have hql := ok.bl q hqb
        have hW2 := k2 _ _ nWp hW1
        refine ⟨_, rfl, .inl ⟨rfl, _, .inl (.inl hW2)⟩, _, rfl, _, rfl, _, rfl, p, _, q, rfl, hG2, by omega, fun l G3 hl4 hG3 k3 => ?_⟩
        refine ⟨_, rfl, _, rfl, num_log i (by omega), ?_⟩
        rw [str_num]
        have hnl := num_len (n := i) (by omega)
        refine ⟨_, _, rfl, rfl, by show (Sg l).length + (Sg (TL.numL i)).length ≤ _; rw [sg_len, sg_len]; show _ ≤ 16777216; omega, ?_⟩
        have ej : (Sg l ++ numS i) = Sg (l ++ TL.numL i) := SX.S_cat l (TL.numL i)
        rw [ej]
        refine ⟨by show 3 ≤ sizeLine; decide, fun T nT => ?_⟩
        have k13 := kept_trans k2 k3
        have hW3 := k3 _ _ nWp hW2
        have sT := smUpd (o := .tup [.str "change", vn q, vS (l ++ TL.numL i)]) nT
        have hTT : upd G3 T (.tup [.str "change", vn q, vS (l ++ TL.numL i)]) T = some (.tup [.str "change", vn q, vS (l ++ TL.numL i)]) := upd_same
        generalize upd G3 T (.tup [.str "change", vn q, vS (l ++ TL.numL i)]) = G4 at sT hTT ⊢
        have hW4 := sT _ _ hW3
        have ul := Paired.length hP1
        refine ⟨W, us, .ref T, rfl, rfl, hW4, small1000 (by omega), ?_⟩
        have hP4 : Paired (DeedAt dW G4) us ds := Paired.mapP hP1 fun _ _ z => deedKeep (fun t xs e => sT _ _ (k13 _ _ (tup_ne hG1 e) e)) z
        refine ⟨us ++ [.ref T], ds ++ [.chg q (l ++ TL.numL i)], _, _, rfl, handIn_write (handIn_keep hG3 sT) (.inl rfl), kept_over nW (kept_trans kG1 (kept_trans k13 (kept_same sT))), upd_same, ?_, fun d hd => ?_, by rw [List.length_append]; show ds.length + 1 ≤ i + 1; omega⟩
        · exact paired_snoc (Paired.mapP hP4 fun _ _ z => deedKeep (fun t xs e => by rw [upd_ne (fun y => by rw [y, hW4] at e; cases e)]; exact e) z) ⟨T, _, rfl, by rw [upd_ne (fun y => by rw [y, hW4] at hTT; cases hTT)]; exact hTT, rfl⟩
        · rcases List.mem_append.mp hd with hd | hd
          · exact hN d hd
          · rw [List.mem_singleton.mp hd]
            exact ⟨hqb, by show (l ++ TL.numL i).length ≤ 6; rw [List.length_append]; omega⟩
      refine ifF (by rw [decide_eq_true_iff, List.length_map]; exact fun z => hae (by injection z with z; omega)) ?_
      refine ⟨_, rfl, p, _, 2, rfl, hG, by decide, by decide, fun d2 G1 _ _ hG1 k1 => ⟨rfl, _, rfl, ?_⟩⟩
      have a0 := k1 _ _ (tup_ne hG g0) g0
      have a2 : TN G1 ab fo.be := k1 _ _ (tup_ne hG g2) g2
      have a3 : TN G1 aa fo.as := k1 _ _ (tup_ne hG g3) g3
      have kG1 := kept_trans kG k1
      have hW1 := k1 _ _ nWp hW
      have hP1 : Paired (DeedAt dW G1) us ds := Paired.mapP hP fun _ _ z => deedKeep (fun t xs e => k1 _ _ (tup_ne hG e) e) z
      refine ite2 (fun _ => ?_) (fun _ => ?_)
      · skip
        refine ⟨_, rfl, _, rfl, r, _, (1 : Int), _, rfl, rfl, .inl (.inl a0), rfl, p, _, ab, fo.be.map vn, rfl, hG1, tup_ne hG1 a2, .inr a2, by rw [List.length_map]; exact hbe, by rw [List.length_map]; omega, fun m v G2 hv hG2 k2 => ?_⟩
        obtain ⟨q, hq, rfl⟩ := vn_get hv
        have hqb := List.mem_of_getElem? hq
        have hql := ok.bl q hqb
        have hW2 := k2 _ _ nWp hW1
        refine ⟨_, rfl, .inl ⟨rfl, _, .inl (.inl hW2)⟩, _, rfl, _, rfl, _, rfl, p, _, q, rfl, hG2, by omega, fun l G3 hl4 hG3 k3 => ?_⟩
        refine ⟨_, rfl, _, rfl, num_log i (by omega), ?_⟩
        rw [str_num]
        have hnl := num_len (n := i) (by omega)
        refine ⟨_, _, rfl, rfl, by show (Sg l).length + (Sg (TL.numL i)).length ≤ _; rw [sg_len, sg_len]; show _ ≤ 16777216; omega, ?_⟩
        have ej : (Sg l ++ numS i) = Sg (l ++ TL.numL i) := SX.S_cat l (TL.numL i)
        rw [ej]
        refine ⟨by show 3 ≤ sizeLine; decide, fun T nT => ?_⟩
        have k13 := kept_trans k2 k3
        have hW3 := k3 _ _ nWp hW2
        have sT := smUpd (o := .tup [.str "change", vn q, vS (l ++ TL.numL i)]) nT
        have hTT : upd G3 T (.tup [.str "change", vn q, vS (l ++ TL.numL i)]) T = some (.tup [.str "change", vn q, vS (l ++ TL.numL i)]) := upd_same
        generalize upd G3 T (.tup [.str "change", vn q, vS (l ++ TL.numL i)]) = G4 at sT hTT ⊢
        have hW4 := sT _ _ hW3
        have ul := Paired.length hP1
        refine ⟨W, us, .ref T, rfl, rfl, hW4, small1000 (by omega), ?_⟩
        have hP4 : Paired (DeedAt dW G4) us ds := Paired.mapP hP1 fun _ _ z => deedKeep (fun t xs e => sT _ _ (k13 _ _ (tup_ne hG1 e) e)) z
        refine ⟨us ++ [.ref T], ds ++ [.chg q (l ++ TL.numL i)], _, _, rfl, handIn_write (handIn_keep hG3 sT) (.inl rfl), kept_over nW (kept_trans kG1 (kept_trans k13 (kept_same sT))), upd_same, ?_, fun d hd => ?_, by rw [List.length_append]; show ds.length + 1 ≤ i + 1; omega⟩
        · exact paired_snoc (Paired.mapP hP4 fun _ _ z => deedKeep (fun t xs e => by rw [upd_ne (fun y => by rw [y, hW4] at e; cases e)]; exact e) z) ⟨T, _, rfl, by rw [upd_ne (fun y => by rw [y, hW4] at hTT; cases hTT)]; exact hTT, rfl⟩
        · rcases List.mem_append.mp hd with hd | hd
          · exact hN d hd
          · rw [List.mem_singleton.mp hd]
            exact ⟨hqb, by show (l ++ TL.numL i).length ≤ 6; rw [List.length_append]; omega⟩
      · skip
        refine ⟨_, rfl, r, _, (2 : Int), _, rfl, rfl, .inl (.inl a0), rfl, aa, _, rfl, .inr (tnL a3), _, _, rfl, rfl, _, rfl, ?_⟩
        by_cases has : 0 < fo.as.length
        case neg =>
          refine ifF (by rw [decide_eq_true_iff, List.length_map]; omega) ?_
          exact ⟨us, ds, _, _, rfl, hG1, kG1, hW1, hP1, hN, Nat.le_succ_of_le hl⟩
        refine ifT (decide_eq_true (by rw [List.length_map]; omega)) ?_
        refine ⟨_, rfl, .inl ⟨rfl, _, .inl (.inl hW1)⟩, _, rfl, _, rfl, r, _, (2 : Int), _, rfl, rfl, .inl (.inl a0), rfl, p, _, aa, fo.as.map vn, rfl, hG1, tup_ne hG1 a3, .inr a3, by rw [List.length_map]; exact has, by rw [List.length_map]; omega, fun m v G2 hv hG2 k2 => ?_⟩
        obtain ⟨q, hq, rfl⟩ := vn_get hv
        have hqb := List.mem_of_getElem? hq
        have hW2 := k2 _ _ nWp hW1
        refine ⟨by show 2 ≤ sizeLine; decide, fun T nT => ?_⟩
        have sT := smUpd (o := .tup [.str "ask", vn q]) nT
        have hTT : upd G2 T (.tup [.str "ask", vn q]) T = some (.tup [.str "ask", vn q]) := upd_same
        generalize upd G2 T (.tup [.str "ask", vn q]) = G4 at sT hTT ⊢
        have hW4 := sT _ _ hW2
        have ul := Paired.length hP1
        refine ⟨W, us, .ref T, rfl, rfl, hW4, small1000 (by omega), ?_⟩
        have hP4 : Paired (DeedAt dW G4) us ds := Paired.mapP hP1 fun _ _ z => deedKeep (fun t xs e => sT _ _ (k2 _ _ (tup_ne hG1 e) e)) z
        refine ⟨us ++ [.ref T], ds ++ [.ask q], _, _, rfl, handIn_write (handIn_keep hG2 sT) (.inl rfl), kept_over nW (kept_trans kG1 (kept_trans k2 (kept_same sT))), upd_same, ?_, fun d hd => ?_, by rw [List.length_append]; show ds.length + 1 ≤ i + 1; omega⟩
        · exact paired_snoc (Paired.mapP hP4 fun _ _ z => deedKeep (fun t xs e => by rw [upd_ne (fun y => by rw [y, hW4] at e; cases e)]; exact e) z) ⟨T, rfl, by rw [upd_ne (fun y => by rw [y, hW4] at hTT; cases hTT)]; exact hTT⟩
        · rcases List.mem_append.mp hd with hd | hd
          · exact hN d hd
          · rw [List.mem_singleton.mp hd]
            exact hqb
    · rintro σ G ⟨us, ds, t4, t5, rfl, hG, kG, hW, hP, hN, hl⟩
      exact ⟨_, rfl, k W us ds _ (handIn_less hG fun _ z => .inr z) kG nW hW hP hN (by omega)⟩
/-- drawn turns -/
def spLTurns : Sp := fun vs H Q _ => ∃ (p : Addr) (S : Addr → Prop) (many most : Nat), vs = [.ref p, vn many, vn most] ∧ HandIn H p S ∧ many ≤ 1000 ∧ most ≤ 400 ∧
  ∀ (b : Addr) (ts : List Nat) H', HandIn H' p S → Kept p H H' → H b = none → H' b = some (.lst (ts.map vn)) → (∀ k ∈ ts, k < many) → ts.length ≤ most → Q (.ref b) H'
def nLTurns : List Str := ["_law_pool_here", "_law_many", "_law_most", "_law_found", "_law_turn", "_law_last"]
theorem scLTurns : FnScope nLTurns ["_law_pool_here", "_law_many", "_law_most"] (defScope sLTurns) := ⟨rfl, rfl, rfl, by decide +kernel, rfl, by decide +kernel, by decide +kernel⟩
theorem dLTurns (B : Defs K mg C) : Def P w K mg base "_law_turns" 2 ["_law_pool_here", "_law_many", "_law_most"] spLTurns := by
  obtain ⟨fD, fdD, GD, gD, kD, bD⟩ := dDraw (P := P) (w := w) (base := base) B
  have N := B.N
  have nd := scLTurns.nd
  refine def_of B.ltn fun f fd F => ?_
  refine F.ok scLTurns (fun vs H Q E h => ?_) (fun cdv A outer s H vs Q E hr h => ?_)
  · obtain ⟨p, S, many, most, rfl, _⟩ := h
    rfl
  · obtain ⟨p, S, many, most, rfl, hI, hmany, hm, k⟩ := h
    have r1 : Room 1 (A.deeper (envOfC "_law_turns" (defScope sLTurns) s.heap.objs.size f cdv)) := Room.mono hr (by decide)
    refine ⟨_, pss_cons (ps_set (i := 3) nd rfl (Or.inl rfl) (pe_lst pa_nil))
      (pss_cons (ps_if (pt_cmpR op_gt (pv 1) pe_int (nomark _)) (pss_one (ps_for PassesOwn.never rfl (pi_range1 (by rfl) N.range (pa_cons (pe_call GD r1 (by rfl) gD kD bD .nil pass0 (pa_cons (pv 0) (pa_cons (pe_op op_add (pv 2) pe_int) pa_nil))) pa_nil)) (pg_name (i := 4) nd rfl (Or.inl rfl))
        (psMid (ps_set (i := 5) nd rfl (Or.inl rfl) (pe_ifExp (pt_cmpR op_eq (pe_call GD r1 (by rfl) gD kD bD .nil pass0 (pa_cons (pv 0) (pa_cons pe_int pa_nil))) pe_int (nomark _)) (pe_slice sl_list (pv 3) (po_some (pe_un un_neg pe_int)) po_none) (pe_lst pa_nil)))
        (pss_one (ps_expr (pe_bm PySem.F.plainAttrs_list PySem.F.slot_list_extend PySem.F.type_list_extend mt_extend (pv 3) (pa_cons (pe_ifExp (pt_cmpR op_gt (pe_callB call_len_seq (by rfl) N.is.len PySem.boot_len (pa_cons (pv 5) pa_nil)) pe_int (nomark _)) (pv 5) (pe_lst (pa_cons (pe_call GD r1 (by rfl) gD kD bD .nil pass0 (pa_cons (pv 0) (pa_cons (pv 1) pa_nil))) pa_nil))) pa_nil))))))) pss_nil)
      (pss_one (ps_ret (pv 3)))), ?_⟩
    refine ⟨by show 0 ≤ sizeLine; decide, fun W nW => ?_⟩
    have hI1 := handIn_add (o := .lst []) hI nW
    have kW1 : Kept p H (upd H W (.lst [])) := kept_same (smUpd nW)
    have hW1 : upd H W (.lst []) W = some (.lst []) := upd_same
    have nWp := hand_ne hI nW
    generalize upd H W (.lst []) = H1 at hI1 kW1 hW1 ⊢
    refine ⟨_, rfl, _, _, rfl, rfl, _, rfl, ?_⟩
    refine ite2 (fun c => ?_) (fun _ => ?_)
    · have cm : 0 < many := by
        have c : (0 : Int) < (many : Int) := of_decide_eq_true c
        omega
      refine ⟨_, rfl, _, rfl, _, _, rfl, rfl, p, _, ((most : Nat) : Int) + 1, rfl, hI1, by omega, by omega, fun d H2 d0 d1 hI2 k2 => ⟨d, rfl, by omega, by omega, ?_⟩⟩
      refine for_range (lo := 0) (n := d.toNat) (fun i σ G => ∃ (ts : List Nat) (t4 t5 : Option V), σ = [some (.ref p), some (vn many), some (vn most), some (.ref W), t4, t5] ∧ HandIn G p (fun x => x = W ∨ S x) ∧ Kept p H G ∧ G W = some (.lst (ts.map vn)) ∧ (∀ k ∈ ts, k < many) ∧ ts.length ≤ i)
        ⟨[], _, _, rfl, hI2, kept_trans kW1 k2, k2 _ _ nWp hW1, (fun m h => nomatch h), Nat.le_refl _⟩ ?_ ?_
      · rintro i σ G hi ⟨ts, t4, t5, rfl, hG, kG, hW, hN, hl⟩
        refine ⟨fun σ J => ∃ (q : Addr) (ls : List Nat) (t4 : Option V), σ = [some (.ref p), some (vn many), some (vn most), some (.ref W), t4, some (.ref q)] ∧ HandIn J p (fun x => x = W ∨ S x) ∧ Kept p H J ∧ J W = some (.lst (ts.map vn)) ∧ J q = some (.lst (ls.map vn)) ∧ q ≠ p ∧ (∀ k ∈ ls, k < many) ∧ ls.length ≤ 1, ?_, ?_⟩
        · refine ⟨_, rfl, p, _, 3, rfl, hG, by decide, by decide, fun e G1 _ _ hG1 k1 => ⟨rfl, _, rfl, ?_⟩⟩
          have hW1 := k1 _ _ nWp hW
          have kG1 := kept_trans kG k1
          refine ite2 (fun _ => ?_) (fun _ => ?_)
          · refine ⟨_, rfl, _, rfl, _, rfl, W, _, rfl, .inl (.inl hW1), fun q nq => ?_⟩
            have sq := smUpd (o := .lst (cutV (ts.map vn) (some (-1)) none)) nq
            refine ⟨q, ts.drop (ts.length - 1), _, rfl, handIn_keep hG1 sq, kept_trans kG1 (kept_same sq), sq _ _ hW1, ?_, hand_ne hG1 nq, fun k hk => hN k (List.mem_of_mem_drop hk), by rw [List.length_drop]; omega⟩
            rw [upd_same, lastCut, List.length_map, List.map_drop]
          · refine ⟨by show 0 ≤ sizeLine; decide, fun q nq => ?_⟩
            have sq := smUpd (o := .lst []) nq
            exact ⟨q, [], _, rfl, handIn_keep hG1 sq, kept_trans kG1 (kept_same sq), sq _ _ hW1, upd_same, hand_ne hG1 nq, (fun k hk => nomatch hk), Nat.zero_le _⟩
        · rintro σ J ⟨q, ls, t4, rfl, hJ, kJ, hWJ, hq, qp, hls, ll⟩
          refine ⟨_, rfl, .inl ⟨rfl, _, .inl (.inl hWJ)⟩, _, rfl, q, _, rfl, .inl (.inl (.inl hq)), _, _, rfl, rfl, _, rfl, ?_⟩
          by_cases cl : 0 < ls.length
          · refine ifT (decide_eq_true (by rw [List.length_map]; omega)) ?_
            refine ⟨_, rfl, W, q, _, _, rfl, rfl, hWJ, hq, by rw [List.length_map, List.length_map]; exact Nat.le_of_lt (bigLine (by omega)), ?_⟩
            exact ⟨ts ++ ls, _, _, rfl, handIn_write hJ (.inl rfl), kept_over nW kJ, by rw [upd_same, List.map_append], fun k hk => (List.mem_append.mp hk).elim (hN k) (hls k), by rw [List.length_append]; omega⟩
          · refine ifF (by rw [decide_eq_true_iff, List.length_map]; omega) ?_
            refine ⟨_, rfl, _, rfl, p, _, (many : Int), rfl, hJ, by omega, by omega, fun e J2 e0 e1 hJ2 k2 => ⟨by show 1 ≤ sizeLine; decide, fun L nL => ?_⟩⟩
            obtain ⟨z, rfl⟩ := Int.eq_ofNat_of_zero_le e0
            have sL := smUpd (o := .lst [vn z]) nL
            refine ⟨W, L, ts.map vn, [vn z], rfl, rfl, sL _ _ (k2 _ _ nWp hWJ), upd_same, by rw [List.length_map]; show ts.length + 1 ≤ sizeLine; exact Nat.le_of_lt (bigLine (by omega)), ?_⟩
            refine ⟨ts ++ [z], _, _, rfl, handIn_write (handIn_keep hJ2 sL) (.inl rfl), kept_over nW (kept_trans kJ (kept_trans k2 (kept_same sL))), by rw [upd_same, List.map_append]; rfl, fun k hk => ?_, by rw [List.length_append]; show ts.length + 1 ≤ i + 1; omega⟩
            rcases List.mem_append.mp hk with hk | hk
            · exact hN k hk
            · rw [List.mem_singleton.mp hk]; omega
      · rintro σ G ⟨ts, t4, t5, rfl, hG, kG, hW, hN, hl⟩
        exact ⟨_, rfl, k W ts _ (handIn_less hG fun _ z => .inr z) kG nW hW hN (by omega)⟩
    · exact ⟨_, rfl, k W [] _ (handIn_less hI1 fun _ z => .inr z) kW1 nW hW1 (fun k hk => nomatch hk) (Nat.zero_le _)⟩
end
end Cn
namespace Cn
open PySem PySem.Spec PyProof.Rows L2 Ck
/-! answers bent; what is woven, as texts -/
def bare : Ev → Ev
  | .tld k _ => .tld k .zero
  | e => e
theorem due_bare (h : List Ev) : due (h.map bare) = due h := by
  unfold due
  rw [List.foldl_map]
  have : (fun d e => dstep d (bare e)) = dstep := by
    funext d e j
    cases e <;> rfl
  rw [this]
theorem dones_bare (h : List Ev) : donesOf (h.map bare) = donesOf h := by
  unfold donesOf
  rw [List.foldl_map]
  have : (fun d e => estepD d (bare e)) = estepD := by
    funext d e
    cases e <;> rfl
  rw [this]
theorem lives_bare (E : Nat → Int) (p : Nat) (h : List Ev) : lives E p (h.map bare) = lives E p h := by
  unfold lives
  rw [List.foldl_map]
  have : (fun d e => lstep E p d (bare e)) = lstep E p := by
    funext d e
    cases e <;> rfl
  rw [this]
theorem bare_len {h h' : List Ev} (b : h.map bare = h'.map bare) : h.length = h'.length := by
  have := congrArg List.length b
  rw [List.length_map, List.length_map] at this
  exact this
theorem bare_end {h h' : List Ev} (b : h.map bare = h'.map bare) (k : Nat) : endD h k = endD h' k := by
  unfold endD
  rw [← dones_bare h, ← dones_bare h', b, bare_len b]
theorem bare_get {h h' : List Ev} (b : h.map bare = h'.map bare) {i : Nat} {e : Ev} (g : h'[i]? = some e) : ∃ e0, h[i]? = some e0 ∧ bare e0 = bare e := by
  have h1 : (h'.map bare)[i]? = some (bare e) := by rw [List.getElem?_map, g]; rfl
  rw [← b, List.getElem?_map] at h1
  exact Option.map_eq_some_iff.mp h1
theorem cho_bare {fo : Fo} {am : Nat → List Nat} {h h' : List Ev} (b : h.map bare = h'.map bare) (pl bg en : Nat) : chosenL fo am h pl bg en = chosenL fo am h' pl bg en := by
  unfold chosenL
  refine List.map_congr_left fun p _ => ?_
  have : lives (endD h) p h = lives (endD h') p h' := by
    rw [show endD h = endD h' from funext (bare_end b), ← lives_bare _ _ h, ← lives_bare _ _ h', b]
  rw [this]
theorem hist_bare {fo : Fo} {h h' : List Ev} (b : h.map bare = h'.map bare) (hh : Hist fo h) : Hist fo h' := by
  have ev : ∀ {e0 e : Ev}, bare e0 = bare e → (evFor fo e0 → evFor fo e) ∧ ∀ d, okE d e0 → okE d e := fun {e0 e} z => by
    cases e0 <;> cases e <;> cases z <;> exact ⟨fun q => q, fun d q => q⟩
  refine ⟨fun e he => ?_, fun i e he => ?_⟩
  · obtain ⟨i, hi⟩ := List.getElem?_of_mem he
    obtain ⟨e0, h0, z⟩ := bare_get b hi
    exact (ev z).1 (hh.pl e0 (List.mem_of_getElem? h0))
  · obtain ⟨e0, h0, z⟩ := bare_get b he
    have : due (h.take i) = due (h'.take i) := by
      rw [← due_bare (h.take i), ← due_bare (h'.take i), List.map_take, List.map_take, b]
    rw [← this]
    exact (ev z).2 _ (hh.ok i e0 h0)
theorem short_bare {am : Nat → List Nat} {h h' : List Ev} (b : h.map bare = h'.map bare) (s : Short am h) : Short am h' := ⟨s.1, fun k p w hm => by
  obtain ⟨i, hi⟩ := List.getElem?_of_mem hm
  obtain ⟨e0, h0, z⟩ := bare_get b hi
  cases e0 <;> cases z
  exact s.2 k p w (List.mem_of_getElem? h0)⟩
theorem told_bare {h h' : List Ev} (b : h.map bare = h'.map bare) {j k bg pl : Nat} {a : An} (t : Told h' j k bg pl a) : ∃ a0, Told h j k bg pl a0 := by
  obtain ⟨e0, h0, z0⟩ := bare_get b t.1
  obtain ⟨e1, h1, z1⟩ := bare_get b t.2
  cases e0 <;> cases z0
  cases e1 <;> cases z1
  exact ⟨_, h0, h1⟩
/-- where all answers may be counted, no bent one has more choices -/
theorem no_many {fo : Fo} {am : Nat → List Nat} {ad : List Nat → List Nat → List Nat} {h h' : List Ev} {most : Nat} (b : h.map bare = h'.map bare) (g : ∀ j, Good fo am ad h most j) : ¬ ∃ j k bg pl a, Told h' j k bg pl a ∧ most < prodC (chosenL fo am h' pl bg j) := by
  rintro ⟨j, k, bg, pl, a, t, z⟩
  obtain ⟨a0, t0⟩ := told_bare b t
  have := (g j k bg pl a0 t0).1
  rw [cho_bare b] at this
  omega
/-- a beginning of what is good is good -/
theorem good_take {fo : Fo} {am : Nat → List Nat} {ad : List Nat → List Nat → List Nat} {h : List Ev} {most : Nat} (hh : Hist fo h) (g : ∀ j, Good fo am ad h most j) {n : Nat} (hn : n ≤ h.length) : ∀ j, Good fo am ad (h.take n) most j := fun j k bg pl a t => by
  have hj : j < n := by
    have := (List.getElem?_eq_some_iff.mp t.1).1
    rw [List.length_take] at this
    omega
  obtain ⟨i, q, h1, h2, _⟩ := told_ask (hist_take hh n) t.1
  have eb := ask_once (hist_take hh n) h2 t.2
  have hbn : bg < n := by omega
  have t1 := t.1
  have t2 := t.2
  rw [List.getElem?_take_of_lt hj] at t1
  rw [List.getElem?_take_of_lt hbn] at t2
  rw [chosen_take hh hn (Nat.le_of_lt hj) (by omega)]
  exact g j k bg pl a ⟨t1, t2⟩
/-- what is good is not judged wrong -/
theorem judged_good {fo : Fo} {am : Nat → List Nat} {ad : List Nat → List Nat → List Nat} {h : List Ev} {most : Nat} {res : Option Nat} (g : ∀ at_ k bg pl a, Told h at_ k bg pl a → a ∈ allT ad (chosenL fo am h pl bg at_)) (j : Judged fo am ad h most res) : res = none := by
  cases res with
  | none => rfl
  | some at_ =>
    obtain ⟨_, k, bg, pl, a, t, _, no⟩ := j
    exact absurd (g at_ k bg pl a t) no
theorem short_take {am : Nat → List Nat} {h : List Ev} (s : Short am h) (n : Nat) : Short am (h.take n) := ⟨s.1, fun k p w hm => s.2 k p w (List.mem_of_mem_take hm)⟩
theorem weave_ev {α : Type} {ad : α → α → α} {nt : NtL} {ds : List (Deed α)} : ∀ (ts : List Nat) {st : Lm α}, (weaveL ad nt ds st ts).ev.length ≤ st.ev.length + 2 * ts.length
  | [], _ => Nat.le_add_right _ _
  | k :: ts, st => by
    rw [weave_cons]
    refine Nat.le_trans (weave_ev ts) ?_
    have : (stepW ad nt ds st k).ev.length ≤ st.ev.length + 2 := by
      unfold stepW
      cases ds[k]? with
      | none => exact Nat.le_add_right _ _
      | some d => exact evTurn
    rw [List.length_cons]
    omega
/-- what is woven of drawn deeds -/
theorem woven_good {fo : Fo} {lv : List Nat} {am : Nat → List Nat} {ds : List (Deed (List Nat))} {ts : List Nat} (ok : FoOk fo) (sh : ∀ p, (am p).length ≤ 100) (h6 : ∀ d ∈ ds, Deed6 fo d) :
    W8 fo am (fun a b => a ++ b) (heldNotes fo.ps fo.be fo.as lv fo.ps.length) ds (weaveL (fun a b => a ++ b) (heldNotes fo.ps fo.be fo.as lv fo.ps.length) ds (lm0 (fun a b => a ++ b) (heldNotes fo.ps fo.be fo.as lv fo.ps.length) am) ts) := by
  have okN := ntOk_held (lv := lv) ok
  refine w8_weave (fun a b c => List.append_assoc a b c) okN.nd (fun s hs => (okN.ne s hs).1) (fun q hq => reads_flat ok hq) (fun d hd => ?_) ts (w8_start sh)
  have := h6 d hd
  cases d with
  | chg p a => exact ⟨this.1, Nat.le_trans this.2 (by decide)⟩
  | ask q => exact this
theorem evT {H : Hp} {v : V} {e : EvG (List Nat)} (h : EvGAt dW H v e) : EvAt H v (toEv e) := by
  cases e with
  | chg k p a =>
    obtain ⟨t, x, h1, h2, h3⟩ := h
    have h3 : x = vS a := h3
    exact ⟨t, h1, by rw [h2, h3]; rfl⟩
  | ask k p =>
    obtain ⟨t, h1, h2⟩ := h
    exact ⟨t, h1, h2⟩
  | don k =>
    obtain ⟨t, h1, h2⟩ := h
    exact ⟨t, h1, h2⟩
  | tld k a =>
    obtain ⟨t, x, h1, h2, h3⟩ := h
    refine ⟨t, h1, ?_⟩
    cases a with
    | none =>
      have h3 : x = .non := h3
      rw [h2, h3]; rfl
    | some a =>
      have h3 : x = vS a := h3
      rw [h2, h3]; rfl
theorem evsT {H : Hp} : ∀ {us : List V} {es : List (EvG (List Nat))}, Paired (EvGAt dW H) us es → EvsAt H us (es.map toEv)
  | [], [], .nil => .nil
  | _ :: _, _ :: _, .cons a b => .cons (evT a) (evsT b)
section
variable {P : Program} {w : World} {K : PySem.W.Frag} {mg : Str → Option Value} {base : Heap} {C : Addr}
theorem addGJoin (B : Defs K mg C) : ∃ g, mg "_law_joined" = some (.ref g) ∧ Add P w K mg base g (fun a b => a ++ b) ∧ AddG P w K mg base dW g (fun a b => a ++ b) := by
  obtain ⟨f, fd, G, g, k, b⟩ := dLJoin (P := P) (w := w) (base := base) B
  refine ⟨f, g, ⟨⟨fd, _, _, G, k, b, fun x y H Q E hl q => ⟨x, y, rfl, hl, q⟩⟩, fun a b => by rw [List.length_append]; exact Nat.le_refl _⟩, ⟨fd, _, _, G, k, b, fun H u v x y Q E hu hv hl q => ?_⟩, fun a b => ?_⟩
  · have hu : u = vS x := hu
    have hv : v = vS y := hv
    exact ⟨x, y, by rw [hu, hv], hl, q _ H (Same.refl _) rfl⟩
  · show (a ++ b).length ≤ a.length + b.length
    rw [List.length_append]
    exact Nat.le_refl _
end
end Cn
namespace Cn
open PySem PySem.Spec PyProof.Rows L2 Ck
/-! a history that is drawn: what runs -/
structure RunOk (h : List Ev) (rs : List Ev) : Prop where
  ds : ∀ e ∈ rs, e.ends = false ∧ due h e.key = some e.leaves
  nd : (rs.map Ev.key).Nodup
theorem run_end {h rs : List Ev} {e : Ev} (r : RunOk h rs) (n : ∀ x ∈ rs, x.key ≠ e.key) : RunOk (h ++ [e]) rs := by
  refine ⟨fun x hx => ⟨(r.ds x hx).1, ?_⟩, r.nd⟩
  rw [due_snoc]
  show (if x.key = e.key then some e.leaves else due h x.key) = _
  rw [if_neg (n x hx)]
  exact (r.ds x hx).2
theorem run_add {h rs : List Ev} {e : Ev} (r : RunOk h rs) (he : e.ends = false) (hd : due h e.key = some e.leaves) (n : ∀ x ∈ rs, x.key ≠ e.key) : RunOk h (rs ++ [e]) := by
  refine ⟨fun x hx => ?_, ?_⟩
  · rcases List.mem_append.mp hx with hx | hx
    · exact r.ds x hx
    · rw [List.mem_singleton.mp hx]; exact ⟨he, hd⟩
  · rw [List.map_append, List.nodup_append]
    refine ⟨r.nd, by simp, fun a ha b hb => ?_⟩
    obtain ⟨x, hx, rfl⟩ := List.mem_map.mp ha
    have hb : b = e.key := by simpa using hb
    rw [hb]
    exact n x hx
theorem run_erase {h rs : List Ev} {d : Nat} (r : RunOk h rs) : RunOk h (rs.eraseIdx d) :=
  ⟨fun x hx => r.ds x (List.mem_of_mem_eraseIdx hx), r.nd.sublist ((List.eraseIdx_sublist rs d).map Ev.key)⟩
theorem erase_key {rs : List Ev} (nd : (rs.map Ev.key).Nodup) : ∀ {d : Nat} {e : Ev}, rs[d]? = some e → ∀ x ∈ rs.eraseIdx d, x.key ≠ e.key := by
  induction rs with
  | nil => intro d e h; cases h
  | cons y ys ih =>
    intro d e h x hx
    have nd' := List.nodup_cons.mp nd
    cases d with
    | zero =>
      cases h
      exact fun z => nd'.1 (by rw [← z]; exact List.mem_map.mpr ⟨x, hx, rfl⟩)
    | succ d =>
      rcases List.mem_cons.mp hx with rfl | hx
      · have hm : e ∈ ys := List.mem_of_getElem? h
        exact fun z => nd'.1 (by rw [z]; exact List.mem_map.mpr ⟨e, hm, rfl⟩)
      · exact ih nd'.2 h x hx
theorem pairedErase {α β : Type} {R : α → β → Prop} : ∀ {xs : List α} {ys : List β} (d : Nat), Paired R xs ys → Paired R (xs.eraseIdx d) (ys.eraseIdx d)
  | [], [], _, .nil => by simp; exact .nil
  | x :: xs, y :: ys, 0, .cons _ t => t
  | x :: xs, y :: ys, d + 1, .cons h t => .cons h (pairedErase d t)
/-- what stands while a history is drawn -/
structure DrAt (fo : Fo) (am : Nat → List Nat) (H G : Hp) (p F R : Addr) (us ru : List V) (h rs : List Ev) (fr : Nat) : Prop where
  kp : Kept p H G
  nF : H F = none
  nR : H R = none
  ne : F ≠ R
  fp : F ≠ p
  rp : R ≠ p
  hF : G F = some (.lst us)
  hE : EvsAt G us h
  hh : Hist fo h
  sh : Short am h
  hR : G R = some (.lst ru)
  hP : Paired (EvAt G) ru rs
  rl : rs.length ≤ h.length
  ro : RunOk h rs
  kb : ∀ k, due h k ≠ none → k < 3 * fr + 7
theorem evKept {H G : Hp} {p : Addr} {S : Addr → Prop} (hI : HandIn H p S) (k : Kept p H G) {v : V} {e : Ev} (h : EvAt H v e) : EvAt G v e := by
  obtain ⟨t, h1, h2⟩ := h
  exact ⟨t, h1, k _ _ (tup_ne hI h2) h2⟩
section
variable {fo : Fo} {am : Nat → List Nat} {H G G' : Hp} {p F R : Addr} {us ru : List V} {h rs : List Ev} {fr : Nat} {S : Addr → Prop}
theorem drKept (d : DrAt fo am H G p F R us ru h rs fr) (hI : HandIn G p S) (k : Kept p G G') : DrAt fo am H G' p F R us ru h rs fr :=
  { d with kp := kept_trans d.kp k, hF := k _ _ d.fp d.hF, hE := Paired.mapP d.hE fun _ _ z => evKept hI k z, hR := k _ _ d.rp d.hR, hP := Paired.mapP d.hP fun _ _ z => evKept hI k z }
theorem drSame (d : DrAt fo am H G p F R us ru h rs fr) (k : Same G G') : DrAt fo am H G' p F R us ru h rs fr :=
  { d with kp := kept_trans d.kp (kept_same k), hF := k _ _ d.hF, hE := evsSame k d.hE, hR := k _ _ d.hR, hP := Paired.mapP d.hP fun _ _ z => evSame k z }
theorem evUpd {b : Addr} {o : HO} {xs : List V} (hb : G b = some (.lst xs)) {v : V} {e : Ev} (h : EvAt G v e) : EvAt (upd G b o) v e := by
  obtain ⟨t, h1, h2⟩ := h
  exact ⟨t, h1, by rw [upd_ne (fun z => by rw [z, hb] at h2; cases h2)]; exact h2⟩
/-- an event more -/
theorem drPush (d : DrAt fo am H G p F R us ru h rs fr) {e : Ev} {t : Addr} {fr' : Nat} (ht : G t = some (.tup (evV e))) (pl : evFor fo e) (ok : okE (due h) e) (wo : ∀ k q w, e = .chg k q w → w.length ≤ 100) (nk : ∀ x ∈ rs, x.key ≠ e.key) (hk : e.key < 3 * fr' + 7) (hf : fr ≤ fr') :
    DrAt fo am H (upd G F (.lst (us ++ [.ref t]))) p F R (us ++ [.ref t]) ru (h ++ [e]) rs fr' :=
  { d with kp := kept_over d.nF d.kp, hF := upd_same, hE := paired_snoc (Paired.mapP d.hE fun _ _ z => evUpd d.hF z) ⟨t, rfl, by rw [upd_ne (fun z => by rw [z, d.hF] at ht; cases ht)]; exact ht⟩,
           hh := hist_snoc d.hh pl ok, hR := by rw [upd_ne d.ne.symm]; exact d.hR, hP := Paired.mapP d.hP fun _ _ z => evUpd d.hF z, rl := by rw [List.length_append]; exact Nat.le_succ_of_le d.rl, ro := run_end d.ro nk,
           sh := ⟨d.sh.1, fun k q w hm => by
             rcases List.mem_append.mp hm with hm | hm
             · exact d.sh.2 k q w hm
             · exact wo k q w (List.mem_singleton.mp hm).symm⟩,
           kb := fun k hd => by
             rw [due_snoc] at hd
             have hd : (if k = e.key then some e.leaves else due h k) ≠ none := hd
             by_cases c : k = e.key
             · omega
             · rw [if_neg c] at hd
               have := d.kb k hd
               omega }
/-- what has begun runs -/
theorem drRun (d : DrAt fo am H G p F R us ru h rs fr) {e : Ev} {v : V} (hv : EvAt G v e) (he : e.ends = false) (hd : due h e.key = some e.leaves) (nk : ∀ x ∈ rs, x.key ≠ e.key) (hl : rs.length + 1 ≤ h.length) :
    DrAt fo am H (upd G R (.lst (ru ++ [v]))) p F R us (ru ++ [v]) h (rs ++ [e]) fr :=
  { d with kp := kept_over d.nR d.kp, hF := by rw [upd_ne d.ne]; exact d.hF, hE := Paired.mapP d.hE fun _ _ z => evUpd d.hR z, hR := upd_same, hP := paired_snoc (Paired.mapP d.hP fun _ _ z => evUpd d.hR z) (evUpd d.hR hv), rl := by rw [List.length_append]; exact hl, ro := run_add d.ro he hd nk }
/-- one that ran is taken out -/
theorem drPop (d : DrAt fo am H G p F R us ru h rs fr) (i : Nat) : DrAt fo am H (upd G R (.lst (ru.eraseIdx i))) p F R us (ru.eraseIdx i) h (rs.eraseIdx i) fr :=
  { d with kp := kept_over d.nR d.kp, hF := by rw [upd_ne d.ne]; exact d.hF, hE := Paired.mapP d.hE fun _ _ z => evUpd d.hR z, hR := upd_same, hP := pairedErase i (Paired.mapP d.hP fun _ _ z => evUpd d.hR z), rl := Nat.le_trans (List.length_eraseIdx_le rs i) d.rl, ro := run_erase d.ro }
end
theorem tolKeptP {H G : Hp} {p r : Addr} {S : Addr → Prop} {fo : Fo} (hI : HandIn H p S) (k : Kept p H G) (h : TolR H r fo) : TolR G r fo := by
  obtain ⟨ap, ab, aa, h0, h1, h2, h3⟩ := h
  exact ⟨ap, ab, aa, k _ _ (tup_ne hI h0) h0, k _ _ (tup_ne hI h1) h1, k _ _ (tup_ne hI h2) h2, k _ _ (tup_ne hI h3) h3⟩
theorem amdKept {H G : Hp} {p d : Addr} {S : Addr → Prop} {fo : Fo} {am : Nat → List Nat} (hI : HandIn H p S) (k : Kept p H G) (h : AmD H d fo am) : AmD G d fo am := by
  obtain ⟨kvs, h1, h2⟩ := h
  refine ⟨kvs, k _ _ (fun z => ?_) h1, h2⟩
  obtain ⟨_, _, _, _, _, _, e, _⟩ := hI.ob
  rw [← z, h1] at e
  cases e
/-- texts are not the pool -/
theorem txt_ne {H : Hp} {p t : Addr} {S : Addr → Prop} {c : List (List Nat)} (hI : HandIn H p S) (ht : H t = some (.lst (c.map vS))) : t ≠ p := fun z => by
  obtain ⟨_, _, _, _, _, _, e, _⟩ := hI.ob
  rw [← z, ht] at e
  cases c with
  | nil => cases e
  | cons x c => cases e
theorem atLast {α : Type} {xs : List α} {x : α} : atI (xs ++ [x]) (-1) = some x := by
  unfold atI ixN
  rw [if_neg (by decide), if_pos (by rw [List.length_append, List.length_singleton]; omega)]
  show (xs ++ [x])[((-1 : Int) + ((xs ++ [x]).length : Int)).toNat]? = some x
  rw [show ((-1 : Int) + ((xs ++ [x]).length : Int)).toNat = xs.length from by rw [List.length_append, List.length_singleton]; omega, List.getElem?_append_right (Nat.le_refl _), Nat.sub_self]
  rfl
theorem seqIx0 {n : Nat} {d : Int} (h0 : 0 ≤ d) (h1 : d < (n : Int)) : seqIndex? d n = some d.toNat := by
  obtain ⟨k, rfl⟩ := Int.eq_ofNat_of_zero_le h0
  exact (ixN_seq (ixNat (by omega : k < n))).1
theorem ite_share {c : Prop} {_ : Decidable c} {A F : Prop} (f : F) (a : F → A) : if c then A else F := by
  by_cases h : c
  · rw [if_pos h]; exact a f
  · rw [if_neg h]; exact f
end Cn
namespace Cn
open PySem PySem.Spec PyProof.Rows L2 Ck
/-- str of a text or of none -/
def strL : Option (List Nat) → List Nat
  | none => [78, 111, 110, 101]
  | some l => l
theorem litNone : (Str.ofString "None") = Sg [78, 111, 110, 101] := lit _ _ (by decide)
theorem litA0x : (Str.ofString "a0x") = Sg [97, 48, 120] := lit _ _ (by decide)
theorem call_str_vA {X : Cx} : CallR X (.type "str") (fun xs H Q => ∃ o : Option (List Nat), xs = [vA o] ∧ Q (.str (Sg (strL o))) H) := by
  intro pins s σ H xs us Q I r h
  obtain ⟨o, rfl, q⟩ := h
  cases o with
  | none =>
    obtain ⟨u, rfl, r1⟩ := vals1 r
    cases r1
    exact PySem.P.str_of_none ⟨.str (Sg (strL none)), H, I.tok _, ⟨s.toks, by show Value.str (Str.ofString "None") s.toks = Value.str (Sg [78, 111, 110, 101]) s.toks; rw [litNone]⟩, q⟩
  | some l =>
    obtain ⟨u, rfl, t, rfl⟩ := vals1 r
    exact PySem.P.str_of_str ⟨.str _, H, I, ⟨t, rfl⟩, q⟩
/-- slices and sums of tuples, exactly -/
theorem slE {K : PySem.W.Frag} {H : Hp} {a : Addr} {xs : List V} {lo hi : Option Int} {Q : VK} (ha : H a = some (.tup xs)) (k : ∀ b H', Same H H' → H' b = some (.tup (cutV xs lo hi)) → Q (.ref b) H') : rSlA K (.ref a) lo hi H Q :=
  ⟨a, xs, rfl, .inl (.inl ha), fun h => k a H (Same.refl _) (by rw [cutWhole h]; exact ha), fun _ p np => k p _ (smUpd np) upd_same⟩
theorem slEN {K : PySem.W.Frag} {σ : L2.St} {H : Hp} {a : Addr} {xs : List V} {lo : Option Int} {Q : VK} (ha : H a = some (.tup xs)) (k : ∀ b H', Same H H' → H' b = some (.tup (cutV xs lo none)) → Q (.ref b) H') : tNoPart σ H (fun u H3 => rSlA K (.ref a) lo u H3 Q) := slE (hi := none) ha k
theorem catE {K : PySem.W.Frag} {H : Hp} {a b : Addr} {xs ys : List V} {Q : VK} (ha : H a = some (.tup xs)) (hb : H b = some (.tup ys)) (hl : xs.length + ys.length ≤ 1000) (k : ∀ c H', Same H H' → H' c = some (.tup (xs ++ ys)) → Q (.ref c) H') : rCatA K (.ref a) (.ref b) H Q :=
  ⟨a, b, xs, ys, rfl, rfl, .inl (.inl ha), .inl (.inl hb), Nat.le_of_lt (bigLine (by omega)), fun e => k b H (Same.refl _) (by rw [e]; exact hb), fun _ e => k a H (Same.refl _) (by rw [e, List.append_nil]; exact ha), fun _ _ p np => k p _ (smUpd np) upd_same⟩
theorem foKept {H G : Hp} {p a C : Addr} {S : Addr → Prop} {fo : Fo} (hI : HandIn H p S) (k : Kept p H G) (h : FoAt C H a fo) : FoAt C G a fo := by
  obtain ⟨dx, ap, ab, aa, h0, h1, h2, h3⟩ := h
  refine ⟨dx, ap, ab, aa, k _ _ (fun z => ?_) h0, k _ _ (tup_ne hI h1) h1, k _ _ (tup_ne hI h2) h2, k _ _ (tup_ne hI h3) h3⟩
  obtain ⟨_, _, _, _, _, _, e, _⟩ := hI.ob
  rw [z, e] at h0
  cases h0
theorem pairedTake {α β : Type} {R : α → β → Prop} : ∀ {xs : List α} {ys : List β}, Paired R xs ys → ∀ n, Paired R (xs.take n) (ys.take n)
  | _, _, _, 0 => .nil
  | [], [], .nil, _ + 1 => .nil
  | _ :: _, _ :: _, .cons h t, n + 1 => .cons h (pairedTake t n)
theorem pairedDrop {α β : Type} {R : α → β → Prop} : ∀ {xs : List α} {ys : List β}, Paired R xs ys → ∀ n, Paired R (xs.drop n) (ys.drop n)
  | _, _, h, 0 => h
  | [], [], .nil, _ + 1 => .nil
  | _ :: _, _ :: _, .cons _ t, n + 1 => pairedDrop t n
/-- amounts by places, short ones -/
theorem ex_am4 : ∀ (be : List Nat) (ws : List (List Nat)), be.Nodup → ws.length = be.length → (∀ l ∈ ws, l.length ≤ 4) → ∃ am : Nat → List Nat, (∀ i p : Nat, be[i]? = some p → ws[i]? = some (am p)) ∧ ∀ q, (am q).length ≤ 4
  | [], _, _, _, _ => ⟨fun _ => [], fun i p h => (by cases h), fun _ => Nat.zero_le _⟩
  | b :: be, [], _, hl, _ => by cases hl
  | b :: be, w :: ws, nd, hl, h4 => by
    have nd := List.nodup_cons.mp nd
    obtain ⟨am, h1, h2⟩ := ex_am4 be ws nd.2 (Nat.succ.inj hl) fun l h => h4 l (List.mem_cons_of_mem _ h)
    refine ⟨fun q => if q = b then w else am q, fun i p h => ?_, fun q => ?_⟩
    · cases i with
      | zero =>
        cases h
        show some w = some (if b = b then w else am b)
        rw [if_pos rfl]
      | succ i =>
        have hp : p ∈ be := List.mem_of_getElem? h
        show ws[i]? = some (if p = b then w else am p)
        rw [if_neg (fun z => nd.1 (by rw [← z]; exact hp))]
        exact h1 i p h
    · show (if q = b then w else am q).length ≤ 4
      by_cases c : q = b
      · rw [if_pos c]
        exact h4 w List.mem_cons_self
      · rw [if_neg c]; exact h2 q
/-- a dict out of pairs -/
theorem merge_val {am : Nat → List Nat} : ∀ (ns : List Nat) (kvs : List (L2.Key × V)) (p : Nat), p ∈ ns ∨ valV kvs (.inl (p : Int)) = some (vS (am p)) → valV (mergeK kvs (ns.map fun (q : Nat) => ((.inl (q : Int) : L2.Key), vS (am q)))) (.inl (p : Int)) = some (vS (am p))
  | [], kvs, p, h => by
    rcases h with h | h
    · cases h
    · exact h
  | n :: ns, kvs, p, h => by
    show valV (mergeK (putK kvs (.inl (n : Int)) (vS (am n))) (ns.map fun (q : Nat) => ((.inl (q : Int) : L2.Key), vS (am q)))) _ = _
    refine merge_val ns _ p ?_
    by_cases c : p = n
    · refine .inr ?_
      rw [valV_put, c, if_pos rfl]
    · rcases h with h | h
      · exact .inl ((List.mem_cons.mp h).resolve_left c)
      · refine .inr ?_
        rw [valV_put, if_neg (fun z => c (by injection z with z; omega))]
        exact h
/-- how long an answer may be -/
theorem allA_sz {cs : List (List (List Nat))} (h : ∀ c ∈ cs, ∀ l ∈ c, l.length ≤ 100) {y : List Nat} (hy : some y ∈ allA (fun a b => a ++ b) cs) : y.length ≤ cs.length * 100 := by
  have go : ∀ (cs : List (List (List Nat))) (ws : List (List Nat)) (n : Nat), (∀ c ∈ cs, ∀ l ∈ c, l.length ≤ 100) → (∀ w ∈ ws, w.length ≤ n) → ∀ y ∈ cs.foldl (stepA fun a b => a ++ b) ws, y.length ≤ n + cs.length * 100 := by
    intro cs
    induction cs with
    | nil => intro ws n _ hw y hy; have := hw y hy; show y.length ≤ n + 0 * 100; omega
    | cons c cs ih =>
      intro ws n hc hw y hy
      have := ih (stepA (fun a b => a ++ b) ws c) (n + 100) (fun d hd => hc d (List.mem_cons_of_mem _ hd)) (fun w hw2 => by
        obtain ⟨a, ha, hw2⟩ := List.mem_flatMap.mp hw2
        obtain ⟨b, hb, rfl⟩ := List.mem_map.mp hw2
        have h1 := hw a ha
        have h2 := hc c List.mem_cons_self b hb
        show (a ++ b).length ≤ _
        rw [List.length_append]
        omega) y hy
      rw [List.length_cons, Nat.succ_mul]
      omega
  cases cs with
  | nil =>
    have : some y ∈ [none] := hy
    cases List.mem_singleton.mp this
  | cons c cs =>
    obtain ⟨z, hz, e⟩ := List.mem_map.mp hy
    cases e
    have := go cs c 100 (fun d hd => h d (List.mem_cons_of_mem _ hd)) (h c List.mem_cons_self) y hz
    rw [List.length_cons, Nat.succ_mul]
    omega
theorem hOf_txt {st : Lm (List Nat)} {j k : Nat} {a : An} (h : (hOf st)[j]? = some (.tld k a)) : ∃ o, a = .txt o := by
  unfold hOf at h
  rw [List.getElem?_map] at h
  obtain ⟨e, _, z⟩ := Option.map_eq_some_iff.mp h
  cases e with
  | tld k2 o => cases z; exact ⟨o, rfl⟩
  | chg _ _ _ => cases z
  | ask _ _ => cases z
  | don _ => cases z
theorem litE : (Str.ofString "") = Sg [] := lit0
theorem picked {o1 o2 : Option (List Nat)} {m : Nat} {v : V} (hv : ([vA o2, .non, .str (Str.ofString ""), .str (Str.ofString "a0x"), .int 0, vA o2, .str (Sg (strL o1) ++ Str.ofString "a0x")] : List V)[m]? = some v) : ∃ an, v = vAn an := by
  rcases m with _ | _ | _ | _ | _ | _ | _ | m
  · cases hv; exact ⟨.txt o2, rfl⟩
  · cases hv; exact ⟨.txt none, rfl⟩
  · cases hv; exact ⟨.txt (some []), by rw [litE]; rfl⟩
  · cases hv; exact ⟨.txt (some [97, 48, 120]), by rw [litA0x]; rfl⟩
  · cases hv; exact ⟨.zero, rfl⟩
  · cases hv; exact ⟨.txt o2, rfl⟩
  · cases hv
    refine ⟨.txt (some (strL o1 ++ [97, 48, 120])), ?_⟩
    rw [litA0x, SX.S_cat]
    rfl
  · cases hv
theorem split_at {α : Type} {h : List α} {i : Nat} {e : α} (hi : h[i]? = some e) : h = h.take i ++ [e] ++ h.drop (i + 1) := by
  obtain ⟨hl, he⟩ := List.getElem?_eq_some_iff.mp hi
  have h1 := (List.take_append_drop i h).symm
  rw [List.drop_eq_getElem_cons hl, he] at h1
  rw [List.append_assoc]
  exact h1
theorem bare_bent {h : List Ev} {i k : Nat} {a b : An} (hi : h[i]? = some (.tld k a)) : h.map bare = (h.take i ++ [Ev.tld k b] ++ h.drop (i + 1)).map bare := by
  have e := split_at hi
  have e1 : h.map bare = (h.take i ++ [Ev.tld k a] ++ h.drop (i + 1)).map bare := congrArg (List.map bare) e
  rw [e1]
  simp only [List.map_append]
  rfl
theorem two_of {k : Nat} {a : An} : atI (evV (.tld k a)) (2 : Int) = some (vAn a) := by
  have : atI (evV (.tld k a)) ((2 : Nat) : Int) = some (vAn a) := atI_nat rfl
  exact this
def spLaw (K : PySem.W.Frag) : Sp := fun vs H Q _ => ∃ (a : Addr) (ns : List Int), vs = [.ref a] ∧ SqL K H a (ns.map V.int) ∧ ns.length ≤ 63 ∧ ∀ H', Q (.bl true) H'
section
variable {P : Program} {w : World} {K : PySem.W.Frag} {mg : Str → Option Value} {base : Heap} {C : Addr}
def nLaw : List Str := ["_law_script", "_law_pool_here", "_law_turn", "_law_spec_here", "_law_plan_here", "_law_forest", "_law_given", "_law_at", "_law_amounts", "_law_deeds", "_law_history", "_law_least", "_law_told", "_law_answer", "_law_other", "_law_bent", "_law_due"]
theorem scLaw : FnScope nLaw ["_law_script"] (defScope sLaw) := ⟨rfl, rfl, rfl, by decide +kernel, rfl, by decide +kernel, by decide +kernel⟩
theorem ok_law {f : Addr} {fd : FuncData} (F : Fun K "law" "law" sLaw f fd) (B : Defs K mg C) (ED : EndsD K w mg) : FnOk P w K mg base CX0 8 f fd ["_law_script"] (spLaw K) := by
  obtain ⟨fH, fdH, GH, gH, kH, bH⟩ := dHand (P := P) (w := w) (base := base) B
  obtain ⟨fD, fdD, GD, gD, kD, bD⟩ := dDraw (P := P) (w := w) (base := base) B
  obtain ⟨fS, fdS, GS, gS, kS, bS⟩ := dSpec (P := P) (w := w) (base := base) B
  obtain ⟨fP, fdP, GP, gP, kP, bP⟩ := dDPlan (P := P) (w := w) (base := base) B
  obtain ⟨fM, fdM, GM, gM, kM, bM⟩ := dMade (P := P) (w := w) (base := base) B
  obtain ⟨fI, fdI, GI, gI, kI, bI⟩ := dIs (P := P) (w := w) (base := base) B
  obtain ⟨f1, fd1, G1, g1, k1, b1⟩ := dLWords (P := P) (w := w) (base := base) B
  obtain ⟨fE, fdE, GE, gE, kE, bE⟩ := dLSoDe (P := P) (w := w) (base := base) B
  obtain ⟨fT, fdT, GT, gT, kT, bT⟩ := dLTurns (P := P) (w := w) (base := base) B
  obtain ⟨f4, fd4, G4, g4, k4, b4⟩ := dLFirstW (P := P) (w := w) (base := base) B
  obtain ⟨fK, fdK, GK, gK, kK, bK⟩ := dPick (P := P) (w := w) (base := base) B
  obtain ⟨f3, fd3, G3, g3, k3, b3⟩ := dIsHist (P := P) (w := w) (base := base) B ED
  obtain ⟨f5, fd5, G5, g5, k5, b5⟩ := dWrong (P := P) (w := w) (base := base) B ED
  obtain ⟨fW, fdW, GW, gW, kW, bW⟩ := dWoven (P := P) (w := w) (base := base) dW B
  obtain ⟨gJ, mJ, hAd, hAG⟩ := addGJoin (P := P) (w := w) (base := base) B
  have N := B.N
  have T := B.T
  have mD := B.zDict
  have mS := B.zStr
  have nd := scLaw.nd
  refine F.ok scLaw (fun vs H Q E h => ?_) (fun cdv A outer s H vs Q E hr h => ?_)
  · obtain ⟨a, ns, rfl, _⟩ := h
    rfl
  · obtain ⟨a, ns, rfl, hs, hl, k⟩ := h
    have r1 : Room 1 (A.deeper (envOfC "law" (defScope sLaw) s.heap.objs.size f cdv)) := Room.mono hr (by decide)
    have r2 : Room 2 (A.deeper (envOfC "law" (defScope sLaw) s.heap.objs.size f cdv)) := Room.mono hr (by decide)
    have r3 : Room 3 (A.deeper (envOfC "law" (defScope sLaw) s.heap.objs.size f cdv)) := Room.mono hr (by decide)
    have r5 : Room 5 (A.deeper (envOfC "law" (defScope sLaw) s.heap.objs.size f cdv)) := Room.mono hr (by decide)
    have r6 : Room 6 (A.deeper (envOfC "law" (defScope sLaw) s.heap.objs.size f cdv)) := Room.mono hr (by decide)
    refine ⟨_, pss_cons (ps_set (i := 1) nd rfl (Or.inl rfl) (pe_call GH r1 (by rfl) gH kH bH .nil pass0 (pa_cons (pv 0) pa_nil)))
      (pss_cons (ps_for PassesOwn.never rfl (pi_range1 (by rfl) N.range (pa_cons pe_int pa_nil)) (pg_name (i := 2) nd rfl (Or.inl rfl))
        (pss_cons (ps_set (i := 3) nd rfl (Or.inr rfl) (pe_call GS r3 (by rfl) gS kS bS .nil pass0 (pa_cons (pv 1) (pa_cons pe_int (pa_cons pe_int pa_nil)))))
        (pss_cons (ps_set (i := 4) nd rfl (Or.inl rfl) (pe_call GP r2 (by rfl) gP kP bP .nil pass0 (pa_cons (pv 1) (pa_cons (pe_ix ix_tup (pv 3) pe_int (fun _ _ => rfl)) pa_nil))))
        (pss_cons (ps_set (i := 5) nd rfl (Or.inl rfl) (pe_call GM r6 (by rfl) gM kM bM .nil pass0 (pa_cons (pv 3) pa_nil)))
        (pss_cons (ps_set (i := 6) nd rfl (Or.inr rfl) (pe_call G1 r3 (by rfl) g1 k1 b1 .nil pass0 (pa_cons (pv 1) (pa_cons (pe_ix ix_tup (pv 3) pe_int (fun _ _ => rfl)) pa_nil))))
        (pss_cons (ps_set (i := 8) nd rfl (Or.inl rfl) (pe_callTy (call_dictP rfl) (by rfl) mD (by decide +kernel) (pa_cons (pe_lc (own := [("_law_at", 7)]) (g := gName 7) (tt := tYes) rfl nd (pi_range1 (by rfl) N.range (pa_cons (pe_callB call_len_seq (by rfl) N.is.len PySem.boot_len (pa_cons (pv 6) pa_nil)) pa_nil))
            (blkOk_by (N := nLaw) (sc := defScope sLaw) (by decide +kernel)) (fun _ _ _ _ _ => pg_name (i := 7) nd rfl (Or.inl rfl)) (fun _ _ _ _ _ => pts_nil)
            (fun _ _ _ _ _ => pe_tup (pa_cons (pe_ix (r := rIxT K) ix_tup (pe_ix (r := rIxT K) ix_tup (pv 3) pe_int (fun _ _ => rfl)) (pv 7) (fun _ _ => rfl)) (pa_cons (pe_ix (r := rIxT K) ix_tup (pv 6) (pv 7) (fun _ _ => rfl)) pa_nil)))) pa_nil)))
        (pss_cons (ps_set (i := 9) nd rfl (Or.inl rfl) (pe_call GE r3 (by rfl) gE kE bE .nil pass0 (pa_cons (pv 1) (pa_cons (pv 3) (pa_cons pe_int pa_nil)))))
        (pss_cons (ps_set (i := 10) nd rfl (Or.inr rfl) (pe_call GW hr (by rfl) gW kW bW .nil pass0 (pa_cons (pv 5) (pa_cons (pv 4) (pa_cons (pv 6) (pa_cons (pe_glob (v := .ref gJ) (by rfl) mJ rfl) (pa_cons (pv 9) (pa_cons (pe_call GT r2 (by rfl) gT kT bT .nil pass0 (pa_cons (pv 1) (pa_cons (pe_callB call_len_seq (by rfl) N.is.len PySem.boot_len (pa_cons (pv 9) pa_nil)) (pa_cons pe_int pa_nil)))) pa_nil))))))))
        (pss_cons (ps_set (i := 11) nd rfl (Or.inl rfl) (pe_call GD r1 (by rfl) gD kD bD .nil pass0 (pa_cons (pv 1) (pa_cons (pe_op op_add (pe_callB call_len_seq (by rfl) N.is.len PySem.boot_len (pa_cons (pv 10) pa_nil)) pe_int) pa_nil))))
        (pss_cons (ps_if (PW.pt (pw_or (pt_cmpR op_isnot_bl (pe_call G3 r5 (by rfl) g3 k3 b3 .nil pass0 (pa_cons (pv 5) (pa_cons (pv 10) pa_nil))) pe_bl (nomark _)) (pw_or1 (pt_cmpR op_isnot_bl (pe_call G3 r5 (by rfl) g3 k3 b3 .nil pass0 (pa_cons (pv 5) (pa_cons (pe_callTy call_list_of (by rfl) N.is.lst (by decide +kernel) (pa_cons (pe_slice sl_tupA (pv 10) po_none (po_some (pv 11))) pa_nil)) pa_nil))) pe_bl (nomark _))))) (pss_one ps_never) pss_nil)
        (pss_cons (ps_if (pt_cmpR op_eq (pe_call G4 r3 (by rfl) g4 k4 b4 .nil pass0 (pa_cons (pv 3) (pa_cons (pv 8) (pa_cons (pe_glob (v := .ref gJ) (by rfl) mJ rfl) (pa_cons (pv 10) (pa_cons pe_int pa_nil)))))) pe_str (nomark _)) (pss_one (ps_ret pe_bl)) pss_nil)
        (pss_cons (ps_if (pt_cmpR op_notN (pe_call G4 r3 (by rfl) g4 k4 b4 .nil pass0 (pa_cons (pv 3) (pa_cons (pv 8) (pa_cons (pe_glob (v := .ref gJ) (by rfl) mJ rfl) (pa_cons (pv 10) (pa_cons pe_int pa_nil)))))) pe_non (nomark _)) (pss_one ps_never) pss_nil)
        (pss_cons (ps_if (pt_cmpR op_notN (pe_call G5 r6 (by rfl) g5 k5 b5 .nil pass0 (pa_cons (pv 5) (pa_cons (pv 6) (pa_cons (pe_glob (v := .ref gJ) (by rfl) mJ rfl) (pa_cons (pv 10) pa_nil))))) pe_non (nomark _)) (pss_one ps_never) pss_nil)
        (pss_cons (ps_if (pt_cmpR op_notN (pe_call G5 r6 (by rfl) g5 k5 b5 .nil pass0 (pa_cons (pv 5) (pa_cons (pv 6) (pa_cons (pe_glob (v := .ref gJ) (by rfl) mJ rfl) (pa_cons (pe_callTy call_list_of (by rfl) N.is.lst (by decide +kernel) (pa_cons (pe_slice sl_tupA (pv 10) po_none (po_some (pv 11))) pa_nil)) pa_nil))))) pe_non (nomark _)) (pss_one ps_never) pss_nil)
        (pss_cons (ps_setLc (i := 12) (own := [("_law_at", 7)]) (g := gName 7) rfl nd rfl rfl (sw_true rfl rfl rfl (by decide +kernel)) (pi_range1 (by rfl) N.range (pa_cons (pe_callB call_len_seq (by rfl) N.is.len PySem.boot_len (pa_cons (pv 10) pa_nil)) pa_nil))
          (blkOk_by (N := nLaw) (sc := defScope sLaw) (by decide +kernel)) (fun _ _ _ _ _ => pg_name (i := 7) nd rfl (Or.inl rfl)) (fun _ _ _ _ _ => pts_one (pt_cmpR op_eq (pe_ix (r := rIxT K) ix_tup (pe_ix (r := rIxT K) ix_tup (pv 10) (pv 7) (fun _ _ => rfl)) pe_int (fun _ _ => rfl)) pe_str (nomark _))) (fun _ _ _ _ _ => pv 7))
        (pss_one (ps_for PassesOwn.never rfl (pi_list (pe_slice sl_list (pv 12) po_none (po_some pe_int))) (pg_name (i := 7) nd rfl (Or.inl rfl))
            (pss_cons (ps_set (i := 13) nd rfl (Or.inl rfl) (pe_ix ix_tup (pe_ix ix_tup (pv 10) (pe_call GK r2 (by rfl) gK kK bK .nil pass0 (pa_cons (pv 1) (pa_cons (pv 12) pa_nil))) (fun _ _ => rfl)) pe_int (fun _ _ => rfl)))
            (psMid (ps_set (i := 14) nd rfl (Or.inl rfl) (pe_call GK r2 (by rfl) gK kK bK .nil pass0 (pa_cons (pv 1) (pa_cons (pe_lst (pa_cons (pv 13) (pa_cons pe_non (pa_cons pe_str (pa_cons pe_str (pa_cons pe_int (pa_cons (pv 13) (pa_cons (pe_op op_add_str (pe_callTy call_str_vA (by rfl) mS (by decide +kernel) (pa_cons (pe_ix ix_tup (pe_ix ix_tup (pv 10) (pv 7) (fun _ _ => rfl)) pe_int (fun _ _ => rfl)) pa_nil)) pe_str) pa_nil)))))))) pa_nil))))
            (psMid (ps_set (i := 15) nd rfl (Or.inl rfl) (pe_op op_catA (pe_op op_catA (pe_slice sl_tupA (pv 10) po_none (po_some (pv 7))) (pe_tup (pa_cons (pe_op op_catA (pe_slice sl_tupA (pe_ix ix_tup (pv 10) (pv 7) (fun _ _ => rfl)) po_none (po_some pe_int)) (pe_tup (pa_cons (pv 14) pa_nil))) pa_nil))) (pe_slice sl_tupA (pv 10) (po_some (pe_op op_add (pv 7) pe_int)) po_none)))
            (psMid (ps_set (i := 16) nd rfl (Or.inl rfl) (pe_call G4 r3 (by rfl) g4 k4 b4 .nil pass0 (pa_cons (pv 3) (pa_cons (pv 8) (pa_cons (pe_glob (v := .ref gJ) (by rfl) mJ rfl) (pa_cons (pv 15) (pa_cons pe_int pa_nil)))))))
            (pss_one (ps_if (pt_not (pt_val (pe_call GI r6 (by rfl) gI kI bI .nil pass0 (pa_cons (pe_call G5 r6 (by rfl) g5 k5 b5 .nil pass0 (pa_cons (pv 5) (pa_cons (pv 6) (pa_cons (pe_glob (v := .ref gJ) (by rfl) mJ rfl) (pa_cons (pv 15) pa_nil))))) (pa_cons (pv 16) pa_nil))))) (pss_one ps_never) pss_nil)))))))))))))))))))))))
      (pss_one (ps_ret pe_bl))), ?_⟩
    refine ⟨_, rfl, a, ns, rfl, hs, hl, fun H1 p s1 np hI1 => ⟨2, rfl, by decide, by decide, ?_⟩⟩
    refine for_range (lo := 0) (n := 2) (fun _ σ G => HandIn G p (fun x => H x ≠ none) ∧ ∃ t2 t3 t4 t5 t6 t7 t8 t9 t10 t11 t12 t13 t14 t15 t16 : Option V, σ = [some (.ref a), some (.ref p), t2, t3, t4, t5, t6, t7, t8, t9, t10, t11, t12, t13, t14, t15, t16]) ⟨hI1, _, _, _, _, _, _, _, _, _, _, _, _, _, _, _, rfl⟩ ?_ ?_
    · rintro j σ J0 hj ⟨hI0, t2, t3, t4, t5, t6, t7, t8, t9, t10, t11, t12, t13, t14, t15, t16, rfl⟩
      refine ⟨_, rfl, p, _, 1, 6, rfl, hI0, by decide, by decide, by decide, fun r fo J1 ok hf1 hf6 hI1 k1 hT1 => ?_⟩
      have bl60 := lotLen ok.be ok.bl
      have p60 := ok.l1
      have ndB : fo.be.Nodup := ok.be.imp fun h => Nat.ne_of_lt h
      obtain ⟨ap0, ab0, aa0, u0, u1, u2, u3⟩ := id hT1
      -- the plan
      refine ⟨_, rfl, _, rfl, r, _, (0 : Int), _, rfl, rfl, .inl (.inl u0), rfl, p, _, ap0, fo.ps, rfl, hI1, u1, ok.ps, by omega, fun pl lv J2 hv hI2 k2 hL2 => ?_⟩
      have hT2 := tolKeptP hI1 k2 hT1
      -- the forest
      refine ⟨_, rfl, r, fo, rfl, hT2, ok, fun x J3 s3 hF3 => ?_⟩
      have hI3 := handIn_keep hI2 s3
      have hT3 := tolSame s3 hT2
      have hL3 : TN J3 pl lv := s3 _ _ hL2
      -- the amounts
      obtain ⟨ap3, ab3, aa3, v0, v1, v2, v3⟩ := id hT3
      refine ⟨_, rfl, _, rfl, r, _, (1 : Int), _, rfl, rfl, .inl (.inl v0), rfl, p, _, ab3, fo.be, rfl, hI3, v2, fun n hn => by have := ok.bl n hn; omega, by omega, fun m ws J4 hI4 k4 hwl hw4 hm4 => ?_⟩
      obtain ⟨am, ham, ha4⟩ := ex_am4 fo.be ws ndB hwl hw4
      have ha100 : ∀ q, (am q).length ≤ 100 := fun q => by have := ha4 q; omega
      have hT4 := tolKeptP hI3 k4 hT3
      have hF4 := foKept hI3 k4 hF3
      have hL4 : TN J4 pl lv := k4 _ _ (tup_ne hI3 hL3) hL3
      obtain ⟨ap, ab, aa, o0, o1, o2, o3⟩ := id hT4
      refine ⟨_, rfl, m, _, rfl, .inr (.inl (.inl hm4)), ((ws.map vS).length : Int), rfl, by rw [List.length_map]; omega, by rw [List.length_map]; omega, fun D nD => ?_⟩
      rw [Int.toNat_natCast, List.length_map]
      refine lc_range (lo := 0) (n := ws.length) (fun i G => Same J4 G ∧ ∃ ps : List Addr, G D = some (.lst (ps.map V.ref)) ∧ Paired (fun q kv => G q = some (.tup [kV kv.1, kv.2])) ps ((fo.be.take i).map fun (q : Nat) => ((.inl (q : Int) : L2.Key), vS (am q)))) ⟨smUpd nD, [], upd_same, .nil⟩ ?_ ?_
      · rintro i G hi ⟨sm, ps, hD, hP⟩
        rw [show (0 : Int) + (i : Int) = (i : Int) from Int.zero_add _]
        have hq : fo.be[i]? = some (fo.be[i]'(by omega)) := List.getElem?_eq_getElem (by omega)
        generalize fo.be[i]'(by omega) = q at hq
        have hw := ham i q hq
        refine ⟨rfl, _, rfl, r, _, (1 : Int), _, rfl, rfl, .inl (.inl (sm _ _ o0)), rfl, _, rfl, ab, _, (i : Int), _, rfl, rfl, tnL (sm _ _ o2), vn_ix hq, _, rfl, _, rfl, m, _, (i : Int), _, rfl, rfl, .inl (.inl (sm _ _ hm4)), atI_nat (by rw [List.getElem?_map, hw]; rfl), by show 2 ≤ sizeLine; decide, fun T nT => ?_⟩
        have sT := smUpd (o := .tup [vn q, vS (am q)]) nT
        have hTT : upd G T (.tup [vn q, vS (am q)]) T = some (.tup [vn q, vS (am q)]) := upd_same
        have hD2 := sT _ _ hD
        have lp := Paired.length hP
        rw [List.length_map, List.length_take] at lp
        refine ⟨_, hD2, small1000 (by rw [List.length_map]; omega), smOver nD (sm.trans sT), ps ++ [T], by rw [upd_same, List.map_append]; rfl, ?_⟩
        rw [List.take_add_one, hq, List.map_append]
        refine paired_snoc (Paired.mapP hP fun q kv z => ?_) ?_
        · rw [upd_ne (fun y => by rw [y, hD] at z; cases z)]
          exact sT _ _ z
        · rw [upd_ne (fun y => by rw [y, hD] at nT; cases nT)]
          exact hTT
      rintro G ⟨smG, ps, hD, hP⟩
      rw [hwl, List.take_length] at hP
      refine ⟨D, ps, _, rfl, .inl (.inl hD), Paired.mapP hP fun _ _ z => .inl (.inl z), fun dA nA => ?_⟩
      have sA := smUpd (o := .dK (mergeK [] (fo.be.map fun (q : Nat) => ((.inl (q : Int) : L2.Key), vS (am q))))) nA
      have hA0 : AmD (upd G dA (.dK (mergeK [] (fo.be.map fun (q : Nat) => ((.inl (q : Int) : L2.Key), vS (am q)))))) dA fo am := ⟨_, upd_same, fun q hq => merge_val fo.be [] q (.inl hq)⟩
      generalize upd G dA (.dK (mergeK [] (fo.be.map fun (q : Nat) => ((.inl (q : Int) : L2.Key), vS (am q))))) = J5 at sA hA0 ⊢
      have s45 := smG.trans sA
      have hI5 := handIn_keep hI4 s45
      have hT5 := tolSame s45 hT4
      have hF5 := foAt_same s45 hF4
      have hL5 : TN J5 pl lv := s45 _ _ hL4
      have hm5 := s45 _ _ hm4
      -- the deeds
      refine ⟨_, rfl, _, rfl, p, _, r, fo, 10, rfl, hI5, hT5, ok, by decide, fun dd us ds J6 hI6 k6 ndd hdd hP6 h6 hdl => ?_⟩
      have ddp := hand_ne hI5 ndd
      have usl := Paired.length hP6
      have hF6 := foKept hI5 k6 hF5
      have hT6 := tolKeptP hI5 k6 hT5
      have hL6 : TN J6 pl lv := k6 _ _ (tup_ne hI5 hL5) hL5
      have hm6 := k6 _ _ (tup_ne hI5 hm5) hm5
      have hA6 := amdKept hI5 k6 hA0
      -- the turns
      refine ⟨_, rfl, _, rfl, _, rfl, _, rfl, _, rfl, _, rfl, dd, _, rfl, .inl (.inl (.inl hdd)), p, _, us.length, 60, rfl, hI6, by omega, by decide, fun tt ts J7 hI7 k7 ntt htt hkt htl => ?_⟩
      have hF7 := foKept hI6 k7 hF6
      have hT7 := tolKeptP hI6 k7 hT6
      have hL7 : TN J7 pl lv := k7 _ _ (tup_ne hI6 hL6) hL6
      have hm7 := k7 _ _ (tup_ne hI6 hm6) hm6
      have hA7 := amdKept hI6 k7 hA6
      have hdd7 := k7 _ _ ddp hdd
      have hP7 : Paired (DeedAt dW J7) us ds := Paired.mapP hP6 fun _ _ z => deedKeep (fun t xs e => k7 _ _ (tup_ne hI6 e) e) z
      -- woven
      refine ⟨x, pl, m, gJ, dd, tt, fo, lv, ws.map vS, us, ds, ts, am, _, 6, rfl, hF7, ok, hL7, hv, hm7, by rw [List.length_map]; exact hwl, fun i q hq => ⟨_, by rw [List.getElem?_map, ham i q hq]; rfl, rfl⟩, hAG, .inl hdd7, hP7, fun d hd => ?_, by omega, fun q => by have := ha4 q; show (am q).length ≤ 6; omega, fun q a hq => (h6 _ hq).2, by decide, .inl htt, fun k hk => by have := hkt k hk; omega, by omega, fun b rs J8 s8 hb8 hE8 => ?_⟩
      · have := h6 d hd
        cases d with
        | chg q a => exact this.1
        | ask q => exact this
      have W := woven_good (lv := lv) (am := am) (ts := ts) ok ha100 h6
      have hE8 := evsT hE8
      have hlen := weave_ev (ad := fun a b => a ++ b) (nt := heldNotes fo.ps fo.be fo.as lv fo.ps.length) (ds := ds) ts (st := lm0 (fun a b => a ++ b) (heldNotes fo.ps fo.be fo.as lv fo.ps.length) am)
      have e0 : (lm0 (fun a b => a ++ b) (heldNotes fo.ps fo.be fo.as lv fo.ps.length) am).ev.length = 0 := rfl
      generalize weaveL (fun a b => a ++ b) (heldNotes fo.ps fo.be fo.as lv fo.ps.length) ds (lm0 (fun a b => a ++ b) (heldNotes fo.ps fo.be fo.as lv fo.ps.length) am) ts = st at W hE8 hlen
      have hE8 : EvsAt J8 rs (hOf st) := hE8
      have hlen : (hOf st).length ≤ 120 := by
        show (st.ev.map toEv).length ≤ 120
        rw [List.length_map]
        omega
      have htxt : ∀ {j k : Nat} {a : An}, (hOf st)[j]? = some (.tld k a) → ∃ o, a = .txt o := fun z => hOf_txt z
      have hh := W.hist
      have sh := W.short
      have gd := W.good
      generalize hOf st = h at hh sh gd hE8 hlen htxt
      have rsl := Paired.length hE8
      have hI8 := handIn_keep hI7 s8
      have hF8 := foAt_same s8 hF7
      have hT8 := tolSame s8 hT7
      have hm8 := s8 _ _ hm7
      have hA8 : AmD J8 dA fo am := by
        obtain ⟨kvs, z1, z2⟩ := hA7
        exact ⟨kvs, s8 _ _ z1, z2⟩
      -- the least
      refine ⟨_, rfl, _, rfl, b, _, rfl, .inr (.inl (.inl hb8)), _, _, rfl, rfl, p, _, (rs.length : Int) + 1, rfl, hI8, by omega, by omega, fun d J9 d0 d1 hI9 k9 => ?_⟩
      obtain ⟨n, rfl⟩ := Int.eq_ofNat_of_zero_le d0
      have hn : n ≤ h.length := by omega
      have hF9 := foKept hI8 k9 hF8
      have hT9 := tolKeptP hI8 k9 hT8
      have hm9 := k9 _ _ (tup_ne hI8 hm8) hm8
      have hA9 := amdKept hI8 k9 hA8
      have hb9 := k9 _ _ (tup_ne hI8 hb8) hb8
      have hE9 : EvsAt J9 rs h := Paired.mapP hE8 fun _ _ z => evKept hI8 k9 z
      refine ⟨_, rfl, _, rfl, x, b, fo, rs, h, rfl, hF9, .inr hb9, hE9, hh, by omega, fun J10 s10 => ⟨true, true, rfl, rfl, _, rfl, ?_⟩⟩
      refine ifF (by decide) ?_
      -- the beginning, as a list
      refine ⟨_, rfl, _, rfl, _, rfl, _, rfl, ?_⟩
      refine slE (s10 _ _ hb9) fun b1 J11 s11 hb1 => ?_
      rw [cutTake] at hb1
      refine ⟨b1, rs.take n, rfl, .inr (.inl (.inl hb1)), fun L nL => ?_⟩
      have s12 := s10.trans (s11.trans (smUpd (o := .lst (rs.take n)) nL))
      have hL12 : upd J11 L (.lst (rs.take n)) L = some (.lst (rs.take n)) := upd_same
      generalize upd J11 L (.lst (rs.take n)) = J12 at s12 hL12 ⊢
      have hEt : ∀ {J : Hp}, Same J9 J → EvsAt J (rs.take n) (h.take n) := fun s => pairedTake (evsSame s hE9) n
      have hlt : (h.take n).length ≤ 200 := by rw [List.length_take]; omega
      refine ⟨x, L, fo, rs.take n, h.take n, rfl, foAt_same s12 hF9, .inl hL12, hEt s12, hist_take hh n, hlt, fun J13 s13 => ⟨true, true, rfl, rfl, _, rfl, ?_⟩⟩
      refine ifF (by decide) ?_
      have s913 := s12.trans s13
      have amS : ∀ {J : Hp}, Same J9 J → AmD J dA fo am := fun s => by
        obtain ⟨kvs, z1, z2⟩ := hA9
        exact ⟨kvs, s _ _ z1, z2⟩
      -- the first wrong one
      refine ⟨_, rfl, _, rfl, _, rfl, r, dA, gJ, b, 2000, fo, am, _, rs, h, rfl, tolSame s913 hT9, ok, amS s913, hAd, .inr (s913 _ _ hb9), evsSame s913 hE9, by omega, hh, sh, by decide, fun v J14 s14 out => ?_⟩
      have s914 := s913.trans s14
      rcases out with ⟨res, hj, rfl⟩ | ⟨rfl, _⟩
      case inr =>
        refine ⟨rfl, _, rfl, ?_⟩
        refine ifT (by show decide (V.str (Str.ofString "many") = V.str (Str.ofString "many")) = true; decide +kernel) ?_
        exact k _
      have er := judged_good gd hj
      subst er
      have hgood : ∀ j, Good fo am (fun a b => a ++ b) h 2000 j := hj
      refine ⟨rfl, _, rfl, ?_⟩
      refine ifF (by rw [decide_eq_true_iff]; intro z; cases z) ?_
      refine ⟨_, rfl, _, rfl, _, rfl, r, dA, gJ, b, 2000, fo, am, _, rs, h, rfl, tolSame s914 hT9, ok, amS s914, hAd, .inr (s914 _ _ hb9), evsSame s914 hE9, by omega, hh, sh, by decide, fun v J15 s15 out => ?_⟩
      have s915 := s914.trans s15
      have ev : v = V.non := by
        rcases out with ⟨res, hj, rfl⟩ | ⟨_, z⟩
        · rw [judged_good gd hj]; rfl
        · exact absurd z (no_many rfl hgood)
      subst ev
      refine ⟨rfl, _, rfl, ?_⟩
      refine ifF (by decide) ?_
      refine ⟨_, rfl, _, rfl, _, rfl, x, m, gJ, b, fo, ws, am, _, rs, h, none, 2000, rfl, foAt_same s915 hF9, ok, s915 _ _ hm9, hwl, ham, hAd, .inr (s915 _ _ hb9), evsSame s915 hE9, by omega, hh, sh, by decide, hgood, fun J16 s16 => ?_⟩
      have s916 := s915.trans s16
      refine ⟨rfl, _, rfl, ?_⟩
      refine ifF (by decide) ?_
      refine ⟨_, rfl, _, rfl, _, rfl, _, rfl, _, rfl, ?_⟩
      refine slE (s916 _ _ hb9) fun b2 J17 s17 hb2 => ?_
      rw [cutTake] at hb2
      refine ⟨b2, rs.take n, rfl, .inr (.inl (.inl hb2)), fun L2 nL2 => ?_⟩
      have s918 := s916.trans (s17.trans (smUpd (o := .lst (rs.take n)) nL2))
      have hL18 : upd J17 L2 (.lst (rs.take n)) L2 = some (.lst (rs.take n)) := upd_same
      generalize upd J17 L2 (.lst (rs.take n)) = J18 at s918 hL18 ⊢
      refine ⟨x, m, gJ, L2, fo, ws, am, _, rs.take n, h.take n, none, 2000, rfl, foAt_same s918 hF9, ok, s918 _ _ hm9, hwl, ham, hAd, .inl hL18, hEt s918, hlt, hist_take hh n, short_take sh n, by decide, good_take hh hgood hn, fun J19 s19 => ?_⟩
      have s919 := s918.trans s19
      refine ⟨rfl, _, rfl, ?_⟩
      refine ifF (by decide) ?_
      -- where answers are told
      refine ⟨_, rfl, b, _, rfl, .inr (.inl (.inl (s919 _ _ hb9))), (rs.length : Int), rfl, by omega, by omega, fun D2 nD2 => ?_⟩
      rw [Int.toNat_natCast]
      refine lc_range (lo := 0) (n := rs.length) (fun i G => Same J19 G ∧ ∃ tl : List Nat, G D2 = some (.lst (tl.map vn)) ∧ tl.length ≤ i ∧ ∀ t ∈ tl, ∃ k a, h[t]? = some (.tld k a)) ⟨smUpd nD2, [], upd_same, Nat.le_refl _, fun t ht => nomatch ht⟩ ?_ ?_
      · rintro i G hi ⟨sm, tl, hD, hll, htl⟩
        rw [show (0 : Int) + (i : Int) = (i : Int) from Int.zero_add _]
        have hr : rs[i]? = some (rs[i]'hi) := List.getElem?_eq_getElem hi
        obtain ⟨e, he, t, ht1, ht2⟩ := pairedGetQ hE9 hr
        rw [ht1] at hr
        have ht3 := sm _ _ (s919 _ _ ht2)
        have wd : atI (evV e) (0 : Int) = some (.str e.word) := at0' (by cases e <;> rfl)
        refine ⟨rfl, _, rfl, _, rfl, b, _, (i : Int), _, rfl, rfl, .inl (.inl (sm _ _ (s919 _ _ hb9))), atI_nat hr, t, _, (0 : Int), _, rfl, rfl, .inl (.inl ht3), wd, rfl, _, rfl, ?_⟩
        have stay : Same J19 G ∧ ∃ tl : List Nat, G D2 = some (.lst (tl.map vn)) ∧ tl.length ≤ i + 1 ∧ ∀ t ∈ tl, ∃ k a, h[t]? = some (.tld k a) := ⟨sm, tl, hD, Nat.le_succ_of_le hll, htl⟩
        cases e with
        | chg k2 q w =>
          refine ifF (by show ¬ decide (V.str (Str.ofString "change") = V.str (Str.ofString "told")) = true; decide +kernel) ?_
          exact stay
        | ask k2 q =>
          refine ifF (by show ¬ decide (V.str (Str.ofString "ask") = V.str (Str.ofString "told")) = true; decide +kernel) ?_
          exact stay
        | don k2 =>
          refine ifF (by show ¬ decide (V.str (Str.ofString "done") = V.str (Str.ofString "told")) = true; decide +kernel) ?_
          exact stay
        | tld k2 an =>
          refine ifT (by show decide (V.str (Str.ofString "told") = V.str (Str.ofString "told")) = true; decide +kernel) ?_
          refine ⟨_, rfl, _, hD, small1000 (by rw [List.length_map]; omega), smOver nD2 sm, tl ++ [i], by rw [upd_same, List.map_append]; rfl, by rw [List.length_append]; show tl.length + 1 ≤ i + 1; omega, fun t ht => ?_⟩
          rcases List.mem_append.mp ht with ht | ht
          · exact htl t ht
          · rw [List.mem_singleton.mp ht]; exact ⟨k2, an, he⟩
      rintro G ⟨smG, tl, hD2, hll, htl⟩
      have s9G := s919.trans smG
      have hIG := handIn_keep hI9 s9G
      have nD9 : J9 D2 = none := nBack s919 nD2
      have D2p := hand_ne hI9 nD9
      refine ⟨_, rfl, 3, rfl, D2, _, rfl, .inl (.inl hD2), fun q nq => ?_⟩
      rw [show (some (3 : Int)) = some ((3 : Nat) : Int) from rfl, cutTake]
      have hq : upd G q (.lst ((tl.map vn).take 3)) q = some (.lst ((tl.take 3).map vn)) := by rw [upd_same, List.map_take]
      have sq := smUpd (o := .lst ((tl.map vn).take 3)) nq
      have qp := hand_ne hIG nq
      generalize upd G q (.lst ((tl.map vn).take 3)) = JB at hq sq ⊢
      have s9B := s9G.trans sq
      have hIB := handIn_keep hI9 s9B
      have hFB := foAt_same s9B hF9
      have hTB := tolSame s9B hT9
      have hmB := s9B _ _ hm9
      have hAB := amS s9B
      have hbB := s9B _ _ hb9
      have hEB := evsSame s9B hE9
      have hDB := sq _ _ hD2
      have evAt : ∀ {j : Nat} {e : Ev}, h[j]? = some e → ∃ t, rs[j]? = some (.ref t) ∧ JB t = some (.tup (evV e)) := fun {j e} hj => by
        have hr : rs[j]? = some (rs[j]'(by rw [rsl]; exact (List.getElem?_eq_some_iff.mp hj).1)) := List.getElem?_eq_getElem _
        obtain ⟨e2, he2, t, ht1, ht2⟩ := pairedGetQ hEB hr
        rw [hj] at he2
        cases he2
        exact ⟨t, by rw [hr, ht1], ht2⟩
      refine ⟨q, rfl, ⟨_, .inl (.inl hq)⟩, ?_⟩
      refine for_it (walk_list (xs := (tl.take 3).map vn)) (fun i σ G => HandIn G p (fun x => H x ≠ none) ∧ Kept p JB G ∧ ∃ t7 t13 t14 t15 t16 : Option V, σ = [some (.ref a), some (.ref p), some (.int (0 + ((j : Nat) : Int))), some (.ref r), some (.ref pl), some (.ref x), some (.ref m), t7, some (.ref dA), some (.ref dd), some (.ref b), some (vn n), some (.ref D2), t13, t14, t15, t16]) ⟨hIB, kept_same (Same.refl _), _, _, _, _, _, rfl⟩ (fun i σ G _ z => .inl (.inl (z.2.1 _ _ qp hq))) ?_ ?_
      · rintro i v σ G G2 hi ⟨hG, kG, t7, t13, t14, t15, t16, rfl⟩ ⟨rfl, hv⟩
        obtain ⟨at_, hat, rfl⟩ := vn_get hv
        have atm : at_ ∈ tl := List.mem_of_mem_take (List.mem_of_getElem? hat)
        obtain ⟨ky, a1, hta⟩ := htl at_ atm
        obtain ⟨o1, rfl⟩ := htxt hta
        have o1l : (strL o1).length ≤ 6004 := by
          obtain ⟨bg, pq, hbi, hbg, hpa⟩ := told_ask hh hta
          obtain ⟨c1, c2⟩ := chosen_ok (am := am) hh sh ok (ok.al pq hpa) (Nat.le_of_lt hbi) (Nat.le_of_lt (List.getElem?_eq_some_iff.mp hta).1)
          cases o1 with
          | none => show 4 ≤ 6004; decide
          | some l =>
            have h1 := gd at_ ky bg pq _ ⟨hta, hbg⟩
            obtain ⟨o, ho, e⟩ := List.mem_map.mp h1
            cases e
            have := allA_sz (fun c hc => (c2 c hc).2) ho
            show l.length ≤ 6004
            omega
        refine ⟨_, rfl, _, rfl, _, rfl, p, _, D2, tl.map vn, rfl, hG, D2p, .inl (kG _ _ D2p hDB), by rw [List.length_map]; exact List.length_pos_of_mem atm, by rw [List.length_map]; omega, fun i2 v2 G1 hv2 hG1 k1 => ?_⟩
        obtain ⟨j2, hj2, rfl⟩ := vn_get hv2
        obtain ⟨k2, a2, ht2⟩ := htl j2 (List.mem_of_getElem? hj2)
        obtain ⟨o2, rfl⟩ := htxt ht2
        obtain ⟨te2, hr2, hte2⟩ := evAt ht2
        obtain ⟨te1, hr1, hte1⟩ := evAt hta
        have kB1 := kept_trans kG k1
        have tB : ∀ {J : Hp} {t : Addr} {xs : List V}, Kept p JB J → JB t = some (.tup xs) → J t = some (.tup xs) := fun kk z => kk _ _ (tup_ne hIB z) z
        refine ⟨b, _, (j2 : Int), _, rfl, rfl, .inl (.inl (tB kB1 hbB)), atI_nat hr2, te2, _, (2 : Int), _, rfl, rfl, .inl (.inl (tB kB1 hte2)), two_of, ?_⟩
        -- another answer
        refine ⟨fun σ J => ∃ (an : An), σ = [some (.ref a), some (.ref p), some (.int (0 + ((j : Nat) : Int))), some (.ref r), some (.ref pl), some (.ref x), some (.ref m), some (vn at_), some (.ref dA), some (.ref dd), some (.ref b), some (vn n), some (.ref D2), some (vAn (.txt o2)), some (vAn an), t15, t16] ∧ HandIn J p (fun x => H x ≠ none) ∧ Kept p JB J, ?_, ?_⟩
        · refine ⟨_, rfl, _, rfl, _, rfl, _, rfl, _, rfl, b, _, (at_ : Int), _, rfl, rfl, .inl (.inl (tB kB1 hbB)), atI_nat hr1, te1, _, (2 : Int), _, rfl, rfl, .inl (.inl (tB kB1 hte1)), two_of, o1, rfl, ?_⟩
          refine ⟨_, _, rfl, rfl, by show (Sg (strL o1)).length + (Str.ofString "a0x").length ≤ _; rw [litA0x, sg_len, sg_len]; show _ + 3 ≤ 16777216; omega, ?_⟩
          refine ⟨by show 7 ≤ sizeLine; decide, fun L nL => ?_⟩
          have sL := smUpd (o := .lst [vA o2, .non, .str (Str.ofString ""), .str (Str.ofString "a0x"), .int 0, vA o2, .str (Sg (strL o1) ++ Str.ofString "a0x")]) nL
          refine ⟨p, _, L, [vA o2, .non, .str (Str.ofString ""), .str (Str.ofString "a0x"), .int 0, vA o2, .str (Sg (strL o1) ++ Str.ofString "a0x")], rfl, handIn_keep hG1 sL, hand_ne hG1 nL, .inl upd_same, by show 0 < 7; decide, by show 7 ≤ 1000000; decide, fun mm v J hv hJ kJ => ?_⟩
          obtain ⟨an, rfl⟩ := picked hv
          exact ⟨an, rfl, hJ, kept_trans kB1 (kept_trans (kept_same sL) kJ)⟩
        rintro σ G3 ⟨an, rfl, hG3, kB3⟩
        -- bent
        refine ⟨fun σ J => ∃ (c te : Addr), σ = [some (.ref a), some (.ref p), some (.int (0 + ((j : Nat) : Int))), some (.ref r), some (.ref pl), some (.ref x), some (.ref m), some (vn at_), some (.ref dA), some (.ref dd), some (.ref b), some (vn n), some (.ref D2), some (vAn (.txt o2)), some (vAn an), some (.ref c), t16] ∧ HandIn J p (fun x => H x ≠ none) ∧ Kept p JB J ∧ J c = some (.tup (rs.take at_ ++ [.ref te] ++ rs.drop (at_ + 1))) ∧ J te = some (.tup (evV (.tld ky an))), ?_, ?_⟩
        · have hat' := (List.getElem?_eq_some_iff.mp hta).1
          refine ⟨_, rfl, _, rfl, _, rfl, ?_⟩
          refine slE (tB kB3 hbB) fun c1 K1 z1 hc1 => ?_
          rw [cutTake] at hc1
          refine ⟨_, rfl, _, rfl, b, _, (at_ : Int), _, rfl, rfl, .inl (.inl (z1 _ _ (tB kB3 hbB))), atI_nat hr1, 2, rfl, ?_⟩
          refine slE (z1 _ _ (tB kB3 hte1)) fun c2 K2 z2 hc2 => ?_
          rw [show (some (2 : Int)) = some ((2 : Nat) : Int) from rfl, cutTake] at hc2
          have hc2 : K2 c2 = some (.tup [.str "told", vn ky]) := hc2
          refine ⟨_, rfl, by show 1 ≤ sizeLine; decide, fun T1 n1 => ?_⟩
          have z3 := smUpd (o := .tup [vAn an]) n1
          refine catE (z3 _ _ hc2) upd_same (by show 2 + 1 ≤ 1000; decide) fun c3 K3 z4 hc3 => ?_
          refine ⟨by show 1 ≤ sizeLine; decide, fun T2 n2 => ?_⟩
          have z5 := smUpd (o := .tup [.ref c3]) n2
          have z15 := z2.trans (z3.trans (z4.trans z5))
          refine catE (z15 _ _ hc1) upd_same (by rw [List.length_take]; show _ + 1 ≤ 1000; omega) fun c4 K4 z6 hc4 => ?_
          have zB := z1.trans (z15.trans z6)
          refine ⟨_, rfl, _, rfl, _, _, rfl, rfl, _, rfl, ?_⟩
          refine slEN (zB _ _ (tB kB3 hbB)) fun c5 K5 z7 hc5 => ?_
          rw [show (some ((at_ : Int) + 1)) = some ((at_ + 1 : Nat) : Int) from rfl, cutDrop] at hc5
          refine catE (z7 _ _ hc4) hc5 (by rw [List.length_append, List.length_take, List.length_drop]; show _ + 1 + _ ≤ 1000; omega) fun c6 K6 z8 hc6 => ?_
          have zE := zB.trans (z7.trans z8)
          exact ⟨c6, c3, rfl, handIn_keep hG3 zE, kept_trans kB3 (kept_same zE), hc6, z8 _ _ (z7 _ _ (z6 _ _ (z5 _ _ hc3)))⟩
        rintro σ G4 ⟨c, te, rfl, hG4, kB4, hc, hte⟩
        have bb : h.map bare = (h.take at_ ++ [Ev.tld ky an] ++ h.drop (at_ + 1)).map bare := bare_bent hta
        have hE4 : EvsAt G4 (rs.take at_ ++ [.ref te] ++ rs.drop (at_ + 1)) (h.take at_ ++ [Ev.tld ky an] ++ h.drop (at_ + 1)) := by
          have hE : EvsAt G4 rs h := Paired.mapP hEB fun _ _ z => evKept hIB kB4 z
          exact pairedApp (pairedApp (pairedTake hE at_) (.cons ⟨te, rfl, hte⟩ .nil)) (pairedDrop hE (at_ + 1))
        have hl4 := bare_len bb
        have hh4 := hist_bare bb hh
        have sh4 := short_bare bb sh
        have nm4 := no_many (ad := fun a b => a ++ b) bb hgood
        generalize h.take at_ ++ [Ev.tld ky an] ++ h.drop (at_ + 1) = h4 at hE4 hl4 hh4 sh4 nm4
        generalize rs.take at_ ++ [.ref te] ++ rs.drop (at_ + 1) = rs4 at hE4 hc
        refine ⟨fun σ J => ∃ (res : Option Nat), σ = [some (.ref a), some (.ref p), some (.int (0 + ((j : Nat) : Int))), some (.ref r), some (.ref pl), some (.ref x), some (.ref m), some (vn at_), some (.ref dA), some (.ref dd), some (.ref b), some (vn n), some (.ref D2), some (vAn (.txt o2)), some (vAn an), some (.ref c), some (vp res)] ∧ Same G4 J ∧ Judged fo am (fun a b => a ++ b) h4 2000 res, ?_, ?_⟩
        · refine ⟨_, rfl, _, rfl, _, rfl, r, dA, gJ, c, 2000, fo, am, _, rs4, h4, rfl, tolKeptP hIB kB4 hTB, ok, amdKept hIB kB4 hAB, hAd, .inr hc, hE4, by omega, hh4, sh4, by decide, fun v J s out => ?_⟩
          rcases out with ⟨res, hj, rfl⟩ | ⟨_, z⟩
          · exact ⟨res, rfl, s, hj⟩
          · exact absurd z nm4
        rintro σ G5 ⟨res, rfl, s5, hj⟩
        refine ⟨_, rfl, _, rfl, _, rfl, x, m, gJ, c, fo, ws, am, _, rs4, h4, res, 2000, rfl, foAt_same s5 (foKept hIB kB4 hFB), ok, s5 _ _ (tB kB4 hmB), hwl, ham, hAd, .inr (s5 _ _ hc), evsSame s5 hE4, by omega, hh4, sh4, by decide, hj, fun J s6 => ?_⟩
        refine ⟨_, rfl, _, _, rfl, eqS_up (n := 0) ⟨rfl, by cases res <;> rfl⟩ (Nat.zero_le _), fun J14 s14 => ⟨true, rfl, ?_⟩⟩
        refine ifF (by decide) ?_
        have sE := s5.trans (s6.trans s14)
        exact ⟨handIn_keep hG4 sE, kept_trans kB4 (kept_same sE), _, _, _, _, _, rfl⟩
      · rintro σ G ⟨hG, kG, t7, t13, t14, t15, t16, rfl⟩
        exact ⟨hG, _, _, _, _, _, _, _, _, _, _, _, _, _, _, _, rfl⟩
    · rintro σ G _
      exact k _
end
end Cn
namespace Cn
open PySem PySem.Spec PyProof.Rows L2 Ck
/-- all the facts of the top, and the law's own promise -/
theorem all_mk {P : Program} {w : World} {K : PySem.W.Frag} {h : Heap} {mg : Str → Option Value} {fa C : Addr} {tm tmMOST_EVENTS tmMOST_CHOICES tmMOST_DEEDS tmMOST_TURNS : Tok} (X : K.In h) (G : h.Ns mainGlobals mg) (hfa : mg "law" = some (.ref fa))
    {fd0 : Addr} {ocd0 kVd0 dcd0 pmd0 cdd0 ctd0 : Value} {odd0 and0 : Option Addr} {sld0 : Array (Option Value)}
    {fd1 : Addr} {ocd1 kVd1 dcd1 pmd1 cdd1 ctd1 : Value} {odd1 and1 : Option Addr} {sld1 : Array (Option Value)}
    {fd2 : Addr} {ocd2 kVd2 dcd2 pmd2 cdd2 ctd2 : Value} {odd2 and2 : Option Addr} {sld2 : Array (Option Value)}
    {fd3 : Addr} {ocd3 kVd3 dcd3 pmd3 cdd3 ctd3 : Value} {odd3 and3 : Option Addr} {sld3 : Array (Option Value)}
    {fd4 : Addr} {ocd4 kVd4 dcd4 pmd4 cdd4 ctd4 : Value} {odd4 and4 : Option Addr} {sld4 : Array (Option Value)}
    {fd5 : Addr} {ocd5 kVd5 dcd5 pmd5 cdd5 ctd5 : Value} {odd5 and5 : Option Addr} {sld5 : Array (Option Value)}
    {fd6 : Addr} {ocd6 kVd6 dcd6 pmd6 cdd6 ctd6 : Value} {odd6 and6 : Option Addr} {sld6 : Array (Option Value)}
    {fd7 : Addr} {ocd7 kVd7 dcd7 pmd7 cdd7 ctd7 : Value} {odd7 and7 : Option Addr} {sld7 : Array (Option Value)}
    {fd8 : Addr} {ocd8 kVd8 dcd8 pmd8 cdd8 ctd8 : Value} {odd8 and8 : Option Addr} {sld8 : Array (Option Value)}
    {fd9 : Addr} {ocd9 kVd9 dcd9 pmd9 cdd9 ctd9 : Value} {odd9 and9 : Option Addr} {sld9 : Array (Option Value)}
    {fd10 : Addr} {ocd10 kVd10 dcd10 pmd10 cdd10 ctd10 : Value} {odd10 and10 : Option Addr} {sld10 : Array (Option Value)}
    {fd11 : Addr} {ocd11 kVd11 dcd11 pmd11 cdd11 ctd11 : Value} {odd11 and11 : Option Addr} {sld11 : Array (Option Value)}
    {fd12 : Addr} {ocd12 kVd12 dcd12 pmd12 cdd12 ctd12 : Value} {odd12 and12 : Option Addr} {sld12 : Array (Option Value)}
    {fd13 : Addr} {ocd13 kVd13 dcd13 pmd13 cdd13 ctd13 : Value} {odd13 and13 : Option Addr} {sld13 : Array (Option Value)}
    {fd14 : Addr} {ocd14 kVd14 dcd14 pmd14 cdd14 ctd14 : Value} {odd14 and14 : Option Addr} {sld14 : Array (Option Value)}
    {fd15 : Addr} {ocd15 kVd15 dcd15 pmd15 cdd15 ctd15 : Value} {odd15 and15 : Option Addr} {sld15 : Array (Option Value)}
    {fd16 : Addr} {ocd16 kVd16 dcd16 pmd16 cdd16 ctd16 : Value} {odd16 and16 : Option Addr} {sld16 : Array (Option Value)}
    {fd17 : Addr} {ocd17 kVd17 dcd17 pmd17 cdd17 ctd17 : Value} {odd17 and17 : Option Addr} {sld17 : Array (Option Value)}
    {fd18 : Addr} {ocd18 kVd18 dcd18 pmd18 cdd18 ctd18 : Value} {odd18 and18 : Option Addr} {sld18 : Array (Option Value)}
    {fd19 : Addr} {ocd19 kVd19 dcd19 pmd19 cdd19 ctd19 : Value} {odd19 and19 : Option Addr} {sld19 : Array (Option Value)}
    {fd20 : Addr} {ocd20 kVd20 dcd20 pmd20 cdd20 ctd20 : Value} {odd20 and20 : Option Addr} {sld20 : Array (Option Value)}
    {fd21 : Addr} {ocd21 kVd21 dcd21 pmd21 cdd21 ctd21 : Value} {odd21 and21 : Option Addr} {sld21 : Array (Option Value)}
    {fd22 : Addr} {ocd22 kVd22 dcd22 pmd22 cdd22 ctd22 : Value} {odd22 and22 : Option Addr} {sld22 : Array (Option Value)}
    {fd23 : Addr} {ocd23 kVd23 dcd23 pmd23 cdd23 ctd23 : Value} {odd23 and23 : Option Addr} {sld23 : Array (Option Value)}
    {fd24 : Addr} {ocd24 kVd24 dcd24 pmd24 cdd24 ctd24 : Value} {odd24 and24 : Option Addr} {sld24 : Array (Option Value)}
    {fd25 : Addr} {ocd25 kVd25 dcd25 pmd25 cdd25 ctd25 : Value} {odd25 and25 : Option Addr} {sld25 : Array (Option Value)}
    {fd26 : Addr} {ocd26 kVd26 dcd26 pmd26 cdd26 ctd26 : Value} {odd26 and26 : Option Addr} {sld26 : Array (Option Value)}
    {fd27 : Addr} {ocd27 kVd27 dcd27 pmd27 cdd27 ctd27 : Value} {odd27 and27 : Option Addr} {sld27 : Array (Option Value)}
    {fd28 : Addr} {ocd28 kVd28 dcd28 pmd28 cdd28 ctd28 : Value} {odd28 and28 : Option Addr} {sld28 : Array (Option Value)}
    {fd29 : Addr} {ocd29 kVd29 dcd29 pmd29 cdd29 ctd29 : Value} {odd29 and29 : Option Addr} {sld29 : Array (Option Value)}
    {fd30 : Addr} {ocd30 kVd30 dcd30 pmd30 cdd30 ctd30 : Value} {odd30 and30 : Option Addr} {sld30 : Array (Option Value)}
    {fd31 : Addr} {ocd31 kVd31 dcd31 pmd31 cdd31 ctd31 : Value} {odd31 and31 : Option Addr} {sld31 : Array (Option Value)}
    {fd32 : Addr} {ocd32 kVd32 dcd32 pmd32 cdd32 ctd32 : Value} {odd32 and32 : Option Addr} {sld32 : Array (Option Value)}
    {fd33 : Addr} {ocd33 kVd33 dcd33 pmd33 cdd33 ctd33 : Value} {odd33 and33 : Option Addr} {sld33 : Array (Option Value)}
    {fd34 : Addr} {ocd34 kVd34 dcd34 pmd34 cdd34 ctd34 : Value} {odd34 and34 : Option Addr} {sld34 : Array (Option Value)}
    {fd35 : Addr} {ocd35 kVd35 dcd35 pmd35 cdd35 ctd35 : Value} {odd35 and35 : Option Addr} {sld35 : Array (Option Value)}
    {fd36 : Addr} {ocd36 kVd36 dcd36 pmd36 cdd36 ctd36 : Value} {odd36 and36 : Option Addr} {sld36 : Array (Option Value)}
    {fd37 : Addr} {ocd37 kVd37 dcd37 pmd37 cdd37 ctd37 : Value} {odd37 and37 : Option Addr} {sld37 : Array (Option Value)}
    {fd38 : Addr} {ocd38 kVd38 dcd38 pmd38 cdd38 ctd38 : Value} {odd38 and38 : Option Addr} {sld38 : Array (Option Value)}
    {fd39 : Addr} {ocd39 kVd39 dcd39 pmd39 cdd39 ctd39 : Value} {odd39 and39 : Option Addr} {sld39 : Array (Option Value)}
    {fd40 : Addr} {ocd40 kVd40 dcd40 pmd40 cdd40 ctd40 : Value} {odd40 and40 : Option Addr} {sld40 : Array (Option Value)}
    {fd41 : Addr} {ocd41 kVd41 dcd41 pmd41 cdd41 ctd41 : Value} {odd41 and41 : Option Addr} {sld41 : Array (Option Value)}
    {fd42 : Addr} {ocd42 kVd42 dcd42 pmd42 cdd42 ctd42 : Value} {odd42 and42 : Option Addr} {sld42 : Array (Option Value)}
    {fd43 : Addr} {ocd43 kVd43 dcd43 pmd43 cdd43 ctd43 : Value} {odd43 and43 : Option Addr} {sld43 : Array (Option Value)}
    {fd44 : Addr} {ocd44 kVd44 dcd44 pmd44 cdd44 ctd44 : Value} {odd44 and44 : Option Addr} {sld44 : Array (Option Value)}
    {fd45 : Addr} {ocd45 kVd45 dcd45 pmd45 cdd45 ctd45 : Value} {odd45 and45 : Option Addr} {sld45 : Array (Option Value)}
    {fd46 : Addr} {ocd46 kVd46 dcd46 pmd46 cdd46 ctd46 : Value} {odd46 and46 : Option Addr} {sld46 : Array (Option Value)}
    {fd47 : Addr} {ocd47 kVd47 dcd47 pmd47 cdd47 ctd47 : Value} {odd47 and47 : Option Addr} {sld47 : Array (Option Value)}
    {fW : Addr} {ocW kVW dcW pmW cdW ctW : Value} {odW anW : Option Addr} {slW : Array (Option Value)}
    {fN : Addr} {ocN kVN dcN pmN cdN ctN : Value} {odN anN : Option Addr} {slN : Array (Option Value)}
    {fLo0 : Addr} {ocLo0 kVLo0 dcLo0 pmLo0 cdLo0 ctLo0 : Value} {odLo0 anLo0 : Option Addr} {slLo0 : Array (Option Value)}
    {fLo1 : Addr} {ocLo1 kVLo1 dcLo1 pmLo1 cdLo1 ctLo1 : Value} {odLo1 anLo1 : Option Addr} {slLo1 : Array (Option Value)}
    {fLo2 : Addr} {ocLo2 kVLo2 dcLo2 pmLo2 cdLo2 ctLo2 : Value} {odLo2 anLo2 : Option Addr} {slLo2 : Array (Option Value)}
    {fLo3 : Addr} {ocLo3 kVLo3 dcLo3 pmLo3 cdLo3 ctLo3 : Value} {odLo3 anLo3 : Option Addr} {slLo3 : Array (Option Value)}
    {fLo4 : Addr} {ocLo4 kVLo4 dcLo4 pmLo4 cdLo4 ctLo4 : Value} {odLo4 anLo4 : Option Addr} {slLo4 : Array (Option Value)}
    {fLo5 : Addr} {ocLo5 kVLo5 dcLo5 pmLo5 cdLo5 ctLo5 : Value} {odLo5 anLo5 : Option Addr} {slLo5 : Array (Option Value)}
    (aC : PySem.W.nsIn K mainGlobals "Forest" = some (some (.ref C))) (pg : PySem.W.plainGet K C Str.empty = true) (hd : PySem.W.hasDictIn K C = true) (po : PySem.W.plainOver K C = true) (sa : PySem.W.findIn K (.ref C) "__setattr__" = some (some (.builtin "object.__setattr__")))
    (mk : PySem.W.makesIn K C = true) (kc : PySem.W.keepIn K (.ref C) = true) (nP : PySem.W.findIn K (.ref C) "parents" = some none) (nB : PySem.W.findIn K (.ref C) "bearing" = some none) (nA : PySem.W.findIn K (.ref C) "asking" = some none)
    (mM : PySem.W.nsIn K mainGlobals "MOST_PLACES" = some (some (.int 60 tm))) (mMOST_EVENTS : PySem.W.nsIn K mainGlobals "MOST_EVENTS" = some (some (.int 200 tmMOST_EVENTS))) (mMOST_CHOICES : PySem.W.nsIn K mainGlobals "MOST_CHOICES" = some (some (.int 2000 tmMOST_CHOICES))) (mMOST_DEEDS : PySem.W.nsIn K mainGlobals "MOST_DEEDS" = some (some (.int 20 tmMOST_DEEDS))) (mMOST_TURNS : PySem.W.nsIn K mainGlobals "MOST_TURNS" = some (some (.int 400 tmMOST_TURNS)))
    (aN : PySem.W.findIn K (.ref C) "__init__" = some (some (.ref fN))) (iN : PySem.W.isFn K (.ref fN) = true) (lN : K.lookup fN = some ⟨ocN, odN, .func (PySem.W.fnOf "__init__" "Forest.__init__" (defArgs sInit) (defBody sInit) (defScope sInit) .none kVN dcN pmN anN cdN ctN), slN⟩) (oN : PySem.W.codeIn K cdN "Forest.__init__" = true) (kN : PySem.W.keepIn K (.ref fN) = true)
    {ZLo : Addr} (aCLo : PySem.W.nsIn K mainGlobals "Loom" = some (some (.ref ZLo))) (pgLo : PySem.W.plainGet K ZLo Str.empty = true) (hdLo : PySem.W.hasDictIn K ZLo = true) (poLo : PySem.W.plainOver K ZLo = true) (saLo : PySem.W.findIn K (.ref ZLo) "__setattr__" = some (some (.builtin "object.__setattr__"))) (mkLo : PySem.W.makesIn K ZLo = true) (kcLo : PySem.W.keepIn K (.ref ZLo) = true)
    (nLo_notes : PySem.W.findIn K (.ref ZLo) "notes" = some none)
    (nLo_amounts : PySem.W.findIn K (.ref ZLo) "amounts" = some none)
    (nLo_adding : PySem.W.findIn K (.ref ZLo) "adding" = some none)
    (nLo_sums : PySem.W.findIn K (.ref ZLo) "sums" = some none)
    (nLo_events : PySem.W.findIn K (.ref ZLo) "events" = some none)
    (nLo_ahead : PySem.W.findIn K (.ref ZLo) "ahead" = some none)
    (nLo_read : PySem.W.findIn K (.ref ZLo) "read" = some none)
    (aLo0 : PySem.W.findIn K (.ref ZLo) "__init__" = some (some (.ref fLo0))) (iLo0 : PySem.W.isFn K (.ref fLo0) = true) (lLo0 : K.lookup fLo0 = some ⟨ocLo0, odLo0, .func (PySem.W.fnOf "__init__" "Loom.__init__" (defArgs sLo_init) (defBody sLo_init) (defScope sLo_init) .none kVLo0 dcLo0 pmLo0 anLo0 cdLo0 ctLo0), slLo0⟩) (oLo0 : PySem.W.codeIn K cdLo0 "Loom.__init__" = true) (kLo0 : PySem.W.keepIn K (.ref fLo0) = true)
    (aLo1 : PySem.W.findIn K (.ref ZLo) "put_together" = some (some (.ref fLo1))) (iLo1 : PySem.W.isFn K (.ref fLo1) = true) (lLo1 : K.lookup fLo1 = some ⟨ocLo1, odLo1, .func (PySem.W.fnOf "put_together" "Loom.put_together" (defArgs sLo_put_together) (defBody sLo_put_together) (defScope sLo_put_together) .none kVLo1 dcLo1 pmLo1 anLo1 cdLo1 ctLo1), slLo1⟩) (oLo1 : PySem.W.codeIn K cdLo1 "Loom.put_together" = true) (kLo1 : PySem.W.keepIn K (.ref fLo1) = true)
    (aLo2 : PySem.W.findIn K (.ref ZLo) "turn" = some (some (.ref fLo2))) (iLo2 : PySem.W.isFn K (.ref fLo2) = true) (lLo2 : K.lookup fLo2 = some ⟨ocLo2, odLo2, .func (PySem.W.fnOf "turn" "Loom.turn" (defArgs sLo_turn) (defBody sLo_turn) (defScope sLo_turn) .none kVLo2 dcLo2 pmLo2 anLo2 cdLo2 ctLo2), slLo2⟩) (oLo2 : PySem.W.codeIn K cdLo2 "Loom.turn" = true) (kLo2 : PySem.W.keepIn K (.ref fLo2) = true)
    (aLo3 : PySem.W.findIn K (.ref ZLo) "begin" = some (some (.ref fLo3))) (iLo3 : PySem.W.isFn K (.ref fLo3) = true) (lLo3 : K.lookup fLo3 = some ⟨ocLo3, odLo3, .func (PySem.W.fnOf "begin" "Loom.begin" (defArgs sLo_begin) (defBody sLo_begin) (defScope sLo_begin) .none kVLo3 dcLo3 pmLo3 anLo3 cdLo3 ctLo3), slLo3⟩) (oLo3 : PySem.W.codeIn K cdLo3 "Loom.begin" = true) (kLo3 : PySem.W.keepIn K (.ref fLo3) = true)
    (aLo4 : PySem.W.findIn K (.ref ZLo) "go_on" = some (some (.ref fLo4))) (iLo4 : PySem.W.isFn K (.ref fLo4) = true) (lLo4 : K.lookup fLo4 = some ⟨ocLo4, odLo4, .func (PySem.W.fnOf "go_on" "Loom.go_on" (defArgs sLo_go_on) (defBody sLo_go_on) (defScope sLo_go_on) .none kVLo4 dcLo4 pmLo4 anLo4 cdLo4 ctLo4), slLo4⟩) (oLo4 : PySem.W.codeIn K cdLo4 "Loom.go_on" = true) (kLo4 : PySem.W.keepIn K (.ref fLo4) = true)
    (aLo5 : PySem.W.findIn K (.ref ZLo) "end" = some (some (.ref fLo5))) (iLo5 : PySem.W.isFn K (.ref fLo5) = true) (lLo5 : K.lookup fLo5 = some ⟨ocLo5, odLo5, .func (PySem.W.fnOf "end" "Loom.end" (defArgs sLo_end) (defBody sLo_end) (defScope sLo_end) .none kVLo5 dcLo5 pmLo5 anLo5 cdLo5 ctLo5), slLo5⟩) (oLo5 : PySem.W.codeIn K cdLo5 "Loom.end" = true) (kLo5 : PySem.W.keepIn K (.ref fLo5) = true)
    {aEN : Addr} {esEN : Array DictEntry} {nEN : Nat} {tE1 tE2 : Tok} (aEn : PySem.W.nsIn K mainGlobals "ENDS" = some (some (.ref aEN))) (lEn : K.lookup aEN = some ⟨.type "dict", none, .dict esEN nEN, #[]⟩) (kEn : PySem.W.KeysLit w.params esEN.toList) (oEn : (aEN == sysModules) = false)
    (e1En : PySem.W.nsIn K aEN "change" = some (some (.str "done" tE1))) (e2En : PySem.W.nsIn K aEN "ask" = some (some (.str "told" tE2))) (e3En : PySem.W.nsIn K aEN "done" = some none) (e4En : PySem.W.nsIn K aEN "told" = some none)
    (ad0 : PySem.W.nsIn K mainGlobals "_law_word" = some (some (.ref fd0))) (ld0 : K.lookup fd0 = some ⟨ocd0, odd0, .func (PySem.W.fnOf "_law_word" "_law_word" (defArgs sLWord) (defBody sLWord) (defScope sLWord) .none kVd0 dcd0 pmd0 and0 cdd0 ctd0), sld0⟩) (od0 : PySem.W.codeIn K cdd0 "_law_word" = true) (kd0 : PySem.W.keepIn K (.ref fd0) = true)
    (ad1 : PySem.W.nsIn K mainGlobals "is_integer" = some (some (.ref fd1))) (ld1 : K.lookup fd1 = some ⟨ocd1, odd1, .func (PySem.W.fnOf "is_integer" "is_integer" (defArgs sIsInt) (defBody sIsInt) (defScope sIsInt) .none kVd1 dcd1 pmd1 and1 cdd1 ctd1), sld1⟩) (od1 : PySem.W.codeIn K cdd1 "is_integer" = true) (kd1 : PySem.W.keepIn K (.ref fd1) = true)
    (ad2 : PySem.W.nsIn K mainGlobals "is_between" = some (some (.ref fd2))) (ld2 : K.lookup fd2 = some ⟨ocd2, odd2, .func (PySem.W.fnOf "is_between" "is_between" (defArgs sIsBtw) (defBody sIsBtw) (defScope sIsBtw) .none kVd2 dcd2 pmd2 and2 cdd2 ctd2), sld2⟩) (od2 : PySem.W.codeIn K cdd2 "is_between" = true) (kd2 : PySem.W.keepIn K (.ref fd2) = true)
    (ad3 : PySem.W.nsIn K mainGlobals "is_lot" = some (some (.ref fd3))) (ld3 : K.lookup fd3 = some ⟨ocd3, odd3, .func (PySem.W.fnOf "is_lot" "is_lot" (defArgs sIsLot) (defBody sIsLot) (defScope sIsLot) .none kVd3 dcd3 pmd3 and3 cdd3 ctd3), sld3⟩) (od3 : PySem.W.codeIn K cdd3 "is_lot" = true) (kd3 : PySem.W.keepIn K (.ref fd3) = true)
    (ad4 : PySem.W.nsIn K mainGlobals "_is_lot_of_places" = some (some (.ref fd4))) (ld4 : K.lookup fd4 = some ⟨ocd4, odd4, .func (PySem.W.fnOf "_is_lot_of_places" "_is_lot_of_places" (defArgs sLotOf) (defBody sLotOf) (defScope sLotOf) .none kVd4 dcd4 pmd4 and4 cdd4 ctd4), sld4⟩) (od4 : PySem.W.codeIn K cdd4 "_is_lot_of_places" = true) (kd4 : PySem.W.keepIn K (.ref fd4) = true)
    (ad5 : PySem.W.nsIn K mainGlobals "is_place" = some (some (.ref fd5))) (ld5 : K.lookup fd5 = some ⟨ocd5, odd5, .func (PySem.W.fnOf "is_place" "is_place" (defArgs sIsPlace) (defBody sIsPlace) (defScope sIsPlace) .none kVd5 dcd5 pmd5 and5 cdd5 ctd5), sld5⟩) (od5 : PySem.W.codeIn K cdd5 "is_place" = true) (kd5 : PySem.W.keepIn K (.ref fd5) = true)
    (ad6 : PySem.W.nsIn K mainGlobals "way" = some (some (.ref fd6))) (ld6 : K.lookup fd6 = some ⟨ocd6, odd6, .func (PySem.W.fnOf "way" "way" (defArgs sWay) (defBody sWay) (defScope sWay) .none kVd6 dcd6 pmd6 and6 cdd6 ctd6), sld6⟩) (od6 : PySem.W.codeIn K cdd6 "way" = true) (kd6 : PySem.W.keepIn K (.ref fd6) = true)
    (ad7 : PySem.W.nsIn K mainGlobals "is_plan" = some (some (.ref fd7))) (ld7 : K.lookup fd7 = some ⟨ocd7, odd7, .func (PySem.W.fnOf "is_plan" "is_plan" (defArgs sIsPlan) (defBody sIsPlan) (defScope sIsPlan) .none kVd7 dcd7 pmd7 and7 cdd7 ctd7), sld7⟩) (od7 : PySem.W.codeIn K cdd7 "is_plan" = true) (kd7 : PySem.W.keepIn K (.ref fd7) = true)
    (ad8 : PySem.W.nsIn K mainGlobals "_stacks" = some (some (.ref fd8))) (ld8 : K.lookup fd8 = some ⟨ocd8, odd8, .func (PySem.W.fnOf "_stacks" "_stacks" (defArgs sStacks) (defBody sStacks) (defScope sStacks) .none kVd8 dcd8 pmd8 and8 cdd8 ctd8), sld8⟩) (od8 : PySem.W.codeIn K cdd8 "_stacks" = true) (kd8 : PySem.W.keepIn K (.ref fd8) = true)
    (ad9 : PySem.W.nsIn K mainGlobals "_note_at" = some (some (.ref fd9))) (ld9 : K.lookup fd9 = some ⟨ocd9, odd9, .func (PySem.W.fnOf "_note_at" "_note_at" (defArgs sNoteAt) (defBody sNoteAt) (defScope sNoteAt) .none kVd9 dcd9 pmd9 and9 cdd9 ctd9), sld9⟩) (od9 : PySem.W.codeIn K cdd9 "_note_at" = true) (kd9 : PySem.W.keepIn K (.ref fd9) = true)
    (ad10 : PySem.W.nsIn K mainGlobals "notes_by_place" = some (some (.ref fd10))) (ld10 : K.lookup fd10 = some ⟨ocd10, odd10, .func (PySem.W.fnOf "notes_by_place" "notes_by_place" (defArgs sByPlace) (defBody sByPlace) (defScope sByPlace) .none kVd10 dcd10 pmd10 and10 cdd10 ctd10), sld10⟩) (od10 : PySem.W.codeIn K cdd10 "notes_by_place" = true) (kd10 : PySem.W.keepIn K (.ref fd10) = true)
    (ad11 : PySem.W.nsIn K mainGlobals "_law_draw" = some (some (.ref fd11))) (ld11 : K.lookup fd11 = some ⟨ocd11, odd11, .func (PySem.W.fnOf "_law_draw" "_law_draw" (defArgs sDraw) (defBody sDraw) (defScope sDraw) .none kVd11 dcd11 pmd11 and11 cdd11 ctd11), sld11⟩) (od11 : PySem.W.codeIn K cdd11 "_law_draw" = true) (kd11 : PySem.W.keepIn K (.ref fd11) = true)
    (ad12 : PySem.W.nsIn K mainGlobals "_law_is" = some (some (.ref fd12))) (ld12 : K.lookup fd12 = some ⟨ocd12, odd12, .func (PySem.W.fnOf "_law_is" "_law_is" (defArgs sIs) (defBody sIs) (defScope sIs) .none kVd12 dcd12 pmd12 and12 cdd12 ctd12), sld12⟩) (od12 : PySem.W.codeIn K cdd12 "_law_is" = true) (kd12 : PySem.W.keepIn K (.ref fd12) = true)
    (ad13 : PySem.W.nsIn K mainGlobals "_law_parents" = some (some (.ref fd13))) (ld13 : K.lookup fd13 = some ⟨ocd13, odd13, .func (PySem.W.fnOf "_law_parents" "_law_parents" (defArgs sParents) (defBody sParents) (defScope sParents) .none kVd13 dcd13 pmd13 and13 cdd13 ctd13), sld13⟩) (od13 : PySem.W.codeIn K cdd13 "_law_parents" = true) (kd13 : PySem.W.keepIn K (.ref fd13) = true)
    (ad14 : PySem.W.nsIn K mainGlobals "_law_lot" = some (some (.ref fd14))) (ld14 : K.lookup fd14 = some ⟨ocd14, odd14, .func (PySem.W.fnOf "_law_lot" "_law_lot" (defArgs sLawLot) (defBody sLawLot) (defScope sLawLot) .none kVd14 dcd14 pmd14 and14 cdd14 ctd14), sld14⟩) (od14 : PySem.W.codeIn K cdd14 "_law_lot" = true) (kd14 : PySem.W.keepIn K (.ref fd14) = true)
    (ad15 : PySem.W.nsIn K mainGlobals "_law_made" = some (some (.ref fd15))) (ld15 : K.lookup fd15 = some ⟨ocd15, odd15, .func (PySem.W.fnOf "_law_made" "_law_made" (defArgs sMade) (defBody sMade) (defScope sMade) .none kVd15 dcd15 pmd15 and15 cdd15 ctd15), sld15⟩) (od15 : PySem.W.codeIn K cdd15 "_law_made" = true) (kd15 : PySem.W.keepIn K (.ref fd15) = true)
    (ad16 : PySem.W.nsIn K mainGlobals "_law_pool" = some (some (.ref fd16))) (ld16 : K.lookup fd16 = some ⟨ocd16, odd16, .func (PySem.W.fnOf "_law_pool" "_law_pool" (defArgs sHand) (defBody sHand) (defScope sHand) .none kVd16 dcd16 pmd16 and16 cdd16 ctd16), sld16⟩) (od16 : PySem.W.codeIn K cdd16 "_law_pool" = true) (kd16 : PySem.W.keepIn K (.ref fd16) = true)
    (ad17 : PySem.W.nsIn K mainGlobals "_law_pick" = some (some (.ref fd17))) (ld17 : K.lookup fd17 = some ⟨ocd17, odd17, .func (PySem.W.fnOf "_law_pick" "_law_pick" (defArgs sPick) (defBody sPick) (defScope sPick) .none kVd17 dcd17 pmd17 and17 cdd17 ctd17), sld17⟩) (od17 : PySem.W.codeIn K cdd17 "_law_pick" = true) (kd17 : PySem.W.keepIn K (.ref fd17) = true)
    (ad18 : PySem.W.nsIn K mainGlobals "_law_spec" = some (some (.ref fd18))) (ld18 : K.lookup fd18 = some ⟨ocd18, odd18, .func (PySem.W.fnOf "_law_spec" "_law_spec" (defArgs sSpec) (defBody sSpec) (defScope sSpec) .none kVd18 dcd18 pmd18 and18 cdd18 ctd18), sld18⟩) (od18 : PySem.W.codeIn K cdd18 "_law_spec" = true) (kd18 : PySem.W.keepIn K (.ref fd18) = true)
    (ad19 : PySem.W.nsIn K mainGlobals "_law_plan" = some (some (.ref fd19))) (ld19 : K.lookup fd19 = some ⟨ocd19, odd19, .func (PySem.W.fnOf "_law_plan" "_law_plan" (defArgs sDPlan) (defBody sDPlan) (defScope sDPlan) .none kVd19 dcd19 pmd19 and19 cdd19 ctd19), sld19⟩) (od19 : PySem.W.codeIn K cdd19 "_law_plan" = true) (kd19 : PySem.W.keepIn K (.ref fd19) = true)
    (ad20 : PySem.W.nsIn K mainGlobals "_law_way" = some (some (.ref fd20))) (ld20 : K.lookup fd20 = some ⟨ocd20, odd20, .func (PySem.W.fnOf "_law_way" "_law_way" (defArgs sLWay) (defBody sLWay) (defScope sLWay) .none kVd20 dcd20 pmd20 and20 cdd20 ctd20), sld20⟩) (od20 : PySem.W.codeIn K cdd20 "_law_way" = true) (kd20 : PySem.W.keepIn K (.ref fd20) = true)
    (ad21 : PySem.W.nsIn K mainGlobals "is_bearing" = some (some (.ref fd21))) (ld21 : K.lookup fd21 = some ⟨ocd21, odd21, .func (PySem.W.fnOf "is_bearing" "is_bearing" (defArgs sIsBear) (defBody sIsBear) (defScope sIsBear) .none kVd21 dcd21 pmd21 and21 cdd21 ctd21), sld21⟩) (od21 : PySem.W.codeIn K cdd21 "is_bearing" = true) (kd21 : PySem.W.keepIn K (.ref fd21) = true)
    (ad22 : PySem.W.nsIn K mainGlobals "is_asking" = some (some (.ref fd22))) (ld22 : K.lookup fd22 = some ⟨ocd22, odd22, .func (PySem.W.fnOf "is_asking" "is_asking" (defArgs sIsAsk) (defBody sIsAsk) (defScope sIsAsk) .none kVd22 dcd22 pmd22 and22 cdd22 ctd22), sld22⟩) (od22 : PySem.W.codeIn K cdd22 "is_asking" = true) (kd22 : PySem.W.keepIn K (.ref fd22) = true)
    (ad23 : PySem.W.nsIn K mainGlobals "is_amounts" = some (some (.ref fd23))) (ld23 : K.lookup fd23 = some ⟨ocd23, odd23, .func (PySem.W.fnOf "is_amounts" "is_amounts" (defArgs sIsAmt) (defBody sIsAmt) (defScope sIsAmt) .none kVd23 dcd23 pmd23 and23 cdd23 ctd23), sld23⟩) (od23 : PySem.W.codeIn K cdd23 "is_amounts" = true) (kd23 : PySem.W.keepIn K (.ref fd23) = true)
    (ad24 : PySem.W.nsIn K mainGlobals "_law_words" = some (some (.ref fd24))) (ld24 : K.lookup fd24 = some ⟨ocd24, odd24, .func (PySem.W.fnOf "_law_words" "_law_words" (defArgs sLWords) (defBody sLWords) (defScope sLWords) .none kVd24 dcd24 pmd24 and24 cdd24 ctd24), sld24⟩) (od24 : PySem.W.codeIn K cdd24 "_law_words" = true) (kd24 : PySem.W.keepIn K (.ref fd24) = true)
    (ad25 : PySem.W.nsIn K mainGlobals "_law_joined" = some (some (.ref fd25))) (ld25 : K.lookup fd25 = some ⟨ocd25, odd25, .func (PySem.W.fnOf "_law_joined" "_law_joined" (defArgs sLJoin) (defBody sLJoin) (defScope sLJoin) .none kVd25 dcd25 pmd25 and25 cdd25 ctd25), sld25⟩) (od25 : PySem.W.codeIn K cdd25 "_law_joined" = true) (kd25 : PySem.W.keepIn K (.ref fd25) = true)
    (ad26 : PySem.W.nsIn K mainGlobals "_is_event" = some (some (.ref fd26))) (ld26 : K.lookup fd26 = some ⟨ocd26, odd26, .func (PySem.W.fnOf "_is_event" "_is_event" (defArgs sIsEv) (defBody sIsEv) (defScope sIsEv) .none kVd26 dcd26 pmd26 and26 cdd26 ctd26), sld26⟩) (od26 : PySem.W.codeIn K cdd26 "_is_event" = true) (kd26 : PySem.W.keepIn K (.ref fd26) = true)
    (ad27 : PySem.W.nsIn K mainGlobals "are_events" = some (some (.ref fd27))) (ld27 : K.lookup fd27 = some ⟨ocd27, odd27, .func (PySem.W.fnOf "are_events" "are_events" (defArgs sAreEv) (defBody sAreEv) (defScope sAreEv) .none kVd27 dcd27 pmd27 and27 cdd27 ctd27), sld27⟩) (od27 : PySem.W.codeIn K cdd27 "are_events" = true) (kd27 : PySem.W.keepIn K (.ref fd27) = true)
    (ad28 : PySem.W.nsIn K mainGlobals "is_history" = some (some (.ref fd28))) (ld28 : K.lookup fd28 = some ⟨ocd28, odd28, .func (PySem.W.fnOf "is_history" "is_history" (defArgs sIsHist) (defBody sIsHist) (defScope sIsHist) .none kVd28 dcd28 pmd28 and28 cdd28 ctd28), sld28⟩) (od28 : PySem.W.codeIn K cdd28 "is_history" = true) (kd28 : PySem.W.keepIn K (.ref fd28) = true)
    (ad29 : PySem.W.nsIn K mainGlobals "ends_of" = some (some (.ref fd29))) (ld29 : K.lookup fd29 = some ⟨ocd29, odd29, .func (PySem.W.fnOf "ends_of" "ends_of" (defArgs sEndsOf) (defBody sEndsOf) (defScope sEndsOf) .none kVd29 dcd29 pmd29 and29 cdd29 ctd29), sld29⟩) (od29 : PySem.W.codeIn K cdd29 "ends_of" = true) (kd29 : PySem.W.keepIn K (.ref fd29) = true)
    (ad30 : PySem.W.nsIn K mainGlobals "_is_outdated" = some (some (.ref fd30))) (ld30 : K.lookup fd30 = some ⟨ocd30, odd30, .func (PySem.W.fnOf "_is_outdated" "_is_outdated" (defArgs sOutd) (defBody sOutd) (defScope sOutd) .none kVd30 dcd30 pmd30 and30 cdd30 ctd30), sld30⟩) (od30 : PySem.W.codeIn K cdd30 "_is_outdated" = true) (kd30 : PySem.W.keepIn K (.ref fd30) = true)
    (ad31 : PySem.W.nsIn K mainGlobals "choices" = some (some (.ref fd31))) (ld31 : K.lookup fd31 = some ⟨ocd31, odd31, .func (PySem.W.fnOf "choices" "choices" (defArgs sChoi) (defBody sChoi) (defScope sChoi) .none kVd31 dcd31 pmd31 and31 cdd31 ctd31), sld31⟩) (od31 : PySem.W.codeIn K cdd31 "choices" = true) (kd31 : PySem.W.keepIn K (.ref fd31) = true)
    (ad32 : PySem.W.nsIn K mainGlobals "_is_possible" = some (some (.ref fd32))) (ld32 : K.lookup fd32 = some ⟨ocd32, odd32, .func (PySem.W.fnOf "_is_possible" "_is_possible" (defArgs sPoss) (defBody sPoss) (defScope sPoss) .none kVd32 dcd32 pmd32 and32 cdd32 ctd32), sld32⟩) (od32 : PySem.W.codeIn K cdd32 "_is_possible" = true) (kd32 : PySem.W.keepIn K (.ref fd32) = true)
    (ad33 : PySem.W.nsIn K mainGlobals "wrong_answer" = some (some (.ref fd33))) (ld33 : K.lookup fd33 = some ⟨ocd33, odd33, .func (PySem.W.fnOf "wrong_answer" "wrong_answer" (defArgs sWrong) (defBody sWrong) (defScope sWrong) .none kVd33 dcd33 pmd33 and33 cdd33 ctd33), sld33⟩) (od33 : PySem.W.codeIn K cdd33 "wrong_answer" = true) (kd33 : PySem.W.keepIn K (.ref fd33) = true)
    (ad34 : PySem.W.nsIn K mainGlobals "_law_may_count" = some (some (.ref fd34))) (ld34 : K.lookup fd34 = some ⟨ocd34, odd34, .func (PySem.W.fnOf "_law_may_count" "_law_may_count" (defArgs sLMayC) (defBody sLMayC) (defScope sLMayC) .none kVd34 dcd34 pmd34 and34 cdd34 ctd34), sld34⟩) (od34 : PySem.W.codeIn K cdd34 "_law_may_count" = true) (kd34 : PySem.W.keepIn K (.ref fd34) = true)
    (ad35 : PySem.W.nsIn K mainGlobals "_law_choices" = some (some (.ref fd35))) (ld35 : K.lookup fd35 = some ⟨ocd35, odd35, .func (PySem.W.fnOf "_law_choices" "_law_choices" (defArgs sLChoi) (defBody sLChoi) (defScope sLChoi) .none kVd35 dcd35 pmd35 and35 cdd35 ctd35), sld35⟩) (od35 : PySem.W.codeIn K cdd35 "_law_choices" = true) (kd35 : PySem.W.keepIn K (.ref fd35) = true)
    (ad36 : PySem.W.nsIn K mainGlobals "_law_all_answers" = some (some (.ref fd36))) (ld36 : K.lookup fd36 = some ⟨ocd36, odd36, .func (PySem.W.fnOf "_law_all_answers" "_law_all_answers" (defArgs sLAllA) (defBody sLAllA) (defScope sLAllA) .none kVd36 dcd36 pmd36 and36 cdd36 ctd36), sld36⟩) (od36 : PySem.W.codeIn K cdd36 "_law_all_answers" = true) (kd36 : PySem.W.keepIn K (.ref fd36) = true)
    (ad37 : PySem.W.nsIn K mainGlobals "_law_product" = some (some (.ref fd37))) (ld37 : K.lookup fd37 = some ⟨ocd37, odd37, .func (PySem.W.fnOf "_law_product" "_law_product" (defArgs sLProd) (defBody sLProd) (defScope sLProd) .none kVd37 dcd37 pmd37 and37 cdd37 ctd37), sld37⟩) (od37 : PySem.W.codeIn K cdd37 "_law_product" = true) (kd37 : PySem.W.keepIn K (.ref fd37) = true)
    (ad38 : PySem.W.nsIn K mainGlobals "_law_first_wrong" = some (some (.ref fd38))) (ld38 : K.lookup fd38 = some ⟨ocd38, odd38, .func (PySem.W.fnOf "_law_first_wrong" "_law_first_wrong" (defArgs sLFirstW) (defBody sLFirstW) (defScope sLFirstW) .none kVd38 dcd38 pmd38 and38 cdd38 ctd38), sld38⟩) (od38 : PySem.W.codeIn K cdd38 "_law_first_wrong" = true) (kd38 : PySem.W.keepIn K (.ref fd38) = true)
    (ad39 : PySem.W.nsIn K mainGlobals "together" = some (some (.ref fd39))) (ld39 : K.lookup fd39 = some ⟨ocd39, odd39, .func (PySem.W.fnOf "together" "together" (defArgs sTogt) (defBody sTogt) (defScope sTogt) .none kVd39 dcd39 pmd39 and39 cdd39 ctd39), sld39⟩) (od39 : PySem.W.codeIn K cdd39 "together" = true) (kd39 : PySem.W.keepIn K (.ref fd39) = true)
    (ad40 : PySem.W.nsIn K mainGlobals "holding_one" = some (some (.ref fd40))) (ld40 : K.lookup fd40 = some ⟨ocd40, odd40, .func (PySem.W.fnOf "holding_one" "holding_one" (defArgs sHold1) (defBody sHold1) (defScope sHold1) .none kVd40 dcd40 pmd40 and40 cdd40 ctd40), sld40⟩) (od40 : PySem.W.codeIn K cdd40 "holding_one" = true) (kd40 : PySem.W.keepIn K (.ref fd40) = true)
    (ad41 : PySem.W.nsIn K mainGlobals "reading_at" = some (some (.ref fd41))) (ld41 : K.lookup fd41 = some ⟨ocd41, odd41, .func (PySem.W.fnOf "reading_at" "reading_at" (defArgs sReadAt) (defBody sReadAt) (defScope sReadAt) .none kVd41 dcd41 pmd41 and41 cdd41 ctd41), sld41⟩) (od41 : PySem.W.codeIn K cdd41 "reading_at" = true) (kd41 : PySem.W.keepIn K (.ref fd41) = true)
    (ad42 : PySem.W.nsIn K mainGlobals "_is_deed" = some (some (.ref fd42))) (ld42 : K.lookup fd42 = some ⟨ocd42, odd42, .func (PySem.W.fnOf "_is_deed" "_is_deed" (defArgs sIsDeed) (defBody sIsDeed) (defScope sIsDeed) .none kVd42 dcd42 pmd42 and42 cdd42 ctd42), sld42⟩) (od42 : PySem.W.codeIn K cdd42 "_is_deed" = true) (kd42 : PySem.W.keepIn K (.ref fd42) = true)
    (ad43 : PySem.W.nsIn K mainGlobals "_is_deeds" = some (some (.ref fd43))) (ld43 : K.lookup fd43 = some ⟨ocd43, odd43, .func (PySem.W.fnOf "_is_deeds" "_is_deeds" (defArgs sIsDeeds) (defBody sIsDeeds) (defScope sIsDeeds) .none kVd43 dcd43 pmd43 and43 cdd43 ctd43), sld43⟩) (od43 : PySem.W.codeIn K cdd43 "_is_deeds" = true) (kd43 : PySem.W.keepIn K (.ref fd43) = true)
    (ad44 : PySem.W.nsIn K mainGlobals "_is_turns" = some (some (.ref fd44))) (ld44 : K.lookup fd44 = some ⟨ocd44, odd44, .func (PySem.W.fnOf "_is_turns" "_is_turns" (defArgs sIsTurns) (defBody sIsTurns) (defScope sIsTurns) .none kVd44 dcd44 pmd44 and44 cdd44 ctd44), sld44⟩) (od44 : PySem.W.codeIn K cdd44 "_is_turns" = true) (kd44 : PySem.W.keepIn K (.ref fd44) = true)
    (ad45 : PySem.W.nsIn K mainGlobals "woven" = some (some (.ref fd45))) (ld45 : K.lookup fd45 = some ⟨ocd45, odd45, .func (PySem.W.fnOf "woven" "woven" (defArgs sWoven) (defBody sWoven) (defScope sWoven) .none kVd45 dcd45 pmd45 and45 cdd45 ctd45), sld45⟩) (od45 : PySem.W.codeIn K cdd45 "woven" = true) (kd45 : PySem.W.keepIn K (.ref fd45) = true)
    (ad46 : PySem.W.nsIn K mainGlobals "_law_some_deeds" = some (some (.ref fd46))) (ld46 : K.lookup fd46 = some ⟨ocd46, odd46, .func (PySem.W.fnOf "_law_some_deeds" "_law_some_deeds" (defArgs sLSoDe) (defBody sLSoDe) (defScope sLSoDe) .none kVd46 dcd46 pmd46 and46 cdd46 ctd46), sld46⟩) (od46 : PySem.W.codeIn K cdd46 "_law_some_deeds" = true) (kd46 : PySem.W.keepIn K (.ref fd46) = true)
    (ad47 : PySem.W.nsIn K mainGlobals "_law_turns" = some (some (.ref fd47))) (ld47 : K.lookup fd47 = some ⟨ocd47, odd47, .func (PySem.W.fnOf "_law_turns" "_law_turns" (defArgs sLTurns) (defBody sLTurns) (defScope sLTurns) .none kVd47 dcd47 pmd47 and47 cdd47 ctd47), sld47⟩) (od47 : PySem.W.codeIn K cdd47 "_law_turns" = true) (kd47 : PySem.W.keepIn K (.ref fd47) = true)
    (aW : PySem.W.nsIn K mainGlobals "law" = some (some (.ref fW))) (lW : K.lookup fW = some ⟨ocW, odW, .func (PySem.W.fnOf "law" "law" (defArgs sLaw) (defBody sLaw) (defScope sLaw) .none kVW dcW pmW anW cdW ctW), slW⟩) (oW : PySem.W.codeIn K cdW "law" = true) (kW : PySem.W.keepIn K (.ref fW) = true)
    (zisinstance : PySem.W.nsIn K mainGlobals "isinstance" = some none) (ztuple : PySem.W.nsIn K mainGlobals "tuple" = some none) (zlist : PySem.W.nsIn K mainGlobals "list" = some none) (zbool : PySem.W.nsIn K mainGlobals "bool" = some none) (zlen : PySem.W.nsIn K mainGlobals "len" = some none) (zall : PySem.W.nsIn K mainGlobals "all" = some none) (zzip : PySem.W.nsIn K mainGlobals "zip" = some none) (zint : PySem.W.nsIn K mainGlobals "int" = some none) (zabs : PySem.W.nsIn K mainGlobals "abs" = some none) (zrange : PySem.W.nsIn K mainGlobals "range" = some none) (zenumerate : PySem.W.nsIn K mainGlobals "enumerate" = some none) (zreversed : PySem.W.nsIn K mainGlobals "reversed" = some none) (zsorted : PySem.W.nsIn K mainGlobals "sorted" = some none) (zmin : PySem.W.nsIn K mainGlobals "min" = some none) (zany : PySem.W.nsIn K mainGlobals "any" = some none) (zdict : PySem.W.nsIn K mainGlobals "dict" = some none) (zValueError : PySem.W.nsIn K mainGlobals "ValueError" = some none) (zstr : PySem.W.nsIn K mainGlobals "str" = some none)
    : ∃ fd : FuncData, (∀ (s : Shared) (v : Value), BindsTo s fd ⟨[v], []⟩ [("_law_script", v)]) ∧ ∀ base : Heap, K.In base → base.Ns mainGlobals mg → FnOk P w K mg base CX0 8 fa fd ["_law_script"] (spLaw K) := by
  have e := hfa.symm.trans (PySem.W.mg_of X G aW)
  cases e
  have IT : IsTxt mg := ⟨PySem.W.mg_none_of X G zisinstance, PySem.W.mg_none_of X G ztuple, PySem.W.mg_none_of X G zlist, PySem.W.mg_none_of X G zbool, PySem.W.mg_none_of X G zlen, PySem.W.mg_none_of X G zall, PySem.W.mg_none_of X G zzip⟩
  have NT : NamT mg := ⟨IT, PySem.W.mg_none_of X G zint, PySem.W.mg_none_of X G zabs, PySem.W.mg_none_of X G zrange, PySem.W.mg_none_of X G zenumerate, PySem.W.mg_none_of X G zreversed, PySem.W.mg_none_of X G zsorted, PySem.W.mg_none_of X G zmin⟩
  have Fd0 := fun_mk (st := sLWord) ld0 od0 kd0
  have Dd0 : ∃ f fd, DefAt K mg "_law_word" sLWord ["_law_pool_here", "_law_place"] f fd := ⟨_, _, ⟨Fd0, Fd0.binds (ps := ["_law_pool_here", "_law_place"]) fun _ _ _ _ _ _ us hl => match us, hl with | [_, _], _ => rfl, PySem.W.mg_of X G ad0⟩⟩
  have Fd1 := fun_mk (st := sIsInt) ld1 od1 kd1
  have Dd1 : ∃ f fd, DefAt K mg "is_integer" sIsInt ["thing"] f fd := ⟨_, _, ⟨Fd1, Fd1.binds (ps := ["thing"]) fun _ _ _ _ _ _ us hl => match us, hl with | [_], _ => rfl, PySem.W.mg_of X G ad1⟩⟩
  have Fd2 := fun_mk (st := sIsBtw) ld2 od2 kd2
  have Dd2 : ∃ f fd, DefAt K mg "is_between" sIsBtw ["thing", "least", "most"] f fd := ⟨_, _, ⟨Fd2, Fd2.binds (ps := ["thing", "least", "most"]) fun _ _ _ _ _ _ us hl => match us, hl with | [_, _, _], _ => rfl, PySem.W.mg_of X G ad2⟩⟩
  have Fd3 := fun_mk (st := sIsLot) ld3 od3 kd3
  have Dd3 : ∃ f fd, DefAt K mg "is_lot" sIsLot ["thing"] f fd := ⟨_, _, ⟨Fd3, Fd3.binds (ps := ["thing"]) fun _ _ _ _ _ _ us hl => match us, hl with | [_], _ => rfl, PySem.W.mg_of X G ad3⟩⟩
  have Fd4 := fun_mk (st := sLotOf) ld4 od4 kd4
  have Dd4 : ∃ f fd, DefAt K mg "_is_lot_of_places" sLotOf ["thing", "many"] f fd := ⟨_, _, ⟨Fd4, Fd4.binds (ps := ["thing", "many"]) fun _ _ _ _ _ _ us hl => match us, hl with | [_, _], _ => rfl, PySem.W.mg_of X G ad4⟩⟩
  have Fd5 := fun_mk (st := sIsPlace) ld5 od5 kd5
  have Dd5 : ∃ f fd, DefAt K mg "is_place" sIsPlace ["forest", "thing"] f fd := ⟨_, _, ⟨Fd5, Fd5.binds (ps := ["forest", "thing"]) fun _ _ _ _ _ _ us hl => match us, hl with | [_, _], _ => rfl, PySem.W.mg_of X G ad5⟩⟩
  have Fd6 := fun_mk (st := sWay) ld6 od6 kd6
  have Dd6 : ∃ f fd, DefAt K mg "way" sWay ["forest", "place"] f fd := ⟨_, _, ⟨Fd6, Fd6.binds (ps := ["forest", "place"]) fun _ _ _ _ _ _ us hl => match us, hl with | [_, _], _ => rfl, PySem.W.mg_of X G ad6⟩⟩
  have Fd7 := fun_mk (st := sIsPlan) ld7 od7 kd7
  have Dd7 : ∃ f fd, DefAt K mg "is_plan" sIsPlan ["forest", "thing"] f fd := ⟨_, _, ⟨Fd7, Fd7.binds (ps := ["forest", "thing"]) fun _ _ _ _ _ _ us hl => match us, hl with | [_, _], _ => rfl, PySem.W.mg_of X G ad7⟩⟩
  have Fd8 := fun_mk (st := sStacks) ld8 od8 kd8
  have Dd8 : ∃ f fd, DefAt K mg "_stacks" sStacks ["forest", "plan"] f fd := ⟨_, _, ⟨Fd8, Fd8.binds (ps := ["forest", "plan"]) fun _ _ _ _ _ _ us hl => match us, hl with | [_, _], _ => rfl, PySem.W.mg_of X G ad8⟩⟩
  have Fd9 := fun_mk (st := sNoteAt) ld9 od9 kd9
  have Dd9 : ∃ f fd, DefAt K mg "_note_at" sNoteAt ["forest", "found", "place"] f fd := ⟨_, _, ⟨Fd9, Fd9.binds (ps := ["forest", "found", "place"]) fun _ _ _ _ _ _ us hl => match us, hl with | [_, _, _], _ => rfl, PySem.W.mg_of X G ad9⟩⟩
  have Fd10 := fun_mk (st := sByPlace) ld10 od10 kd10
  have Dd10 : ∃ f fd, DefAt K mg "notes_by_place" sByPlace ["forest", "plan"] f fd := ⟨_, _, ⟨Fd10, Fd10.binds (ps := ["forest", "plan"]) fun _ _ _ _ _ _ us hl => match us, hl with | [_, _], _ => rfl, PySem.W.mg_of X G ad10⟩⟩
  have Fd11 := fun_mk (st := sDraw) ld11 od11 kd11
  have Dd11 : ∃ f fd, DefAt K mg "_law_draw" sDraw ["_law_pool_here", "_law_many"] f fd := ⟨_, _, ⟨Fd11, Fd11.binds (ps := ["_law_pool_here", "_law_many"]) fun _ _ _ _ _ _ us hl => match us, hl with | [_, _], _ => rfl, PySem.W.mg_of X G ad11⟩⟩
  have Fd12 := fun_mk (st := sIs) ld12 od12 kd12
  have Dd12 : ∃ f fd, DefAt K mg "_law_is" sIs ["_law_told", "_law_due"] f fd := ⟨_, _, ⟨Fd12, Fd12.binds (ps := ["_law_told", "_law_due"]) fun _ _ _ _ _ _ us hl => match us, hl with | [_, _], _ => rfl, PySem.W.mg_of X G ad12⟩⟩
  have Fd13 := fun_mk (st := sParents) ld13 od13 kd13
  have Dd13 : ∃ f fd, DefAt K mg "_law_parents" sParents ["_law_pool_here", "_law_many"] f fd := ⟨_, _, ⟨Fd13, Fd13.binds (ps := ["_law_pool_here", "_law_many"]) fun _ _ _ _ _ _ us hl => match us, hl with | [_, _], _ => rfl, PySem.W.mg_of X G ad13⟩⟩
  have Fd14 := fun_mk (st := sLawLot) ld14 od14 kd14
  have Dd14 : ∃ f fd, DefAt K mg "_law_lot" sLawLot ["_law_pool_here", "_law_many", "_law_sides"] f fd := ⟨_, _, ⟨Fd14, Fd14.binds (ps := ["_law_pool_here", "_law_many", "_law_sides"]) fun _ _ _ _ _ _ us hl => match us, hl with | [_, _, _], _ => rfl, PySem.W.mg_of X G ad14⟩⟩
  have Fd15 := fun_mk (st := sMade) ld15 od15 kd15
  have Dd15 : ∃ f fd, DefAt K mg "_law_made" sMade ["_law_spec_here"] f fd := ⟨_, _, ⟨Fd15, Fd15.binds (ps := ["_law_spec_here"]) fun _ _ _ _ _ _ us hl => match us, hl with | [_], _ => rfl, PySem.W.mg_of X G ad15⟩⟩
  have Fd16 := fun_mk (st := sHand) ld16 od16 kd16
  have Dd16 : ∃ f fd, DefAt K mg "_law_pool" sHand ["_law_script"] f fd := ⟨_, _, ⟨Fd16, Fd16.binds (ps := ["_law_script"]) fun _ _ _ _ _ _ us hl => match us, hl with | [_], _ => rfl, PySem.W.mg_of X G ad16⟩⟩
  have Fd17 := fun_mk (st := sPick) ld17 od17 kd17
  have Dd17 : ∃ f fd, DefAt K mg "_law_pick" sPick ["_law_pool_here", "_law_things"] f fd := ⟨_, _, ⟨Fd17, Fd17.binds (ps := ["_law_pool_here", "_law_things"]) fun _ _ _ _ _ _ us hl => match us, hl with | [_, _], _ => rfl, PySem.W.mg_of X G ad17⟩⟩
  have Fd18 := fun_mk (st := sSpec) ld18 od18 kd18
  have Dd18 : ∃ f fd, DefAt K mg "_law_spec" sSpec ["_law_pool_here", "_law_least", "_law_most"] f fd := ⟨_, _, ⟨Fd18, Fd18.binds (ps := ["_law_pool_here", "_law_least", "_law_most"]) fun _ _ _ _ _ _ us hl => match us, hl with | [_, _, _], _ => rfl, PySem.W.mg_of X G ad18⟩⟩
  have Fd19 := fun_mk (st := sDPlan) ld19 od19 kd19
  have Dd19 : ∃ f fd, DefAt K mg "_law_plan" sDPlan ["_law_pool_here", "_law_parents_here"] f fd := ⟨_, _, ⟨Fd19, Fd19.binds (ps := ["_law_pool_here", "_law_parents_here"]) fun _ _ _ _ _ _ us hl => match us, hl with | [_, _], _ => rfl, PySem.W.mg_of X G ad19⟩⟩
  have Fd20 := fun_mk (st := sLWay) ld20 od20 kd20
  have Dd20 : ∃ f fd, DefAt K mg "_law_way" sLWay ["_law_parents_here", "_law_place"] f fd := ⟨_, _, ⟨Fd20, Fd20.binds (ps := ["_law_parents_here", "_law_place"]) fun _ _ _ _ _ _ us hl => match us, hl with | [_, _], _ => rfl, PySem.W.mg_of X G ad20⟩⟩
  have Fd21 := fun_mk (st := sIsBear) ld21 od21 kd21
  have Dd21 : ∃ f fd, DefAt K mg "is_bearing" sIsBear ["forest", "thing"] f fd := ⟨_, _, ⟨Fd21, Fd21.binds (ps := ["forest", "thing"]) fun _ _ _ _ _ _ us hl => match us, hl with | [_, _], _ => rfl, PySem.W.mg_of X G ad21⟩⟩
  have Fd22 := fun_mk (st := sIsAsk) ld22 od22 kd22
  have Dd22 : ∃ f fd, DefAt K mg "is_asking" sIsAsk ["forest", "thing"] f fd := ⟨_, _, ⟨Fd22, Fd22.binds (ps := ["forest", "thing"]) fun _ _ _ _ _ _ us hl => match us, hl with | [_, _], _ => rfl, PySem.W.mg_of X G ad22⟩⟩
  have Fd23 := fun_mk (st := sIsAmt) ld23 od23 kd23
  have Dd23 : ∃ f fd, DefAt K mg "is_amounts" sIsAmt ["forest", "thing"] f fd := ⟨_, _, ⟨Fd23, Fd23.binds (ps := ["forest", "thing"]) fun _ _ _ _ _ _ us hl => match us, hl with | [_, _], _ => rfl, PySem.W.mg_of X G ad23⟩⟩
  have Fd24 := fun_mk (st := sLWords) ld24 od24 kd24
  have Dd24 : ∃ f fd, DefAt K mg "_law_words" sLWords ["_law_pool_here", "_law_places"] f fd := ⟨_, _, ⟨Fd24, Fd24.binds (ps := ["_law_pool_here", "_law_places"]) fun _ _ _ _ _ _ us hl => match us, hl with | [_, _], _ => rfl, PySem.W.mg_of X G ad24⟩⟩
  have Fd25 := fun_mk (st := sLJoin) ld25 od25 kd25
  have Dd25 : ∃ f fd, DefAt K mg "_law_joined" sLJoin ["_law_one", "_law_other"] f fd := ⟨_, _, ⟨Fd25, Fd25.binds (ps := ["_law_one", "_law_other"]) fun _ _ _ _ _ _ us hl => match us, hl with | [_, _], _ => rfl, PySem.W.mg_of X G ad25⟩⟩
  have Fd26 := fun_mk (st := sIsEv) ld26 od26 kd26
  have Dd26 : ∃ f fd, DefAt K mg "_is_event" sIsEv ["forest", "thing"] f fd := ⟨_, _, ⟨Fd26, Fd26.binds (ps := ["forest", "thing"]) fun _ _ _ _ _ _ us hl => match us, hl with | [_, _], _ => rfl, PySem.W.mg_of X G ad26⟩⟩
  have Fd27 := fun_mk (st := sAreEv) ld27 od27 kd27
  have Dd27 : ∃ f fd, DefAt K mg "are_events" sAreEv ["forest", "thing"] f fd := ⟨_, _, ⟨Fd27, Fd27.binds (ps := ["forest", "thing"]) fun _ _ _ _ _ _ us hl => match us, hl with | [_, _], _ => rfl, PySem.W.mg_of X G ad27⟩⟩
  have Fd28 := fun_mk (st := sIsHist) ld28 od28 kd28
  have Dd28 : ∃ f fd, DefAt K mg "is_history" sIsHist ["forest", "thing"] f fd := ⟨_, _, ⟨Fd28, Fd28.binds (ps := ["forest", "thing"]) fun _ _ _ _ _ _ us hl => match us, hl with | [_, _], _ => rfl, PySem.W.mg_of X G ad28⟩⟩
  have Fd29 := fun_mk (st := sEndsOf) ld29 od29 kd29
  have Dd29 : ∃ f fd, DefAt K mg "ends_of" sEndsOf ["history"] f fd := ⟨_, _, ⟨Fd29, Fd29.binds (ps := ["history"]) fun _ _ _ _ _ _ us hl => match us, hl with | [_], _ => rfl, PySem.W.mg_of X G ad29⟩⟩
  have Fd30 := fun_mk (st := sOutd) ld30 od30 kd30
  have Dd30 : ∃ f fd, DefAt K mg "_is_outdated" sOutd ["lives", "end", "asked_at"] f fd := ⟨_, _, ⟨Fd30, Fd30.binds (ps := ["lives", "end", "asked_at"]) fun _ _ _ _ _ _ us hl => match us, hl with | [_, _, _], _ => rfl, PySem.W.mg_of X G ad30⟩⟩
  have Fd31 := fun_mk (st := sChoi) ld31 od31 kd31
  have Dd31 : ∃ f fd, DefAt K mg "choices" sChoi ["lives", "asked_at"] f fd := ⟨_, _, ⟨Fd31, Fd31.binds (ps := ["lives", "asked_at"]) fun _ _ _ _ _ _ us hl => match us, hl with | [_, _], _ => rfl, PySem.W.mg_of X G ad31⟩⟩
  have Fd32 := fun_mk (st := sPoss) ld32 od32 kd32
  have Dd32 : ∃ f fd, DefAt K mg "_is_possible" sPoss ["adding", "chosen", "answer"] f fd := ⟨_, _, ⟨Fd32, Fd32.binds (ps := ["adding", "chosen", "answer"]) fun _ _ _ _ _ _ us hl => match us, hl with | [_, _, _], _ => rfl, PySem.W.mg_of X G ad32⟩⟩
  have Fd33 := fun_mk (st := sWrong) ld33 od33 kd33
  have Dd33 : ∃ f fd, DefAt K mg "wrong_answer" sWrong ["forest", "amounts", "adding", "history"] f fd := ⟨_, _, ⟨Fd33, Fd33.binds (ps := ["forest", "amounts", "adding", "history"]) fun _ _ _ _ _ _ us hl => match us, hl with | [_, _, _, _], _ => rfl, PySem.W.mg_of X G ad33⟩⟩
  have Fd34 := fun_mk (st := sLMayC) ld34 od34 kd34
  have Dd34 : ∃ f fd, DefAt K mg "_law_may_count" sLMayC ["_law_history", "_law_place", "_law_amount", "_law_begin", "_law_end"] f fd := ⟨_, _, ⟨Fd34, Fd34.binds (ps := ["_law_history", "_law_place", "_law_amount", "_law_begin", "_law_end"]) fun _ _ _ _ _ _ us hl => match us, hl with | [_, _, _, _, _], _ => rfl, PySem.W.mg_of X G ad34⟩⟩
  have Fd35 := fun_mk (st := sLChoi) ld35 od35 kd35
  have Dd35 : ∃ f fd, DefAt K mg "_law_choices" sLChoi ["_law_spec_here", "_law_amounts", "_law_history", "_law_end"] f fd := ⟨_, _, ⟨Fd35, Fd35.binds (ps := ["_law_spec_here", "_law_amounts", "_law_history", "_law_end"]) fun _ _ _ _ _ _ us hl => match us, hl with | [_, _, _, _], _ => rfl, PySem.W.mg_of X G ad35⟩⟩
  have Fd36 := fun_mk (st := sLAllA) ld36 od36 kd36
  have Dd36 : ∃ f fd, DefAt K mg "_law_all_answers" sLAllA ["_law_add", "_law_choices_here"] f fd := ⟨_, _, ⟨Fd36, Fd36.binds (ps := ["_law_add", "_law_choices_here"]) fun _ _ _ _ _ _ us hl => match us, hl with | [_, _], _ => rfl, PySem.W.mg_of X G ad36⟩⟩
  have Fd37 := fun_mk (st := sLProd) ld37 od37 kd37
  have Dd37 : ∃ f fd, DefAt K mg "_law_product" sLProd ["_law_choices_here"] f fd := ⟨_, _, ⟨Fd37, Fd37.binds (ps := ["_law_choices_here"]) fun _ _ _ _ _ _ us hl => match us, hl with | [_], _ => rfl, PySem.W.mg_of X G ad37⟩⟩
  have Fd38 := fun_mk (st := sLFirstW) ld38 od38 kd38
  have Dd38 : ∃ f fd, DefAt K mg "_law_first_wrong" sLFirstW ["_law_spec_here", "_law_amounts", "_law_add", "_law_history", "_law_most"] f fd := ⟨_, _, ⟨Fd38, Fd38.binds (ps := ["_law_spec_here", "_law_amounts", "_law_add", "_law_history", "_law_most"]) fun _ _ _ _ _ _ us hl => match us, hl with | [_, _, _, _, _], _ => rfl, PySem.W.mg_of X G ad38⟩⟩
  have Fd39 := fun_mk (st := sTogt) ld39 od39 kd39
  have Dd39 : ∃ f fd, DefAt K mg "together" sTogt ["adding", "things"] f fd := ⟨_, _, ⟨Fd39, Fd39.binds (ps := ["adding", "things"]) fun _ _ _ _ _ _ us hl => match us, hl with | [_, _], _ => rfl, PySem.W.mg_of X G ad39⟩⟩
  have Fd40 := fun_mk (st := sHold1) ld40 od40 kd40
  have Dd40 : ∃ f fd, DefAt K mg "holding_one" sHold1 ["notes", "places"] f fd := ⟨_, _, ⟨Fd40, Fd40.binds (ps := ["notes", "places"]) fun _ _ _ _ _ _ us hl => match us, hl with | [_, _], _ => rfl, PySem.W.mg_of X G ad40⟩⟩
  have Fd41 := fun_mk (st := sReadAt) ld41 od41 kd41
  have Dd41 : ∃ f fd, DefAt K mg "reading_at" sReadAt ["notes", "place"] f fd := ⟨_, _, ⟨Fd41, Fd41.binds (ps := ["notes", "place"]) fun _ _ _ _ _ _ us hl => match us, hl with | [_, _], _ => rfl, PySem.W.mg_of X G ad41⟩⟩
  have Fd42 := fun_mk (st := sIsDeed) ld42 od42 kd42
  have Dd42 : ∃ f fd, DefAt K mg "_is_deed" sIsDeed ["forest", "thing"] f fd := ⟨_, _, ⟨Fd42, Fd42.binds (ps := ["forest", "thing"]) fun _ _ _ _ _ _ us hl => match us, hl with | [_, _], _ => rfl, PySem.W.mg_of X G ad42⟩⟩
  have Fd43 := fun_mk (st := sIsDeeds) ld43 od43 kd43
  have Dd43 : ∃ f fd, DefAt K mg "_is_deeds" sIsDeeds ["forest", "thing"] f fd := ⟨_, _, ⟨Fd43, Fd43.binds (ps := ["forest", "thing"]) fun _ _ _ _ _ _ us hl => match us, hl with | [_, _], _ => rfl, PySem.W.mg_of X G ad43⟩⟩
  have Fd44 := fun_mk (st := sIsTurns) ld44 od44 kd44
  have Dd44 : ∃ f fd, DefAt K mg "_is_turns" sIsTurns ["deeds", "thing"] f fd := ⟨_, _, ⟨Fd44, Fd44.binds (ps := ["deeds", "thing"]) fun _ _ _ _ _ _ us hl => match us, hl with | [_, _], _ => rfl, PySem.W.mg_of X G ad44⟩⟩
  have Fd45 := fun_mk (st := sWoven) ld45 od45 kd45
  have Dd45 : ∃ f fd, DefAt K mg "woven" sWoven ["forest", "plan", "amounts", "adding", "deeds", "turns"] f fd := ⟨_, _, ⟨Fd45, Fd45.binds (ps := ["forest", "plan", "amounts", "adding", "deeds", "turns"]) fun _ _ _ _ _ _ us hl => match us, hl with | [_, _, _, _, _, _], _ => rfl, PySem.W.mg_of X G ad45⟩⟩
  have Fd46 := fun_mk (st := sLSoDe) ld46 od46 kd46
  have Dd46 : ∃ f fd, DefAt K mg "_law_some_deeds" sLSoDe ["_law_pool_here", "_law_spec_here", "_law_most"] f fd := ⟨_, _, ⟨Fd46, Fd46.binds (ps := ["_law_pool_here", "_law_spec_here", "_law_most"]) fun _ _ _ _ _ _ us hl => match us, hl with | [_, _, _], _ => rfl, PySem.W.mg_of X G ad46⟩⟩
  have Fd47 := fun_mk (st := sLTurns) ld47 od47 kd47
  have Dd47 : ∃ f fd, DefAt K mg "_law_turns" sLTurns ["_law_pool_here", "_law_many", "_law_most"] f fd := ⟨_, _, ⟨Fd47, Fd47.binds (ps := ["_law_pool_here", "_law_many", "_law_most"]) fun _ _ _ _ _ _ us hl => match us, hl with | [_, _, _], _ => rfl, PySem.W.mg_of X G ad47⟩⟩
  have FW := fun_mk (st := sLaw) lW oW kW
  have FLo0 := fun_mk (st := sLo_init) lLo0 oLo0 kLo0
  have bLo0 := FLo0.binds (ps := ["self", "notes", "amounts", "adding"]) fun _ _ _ _ _ _ us hl => match us, hl with | [_, _, _, _], _ => rfl
  have FLo1 := fun_mk (st := sLo_put_together) lLo1 oLo1 kLo1
  have bLo1 := FLo1.binds (ps := ["self", "s"]) fun _ _ _ _ _ _ us hl => match us, hl with | [_, _], _ => rfl
  have FLo2 := fun_mk (st := sLo_turn) lLo2 oLo2 kLo2
  have bLo2 := FLo2.binds (ps := ["self", "k", "deed"]) fun _ _ _ _ _ _ us hl => match us, hl with | [_, _, _], _ => rfl
  have FLo3 := fun_mk (st := sLo_begin) lLo3 oLo3 kLo3
  have bLo3 := FLo3.binds (ps := ["self", "k", "deed"]) fun _ _ _ _ _ _ us hl => match us, hl with | [_, _, _], _ => rfl
  have FLo4 := fun_mk (st := sLo_go_on) lLo4 oLo4 kLo4
  have bLo4 := FLo4.binds (ps := ["self", "k", "deed"]) fun _ _ _ _ _ _ us hl => match us, hl with | [_, _, _], _ => rfl
  have FLo5 := fun_mk (st := sLo_end) lLo5 oLo5 kLo5
  have bLo5 := FLo5.binds (ps := ["self", "k", "deed"]) fun _ _ _ _ _ _ us hl => match us, hl with | [_, _, _], _ => rfl
  have ULo : LoT K mg ZLo := ⟨⟨pgLo, hdLo, poLo, saLo⟩, PySem.W.mg_of X G aCLo, nLo_notes, nLo_amounts, nLo_adding, nLo_sums, nLo_events, nLo_ahead, nLo_read, ⟨_, _, FLo0, ⟨mkLo, aLo0, iLo0, kcLo⟩, bLo0⟩, ⟨_, _, FLo1, ⟨aLo1, iLo1, kLo1⟩, bLo1⟩, ⟨_, _, FLo2, ⟨aLo2, iLo2, kLo2⟩, bLo2⟩, ⟨_, _, FLo3, ⟨aLo3, iLo3, kLo3⟩, bLo3⟩, ⟨_, _, FLo4, ⟨aLo4, iLo4, kLo4⟩, bLo4⟩, ⟨_, _, FLo5, ⟨aLo5, iLo5, kLo5⟩, bLo5⟩⟩
  have FN := fun_mk (st := sInit) lN oN kN
  have bN := FN.binds (ps := ["self", "parents", "bearing", "asking"]) fun _ _ _ _ _ _ us hl => match us, hl with | [_, _, _, _], _ => rfl
  have T : FoT K mg C := ⟨⟨pg, hd, po, sa⟩, nP, nB, nA, PySem.W.mg_of X G aC⟩
  have B : Defs K mg C := ⟨NT, T, ⟨tm, PySem.W.mg_of X G mM⟩, ⟨tmMOST_EVENTS, PySem.W.mg_of X G mMOST_EVENTS⟩, ⟨tmMOST_CHOICES, PySem.W.mg_of X G mMOST_CHOICES⟩, ⟨tmMOST_DEEDS, PySem.W.mg_of X G mMOST_DEEDS⟩, ⟨tmMOST_TURNS, PySem.W.mg_of X G mMOST_TURNS⟩, PySem.W.mg_none_of X G zany, PySem.W.mg_none_of X G zdict, PySem.W.mg_none_of X G zValueError, PySem.W.mg_none_of X G zstr, ⟨_, ULo⟩, ⟨_, _, FN, ⟨mk, aN, iN, kc⟩, bN⟩, Dd0, Dd1, Dd2, Dd3, Dd4, Dd5, Dd6, Dd7, Dd8, Dd9, Dd10, Dd11, Dd12, Dd13, Dd14, Dd15, Dd16, Dd17, Dd18, Dd19, Dd20, Dd21, Dd22, Dd23, Dd24, Dd25, Dd26, Dd27, Dd28, Dd29, Dd30, Dd31, Dd32, Dd33, Dd34, Dd35, Dd36, Dd37, Dd38, Dd39, Dd40, Dd41, Dd42, Dd43, Dd44, Dd45, Dd46, Dd47⟩
  exact ⟨PySem.W.fnOf "law" "law" (defArgs sLaw) (defBody sLaw) (defScope sLaw) .none kVW dcW pmW anW cdW ctW, fun s v => .of_eq rfl, fun base _ _ => ok_law FW B ⟨aEN, esEN, nEN, tE1, tE2, PySem.W.mg_of X G aEn, ⟨lEn, kEn, oEn⟩, e1En, e2En, e3En, e4En⟩⟩
theorem walk {l : PySem.W.OpenLaw} {q : Program} {loose : List Str} {XP : (Str → Option Value) → Heap → Prop} {YP : World → Heap → Prop} {d : DefRec} {K : Params → PySem.W.Frag} (hn : l.most = some 63) (hdf : d.params.defaults = [])
    (hY : ∀ (w : World) (h : Heap), YP w h → (K w.params).In h)
    (F : ∀ (w : World) (mg : Str → Option Value) (fa : Addr) (h : Heap), (K w.params).In h → h.Ns mainGlobals mg → mg d.name = some (.ref fa) →
      ∃ fd : FuncData, (∀ (s : Shared) (u : Value), BindsTo s fd ⟨[u], []⟩ [("_law_script", u)]) ∧ ∀ base : Heap, (K w.params).In base → base.Ns mainGlobals mg → FnOk l.prog w (K w.params) mg base CX0 8 fa fd ["_law_script"] (spLaw (K w.params))) :
    PySem.W.WalkO q loose XP YP l.row.toRowW d [] (fun f vs => PySem.call f vs) :=
  L2.walk_of (n := 63) (k := 8) (x := "_law_script") (CX := fun _ => CX0) (sp := fun w => spLaw (K w.params)) hn (by decide) hdf ⟨rfl, by decide, by decide⟩ hY F (fun _ _ a ns hl _ hS => ⟨a, ns, rfl, hS, hl, fun _ => rfl⟩) fun _ _ _ _ _ z => z
end Cn
open PySem PySem.W PyProof.Rows
set_option maxRecDepth 100000 in
set_option maxHeartbeats 0 in
theorem PySem.Challenge.cw_cutnotes_k42_whole_what_is_woven_is_poss_holds : PySem.Challenge.rw_cutnotes_k42_whole_what_is_woven_is_poss.Holds := by
  w_on; o_law; k_head; (case hw => w_witness2)
  k_fill
  refine Cn.walk (l := PySem.Challenge.rw_cutnotes_k42_whole_what_is_woven_is_poss) rfl rfl (fun w h Y => PySem.W.kIn_of Y) ?F
  case F =>
    intro w mg fa h KX G hmg
    refine' Cn.all_mk KX G hmg ?aC ?pg ?hd ?po ?sa ?mk ?kc ?nP ?nB ?nA ?mM ?mMOST_EVENTS ?mMOST_CHOICES ?mMOST_DEEDS ?mMOST_TURNS ?aN ?iN ?lN ?oN ?kN ?aCLo ?pgLo ?hdLo ?poLo ?saLo ?mkLo ?kcLo ?nLo_notes ?nLo_amounts ?nLo_adding ?nLo_sums ?nLo_events ?nLo_ahead ?nLo_read ?a_Lo0 ?i_Lo0 ?l_Lo0 ?o_Lo0 ?k_Lo0 ?a_Lo1 ?i_Lo1 ?l_Lo1 ?o_Lo1 ?k_Lo1 ?a_Lo2 ?i_Lo2 ?l_Lo2 ?o_Lo2 ?k_Lo2 ?a_Lo3 ?i_Lo3 ?l_Lo3 ?o_Lo3 ?k_Lo3 ?a_Lo4 ?i_Lo4 ?l_Lo4 ?o_Lo4 ?k_Lo4 ?a_Lo5 ?i_Lo5 ?l_Lo5 ?o_Lo5 ?k_Lo5 ?aEn ?lEn ?kEn ?oEn ?e1En ?e2En ?e3En ?e4En ?a_d0 ?l_d0 ?o_d0 ?k_d0 ?a_d1 ?l_d1 ?o_d1 ?k_d1 ?a_d2 ?l_d2 ?o_d2 ?k_d2 ?a_d3 ?l_d3 ?o_d3 ?k_d3 ?a_d4 ?l_d4 ?o_d4 ?k_d4 ?a_d5 ?l_d5 ?o_d5 ?k_d5 ?a_d6 ?l_d6 ?o_d6 ?k_d6 ?a_d7 ?l_d7 ?o_d7 ?k_d7 ?a_d8 ?l_d8 ?o_d8 ?k_d8 ?a_d9 ?l_d9 ?o_d9 ?k_d9 ?a_d10 ?l_d10 ?o_d10 ?k_d10 ?a_d11 ?l_d11 ?o_d11 ?k_d11 ?a_d12 ?l_d12 ?o_d12 ?k_d12 ?a_d13 ?l_d13 ?o_d13 ?k_d13 ?a_d14 ?l_d14 ?o_d14 ?k_d14 ?a_d15 ?l_d15 ?o_d15 ?k_d15 ?a_d16 ?l_d16 ?o_d16 ?k_d16 ?a_d17 ?l_d17 ?o_d17 ?k_d17 ?a_d18 ?l_d18 ?o_d18 ?k_d18 ?a_d19 ?l_d19 ?o_d19 ?k_d19 ?a_d20 ?l_d20 ?o_d20 ?k_d20 ?a_d21 ?l_d21 ?o_d21 ?k_d21 ?a_d22 ?l_d22 ?o_d22 ?k_d22 ?a_d23 ?l_d23 ?o_d23 ?k_d23 ?a_d24 ?l_d24 ?o_d24 ?k_d24 ?a_d25 ?l_d25 ?o_d25 ?k_d25 ?a_d26 ?l_d26 ?o_d26 ?k_d26 ?a_d27 ?l_d27 ?o_d27 ?k_d27 ?a_d28 ?l_d28 ?o_d28 ?k_d28 ?a_d29 ?l_d29 ?o_d29 ?k_d29 ?a_d30 ?l_d30 ?o_d30 ?k_d30 ?a_d31 ?l_d31 ?o_d31 ?k_d31 ?a_d32 ?l_d32 ?o_d32 ?k_d32 ?a_d33 ?l_d33 ?o_d33 ?k_d33 ?a_d34 ?l_d34 ?o_d34 ?k_d34 ?a_d35 ?l_d35 ?o_d35 ?k_d35 ?a_d36 ?l_d36 ?o_d36 ?k_d36 ?a_d37 ?l_d37 ?o_d37 ?k_d37 ?a_d38 ?l_d38 ?o_d38 ?k_d38 ?a_d39 ?l_d39 ?o_d39 ?k_d39 ?a_d40 ?l_d40 ?o_d40 ?k_d40 ?a_d41 ?l_d41 ?o_d41 ?k_d41 ?a_d42 ?l_d42 ?o_d42 ?k_d42 ?a_d43 ?l_d43 ?o_d43 ?k_d43 ?a_d44 ?l_d44 ?o_d44 ?k_d44 ?a_d45 ?l_d45 ?o_d45 ?k_d45 ?a_d46 ?l_d46 ?o_d46 ?k_d46 ?a_d47 ?l_d47 ?o_d47 ?k_d47 ?a_W ?l_W ?o_W ?k_W ?z_isinstance ?z_tuple ?z_list ?z_bool ?z_len ?z_all ?z_zip ?z_int ?z_abs ?z_range ?z_enumerate ?z_reversed ?z_sorted ?z_min ?z_any ?z_dict ?z_ValueError ?z_str
    (case aC => k_is); (case pg => k_is); (case hd => k_is); (case po => k_is); (case sa => k_is); (case mk => k_is); (case kc => k_is); (case nP => k_is)
    (case nB => k_is); (case nA => k_is); (case mM => k_is); (case mMOST_EVENTS => k_is); (case mMOST_CHOICES => k_is); (case mMOST_DEEDS => k_is); (case mMOST_TURNS => k_is); (case aN => k_is)
    (case iN => k_is); (case lN => k_is); (case oN => k_is); (case kN => k_is); (case aCLo => k_is); (case pgLo => k_is); (case hdLo => k_is); (case poLo => k_is)
    (case saLo => k_is); (case mkLo => k_is); (case kcLo => k_is); (case nLo_notes => k_is); (case nLo_amounts => k_is); (case nLo_adding => k_is); (case nLo_sums => k_is); (case nLo_events => k_is)
    (case nLo_ahead => k_is); (case nLo_read => k_is); (case a_Lo0 => k_is); (case i_Lo0 => k_is); (case l_Lo0 => k_is); (case o_Lo0 => k_is); (case k_Lo0 => k_is); (case a_Lo1 => k_is)
    (case i_Lo1 => k_is); (case l_Lo1 => k_is); (case o_Lo1 => k_is); (case k_Lo1 => k_is); (case a_Lo2 => k_is); (case i_Lo2 => k_is); (case l_Lo2 => k_is); (case o_Lo2 => k_is)
    (case k_Lo2 => k_is); (case a_Lo3 => k_is); (case i_Lo3 => k_is); (case l_Lo3 => k_is); (case o_Lo3 => k_is); (case k_Lo3 => k_is); (case a_Lo4 => k_is); (case i_Lo4 => k_is)
    (case l_Lo4 => k_is); (case o_Lo4 => k_is); (case k_Lo4 => k_is); (case a_Lo5 => k_is); (case i_Lo5 => k_is); (case l_Lo5 => k_is); (case o_Lo5 => k_is); (case k_Lo5 => k_is)
    (case aEn => k_is); (case lEn => k_is); (case kEn => k_keys); (case oEn => first | rfl | decide); (case e1En => k_is); (case e2En => k_is); (case e3En => k_is); (case e4En => k_is)
    (case a_d0 => k_is); (case l_d0 => k_is); (case o_d0 => k_is); (case k_d0 => k_is); (case a_d1 => k_is); (case l_d1 => k_is); (case o_d1 => k_is); (case k_d1 => k_is)
    (case a_d2 => k_is); (case l_d2 => k_is); (case o_d2 => k_is); (case k_d2 => k_is); (case a_d3 => k_is); (case l_d3 => k_is); (case o_d3 => k_is); (case k_d3 => k_is)
    (case a_d4 => k_is); (case l_d4 => k_is); (case o_d4 => k_is); (case k_d4 => k_is); (case a_d5 => k_is); (case l_d5 => k_is); (case o_d5 => k_is); (case k_d5 => k_is)
    (case a_d6 => k_is); (case l_d6 => k_is); (case o_d6 => k_is); (case k_d6 => k_is); (case a_d7 => k_is); (case l_d7 => k_is); (case o_d7 => k_is); (case k_d7 => k_is)
    (case a_d8 => k_is); (case l_d8 => k_is); (case o_d8 => k_is); (case k_d8 => k_is); (case a_d9 => k_is); (case l_d9 => k_is); (case o_d9 => k_is); (case k_d9 => k_is)
    (case a_d10 => k_is); (case l_d10 => k_is); (case o_d10 => k_is); (case k_d10 => k_is); (case a_d11 => k_is); (case l_d11 => k_is); (case o_d11 => k_is); (case k_d11 => k_is)
    (case a_d12 => k_is); (case l_d12 => k_is); (case o_d12 => k_is); (case k_d12 => k_is); (case a_d13 => k_is); (case l_d13 => k_is); (case o_d13 => k_is); (case k_d13 => k_is)
    (case a_d14 => k_is); (case l_d14 => k_is); (case o_d14 => k_is); (case k_d14 => k_is); (case a_d15 => k_is); (case l_d15 => k_is); (case o_d15 => k_is); (case k_d15 => k_is)
    (case a_d16 => k_is); (case l_d16 => k_is); (case o_d16 => k_is); (case k_d16 => k_is); (case a_d17 => k_is); (case l_d17 => k_is); (case o_d17 => k_is); (case k_d17 => k_is)
    (case a_d18 => k_is); (case l_d18 => k_is); (case o_d18 => k_is); (case k_d18 => k_is); (case a_d19 => k_is); (case l_d19 => k_is); (case o_d19 => k_is); (case k_d19 => k_is)
    (case a_d20 => k_is); (case l_d20 => k_is); (case o_d20 => k_is); (case k_d20 => k_is); (case a_d21 => k_is); (case l_d21 => k_is); (case o_d21 => k_is); (case k_d21 => k_is)
    (case a_d22 => k_is); (case l_d22 => k_is); (case o_d22 => k_is); (case k_d22 => k_is); (case a_d23 => k_is); (case l_d23 => k_is); (case o_d23 => k_is); (case k_d23 => k_is)
    (case a_d24 => k_is); (case l_d24 => k_is); (case o_d24 => k_is); (case k_d24 => k_is); (case a_d25 => k_is); (case l_d25 => k_is); (case o_d25 => k_is); (case k_d25 => k_is)
    (case a_d26 => k_is); (case l_d26 => k_is); (case o_d26 => k_is); (case k_d26 => k_is); (case a_d27 => k_is); (case l_d27 => k_is); (case o_d27 => k_is); (case k_d27 => k_is)
    (case a_d28 => k_is); (case l_d28 => k_is); (case o_d28 => k_is); (case k_d28 => k_is); (case a_d29 => k_is); (case l_d29 => k_is); (case o_d29 => k_is); (case k_d29 => k_is)
    (case a_d30 => k_is); (case l_d30 => k_is); (case o_d30 => k_is); (case k_d30 => k_is); (case a_d31 => k_is); (case l_d31 => k_is); (case o_d31 => k_is); (case k_d31 => k_is)
    (case a_d32 => k_is); (case l_d32 => k_is); (case o_d32 => k_is); (case k_d32 => k_is); (case a_d33 => k_is); (case l_d33 => k_is); (case o_d33 => k_is); (case k_d33 => k_is)
    (case a_d34 => k_is); (case l_d34 => k_is); (case o_d34 => k_is); (case k_d34 => k_is); (case a_d35 => k_is); (case l_d35 => k_is); (case o_d35 => k_is); (case k_d35 => k_is)
    (case a_d36 => k_is); (case l_d36 => k_is); (case o_d36 => k_is); (case k_d36 => k_is); (case a_d37 => k_is); (case l_d37 => k_is); (case o_d37 => k_is); (case k_d37 => k_is)
    (case a_d38 => k_is); (case l_d38 => k_is); (case o_d38 => k_is); (case k_d38 => k_is); (case a_d39 => k_is); (case l_d39 => k_is); (case o_d39 => k_is); (case k_d39 => k_is)
    (case a_d40 => k_is); (case l_d40 => k_is); (case o_d40 => k_is); (case k_d40 => k_is); (case a_d41 => k_is); (case l_d41 => k_is); (case o_d41 => k_is); (case k_d41 => k_is)
    (case a_d42 => k_is); (case l_d42 => k_is); (case o_d42 => k_is); (case k_d42 => k_is); (case a_d43 => k_is); (case l_d43 => k_is); (case o_d43 => k_is); (case k_d43 => k_is)
    (case a_d44 => k_is); (case l_d44 => k_is); (case o_d44 => k_is); (case k_d44 => k_is); (case a_d45 => k_is); (case l_d45 => k_is); (case o_d45 => k_is); (case k_d45 => k_is)
    (case a_d46 => k_is); (case l_d46 => k_is); (case o_d46 => k_is); (case k_d46 => k_is); (case a_d47 => k_is); (case l_d47 => k_is); (case o_d47 => k_is); (case k_d47 => k_is)
    (case a_W => k_is); (case l_W => k_is); (case o_W => k_is); (case k_W => k_is); (case z_isinstance => k_is); (case z_tuple => k_is); (case z_list => k_is); (case z_bool => k_is)
    (case z_len => k_is); (case z_all => k_is); (case z_zip => k_is); (case z_int => k_is); (case z_abs => k_is); (case z_range => k_is); (case z_enumerate => k_is); (case z_reversed => k_is)
    (case z_sorted => k_is); (case z_min => k_is); (case z_any => k_is); (case z_dict => k_is); (case z_ValueError => k_is); (case z_str => k_is)
#print axioms PySem.Challenge.cw_cutnotes_k42_whole_what_is_woven_is_poss_holds
