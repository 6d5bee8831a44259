import PyProof.Rows.All
import Wide.All
import OpenK.AllK
import Wide.FinOn
import HandS.Base
import HandS.Call
import HandS.List
import HandS.Comp
import HandS.Ends
import HandS.Dict
import HandS.Iter
import HandS.Words
import HandS.WordsList
import PySem.Challenge.RW_cutnotes_k31_whole_what_is_counted_and_w
import HandS.Zip
import HandS.IsInst
import HandS.DeepEq
import HandS.Codes
import KE.GoesMore
import KE.GoesEnum
import PyProof.EnumMake
import PyProof.Draws
import HandS.TupAny
import HandS.Rev
import HandS.Conv
import HandS.Walk
import HandS.More
import HandS.Strs
import HandS.Flow
import HandS.Steps
import HandS.Style
import HandS.DictComp
import KE.GoesEnumKw
import PyProof.P3In
import PyProof.Rows.CallKwBuiltin
import HandS.Deep
import HandS.Text
import HandS.CallLocal
import KE.KDictList
import HandS.TupLe
import KE.DataEq
import HandS.ForMost
set_option Elab.async false
set_option linter.all false
set_option maxRecDepth 100000
set_option maxHeartbeats 4000000
namespace Ck
def road (ps : List (Option Nat)) (i : Nat) : List Nat :=
  match ps[i]? with
  | some (some p) => if _h : p < i then road ps p ++ [i] else [i]
  | _ => [i]
termination_by i
def stk (ps : List (Option Nat)) (lv : List Nat) (i : Nat) : List Nat :=
  match ps[i]? with
  | some (some p) => if _h : p < i then (stk ps lv p).take (lv.getD i 0 - 1) ++ [i] else [i]
  | _ => [i]
termination_by i
def Ps (ps : List (Option Nat)) : Prop := ∀ (i p : Nat), ps[i]? = some (some p) → p < i
/-- the most that the level of i may be, by the levels ahead -/
def mostLv (lv : List Nat) : Option Nat → Nat
  | none => 1
  | some p => lv.getD p 0 + 1
def Lv (ps : List (Option Nat)) (lv : List Nat) : Prop := lv.length = ps.length ∧ ∀ (i l : Nat) (q : Option Nat), lv[i]? = some l → ps[i]? = some q → 1 ≤ l ∧ l ≤ mostLv lv q
section
variable {ps : List (Option Nat)} {lv : List Nat} {i p : Nat}
theorem road_none (h : ps[i]? = some none) : road ps i = [i] := by
  rw [road, h]
theorem road_some (hp : Ps ps) (h : ps[i]? = some (some p)) : road ps i = road ps p ++ [i] := by
  have hl := hp i p h
  rw [road, h]
  dsimp only
  rw [dif_pos hl]
theorem stk_none (h : ps[i]? = some none) : stk ps lv i = [i] := by
  rw [stk, h]
theorem stk_some (hp : Ps ps) (h : ps[i]? = some (some p)) : stk ps lv i = (stk ps lv p).take (lv.getD i 0 - 1) ++ [i] := by
  have hl := hp i p h
  rw [stk, h]
  dsimp only
  rw [dif_pos hl]
theorem opt_cases (hi : i < ps.length) : ps[i]? = some none ∨ ∃ p, ps[i]? = some (some p) := by
  rw [List.getElem?_eq_getElem hi]
  cases h : ps[i] with
  | none => exact .inl rfl
  | some p => exact .inr ⟨p, rfl⟩
theorem road_le (hp : Ps ps) : ∀ n, n < ps.length → ∀ x ∈ road ps n, x ≤ n := by
  intro n
  induction n using Nat.strongRecOn with
  | ind n ih =>
    intro hn x hx
    rcases opt_cases hn with h | ⟨p, h⟩
    · rw [road_none h] at hx
      exact Nat.le_of_eq (List.mem_singleton.mp hx)
    · rw [road_some hp h] at hx
      have hl := hp n p h
      rcases List.mem_append.mp hx with hx | hx
      · exact Nat.le_of_lt (Nat.lt_of_le_of_lt (ih p hl (Nat.lt_trans hl hn) x hx) hl)
      · exact Nat.le_of_eq (List.mem_singleton.mp hx)
theorem road_self (hp : Ps ps) (hi : i < ps.length) : i ∈ road ps i := by
  rcases opt_cases hi with h | ⟨p, h⟩
  · rw [road_none h]; exact List.mem_singleton.mpr rfl
  · rw [road_some hp h]; exact List.mem_append.mpr (.inr (List.mem_singleton.mpr rfl))
theorem road_ne (hp : Ps ps) (hi : i < ps.length) : road ps i ≠ [] := fun z => by
  have h := road_self hp hi
  rw [z] at h; cases h
theorem road_len (hp : Ps ps) : ∀ n, n < ps.length → (road ps n).length ≤ n + 1 := by
  intro n
  induction n using Nat.strongRecOn with
  | ind n ih =>
    intro hn
    rcases opt_cases hn with h | ⟨p, h⟩
    · rw [road_none h]; exact Nat.le_add_left _ _
    · have hl := hp n p h
      have := ih p hl (Nat.lt_trans hl hn)
      rw [road_some hp h, List.length_append, List.length_singleton]
      omega
theorem getD_of {xs : List Nat} {l : Nat} (h : xs[i]? = some l) : xs.getD i 0 = l := by
  rw [List.getD_eq_getElem?_getD, h]; rfl
theorem stk_len (hp : Ps ps) (hv : Lv ps lv) : ∀ n, n < ps.length → (stk ps lv n).length = lv.getD n 0 := by
  intro n
  induction n using Nat.strongRecOn with
  | ind n ih =>
    intro hn
    have hl : lv[n]? = some (lv.getD n 0) := by
      rw [List.getD_eq_getElem?_getD, List.getElem?_eq_getElem (by rw [hv.1]; exact hn)]; rfl
    rcases opt_cases hn with h | ⟨p, h⟩
    · have := hv.2 n _ _ hl h
      rw [stk_none h, List.length_singleton]
      have e : mostLv lv none = 1 := rfl
      omega
    · have hpn := hp n p h
      have := hv.2 n _ _ hl h
      have e := ih p hpn (Nat.lt_trans hpn hn)
      have e2 : mostLv lv (some p) = lv.getD p 0 + 1 := rfl
      rw [stk_some hp h, List.length_append, List.length_singleton, List.length_take, e]
      omega
theorem stk_sub (hp : Ps ps) : ∀ n, n < ps.length → ∀ x ∈ stk ps lv n, x ∈ road ps n := by
  intro n
  induction n using Nat.strongRecOn with
  | ind n ih =>
    intro hn x hx
    rcases opt_cases hn with h | ⟨p, h⟩
    · rw [stk_none h] at hx
      rw [road_none h]; exact hx
    · have hl := hp n p h
      rw [stk_some hp h] at hx
      rw [road_some hp h]
      rcases List.mem_append.mp hx with hx | hx
      · exact List.mem_append.mpr (.inl (ih p hl (Nat.lt_trans hl hn) x (List.mem_of_mem_take hx)))
      · exact List.mem_append.mpr (.inr hx)
end
/-! those of a list that rank below all behind them -/
def rlm (rk : Nat → Nat) : List Nat → List Nat
  | [] => []
  | x :: xs => if ∀ y ∈ xs, rk x < rk y then x :: rlm rk xs else rlm rk xs
section
variable {rk rk' : Nat → Nat}
theorem rlm_mem : ∀ {xs : List Nat} {x : Nat}, x ∈ rlm rk xs → x ∈ xs
  | [], _, h => by cases h
  | y :: ys, x, h => by
    unfold rlm at h
    split at h
    · rcases List.mem_cons.mp h with e | h
      · rw [e]; exact List.mem_cons_self
      · exact List.mem_cons_of_mem _ (rlm_mem h)
    · exact List.mem_cons_of_mem _ (rlm_mem h)
theorem rlm_sorted : ∀ xs : List Nat, (rlm rk xs).Pairwise (fun a b => rk a < rk b)
  | [] => .nil
  | y :: ys => by
    unfold rlm
    split
    · rename_i h
      exact .cons (fun z hz => h z (rlm_mem hz)) (rlm_sorted ys)
    · exact rlm_sorted ys
theorem rlm_congr : ∀ {xs : List Nat}, (∀ x ∈ xs, ∀ y ∈ xs, (rk x < rk y ↔ rk' x < rk' y)) → rlm rk xs = rlm rk' xs
  | [], _ => rfl
  | y :: ys, h => by
    have ih := rlm_congr (xs := ys) fun x hx z hz => h x (List.mem_cons_of_mem _ hx) z (List.mem_cons_of_mem _ hz)
    have e : (∀ z ∈ ys, rk y < rk z) ↔ (∀ z ∈ ys, rk' y < rk' z) := ⟨fun q z hz => (h y List.mem_cons_self z (List.mem_cons_of_mem _ hz)).mp (q z hz), fun q z hz => (h y List.mem_cons_self z (List.mem_cons_of_mem _ hz)).mpr (q z hz)⟩
    unfold rlm
    rw [ih]
    by_cases c : ∀ z ∈ ys, rk y < rk z
    · rw [if_pos c, if_pos (e.mp c)]
    · rw [if_neg c, if_neg (fun z => c (e.mpr z))]
theorem rlm_snoc (k : Nat) : ∀ xs : List Nat, rlm rk (xs ++ [k]) = (rlm rk xs).filter (fun x => decide (rk x < rk k)) ++ [k]
  | [] => by
    show (if ∀ y ∈ ([] : List Nat), rk k < rk y then k :: rlm rk [] else rlm rk []) = _
    rw [if_pos (fun y hy => by cases hy)]; rfl
  | y :: ys => by
    have ih := rlm_snoc k ys
    show (if ∀ z ∈ ys ++ [k], rk y < rk z then y :: rlm rk (ys ++ [k]) else rlm rk (ys ++ [k])) = (if ∀ z ∈ ys, rk y < rk z then y :: rlm rk ys else rlm rk ys).filter _ ++ [k]
    rw [ih]
    by_cases c : ∀ z ∈ ys, rk y < rk z
    · rw [if_pos c]
      by_cases d : rk y < rk k
      · rw [if_pos (fun z hz => by
          rcases List.mem_append.mp hz with hz | hz
          · exact c z hz
          · rw [List.mem_singleton.mp hz]; exact d), List.filter_cons_of_pos (by simpa using d)]
        rfl
      · rw [if_neg (fun q => d (q k (List.mem_append.mpr (.inr (List.mem_singleton.mpr rfl))))), List.filter_cons_of_neg (by simpa using d)]
    · rw [if_neg c, if_neg (fun q => c fun z hz => q z (List.mem_append.mpr (.inl hz)))]
end
theorem filter_take {f : Nat → Nat} : ∀ {L : List Nat} {m x : Nat}, L.Pairwise (fun a b => f a < f b) → L[m]? = some x → L.filter (fun y => decide (f y < f x)) = L.take m
  | [], m, x, _, h => by rw [List.getElem?_nil] at h; cases h
  | a :: L, 0, x, p, h => by
    cases h
    rw [List.take_zero, List.filter_eq_nil_iff]
    intro b hb
    rcases List.mem_cons.mp hb with e | hb
    · rw [e]; simp
    · have := (List.pairwise_cons.mp p).1 b hb
      simp; omega
  | a :: L, m + 1, x, p, h => by
    rw [List.getElem?_cons_succ] at h
    have hx : x ∈ L := List.mem_of_getElem? h
    have := (List.pairwise_cons.mp p).1 x hx
    rw [List.filter_cons_of_pos (by simpa using this), List.take_succ_cons, filter_take (List.pairwise_cons.mp p).2 h]
/-! one thing put into an order -/
theorem idx_ne {a x : Nat} {l : List Nat} (h : ¬ a = x) : (a :: l).idxOf x = l.idxOf x + 1 := by
  rw [List.idxOf_cons]
  have e : (a == x) = false := by simpa using h
  rw [e]; rfl
theorem getD_at {L : List Nat} {m : Nat} (h : m < L.length) : L[m]? = some (L.getD m 0) := by
  rw [List.getD_eq_getElem?_getD, List.getElem?_eq_getElem h]; rfl
def putAt (ord : List Nat) (j k : Nat) : List Nat := ord.take j ++ k :: ord.drop j
theorem putAt_new : ∀ {ord : List Nat} {j k : Nat}, k ∉ ord → j ≤ ord.length → (putAt ord j k).idxOf k = j
  | ord, 0, k, _, _ => by
    show (k :: ord.drop 0).idxOf k = 0
    rw [List.idxOf_cons_self]
  | [], j + 1, k, _, h => by cases h
  | a :: ord, j + 1, k, hk, hj => by
    have ne : ¬ a = k := fun e => hk (by rw [e]; exact List.mem_cons_self)
    show (a :: putAt ord j k).idxOf k = j + 1
    rw [idx_ne ne, putAt_new (fun h => hk (List.mem_cons_of_mem _ h)) (Nat.le_of_succ_le_succ hj)]
theorem putAt_old : ∀ {ord : List Nat} {j k x : Nat}, k ∉ ord → j ≤ ord.length → x ∈ ord → (putAt ord j k).idxOf x = if ord.idxOf x < j then ord.idxOf x else ord.idxOf x + 1
  | [], j, k, x, _, _, h => by cases h
  | a :: ord, 0, k, x, hk, _, hx => by
    have ne : ¬ k = x := fun e => hk (by rw [e]; exact hx)
    show (k :: a :: ord).idxOf x = _
    rw [idx_ne ne, if_neg (Nat.not_lt_zero _)]
  | a :: ord, j + 1, k, x, hk, hj, hx => by
    show (a :: putAt ord j k).idxOf x = _
    by_cases e : a = x
    · rw [e, List.idxOf_cons_self, List.idxOf_cons_self, if_pos (Nat.succ_pos _)]
    · have hx' : x ∈ ord := (List.mem_cons.mp hx).resolve_left fun z => e z.symm
      rw [idx_ne e, idx_ne e, putAt_old (fun h => hk (List.mem_cons_of_mem _ h)) (Nat.le_of_succ_le_succ hj) hx']
      by_cases c : ord.idxOf x < j
      · rw [if_pos c, if_pos (Nat.succ_lt_succ c)]
      · rw [if_neg c, if_neg fun z => c (Nat.lt_of_succ_lt_succ z)]
theorem putAt_mem {ord : List Nat} {j k x : Nat} : x ∈ putAt ord j k ↔ x = k ∨ x ∈ ord := by
  unfold putAt
  rw [List.mem_append, List.mem_cons]
  have h : x ∈ ord ↔ x ∈ ord.take j ∨ x ∈ ord.drop j := by
    rw [← List.mem_append, List.take_append_drop]
  rw [h]
  constructor
  · rintro (a | a | a)
    · exact .inr (.inl a)
    · exact .inl a
    · exact .inr (.inr a)
  · rintro (a | a | a)
    · exact .inr (.inl a)
    · exact .inl a
    · exact .inr (.inr a)
theorem putAt_nd {ord : List Nat} {j k : Nat} (h : ord.Nodup) (hk : k ∉ ord) : (putAt ord j k).Nodup := by
  unfold putAt
  have e : (ord.take j ++ ord.drop j).Nodup := by rw [List.take_append_drop]; exact h
  rw [List.nodup_append] at e ⊢
  refine ⟨e.1, List.nodup_cons.mpr ⟨fun z => hk (List.mem_of_mem_drop z), e.2.1⟩, fun a ha b hb => ?_⟩
  rcases List.mem_cons.mp hb with z | hb
  · intro q
    rw [q, z] at ha
    exact hk (List.mem_of_mem_take ha)
  · exact e.2.2 a ha b hb
theorem putAt_len {ord : List Nat} {j k : Nat} : (putAt ord j k).length = ord.length + 1 := by
  unfold putAt
  rw [List.length_append, List.length_cons, List.length_take, List.length_drop]
  omega
/-! the order that the levels tell -/
def above (ps : List (Option Nat)) (lv : List Nat) (i : Nat) : List Nat :=
  match ps[i]? with
  | some (some p) => stk ps lv p
  | _ => []
theorem above_none {ps : List (Option Nat)} {lv : List Nat} {i : Nat} (h : ps[i]? = some none) : above ps lv i = [] := by unfold above; rw [h]
theorem above_some {ps : List (Option Nat)} {lv : List Nat} {i p : Nat} (h : ps[i]? = some (some p)) : above ps lv i = stk ps lv p := by unfold above; rw [h]
def ordAt (ps : List (Option Nat)) (lv : List Nat) (ord : List Nat) (i : Nat) : Nat :=
  if lv.getD i 0 ≤ (above ps lv i).length then ord.idxOf ((above ps lv i).getD (lv.getD i 0 - 1) 0) else ord.length
def ordOf (ps : List (Option Nat)) (lv : List Nat) : Nat → List Nat
  | 0 => []
  | k + 1 => putAt (ordOf ps lv k) (ordAt ps lv (ordOf ps lv k) k) k
theorem ordAt_le {ps : List (Option Nat)} {lv ord : List Nat} {i : Nat} : ordAt ps lv ord i ≤ ord.length := by
  unfold ordAt
  split
  · exact List.idxOf_le_length
  · exact Nat.le_refl _
theorem ord_inv {ps : List (Option Nat)} {lv : List Nat} (hp : Ps ps) (hv : Lv ps lv) : ∀ k, k ≤ ps.length → (ordOf ps lv k).Nodup ∧ (∀ x, x ∈ ordOf ps lv k ↔ x < k) ∧ ∀ i, i < k → stk ps lv i = rlm (fun x => (ordOf ps lv k).idxOf x) (road ps i) := by
  intro k
  induction k with
  | zero => exact fun _ => ⟨List.nodup_nil, fun x => ⟨fun z => (by cases z), fun z => absurd z (Nat.not_lt_zero _)⟩, fun i z => absurd z (Nat.not_lt_zero _)⟩
  | succ k ih =>
    intro hk
    obtain ⟨nd, hm, hs⟩ := ih (Nat.le_of_succ_le hk)
    have kn : k ∉ ordOf ps lv k := fun z => Nat.lt_irrefl _ ((hm k).mp z)
    have jl := ordAt_le (ps := ps) (lv := lv) (ord := ordOf ps lv k) (i := k)
    show (putAt _ _ k).Nodup ∧ (∀ x, x ∈ putAt _ _ k ↔ x < k + 1) ∧ ∀ i, i < k + 1 → stk ps lv i = rlm (fun x => (putAt (ordOf ps lv k) (ordAt ps lv (ordOf ps lv k) k) k).idxOf x) (road ps i)
    have hj : ordAt ps lv (ordOf ps lv k) k = if lv.getD k 0 ≤ (above ps lv k).length then (ordOf ps lv k).idxOf ((above ps lv k).getD (lv.getD k 0 - 1) 0) else (ordOf ps lv k).length := rfl
    generalize ordOf ps lv k = ord at nd hm hs kn jl hj ⊢
    generalize ordAt ps lv ord k = j at jl hj ⊢
    have old : ∀ x, x < k → (putAt ord j k).idxOf x = if ord.idxOf x < j then ord.idxOf x else ord.idxOf x + 1 := fun x hx => putAt_old kn jl ((hm x).mpr hx)
    have cg : ∀ n, n < k → rlm (fun x => (putAt ord j k).idxOf x) (road ps n) = stk ps lv n := fun n hn => by
      rw [hs n hn]
      refine rlm_congr fun x hx y hy => ?_
      have h1 := Nat.lt_of_le_of_lt (road_le hp n (by omega) x hx) hn
      have h2 := Nat.lt_of_le_of_lt (road_le hp n (by omega) y hy) hn
      show (putAt ord j k).idxOf x < (putAt ord j k).idxOf y ↔ _
      rw [old x h1, old y h2]
      split <;> split <;> omega
    refine ⟨putAt_nd nd kn, fun x => ?_, fun i hi => ?_⟩
    · rw [putAt_mem, hm]
      omega
    · by_cases hik : i < k
      · exact (cg i hik).symm
      · have e : i = k := by omega
        subst e
        have hl : lv[i]? = some (lv.getD i 0) := by
          rw [List.getD_eq_getElem?_getD, List.getElem?_eq_getElem (by rw [hv.1]; omega)]; rfl
        rcases opt_cases (ps := ps) (i := i) (by omega) with h | ⟨p, h⟩
        · rw [stk_none h, road_none h]
          show _ = rlm _ ([] ++ [i])
          rw [rlm_snoc]; rfl
        · have hpi := hp i p h
          have hlv := hv.2 i _ _ hl h
          have hml : mostLv lv (some p) = lv.getD p 0 + 1 := rfl
          have ea : above ps lv i = stk ps lv p := by unfold above; rw [h]
          have hlen := stk_len hp hv p (by omega)
          rw [stk_some hp h, road_some hp h, rlm_snoc, cg p hpi, putAt_new kn jl]
          congr 1
          rw [ea] at hj
          have flt : ∀ x ∈ stk ps lv p, decide ((putAt ord j i).idxOf x < j) = decide (ord.idxOf x < j) := fun x hx => by
            have hx2 := Nat.lt_of_le_of_lt (road_le hp p (by omega) x (stk_sub hp p (by omega) x hx)) hpi
            rw [old x hx2]
            congr 1
            refine propext ⟨fun z => ?_, fun z => ?_⟩
            · split at z <;> omega
            · rw [if_pos z]; exact z
          rw [List.filter_congr flt]
          by_cases c : lv.getD i 0 ≤ (stk ps lv p).length
          · rw [if_pos c] at hj
            have hm2 : lv.getD i 0 - 1 < (stk ps lv p).length := by omega
            have hg := getD_at hm2
            rw [hj]
            refine (filter_take ?_ hg).symm
            rw [hs p hpi]
            exact rlm_sorted _
          · rw [if_neg c] at hj
            rw [List.take_of_length_le (by omega), List.filter_eq_self.mpr]
            intro x hx
            have hx2 := Nat.lt_of_le_of_lt (road_le hp p (by omega) x (stk_sub hp p (by omega) x hx)) hpi
            have := List.idxOf_lt_length_of_mem ((hm x).mpr hx2)
            rw [hj]
            exact decide_eq_true this
/-- what the order tells of each place: its level -/
theorem ord_lv {ps : List (Option Nat)} {lv : List Nat} (hp : Ps ps) (hv : Lv ps lv) {i : Nat} (hi : i < ps.length) : (rlm (fun x => (ordOf ps lv ps.length).idxOf x) (road ps i)).length = lv.getD i 0 := by
  rw [← (ord_inv hp hv ps.length (Nat.le_refl _)).2.2 i hi]
  exact stk_len hp hv i hi
theorem ord_len {ps : List (Option Nat)} {lv : List Nat} : ∀ k, (ordOf ps lv k).length = k
  | 0 => rfl
  | k + 1 => by
    show (putAt _ _ k).length = k + 1
    rw [putAt_len, ord_len k]
theorem above_sub {ps : List (Option Nat)} {lv : List Nat} {i x : Nat} (hp : Ps ps) (hi : i < ps.length) (hx : x ∈ above ps lv i) : x < i := by
  rcases opt_cases hi with h | ⟨p, h⟩
  · rw [above_none h] at hx; cases hx
  · rw [above_some h] at hx
    have hl := hp i p h
    exact Nat.lt_of_le_of_lt (road_le hp p (Nat.lt_trans hl hi) x (stk_sub hp p (Nat.lt_trans hl hi) x hx)) hl
theorem putAt_end {ord : List Nat} {k : Nat} : putAt ord ord.length k = ord ++ [k] := by
  unfold putAt
  rw [List.take_length, List.drop_length]
/-- how many are not above any behind them -/
def cntMin : List Nat → Nat
  | [] => 0
  | x :: xs => (if ∀ y ∈ xs, x ≤ y then 1 else 0) + cntMin xs
theorem cnt_rlm {rk : Nat → Nat} : ∀ {xs : List Nat}, xs.Nodup → (∀ x ∈ xs, ∀ y ∈ xs, x ≠ y → rk x ≠ rk y) → cntMin (xs.map rk) = (rlm rk xs).length
  | [], _, _ => rfl
  | x :: xs, nd, inj => by
    have ih := cnt_rlm (xs := xs) (List.nodup_cons.mp nd).2 fun a ha b hb => inj a (List.mem_cons_of_mem _ ha) b (List.mem_cons_of_mem _ hb)
    show (if ∀ y ∈ xs.map rk, rk x ≤ y then 1 else 0) + cntMin (xs.map rk) = (if ∀ y ∈ xs, rk x < rk y then x :: rlm rk xs else rlm rk xs).length
    have e : (∀ y ∈ xs.map rk, rk x ≤ y) ↔ ∀ y ∈ xs, rk x < rk y := by
      constructor
      · intro h y hy
        have h1 := h (rk y) (List.mem_map.mpr ⟨y, hy, rfl⟩)
        have h2 := inj x List.mem_cons_self y (List.mem_cons_of_mem _ hy) fun z => (List.nodup_cons.mp nd).1 (z ▸ hy)
        omega
      · intro h z hz
        obtain ⟨y, hy, rfl⟩ := List.mem_map.mp hz
        exact Nat.le_of_lt (h y hy)
    rw [ih]
    by_cases c : ∀ y ∈ xs, rk x < rk y
    · rw [if_pos (e.mpr c), if_pos c, List.length_cons]; omega
    · rw [if_neg (fun z => c (e.mp z)), if_neg c]; omega
theorem road_nd {ps : List (Option Nat)} (hp : Ps ps) : ∀ n, n < ps.length → (road ps n).Nodup := by
  intro n
  induction n using Nat.strongRecOn with
  | ind n ih =>
    intro hn
    rcases opt_cases hn with h | ⟨p, h⟩
    · rw [road_none h]; exact List.nodup_cons.mpr ⟨fun z => (by cases z), List.nodup_nil⟩
    · have hl := hp n p h
      rw [road_some hp h, List.nodup_append]
      refine ⟨ih p hl (Nat.lt_trans hl hn), List.nodup_cons.mpr ⟨fun z => (by cases z), List.nodup_nil⟩, fun a ha b hb => ?_⟩
      rw [List.mem_singleton.mp hb]
      have := road_le hp p (Nat.lt_trans hl hn) a ha
      omega
/-- one plan's levels under a place put for another's -/
def mixLv (ps : List (Option Nat)) (l1 l2 : List Nat) (i : Nat) (at_ : Nat) : Nat := if i ∈ road ps at_ then l2.getD at_ 0 else l1.getD at_ 0
theorem mix_ok {ps : List (Option Nat)} {l1 l2 : List Nat} {i : Nat} (hp : Ps ps) (h1 : Lv ps l1) (h2 : Lv ps l2) (hi : i < ps.length)
    (hc : ∀ p, ps[i]? = some (some p) → mixLv ps l1 l2 i i ≤ mixLv ps l1 l2 i p + 1) : Lv ps ((List.range ps.length).map (mixLv ps l1 l2 i)) := by
  refine ⟨by rw [List.length_map, List.length_range], fun j l q hl hq => ?_⟩
  have hj : j < ps.length := (List.getElem?_eq_some_iff.mp hq).1
  have hg : ∀ k, k < ps.length → ((List.range ps.length).map (mixLv ps l1 l2 i)).getD k 0 = mixLv ps l1 l2 i k := fun k hk => by
    rw [List.getD_eq_getElem?_getD, List.getElem?_map, List.getElem?_range hk]; rfl
  have el : l = mixLv ps l1 l2 i j := by rw [← hg j hj, getD_of hl]
  have a1 := h1.2 j _ q (getD_at (by rw [h1.1]; exact hj)) hq
  have a2 := h2.2 j _ q (getD_at (by rw [h2.1]; exact hj)) hq
  cases q with
  | none =>
    have e : ∀ lv, mostLv lv none = 1 := fun _ => rfl
    rw [e] at a1 a2 ⊢
    rw [el]
    unfold mixLv
    split <;> omega
  | some p =>
    have hpj := hp j p hq
    have e : ∀ lv, mostLv lv (some p) = lv.getD p 0 + 1 := fun _ => rfl
    rw [e] at a1 a2 ⊢
    rw [hg p (Nat.lt_trans hpj hj), el]
    by_cases ej : j = i
    · subst ej
      refine ⟨?_, hc p hq⟩
      unfold mixLv
      split <;> omega
    · have em : i ∈ road ps j ↔ i ∈ road ps p := by
        rw [road_some hp hq, List.mem_append]
        constructor
        · rintro (h | h)
          · exact h
          · exact absurd (List.mem_singleton.mp h).symm ej
        · exact fun h => .inl h
      unfold mixLv
      by_cases c : i ∈ road ps p
      · rw [if_pos (em.mpr c), if_pos c]; exact a2
      · rw [if_neg (fun z => c (em.mp z)), if_neg c]; exact a1
theorem cnt_cons_yes {x : Nat} {t : List Nat} (c : ∀ y ∈ t, x ≤ y) : cntMin (x :: t) = 1 + cntMin t := by
  show (if ∀ y ∈ t, x ≤ y then 1 else 0) + cntMin t = _
  rw [if_pos c]
theorem cnt_cons_no {x : Nat} {t : List Nat} (c : ¬ ∀ y ∈ t, x ≤ y) : cntMin (x :: t) = cntMin t := by
  show (if ∀ y ∈ t, x ≤ y then 1 else 0) + cntMin t = _
  rw [if_neg c, Nat.zero_add]
theorem cnt_yes {l : List Nat} {i x : Nat} (h : l[i]? = some x) (c : ∀ y ∈ l.drop (i + 1), x ≤ y) : cntMin (l.drop i) = 1 + cntMin (l.drop (i + 1)) := by
  obtain ⟨hi, e⟩ := List.getElem?_eq_some_iff.mp h
  rw [List.drop_eq_getElem_cons hi, e]
  exact cnt_cons_yes c
theorem cnt_no {l : List Nat} {i x : Nat} (h : l[i]? = some x) (c : ¬ ∀ y ∈ l.drop (i + 1), x ≤ y) : cntMin (l.drop i) = cntMin (l.drop (i + 1)) := by
  obtain ⟨hi, e⟩ := List.getElem?_eq_some_iff.mp h
  rw [List.drop_eq_getElem_cons hi, e]
  exact cnt_cons_no c
end Ck
namespace Cn
open PySem PySem.Spec PyProof.Rows L2
def topS (i : Nat) : Stmt := PySem.Challenge.pw_cutnotes_k31_whole_what_is_counted_and_w.main.body.getD i (.Pass ⟨0, 0, 0, 0⟩)
abbrev sTa_init : Stmt := inClass (topS 34) 0
abbrev sTa_answer : Stmt := inClass (topS 34) 1
abbrev sTa_versions : Stmt := inClass (topS 34) 2
abbrev sSo_init : Stmt := inClass (topS 40) 0
abbrev sSo_change : Stmt := inClass (topS 40) 1
abbrev sSo_change_all : Stmt := inClass (topS 40) 2
abbrev sSo__change : Stmt := inClass (topS 40) 3
abbrev sSo_ask : Stmt := inClass (topS 40) 4
abbrev sSo_amount : Stmt := inClass (topS 40) 5
abbrev sSo_kept : Stmt := inClass (topS 40) 6
abbrev sSo_touched : Stmt := inClass (topS 40) 7
abbrev sSo_asked : Stmt := inClass (topS 40) 8
abbrev sSo_watch : Stmt := inClass (topS 40) 9
abbrev sSo_unwatch : Stmt := inClass (topS 40) 10
abbrev sSo_watched : Stmt := inClass (topS 40) 11
abbrev sSo_news : Stmt := inClass (topS 40) 12
abbrev sSo_forest : Stmt := inClass (topS 40) 13
abbrev sSo_plan : Stmt := inClass (topS 40) 14
abbrev sSo_hang : Stmt := inClass (topS 40) 15
abbrev sSo_turn : Stmt := inClass (topS 40) 16
abbrev sSo__turn : Stmt := inClass (topS 40) 17
abbrev sSo__watch_on : Stmt := inClass (topS 40) 18
abbrev sSo_mark : Stmt := inClass (topS 40) 19
abbrev sSo__marked_state : Stmt := inClass (topS 40) 20
abbrev sSo_ask_at : Stmt := inClass (topS 40) 21
abbrev sSo_back_to : Stmt := inClass (topS 40) 22
abbrev sSo_drop : Stmt := inClass (topS 40) 23
abbrev sSo_marks : Stmt := inClass (topS 40) 24
abbrev sSo_held : Stmt := inClass (topS 40) 25
abbrev sSo_copy : Stmt := inClass (topS 40) 26
abbrev sSo_trying : Stmt := inClass (topS 40) 27
abbrev sLWord : Stmt := topS 54
abbrev sIsInt : Stmt := topS 9
abbrev sIsBtw : Stmt := topS 10
abbrev sIsLot : Stmt := topS 11
abbrev sLotOf : Stmt := topS 15
abbrev sIsPlace : Stmt := topS 16
abbrev sWay : Stmt := topS 19
abbrev sIsPlan : Stmt := topS 29
abbrev sStacks : Stmt := topS 30
abbrev sNoteAt : Stmt := topS 32
abbrev sByPlace : Stmt := topS 31
abbrev sDraw : Stmt := topS 43
abbrev sIs : Stmt := topS 45
abbrev sParents : Stmt := topS 47
abbrev sLawLot : Stmt := topS 46
abbrev sMade : Stmt := topS 53
abbrev sLStacks : Stmt := topS 51
abbrev sUnder : Stmt := topS 20
abbrev sHand : Stmt := topS 42
abbrev sPick : Stmt := topS 44
abbrev sSpec : Stmt := topS 48
abbrev sDPlan : Stmt := topS 49
abbrev sLWay : Stmt := topS 50
abbrev sIsBear : Stmt := topS 17
abbrev sIsAsk : Stmt := topS 18
abbrev sIsAmt : Stmt := topS 23
abbrev sLWords : Stmt := topS 55
abbrev sLJoin : Stmt := topS 58
abbrev sLTog : Stmt := topS 56
abbrev sTogt : Stmt := topS 25
abbrev sHold1 : Stmt := topS 26
abbrev sReadAt : Stmt := topS 27
abbrev sLRows : Stmt := topS 52
abbrev sLCome : Stmt := topS 57
abbrev sLReads : Stmt := topS 59
abbrev sLTouch : Stmt := topS 60
abbrev sAllM : Stmt := topS 35
abbrev sFirstS : Stmt := topS 36
abbrev sAnewC : Stmt := topS 37
abbrev sChgS : Stmt := topS 38
abbrev sNewsD : Stmt := topS 61
abbrev sIsChg : Stmt := topS 24
abbrev sLTxtC : Stmt := topS 62
abbrev sInit : Stmt := inClass (topS 14) 0
abbrev sEqM : Stmt := inClass (topS 14) 1
abbrev sLaw : Stmt := topS 63
/-! heaps -/
theorem smUpd {H : Hp} {p : Addr} {o : HO} (h : H p = none) : Same H (upd H p o) := fun b x e => by
  rw [upd_ne (ne_of_none e h)]
  exact e
theorem cutTake (xs : List V) (n : Nat) : cutV xs none (some (n : Int)) = xs.take n := by
  unfold cutV
  rw [HT.sIx_none, HT.sIx_nat]
  show (xs.drop 0).take (min n xs.length - 0) = xs.take n
  rw [List.drop_zero, Nat.sub_zero]
  by_cases h : n ≤ xs.length
  · rw [Nat.min_eq_left h]
  · rw [Nat.min_eq_right (by omega), List.take_length, List.take_of_length_le (by omega)]
theorem getMap {xs : List Int} {i : Nat} {v : V} (h : (xs.map V.int)[i]? = some v) : ∃ z, xs[i]? = some z ∧ v = .int z := by
  rw [List.getElem?_map] at h
  cases e : xs[i]? with
  | none => rw [e] at h; cases h
  | some z => rw [e] at h; exact ⟨z, rfl, (Option.some.inj h).symm⟩
/-! the pool that deals: what is left of great numbers, the small ones, a rest, a count -/
structure HandIn (H : Hp) (p : Addr) (S : Addr → Prop) : Prop where
  ob : ∃ (g c : Addr) (gs cs : List Int) (d n : Int), H p = some (.lst [.ref g, .ref c, .int d, .int n]) ∧ H g = some (.lst (gs.map V.int)) ∧ H c = some (.lst (cs.map V.int)) ∧ p ≠ g ∧ p ≠ c ∧ ¬ S g ∧ ¬ S c
  np : ¬ S p
  tr : ∀ D, S D → H D ≠ none
def spHand (K : PySem.W.Frag) : Sp := fun vs H Q _ => ∃ (a : Addr) (ns : List Int), vs = [.ref a] ∧ SqL K H a (ns.map V.int) ∧ ns.length ≤ 63 ∧
  ∀ (H' : Hp) (p : Addr), Same H H' → H p = none → HandIn H' p (fun x => H x ≠ none) → Q (.ref p) H'
def nHand : List Str := ["_law_script", "_law_great", "_law_small", "_law_cell"]
theorem scHand : FnScope nHand ["_law_script"] (defScope sHand) := ⟨rfl, rfl, rfl, by decide +kernel, rfl, by decide +kernel, by decide +kernel⟩
theorem smOverP {H G : Hp} {D : Addr} {o : HO} (nD : H D = none) (s : Same H G) : Same H (upd G D o) := fun b x e => by
  rw [upd_ne (ne_of_none e nD)]
  exact s b x e
theorem sqSame {K : PySem.W.Frag} {H H' : Hp} {a : Addr} {xs : List V} (s : Same H H') (h : SqL K H a xs) : SqL K H' a xs := by
  rcases h with (h | ⟨o, h⟩) | h
  · exact .inl (.inl (s _ _ h))
  · exact .inl (.inr ⟨o, s _ _ h⟩)
  · exact .inr h
section
variable {P : Program} {w : World} {K : PySem.W.Frag} {mg : Str → Option Value} {base : Heap}
theorem ok_hand {f : Addr} {fd : FuncData} (F : Fun K "_law_pool" "_law_pool" sHand f fd) (mAbs : mg "abs" = none) (mInt : mg "int" = none) : FnOk P w K mg base CX0 1 f fd ["_law_script"] (spHand K) := by
  have nd := scHand.nd
  refine F.ok scHand (fun vs H Q E h => ?_) (fun cdv A outer s H vs Q E hr h => ?_)
  · obtain ⟨a, ns, rfl, _⟩ := h
    rfl
  · obtain ⟨a, ns, rfl, hS, hlen, k⟩ := h
    refine ⟨_, pss_cons (ps_setLc (i := 1) (own := [("_law_cell", 3)]) (g := gName 3) rfl nd rfl rfl (sw_true rfl rfl rfl (by decide +kernel))
        (pi_list (pe_slice sl_list (pv 0) po_none (po_some pe_int))) (blkOk_by (N := nHand) (sc := defScope sHand) (by decide +kernel))
        (fun _ _ _ _ _ => pg_name (i := 3) nd rfl (Or.inl rfl)) (fun _ _ _ _ _ => pts_one (pt_cmpR op_ge (pe_callB call_abs (by rfl) mAbs (by decide +kernel) (pa_cons (pv 3) pa_nil)) (pe_op op_pow pe_int pe_int) (nomark _)))
        (fun _ _ _ _ _ => pe_callB call_abs (by rfl) mAbs (by decide +kernel) (pa_cons (pv 3) pa_nil)))
      (pss_cons (ps_setLc (i := 2) (own := [("_law_cell", 3)]) (g := gName 3) rfl nd rfl rfl (sw_true rfl rfl rfl (by decide +kernel))
        (pi_list (pe_slice sl_list (pv 0) po_none (po_some pe_int))) (blkOk_by (N := nHand) (sc := defScope sHand) (by decide +kernel))
        (fun _ _ _ _ _ => pg_name (i := 3) nd rfl (Or.inl rfl)) (fun _ _ _ _ _ => pts_one (pt_cmpR op_lt (pe_callB call_abs (by rfl) mAbs (by decide +kernel) (pa_cons (pv 3) pa_nil)) (pe_op op_pow pe_int pe_int) (nomark _)))
        (fun _ _ _ _ _ => pe_op op_modN (pe_callTy call_int1 (by rfl) mInt (by decide +kernel) (pa_cons (pv 3) pa_nil)) pe_int))
      (pss_one (ps_ret (pe_lst (pa_cons (pv 1) (pa_cons (pv 2) (pa_cons pe_int (pa_cons pe_int pa_nil)))))))), ?_⟩
    have ex : cutV (ns.map V.int) none (some 63) = (ns.take 63).map V.int := by
      rw [show (some (63 : Int)) = some ((63 : Nat) : Int) from rfl, cutTake, List.map_take]
    obtain ⟨ms, hms⟩ : ∃ ms, ms = ns.take 63 := ⟨_, rfl⟩
    have lms : ms.length ≤ 63 := by rw [hms, List.length_take]; omega
    -- a filtered walk over the script's cells
    refine ⟨_, rfl, 63, rfl, a, ns.map V.int, rfl, hS, fun q nq => ?_⟩
    rw [ex, ← hms]
    have s1 : Same H (upd H q (.lst (ms.map V.int))) := smUpd nq
    have hq : upd H q (.lst (ms.map V.int)) q = some (.lst (ms.map V.int)) := upd_same
    generalize upd H q (.lst (ms.map V.int)) = H1 at s1 hq ⊢
    refine ⟨_, rfl, ⟨_, .inl (.inl hq)⟩, fun D nD => ?_⟩
    refine lc_list (K := K) (a := q) (xs := ms.map V.int) (fun i G => Same H1 G ∧ ∃ cs : List Int, G D = some (.lst (cs.map V.int)) ∧ cs.length ≤ i) ⟨smUpd nD, [], upd_same, Nat.le_refl _⟩ (fun i G _ z => .inl (.inl (z.1 _ _ hq))) ?_ ?_
    · rintro i x G hx ⟨sm, cs, hD, hl⟩
      obtain ⟨z, hz, rfl⟩ := getMap hx
      have hi := (List.getElem?_eq_some_iff.mp hz).1
      refine ⟨rfl, _, rfl, z, rfl, _, _, rfl, rfl, ⟨by decide, by decide, by decide⟩, _, _, rfl, rfl, _, rfl, ?_⟩
      refine ite2 (fun _ => ?_) (fun _ => ⟨sm, cs, hD, by omega⟩)
      refine ⟨_, rfl, z, rfl, cs.map V.int, hD, small1000 (by rw [List.length_map]; omega), smOverP nD sm, cs ++ [if z < 0 then -z else z], by rw [upd_same, List.map_append]; rfl, by rw [List.length_append]; show cs.length + 1 ≤ i + 1; omega⟩
    rintro G1 ⟨sm1, cs1, hD1, _⟩
    have sH1 := s1.trans sm1
    refine ⟨_, rfl, 63, rfl, a, ns.map V.int, rfl, sqSame sH1 hS, fun q2 nq2 => ?_⟩
    rw [ex, ← hms]
    have s2 := smUpd (o := .lst (ms.map V.int)) nq2
    have hq2 : upd G1 q2 (.lst (ms.map V.int)) q2 = some (.lst (ms.map V.int)) := upd_same
    have hD2 := s2 _ _ hD1
    have sH2 := sH1.trans s2
    generalize upd G1 q2 (.lst (ms.map V.int)) = G2 at s2 hq2 hD2 sH2 ⊢
    refine ⟨_, rfl, ⟨_, .inl (.inl hq2)⟩, fun D2 nD2 => ?_⟩
    refine lc_list (K := K) (a := q2) (xs := ms.map V.int) (fun i G => Same G2 G ∧ ∃ cs : List Int, G D2 = some (.lst (cs.map V.int)) ∧ cs.length ≤ i) ⟨smUpd nD2, [], upd_same, Nat.le_refl _⟩ (fun i G _ z => .inl (.inl (z.1 _ _ hq2))) ?_ ?_
    · rintro i x G hx ⟨sm, cs, hD, hl⟩
      obtain ⟨z, hz, rfl⟩ := getMap hx
      have hi := (List.getElem?_eq_some_iff.mp hz).1
      refine ⟨rfl, _, rfl, z, rfl, _, _, rfl, rfl, ⟨by decide, by decide, by decide⟩, _, _, rfl, rfl, _, rfl, ?_⟩
      refine ite2 (fun _ => ?_) (fun _ => ⟨sm, cs, hD, by omega⟩)
      refine ⟨_, rfl, .inl ⟨z, rfl, _, _, rfl, rfl, (show (1000003 : Int) ≠ 0 by decide), cs.map V.int, hD, small1000 (by rw [List.length_map]; omega), smOverP nD2 sm, cs ++ [z.fmod 1000003], by rw [upd_same, List.map_append]; rfl, by rw [List.length_append]; show cs.length + 1 ≤ i + 1; omega⟩⟩
    rintro G3 ⟨sm3, cs3, hD3, _⟩
    have hD23 := sm3 _ _ hD2
    refine ⟨_, rfl, _, rfl, by show 4 ≤ sizeLine; decide, fun p np => ?_⟩
    have sH3 := sH2.trans sm3
    have none0 : ∀ {b : Addr}, G3 b = none → H b = none := fun {b} e => by
      cases q : H b with
      | none => rfl
      | some o => rw [sH3 _ _ q] at e; cases e
    have n2 : H D2 = none := by
      cases q : H D2 with
      | none => rfl
      | some o => rw [sH2 _ _ q] at nD2; cases nD2
    have pD : p ≠ D := fun e => by rw [e, hD23] at np; cases np
    have pD2 : p ≠ D2 := fun e => by rw [e, hD3] at np; cases np
    have n1 : H D = none := by
      cases q : H D with
      | none => rfl
      | some o => rw [s1 _ _ q] at nD; cases nD
    refine k _ p (smOverP (none0 np) sH3) (none0 np) ⟨⟨D, D2, cs1, cs3, 0, 0, upd_same, by rw [upd_ne pD.symm]; exact hD23, by rw [upd_ne pD2.symm]; exact hD3, pD, pD2, fun z => z n1, fun z => z n2⟩, fun z => z (none0 np), fun b hb => ?_⟩
    cases q : H b with
    | none => exact absurd q hb
    | some o => rw [smOverP (none0 np) sH3 _ _ q]; exact fun z => nomatch z
end
end Cn
namespace Cn
open PySem PySem.Spec PyProof.Rows L2
/-! a statement, then the rest, by a word of what stands between -/
def tMid (t u : TS) : TS := fun D σ H => ∃ R : L2.St → Hp → Prop, t { nx := R, rt := D.rt, bk := D.bk, ct := D.ct } σ H ∧ ∀ σ2 H2, R σ2 H2 → u D σ2 H2
theorem psMid {X : Cx} {st : Stmt} {rest : List Stmt} {t u : TS} (a : PS X st t) (b : PSs X rest u) : PSs X (st :: rest) (tMid t u) := by
  constructor
  intro pins s σ H D I h
  obtain ⟨R, h1, h2⟩ := h
  refine wpAny_execs_cons (thn (a.run pins s σ H _ I h1) fun fl s1 q => ?_)
  cases fl with
  | next =>
    obtain ⟨σ2, H2, I2, q2⟩ := q
    exact b.run pins s1 σ2 H2 D I2 (h2 σ2 H2 q2)
  | brk => exact q
  | cont => exact q
  | ret u => exact q
def Kept (p : Addr) (H H' : Hp) : Prop := ∀ b o, b ≠ p → H b = some o → H' b = some o
theorem kept_trans {p : Addr} {H H' H2 : Hp} (a : Kept p H H') (b : Kept p H' H2) : Kept p H H2 := fun c o n e => b c o n (a c o n e)
theorem kept_same {p : Addr} {H H' : Hp} (s : Same H H') : Kept p H H' := fun b o _ e => s b o e
theorem kept_hand {p : Addr} {H : Hp} {o : HO} : Kept p H (upd H p o) := fun b x n e => by rw [upd_ne n]; exact e
/-- written at D, which was none at first -/
theorem kept_over {p D : Addr} {H H' : Hp} {o : HO} (nD : H D = none) (k : Kept p H H') : Kept p H (upd H' D o) := fun b x n e => by
  rw [upd_ne (ne_of_none e nD)]
  exact k b x n e
theorem handIn_keep {H H' : Hp} {p : Addr} {S : Addr → Prop} (h : HandIn H p S) (k : Same H H') : HandIn H' p S := by
  obtain ⟨⟨g, c, gs, cs, d, n, hp, hg, hc, r⟩, np, tr⟩ := h
  refine ⟨⟨g, c, gs, cs, d, n, k _ _ hp, k _ _ hg, k _ _ hc, r⟩, np, fun D hD => ?_⟩
  cases q : H D with
  | none => exact absurd q (tr D hD)
  | some o => rw [k _ _ q]; exact fun z => nomatch z
theorem handIn_less {H : Hp} {p : Addr} {S S' : Addr → Prop} (h : HandIn H p S) (k : ∀ x, S' x → S x) : HandIn H p S' := by
  obtain ⟨⟨g, c, gs, cs, d, n, hp, hg, hc, n1, n2, n3, n4⟩, np, tr⟩ := h
  exact ⟨⟨g, c, gs, cs, d, n, hp, hg, hc, n1, n2, fun z => n3 (k _ z), fun z => n4 (k _ z)⟩, fun z => np (k _ z), fun D hD => tr D (k _ hD)⟩
/-- a new thing of one's own -/
theorem handIn_add {H : Hp} {p D : Addr} {S : Addr → Prop} {o : HO} (h : HandIn H p S) (nD : H D = none) : HandIn (upd H D o) p (fun x => x = D ∨ S x) := by
  obtain ⟨⟨g, c, gs, cs, d, n, hp, hg, hc, n1, n2, n3, n4⟩, np, tr⟩ := h
  have e : ∀ {b : Addr} {u : HO}, H b = some u → b ≠ D := fun h z => by rw [z, nD] at h; cases h
  refine ⟨⟨g, c, gs, cs, d, n, by rw [upd_ne (e hp)]; exact hp, by rw [upd_ne (e hg)]; exact hg, by rw [upd_ne (e hc)]; exact hc, n1, n2, fun z => z.elim (e hg) n3, fun z => z.elim (e hc) n4⟩, fun z => z.elim (e hp) np, fun b hb => ?_⟩
  by_cases z : b = D
  · rw [z, upd_same]; exact fun z => nomatch z
  · rw [upd_ne z]; exact tr b (hb.resolve_left z)
/-- written at a thing of one's own -/
theorem handIn_write {H : Hp} {p D : Addr} {S : Addr → Prop} {o : HO} (h : HandIn H p S) (sD : S D) : HandIn (upd H D o) p S := by
  obtain ⟨⟨g, c, gs, cs, d, n, hp, hg, hc, n1, n2, n3, n4⟩, np, tr⟩ := h
  have e : ∀ {b : Addr}, ¬ S b → b ≠ D := fun h z => h (by rw [z]; exact sD)
  refine ⟨⟨g, c, gs, cs, d, n, by rw [upd_ne (e np)]; exact hp, by rw [upd_ne (e n3)]; exact hg, by rw [upd_ne (e n4)]; exact hc, n1, n2, n3, n4⟩, np, fun b hb => ?_⟩
  by_cases z : b = D
  · rw [z, upd_same]; exact fun z => nomatch z
  · rw [upd_ne z]; exact tr b hb
theorem hand_ne {H : Hp} {p a : Addr} {S : Addr → Prop} (h : HandIn H p S) (na : H a = none) : a ≠ p := fun z => by
  obtain ⟨_, _, _, _, _, _, e, _⟩ := h.ob
  rw [← z, na] at e; cases e
theorem tup_ne {H : Hp} {p a : Addr} {S : Addr → Prop} {xs : List V} (h : HandIn H p S) (ha : H a = some (.tup xs)) : a ≠ p := fun z => by
  obtain ⟨_, _, _, _, _, _, e, _⟩ := h.ob
  rw [← z, ha] at e; cases e
theorem handIn_put {H : Hp} {p g c : Addr} {S : Addr → Prop} {gs cs : List Int} (d n : Int) (h : HandIn H p S) (hg : H g = some (.lst (gs.map V.int))) (hc : H c = some (.lst (cs.map V.int))) (ng : p ≠ g) (nc : p ≠ c) (sg : ¬ S g) (sc : ¬ S c) : HandIn (upd H p (.lst [.ref g, .ref c, .int d, .int n])) p S := by
  refine ⟨⟨g, c, gs, cs, d, n, upd_same, by rw [upd_ne ng.symm]; exact hg, by rw [upd_ne nc.symm]; exact hc, ng, nc, sg, sc⟩, h.np, fun b hb => ?_⟩
  rw [upd_ne (fun z => h.np (by rw [← z]; exact hb))]
  exact h.tr b hb
def spDraw : Sp := fun vs H Q _ => ∃ (p : Addr) (S : Addr → Prop) (k : Int), vs = [.ref p, .int k] ∧ HandIn H p S ∧ 0 < k ∧ k < 1073741824 ∧
  ∀ (d : Int) H', 0 ≤ d → d < k → HandIn H' p S → Kept p H H' → Q (.int d) H'
def nDraw : List Str := ["_law_pool_here", "_law_many", "_law_digit", "_law_cell", "_law_number"]
theorem scDraw : FnScope nDraw ["_law_pool_here", "_law_many"] (defScope sDraw) := ⟨rfl, rfl, rfl, by decide +kernel, rfl, by decide +kernel, by decide +kernel⟩
theorem fmB {a k : Int} (h : 0 < k) : 0 ≤ a.fmod k ∧ a.fmod k < k := ⟨Int.fmod_nonneg_of_pos a h, Int.fmod_lt_of_pos a h⟩
theorem atNat {cs : List Int} {i : Int} (h0 : 0 ≤ i) (h1 : i < ((cs.map V.int).length : Int)) : ∃ z, atI (cs.map V.int) i = some (.int z) := by
  obtain ⟨n, rfl⟩ := Int.eq_ofNat_of_zero_le h0
  rw [List.length_map] at h1
  have hn : n < cs.length := by omega
  refine ⟨cs[n], ?_⟩
  unfold atI ixN
  rw [if_pos (by omega), List.length_map, if_pos (by omega)]
  show (cs.map V.int)[((n : Nat) : Int).toNat]? = _
  rw [Int.toNat_natCast, List.getElem?_map, List.getElem?_eq_getElem hn]
  rfl
theorem cutDrop1 (gs : List Int) : cutV (gs.map V.int) (some 1) none = (gs.drop 1).map V.int := by
  unfold cutV
  rw [show (some (1 : Int)) = some ((1 : Nat) : Int) from rfl, HT.sIx_none, HT.sIx_nat, List.map_drop]
  rw [List.length_map]
  rcases gs with _ | ⟨g, gs⟩
  · rfl
  · rw [List.take_of_length_le (by rw [List.length_drop, List.length_map]; show _ ≤ _; simp), show min 1 (g :: gs).length = 1 from by rw [List.length_cons]; omega]
section
variable {P : Program} {w : World} {K : PySem.W.Frag} {mg : Str → Option Value} {base : Heap}
theorem ok_draw {f : Addr} {fd : FuncData} (F : Fun K "_law_draw" "_law_draw" sDraw f fd) (mInt : mg "int" = none) (mLen : mg "len" = none) : FnOk P w K mg base CX0 1 f fd ["_law_pool_here", "_law_many"] spDraw := by
  have nd := scDraw.nd
  refine F.ok scDraw (fun vs H Q E h => ?_) (fun cdv A outer s H vs Q E hr h => ?_)
  · obtain ⟨p, S, k, rfl, _⟩ := h
    rfl
  · obtain ⟨p, S, k, rfl, hI, k0, k1, q⟩ := h
    refine ⟨_, psMid (ps_if (PW.pt (pw_and (pt_cmpR op_le (pe_ix ix_list (pv 0) pe_int (fun _ _ => rfl)) pe_int (nomark _))
            (pw_and1 (pt_cmpR op_gt (pe_callB call_len_seq (by rfl) mLen PySem.boot_len (pa_cons (pe_ix ix_list (pv 0) pe_int (fun _ _ => rfl)) pa_nil)) pe_int (nomark _)))))
        (pss_cons (ps_asg (pe_ix ix_list (pe_ix ix_list (pv 0) pe_int (fun _ _ => rfl)) pe_int (fun _ _ => rfl)) (pg_sub (pv 0) pe_int set_list))
        (pss_one (ps_asg (pe_slice sl_list (pe_ix ix_list (pv 0) pe_int (fun _ _ => rfl)) (po_some pe_int) po_none) (pg_sub (pv 0) pe_int set_list))))
        pss_nil)
      (pss_cons (ps_if (pt_cmpR op_gt (pe_ix ix_list (pv 0) pe_int (fun _ _ => rfl)) pe_int (nomark _))
        (pss_cons (ps_set (i := 2) nd rfl (Or.inl rfl) (pe_op op_modN (pe_callTy call_int1 (by rfl) mInt (by decide +kernel) (pa_cons (pe_ix ix_list (pv 0) pe_int (fun _ _ => rfl)) pa_nil)) (pv 1)))
        (pss_cons (ps_asg (pe_op op_fdivN (pe_ix ix_list (pv 0) pe_int (fun _ _ => rfl)) (pv 1)) (pg_sub (pv 0) pe_int set_list))
        (pss_one (ps_ret (pv 2))))) pss_nil)
      (pss_cons (ps_asg (pe_op op_add (pe_ix ix_list (pv 0) pe_int (fun _ _ => rfl)) pe_int) (pg_sub (pv 0) pe_int set_list))
      (pss_cons (ps_set (i := 3) nd rfl (Or.inl rfl) pe_int)
      (psMid (ps_if (pt_cmpR op_gt (pe_callB call_len_seq (by rfl) mLen PySem.boot_len (pa_cons (pe_ix ix_list (pv 0) pe_int (fun _ _ => rfl)) pa_nil)) pe_int (nomark _))
        (pss_one (ps_set (i := 3) nd rfl (Or.inl rfl) (pe_ix ix_list (pe_ix ix_list (pv 0) pe_int (fun _ _ => rfl)) (pe_op op_modN (pe_callTy call_int1 (by rfl) mInt (by decide +kernel) (pa_cons (pe_ix ix_list (pv 0) pe_int (fun _ _ => rfl)) pa_nil)) (pe_callB call_len_seq (by rfl) mLen PySem.boot_len (pa_cons (pe_ix ix_list (pv 0) pe_int (fun _ _ => rfl)) pa_nil))) (fun _ _ => rfl)))) pss_nil)
      (pss_cons (ps_set (i := 4) nd rfl (Or.inl rfl) (pe_op op_modN (pe_callTy call_int1 (by rfl) mInt (by decide +kernel) (pa_cons (pe_op op_mul (pe_op op_add (pe_op op_add (pv 3) (pe_op op_mul pe_int (pe_ix ix_list (pv 0) pe_int (fun _ _ => rfl)))) pe_int) pe_int) pa_nil)) pe_int))
      (pss_cons (ps_set (i := 4) nd rfl (Or.inl rfl) (pe_op op_modN (pe_callTy call_int1 (by rfl) mInt (by decide +kernel) (pa_cons (pe_op op_mul (pv 4) (pe_op op_add (pe_op op_fdivN (pv 4) pe_int) pe_int)) pa_nil)) pe_int))
      (pss_cons (ps_set (i := 4) nd rfl (Or.inl rfl) (pe_op op_modN (pe_callTy call_int1 (by rfl) mInt (by decide +kernel) (pa_cons (pe_op op_mul (pv 4) (pe_op op_add (pe_op op_fdivN (pv 4) pe_int) pe_int)) pa_nil)) pe_int))
      (pss_one (ps_ret (pe_op op_modN (pe_callTy call_int1 (by rfl) mInt (by decide +kernel) (pa_cons (pe_op op_fdivN (pv 4) pe_int) pa_nil)) (pv 1))))))))))), ?_⟩
    have sq : ∀ {H' : Hp} {a : Addr} {xs : List V}, H' a = some (.lst xs) → SqL K H' a xs := fun h => .inl (.inl h)
    have kn : k ≠ 0 := by omega
    have kb : k.natAbs < 1073741824 := by omega
    refine ⟨fun σ2 H2 => σ2 = [some (.ref p), some (.int k), none, none, none] ∧ HandIn H2 p S ∧ Kept p H H2, ?_, ?_⟩
    · obtain ⟨⟨g, c, gs, cells, d, n, hp, hg, hc, ng, nc, sg, sc⟩, nps, tr⟩ := id hI
      refine ⟨_, rfl, p, _, 2, _, rfl, rfl, sq hp, rfl, _, _, rfl, rfl, _, rfl, ?_⟩
      refine ite2 (fun _ => ?_) (fun _ => ⟨rfl, hI, fun _ _ _ e => e⟩)
      refine ⟨_, rfl, p, _, 0, _, rfl, rfl, sq hp, rfl, g, _, rfl, .inl (sq hg), _, _, rfl, rfl, _, rfl, ?_⟩
      refine ite2 (fun hlt => ?_) (fun _ => ⟨rfl, hI, fun _ _ _ e => e⟩)
      obtain ⟨z, hz⟩ := atNat (cs := gs) (i := 0) (Int.le_refl 0) (of_decide_eq_true hlt)
      refine ⟨_, rfl, p, _, 0, _, rfl, rfl, sq hp, rfl, g, _, 0, _, rfl, rfl, sq hg, hz, _, rfl, p, _, 2, 2, rfl, rfl, hp, rfl, ?_⟩
      show _
      have hp1 : upd H p (.lst (List.set [.ref g, .ref c, .int d, .int n] 2 (.int z))) p = some (.lst [.ref g, .ref c, .int z, .int n]) := upd_same
      have hI1 : HandIn (upd H p (.lst (List.set [.ref g, .ref c, .int d, .int n] 2 (.int z)))) p S := handIn_put z n hI hg hc ng nc sg sc
      have hg1 : upd H p (.lst (List.set [.ref g, .ref c, .int d, .int n] 2 (.int z))) g = some (.lst (gs.map V.int)) := by rw [upd_ne ng.symm]; exact hg
      have hc1 : upd H p (.lst (List.set [.ref g, .ref c, .int d, .int n] 2 (.int z))) c = some (.lst (cells.map V.int)) := by rw [upd_ne nc.symm]; exact hc
      have k1 : Kept p H (upd H p (.lst (List.set [.ref g, .ref c, .int d, .int n] 2 (.int z)))) := kept_hand
      generalize upd H p (.lst (List.set [.ref g, .ref c, .int d, .int n] 2 (.int z))) = H1 at hp1 hI1 hg1 hc1 k1 ⊢
      refine ⟨_, rfl, p, _, 0, _, rfl, rfl, sq hp1, rfl, 1, rfl, g, _, rfl, sq hg1, fun s ns => ?_⟩
      rw [cutDrop1]
      have s2 := smUpd (o := .lst ((gs.drop 1).map V.int)) ns
      have ps : p ≠ s := fun e => by rw [← e, hp1] at ns; cases ns
      refine ⟨_, rfl, p, _, 0, 0, rfl, rfl, s2 _ _ hp1, rfl, ?_⟩
      exact ⟨rfl, handIn_put z n (handIn_keep hI1 s2) upd_same (s2 _ _ hc1) ps nc (fun z => hI1.tr s z ns) sc, kept_trans k1 (kept_trans (kept_same s2) kept_hand)⟩
    · rintro σ2 H2 ⟨rfl, hI2, k2⟩
      obtain ⟨⟨g, c, gs, cells, d, n, hp, hg, hc, ng, nc, sg, sc⟩, nps, tr⟩ := id hI2
      refine ⟨_, rfl, p, _, 2, _, rfl, rfl, sq hp, rfl, _, _, rfl, rfl, _, rfl, ?_⟩
      refine ite2 (fun _ => ?_) (fun _ => ?_)
      · refine ⟨_, rfl, p, _, 2, _, rfl, rfl, sq hp, rfl, .inl ⟨_, rfl, _, rfl, _, _, rfl, rfl, kn, ?_⟩⟩
        refine ⟨_, rfl, p, _, 2, _, rfl, rfl, sq hp, rfl, _, rfl, _, _, rfl, rfl, ⟨kn, kb⟩, _, rfl, p, _, 2, 2, rfl, rfl, hp, rfl, _, rfl, ?_⟩
        exact q _ _ (fmB k0).1 (fmB k0).2 (handIn_put _ n hI2 hg hc ng nc sg sc) (kept_trans k2 kept_hand)
      · refine ⟨_, rfl, p, _, 3, _, rfl, rfl, sq hp, rfl, _, _, rfl, rfl, _, rfl, p, _, 3, 3, rfl, rfl, hp, rfl, ?_⟩
        have hI3 : HandIn (upd H2 p (.lst (List.set [.ref g, .ref c, .int d, .int n] 3 (.int (n + 1))))) p S := handIn_put d (n + 1) hI2 hg hc ng nc sg sc
        have hp3 : upd H2 p (.lst (List.set [.ref g, .ref c, .int d, .int n] 3 (.int (n + 1)))) p = some (.lst [.ref g, .ref c, .int d, .int (n + 1)]) := upd_same
        have hc3 : upd H2 p (.lst (List.set [.ref g, .ref c, .int d, .int n] 3 (.int (n + 1)))) c = some (.lst (cells.map V.int)) := by rw [upd_ne nc.symm]; exact hc
        have k3 : Kept p H (upd H2 p (.lst (List.set [.ref g, .ref c, .int d, .int n] 3 (.int (n + 1))))) := kept_trans k2 kept_hand
        generalize upd H2 p (.lst (List.set [.ref g, .ref c, .int d, .int n] 3 (.int (n + 1)))) = H3 at hI3 hp3 hc3 k3 ⊢
        refine ⟨fun σ4 H4 => H4 = H3 ∧ ∃ z : Int, σ4 = [some (.ref p), some (.int k), none, some (.int z), none], ?_, ?_⟩
        · refine ⟨_, rfl, p, _, 1, _, rfl, rfl, sq hp3, rfl, c, _, rfl, .inl (sq hc3), _, _, rfl, rfl, _, rfl, ?_⟩
          refine ite2 (fun hlt => ?_) (fun _ => ⟨rfl, 0, rfl⟩)
          have hlt := of_decide_eq_true hlt
          obtain ⟨z, hz⟩ := atNat (cs := cells) (fmB (a := n + 1) hlt).1 (fmB hlt).2
          refine ⟨_, rfl, p, _, 1, _, rfl, rfl, sq hp3, rfl, _, rfl, p, _, 3, _, rfl, rfl, sq hp3, rfl, .inl ⟨_, rfl, _, rfl, p, _, 1, _, rfl, rfl, sq hp3, rfl, c, _, rfl, .inl (sq hc3), _, _, rfl, rfl, by omega, c, _, _, _, rfl, rfl, sq hc3, hz, ?_⟩⟩
          exact ⟨rfl, z, rfl⟩
        · rintro σ4 H4 ⟨rfl, z, rfl⟩
          refine ⟨_, rfl, _, rfl, p, _, 3, _, rfl, rfl, sq hp3, rfl, _, _, rfl, rfl, .inl (by decide), _, _, rfl, rfl, _, _, rfl, rfl, _, _, rfl, rfl, .inr (by decide), .inl ⟨_, rfl, _, _, rfl, rfl, (show (2147483647 : Int) ≠ 0 by decide), ?_⟩⟩
          have b1 := fmB (a := (z + 7919 * (n + 1) + 1) * 48271) (k := 2147483647) (by decide)
          refine ⟨_, rfl, _, rfl, _, _, rfl, rfl, ⟨by decide, by decide⟩, _, _, rfl, rfl, _, _, rfl, rfl, .inl ⟨by omega, by omega⟩, .inl ⟨_, rfl, _, _, rfl, rfl, (show (2147483647 : Int) ≠ 0 by decide), ?_⟩⟩
          have b2 := fmB (a := ((z + 7919 * (n + 1) + 1) * 48271).fmod 2147483647 * ((((z + 7919 * (n + 1) + 1) * 48271).fmod 2147483647).fdiv 1009 + 69621)) (k := 2147483647) (by decide)
          refine ⟨_, rfl, _, rfl, _, _, rfl, rfl, ⟨by decide, by decide⟩, _, _, rfl, rfl, _, _, rfl, rfl, .inl ⟨by omega, by omega⟩, .inl ⟨_, rfl, _, _, rfl, rfl, (show (2147483399 : Int) ≠ 0 by decide), ?_⟩⟩
          refine ⟨_, rfl, _, _, rfl, rfl, ⟨by decide, by decide⟩, .inl ⟨_, rfl, _, rfl, _, _, rfl, rfl, kn, ?_⟩⟩
          exact q _ _ (fmB k0).1 (fmB k0).2 hI3 k3
end
end Cn
namespace Cn
open PySem PySem.Spec PyProof.Rows L2
theorem small4000 {n : Nat} (h : n ≤ 4000) : n < sizeLine := Nat.lt_of_le_of_lt h (by decide)
theorem OpR.orr {X : Cx} {f : Value → Value → Sem Value} {r r2 : R2} (h : OpR X f r) (k : OpR X f r2) : OpR X f (fun x y H Q => r x y H Q ∨ r2 x y H Q) := by
  intro pins s σ H x y v u Q I rx ry q
  rcases q with q | q
  · exact h pins s σ H x y v u Q I rx ry q
  · exact k pins s σ H x y v u Q I rx ry q
/-! two things that are alike, of nesting at most n: flat ones and dicts are the same -/
def DictOk (H : Hp) (x : V) : Prop := ∃ a kvs, x = .ref a ∧ H a = some (.dK kvs) ∧ (kvs = [] ∨ ∃ k u, kvs = [(k, u)] ∧ (flatV u = true ∨ ∃ b, u = .ref b))
def EqG (H : Hp) : Nat → V → V → Prop
  | 0 => fun x y => x = y ∧ (flatV x = true ∨ DictOk H x)
  | n + 1 => fun x y => EqG H n x y ∨ ∃ a b xs ys, x = .ref a ∧ y = .ref b ∧ ((H a = some (.lst xs) ∧ H b = some (.lst ys)) ∨ (H a = some (.tup xs) ∧ H b = some (.tup ys))) ∧ xs.length ≤ 4000 ∧ Paired (EqG H n) xs ys
theorem pairedSelf {F : V → V → Prop} : ∀ {xs : List V}, (∀ x ∈ xs, F x x) → Paired F xs xs
  | [], _ => .nil
  | x :: xs, h => .cons (h x List.mem_cons_self) (pairedSelf fun y hy => h y (List.mem_cons_of_mem _ hy))
theorem eqG_same {H H' : Hp} (s : Same H H') : ∀ {n : Nat} {x y : V}, EqG H n x y → EqG H' n x y
  | 0, x, y, h => by
    obtain ⟨e, h | ⟨a, kvs, e2, ha, hk⟩⟩ := h
    · exact ⟨e, .inl h⟩
    · exact ⟨e, .inr ⟨a, kvs, e2, s _ _ ha, hk⟩⟩
  | n + 1, x, y, h => by
    rcases h with h | ⟨a, b, xs, ys, e1, e2, h, hl, hp⟩
    · exact .inl (eqG_same s h)
    · exact .inr ⟨a, b, xs, ys, e1, e2, h.imp (fun z => ⟨s _ _ z.1, s _ _ z.2⟩) (fun z => ⟨s _ _ z.1, s _ _ z.2⟩), hl, Paired.mapP hp fun _ _ z => eqG_same s z⟩
/-- told and due, alike: True comes out, new things apart nothing is changed -/
def spIs (n : Nat) : Sp := fun vs H Q _ => ∃ (x y : V), vs = [x, y] ∧ EqG H n x y ∧ ∀ H', Same H H' → Q (.bl true) H'
/-- all([..]) over two lists, or two tuples, of things alike -/
def tAllIs (n : Nat) : TE := fun σ H Q => ∃ a b xs ys, σ[0]? = some (some (.ref a)) ∧ σ[1]? = some (some (.ref b)) ∧ ((H a = some (.lst xs) ∧ H b = some (.lst ys)) ∨ (H a = some (.tup xs) ∧ H b = some (.tup ys))) ∧ xs.length ≤ 4000 ∧ Paired (EqG H n) xs ys ∧ ∀ H', Same H H' → Q (.bl true) H'
/-! types -/
theorem kit2 {K : PySem.W.Frag} {T : String} {b : Bool} (h : ((kitB T "tuple").bind fun a => if a then some true else kitB T "list") = some b) : PySem.W.kitAny K (.type T) [.type "tuple", .type "list"] = some b := by
  cases e : kitB T "tuple" with
  | none => rw [e] at h; cases h
  | some a =>
    rw [e] at h
    cases a with
    | true =>
      have hb : b = true := (Option.some.inj h).symm
      subst hb
      exact kitAny_cons (kit_ty e) (fun z => nomatch z) fun _ => rfl
    | false =>
      have h : kitB T "list" = some b := h
      refine kitAny_cons (kit_ty e) (fun _ => kitAny_cons (kit_ty h) (fun z => ?_) (fun z => z)) (fun z => nomatch z)
      rw [z]; exact kitAny_nil
/-- a thing that is no list and no tuple -/
theorem leafTy {K : PySem.W.Frag} {H : Hp} {x : V} (h : flatV x = true ∨ DictOk H x) : ∃ T b, TyX K H x (.type T) ∧ PySem.W.kitAny K (.type T) [.type "tuple", .type "list"] = some false ∧ PySem.W.kitOne K (.type T) (.type "bool") = some b := by
  rcases h with h | ⟨a, kvs, rfl, ha, _⟩
  · cases x with
    | non => exact ⟨"NoneType", false, .base .non, kit2 (by decide +kernel), kit_ty (by decide +kernel)⟩
    | bl b => exact ⟨"bool", true, .base (.bl b), kit2 (by decide +kernel), kit_ty (by decide +kernel)⟩
    | int i => exact ⟨"int", false, .base (.int i), kit2 (by decide +kernel), kit_ty (by decide +kernel)⟩
    | str z => exact ⟨"str", false, .base (.str z), kit2 (by decide +kernel), kit_ty (by decide +kernel)⟩
    | _ => cases h
  · exact ⟨"dict", false, .base (.dK ha), kit2 (by decide +kernel), kit_ty (by decide +kernel)⟩
theorem seqTy {K : PySem.W.Frag} {H : Hp} {a : Addr} {xs : List V} {tu : Bool} (h : if tu = true then H a = some (.tup xs) else H a = some (.lst xs)) : ∃ T, TyX K H (.ref a) (.type T) ∧ PySem.W.kitAny K (.type T) [.type "tuple", .type "list"] = some true ∧ PySem.W.kitOne K (.type T) (.type "tuple") = some tu := by
  cases tu with
  | true => exact ⟨"tuple", .base (.tup (by simpa using h)), kit2 (by decide +kernel), kit_ty (by decide +kernel)⟩
  | false => exact ⟨"list", .base (.lst (by simpa using h)), kit2 (by decide +kernel), kit_ty (by decide +kernel)⟩
end Cn
namespace Cn
open PySem PySem.Spec PyProof.Rows L2
/-! comprehensions over zip -/
section
variable {K : PySem.W.Frag} {a b D : Addr} {xs ys : List V} {g : TG} {tt : TT} {te : TE} {vs : List Nat} {σ : L2.St} {H1 : Hp} {Qd : Hp → Prop}
def ZipTurn (Pv : Nat → Hp → Prop) (D : Addr) (g : TG) (tt : TT) (te : TE) (vs : List Nat) (σ : L2.St) (i : Nat) (x y : V) : Prop := ∀ (T : Addr) (H : Hp), Pv i H → H T = none → g (.ref T) (wipe σ vs) (upd H T (.tup [x, y])) fun σ2 H2 => wipe σ2 vs = wipe σ vs ∧ tt σ2 H2 fun k H3 =>
  if k = true then te σ2 H3 fun z H4 => ∃ acc, H4 D = some (.lst acc) ∧ acc.length < sizeLine ∧ Pv (i + 1) (upd H4 D (.lst (acc ++ [z]))) else Pv (i + 1) H3
theorem lcZipL (hl : xs.length = ys.length) (Pv : Nat → Hp → Prop) (h0 : Pv 0 (upd H1 D (.lst []))) (hq : ∀ i H, Pv i H → SqL K H a xs ∧ SqL K H b ys) (hs : ∀ i x y, xs[i]? = some x → ys[i]? = some y → ZipTurn Pv D g tt te vs σ i x y) (hd : ∀ H, Pv xs.length H → Qd H) :
    ∃ W : Nat → Nat → Hp → Prop, (∃ m, W 0 m (upd H1 D (.lst []))) ∧ ∀ i m H, W i m H → ((Itz K a b).stop i H ∧ Qd H) ∨ ((Itz K a b).go i H ∧ ∃ Nx : Hp → Prop, (∀ H', Nx H' → ∃ m', m' < m ∧ W (i + 1) m' H') ∧ ∀ x H', (Itz K a b).yld i H x H' → g x (wipe σ vs) H' fun σ2 H2 => wipe σ2 vs = wipe σ vs ∧ tt σ2 H2 fun k H3 =>
      if k = true then te σ2 H3 fun z H4 => ∃ acc, H4 D = some (.lst acc) ∧ acc.length < sizeLine ∧ Nx (upd H4 D (.lst (acc ++ [z]))) else Nx H3) := by
  refine ⟨fun i m H => m = xs.length - i ∧ i ≤ xs.length ∧ Pv i H, ⟨_, rfl, Nat.zero_le _, h0⟩, ?_⟩
  rintro i m H ⟨rfl, hi, p⟩
  obtain ⟨qa, qb⟩ := hq i H p
  rcases Nat.lt_or_ge i xs.length with lt | ge
  · have ea : xs[i]? = some xs[i] := List.getElem?_eq_getElem lt
    have lt2 : i < ys.length := by omega
    have eb : ys[i]? = some ys[i] := List.getElem?_eq_getElem lt2
    refine .inr ⟨⟨xs, ys, _, _, qa, qb, ea, eb⟩, Pv (i + 1), fun H' p' => ⟨xs.length - (i + 1), by omega, rfl, lt, p'⟩, ?_⟩
    rintro v H' ⟨T, u, z, rfl, nT, rfl, k1, k2⟩
    exact hs i u z (k1 xs qa) (k2 ys qb) T H p nT
  · have e : i = xs.length := by omega
    subst e
    exact .inl ⟨⟨xs, ys, qa, qb, .inl (Nat.le_refl _)⟩, hd H p⟩
theorem lcZipT (hl : xs.length = ys.length) (Pv : Nat → Hp → Prop) (h0 : Pv 0 (upd H1 D (.lst []))) (hq : ∀ i H, Pv i H → SqT K H a xs ∧ SqT K H b ys) (hs : ∀ i x y, xs[i]? = some x → ys[i]? = some y → ZipTurn Pv D g tt te vs σ i x y) (hd : ∀ H, Pv xs.length H → Qd H) :
    ∃ W : Nat → Nat → Hp → Prop, (∃ m, W 0 m (upd H1 D (.lst []))) ∧ ∀ i m H, W i m H → ((RZ.ItzT K a b).stop i H ∧ Qd H) ∨ ((RZ.ItzT K a b).go i H ∧ ∃ Nx : Hp → Prop, (∀ H', Nx H' → ∃ m', m' < m ∧ W (i + 1) m' H') ∧ ∀ x H', (RZ.ItzT K a b).yld i H x H' → g x (wipe σ vs) H' fun σ2 H2 => wipe σ2 vs = wipe σ vs ∧ tt σ2 H2 fun k H3 =>
      if k = true then te σ2 H3 fun z H4 => ∃ acc, H4 D = some (.lst acc) ∧ acc.length < sizeLine ∧ Nx (upd H4 D (.lst (acc ++ [z]))) else Nx H3) := by
  refine ⟨fun i m H => m = xs.length - i ∧ i ≤ xs.length ∧ Pv i H, ⟨_, rfl, Nat.zero_le _, h0⟩, ?_⟩
  rintro i m H ⟨rfl, hi, p⟩
  obtain ⟨qa, qb⟩ := hq i H p
  rcases Nat.lt_or_ge i xs.length with lt | ge
  · have ea : xs[i]? = some xs[i] := List.getElem?_eq_getElem lt
    have lt2 : i < ys.length := by omega
    have eb : ys[i]? = some ys[i] := List.getElem?_eq_getElem lt2
    refine .inr ⟨⟨xs, ys, _, _, qa, qb, ea, eb⟩, Pv (i + 1), fun H' p' => ⟨xs.length - (i + 1), by omega, rfl, lt, p'⟩, ?_⟩
    rintro v H' ⟨T, u, z, rfl, nT, rfl, k1, k2⟩
    exact hs i u z (k1 xs qa) (k2 ys qb) T H p nT
  · have e : i = xs.length := by omega
    subst e
    exact .inl ⟨⟨xs, ys, qa, qb, .inl (Nat.le_refl _)⟩, hd H p⟩
end
theorem pairedAt {F : V → V → Prop} : ∀ {xs ys : List V}, Paired F xs ys → ∀ {i : Nat} {x y : V}, xs[i]? = some x → ys[i]? = some y → F x y
  | _, _, .nil, i, x, y, h, _ => by simp at h
  | _, _, .cons h t, 0, x, y, h1, h2 => by
    cases (Option.some.inj h1)
    cases (Option.some.inj h2)
    exact h
  | _, _, .cons _ t, i + 1, x, y, h1, h2 => pairedAt t (i := i) (by simpa using h1) (by simpa using h2)
section
variable {P : Program} {w : World} {K : PySem.W.Frag} {mg : Str → Option Value} {base : Heap}
structure IsTxt (mg : Str → Option Value) : Prop where
  inst : mg "isinstance" = none
  tup : mg "tuple" = none
  lst : mg "list" = none
  bool : mg "bool" = none
  len : mg "len" = none
  all : mg "all" = none
  zip : mg "zip" = none
/-- the turn of the comprehension, by the promise of the next depth -/
theorem isTurn {n : Nat} {K' : PySem.W.Frag} {D : Addr} {xs ys : List V} {H0 : Hp} {u0 u1 z2 z3 : Option V} (hp : Paired (EqG H0 n) xs ys) (hx : xs.length ≤ 4000) (nD : H0 D = none) (i : Nat) (x y : V) (h1 : xs[i]? = some x) (h2 : ys[i]? = some y) :
    ZipTurn (fun i H' => Same H0 H' ∧ H' D = some (.lst ((List.replicate i true).map V.bl))) D (gTup K' 2 (gCons (gName 2) (gCons (gName 3) gNil))) tYes (tCall (spIs n) [] (fun _ _ _ => False) (tCons (tVar 2) (tCons (tVar 3) tNil))) [2, 3] [u0, u1, z2, z3] i x y := by
  rintro T H ⟨sm, hD⟩ nT
  have hi : i < 4000 := Nat.lt_of_lt_of_le (List.getElem?_eq_some_iff.mp h1).1 hx
  have sT : Same H (upd H T (.tup [x, y])) := smUpd nT
  refine ⟨T, [x, y], rfl, .inl (.inl upd_same), rfl, x, [y], rfl, y, [], rfl, rfl, rfl, x, rfl, y, rfl, x, y, rfl, eqG_same (sm.trans sT) (pairedAt hp h1 h2), fun H' s' => ?_⟩
  have hD' : H' D = some (.lst ((List.replicate i true).map V.bl)) := s' _ _ (sT _ _ hD)
  refine ⟨_, hD', by rw [List.length_map, List.length_replicate]; exact small4000 (by omega), fun b o e => ?_, ?_⟩
  · have nb : b ≠ D := fun z => by rw [z, nD] at e; cases e
    rw [upd_ne nb]
    exact s' _ _ (sT _ _ (sm _ _ e))
  · rw [upd_same, show List.replicate (i + 1) true = List.replicate i true ++ [true] from List.replicate_succ', List.map_append]
    rfl
theorem allRep (n : Nat) : (List.replicate n true).all id = true := by
  induction n with
  | zero => rfl
  | succ n ih => rw [List.replicate_succ, List.all_cons, ih]; rfl
theorem sameT {K : PySem.W.Frag} {H H' : Hp} {a : Addr} {xs : List V} (s : Same H H') (h : SqT K H a xs) : SqT K H' a xs := h.imp (fun r => r.imp (s _ _) (fun ⟨o, e⟩ => ⟨o, s _ _ e⟩)) (fun z => z)
theorem eqG_up {H : Hp} {n m : Nat} {x y : V} (h : EqG H n x y) (hm : n ≤ m) : EqG H m x y := by
  induction m with
  | zero =>
    have e : n = 0 := by omega
    rw [← e]; exact h
  | succ m ih =>
    by_cases e : n = m + 1
    · rw [← e]; exact h
    · exact .inl (ih (by omega))
theorem eqG_cases {H : Hp} : ∀ {n : Nat} {x y : V}, EqG H n x y → (x = y ∧ (flatV x = true ∨ DictOk H x)) ∨ ∃ m, n = m + 1 ∧ ∃ a b xs ys, x = .ref a ∧ y = .ref b ∧ ((H a = some (.lst xs) ∧ H b = some (.lst ys)) ∨ (H a = some (.tup xs) ∧ H b = some (.tup ys))) ∧ xs.length ≤ 4000 ∧ Paired (EqG H m) xs ys
  | 0, x, y, h => .inl h
  | n + 1, x, y, h => by
    rcases h with h | ⟨a, b, xs, ys, h⟩
    · rcases eqG_cases h with z | ⟨m, e, a, b, xs, ys, e1, e2, e3, e4, e5⟩
      · exact .inl z
      · exact .inr ⟨n, rfl, a, b, xs, ys, e1, e2, e3, e4, Paired.mapP e5 fun _ _ q => eqG_up q (by omega)⟩
    · exact .inr ⟨n, rfl, a, b, xs, ys, h⟩
/-- by the depth: nothing at 0 -/
def spJ : Nat → Sp
  | 0 => fun _ _ _ _ => False
  | n + 1 => spIs n
/-- the same flat thing, the same dict, compared -/
theorem leafEq {K : PySem.W.Frag} {H : Hp} {x : V} {Q : VK} (h : flatV x = true ∨ DictOk H x) (k : Q (.bl true) H) : rEq x x H Q ∨ rEqV K x x H Q := by
  rcases h with h | ⟨a, kvs, rfl, ha, hk⟩
  · left
    refine ⟨?_, ?_⟩
    · cases x <;> first | rfl | cases h
    · rw [decide_eq_true rfl]; exact k
  · right
    refine ⟨1, by decide, .inr ⟨a, a, kvs, kvs, rfl, rfl, ha, ha, rfl, fun q hq => ?_⟩, k⟩
    rcases hk with rfl | ⟨kk, u, rfl, hu⟩
    · cases hq
    · obtain rfl := List.mem_singleton.mp hq
      refine ⟨u, ?_, ?_⟩
      · show valV [(kk, u)] kk = some u
        unfold valV
        simp
      · rcases hu with hu | ⟨b, rfl⟩
        · refine .inl ⟨rfl, ?_⟩
          cases u <;> first | rfl | cases hu
        · exact .inr (.inl ⟨b, rfl, rfl⟩)
end
end Cn
namespace Cn
open PySem PySem.Spec PyProof.Rows L2
section
open AutoSeq1 (wpAny_loadPart')
theorem meets_enum_tup (l : Addr) (items : Array Value) (n : Nat) (dct : Option Addr) (sl : Array (Option Value)) :
    Meets (Builtin.«enumerate.__new__» ⟨[.type "enumerate", .ref l], []⟩) (fun _ R s => s.heap.get? l = some { cls := .type "tuple", dict := dct, data := .seq items n, slots := sl } ∧
      R (.ok (.ret (.ref (s.heap.push { cls := .type "tuple_iterator", data := .fields #[.ref l, .int 0 0] }).objs.size)))
        { s with heap := (s.heap.push { cls := .type "tuple_iterator", data := .fields #[.ref l, .int 0 0] }).push { cls := .type "enumerate", data := .fields #[.none, .bool false, .ref s.heap.objs.size, rawInt 0, .none, .none] } }) :=
  .of_wp fun prog w A R s h => by
    obtain ⟨hp, g, d, tk, os⟩ := s; obtain ⟨hl, h⟩ := h
    have hsub := sub_enumerate
    have hL : Heap.IsTuple (Shared.heap ⟨hp, g, d, tk, os⟩) l items := ⟨_, hl, rfl, n, rfl⟩
    wp_walk using wpAny_loadPart' hl
    refine wpAny_stack_any fun st => wpAny_pure ?_
    split
    · rename_i c _ _ _ _ _
      cases (c == Value.type "enumerate")
      · wp_walk using wpAny_loadPart' hl, wpAny_pyIter_tuple hL
        exact ⟨_, rfl, h⟩
      · wp_walk using wpAny_loadPart' hl, wpAny_pyIter_tuple hL
        exact ⟨_, rfl, h⟩
    · wp_walk using wpAny_loadPart' hl, wpAny_pyIter_tuple hL
      exact ⟨_, rfl, h⟩
end
section
variable {prog : Program} {w : World} {A : Around} {E : Value → Shared → Prop} {s : Shared}
theorem call_enum_tup {l : Addr} {items : Array Value} {Q : Value → Shared → Prop} (hL : s.heap.IsTuple l items)
    (h : ∀ h', IsEnum h' (s.heap.objs.size + 1) s.heap.objs.size 0 .none → h'.IsTupleIter s.heap.objs.size l 0 → h'.objs.size = s.heap.objs.size + 2 →
      (∀ b o, s.heap.get? b = some o → h'.get? b = some o) → Q (.ref (s.heap.objs.size + 1)) { s with heap := h' }) :
    wpAny (model prog w) A (call (.type "enumerate") [.ref l]) Q E s := by
  obtain ⟨⟨c, dct, dt, sl⟩, hl, hc, n, hd⟩ := hL
  replace hc : c = .type "tuple" := hc
  replace hd : dt = .seq items n := hd
  subst hc hd
  refine callType_new F.called_enumerate (by decide) (F.typeCall_enumerate_1 _) (F.newCall_enumerate_1 _) (fun obj => F.args_object_init_2 obj _) F.entry_enumerate_new
    (meets_enum_tup l items n dct sl) ⟨hl, ?_⟩
  have hz : (s.heap.push { cls := .type "tuple_iterator", data := .fields #[.ref l, .int 0 0] }).objs.size = s.heap.objs.size + 1 := Heap.size_push ..
  show _ ∧ _
  rw [hz]
  have he : IsEnum ((s.heap.push { cls := .type "tuple_iterator", data := .fields #[.ref l, .int 0 0] }).push { cls := .type "enumerate", data := .fields #[.none, .bool false, .ref s.heap.objs.size, rawInt 0, .none, .none] }) (s.heap.objs.size + 1) s.heap.objs.size 0 .none := by
    have := Heap.get?_push_size (s.heap.push { cls := .type "tuple_iterator", data := .fields #[.ref l, .int 0 0] }) (o := { cls := .type "enumerate", data := .fields #[.none, .bool false, .ref s.heap.objs.size, rawInt 0, .none, .none] }) rfl
    rw [hz] at this; exact this
  refine ⟨⟨_, he, rfl⟩, h _ he ⟨_, Heap.get?_push_of_some _ (Heap.get?_push_size _ rfl), rfl, rfl⟩ (by rw [Heap.size_push, hz]) fun b o x => Heap.get?_push_of_some _ (Heap.get?_push_of_some _ x)⟩
theorem enumEndT {e it l : Addr} {i : Nat} {c : Int} {items : Array Value} {old : Value} {Q : Option Value → Shared → Prop} (hh : A.handled = none) (he : IsEnum s.heap e it c old) (hit : s.heap.IsTupleIter it l i) (hl : s.heap.IsTuple l items) (hx : items[i]? = none)
    (hQ : ∀ h', Heap.ExtBut it s.heap h' → Q none { s with heap := h' }) : wpAny (model prog w) A (pyNext (.ref e)) Q E s := by
  have hT : s.TypeIs (.ref e) "enumerate" := ⟨_, he, rfl⟩
  unfold pyNext
  refine wpAny_bind (wpAny_attempt (wpAny_callSpecial?_slot (name := Str.ofString "__next__") hT F.slot_enumerate_next
    (wpAny_call_entry F.slot_enumerate_next hT F.entry_enumerate_next ?_ (F.args_enumerate_next_1 _))))
  show wpAny _ _ (field (.ref e) 2 >>= _) _ _ _
  refine wpAny_bind (wpAny_field he rfl (x := .ref it) rfl ?_)
  refine wpAny_bind (wpAny_nextOf_tuple_end (A := A.in1) hh hit hl hx fun h' x he' hx' => ?_)
  obtain ⟨o, ho, hc⟩ := hx'
  refine wpAny_bind (wpAny_isInstance (T := "StopIteration") (b := true) ⟨o, ho, hc⟩ isSubtype_stop ?_)
  exact wpAny_pure (hQ _ he')
end
/-- the tuple at a, each item in a new pair -/
def IteT (K : PySem.W.Frag) (a : Addr) : It :=
  ⟨fun i H => ∃ (xs : List V) (x : V), SqT K H a xs ∧ xs[i]? = some x, fun i H v H' => ∃ T x, v = .ref T ∧ H T = none ∧ H' = upd H T (.tup [.int (i : Nat), x]) ∧ ∀ xs, SqT K H a xs → xs[i]? = some x, fun i H => ∃ xs : List V, SqT K H a xs ∧ xs.length ≤ i⟩
theorem turn_enumT {P : Program} {w : World} {K : PySem.W.Frag} {elts : List Expr} {kk : Nat} {tpos : Pos} (a e it : Addr) :
    Turn P w K (.Tuple elts kk tpos) (IteT K a) [e, it] e (fun i h => (∃ old, IsEnum h e it ((i : Nat) : Int) old) ∧ h.IsTupleIter it a i ∧ e ≠ it ∧ a ≠ it ∧ a ≠ e) where
  mem := by simp
  obj := fun i h st b hb => by
    obtain ⟨⟨old, he⟩, ⟨o, ho, hc, hd⟩, _⟩ := st
    have e' : b = e ∨ b = it := by simpa using hb
    rcases e' with z | z
    · rw [z]; exact ⟨_, he, fun v q => nomatch q⟩
    · rw [z]; exact ⟨o, ho, fun v q => by rw [hd] at q; cases q⟩
  keep := fun i h h' st k => let ⟨⟨old, he⟩, hi, hne⟩ := st; ⟨⟨old, k e (by simp) _ he⟩, hi.at fun o q => k it (by simp) o q, hne⟩
  item := by
    intro X hP hw hK hc i pins s σ H E I hf st hg
    subst hP hw hK
    obtain ⟨⟨old, he⟩, hit, hne, hai, hae⟩ := st
    obtain ⟨xs, x, hq, hx⟩ := hg
    obtain ⟨its, rv, p, hz⟩ := I.tuple hq
    obtain ⟨u, hu, ru⟩ := rv.get hx
    have hel : e < s.heap.objs.size := Heap.lt_size he
    have hil : it < s.heap.objs.size := by obtain ⟨_, q, _⟩ := hit; exact Heap.lt_size q
    have hlt : i < its.toArray.size := by
      have := (List.getElem?_eq_some_iff.mp hu).1
      simpa using this
    refine wpAny_pyNext_enum_itemC (c := ((i : Nat) : Int)) (Draws.tuple (A := X.A.in1) (I.ok.hd hc) it a hai its.toArray) he ⟨hit, p⟩ hlt hne (by simp [hne, Ne.symm hae]) fun x' h' tk hP ho hs' hT hsz hk => ?_
    have ex : x' = u := by
      have e1 : its.toArray[i]? = some u := by simpa using hu
      rw [e1] at hP
      exact (Option.some.inj hP).symm
    subst ex
    refine ⟨_, rfl, wpAny_letOwnedTupleGo_enum (s := { s with heap := h', toks := tk + 1 }) ho fun h'' he' sb => ?_⟩
    have hT2 : h''.get? s.heap.objs.size = some { cls := .type "tuple", data := .seq #[.int i tk, x'] } := (sb.2 _ (Nat.ne_of_gt hel)).trans hT
    have new : ObjOk X.prog X.w (upd H s.heap.objs.size (.tup [.int (i : Nat), x])) h'' s.heap.objs.size (.tup [.int (i : Nat), x]) :=
      ⟨by show 2 ≤ sizeLine; decide, [.int i tk, x'], .cons ⟨_, rfl⟩ (.cons ru .nil), ⟨_, hT2, rfl, _, rfl⟩⟩
    have I1 : Inv X pins σ (upd H s.heap.objs.size (.tup [.int (i : Nat), x])) { s with heap := h'', toks := tk + 1 } :=
      I.turnedNew (ch := [e, it]) (fun b ob hb q => (sb.2 b (fun z => hb (by simp [z]))).trans (hk b ob (fun z => hb (by simp [z])) (fun z => hb (by simp [z])) q)) hf (Nat.le_refl _) new
    refine ⟨.ref s.heap.objs.size, _, I1, rfl, ⟨_, x, rfl, I.hok.fresh (Nat.le_refl _), rfl, fun ys hy => by rw [I.tuple_inj hy hq]; exact hx⟩, ⟨⟨x', ?_⟩, hs'.1.at fun o q => (sb.2 it (Ne.symm hne)).trans q, hne, hai, hae⟩, fun b hb => ?_⟩
    · have e1 : ((i + 1 : Nat) : Int) = (i : Int) + 1 := by omega
      rw [e1]; exact he'
    · have hb' : b < s.heap.objs.size := by
        have e' : b = e ∨ b = it := by simpa using hb
        rcases e' with z | z
        · rw [z]; exact hel
        · rw [z]; exact hil
      rw [upd_ne (Nat.ne_of_lt hb')]
      exact (hf b hb).1
  done := by
    intro X hP hw hK hc i pins s σ H E I hf st hg
    subst hP hw hK
    obtain ⟨⟨old, he⟩, hit, hne, hai, hae⟩ := st
    obtain ⟨xs, hq, hx⟩ := hg
    obtain ⟨its, rv, p, hz⟩ := I.tuple hq
    obtain ⟨f0, f1, f2, f3, f4, f5⟩ := hf it (by simp)
    have hl := rv.length
    refine enumEndT (I.ok.hd hc) he hit p (by simp; omega) fun h' eb => ⟨rfl, I.turned (t' := s.toks) (fun b o hb q => eb b o hb q) f0 f1 f3 f4 f5⟩
  self := fun A i s Q E st h => let ⟨⟨_, he⟩, _⟩ := st; wpAny_pyIter_enum he h
def iEnumT (K : PySem.W.Frag) (ta : TA) : TI := fun σ H R => ta σ H fun vs H1 => ∃ a xs, vs = [.ref a] ∧ SqT K H1 a xs ∧ R (IteT K a) H1
theorem pi_enumT {X : Cx} {e : Expr} {ta : TA} {p pos tpos : Pos} {elts : List Expr} {kk : Nat} (hg : Gl X "enumerate") (hm : X.mg "enumerate" = none) (ha : PA X [e] ta) (hs : starEach [e] X.env = [(false, eval e X.env)] := by rfl) :
    PI X (.Tuple elts kk tpos) (.Call (.Name "enumerate" p) [e] [] pos) (iEnumT X.K ta) := by
  refine ⟨fun pins s σ H R I h => ?_⟩
  refine Call_ (ld_blt I hg hm boot_enumerate (PyProof.Rows.callWith_type1 (thn (ha.run pos pins s σ H _ I h) fun us s1 ⟨vs, H1, I1, r1, q1⟩ => ?_) hs rfl))
  obtain ⟨a, xs, ex, hq, q⟩ := q1
  subst ex
  cases r1 with
  | cons r rr =>
    cases rr
    cases r
    obtain ⟨its, rv, p', hz⟩ := I1.tuple hq
    have hal : a < s1.heap.objs.size := by obtain ⟨_, q, _⟩ := p'; exact Heap.lt_size q
    refine call_enum_tup p' fun h' he hit hsz hk => wpAny_pyIter_enum he ?_
    have I2 : Inv X pins σ H1 { s1 with heap := h' } := I1.kept (t' := s1.toks) hk
    refine ⟨s1.heap.objs.size + 1, [s1.heap.objs.size + 1, s1.heap.objs.size], _, _, H1, rfl, I2, turn_enumT a (s1.heap.objs.size + 1) s1.heap.objs.size, ⟨⟨.none, he⟩, hit, Nat.succ_ne_self _, Nat.ne_of_lt hal, Nat.ne_of_lt (Nat.lt_succ_of_lt hal)⟩, fun b hb => ?_, q⟩
    have e' : b = s1.heap.objs.size + 1 ∨ b = s1.heap.objs.size := by simpa using hb
    have hle : s1.heap.objs.size ≤ b := by
      rcases e' with z | z
      · rw [z]; exact Nat.le_add_right _ _
      · rw [z]; exact Nat.le_refl _
    exact I1.fpOk hle (I1.hok.fresh hle)
theorem walk_enumT {K : PySem.W.Frag} {a : Addr} {xs : List V} : Walk (IteT K a) xs.length (fun H => SqT K H a xs) (YPair (fun i => some (.int (i : Nat))) (fun i => xs[i]?)) := by
  refine ⟨fun i _ hi q => ⟨xs, xs[i], q, by simp [hi]⟩, fun _ q => ⟨xs, q, Nat.le_refl _⟩, fun i H v H' _ q y => ?_⟩
  obtain ⟨T, x, h1, h2, h3, h4⟩ := y
  exact ⟨T, .int (i : Nat), x, h1, h2, h3, rfl, h4 xs q⟩
/-! t.index(y) -/
def rTidx (K : PySem.W.Frag) : V → List V → Hp → VK → Prop := fun x xs H Q => ∃ (a : Addr) (ys : List V) (y : V) (j : Nat) (z : V), x = V.ref a ∧ xs = [y] ∧ SqT K H a ys ∧ flatV y = true ∧ ys.all flatV = true ∧ ys[j]? = some z ∧ eqV z y = true ∧
  (∀ (m : Nat) (z' : V), m < j → ys[m]? = some z' → eqV z' y = false) ∧ Q (.int (j : Nat)) H
theorem mt_tidx {X : Cx} : MtR X "tuple.index" (rTidx X.K) := by
  intro pins s σ H x xs v us Q I rx rxs h
  obtain ⟨a, ys, y, j, z, rfl, rfl, hs, fy, fys, hz, hzj, hno, q⟩ := h
  cases rx
  cases rxs with
  | cons ry rt =>
    rename_i uy ut
    cases rt
    obtain ⟨its, rv, pl, hlen⟩ := I.tuple hs
    obtain ⟨⟨cls, dd, dt, sl⟩, ho, hc, n, hd⟩ := pl
    simp only at hc hd
    subst hc hd
    obtain ⟨u, hu, ru⟩ := rv.get hz
    obtain ⟨hjl, hje⟩ := List.getElem?_eq_some_iff.mp hu
    have hvl := rv.length
    have hj : j < its.toArray.size := by simpa using hjl
    refine call_meets PySem.F.slot_tuple_index ⟨_, ho, rfl⟩ PySem.F.entry_tuple_index (PySem.F.args_tuple_index_2 _ _) (TI.tuple_indexAt a its.toArray n dd sl uy (eqU y) j hj ?_ ?_)
      ⟨ho, fun u' hu' => mem_eqAt ry fy rv fys u' (by simpa using hu'), ⟨.int (j : Nat), H, I.tok _, ⟨_, rfl⟩, q⟩⟩
    · have e1 : its.toArray[j] = u := by simpa using hje
      rw [e1, eqU_of ru (flat_at fys hz)]
      exact hzj
    · intro m hm hmj
      have hml : m < its.length := by simpa using hm
      have hmy : m < ys.length := by omega
      have hy' : ys[m]? = some ys[m] := List.getElem?_eq_getElem hmy
      obtain ⟨u2, hu2, ru2⟩ := rv.get hy'
      obtain ⟨_, hme⟩ := List.getElem?_eq_some_iff.mp hu2
      have e1 : its.toArray[m] = u2 := by simpa using hme
      rw [e1, eqU_of ru2 (flat_at fys hy')]
      exact hno m _ hmj hy'
/-! sorted(t), whole numbers -/
section
variable {prog : Program} {w : World} {A : Around} {E : Value → Shared → Prop} {s : Shared}
theorem collect_tup {l : Addr} {vs : List Value} {Q : List Value → Shared → Prop} (hl : s.heap.IsTuple l vs.toArray)
    (h : Q vs { s with heap := (s.heap.push (seqObj "list" #[] 0)).update s.heap.objs.size (Obj.mapSeq (· ++ vs.toArray)) }) (hsz : vs.length ≤ sizeLine) :
    wpAny (model prog w) A (collect (.ref l)) Q E s := by
  obtain ⟨o, ho, hc, n, hd⟩ := id hl
  unfold collect
  refine wpAny_bind (wpAny_runValue (codeAny_builtin entry_proto_collect' ?_))
  show wpAny _ _ (do again (.builtin "list.__iadd__" ⟨[← newList [], .ref l], []⟩)) _ _ s
  refine wpAny_bind (wpAny_newList (wpAny_pure ⟨Code.quiet_builtin _ (by decide +kernel), codeAny_builtin entry_list_iadd' ?_⟩))
  show wpAny _ _ (Builtin.List.listExtendWith (.ref s.heap.objs.size) (.ref l) (.ref s.heap.objs.size)) _ _ { s with heap := s.heap.push (seqObj "list" #[] 0) }
  unfold Builtin.List.listExtendWith
  have ho' : (s.heap.push (seqObj "list" #[] 0)).get? l = some o := Heap.get?_push_of_some _ ho
  refine wpAny_bind (wpAny_typeOf (T := "tuple") ⟨o, ho', hc⟩ ?_)
  have ht : (Value.type "tuple" == Value.type "tuple") = true := by rfl
  rw [if_pos (by rw [ht]; simp)]
  refine wpAny_bind (listItems_at ho' hd ?_)
  refine wpAny_bind (listItems_at (xs := #[]) (n := 0) (Heap.get?_push_size _ rfl) rfl ?_)
  rw [if_neg (by simp)]
  refine wpAny_bind (listUpdate_at (xs := #[]) (n := 0) (Heap.get?_push_size _ rfl) rfl ?_ (Nat.zero_le _) (by show (#[] ++ vs.toArray).size ≤ sizeLine + 1; simp only [Array.size_append, List.size_toArray, List.length_nil]; omega))
  refine wpAny_pure ?_
  show wpAny (model prog w) A (do
      let o ← load s.heap.objs.size
      match o.data with
      | .seq xs _ => pure xs.toList
      | _ => unsupported "internal:collect") Q E { s with heap := (s.heap.push (seqObj "list" #[] 0)).update s.heap.objs.size (Obj.mapSeq (· ++ vs.toArray)) }
  refine wpAny_bind (wpAny_load (get?_update_seq (Heap.get?_push_size _ rfl) _) ?_)
  show wpAny _ _ (pure ((#[] : Array Value) ++ vs.toArray).toList) Q E _
  rw [show ((#[] : Array Value) ++ vs.toArray).toList = vs by simp]
  exact wpAny_pure h
theorem sorted_tupI {l : Addr} {vs : List Value} {ns : List Int} {Q : Value → Shared → Prop} (hl : s.heap.IsTuple l vs.toArray) (hI : IntsAre vs ns) (h64 : vs.length < 64)
    (h : ∀ (out : Array Value) (ns' : List Int), IntsAre out.toList ns' → ns'.Perm ns → ns'.Pairwise (· ≤ ·) → Q (.ref (s.heap.objs.size + 1)) { s with heap := sortedAll s.heap vs out }) :
    wpAny (model prog w) A (call (.builtin "sorted") [.ref l]) Q E s := by
  refine Calls.call_function_entry kind_sorted plain_sorted entry_sorted (args_sorted1 _) ?_
  unfold Builtin.«sorted»
  refine wpAny_bind (m := checkCount "sorted" 1 1 _) (wpAny_pure ?_)
  refine wpAny_bind (collect_tup hl ?_ (small64 h64))
  refine wpAny_bind (wpAny_newList ?_)
  have hsz : ((s.heap.push (seqObj "list" #[] 0)).update s.heap.objs.size (Obj.mapSeq (· ++ vs.toArray))).objs.size = s.heap.objs.size + 1 := by
    rw [Heap.size_update, size_push']
  have hoL : (((s.heap.push (seqObj "list" #[] 0)).update s.heap.objs.size (Obj.mapSeq (· ++ vs.toArray))).push (seqObj "list" vs.toArray 0)).get? (s.heap.objs.size + 1) = some (seqObj "list" vs.toArray 0) := by
    rw [← hsz]; exact Heap.get?_push_size _ rfl
  show wpAny _ _ _ _ _ { s with heap := ((s.heap.push (seqObj "list" #[] 0)).update s.heap.objs.size (Obj.mapSeq (· ++ vs.toArray))).push (seqObj "list" vs.toArray 0) }
  rw [hsz]
  refine wpAny_bind (wpAny_holding (wpAny_call_entry slot_list_sort ⟨_, hoL, rfl⟩ entry_list_sort (list_sort_tree hoL hI h64 fun out ns' a1 a2 a3 => ⟨_, rfl, ?_⟩) (args_list_sort _)))
  exact wpAny_pure ⟨_, rfl, h out ns' a1 a2 a3⟩
end
def rSortTup (K : PySem.W.Frag) : List V → Hp → VK → Prop := fun vs H Q => ∃ (a : Addr) (ns : List Int), vs = [V.ref a] ∧ SqT K H a (ns.map V.int) ∧ ns.length < 64 ∧
  ∀ (ns' : List Int) (p : Addr), ns'.Perm ns → ns'.Pairwise (· ≤ ·) → H p = none → Q (.ref p) (upd H p (.lst (ns'.map V.int)))
theorem cr_sortTup {X : Cx} : CallR X (.builtin "sorted") (rSortTup X.K) := by
  intro pins s σ H vs us Q I r h
  obtain ⟨a, ns, rfl, hs, h64, q⟩ := h
  obtain ⟨its, rv, hl, _⟩ := I.tuple hs
  rw [Vals.ref1 r]
  have hi := rv.ints
  refine sorted_tupI hl hi (by rw [hi.length]; exact h64) fun out ns' h1 h2 h3 => ?_
  obtain ⟨ep, he'⟩ := PyProof.Rows.sortedAll_at s.heap its out
  have hlen : (ns'.map V.int).length ≤ sizeLine := by rw [List.length_map, h2.length_eq]; exact small64 h64
  exact ⟨.ref _, upd H (s.heap.objs.size + 1) (.lst (ns'.map V.int)), I.laid (t' := s.toks) (fun _ _ => PyProof.Rows.sortedAll_old) (Nat.le_succ _) ⟨hlen, out.toList, ep, vals_of_ints h1, he'⟩, rfl, q ns' _ h2 h3 (I.hok.fresh (Nat.le_succ _))⟩
/-! tuples of which it is known that they have no dict of their own: t.index(y) -/
def TD (H : Hp) (a : Addr) (xs : List V) : Prop := ∃ o : Obj, o.dict = none ∧ H a = some (.frz o (.tup xs))
theorem tdT {K : PySem.W.Frag} {H : Hp} {a : Addr} {xs : List V} (h : TD H a xs) : SqT K H a xs := by
  obtain ⟨o, _, e⟩ := h
  exact .inl (.inr ⟨o, e⟩)
theorem tdTy {K : PySem.W.Frag} {H : Hp} {a : Addr} {xs : List V} (h : TD H a xs) : TyX K H (.ref a) (.type "tuple") := by
  obtain ⟨o, _, e⟩ := h
  exact .fTuple e
theorem tdSame {H H' : Hp} {a : Addr} {xs : List V} (s : Same H H') (h : TD H a xs) : TD H' a xs := by
  obtain ⟨o, d, e⟩ := h
  exact ⟨o, d, s _ _ e⟩
abbrev tupO (its : List Value) : Obj := { cls := .type "tuple", data := .seq its.toArray }
theorem tdNew {H : Hp} {a : Addr} {its : List Value} {xs : List V} : TD (upd H a (.frz (tupO its) (.tup xs))) a xs := ⟨tupO its, rfl, upd_same⟩
/-- a new tuple, its dict known to be none -/
theorem laidTD {X : Cx} {pins : List (Addr × Obj)} {σ : L2.St} {H : Hp} {s : Shared} {h' : Heap} {tk : Nat} {xs : List V} {its : List Value} (I : Inv X pins σ H { s with heap := h', toks := tk }) (r : Vals xs its) (hz : xs.length ≤ sizeLine) :
    Inv X pins σ (upd H h'.objs.size (.frz (tupO its) (.tup xs))) { s with heap := h'.push (tupO its), toks := tk } := by
  have g : (h'.push (tupO its)).get? h'.objs.size = some (tupO its) := Heap.get?_push_size _ rfl
  exact I.laid (t' := tk) (fun b o e => Heap.get?_push_of_some _ e) (Nat.le_refl _) ⟨g, hz, its, r, ⟨_, g, rfl, 0, rfl⟩⟩
section
variable {X : Cx}
def rTupD (K : PySem.W.Frag) : List V → Hp → VK → Prop := fun xs H Q => ∃ p ys, xs = [.ref p] ∧ SqL K H p ys ∧ ∀ l H', Same H H' → TD H' l ys → Q (.ref l) H'
/-- tuple(a list) -/
theorem call_tupD : CallR X (.type "tuple") (rTupD X.K) := by
  intro pins s σ H xs us Q I r h
  obtain ⟨p, ys, rfl, hq, q⟩ := h
  obtain ⟨u, rfl, rx⟩ := vals1 r
  cases rx
  obtain ⟨its, r', pl, hz⟩ := I.list hq
  have hlen := r'.length
  refine call_tuple_list pl.isList (fun h' kp => ?_) (by simp only [List.size_toArray] <;> omega)
  have I1 : Inv X pins σ H { s with heap := h', toks := s.toks } := I.kept (t' := s.toks) kp
  have hn : H h'.objs.size = none := I1.hok.fresh (Nat.le_refl _)
  exact ⟨.ref h'.objs.size, _, laidTD I1 r' hz, rfl, q _ _ (smUpd hn) tdNew⟩
def tTupRevD (K : PySem.W.Frag) (te : TE) : TE := fun σ H Q => te σ H fun v H1 => ∃ (a : Addr) (xs : List V), v = .ref a ∧ SqL K H1 a xs ∧ ∀ l H', Same H1 H' → TD H' l xs.reverse → Q (.ref l) H'
/-- tuple(reversed(a list)) -/
theorem pe_tupRevD {e : Expr} {te : TE} {p p2 pos pos2 : Pos} (hc : X.calm = true) (hg : Gl X "tuple") (hm : X.mg "tuple" = none) (hg2 : Gl X "reversed") (hm2 : X.mg "reversed" = none) (he : PE X e te)
    (hs : starEach [e] X.env = (false, eval e X.env) :: starEach [] X.env := by rfl)
    (hs2 : starEach [.Call (.Name "reversed" p2) [e] [] pos2] X.env = (false, eval (.Call (.Name "reversed" p2) [e] [] pos2) X.env) :: starEach [] X.env := by rfl) :
    PE X (.Call (.Name "tuple" p) [.Call (.Name "reversed" p2) [e] [] pos2] [] pos) (tTupRevD X.K te) := by
  refine ⟨fun pins s σ H Q I h => ?_⟩
  refine Call_ (ld_blt I hg hm boot_tuple (callWith_type1 (args_cons (Call_ (ld_blt I hg2 hm2 boot_reversed (callWith_type1 (args_cons (thn (he.run pins s σ H _ I h) fun u s1 ⟨v, H1, I1, r1, q1⟩ => args_nil ?_) hs) hs rfl))) hs2) hs2 rfl))
  obtain ⟨l, ys, rfl, hl, q⟩ := q1
  cases (show u = Value.ref l from r1)
  obtain ⟨its, rv, pl, hz⟩ := I1.list hl
  refine call_reversed_list pl.isList (args_nil ?_)
  have I2 : Inv X pins σ H1 { s1 with heap := s1.heap.push (PySem.revObj l ((its.toArray.size : Int) - 1)) } := I1.kept (t' := s1.toks) fun b o z => Heap.get?_push_of_some _ z
  have hfr : H1 s1.heap.objs.size = none := I1.hok.fresh (Nat.le_refl _)
  obtain ⟨f0, f1, _, f3, f4, f5⟩ := I1.fpOk (H' := H1) (b := s1.heap.objs.size) (Nat.le_refl _) hfr
  have hne : l ≠ s1.heap.objs.size := by
    obtain ⟨_, z, _⟩ := pl.isList
    exact Nat.ne_of_lt (Heap.lt_size z)
  refine RT.call_tuple_rev (s := { s1 with heap := s1.heap.push (PySem.revObj l ((its.toArray.size : Int) - 1)) }) (I1.ok.hd hc) ⟨_, Heap.get?_push_size _ rfl, rfl, rfl⟩ (pl.isList.push _) hne (by rw [List.size_toArray, ← rv.length]; exact hz) fun h' tk acc hk hi => ?_
  have I3 : Inv X pins σ H1 { s1 with heap := h', toks := tk } := I2.turned (t' := tk) (fun b o hb z => hk b o hb z) f0 f1 f3 f4 f5
  have hn : H1 h'.objs.size = none := I3.hok.fresh (Nat.le_refl _)
  have I4 := laidTD I3 (RT.vals_rev rv hi) (by rw [List.length_reverse]; exact hz)
  refine ⟨.ref h'.objs.size, upd H1 h'.objs.size (.frz (tupO acc.toList) (.tup ys.reverse)), ?_, rfl, q _ _ (smUpd hn) tdNew⟩
  have ea : acc.toList.toArray = acc := Array.toArray_toList
  rw [← ea]
  exact I4
/-- t.m(..), t such a tuple -/
def tBT (r : V → List V → Hp → VK → Prop) (to : TE) (t : TA) : TE := fun σ H Q => to σ H fun x H1 => (∃ a xs, x = .ref a ∧ TD H1 a xs) ∧ t σ H1 fun xs H2 => r x xs H2 Q
variable {o e : Expr} {es : List Expr} {to : TE} {t : TA} {name : Str} {apos cpos : Pos} {id : String} {r : V → List V → Hp → VK → Prop}
theorem pe_bt (slot : Slot "tuple" name id) (hty : typeOf (.builtin id) = pure (.type "method_descriptor")) (hm : MtR X id r) (ho : PE X o to) (ha : PA X (e :: es) t)
    (hbase : attributeBase o name X.env (eval o X.env) = eval o X.env := by rfl)
    (hfew : ((backTo cpos (starEach (e :: es) X.env)).all (fun x => !x.1) && (backToKw cpos (keywordEach [] X.env)).all (fun x => x.1.isSome)
      && decide ((e :: es).length + ([] : List Keyword).length + (if ([] : List Keyword).isEmpty then 0 else 1) < 30)) = true := by rfl)
    (hline : (apos.endLine == cpos.line) = true := by rfl) (hs : starEach (e :: es) X.env = (false, eval e X.env) :: starEach es X.env := by rfl) (hplain : (backTo cpos (starEach es X.env)).any (·.1) = false := by rfl) :
    PE X (.Call (.Attribute o name apos) (e :: es) [] cpos) (tBT r to t) := by
  refine ⟨fun pins s σ H Q I h => ?_⟩
  refine wpAny_Call_method_late hbase hfew hline rfl (thn (ho.run pins s σ H _ I h) fun v s1 ⟨x, H1, I1, r1, ty, q1⟩ => ?_)
  obtain ⟨a, xs, rfl, ob, hd, hx⟩ := ty
  cases (show v = Value.ref a from r1)
  obtain ⟨g, _, its, _, hit⟩ := I1.hok a _ hx
  have hT : s1.TypeIs (.ref a) "tuple" := by
    obtain ⟨o', g', c, _⟩ := hit
    exact ⟨o', g', c⟩
  refine ⟨"tuple", id, PySem.F.plainAttrs_tuple, slot, hty, hT, fun b z => (by cases z; exact ⟨ob, g, hd⟩), ?_⟩
  have hA := ha.run cpos pins s1 σ H1 _ I1 q1
  rw [hs] at hA ⊢
  refine Calls.callWith_builtin (by show (false || (backTo cpos (starEach es X.env)).any (·.1)) = false; rw [hplain] <;> rfl) (Calls.evalArgs_plain ?_)
  exact thn hA fun us s2 ⟨vs, H2, I2, r2, q2⟩ => hm pins s2 σ H2 (.ref a) vs (.ref a) us Q I2 rfl r2 q2
end
end Cn
namespace Cn
open PySem PySem.Spec PyProof.Rows L2 Ck
theorem kitSelf {K : PySem.W.Frag} {a : Addr} : PySem.W.kitOne K (.ref a) (.ref a) = some true := by
  unfold PySem.W.kitOne
  simp
abbrev vn (n : Nat) : V := .int ((n : Nat) : Int)
def vp : Option Nat → V
  | none => .non
  | some n => vn n
def TN (H : Hp) (a : Addr) (ns : List Nat) : Prop := H a = some (.tup (ns.map vn))
def TP (H : Hp) (a : Addr) (ps : List (Option Nat)) : Prop := H a = some (.tup (ps.map vp))
def TDn (H : Hp) (a : Addr) (ns : List Nat) : Prop := TD H a (ns.map vn)
theorem tdL {K : PySem.W.Frag} {H : Hp} {a : Addr} {ns : List Nat} (h : TDn H a ns) : SqT K H a (ns.map vn) := tdT h
theorem tnL {K : PySem.W.Frag} {H : Hp} {a : Addr} {ns : List Nat} (h : TN H a ns) : SqT K H a (ns.map vn) := .inl (.inl h)
theorem tpL {K : PySem.W.Frag} {H : Hp} {a : Addr} {ps : List (Option Nat)} (h : TP H a ps) : SqT K H a (ps.map vp) := .inl (.inl h)
theorem vn_flat (ns : List Nat) : (ns.map vn).all flatV = true := by
  rw [List.all_eq_true]
  intro x hx
  obtain ⟨n, _, rfl⟩ := List.mem_map.mp hx
  rfl
theorem vn_at {ns : List Nat} {i n : Nat} (h : ns[i]? = some n) : (ns.map vn)[i]? = some (vn n) := by rw [List.getElem?_map, h]; rfl
theorem vp_at {ps : List (Option Nat)} {i : Nat} {q : Option Nat} (h : ps[i]? = some q) : (ps.map vp)[i]? = some (vp q) := by rw [List.getElem?_map, h]; rfl
theorem vn_ix {ns : List Nat} {i n : Nat} (h : ns[i]? = some n) : atI (ns.map vn) ((i : Nat) : Int) = some (vn n) := atI_nat (vn_at h)
theorem vp_ix {ps : List (Option Nat)} {i : Nat} {q : Option Nat} (h : ps[i]? = some q) : atI (ps.map vp) ((i : Nat) : Int) = some (vp q) := atI_nat (vp_at h)
theorem vn_get {ns : List Nat} {i : Nat} {x : V} (h : (ns.map vn)[i]? = some x) : ∃ n, ns[i]? = some n ∧ x = vn n := by
  rw [List.getElem?_map] at h
  obtain ⟨n, hn, e⟩ := Option.map_eq_some_iff.mp h
  exact ⟨n, hn, e.symm⟩
theorem vp_get {ps : List (Option Nat)} {i : Nat} {x : V} (h : (ps.map vp)[i]? = some x) : ∃ q, ps[i]? = some q ∧ x = vp q := by
  rw [List.getElem?_map] at h
  obtain ⟨n, hn, e⟩ := Option.map_eq_some_iff.mp h
  exact ⟨n, hn, e.symm⟩
theorem vn_inj {a b : Nat} : eqV (vn a) (vn b) = decide (a = b) := by
  show (((a : Nat) : Int) == ((b : Nat) : Int)) = decide (a = b)
  rw [Bool.eq_iff_iff, beq_iff_eq, decide_eq_true_iff]
  omega
/-- the first place of n -/
theorem vn_idx {ns : List Nat} {n : Nat} (h : n ∈ ns) : (ns.map vn)[ns.idxOf n]? = some (vn n) ∧ ∀ (m : Nat) (z : V), m < ns.idxOf n → (ns.map vn)[m]? = some z → eqV z (vn n) = false := by
  refine ⟨vn_at ?_, fun m z hm hz => ?_⟩
  · have hl := List.idxOf_lt_length_of_mem h
    rw [List.getElem?_eq_getElem hl, List.getElem_idxOf hl]
  · rw [List.getElem?_map] at hz
    obtain ⟨k, hk, rfl⟩ := Option.map_eq_some_iff.mp hz
    rw [vn_inj]
    refine decide_eq_false fun e => ?_
    subst e
    obtain ⟨hml, hme⟩ := List.getElem?_eq_some_iff.mp hk
    have := List.not_of_lt_findIdx (p := (· == k)) (xs := ns) (i := m) hm
    rw [hme] at this
    simp at this
theorem inV_vn {ns : List Nat} {n : Nat} : inV (vn n) (ns.map vn) = decide (n ∈ ns) := by
  unfold inV
  rw [Bool.eq_iff_iff, decide_eq_true_iff, List.any_eq_true]
  constructor
  · rintro ⟨x, hx, h⟩
    obtain ⟨m, hm, rfl⟩ := List.mem_map.mp hx
    rw [vn_inj, decide_eq_true_iff] at h
    rw [← h]; exact hm
  · intro h
    exact ⟨vn n, List.mem_map.mpr ⟨n, h, rfl⟩, by rw [vn_inj]; exact decide_eq_true rfl⟩
/-! the forest -/
def fields3 (ap ab aa : Addr) : List (Str × V) := [("parents", .ref ap), ("bearing", .ref ab), ("asking", .ref aa)]
structure Fo where
  ps : List (Option Nat)
  be : List Nat
  as : List Nat
/-- what a forest's data keep to -/
structure FoOk (f : Fo) : Prop where
  ps : Ps f.ps
  l0 : 1 ≤ f.ps.length
  l1 : f.ps.length ≤ 60
  be : f.be.Pairwise (· < ·)
  bl : ∀ x ∈ f.be, x < f.ps.length
  as : f.as.Pairwise (· < ·)
  al : ∀ x ∈ f.as, x < f.ps.length
def FoAt (C : Addr) (H : Hp) (a : Addr) (f : Fo) : Prop := ∃ dx ap ab aa, H a = some (.ins C dx (fields3 ap ab aa)) ∧ TP H ap f.ps ∧ TN H ab f.be ∧ TN H aa f.as
theorem foAt_same {C : Addr} {H H' : Hp} {a : Addr} {f : Fo} (s : Same H H') (h : FoAt C H a f) : FoAt C H' a f := by
  obtain ⟨dx, ap, ab, aa, h1, h2, h3, h4⟩ := h
  exact ⟨dx, ap, ab, aa, s _ _ h1, s _ _ h2, s _ _ h3, s _ _ h4⟩
structure FoT (K : PySem.W.Frag) (mg : Str → Option Value) (C : Addr) : Prop where
  cl : Cls K C
  nP : NoAttr K C "parents"
  nB : NoAttr K C "bearing"
  nA : NoAttr K C "asking"
  mgC : mg "Forest" = some (.ref C)
theorem fP {ap ab aa : Addr} : (fields3 ap ab aa).lookup ("parents" : Str) = some (.ref ap) := rfl
theorem fB {ap ab aa : Addr} : (fields3 ap ab aa).lookup ("bearing" : Str) = some (.ref ab) := rfl
theorem fA {ap ab aa : Addr} : (fields3 ap ab aa).lookup ("asking" : Str) = some (.ref aa) := rfl
/-- the builtins that the texts call -/
structure NamT (mg : Str → Option Value) : Prop where
  is : IsTxt mg
  int : mg "int" = none
  abs : mg "abs" = none
  range : mg "range" = none
  enum : mg "enumerate" = none
  rev : mg "reversed" = none
  sorted : mg "sorted" = none
  min : mg "min" = none
/-- a def and its name in the module -/
structure DefAt (K : PySem.W.Frag) (mg : Str → Option Value) (x : Str) (st : Stmt) (ps : List Str) (f : Addr) (fd : FuncData) : Prop where
  F : Fun K x x st f fd
  b : Binds K fd ps []
  g : mg x = some (.ref f)
theorem ifT {c : Prop} {_ : Decidable c} {a b : Prop} (h : c) (x : a) : if c then a else b := by rw [if_pos h]; exact x
theorem ifF {c : Prop} {_ : Decidable c} {a b : Prop} (h : ¬ c) (x : b) : if c then a else b := by rw [if_neg h]; exact x
/-! kinds -/
section
variable {P : Program} {w : World} {K : PySem.W.Frag} {mg : Str → Option Value} {base : Heap}
theorem intTy {H : Hp} {n : Int} : TyX K H (.int n) (.type "int") := .base (.int n)
def spIsInt : Sp := fun vs H Q _ => ∃ n : Int, vs = [.int n] ∧ Q (.bl true) H
theorem scIsInt : FnScope ["thing"] ["thing"] (defScope sIsInt) := ⟨rfl, rfl, rfl, by decide +kernel, rfl, by decide +kernel, by decide +kernel⟩
theorem ok_isInt {f : Addr} {fd : FuncData} (F : Fun K "is_integer" "is_integer" sIsInt f fd) (N : NamT mg) : FnOk P w K mg base CX0 1 f fd ["thing"] spIsInt := by
  refine F.ok scIsInt (fun vs H Q E h => ?_) (fun cdv A outer s H vs Q E hr h => ?_)
  · obtain ⟨n, rfl, _⟩ := h
    rfl
  · obtain ⟨n, rfl, k⟩ := h
    refine ⟨_, pss_one (ps_ret (pe_and (pe_callB call_isi (by rfl) N.is.inst (by decide +kernel) (pa_cons (pv 0) (pa_cons (pe_bltn (v := .ty "int") (by rfl) N.int (by decide +kernel) rfl) pa_nil))) (pe_one (pe_not (pe_callB call_isi (by rfl) N.is.inst (by decide +kernel) (pa_cons (pv 0) (pa_cons (pe_bltn (v := .ty "bool") (by rfl) N.is.bool (by decide +kernel) rfl) pa_nil))))))), ?_⟩
    refine ⟨_, rfl, _, .ty "int", _, _, true, rfl, .ty _, intTy, kit_ty (by decide +kernel), true, rfl, ?_⟩
    refine ifT rfl ?_
    exact ⟨_, rfl, _, .ty "bool", _, _, false, rfl, .ty _, intTy, kit_ty (by decide +kernel), false, rfl, k⟩
def spIsBtw : Sp := fun vs H Q _ => ∃ n a b : Int, vs = [.int n, .int a, .int b] ∧ Q (.bl (decide (a ≤ n ∧ n ≤ b))) H
theorem scIsBtw : FnScope ["thing", "least", "most"] ["thing", "least", "most"] (defScope sIsBtw) := ⟨rfl, rfl, rfl, by decide +kernel, rfl, by decide +kernel, by decide +kernel⟩
theorem ok_isBtw {f fI : Addr} {fd fdI : FuncData} (F : Fun K "is_between" "is_between" sIsBtw f fd) (N : NamT mg) (DI : DefAt K mg "is_integer" sIsInt ["thing"] fI fdI) : FnOk P w K mg base CX0 2 f fd ["thing", "least", "most"] spIsBtw := by
  have GI : FnOk P w K mg base CX0 1 fI fdI ["thing"] spIsInt := ok_isInt DI.F N
  refine F.ok scIsBtw (fun vs H Q E h => ?_) (fun cdv A outer s H vs Q E hr h => ?_)
  · obtain ⟨n, a, b, rfl, _⟩ := h
    rfl
  · obtain ⟨n, a, b, rfl, k⟩ := h
    refine ⟨_, pss_one (ps_ret (pe_and (pe_call GI hr (by rfl) DI.g DI.F.kp DI.b .nil pass0 (pa_cons (pv 0) pa_nil)) (pe_one (pe_chain op_le op_le (pv 1) (pv 0) (pv 2))))), ?_⟩
    refine ⟨_, rfl, n, rfl, true, rfl, ?_⟩
    refine ifT rfl ?_
    refine ⟨_, rfl, _, rfl, _, _, rfl, rfl, _, rfl, ?_⟩
    by_cases h1 : a ≤ n
    · refine ifT (decide_eq_true h1) ?_
      refine ⟨_, rfl, _, _, rfl, rfl, ?_⟩
      rw [show decide (a ≤ n ∧ n ≤ b) = decide (n ≤ b) from by simp [h1]] at k
      exact k
    · refine ifF (by rw [decide_eq_false h1]; exact Bool.false_ne_true) ?_
      rw [show decide (a ≤ n ∧ n ≤ b) = false from by simp [h1]] at k
      exact k
end
end Cn
namespace Cn
open PySem PySem.Spec PyProof.Rows L2 Ck
/-- the defs, as the text has them -/
structure TaT (K : PySem.W.Frag) (mg : Str → Option Value) (Z : Addr) : Prop where
  cl : Cls K Z
  mgC : mg "State" = some (.ref Z)
  n_hierarchy : NoAttr K Z "hierarchy"
  n_levels : NoAttr K Z "levels"
  n_amounts : NoAttr K Z "amounts"
  n_notes : NoAttr K Z "notes"
  n_made : NoAttr K Z "made"
  ini : ∃ f fd, Fun K "__init__" "State.__init__" sTa_init f fd ∧ Mk K Z f ∧ Binds K fd ["self", "hierarchy", "levels", "amounts", "notes", "made"] []
  m_answer : ∃ f fd, Fun K "answer" "State.answer" sTa_answer f fd ∧ Meth K Z "answer" f ∧ Binds K fd ["self", "adding", "place"] []
  m_versions : ∃ f fd, Fun K "versions" "State.versions" sTa_versions f fd ∧ Meth K Z "versions" f ∧ Binds K fd ["self"] []
structure SoT (K : PySem.W.Frag) (mg : Str → Option Value) (Z : Addr) : Prop where
  cl : Cls K Z
  mgC : mg "Store" = some (.ref Z)
  n__adding : NoAttr K Z "_adding"
  n__state : NoAttr K Z "_state"
  n__time : NoAttr K Z "_time"
  n__touches : NoAttr K Z "_touches"
  n__reads : NoAttr K Z "_reads"
  n__fresh : NoAttr K Z "_fresh"
  n__marked : NoAttr K Z "_marked"
  n__next_mark : NoAttr K Z "_next_mark"
  ini : ∃ f fd, Fun K "__init__" "Store.__init__" sSo_init f fd ∧ Mk K Z f ∧ Binds K fd ["self", "forest", "plan", "amounts", "adding"] []
  m_change : ∃ f fd, Fun K "change" "Store.change" sSo_change f fd ∧ Meth K Z "change" f ∧ Binds K fd ["self", "place", "amount"] []
  m_change_all : ∃ f fd, Fun K "change_all" "Store.change_all" sSo_change_all f fd ∧ Meth K Z "change_all" f ∧ Binds K fd ["self", "changes"] []
  m__change : ∃ f fd, Fun K "_change" "Store._change" sSo__change f fd ∧ Meth K Z "_change" f ∧ Binds K fd ["self", "changes"] []
  m_ask : ∃ f fd, Fun K "ask" "Store.ask" sSo_ask f fd ∧ Meth K Z "ask" f ∧ Binds K fd ["self", "place"] []
  m_amount : ∃ f fd, Fun K "amount" "Store.amount" sSo_amount f fd ∧ Meth K Z "amount" f ∧ Binds K fd ["self", "place"] []
  m_kept : ∃ f fd, Fun K "kept" "Store.kept" sSo_kept f fd ∧ Meth K Z "kept" f ∧ Binds K fd ["self"] []
  m_touched : ∃ f fd, Fun K "touched" "Store.touched" sSo_touched f fd ∧ Meth K Z "touched" f ∧ Binds K fd ["self"] []
  m_asked : ∃ f fd, Fun K "asked" "Store.asked" sSo_asked f fd ∧ Meth K Z "asked" f ∧ Binds K fd ["self"] []
  m_watch : ∃ f fd, Fun K "watch" "Store.watch" sSo_watch f fd ∧ Meth K Z "watch" f ∧ Binds K fd ["self", "place"] []
  m_unwatch : ∃ f fd, Fun K "unwatch" "Store.unwatch" sSo_unwatch f fd ∧ Meth K Z "unwatch" f ∧ Binds K fd ["self", "place"] []
  m_watched : ∃ f fd, Fun K "watched" "Store.watched" sSo_watched f fd ∧ Meth K Z "watched" f ∧ Binds K fd ["self"] []
  m_news : ∃ f fd, Fun K "news" "Store.news" sSo_news f fd ∧ Meth K Z "news" f ∧ Binds K fd ["self"] []
  m_forest : ∃ f fd, Fun K "forest" "Store.forest" sSo_forest f fd ∧ Meth K Z "forest" f ∧ Binds K fd ["self"] []
  m_plan : ∃ f fd, Fun K "plan" "Store.plan" sSo_plan f fd ∧ Meth K Z "plan" f ∧ Binds K fd ["self"] []
  m_hang : ∃ f fd, Fun K "hang" "Store.hang" sSo_hang f fd ∧ Meth K Z "hang" f ∧ Binds K fd ["self", "parent", "level", "asks", "amounts"] []
  m_turn : ∃ f fd, Fun K "turn" "Store.turn" sSo_turn f fd ∧ Meth K Z "turn" f ∧ Binds K fd ["self", "forest", "plan", "amounts"] []
  m__turn : ∃ f fd, Fun K "_turn" "Store._turn" sSo__turn f fd ∧ Meth K Z "_turn" f ∧ Binds K fd ["self", "forest", "plan", "amounts"] []
  m__watch_on : ∃ f fd, Fun K "_watch_on" "Store._watch_on" sSo__watch_on f fd ∧ Meth K Z "_watch_on" f ∧ Binds K fd ["self"] []
  m_mark : ∃ f fd, Fun K "mark" "Store.mark" sSo_mark f fd ∧ Meth K Z "mark" f ∧ Binds K fd ["self"] []
  m__marked_state : ∃ f fd, Fun K "_marked_state" "Store._marked_state" sSo__marked_state f fd ∧ Meth K Z "_marked_state" f ∧ Binds K fd ["self", "mark"] []
  m_ask_at : ∃ f fd, Fun K "ask_at" "Store.ask_at" sSo_ask_at f fd ∧ Meth K Z "ask_at" f ∧ Binds K fd ["self", "mark", "place"] []
  m_back_to : ∃ f fd, Fun K "back_to" "Store.back_to" sSo_back_to f fd ∧ Meth K Z "back_to" f ∧ Binds K fd ["self", "mark"] []
  m_drop : ∃ f fd, Fun K "drop" "Store.drop" sSo_drop f fd ∧ Meth K Z "drop" f ∧ Binds K fd ["self", "mark"] []
  m_marks : ∃ f fd, Fun K "marks" "Store.marks" sSo_marks f fd ∧ Meth K Z "marks" f ∧ Binds K fd ["self"] []
  m_held : ∃ f fd, Fun K "held" "Store.held" sSo_held f fd ∧ Meth K Z "held" f ∧ Binds K fd ["self"] []
  m_copy : ∃ f fd, Fun K "copy" "Store.copy" sSo_copy f fd ∧ Meth K Z "copy" f ∧ Binds K fd ["self"] []
  m_trying : ∃ f fd, Fun K "trying" "Store.trying" sSo_trying f fd ∧ Meth K Z "trying" f ∧ Binds K fd ["self", "action"] []
structure Defs (K : PySem.W.Frag) (mg : Str → Option Value) (C : Addr) : Prop where
  N : NamT mg
  T : FoT K mg C
  mM : ∃ tm, mg "MOST_PLACES" = some (.int 60 tm)
  mCh : ∃ tm, mg "MOST_CHANGES" = some (.int 60 tm)
  zAny : mg "any" = none
  zSum : mg "sum" = none
  zDict : mg "dict" = none
  zValueerror : mg "ValueError" = none
  zStr : mg "str" = none
  cTa : ∃ Z, TaT K mg Z
  cSo : ∃ Z, SoT K mg Z
  ini : ∃ f fd, Fun K "__init__" "Forest.__init__" sInit f fd ∧ Mk K C f ∧ Binds K fd ["self", "parents", "bearing", "asking"] []
  lwd : ∃ f fd, DefAt K mg "_law_word" sLWord ["_law_pool_here", "_law_place"] f fd
  I : ∃ f fd, DefAt K mg "is_integer" sIsInt ["thing"] f fd
  B : ∃ f fd, DefAt K mg "is_between" sIsBtw ["thing", "least", "most"] f fd
  L : ∃ f fd, DefAt K mg "is_lot" sIsLot ["thing"] f fd
  O : ∃ f fd, DefAt K mg "_is_lot_of_places" sLotOf ["thing", "many"] f fd
  Pl : ∃ f fd, DefAt K mg "is_place" sIsPlace ["forest", "thing"] f fd
  W : ∃ f fd, DefAt K mg "way" sWay ["forest", "place"] f fd
  pl : ∃ f fd, DefAt K mg "is_plan" sIsPlan ["forest", "thing"] f fd
  ss : ∃ f fd, DefAt K mg "_stacks" sStacks ["forest", "plan"] f fd
  na : ∃ f fd, DefAt K mg "_note_at" sNoteAt ["forest", "found", "place"] f fd
  nbp : ∃ f fd, DefAt K mg "notes_by_place" sByPlace ["forest", "plan"] f fd
  dr : ∃ f fd, DefAt K mg "_law_draw" sDraw ["_law_pool_here", "_law_many"] f fd
  is : ∃ f fd, DefAt K mg "_law_is" sIs ["_law_told", "_law_due"] f fd
  pa : ∃ f fd, DefAt K mg "_law_parents" sParents ["_law_pool_here", "_law_many"] f fd
  lo : ∃ f fd, DefAt K mg "_law_lot" sLawLot ["_law_pool_here", "_law_many", "_law_sides"] f fd
  ma : ∃ f fd, DefAt K mg "_law_made" sMade ["_law_spec_here"] f fd
  ls : ∃ f fd, DefAt K mg "_law_stacks" sLStacks ["_law_parents_here", "_law_plan_here"] f fd
  un : ∃ f fd, DefAt K mg "under" sUnder ["forest", "place"] f fd
  ha : ∃ f fd, DefAt K mg "_law_pool" sHand ["_law_script"] f fd
  pck : ∃ f fd, DefAt K mg "_law_pick" sPick ["_law_pool_here", "_law_things"] f fd
  spc : ∃ f fd, DefAt K mg "_law_spec" sSpec ["_law_pool_here", "_law_least", "_law_most"] f fd
  dpl : ∃ f fd, DefAt K mg "_law_plan" sDPlan ["_law_pool_here", "_law_parents_here"] f fd
  lwy : ∃ f fd, DefAt K mg "_law_way" sLWay ["_law_parents_here", "_law_place"] f fd
  ibe : ∃ f fd, DefAt K mg "is_bearing" sIsBear ["forest", "thing"] f fd
  iak : ∃ f fd, DefAt K mg "is_asking" sIsAsk ["forest", "thing"] f fd
  iam : ∃ f fd, DefAt K mg "is_amounts" sIsAmt ["forest", "thing"] f fd
  lws : ∃ f fd, DefAt K mg "_law_words" sLWords ["_law_pool_here", "_law_places"] f fd
  ljo : ∃ f fd, DefAt K mg "_law_joined" sLJoin ["_law_one", "_law_other"] f fd
  ltg : ∃ f fd, DefAt K mg "_law_together" sLTog ["_law_add", "_law_things"] f fd
  tgt : ∃ f fd, DefAt K mg "together" sTogt ["adding", "things"] f fd
  hlo : ∃ f fd, DefAt K mg "holding_one" sHold1 ["notes", "places"] f fd
  rda : ∃ f fd, DefAt K mg "reading_at" sReadAt ["notes", "place"] f fd
  lrw : ∃ f fd, DefAt K mg "_law_rows" sLRows ["_law_spec_here", "_law_plan_here"] f fd
  lcm : ∃ f fd, DefAt K mg "_law_come" sLCome ["_law_spec_here", "_law_amounts", "_law_add", "_law_place"] f fd
  lrd2 : ∃ f fd, DefAt K mg "_law_reads" sLReads ["_law_rows_here", "_law_place"] f fd
  lth : ∃ f fd, DefAt K mg "_law_touches" sLTouch ["_law_rows_here", "_law_places"] f fd
  alm : ∃ f fd, DefAt K mg "_all_made" sAllM ["amounts", "notes", "stay", "adding", "time"] f fd
  fst : ∃ f fd, DefAt K mg "first_state" sFirstS ["forest", "plan", "amounts", "adding"] f fd
  anc : ∃ f fd, DefAt K mg "anew_by_changes" sAnewC ["state", "changes"] f fd
  chst : ∃ f fd, DefAt K mg "changed_state" sChgS ["state", "changes", "adding", "time"] f fd
  lnd : ∃ f fd, DefAt K mg "_law_news_due" sNewsD ["_law_spec_here", "_law_amounts", "_law_watched", "_law_changed"] f fd
  ich : ∃ f fd, DefAt K mg "is_changes" sIsChg ["forest", "thing"] f fd
  ltc : ∃ f fd, DefAt K mg "_law_text_changes" sLTxtC ["_law_pool_here", "_law_spec_here"] f fd
end Cn
namespace Cn
open PySem PySem.Spec PyProof.Rows L2 Ck
/-! readings that leave all as it is, apart from new things -/
theorem cutDrop (xs : List V) (n : Nat) : cutV xs (some (n : Int)) none = xs.drop n := by
  unfold cutV
  rw [HT.sIx_none, HT.sIx_nat]
  by_cases h : n ≤ xs.length
  · rw [Nat.min_eq_left h]
    exact List.take_of_length_le (by rw [List.length_drop]; omega)
  · rw [Nat.min_eq_right (by omega), Nat.sub_self, List.take_zero, List.drop_of_length_le (by omega)]
theorem cutWhole {xs : List V} {lo hi : Option Int} (h : HT.sIx xs.length 0 lo = 0 ∧ HT.sIx xs.length xs.length hi = xs.length) : cutV xs lo hi = xs := by
  unfold cutV
  rw [h.1, h.2, List.drop_zero, Nat.sub_zero, List.take_length]
theorem slA {K : PySem.W.Frag} {H : Hp} {a : Addr} {xs : List V} {lo hi : Option Int} {Q : VK} (ha : H a = some (.tup xs)) (k : ∀ b H', Same H H' → H' b = some (.tup (cutV xs lo hi)) → Q (.ref b) H') : rSlA K (.ref a) lo hi H Q := by
  refine ⟨a, xs, rfl, .inl (.inl ha), fun h => k a H (Same.refl _) (by rw [cutWhole h]; exact ha), fun _ p np => k p _ (smUpd np) upd_same⟩
theorem slN {K : PySem.W.Frag} {σ : L2.St} {H : Hp} {a : Addr} {xs : List V} {lo : Option Int} {Q : VK} (ha : H a = some (.tup xs)) (k : ∀ b H', Same H H' → H' b = some (.tup (cutV xs lo none)) → Q (.ref b) H') : tNoPart σ H (fun u H3 => rSlA K (.ref a) lo u H3 Q) := slA (hi := none) ha k
theorem catA {K : PySem.W.Frag} {H : Hp} {a b : Addr} {xs ys : List V} {Q : VK} (ha : H a = some (.tup xs)) (hb : H b = some (.tup ys)) (hl : xs.length + ys.length ≤ 1000) (k : ∀ c H', Same H H' → H' c = some (.tup (xs ++ ys)) → Q (.ref c) H') : rCatA K (.ref a) (.ref b) H Q := by
  refine ⟨a, b, xs, ys, rfl, rfl, .inl (.inl ha), .inl (.inl hb), Nat.le_of_lt (small1000 hl), fun h => ?_, fun _ h => ?_, fun _ _ p np => k p _ (smUpd np) upd_same⟩
  · subst h
    exact k b H (Same.refl _) hb
  · subst h
    exact k a H (Same.refl _) (by rw [List.append_nil]; exact ha)
theorem walk_zipT {K : PySem.W.Frag} {a b : Addr} {xs ys : List V} {n : Nat} (hn : n = min xs.length ys.length) : Walk (RZ.ItzT K a b) n (fun H => SqT K H a xs ∧ SqT K H b ys) (YPair (fun i => xs[i]?) (fun i => ys[i]?)) := by
  subst hn
  refine ⟨fun i _ hi q => ?_, fun _ q => ⟨xs, ys, q.1, q.2, by omega⟩, fun i H v H' _ q y => ?_⟩
  · have h1 : i < xs.length := by omega
    have h2 : i < ys.length := by omega
    exact ⟨xs, ys, xs[i], ys[i], q.1, q.2, by simp [h1], by simp [h2]⟩
  · obtain ⟨T, x, z, h1, h2, h3, h4, h5⟩ := y
    exact ⟨T, x, z, h1, h2, h3, h4 xs q.1, h5 ys q.2⟩
section
variable {P : Program} {w : World} {K : PySem.W.Frag} {mg : Str → Option Value} {base : Heap}
theorem tupTy {H : Hp} {a : Addr} {xs : List V} (h : H a = some (.tup xs)) : TyX K H (.ref a) (.type "tuple") := .base (.tup h)
def spIsLot : Sp := fun vs H Q _ => ∃ (a : Addr) (ns : List Nat), vs = [.ref a] ∧ TN H a ns ∧ ns.Pairwise (· < ·) ∧ ns.length ≤ 1000 ∧ ∀ H', Same H H' → Q (.bl true) H'
def nLot : List Str := ["thing", "item", "one", "following"]
theorem scIsLot : FnScope nLot ["thing"] (defScope sIsLot) := ⟨rfl, rfl, rfl, by decide +kernel, rfl, by decide +kernel, by decide +kernel⟩
theorem ok_isLot {f fI : Addr} {fd fdI : FuncData} (F : Fun K "is_lot" "is_lot" sIsLot f fd) (N : NamT mg) (DI : DefAt K mg "is_integer" sIsInt ["thing"] fI fdI) : FnOk P w K mg base CX0 2 f fd ["thing"] spIsLot := by
  have GI : FnOk P w K mg base CX0 1 fI fdI ["thing"] spIsInt := ok_isInt DI.F N
  refine F.ok scIsLot (fun vs H Q E h => ?_) (fun cdv A outer s H vs Q E hr h => ?_)
  · obtain ⟨a, ns, rfl, _⟩ := h
    rfl
  · obtain ⟨a, ns, rfl, ha, hp, hl, k⟩ := h
    refine ⟨_, pss_cons (ps_if (pt_not (pt_val (pe_callB call_isi (by rfl) N.is.inst (by decide +kernel) (pa_cons (pv 0) (pa_cons (pe_bltn (v := .ty "tuple") (by rfl) N.is.tup (by decide +kernel) rfl) pa_nil))))) (pss_one ps_never) pss_nil)
      (pss_cons (ps_for PassesOwn.never rfl (pi_tup (pv 0)) (pg_name (i := 1) scIsLot.nd rfl (Or.inl rfl)) (pss_one (ps_if (pt_not (pt_val (pe_call GI hr (by rfl) DI.g DI.F.kp DI.b .nil pass0 (pa_cons (pv 1) pa_nil)))) (pss_one ps_never) pss_nil)))
      (pss_cons (ps_for PassesOwn.never rfl (RZ.pi_zipA (by rfl) N.is.zip (pa_cons (pv 0) (pa_cons (pe_slice sl_tupA (pv 0) (po_some pe_int) po_none) pa_nil))) (pg_tup rfl (pgs_cons (pg_name (i := 2) scIsLot.nd rfl (Or.inl rfl)) (pgs_cons (pg_name (i := 3) scIsLot.nd rfl (Or.inl rfl)) pgs_nil)))
        (pss_one (ps_if (pt_cmpR op_ge (pv 2) (pv 3) (nomark _)) (pss_one ps_never) pss_nil)))
      (pss_one (ps_ret pe_bl)))), ?_⟩
    refine ⟨_, rfl, _, .ty "tuple", _, _, true, rfl, .ty _, tupTy ha, kit_ty (by decide +kernel), true, rfl, ?_⟩
    refine ifF (by decide) ?_
    refine ⟨_, rfl, a, rfl, ⟨_, tnL ha⟩, ?_⟩
    refine for_it (walk_tup (xs := ns.map vn)) (fun _ σ H' => H' = H ∧ ∃ t1, σ = [some (.ref a), t1, none, none]) ⟨rfl, _, rfl⟩ (fun i σ H' _ z => by rw [z.1]; exact tnL ha) ?_ ?_
    · rintro i x σ H' H2 hi ⟨rfl, t1, rfl⟩ ⟨rfl, hx⟩
      rw [List.getElem?_map] at hx
      obtain ⟨n, _, rfl⟩ := Option.map_eq_some_iff.mp hx
      refine ⟨_, rfl, (n : Int), rfl, true, rfl, ?_⟩
      refine ifF (by decide) ?_
      exact ⟨rfl, _, rfl⟩
    · rintro σ H' ⟨rfl, t1, rfl⟩
      refine ⟨_, rfl, _, rfl, 1, rfl, ?_⟩
      refine slN ha fun b H1 s1 hb => ?_
      rw [show (some (1 : Int)) = some ((1 : Nat) : Int) from rfl, cutDrop] at hb
      have ha1 : TN H1 a ns := s1 _ _ ha
      refine ⟨a, b, ns.map vn, (ns.map vn).drop 1, rfl, .inr ⟨tnL ha1, .inl (.inl hb), ?_⟩⟩
      refine for_it (walk_zipT (xs := ns.map vn) (ys := (ns.map vn).drop 1) rfl) (fun _ σ H' => Same H1 H' ∧ ∃ t1 t2 t3, σ = [some (.ref a), t1, t2, t3]) ⟨Same.refl _, _, _, _, rfl⟩ (fun i σ H' _ z => ⟨tnL (z.1 _ _ ha1), .inl (.inl (z.1 _ _ hb))⟩) ?_ ?_
      · rintro i x σ H' H2 hi ⟨sm, t1, t2, t3, rfl⟩ ⟨T, x1, y1, rfl, nT, rfl, e1, e2⟩
        obtain ⟨n, hn, rfl⟩ := vn_get (i := i) e1
        have e2 : ((ns.map vn).drop 1)[i]? = some y1 := e2
        rw [List.getElem?_drop] at e2
        obtain ⟨m, hm, rfl⟩ := vn_get e2
        refine ⟨T, _, rfl, .inl (.inl upd_same), rfl, _, _, rfl, _, _, rfl, rfl, ?_⟩
        refine ⟨_, rfl, _, rfl, _, _, rfl, rfl, _, rfl, ?_⟩
        obtain ⟨q1, q2⟩ := List.getElem?_eq_some_iff.mp hn
        obtain ⟨q3, q4⟩ := List.getElem?_eq_some_iff.mp hm
        have := List.pairwise_iff_getElem.mp hp i (1 + i) q1 q3 (by omega)
        rw [q2, q4] at this
        refine ifF (by rw [decide_eq_true_iff]; show ¬ ((m : Int) ≤ (n : Int)); omega) ?_
        exact ⟨sm.trans (smUpd nT), _, _, _, rfl⟩
      · rintro σ H' ⟨sm, _⟩
        exact k _ (s1.trans sm)
end
end Cn
namespace Cn
open PySem PySem.Spec PyProof.Rows L2 Ck
theorem vn_last {ns : List Nat} {n : Nat} (h : ns ≠ []) (hn : ns.getLast h = n) : atI (ns.map vn) (-1) = some (vn n) := by
  rw [← hn, show ns.map vn = ns.dropLast.map vn ++ [vn (ns.getLast h)] from by rw [← List.map_singleton (f := vn), ← List.map_append, List.dropLast_concat_getLast]]
  exact atI_last _ _
theorem vp_ne {m : Nat} : decide (vp (some m) = V.non) = false := decide_eq_false fun z => nomatch (show vn m = V.non from z)
section
variable {P : Program} {w : World} {K : PySem.W.Frag} {mg : Str → Option Value} {base : Heap} {C : Addr}
def spLotOf : Sp := fun vs H Q _ => ∃ (a : Addr) (ns : List Nat) (n : Nat), vs = [.ref a, vn n] ∧ TN H a ns ∧ ns.Pairwise (· < ·) ∧ (∀ x ∈ ns, x < n) ∧ ns.length ≤ 1000 ∧ ∀ H', Same H H' → Q (.bl true) H'
theorem scLotOf : FnScope ["thing", "many"] ["thing", "many"] (defScope sLotOf) := ⟨rfl, rfl, rfl, by decide +kernel, rfl, by decide +kernel, by decide +kernel⟩
theorem ok_lotOf {f fI fL : Addr} {fd fdI fdL : FuncData} (F : Fun K "_is_lot_of_places" "_is_lot_of_places" sLotOf f fd) (N : NamT mg) (DI : DefAt K mg "is_integer" sIsInt ["thing"] fI fdI) (DL : DefAt K mg "is_lot" sIsLot ["thing"] fL fdL) : FnOk P w K mg base CX0 3 f fd ["thing", "many"] spLotOf := by
  have GL : FnOk P w K mg base CX0 2 fL fdL ["thing"] spIsLot := ok_isLot DL.F N DI
  refine F.ok scLotOf (fun vs H Q E h => ?_) (fun cdv A outer s H vs Q E hr h => ?_)
  · obtain ⟨a, ns, n, rfl, _⟩ := h
    rfl
  · obtain ⟨a, ns, n, rfl, ha, hp, hx, hl, k⟩ := h
    refine ⟨_, pss_one (ps_ret (pe_and (pe_call GL hr (by rfl) DL.g DL.F.kp DL.b .nil pass0 (pa_cons (pv 0) pa_nil)) (pe_one (pe_or (pe_notT (pv 0)) (pe_one (pe_and (pe_cmpR op_le pe_int (pe_ix ix_tup (pv 0) pe_int (fun _ _ => rfl)) (nomark _)) (pe_one (pe_cmpR op_lt (pe_ix ix_tup (pv 0) (pe_un un_neg pe_int) (fun _ _ => rfl)) (pv 1) (nomark _))))))))), ?_⟩
    refine ⟨_, rfl, a, ns, rfl, ha, hp, hl, fun H1 s1 => ⟨true, rfl, ?_⟩⟩
    refine ifT rfl ?_
    have ha1 : TN H1 a ns := s1 _ _ ha
    refine ⟨_, rfl, _, .inr (.inl ⟨_, tnL ha1, rfl⟩), _, rfl, ?_⟩
    by_cases hne : ns = []
    · refine ifT (by rw [hne]; rfl) ?_
      exact k H1 s1
    · obtain ⟨m, h0⟩ : ∃ m, ns[0]? = some m := ⟨_, List.getElem?_eq_getElem (List.length_pos_iff.mpr hne)⟩
      have hem : (ns.map vn).isEmpty = false := by
        cases ns with
        | nil => exact absurd rfl hne
        | cons _ _ => rfl
      refine ifF (by rw [hem]; decide) ?_
      refine ⟨_, rfl, a, _, (0 : Int), _, rfl, rfl, tnL ha1, vn_ix (i := 0) h0, _, _, rfl, rfl, _, rfl, ?_⟩
      refine ifT (by rw [decide_eq_true_iff]; show (0 : Int) ≤ ((m : Nat) : Int); omega) ?_
      have hg := hx _ (List.getLast_mem hne)
      have el := vn_last hne rfl
      refine ⟨_, rfl, _, rfl, a, _, _, _, rfl, rfl, tnL ha1, el, _, rfl, _, _, rfl, rfl, ?_⟩
      have hlt : (((ns.getLast hne : Nat) : Int)) < (n : Int) := by omega
      show Q (V.bl (decide ((((ns.getLast hne : Nat) : Int)) < (n : Int)))) H1
      rw [decide_eq_true hlt]
      exact k H1 s1
/-! Forest(parents, bearing, asking) -/
def spInit (C : Addr) : Sp := fun vs H Q _ => ∃ (p dx ap ab aa : Addr) (f : Fo), vs = [.ref p, .ref ap, .ref ab, .ref aa] ∧ H p = some (.ins C dx []) ∧ TP H ap f.ps ∧ TN H ab f.be ∧ TN H aa f.as ∧ FoOk f ∧
  ∀ H', FoAt C H' p f → (∀ b o, b ≠ p → H b = some o → H' b = some o) → Q .non H'
def nInit : List Str := ["self", "parents", "bearing", "asking", "place", "parent"]
theorem scInit : FnScope nInit ["self", "parents", "bearing", "asking"] (defScope sInit) := ⟨rfl, rfl, rfl, by decide +kernel, rfl, by decide +kernel, by decide +kernel⟩
theorem put3 {ap ab aa : Addr} : putF "asking" (.ref aa) (putF "bearing" (.ref ab) (putF "parents" (.ref ap) [])) = fields3 ap ab aa := rfl
theorem lotLen {ns : List Nat} {n : Nat} (hp : ns.Pairwise (· < ·)) (hx : ∀ x ∈ ns, x < n) : ns.length ≤ n := by
  have h : ∀ (k : Nat) (xs : List Nat), xs.Pairwise (· < ·) → (∀ x ∈ xs, k ≤ x ∧ x < n) → k ≤ n → xs.length + k ≤ n := by
    intro k xs
    induction xs generalizing k with
    | nil => intro _ _ h; rw [List.length_nil]; omega
    | cons y ys ih =>
      intro p q hk
      have hy := q y List.mem_cons_self
      have := ih (y + 1) (List.pairwise_cons.mp p).2 (fun x hx => ⟨(List.pairwise_cons.mp p).1 x hx, (q x (List.mem_cons_of_mem _ hx)).2⟩) hy.2
      rw [List.length_cons]
      omega
  have := h 0 ns hp (fun x hx' => ⟨Nat.zero_le _, hx x hx'⟩) (Nat.zero_le _)
  omega
theorem ok_init {f fI fL fB fO : Addr} {fd fdI fdL fdB fdO : FuncData} {tm : Tok} (F : Fun K "__init__" "Forest.__init__" sInit f fd) (N : NamT mg) (T : FoT K mg C) (mM : mg "MOST_PLACES" = some (.int 60 tm)) (DI : DefAt K mg "is_integer" sIsInt ["thing"] fI fdI) (DL : DefAt K mg "is_lot" sIsLot ["thing"] fL fdL)
    (DB : DefAt K mg "is_between" sIsBtw ["thing", "least", "most"] fB fdB) (DO : DefAt K mg "_is_lot_of_places" sLotOf ["thing", "many"] fO fdO) : FnOk P w K mg base CX0 4 f fd ["self", "parents", "bearing", "asking"] (spInit C) := by
  have GB : FnOk P w K mg base CX0 2 fB fdB ["thing", "least", "most"] spIsBtw := ok_isBtw DB.F N DI
  have GO : FnOk P w K mg base CX0 3 fO fdO ["thing", "many"] spLotOf := ok_lotOf DO.F N DI DL
  refine F.ok scInit (fun vs H Q E h => ?_) (fun cdv A outer s H vs Q E hr h => ?_)
  · obtain ⟨p, dx, ap, ab, aa, f, rfl, _⟩ := h
    rfl
  · obtain ⟨p, dx, ap, ab, aa, fo, rfl, hp, h1, h2, h3, ok, k⟩ := h
    have hr2 : Room 2 (A.deeper (envOfC "Forest.__init__" (defScope sInit) s.heap.objs.size f cdv)) := Room.mono hr (by decide)
    refine ⟨_, pss_cons (ps_if (PW.pt (pw_or (pt_not (pt_val (pe_callB call_isi (by rfl) N.is.inst (by decide +kernel) (pa_cons (pv 1) (pa_cons (pe_bltn (v := .ty "tuple") (by rfl) N.is.tup (by decide +kernel) rfl) pa_nil)))))
          (pw_or1 (pt_not (pt_chain op_le op_le pe_int (pe_callB call_len_seq (by rfl) N.is.len PySem.boot_len (pa_cons (pv 1) pa_nil)) (pe_glob (v := .int 60) (by rfl) mM ⟨_, rfl⟩)))))) (pss_one ps_never) pss_nil)
      (pss_cons (ps_for PassesOwn.never rfl (pi_enumT (by rfl) N.enum (pa_cons (pv 1) pa_nil)) (pg_tup rfl (pgs_cons (pg_name (i := 4) scInit.nd rfl (Or.inl rfl)) (pgs_cons (pg_name (i := 5) scInit.nd rfl (Or.inl rfl)) pgs_nil)))
        (pss_one (ps_if (PW.pt (pw_and (pt_cmpR op_notN (pv 5) pe_non (nomark _)) (pw_and1 (pt_not (pt_val (pe_call GB hr2 (by rfl) DB.g DB.F.kp DB.b .nil pass0 (pa_cons (pv 5) (pa_cons pe_int (pa_cons (pe_op op_sub (pv 4) pe_int) pa_nil))))))))) (pss_one ps_never) pss_nil)))
      (pss_cons (ps_if (pt_not (pt_val (pe_call GO hr (by rfl) DO.g DO.F.kp DO.b .nil pass0 (pa_cons (pv 2) (pa_cons (pe_callB call_len_seq (by rfl) N.is.len PySem.boot_len (pa_cons (pv 1) pa_nil)) pa_nil))))) (pss_one ps_never) pss_nil)
      (pss_cons (ps_if (pt_not (pt_val (pe_call GO hr (by rfl) DO.g DO.F.kp DO.b .nil pass0 (pa_cons (pv 3) (pa_cons (pe_callB call_len_seq (by rfl) N.is.len PySem.boot_len (pa_cons (pv 1) pa_nil)) pa_nil))))) (pss_one ps_never) pss_nil)
      (pss_cons (ps_fld (pv 0) (pv 1) rfl) (pss_cons (ps_fld (pv 0) (pv 2) rfl) (pss_one (ps_fld (pv 0) (pv 3) rfl))))))), ?_⟩
    have l1 : ((fo.ps.map vp).length : Int) ≤ 60 := by have := ok.l1; rw [List.length_map]; omega
    have l0 : (1 : Int) ≤ ((fo.ps.map vp).length : Int) := by have := ok.l0; rw [List.length_map]; omega
    refine ⟨_, rfl, _, .ty "tuple", _, _, true, rfl, .ty _, tupTy h1, kit_ty (by decide +kernel), true, rfl, ?_⟩
    refine ifF (by decide) ?_
    refine ⟨_, rfl, ap, _, rfl, .inr (tpL h1), _, _, rfl, rfl, _, rfl, ?_⟩
    refine ifT (decide_eq_true l0) ?_
    refine ⟨_, _, rfl, rfl, _, rfl, ?_⟩
    refine ifF (by rw [decide_eq_true l1]; decide) ?_
    refine ⟨_, rfl, ap, _, rfl, tpL h1, ?_⟩
    refine for_it (walk_enumT (xs := fo.ps.map vp)) (fun _ σ H' => Same H H' ∧ ∃ t4 t5, σ = [some (.ref p), some (.ref ap), some (.ref ab), some (.ref aa), t4, t5]) ⟨Same.refl _, _, _, rfl⟩ (fun i σ H' _ z => tpL (z.1 _ _ h1)) ?_ ?_
    · rintro i x σ H' H2 hi ⟨sm, t4, t5, rfl⟩ ⟨T, x1, y1, rfl, nT, rfl, e1, e2⟩
      cases e1
      obtain ⟨q, hq, rfl⟩ := vp_get (i := i) e2
      refine ⟨T, _, rfl, .inl (.inl upd_same), rfl, _, _, rfl, _, _, rfl, rfl, ?_⟩
      cases q with
      | none =>
        refine ⟨_, rfl, rfl, _, rfl, ?_⟩
        refine ifF (by decide) ?_
        exact ⟨sm.trans (smUpd nT), _, _, rfl⟩
      | some m =>
        refine ⟨_, rfl, rfl, _, rfl, ?_⟩
        refine ifT (by rw [vp_ne]; rfl) ?_
        refine ⟨_, rfl, _, rfl, _, _, rfl, rfl, (m : Int), 0, (i : Int) - 1, rfl, _, rfl, ?_⟩
        have := ok.ps i m hq
        refine ifF (by rw [decide_eq_true (by omega)]; decide) ?_
        exact ⟨sm.trans (smUpd nT), _, _, rfl⟩
    · rintro σ H' ⟨sm, t4, t5, rfl⟩
      refine ⟨_, rfl, _, rfl, ap, _, rfl, .inr (tpL (sm _ _ h1)), ab, fo.be, fo.ps.length, by rw [List.length_map]; rfl, sm _ _ h2, ok.be, ok.bl, Nat.le_trans (lotLen ok.be ok.bl) (by have := ok.l1; omega), fun H1 s1 => ⟨true, rfl, ?_⟩⟩
      refine ifF (by decide) ?_
      refine ⟨_, rfl, _, rfl, ap, _, rfl, .inr (tpL (s1 _ _ (sm _ _ h1))), aa, fo.as, fo.ps.length, by rw [List.length_map]; rfl, s1 _ _ (sm _ _ h3), ok.as, ok.al, Nat.le_trans (lotLen ok.as ok.al) (by have := ok.l1; omega), fun H3 s3 => ⟨true, rfl, ?_⟩⟩
      refine ifF (by decide) ?_
      have sm3 := (sm.trans s1).trans s3
      refine ⟨_, rfl, _, rfl, p, C, dx, [], rfl, sm3 _ _ hp, T.cl, T.nP, (by show 0 < 1000; decide), ?_⟩
      refine ⟨_, rfl, _, rfl, p, C, dx, _, rfl, upd_same, T.cl, T.nB, (by show 1 < 1000; decide), ?_⟩
      refine ⟨_, rfl, _, rfl, p, C, dx, _, rfl, upd_same, T.cl, T.nA, (by show 2 < 1000; decide), ?_⟩
      have kp : ∀ b o, b ≠ p → H b = some o → (upd (upd (upd H3 p (.ins C dx (putF "parents" (.ref ap) []))) p (.ins C dx (putF "bearing" (.ref ab) (putF "parents" (.ref ap) [])))) p (.ins C dx (fields3 ap ab aa))) b = some o := fun b o ne e => by
        rw [upd_ne ne, upd_ne ne, upd_ne ne]
        exact sm3 _ _ e
      have nt : ∀ {a : Addr} {xs : List V}, H a = some (.tup xs) → a ≠ p := fun {a xs} e z => by rw [z, hp] at e; cases e
      exact k _ ⟨dx, ap, ab, aa, upd_same, kp _ _ (nt h1) h1, kp _ _ (nt h2) h2, kp _ _ (nt h3) h3⟩ kp
end
end Cn
namespace Cn
open PySem PySem.Spec PyProof.Rows L2 Ck
section
variable {P : Program} {w : World} {K : PySem.W.Frag} {mg : Str → Option Value} {base : Heap} {C : Addr}
/-- a def at its level -/
def Def (P : Program) (w : World) (K : PySem.W.Frag) (mg : Str → Option Value) (base : Heap) (x : Str) (k : Nat) (ps : List Str) (sp : Sp) : Prop :=
  ∃ f fd, FnOk P w K mg base CX0 k f fd ps sp ∧ mg x = some (.ref f) ∧ PySem.W.keepIn K (.ref f) = true ∧ Binds K fd ps []
theorem def_of {x : Str} {st : Stmt} {ps : List Str} {k : Nat} {sp : Sp} (h : ∃ f fd, DefAt K mg x st ps f fd) (g : ∀ f fd, Fun K x x st f fd → FnOk P w K mg base CX0 k f fd ps sp) : Def P w K mg base x k ps sp := by
  obtain ⟨f, fd, D⟩ := h
  exact ⟨f, fd, g f fd D.F, D.g, D.F.kp, D.b⟩
theorem dBtw (B : Defs K mg C) : Def P w K mg base "is_between" 2 ["thing", "least", "most"] spIsBtw := by
  obtain ⟨fI, fdI, DI⟩ := B.I
  exact def_of B.B fun f fd F => ok_isBtw F B.N DI
/-! is_place -/
def spPlace (C : Addr) : Sp := fun vs H Q _ => ∃ (a : Addr) (f : Fo) (i : Nat), vs = [.ref a, vn i] ∧ FoAt C H a f ∧ i < f.ps.length ∧ Q (.bl true) H
theorem scIsPlace : FnScope ["forest", "thing"] ["forest", "thing"] (defScope sIsPlace) := ⟨rfl, rfl, rfl, by decide +kernel, rfl, by decide +kernel, by decide +kernel⟩
theorem dPlace (B : Defs K mg C) : Def P w K mg base "is_place" 3 ["forest", "thing"] (spPlace C) := by
  obtain ⟨fB, fdB, GB, gB, kB, bB⟩ := dBtw (P := P) (w := w) (base := base) B
  refine def_of B.Pl fun f fd F => ?_
  refine F.ok scIsPlace (fun vs H Q E h => ?_) (fun cdv A outer s H vs Q E hr h => ?_)
  · obtain ⟨a, f, i, rfl, _⟩ := h
    rfl
  · obtain ⟨a, fo, i, rfl, ⟨dx, ap, ab, aa, h0, h1, h2, h3⟩, hi, k⟩ := h
    refine ⟨_, pss_one (ps_ret (pe_call GB hr (by rfl) gB kB bB .nil pass0 (pa_cons (pv 1) (pa_cons pe_int (pa_cons (pe_op op_sub (pe_callB call_len_seq (by rfl) B.N.is.len PySem.boot_len (pa_cons (pe_fld (pv 0) rfl) pa_nil)) pe_int) pa_nil))))), ?_⟩
    refine ⟨_, rfl, _, rfl, a, C, dx, _, _, rfl, h0, B.T.cl, B.T.nP, fP, ap, _, rfl, .inr (tpL h1), _, _, rfl, rfl, (i : Int), 0, _, rfl, ?_⟩
    rw [List.length_map, decide_eq_true (by omega)]
    exact k
/-! way -/
def spWay (C : Addr) : Sp := fun vs H Q _ => ∃ (a : Addr) (f : Fo) (i : Nat), vs = [.ref a, vn i] ∧ FoAt C H a f ∧ Ps f.ps ∧ f.ps.length ≤ 60 ∧ i < f.ps.length ∧ ∀ b H', Same H H' → TDn H' b (road f.ps i) → Q (.ref b) H'
def nWay : List Str := ["forest", "place", "upward", "parent"]
theorem scWay : FnScope nWay ["forest", "place"] (defScope sWay) := ⟨rfl, rfl, rfl, by decide +kernel, rfl, by decide +kernel, by decide +kernel⟩
theorem ps_at {ps : List (Option Nat)} {i : Nat} (hi : i < ps.length) : ∃ q, ps[i]? = some q := ⟨_, List.getElem?_eq_getElem hi⟩
/-- where the walk upward stands -/
def UpAt (ps : List (Option Nat)) (i : Nat) (up : List Nat) : Option Nat → Prop
  | none => road ps i = up.reverse
  | some p => p < i ∧ road ps i = road ps p ++ up.reverse
theorem upStart {ps : List (Option Nat)} {i : Nat} {q : Option Nat} (hp : Ps ps) (h : ps[i]? = some q) : UpAt ps i [i] q := by
  cases q with
  | none => exact road_none h
  | some p => exact ⟨hp i p h, road_some hp h⟩
theorem upNext {ps : List (Option Nat)} {i p : Nat} {up : List Nat} {q : Option Nat} (hp : Ps ps) (h : UpAt ps i up (some p)) (hq : ps[p]? = some q) : UpAt ps i (up ++ [p]) q := by
  obtain ⟨hl, e⟩ := h
  cases q with
  | none =>
    show road ps i = (up ++ [p]).reverse
    rw [e, road_none hq, List.reverse_append]; rfl
  | some r =>
    refine ⟨Nat.lt_trans (hp p r hq) hl, ?_⟩
    rw [e, road_some hp hq, List.reverse_append, List.append_assoc]; rfl
def meas : L2.St → Nat := fun σ => match σ[3]? with
  | some (some (V.int n)) => n.toNat + 1
  | _ => 0
theorem dWay (B : Defs K mg C) : Def P w K mg base "way" 4 ["forest", "place"] (spWay C) := by
  obtain ⟨fB, fdB, GB, gB, kB, bB⟩ := dPlace (P := P) (w := w) (base := base) B
  refine def_of B.W fun f fd F => ?_
  refine F.ok scWay (fun vs H Q E h => ?_) (fun cdv A outer s H vs Q E hr h => ?_)
  · obtain ⟨a, f, i, rfl, _⟩ := h
    rfl
  · obtain ⟨a, fo, i, rfl, hF, hp, hl, hi, k⟩ := h
    refine ⟨_, pss_cons (ps_if (pt_not (pt_val (pe_call GB hr (by rfl) gB kB bB .nil pass0 (pa_cons (pv 0) (pa_cons (pv 1) pa_nil))))) (pss_one ps_never) pss_nil)
      (pss_cons (ps_set (i := 2) scWay.nd rfl (Or.inl rfl) (pe_lst (pa_cons (pv 1) pa_nil)))
      (pss_cons (ps_set (i := 3) scWay.nd rfl (Or.inl rfl) (pe_ix ix_tup (pe_fld (pv 0) rfl) (pv 1) (fun _ _ => rfl)))
      (pss_cons (ps_while PassesOwn.never (pt_cmpR op_notN (pv 3) pe_non (nomark _))
        (pss_cons (ps_expr (pe_bm PySem.F.plainAttrs_list PySem.F.slot_list_append PySem.F.type_list_append mt_append (pv 2) (pa_cons (pv 3) pa_nil)))
        (pss_one (ps_set (i := 3) scWay.nd rfl (Or.inl rfl) (pe_ix ix_tup (pe_fld (pv 0) rfl) (pv 3) (fun _ _ => rfl))))))
      (pss_one (ps_ret (pe_tupRevD rfl (by rfl) B.N.is.tup (by rfl) B.N.rev (pv 2))))))), ?_⟩
    refine ⟨_, rfl, _, rfl, a, fo, i, rfl, hF, hi, true, rfl, ?_⟩
    refine ifF (by decide) ?_
    obtain ⟨dx, ap, ab, aa, h0, h1, h2, h3⟩ := hF
    refine ⟨_, rfl, by show 1 ≤ sizeLine; decide, fun u nu => ?_⟩
    have S1 := smUpd (o := .lst [vn i]) nu
    obtain ⟨q, hq⟩ := ps_at hi
    refine ⟨_, rfl, a, C, dx, _, _, rfl, S1 _ _ h0, B.T.cl, B.T.nP, fP, _, rfl, ap, _, (i : Int), _, rfl, rfl, tpL (S1 _ _ h1), vp_ix hq, ?_⟩
    refine while_by (fun σ H' => ∃ (up : List Nat) (q : Option Nat), σ = [some (.ref a), some (vn i), some (.ref u), some (vp q)] ∧ Same H H' ∧ H' u = some (.lst (up.map vn)) ∧ UpAt fo.ps i up q ∧ up.length ≤ i + 1) (fun σ _ => meas σ) ⟨[i], q, rfl, S1, upd_same, upStart hp hq, by show 1 ≤ i + 1; omega⟩ ?_ ?_
    · rintro σ H' ⟨up, q, rfl, sm, hu, hup, hul⟩
      refine ⟨_, rfl, rfl, _, rfl, ?_⟩
      cases q with
      | none =>
        refine ifF (by decide) ?_
        refine ⟨_, rfl, u, _, rfl, .inl (.inl hu), fun r H2 s2 hr => ?_⟩
        rw [← List.map_reverse] at hr
        have e : road fo.ps i = up.reverse := hup
        refine k r _ (sm.trans s2) ?_
        rw [e]
        exact hr
      | some p =>
        refine ifT (by rw [vp_ne]; rfl) ?_
        obtain ⟨hpi, _⟩ := id hup
        have hpl : p < fo.ps.length := Nat.lt_trans hpi hi
        obtain ⟨r, hr⟩ := ps_at hpl
        refine ⟨_, rfl, .inl ⟨rfl, _, .inl (.inl hu)⟩, _, rfl, u, _, _, rfl, rfl, hu, ?_, ?_⟩
        · rw [List.length_map]; exact small1000 (by omega)
        have nub : ∀ b o, H b = some o → b ≠ u := fun b o e z => by rw [z, nu] at e; cases e
        have sm2 : Same H (upd H' u (.lst (up.map vn ++ [vp (some p)]))) := fun b o e => by rw [upd_ne (nub b o e)]; exact sm b o e
        refine ⟨_, rfl, a, C, dx, _, _, rfl, sm2 _ _ h0, B.T.cl, B.T.nP, fP, _, rfl, ap, _, (p : Int), _, rfl, rfl, tpL (sm2 _ _ h1), vp_ix hr, ?_⟩
        refine ⟨⟨up ++ [p], r, rfl, sm2, ?_, upNext hp hup hr, ?_⟩, ?_⟩
        · rw [upd_same, List.map_append]; rfl
        · have e := road_len hp i hi
          obtain ⟨_, e2⟩ := hup
          have := List.length_pos_iff.mpr (road_ne hp hpl)
          rw [e2, List.length_append, List.length_reverse] at e
          rw [List.length_append, List.length_singleton]
          omega
        · cases r with
          | none => show 0 < (p : Int).toNat + 1; omega
          | some r =>
            have := hp p r hr
            show (r : Int).toNat + 1 < (p : Int).toNat + 1
            omega
    · rintro σ H' Q1 Q2 hq12 ⟨v, hv, e, kk, hk, qq⟩
      exact ⟨v, hv, e, kk, hk, hq12 _ _ qq⟩
end
end Cn
namespace Cn
open PySem PySem.Spec PyProof.Rows L2 Ck
/-! way, as a plain new tuple -/
section
variable {P : Program} {w : World} {K : PySem.W.Frag} {mg : Str → Option Value} {base : Heap} {C : Addr}
def spWayN (C : Addr) : Sp := fun vs H Q _ => ∃ (a : Addr) (f : Fo) (i : Nat), vs = [.ref a, vn i] ∧ FoAt C H a f ∧ Ps f.ps ∧ f.ps.length ≤ 60 ∧ i < f.ps.length ∧ ∀ b H', Same H H' → TN H' b (road f.ps i) → Q (.ref b) H'
theorem dWayN (B : Defs K mg C) : Def P w K mg base "way" 4 ["forest", "place"] (spWayN C) := by
  obtain ⟨fB, fdB, GB, gB, kB, bB⟩ := dPlace (P := P) (w := w) (base := base) B
  refine def_of B.W fun f fd F => ?_
  refine F.ok scWay (fun vs H Q E h => ?_) (fun cdv A outer s H vs Q E hr h => ?_)
  · obtain ⟨a, f, i, rfl, _⟩ := h
    rfl
  · obtain ⟨a, fo, i, rfl, hF, hp, hl, hi, k⟩ := h
    refine ⟨_, pss_cons (ps_if (pt_not (pt_val (pe_call GB hr (by rfl) gB kB bB .nil pass0 (pa_cons (pv 0) (pa_cons (pv 1) pa_nil))))) (pss_one ps_never) pss_nil)
      (pss_cons (ps_set (i := 2) scWay.nd rfl (Or.inl rfl) (pe_lst (pa_cons (pv 1) pa_nil)))
      (pss_cons (ps_set (i := 3) scWay.nd rfl (Or.inl rfl) (pe_ix ix_tup (pe_fld (pv 0) rfl) (pv 1) (fun _ _ => rfl)))
      (pss_cons (ps_while PassesOwn.never (pt_cmpR op_notN (pv 3) pe_non (nomark _))
        (pss_cons (ps_expr (pe_bm PySem.F.plainAttrs_list PySem.F.slot_list_append PySem.F.type_list_append mt_append (pv 2) (pa_cons (pv 3) pa_nil)))
        (pss_one (ps_set (i := 3) scWay.nd rfl (Or.inl rfl) (pe_ix ix_tup (pe_fld (pv 0) rfl) (pv 3) (fun _ _ => rfl))))))
      (pss_one (ps_ret (RT.pe_tupRev rfl (by rfl) B.N.is.tup (by rfl) B.N.rev (pv 2))))))), ?_⟩
    refine ⟨_, rfl, _, rfl, a, fo, i, rfl, hF, hi, true, rfl, ?_⟩
    refine ifF (by decide) ?_
    obtain ⟨dx, ap, ab, aa, h0, h1, h2, h3⟩ := hF
    refine ⟨_, rfl, by show 1 ≤ sizeLine; decide, fun u nu => ?_⟩
    have S1 := smUpd (o := .lst [vn i]) nu
    obtain ⟨q, hq⟩ := ps_at hi
    refine ⟨_, rfl, a, C, dx, _, _, rfl, S1 _ _ h0, B.T.cl, B.T.nP, fP, _, rfl, ap, _, (i : Int), _, rfl, rfl, tpL (S1 _ _ h1), vp_ix hq, ?_⟩
    refine while_by (fun σ H' => ∃ (up : List Nat) (q : Option Nat), σ = [some (.ref a), some (vn i), some (.ref u), some (vp q)] ∧ Same H H' ∧ H' u = some (.lst (up.map vn)) ∧ UpAt fo.ps i up q ∧ up.length ≤ i + 1) (fun σ _ => meas σ) ⟨[i], q, rfl, S1, upd_same, upStart hp hq, by show 1 ≤ i + 1; omega⟩ ?_ ?_
    · rintro σ H' ⟨up, q, rfl, sm, hu, hup, hul⟩
      refine ⟨_, rfl, rfl, _, rfl, ?_⟩
      cases q with
      | none =>
        refine ifF (by decide) ?_
        refine ⟨_, rfl, u, _, rfl, .inl (.inl hu), fun r nr => ?_⟩
        rw [← List.map_reverse]
        have e : road fo.ps i = up.reverse := hup
        refine k r _ (sm.trans (smUpd nr)) ?_
        rw [e]
        exact upd_same
      | some p =>
        refine ifT (by rw [vp_ne]; rfl) ?_
        obtain ⟨hpi, _⟩ := id hup
        have hpl : p < fo.ps.length := Nat.lt_trans hpi hi
        obtain ⟨r, hr⟩ := ps_at hpl
        refine ⟨_, rfl, .inl ⟨rfl, _, .inl (.inl hu)⟩, _, rfl, u, _, _, rfl, rfl, hu, ?_, ?_⟩
        · rw [List.length_map]; exact small1000 (by omega)
        have nub : ∀ b o, H b = some o → b ≠ u := fun b o e z => by rw [z, nu] at e; cases e
        have sm2 : Same H (upd H' u (.lst (up.map vn ++ [vp (some p)]))) := fun b o e => by rw [upd_ne (nub b o e)]; exact sm b o e
        refine ⟨_, rfl, a, C, dx, _, _, rfl, sm2 _ _ h0, B.T.cl, B.T.nP, fP, _, rfl, ap, _, (p : Int), _, rfl, rfl, tpL (sm2 _ _ h1), vp_ix hr, ?_⟩
        refine ⟨⟨up ++ [p], r, rfl, sm2, ?_, upNext hp hup hr, ?_⟩, ?_⟩
        · rw [upd_same, List.map_append]; rfl
        · have e := road_len hp i hi
          obtain ⟨_, e2⟩ := hup
          have := List.length_pos_iff.mpr (road_ne hp hpl)
          rw [e2, List.length_append, List.length_reverse] at e
          rw [List.length_append, List.length_singleton]
          omega
        · cases r with
          | none => show 0 < (p : Int).toNat + 1; omega
          | some r =>
            have := hp p r hr
            show (r : Int).toNat + 1 < (p : Int).toNat + 1
            omega
    · rintro σ H' Q1 Q2 hq12 ⟨v, hv, e, kk, hk, qq⟩
      exact ⟨v, hv, e, kk, hk, hq12 _ _ qq⟩
end
end Cn
namespace Cn
open PySem PySem.Spec PyProof.Rows L2 Ck
/-! data of whole numbers -/
def dn (ns : List Nat) : List PyData := ns.map fun n => PyData.int ((n : Nat) : Int)
theorem dpN {K : PySem.W.Frag} {H : Hp} : ∀ ns : List Nat, DpAll K H (ns.map vn) (dn ns)
  | [] => .nil
  | n :: ns => .cons (.int _) (dpN ns)
theorem dnLay : ∀ ns : List Nat, PyData.canLayAll0 (dn ns) = true
  | [] => rfl
  | n :: ns => by
    show (PyData.canLay0 (.int _) && PyData.canLayAll0 (dn ns)) = true
    rw [dnLay ns]; rfl
theorem dnDepth : ∀ ns : List Nat, PyData.depthAll (dn ns) = 0
  | [] => rfl
  | n :: ns => by
    show max (PyData.depth (.int _)) (PyData.depthAll (dn ns)) = 0
    rw [dnDepth ns]; rfl
theorem dnShL (ns : List Nat) : SeqAt.shaped (.list (dn ns)) = true := by
  show (PyData.canLayAll0 (dn ns) && decide (PyData.depthAll (dn ns) + 1 ≤ 64)) = true
  rw [dnLay, dnDepth]; rfl
theorem dnShT (ns : List Nat) : SeqAt.shaped (.tuple (dn ns)) = true := by
  show (PyData.canLayAll0 (dn ns) && decide (PyData.depthAll (dn ns) + 1 ≤ 64)) = true
  rw [dnLay, dnDepth]; rfl
theorem dnEqL (ns : List Nat) : PyData.eqv (.list (dn ns)) (.list (dn ns)) = true := SeqAt.eqv_refl (.list (dn ns)) (dnLay ns)
theorem dnEqT (ns : List Nat) : PyData.eqv (.tuple (dn ns)) (.tuple (dn ns)) = true := SeqAt.eqv_refl (.tuple (dn ns)) (dnLay ns)
/-- what is sorted and has just the numbers below n, each once -/
theorem sortedRange {ns : List Nat} {n : Nat} {zs : List Int} (nd : ns.Nodup) (hm : ∀ x, x ∈ ns ↔ x < n) (hp : zs.Perm (ns.map fun k => ((k : Nat) : Int))) (hs : zs.Pairwise (· ≤ ·)) : zs = (List.range n).map fun k => ((k : Nat) : Int) := by
  have h1 : ns.Perm (List.range n) := (List.perm_ext_iff_of_nodup nd List.nodup_range).mpr fun x => by rw [hm, List.mem_range]
  refine List.Perm.eq_of_pairwise (le := (· ≤ ·)) (fun a b _ _ p q => Int.le_antisymm p q) hs ?_ (hp.trans (h1.map _))
  rw [List.pairwise_map]
  exact List.pairwise_lt_range.imp fun h => by omega
theorem rgN (n : Nat) : rgV 0 (n : Int) = (List.range n).map vn := by
  unfold rgV
  rw [Int.sub_zero, Int.toNat_natCast]
  refine List.map_congr_left fun i _ => ?_
  show V.int (0 + (i : Int)) = V.int (i : Int)
  rw [Int.zero_add]
theorem mapIV (ns : List Nat) : (ns.map fun k => ((k : Nat) : Int)).map V.int = ns.map vn := by rw [List.map_map]; rfl
/-- cuts: all places, each once -/
structure CutsOk (n : Nat) (cs : List Nat) : Prop where
  len : cs.length = n
  nd : cs.Nodup
  mem : ∀ x, x ∈ cs ↔ x < n
section
variable {P : Program} {w : World} {K : PySem.W.Frag} {mg : Str → Option Value} {base : Heap} {C : Addr}
theorem dInt (B : Defs K mg C) : Def P w K mg base "is_integer" 1 ["thing"] spIsInt := def_of B.I fun f fd F => ok_isInt F B.N
end
end Cn

namespace Cn
open PySem PySem.Spec PyProof.Rows L2 Ck
section
variable {P : Program} {w : World} {K : PySem.W.Frag} {mg : Str → Option Value} {base : Heap} {C : Addr}
/-! is_plan -/
def spIsPlan (C : Addr) : Sp := fun vs H Q _ => ∃ (a b : Addr) (f : Fo) (lv : List Nat), vs = [.ref a, .ref b] ∧ FoAt C H a f ∧ TN H b lv ∧ Ps f.ps ∧ Lv f.ps lv ∧ ∀ H', Same H H' → Q (.bl true) H'
def nIsPlan : List Str := ["forest", "thing", "place", "parent", "most"]
theorem scIsPlan : FnScope nIsPlan ["forest", "thing"] (defScope sIsPlan) := ⟨rfl, rfl, rfl, by decide +kernel, rfl, by decide +kernel, by decide +kernel⟩
theorem dIsPlan (B : Defs K mg C) : Def P w K mg base "is_plan" 3 ["forest", "thing"] (spIsPlan C) := by
  obtain ⟨fB, fdB, GB, gB, kB, bB⟩ := dBtw (P := P) (w := w) (base := base) B
  have N := B.N
  have T := B.T
  refine def_of B.pl fun f fd F => ?_
  refine F.ok scIsPlan (fun vs H Q E h => ?_) (fun cdv A outer s H vs Q E hr h => ?_)
  · obtain ⟨a, b, f, lv, rfl, _⟩ := h
    rfl
  · obtain ⟨a, b, fo, lv, rfl, ⟨dx, ap, ab, aa, h0, h1, h2, h3⟩, hb, hp, hv, k⟩ := h
    refine ⟨_, pss_cons (ps_if (PW.pt (pw_or (pt_not (pt_val (pe_callB call_isi (by rfl) N.is.inst (by decide +kernel) (pa_cons (pv 1) (pa_cons (pe_bltn (v := .ty "tuple") (by rfl) N.is.tup (by decide +kernel) rfl) pa_nil)))))
          (pw_or1 (pt_cmpR op_ne (pe_callB call_len_seq (by rfl) N.is.len PySem.boot_len (pa_cons (pv 1) pa_nil)) (pe_callB call_len_seq (by rfl) N.is.len PySem.boot_len (pa_cons (pe_fld (pv 0) rfl) pa_nil)) (nomark _))))) (pss_one ps_never) pss_nil)
      (pss_cons (ps_for PassesOwn.never rfl (pi_enumT (by rfl) N.enum (pa_cons (pe_fld (pv 0) rfl) pa_nil)) (pg_tup rfl (pgs_cons (pg_name (i := 2) scIsPlan.nd rfl (Or.inl rfl)) (pgs_cons (pg_name (i := 3) scIsPlan.nd rfl (Or.inl rfl)) pgs_nil)))
        (pss_cons (ps_set (i := 4) scIsPlan.nd rfl (Or.inl rfl) (pe_ifExp (pt_cmpR op_isN (pv 3) pe_non (nomark _)) pe_int (pe_op op_add (pe_ix ix_tup (pv 1) (pv 3) (fun _ _ => rfl)) pe_int)))
        (pss_one (ps_if (pt_not (pt_val (pe_call GB hr (by rfl) gB kB bB .nil pass0 (pa_cons (pe_ix ix_tup (pv 1) (pv 2) (fun _ _ => rfl)) (pa_cons pe_int (pa_cons (pv 4) pa_nil)))))) (pss_one ps_never) pss_nil))))
      (pss_one (ps_ret pe_bl))), ?_⟩
    refine ⟨_, rfl, _, .ty "tuple", _, _, true, rfl, .ty _, tupTy hb, kit_ty (by decide +kernel), true, rfl, ?_⟩
    refine ifF (by decide) ?_
    refine ⟨_, rfl, b, _, rfl, .inr (tnL hb), _, rfl, a, C, dx, _, _, rfl, h0, T.cl, T.nP, fP, ap, _, rfl, .inr (tpL h1), rfl, _, rfl, ?_⟩
    refine ifF (by rw [List.length_map, List.length_map, hv.1, decide_eq_true rfl]; decide) ?_
    refine ⟨_, rfl, a, C, dx, _, _, rfl, h0, T.cl, T.nP, fP, ap, _, rfl, tpL h1, ?_⟩
    refine for_it (walk_enumT (xs := fo.ps.map vp)) (fun _ σ H' => Same H H' ∧ ∃ t2 t3 t4, σ = [some (.ref a), some (.ref b), t2, t3, t4]) ⟨Same.refl _, _, _, _, rfl⟩ (fun i σ H' _ z => tpL (z.1 _ _ h1)) ?_ ?_
    · rintro i x σ H' H2 hi ⟨sm, t2, t3, t4, rfl⟩ ⟨T1, x1, y1, rfl, nT, rfl, e1, e2⟩
      cases e1
      obtain ⟨q, hq, rfl⟩ := vp_get (i := i) e2
      refine ⟨T1, _, rfl, .inl (.inl upd_same), rfl, _, _, rfl, _, _, rfl, rfl, ?_⟩
      have sm2 := sm.trans (smUpd (o := .tup [.int (i : Nat), vp q]) nT)
      generalize upd H' T1 (.tup [.int (i : Nat), vp q]) = H2 at sm2 ⊢
      have hb2 := sm2 _ _ hb
      have hil : i < lv.length := by rw [hv.1]; exact (List.getElem?_eq_some_iff.mp hq).1
      have hl := getD_at hil
      have hlv := hv.2 i _ q hl hq
      refine ⟨_, rfl, rfl, _, rfl, ?_⟩
      cases q with
      | none =>
        refine ifT (by decide) ?_
        refine ⟨_, rfl, _, rfl, b, _, (i : Int), _, rfl, rfl, tnL hb2, vn_ix hl, _, rfl, _, _, _, rfl, _, rfl, ?_⟩
        have e : mostLv lv none = 1 := rfl
        refine ifF (by rw [decide_eq_true (by omega)]; decide) ?_
        exact ⟨sm2, _, _, _, rfl⟩
      | some p =>
        refine ifF (by rw [vp_ne]; decide) ?_
        have hpl : p < lv.length := Nat.lt_trans (hp i p hq) hil
        refine ⟨_, rfl, _, rfl, b, _, (p : Int), _, rfl, rfl, tnL hb2, vn_ix (getD_at hpl), _, _, rfl, rfl, ?_⟩
        refine ⟨_, rfl, _, rfl, b, _, (i : Int), _, rfl, rfl, tnL hb2, vn_ix hl, _, rfl, _, _, _, rfl, _, rfl, ?_⟩
        have e : mostLv lv (some p) = lv.getD p 0 + 1 := rfl
        refine ifF (by rw [decide_eq_true (by omega)]; decide) ?_
        exact ⟨sm2, _, _, _, rfl⟩
    · rintro σ H' ⟨sm, _⟩
      exact k _ sm
end
end Cn
namespace Cn
open PySem PySem.Spec PyProof.Rows L2 Ck
theorem smOver {H1 H4 : Hp} {D : Addr} {o : HO} (nD : H1 D = none) (sm : Same H1 H4) : Same H1 (upd H4 D o) := fun b u e => by
  have nb : b ≠ D := fun z => by rw [z, nD] at e; cases e
  rw [upd_ne nb]
  exact sm b u e
end Cn
namespace Cn
open PySem PySem.Spec PyProof.Rows L2 Ck
def dPar (ps : List (Option Nat)) : List PyData := ps.map fun q => match q with | none => PyData.none | some n => PyData.int ((n : Nat) : Int)
theorem dpPar {K : PySem.W.Frag} {H : Hp} : ∀ ps : List (Option Nat), DpAll K H (ps.map vp) (dPar ps)
  | [] => .nil
  | none :: ps => .cons .non (dpPar ps)
  | some n :: ps => .cons (.int _) (dpPar ps)
theorem dParLay : ∀ ps : List (Option Nat), PyData.canLayAll0 (dPar ps) = true
  | [] => rfl
  | none :: ps => by
    show (PyData.canLay0 .none && PyData.canLayAll0 (dPar ps)) = true
    rw [dParLay ps]; rfl
  | some n :: ps => by
    show (PyData.canLay0 (.int _) && PyData.canLayAll0 (dPar ps)) = true
    rw [dParLay ps]; rfl
theorem dParDepth : ∀ ps : List (Option Nat), PyData.depthAll (dPar ps) = 0
  | [] => rfl
  | none :: ps => by
    show max (PyData.depth .none) (PyData.depthAll (dPar ps)) = 0
    rw [dParDepth ps]; rfl
  | some n :: ps => by
    show max (PyData.depth (.int _)) (PyData.depthAll (dPar ps)) = 0
    rw [dParDepth ps]; rfl
theorem dParSh (ps : List (Option Nat)) : SeqAt.shaped (.tuple (dPar ps)) = true := by
  show (PyData.canLayAll0 (dPar ps) && decide (PyData.depthAll (dPar ps) + 1 ≤ 64)) = true
  rw [dParLay, dParDepth]; rfl
theorem dParEq : ∀ {ps qs : List (Option Nat)}, PyData.eqvAll (dPar ps) (dPar qs) = true → ps = qs
  | [], [], _ => rfl
  | [], q :: qs, h => by cases q <;> simp [dPar, PyData.eqvAll] at h
  | p :: ps, [], h => by cases p <;> simp [dPar, PyData.eqvAll] at h
  | none :: ps, none :: qs, h => by
    have h2 : PyData.eqvAll (dPar ps) (dPar qs) = true := by
      have h1 : PyData.eqvAll (PyData.none :: dPar ps) (PyData.none :: dPar qs) = true := h
      simp only [PyData.eqvAll, Bool.and_eq_true] at h1
      exact h1.2
    rw [dParEq h2]
  | some p :: ps, some q :: qs, h => by
    have h1 : PyData.eqvAll (PyData.int ((p : Nat) : Int) :: dPar ps) (PyData.int ((q : Nat) : Int) :: dPar qs) = true := h
    simp only [PyData.eqvAll, PyData.eqv, Bool.and_eq_true, beq_iff_eq] at h1
    rw [dParEq h1.2, show p = q from by omega]
  | none :: ps, some q :: qs, h => by
    have h1 : PyData.eqvAll (PyData.none :: dPar ps) (PyData.int ((q : Nat) : Int) :: dPar qs) = true := h
    simp [PyData.eqvAll, PyData.eqv] at h1
  | some p :: ps, none :: qs, h => by
    have h1 : PyData.eqvAll (PyData.int ((p : Nat) : Int) :: dPar ps) (PyData.none :: dPar qs) = true := h
    simp [PyData.eqvAll, PyData.eqv] at h1
theorem dParEqT {ps qs : List (Option Nat)} (h : PyData.eqv (.tuple (dPar ps)) (.tuple (dPar qs)) = true) : ps = qs := dParEq (by simpa only [PyData.eqv] using h)
end Cn
namespace Cn
open PySem PySem.Spec PyProof.Rows L2 Ck
def rLenQ (K : PySem.W.Frag) : List V → Hp → VK → Prop := fun xs H Q => ∃ p ys, xs = [.ref p] ∧ (SqL K H p ys ∨ SqT K H p ys) ∧ Q (.int ys.length) H
theorem len_q {X : Cx} : CallR X (.builtin "len") (rLenQ X.K) := call_len_seq
/-- either a list or a tuple, in slot i -/
def iSeq (K : PySem.W.Frag) (i : Nat) : TI := fun σ H R => iList K (tVar i) σ H R ∨ iTup K (tVar i) σ H R
theorem lenZero {n : Nat} : decide (V.int (n : Int) = V.int 0) = decide (n = 0) := by
  rw [Bool.eq_iff_iff, decide_eq_true_iff, decide_eq_true_iff]
  exact ⟨fun z => by have := V.int.inj z; omega, fun z => by rw [z]; rfl⟩
end Cn
namespace Cn
open PySem PySem.Spec PyProof.Rows L2 Ck
/-- a list of tuples of numbers -/
def Rows (H : Hp) (g : Nat → List Nat) (n : Nat) (us : List V) : Prop := us.length = n ∧ ∀ i, i < n → ∃ t, us[i]? = some (.ref t) ∧ TN H t (g i)
theorem rows0 {H : Hp} {g : Nat → List Nat} : Rows H g 0 [] := ⟨rfl, fun i h => absurd h (Nat.not_lt_zero _)⟩
theorem rowsSame {H H' : Hp} {g : Nat → List Nat} {n : Nat} {us : List V} (s : Same H H') (h : Rows H g n us) : Rows H' g n us := ⟨h.1, fun i hi => by
  obtain ⟨t, e, ht⟩ := h.2 i hi
  exact ⟨t, e, s _ _ ht⟩⟩
theorem rowsAdd {H : Hp} {g : Nat → List Nat} {n : Nat} {us : List V} {t : Addr} (h : Rows H g n us) (ht : TN H t (g n)) : Rows H g (n + 1) (us ++ [.ref t]) := by
  refine ⟨by rw [List.length_append, h.1]; rfl, fun i hi => ?_⟩
  by_cases e : i < n
  · obtain ⟨t', e', ht'⟩ := h.2 i e
    exact ⟨t', by rw [List.getElem?_append_left (by rw [h.1]; exact e)]; exact e', ht'⟩
  · have : i = n := by omega
    subst this
    exact ⟨t, by rw [List.getElem?_append_right (by rw [h.1]; exact Nat.le_refl _), h.1, Nat.sub_self]; rfl, ht⟩
/-- what is written at D, elsewhere nothing -/
theorem rowsUpd {H0 H' : Hp} {g : Nat → List Nat} {n : Nat} {us : List V} {D : Addr} {o : HO} {xs : List V} (h : Rows H' g n us) (hD : H' D = some (.lst xs)) : Rows (upd H' D o) g n us := ⟨h.1, fun i hi => by
  obtain ⟨t, e, ht⟩ := h.2 i hi
  have ne : t ≠ D := fun z => by
    have ht : H' t = _ := ht
    rw [z, hD] at ht; cases ht
  refine ⟨t, e, ?_⟩
  show upd H' D o t = _
  rw [upd_ne ne]; exact ht⟩
theorem lvLe {ps : List (Option Nat)} {lv : List Nat} (hp : Ps ps) (hv : Lv ps lv) : ∀ i, i < ps.length → lv.getD i 0 ≤ i + 1 := by
  intro i
  induction i using Nat.strongRecOn with
  | ind i ih =>
    intro hi
    have hil : i < lv.length := by rw [hv.1]; exact hi
    rcases opt_cases hi with h | ⟨p, h⟩
    · have h2 := hv.2 i _ _ (getD_at hil) h
      have e : mostLv lv none = 1 := rfl
      omega
    · have h2 := hv.2 i _ _ (getD_at hil) h
      have e : mostLv lv (some p) = lv.getD p 0 + 1 := rfl
      have hl := hp i p h
      have := ih p hl (Nat.lt_trans hl hi)
      omega
theorem stkLe {ps : List (Option Nat)} {lv : List Nat} {i : Nat} (hp : Ps ps) (hv : Lv ps lv) (hl : ps.length ≤ 60) (hi : i < ps.length) : (stk ps lv i).length ≤ 60 := by
  rw [stk_len hp hv i hi]
  have := lvLe hp hv i hi
  omega
theorem tnAt {H : Hp} {a : Addr} {xs : List V} {ns : List Nat} (h : H a = some (.tup xs)) (e : xs = ns.map vn) : TN H a ns := by
  show H a = some (.tup (ns.map vn))
  rw [← e]; exact h
end Cn
namespace Cn
open PySem PySem.Spec PyProof.Rows L2 Ck
/-! a note, notes as the heap has them -/
def NoteR (H : Hp) (v : V) (p : List Nat × List Nat) : Prop := ∃ t x y, v = .ref t ∧ H t = some (.tup [.ref x, .ref y]) ∧ TN H x p.1 ∧ TN H y p.2
theorem noteSame {H H' : Hp} (s : Same H H') {v : V} {p : List Nat × List Nat} (h : NoteR H v p) : NoteR H' v p := by
  obtain ⟨t, x, y, e, h1, h2, h3⟩ := h
  exact ⟨t, x, y, e, s _ _ h1, s _ _ h2, s _ _ h3⟩
def NotesR (H : Hp) (us : List V) (ps : List (List Nat × List Nat)) : Prop := Paired (NoteR H) us ps
theorem notesSame {H H' : Hp} (s : Same H H') {us : List V} {ps : List (List Nat × List Nat)} (h : NotesR H us ps) : NotesR H' us ps := Paired.mapP h fun _ _ z => noteSame s z
theorem notesUpd {H' : Hp} {D : Addr} {o : HO} {xs us : List V} {ps : List (List Nat × List Nat)} (hD : H' D = some (.lst xs)) (h : NotesR H' us ps) : NotesR (upd H' D o) us ps := Paired.mapP h fun v p z => by
  obtain ⟨t, x, y, e, h1, h2, h3⟩ := z
  have ne : ∀ {a : Addr} {ys : List V}, H' a = some (.tup ys) → upd H' D o a = some (.tup ys) := fun {a ys} e2 => by
    have q : a ≠ D := fun z => by rw [z, hD] at e2; cases e2
    rw [upd_ne q]; exact e2
  exact ⟨t, x, y, e, ne h1, ne h2, ne h3⟩
theorem paired_snoc {α β : Type} {F : α → β → Prop} : ∀ {xs : List α} {ys : List β} {x : α} {y : β}, Paired F xs ys → F x y → Paired F (xs ++ [x]) (ys ++ [y])
  | _, _, _, _, .nil, h => .cons h .nil
  | _, _, _, _, .cons a t, h => .cons a (paired_snoc t h)
end Cn
namespace Cn
open PySem PySem.Spec PyProof.Rows L2 Ck
theorem slS {K : PySem.W.Frag} {H : Hp} {a : Addr} {xs : List V} {lo hi : Option Int} {Q : VK} (ha : SqT K H a xs) (k : ∀ b H', Same H H' → SqT K H' b (cutV xs lo hi) → Q (.ref b) H') : rSlA K (.ref a) lo hi H Q :=
  ⟨a, xs, rfl, ha, fun h => k a H (Same.refl _) (by rw [cutWhole h]; exact ha), fun _ p np => k p _ (smUpd np) (.inl (.inl upd_same))⟩
theorem slSN {K : PySem.W.Frag} {σ : L2.St} {H : Hp} {a : Addr} {xs : List V} {lo : Option Int} {Q : VK} (ha : SqT K H a xs) (k : ∀ b H', Same H H' → SqT K H' b (cutV xs lo none) → Q (.ref b) H') : tNoPart σ H (fun u H3 => rSlA K (.ref a) lo u H3 Q) := slS (hi := none) ha k
theorem cutInit (xs : List V) : cutV xs none (some (-1)) = xs.dropLast := by
  unfold cutV
  rw [HT.sIx_none]
  show (xs.drop 0).take (HT.sIx xs.length xs.length (some (-1)) - 0) = xs.dropLast
  have e : HT.sIx xs.length xs.length (some (-1)) = xs.length - 1 := by
    show (if (-1 : Int) < 0 then ((-1 : Int) + (xs.length : Int)).toNat else min (-1 : Int).toNat xs.length) = xs.length - 1
    rw [if_pos (by decide)]
    omega
  rw [e, List.drop_zero, Nat.sub_zero, List.dropLast_eq_take]
/-! the notes of a plan -/
def heldAt (ps : List (Option Nat)) (lv : List Nat) (i : Nat) : List Nat :=
  match (stk ps lv i).dropLast.getLast? with
  | none => road ps i
  | some x => (road ps i).drop ((road ps i).idxOf x + 1)
def noteAt (ps : List (Option Nat)) (be as lv : List Nat) (i : Nat) : List Nat × List Nat :=
  ((heldAt ps lv i).filter fun x => decide (x ∈ be), as.filter fun j => decide (i ∈ stk ps lv j))
def notesOf (ps : List (Option Nat)) (be as lv : List Nat) (n : Nat) : List (List Nat × List Nat) :=
  ((List.range n).map (noteAt ps be as lv)).filter fun p => !p.1.isEmpty && !p.2.isEmpty
theorem takeLe {α : Type} (xs : List α) (m : Nat) : (xs.take m).length ≤ xs.length := by rw [List.length_take]; omega
theorem heldLen {f : Fo} {lv : List Nat} {i : Nat} (ok : FoOk f) (hi : i < f.ps.length) : (heldAt f.ps lv i).length ≤ 1000 := by
  have h1 := road_len ok.ps i hi
  have h2 := ok.l1
  unfold heldAt
  split
  · omega
  · rw [List.length_drop]; omega
theorem lastDrop {xs : List Nat} (h : xs ≠ []) : xs.getLast? = some (xs.getLast h) := List.getLast?_eq_some_getLast h
end Cn
namespace Cn
open PySem PySem.Spec PyProof.Rows L2 Ck
theorem pairedGet {α β : Type} {F : α → β → Prop} : ∀ {xs : List α} {ys : List β} {i : Nat} {x : α}, Paired F xs ys → xs[i]? = some x → ∃ y, ys[i]? = some y ∧ F x y
  | _, _, i, x, .nil, h => by rw [List.getElem?_nil] at h; cases h
  | _, _, 0, x, .cons a t, h => by cases h; exact ⟨_, rfl, a⟩
  | _, _, i + 1, x, .cons a t, h => by
    rw [List.getElem?_cons_succ] at h
    obtain ⟨y, h1, h2⟩ := pairedGet t h
    exact ⟨y, by rw [List.getElem?_cons_succ]; exact h1, h2⟩
def kept2 (p : List Nat × List Nat) : Bool := !p.1.isEmpty && !p.2.isEmpty
theorem vnEmpty (ns : List Nat) : (ns.map vn).isEmpty = ns.isEmpty := by cases ns <;> rfl
theorem noteUpdN {H' : Hp} {D : Addr} {o : HO} (hD : ∀ ys, H' D ≠ some (.tup ys)) {v : V} {p : List Nat × List Nat} (h : NoteR H' v p) : NoteR (upd H' D o) v p := by
  obtain ⟨t, x, y, e, h1, h2, h3⟩ := h
  have ne : ∀ {a : Addr} {ys : List V}, H' a = some (.tup ys) → upd H' D o a = some (.tup ys) := fun {a ys} e2 => by
    have q : a ≠ D := fun z => hD ys (by rw [← z]; exact e2)
    rw [upd_ne q]
    exact e2
  exact ⟨t, x, y, e, ne h1, ne h2, ne h3⟩
end Cn
namespace Cn
open PySem PySem.Spec PyProof.Rows L2 Ck
section
variable {P : Program} {w : World} {K : PySem.W.Frag} {mg : Str → Option Value} {base : Heap} {C : Addr}
def spStacks (C : Addr) : Sp := fun vs H Q _ => ∃ (a b : Addr) (f : Fo) (lv : List Nat), vs = [.ref a, .ref b] ∧ FoAt C H a f ∧ TN H b lv ∧ Ps f.ps ∧ f.ps.length ≤ 60 ∧ Lv f.ps lv ∧
  ∀ r us H', Same H H' → H' r = some (.lst us) → Rows H' (stk f.ps lv) f.ps.length us → Q (.ref r) H'
def nStacks : List Str := ["forest", "plan", "found", "place", "parent", "above"]
theorem scStacks : FnScope nStacks ["forest", "plan"] (defScope sStacks) := ⟨rfl, rfl, rfl, by decide +kernel, rfl, by decide +kernel, by decide +kernel⟩
theorem dStacks (B : Defs K mg C) : Def P w K mg base "_stacks" 1 ["forest", "plan"] (spStacks C) := by
  have N := B.N
  have T := B.T
  refine def_of B.ss fun f fd F => ?_
  refine F.ok scStacks (fun vs H Q E h => ?_) (fun cdv A outer s H vs Q E hr h => ?_)
  · obtain ⟨a, b, f, lv, rfl, _⟩ := h
    rfl
  · obtain ⟨a, b, fo, lv, rfl, hF, hb, hp, hl, hv, k⟩ := h
    refine ⟨_, pss_cons (ps_set (i := 2) scStacks.nd rfl (Or.inl rfl) (pe_lst pa_nil))
      (pss_cons (ps_for PassesOwn.never rfl (pi_enumT (by rfl) N.enum (pa_cons (pe_fld (pv 0) rfl) pa_nil)) (pg_tup rfl (pgs_cons (pg_name (i := 3) scStacks.nd rfl (Or.inl rfl)) (pgs_cons (pg_name (i := 4) scStacks.nd rfl (Or.inl rfl)) pgs_nil)))
        (pss_cons (ps_set (i := 5) scStacks.nd rfl (Or.inl rfl) (pe_ifExp (pt_cmpR op_isN (pv 4) pe_non (nomark _)) (pe_tup pa_nil) (pe_ix ix_list (pv 2) (pv 4) (fun _ _ => rfl))))
        (pss_one (ps_expr (pe_bm PySem.F.plainAttrs_list PySem.F.slot_list_append PySem.F.type_list_append mt_append (pv 2) (pa_cons (pe_op op_catA (pe_slice sl_tupA (pv 5) po_none (po_some (pe_op op_sub (pe_ix ix_tup (pv 1) (pv 3) (fun _ _ => rfl)) pe_int))) (pe_tup (pa_cons (pv 3) pa_nil))) pa_nil))))))
      (pss_one (ps_ret (pv 2)))), ?_⟩
    refine ⟨by show 0 ≤ sizeLine; decide, fun D nD => ?_⟩
    have S1 := smUpd (o := .lst []) nD
    obtain ⟨dx, ap, ab, aa, h0, h1, h2, h3⟩ := hF
    refine ⟨_, rfl, a, C, dx, _, _, rfl, S1 _ _ h0, T.cl, T.nP, fP, ap, _, rfl, tpL (S1 _ _ h1), ?_⟩
    refine for_it (walk_enumT (xs := fo.ps.map vp)) (fun i σ H' => Same H H' ∧ ∃ (us : List V) (t3 t4 t5 : Option V), σ = [some (.ref a), some (.ref b), some (.ref D), t3, t4, t5] ∧ H' D = some (.lst us) ∧ Rows H' (stk fo.ps lv) i us) ⟨S1, [], _, _, _, rfl, upd_same, rows0⟩ (fun i σ H' _ z => tpL (z.1 _ _ h1)) ?_ ?_
    · rintro i x σ H' H2 hi ⟨sm, us, t3, t4, t5, rfl, hD, hR⟩ ⟨T1, x1, y1, rfl, nT, rfl, e1, e2⟩
      cases e1
      obtain ⟨q, hq, rfl⟩ := vp_get (i := i) e2
      rw [List.length_map] at hi
      refine ⟨T1, _, rfl, .inl (.inl upd_same), rfl, _, _, rfl, _, _, rfl, rfl, ?_⟩
      have S2 := smUpd (o := .tup [.int (i : Nat), vp q]) nT
      have sm2 := sm.trans S2
      have hD2 := S2 _ _ hD
      have hR2 := rowsSame S2 hR
      generalize upd H' T1 (.tup [.int (i : Nat), vp q]) = H2 at sm2 hD2 hR2 ⊢
      have hil : i < lv.length := by rw [hv.1]; exact hi
      have hlv := hv.2 i _ q (getD_at hil) hq
      refine ⟨_, rfl, rfl, _, rfl, ?_⟩
      cases q with
      | none =>
        refine ifT (by decide) ?_
        refine ⟨by show 0 ≤ sizeLine; decide, fun t nt => ?_⟩
        have s3 := smUpd (o := .tup []) nt
        have ht : TN (upd H2 t (.tup [])) t [] := upd_same
        generalize upd H2 t (.tup []) = H3 at s3 ht ⊢
        have hz : ([] : List Nat).take (lv.getD i 0 - 1) ++ [i] = stk fo.ps lv i := by rw [stk_none hq, List.take_nil]; rfl
        have hzl : ([] : List Nat).length ≤ 60 := Nat.zero_le _
        have hD3 := s3 _ _ hD2
        have hb3 : TN H3 b lv := s3 _ _ (sm2 _ _ hb)
        refine ⟨_, rfl, .inl ⟨rfl, _, .inl (.inl hD3)⟩, _, rfl, _, rfl, _, rfl, b, _, (i : Int), _, rfl, rfl, tnL hb3, vn_ix (getD_at hil), _, _, rfl, rfl, _, rfl, ?_⟩
        refine slA ht fun c H4 s4 hc => ?_
        have e1 : ((lv.getD i 0 : Nat) : Int) - 1 = ((lv.getD i 0 - 1 : Nat) : Int) := by omega
        rw [e1, cutTake] at hc
        refine ⟨_, rfl, by show 1 ≤ sizeLine; decide, fun t2 n2 => ?_⟩
        have S5 := smUpd (o := .tup [vn i]) n2
        refine catA (S5 _ _ hc) upd_same (by rw [List.length_take, List.length_map]; show min _ _ + 1 ≤ 1000; omega) fun e H6 s6 he => ?_
        have s26 := s3.trans (s4.trans (S5.trans s6))
        have hD6 := s26 _ _ hD2
        refine ⟨D, us, _, rfl, rfl, hD6, by rw [hR2.1]; exact small1000 (by omega), ?_⟩
        have he2 : TN H6 e (stk fo.ps lv i) := tnAt he (by rw [← hz, List.map_append, List.map_take]; rfl)
        exact ⟨smOver nD (sm2.trans s26), _, _, _, _, rfl, upd_same, rowsUpd (H0 := H) (rowsAdd (rowsSame s26 hR2) he2) hD6⟩
      | some p =>
        refine ifF (by rw [vp_ne]; decide) ?_
        obtain ⟨t, hut, ht⟩ := hR2.2 p (hp i p hq)
        have s3 := Same.refl H2
        refine ⟨_, rfl, _, rfl, D, us, (p : Int), _, rfl, rfl, .inl (.inl hD2), atI_nat hut, ?_⟩
        have hz : (stk fo.ps lv p).take (lv.getD i 0 - 1) ++ [i] = stk fo.ps lv i := (stk_some hp hq).symm
        have hpl : p < fo.ps.length := Nat.lt_trans (hp i p hq) hi
        have hzl : (stk fo.ps lv p).length ≤ 60 := stkLe hp hv hl hpl
        have hD3 := s3 _ _ hD2
        have hb3 : TN H2 b lv := s3 _ _ (sm2 _ _ hb)
        refine ⟨_, rfl, .inl ⟨rfl, _, .inl (.inl hD3)⟩, _, rfl, _, rfl, _, rfl, b, _, (i : Int), _, rfl, rfl, tnL hb3, vn_ix (getD_at hil), _, _, rfl, rfl, _, rfl, ?_⟩
        refine slA ht fun c H4 s4 hc => ?_
        have e1 : ((lv.getD i 0 : Nat) : Int) - 1 = ((lv.getD i 0 - 1 : Nat) : Int) := by omega
        rw [e1, cutTake] at hc
        refine ⟨_, rfl, by show 1 ≤ sizeLine; decide, fun t2 n2 => ?_⟩
        have S5 := smUpd (o := .tup [vn i]) n2
        refine catA (S5 _ _ hc) upd_same (by rw [List.length_take, List.length_map]; show min _ _ + 1 ≤ 1000; omega) fun e H6 s6 he => ?_
        have s26 := s3.trans (s4.trans (S5.trans s6))
        have hD6 := s26 _ _ hD2
        refine ⟨D, us, _, rfl, rfl, hD6, by rw [hR2.1]; exact small1000 (by omega), ?_⟩
        have he2 : TN H6 e (stk fo.ps lv i) := tnAt he (by rw [← hz, List.map_append, List.map_take]; rfl)
        exact ⟨smOver nD (sm2.trans s26), _, _, _, _, rfl, upd_same, rowsUpd (H0 := H) (rowsAdd (rowsSame s26 hR2) he2) hD6⟩
    · rintro σ H' ⟨sm, us, t3, t4, t5, rfl, hD, hR⟩
      rw [List.length_map] at hR
      exact ⟨_, rfl, k D us H' sm hD hR⟩
end
end Cn
namespace Cn
open PySem PySem.Spec PyProof.Rows L2 Ck
section
variable {P : Program} {w : World} {K : PySem.W.Frag} {mg : Str → Option Value} {base : Heap} {C : Addr}
/-! _note_at -/
def spNoteAt (C : Addr) : Sp := fun vs H Q _ => ∃ (a r : Addr) (f : Fo) (lv : List Nat) (us : List V) (i : Nat), vs = [.ref a, .ref r, vn i] ∧ FoAt C H a f ∧ FoOk f ∧ Lv f.ps lv ∧ H r = some (.lst us) ∧ Rows H (stk f.ps lv) f.ps.length us ∧ i < f.ps.length ∧
  ∀ v H', Same H H' → NoteR H' v (noteAt f.ps f.be f.as lv i) → Q v H'
def nNoteAt : List Str := ["forest", "found", "place", "held", "ahead", "places", "asks", "i", "j"]
theorem scNoteAt : FnScope nNoteAt ["forest", "found", "place"] (defScope sNoteAt) := ⟨rfl, rfl, rfl, by decide +kernel, rfl, by decide +kernel, by decide +kernel⟩
theorem dNoteAt (B : Defs K mg C) : Def P w K mg base "_note_at" 5 ["forest", "found", "place"] (spNoteAt C) := by
  obtain ⟨fW, fdW, GW, gW, kW, bW⟩ := dWay (P := P) (w := w) (base := base) B
  have N := B.N
  have T := B.T
  refine def_of B.na fun f fd F => ?_
  refine F.ok scNoteAt (fun vs H Q E h => ?_) (fun cdv A outer s H vs Q E hr h => ?_)
  · obtain ⟨a, r, f, lv, us, i, rfl, _⟩ := h
    rfl
  · obtain ⟨a, r, fo, lv, us, i, rfl, hF, ok, hv, hr0, hR, hi, k⟩ := h
    refine ⟨_, pss_cons (ps_set (i := 3) scNoteAt.nd rfl (Or.inl rfl) (pe_call GW hr (by rfl) gW kW bW .nil pass0 (pa_cons (pv 0) (pa_cons (pv 2) pa_nil))))
      (pss_cons (ps_set (i := 4) scNoteAt.nd rfl (Or.inl rfl) (pe_slice sl_tupA (pe_ix ix_list (pv 1) (pv 2) (fun _ _ => rfl)) po_none (po_some (pe_un un_neg pe_int))))
      (pss_cons (ps_if (pt_truth (pv 4) (by intro _; rfl)) (pss_one (ps_set (i := 3) scNoteAt.nd rfl (Or.inl rfl) (pe_slice sl_tupA (pv 3) (po_some (pe_op op_add (pe_bt PySem.F.slot_tuple_index PySem.F.type_tuple_index mt_tidx (pv 3) (pa_cons (pe_ix ix_tup (pv 4) (pe_un un_neg pe_int) (fun _ _ => rfl)) pa_nil)) pe_int)) po_none))) pss_nil)
      (pss_cons (ps_set (i := 5) scNoteAt.nd rfl (Or.inl rfl) (pe_callTy call_tuple_of (by rfl) N.is.tup (by decide +kernel) (pa_cons (pe_lc (own := [("i", 7)]) (g := gName 7) (tt := tTest (tOp (rIn K false) (tVar 7) (tFld K (tVar 0) "bearing"))) rfl scNoteAt.nd (pi_tup (pv 3))
        (blkOk_by (N := nNoteAt) (sc := defScope sNoteAt) (by decide +kernel)) (fun _ _ _ _ _ => pg_name (i := 7) scNoteAt.nd rfl (Or.inl rfl)) (fun _ _ _ _ _ => pts_one (pt_cmpR op_in_seq (pv 7) (pe_fld (pv 0) rfl) (by rfl))) (fun _ _ _ _ _ => pv 7)) pa_nil)))
      (pss_cons (ps_set (i := 6) scNoteAt.nd rfl (Or.inl rfl) (pe_callTy call_tuple_of (by rfl) N.is.tup (by decide +kernel) (pa_cons (pe_lc (own := [("j", 8)]) (g := gName 8) (tt := tTest (tOp (rIn K false) (tVar 2) (tOp (rIxL K) (tVar 1) (tVar 8)))) rfl scNoteAt.nd (pi_tup (pe_fld (pv 0) rfl))
        (blkOk_by (N := nNoteAt) (sc := defScope sNoteAt) (by decide +kernel)) (fun _ _ _ _ _ => pg_name (i := 8) scNoteAt.nd rfl (Or.inl rfl)) (fun _ _ _ _ _ => pts_one (pt_cmpR op_in_seq (pv 2) (pe_ix (r := rIxL K) ix_list (pv 1) (pv 8) (fun _ _ => rfl)) (by rfl))) (fun _ _ _ _ _ => pv 8)) pa_nil)))
      (pss_one (ps_ret (pe_tup (pa_cons (pv 5) (pa_cons (pv 6) pa_nil))))))))), ?_⟩
    refine ⟨_, rfl, _, rfl, a, fo, i, rfl, hF, ok.ps, ok.l1, hi, fun h H1 s1 hh => ?_⟩
    obtain ⟨t, hut, ht⟩ := (rowsSame s1 hR).2 i hi
    refine ⟨_, rfl, _, rfl, r, us, (i : Int), _, rfl, rfl, .inl (.inl (s1 _ _ hr0)), atI_nat hut, _, rfl, _, rfl, ?_⟩
    refine slS (tnL ht) fun b2 H2 s2 hc => ?_
    have hc : SqT K H2 b2 ((stk fo.ps lv i).dropLast.map vn) := by rw [List.map_dropLast, ← cutInit]; exact hc
    refine ⟨_, rfl, _, .inr (.inl ⟨_, hc, rfl⟩), ?_⟩
    have hh2 : TDn H2 h (road fo.ps i) := tdSame s2 hh
    by_cases hne : (stk fo.ps lv i).dropLast = []
    · refine ifF (by rw [hne]; decide) ?_
      have hheld : heldAt fo.ps lv i = road fo.ps i := by unfold heldAt; rw [hne]; rfl
      have hq : SqT K H2 h ((heldAt fo.ps lv i).map vn) := by rw [hheld]; exact tdL hh2
      have S := s1.trans s2
      refine ⟨_, rfl, h, rfl, ⟨_, hq⟩, fun D nD => ?_⟩
      refine lc_tup (xs := (heldAt fo.ps lv i).map vn) (fun m H' => Same H2 H' ∧ H' D = some (.lst ((((heldAt fo.ps lv i).take m).filter fun x => decide (x ∈ fo.be)).map vn))) ⟨smUpd nD, upd_same⟩ (fun m H' _ z => sameT z.1 hq) ?_ ?_
      · rintro m x H' hx ⟨sm, hD⟩
        obtain ⟨n, hn, rfl⟩ := vn_get hx
        obtain ⟨dx, ap, ab, aa, h0, h1, h2, h3⟩ := foAt_same (S.trans sm) hF
        refine ⟨rfl, _, rfl, _, rfl, a, C, dx, _, _, rfl, h0, T.cl, T.nB, fB, ab, _, rfl, .inr (tnL h2), rfl, vn_flat _, _, rfl, ?_⟩
        have et : (heldAt fo.ps lv i).take (m + 1) = (heldAt fo.ps lv i).take m ++ [n] := by rw [List.take_add_one, hn]; rfl
        by_cases c : n ∈ fo.be
        · refine ifT (by show inV (vn n) (fo.be.map vn) = true; rw [inV_vn]; exact decide_eq_true c) ?_
          refine ⟨_, rfl, _, hD, small1000 (by rw [List.length_map]; exact Nat.le_trans (List.length_filter_le _ _) (Nat.le_trans (takeLe _ _) (heldLen ok hi))), smOver nD sm, ?_⟩
          rw [upd_same, et, List.filter_append, List.map_append, List.filter_cons_of_pos (by simpa using c)]
          rfl
        · refine ifF (by show ¬ inV (vn n) (fo.be.map vn) = true; rw [inV_vn]; simpa using c) ?_
          refine ⟨sm, ?_⟩
          rw [et, List.filter_append, List.filter_cons_of_neg (by simpa using c)]
          show _ = some (HO.lst ((_ ++ []).map vn))
          rw [List.append_nil]
          exact hD
      · rintro H5 ⟨sm5, hD5⟩
        rw [List.length_map, List.take_length] at hD5
        refine ⟨D, _, rfl, .inl ⟨.inl (.inl hD5), fun q nq => ?_⟩⟩
        have S6 := (S.trans sm5).trans (smUpd (o := .tup (((heldAt fo.ps lv i).filter fun x => decide (x ∈ fo.be)).map vn)) nq)
        have hq6 : TN (upd H5 q (.tup (((heldAt fo.ps lv i).filter fun x => decide (x ∈ fo.be)).map vn))) q (noteAt fo.ps fo.be fo.as lv i).1 := upd_same
        generalize upd H5 q (.tup (((heldAt fo.ps lv i).filter fun x => decide (x ∈ fo.be)).map vn)) = H6 at S6 hq6 ⊢
        obtain ⟨dx, ap, ab, aa, h0, h1, h2, h3⟩ := foAt_same S6 hF
        refine ⟨_, rfl, a, C, dx, _, _, rfl, h0, T.cl, T.nA, fA, aa, rfl, ⟨_, tnL h3⟩, fun D2 nD2 => ?_⟩
        refine lc_tup (xs := fo.as.map vn) (fun m H' => Same H6 H' ∧ H' D2 = some (.lst (((fo.as.take m).filter fun j => decide (i ∈ stk fo.ps lv j)).map vn))) ⟨smUpd nD2, upd_same⟩ (fun m H' _ z => tnL (z.1 _ _ h3)) ?_ ?_
        · rintro m x H' hx ⟨sm, hD⟩
          obtain ⟨n, hn, rfl⟩ := vn_get hx
          have hnl := ok.al n (List.mem_of_getElem? hn)
          obtain ⟨t, hut, ht⟩ := (rowsSame (S6.trans sm) hR).2 n hnl
          refine ⟨rfl, _, rfl, _, rfl, _, rfl, r, us, (n : Int), _, rfl, rfl, .inl (.inl ((S6.trans sm) _ _ hr0)), atI_nat hut, t, _, rfl, .inr (tnL ht), rfl, vn_flat _, _, rfl, ?_⟩
          have et : fo.as.take (m + 1) = fo.as.take m ++ [n] := by rw [List.take_add_one, hn]; rfl
          by_cases c : i ∈ stk fo.ps lv n
          · refine ifT (by show inV (vn i) ((stk fo.ps lv n).map vn) = true; rw [inV_vn]; exact decide_eq_true c) ?_
            refine ⟨_, rfl, _, hD, small1000 (by rw [List.length_map]; exact Nat.le_trans (List.length_filter_le _ _) (Nat.le_trans (takeLe _ _) (by have := lotLen ok.as ok.al; have := ok.l1; omega))), smOver nD2 sm, ?_⟩
            rw [upd_same, et, List.filter_append, List.map_append, List.filter_cons_of_pos (by simpa using c)]
            rfl
          · refine ifF (by show ¬ inV (vn i) ((stk fo.ps lv n).map vn) = true; rw [inV_vn]; simpa using c) ?_
            refine ⟨sm, ?_⟩
            rw [et, List.filter_append, List.filter_cons_of_neg (by simpa using c)]
            show _ = some (HO.lst ((_ ++ []).map vn))
            rw [List.append_nil]
            exact hD
        · rintro H7 ⟨sm7, hD7⟩
          rw [List.length_map, List.take_length] at hD7
          refine ⟨D2, _, rfl, .inl ⟨.inl (.inl hD7), fun q2 nq2 => ?_⟩⟩
          have S8 := smUpd (o := .tup ((fo.as.filter fun j => decide (i ∈ stk fo.ps lv j)).map vn)) nq2
          refine ⟨_, rfl, _, rfl, by show 2 ≤ sizeLine; decide, fun t nt => ?_⟩
          have S9 := smUpd (o := .tup [.ref q, .ref q2]) nt
          exact k _ _ ((S6.trans sm7).trans (S8.trans S9)) ⟨t, q, q2, rfl, upd_same, S9 _ _ (S8 _ _ (sm7 _ _ hq6)), S9 _ _ upd_same⟩
    · have hem : ((stk fo.ps lv i).dropLast.map vn).isEmpty = false := by
        cases hz : (stk fo.ps lv i).dropLast with
        | nil => exact absurd hz hne
        | cons _ _ => rfl
      refine ifT (by rw [hem]; rfl) ?_
      have hx : (stk fo.ps lv i).dropLast.getLast hne ∈ road fo.ps i := stk_sub ok.ps i hi _ (List.dropLast_subset _ (List.getLast_mem hne))
      have hheld : heldAt fo.ps lv i = (road fo.ps i).drop ((road fo.ps i).idxOf ((stk fo.ps lv i).dropLast.getLast hne) + 1) := by unfold heldAt; rw [lastDrop hne]
      generalize hxx : (stk fo.ps lv i).dropLast.getLast hne = x at hx hheld
      obtain ⟨i1, i2⟩ := vn_idx hx
      refine ⟨_, rfl, _, rfl, ⟨h, _, rfl, hh2⟩, _, rfl, _, rfl, b2, _, (-1 : Int), _, rfl, rfl, hc, vn_last hne hxx, h, _, _, (road fo.ps i).idxOf x, _, rfl, rfl, tdL hh2, rfl, vn_flat _, i1, by rw [vn_inj]; exact decide_eq_true rfl, i2, _, _, rfl, rfl, _, rfl, ?_⟩
      refine slSN (tdL hh2) fun hb0 H4 s4 hq => ?_
      have e1 : (((road fo.ps i).idxOf x : Nat) : Int) + 1 = (((road fo.ps i).idxOf x + 1 : Nat) : Int) := by omega
      have hq : SqT K H4 hb0 ((heldAt fo.ps lv i).map vn) := by
        rw [hheld, List.map_drop, ← cutDrop, ← e1]
        exact hq
      have S := (s1.trans s2).trans s4
      refine ⟨_, rfl, hb0, rfl, ⟨_, hq⟩, fun D nD => ?_⟩
      refine lc_tup (xs := (heldAt fo.ps lv i).map vn) (fun m H' => Same H4 H' ∧ H' D = some (.lst ((((heldAt fo.ps lv i).take m).filter fun x => decide (x ∈ fo.be)).map vn))) ⟨smUpd nD, upd_same⟩ (fun m H' _ z => sameT z.1 hq) ?_ ?_
      · rintro m x H' hx ⟨sm, hD⟩
        obtain ⟨n, hn, rfl⟩ := vn_get hx
        obtain ⟨dx, ap, ab, aa, h0, h1, h2, h3⟩ := foAt_same (S.trans sm) hF
        refine ⟨rfl, _, rfl, _, rfl, a, C, dx, _, _, rfl, h0, T.cl, T.nB, fB, ab, _, rfl, .inr (tnL h2), rfl, vn_flat _, _, rfl, ?_⟩
        have et : (heldAt fo.ps lv i).take (m + 1) = (heldAt fo.ps lv i).take m ++ [n] := by rw [List.take_add_one, hn]; rfl
        by_cases c : n ∈ fo.be
        · refine ifT (by show inV (vn n) (fo.be.map vn) = true; rw [inV_vn]; exact decide_eq_true c) ?_
          refine ⟨_, rfl, _, hD, small1000 (by rw [List.length_map]; exact Nat.le_trans (List.length_filter_le _ _) (Nat.le_trans (takeLe _ _) (heldLen ok hi))), smOver nD sm, ?_⟩
          rw [upd_same, et, List.filter_append, List.map_append, List.filter_cons_of_pos (by simpa using c)]
          rfl
        · refine ifF (by show ¬ inV (vn n) (fo.be.map vn) = true; rw [inV_vn]; simpa using c) ?_
          refine ⟨sm, ?_⟩
          rw [et, List.filter_append, List.filter_cons_of_neg (by simpa using c)]
          show _ = some (HO.lst ((_ ++ []).map vn))
          rw [List.append_nil]
          exact hD
      · rintro H5 ⟨sm5, hD5⟩
        rw [List.length_map, List.take_length] at hD5
        refine ⟨D, _, rfl, .inl ⟨.inl (.inl hD5), fun q nq => ?_⟩⟩
        have S6 := (S.trans sm5).trans (smUpd (o := .tup (((heldAt fo.ps lv i).filter fun x => decide (x ∈ fo.be)).map vn)) nq)
        have hq6 : TN (upd H5 q (.tup (((heldAt fo.ps lv i).filter fun x => decide (x ∈ fo.be)).map vn))) q (noteAt fo.ps fo.be fo.as lv i).1 := upd_same
        generalize upd H5 q (.tup (((heldAt fo.ps lv i).filter fun x => decide (x ∈ fo.be)).map vn)) = H6 at S6 hq6 ⊢
        obtain ⟨dx, ap, ab, aa, h0, h1, h2, h3⟩ := foAt_same S6 hF
        refine ⟨_, rfl, a, C, dx, _, _, rfl, h0, T.cl, T.nA, fA, aa, rfl, ⟨_, tnL h3⟩, fun D2 nD2 => ?_⟩
        refine lc_tup (xs := fo.as.map vn) (fun m H' => Same H6 H' ∧ H' D2 = some (.lst (((fo.as.take m).filter fun j => decide (i ∈ stk fo.ps lv j)).map vn))) ⟨smUpd nD2, upd_same⟩ (fun m H' _ z => tnL (z.1 _ _ h3)) ?_ ?_
        · rintro m x H' hx ⟨sm, hD⟩
          obtain ⟨n, hn, rfl⟩ := vn_get hx
          have hnl := ok.al n (List.mem_of_getElem? hn)
          obtain ⟨t, hut, ht⟩ := (rowsSame (S6.trans sm) hR).2 n hnl
          refine ⟨rfl, _, rfl, _, rfl, _, rfl, r, us, (n : Int), _, rfl, rfl, .inl (.inl ((S6.trans sm) _ _ hr0)), atI_nat hut, t, _, rfl, .inr (tnL ht), rfl, vn_flat _, _, rfl, ?_⟩
          have et : fo.as.take (m + 1) = fo.as.take m ++ [n] := by rw [List.take_add_one, hn]; rfl
          by_cases c : i ∈ stk fo.ps lv n
          · refine ifT (by show inV (vn i) ((stk fo.ps lv n).map vn) = true; rw [inV_vn]; exact decide_eq_true c) ?_
            refine ⟨_, rfl, _, hD, small1000 (by rw [List.length_map]; exact Nat.le_trans (List.length_filter_le _ _) (Nat.le_trans (takeLe _ _) (by have := lotLen ok.as ok.al; have := ok.l1; omega))), smOver nD2 sm, ?_⟩
            rw [upd_same, et, List.filter_append, List.map_append, List.filter_cons_of_pos (by simpa using c)]
            rfl
          · refine ifF (by show ¬ inV (vn i) ((stk fo.ps lv n).map vn) = true; rw [inV_vn]; simpa using c) ?_
            refine ⟨sm, ?_⟩
            rw [et, List.filter_append, List.filter_cons_of_neg (by simpa using c)]
            show _ = some (HO.lst ((_ ++ []).map vn))
            rw [List.append_nil]
            exact hD
        · rintro H7 ⟨sm7, hD7⟩
          rw [List.length_map, List.take_length] at hD7
          refine ⟨D2, _, rfl, .inl ⟨.inl (.inl hD7), fun q2 nq2 => ?_⟩⟩
          have S8 := smUpd (o := .tup ((fo.as.filter fun j => decide (i ∈ stk fo.ps lv j)).map vn)) nq2
          refine ⟨_, rfl, _, rfl, by show 2 ≤ sizeLine; decide, fun t nt => ?_⟩
          have S9 := smUpd (o := .tup [.ref q, .ref q2]) nt
          exact k _ _ ((S6.trans sm7).trans (S8.trans S9)) ⟨t, q, q2, rfl, upd_same, S9 _ _ (S8 _ _ (sm7 _ _ hq6)), S9 _ _ upd_same⟩
end
end Cn
namespace Cn
open PySem PySem.Spec PyProof.Rows L2 Ck
theorem rowsUpdN {H' : Hp} {D : Addr} {o : HO} (hD : ∀ ys, H' D ≠ some (.tup ys)) {g : Nat → List Nat} {n : Nat} {us : List V} (h : Rows H' g n us) : Rows (upd H' D o) g n us := by
  refine ⟨h.1, fun i hi => ?_⟩
  obtain ⟨t, h1, h2⟩ := h.2 i hi
  refine ⟨t, h1, ?_⟩
  have q : t ≠ D := fun z => hD _ (by rw [← z]; exact h2)
  show upd H' D o t = _
  rw [upd_ne q]
  exact h2
/-- the notes by the places at which they are, as the dict of them holds them -/
def heldNotes (ps : List (Option Nat)) (be as lv : List Nat) (n : Nat) : List (Nat × (List Nat × List Nat)) := ((List.range n).map fun s => (s, noteAt ps be as lv s)).filter fun e => kept2 e.2
theorem heldNotes_snd {ps : List (Option Nat)} {be as lv : List Nat} {n : Nat} : (heldNotes ps be as lv n).map (·.2) = notesOf ps be as lv n := by
  unfold heldNotes notesOf
  generalize List.range n = xs
  induction xs with
  | nil => rfl
  | cons x xs ih =>
    rw [List.map_cons, List.map_cons, List.filter_cons, List.filter_cons]
    by_cases c : kept2 (noteAt ps be as lv x) = true
    · rw [if_pos c, if_pos (show (!(noteAt ps be as lv x).1.isEmpty && !(noteAt ps be as lv x).2.isEmpty) = true from c), List.map_cons, ih]
    · rw [if_neg c, if_neg (show ¬ (!(noteAt ps be as lv x).1.isEmpty && !(noteAt ps be as lv x).2.isEmpty) = true from c), ih]
theorem heldNotes_succ {ps : List (Option Nat)} {be as lv : List Nat} {n : Nat} : heldNotes ps be as lv (n + 1) = heldNotes ps be as lv n ++ if kept2 (noteAt ps be as lv n) = true then [(n, noteAt ps be as lv n)] else [] := by
  unfold heldNotes
  rw [List.range_succ, List.map_append, List.filter_append]
  show _ ++ List.filter _ [(n, noteAt ps be as lv n)] = _
  rw [List.filter_cons]
  rfl
theorem heldNotes_len {ps : List (Option Nat)} {be as lv : List Nat} {n : Nat} : (heldNotes ps be as lv n).length ≤ n := by
  unfold heldNotes
  refine Nat.le_trans (List.length_filter_le _ _) ?_
  rw [List.length_map, List.length_range]
  exact Nat.le_refl _
theorem heldNotes_lt {ps : List (Option Nat)} {be as lv : List Nat} {n : Nat} {e : Nat × (List Nat × List Nat)} (h : e ∈ heldNotes ps be as lv n) : e.1 < n := by
  obtain ⟨h1, _⟩ := List.mem_filter.mp h
  obtain ⟨s, h2, rfl⟩ := List.mem_map.mp h1
  exact List.mem_range.mp h2
def ByPlace (H : Hp) (kvs : List (L2.Key × V)) (l : List (Nat × (List Nat × List Nat))) : Prop := Paired (fun kv e => kv.1 = (Sum.inl ((e.1 : Nat) : Int) : L2.Key) ∧ NoteR H kv.2 e.2) kvs l
theorem byPlaceSame {H H' : Hp} {kvs : List (L2.Key × V)} {l : List (Nat × (List Nat × List Nat))} (s : Same H H') (h : ByPlace H kvs l) : ByPlace H' kvs l := Paired.mapP h fun _ _ z => ⟨z.1, noteSame s z.2⟩
theorem byPlaceUpd {H' : Hp} {D : Addr} {o : HO} (hD : ∀ ys, H' D ≠ some (.tup ys)) {kvs : List (L2.Key × V)} {l : List (Nat × (List Nat × List Nat))} (h : ByPlace H' kvs l) : ByPlace (upd H' D o) kvs l := Paired.mapP h fun _ _ z => ⟨z.1, noteUpdN hD z.2⟩
theorem byPlaceAbs {H : Hp} {k : Nat} : ∀ {kvs : List (L2.Key × V)} {l : List (Nat × (List Nat × List Nat))}, ByPlace H kvs l → (∀ e ∈ l, e.1 ≠ k) → valV kvs (Sum.inl ((k : Nat) : Int) : L2.Key) = none
  | _, _, .nil, _ => rfl
  | _, _, .cons a t, h => by
    rw [valV_neg (by rw [a.1]; intro z; exact h _ List.mem_cons_self (Int.ofNat.inj (Sum.inl.inj z)))]
    exact byPlaceAbs t fun e he => h e (List.mem_cons_of_mem _ he)
theorem byPlaceGet {H : Hp} : ∀ {kvs : List (L2.Key × V)} {l : List (Nat × (List Nat × List Nat))} {i : Nat} {k : L2.Key} {v : V}, ByPlace H kvs l → (l.map (·.1)).Nodup → kvs[i]? = some (k, v) → valV kvs k = some v
  | _, _, i, k, v, .nil, _, h => by rw [List.getElem?_nil] at h; cases h
  | _, _, 0, k, v, .cons a t, _, h => by cases h; rw [valV_pos rfl]
  | _, _, i + 1, k, v, .cons (a := a0) (b := b0) a t, nd, h => by
    rw [List.getElem?_cons_succ] at h
    rw [List.map_cons, List.nodup_cons] at nd
    have ht := byPlaceGet t nd.2 h
    obtain ⟨y, hy, hk, _⟩ := pairedGet t h
    rw [valV_neg (by
      rw [a.1]
      intro z
      have z2 : (Sum.inl ((b0.1 : Nat) : Int) : L2.Key) = Sum.inl ((y.1 : Nat) : Int) := z.trans hk
      have z3 : b0.1 = y.1 := Int.ofNat.inj (Sum.inl.inj z2)
      exact nd.1 (by rw [z3]; exact List.mem_map_of_mem (List.mem_of_getElem? hy)))]
    exact ht
theorem heldNotes_nodup {ps : List (Option Nat)} {be as lv : List Nat} {n : Nat} : ((heldNotes ps be as lv n).map (·.1)).Nodup := by
  induction n with
  | zero => exact List.nodup_nil
  | succ n ih =>
    rw [heldNotes_succ]
    split
    · rw [List.map_append, List.nodup_append]
      refine ⟨ih, List.nodup_cons.mpr ⟨fun z => (by cases z), List.nodup_nil⟩, ?_⟩
      rintro x hx y hy rfl
      obtain ⟨e, he, rfl⟩ := List.mem_map.mp hx
      have := heldNotes_lt he
      have hy2 : e.1 = n := by simpa using hy
      omega
    · rw [List.append_nil]; exact ih
theorem byPlaceVals {H : Hp} : ∀ {kvs : List (L2.Key × V)} {l : List (Nat × (List Nat × List Nat))}, ByPlace H kvs l → NotesR H (kvs.map (·.2)) (l.map (·.2))
  | _, _, .nil => .nil
  | _, _, .cons a t => .cons a.2 (byPlaceVals t)
section
variable {P : Program} {w : World} {K : PySem.W.Frag} {mg : Str → Option Value} {base : Heap} {C : Addr}
def spByPlace (C : Addr) : Sp := fun vs H Q _ => ∃ (a b : Addr) (f : Fo) (lv : List Nat), vs = [.ref a, .ref b] ∧ FoAt C H a f ∧ TN H b lv ∧ FoOk f ∧ Lv f.ps lv ∧
  ∀ D kvs H', Same H H' → H D = none → H' D = some (.dK kvs) → ByPlace H' kvs (heldNotes f.ps f.be f.as lv f.ps.length) → Q (.ref D) H'
def nByPlace : List Str := ["forest", "plan", "found", "held", "s", "places", "asks"]
theorem scByPlace : FnScope nByPlace ["forest", "plan"] (defScope sByPlace) := ⟨rfl, rfl, rfl, by decide +kernel, rfl, by decide +kernel, by decide +kernel⟩
theorem dByPlace (B : Defs K mg C) : Def P w K mg base "notes_by_place" 6 ["forest", "plan"] (spByPlace C) := by
  obtain ⟨fS, fdS, GS, gS, kS, bS⟩ := dStacks (P := P) (w := w) (base := base) B
  obtain ⟨fN, fdN, GN, gN, kN, bN⟩ := dNoteAt (P := P) (w := w) (base := base) B
  have N := B.N
  have nd := scByPlace.nd
  refine def_of B.nbp fun f fd F => ?_
  refine F.ok scByPlace (fun vs H Q E h => ?_) (fun cdv A outer s H vs Q E hr h => ?_)
  · obtain ⟨a, b, f, lv, rfl, _⟩ := h
    rfl
  · obtain ⟨a, b, fo, lv, rfl, hF, hb, ok, hv, k⟩ := h
    have hu : (A.deeper (envOfC "notes_by_place" (defScope sByPlace) s.heap.objs.size f cdv)).units + 1 < cLine := by have := hr.units; omega
    have hr1 : Room 1 (A.deeper (envOfC "notes_by_place" (defScope sByPlace) s.heap.objs.size f cdv)) := Room.mono hr (by decide)
    refine ⟨_, pss_cons (ps_set (i := 2) nd rfl (Or.inl rfl) (pe_call GS hr1 (by rfl) gS kS bS .nil pass0 (pa_cons (pv 0) (pa_cons (pv 1) pa_nil))))
      (pss_cons (ps_set (i := 3) nd rfl (Or.inl rfl) pe_dnewK)
      (pss_cons (ps_for PassesOwn.never rfl (pi_range1 (by rfl) N.range (pa_cons (pe_callB call_len_seq (by rfl) N.is.len PySem.boot_len (pa_cons (pv 1) pa_nil)) pa_nil)) (pg_name (i := 4) nd rfl (Or.inl rfl))
        (pss_cons (ps_asg (pe_call GN hr (by rfl) gN kN bN .nil pass0 (pa_cons (pv 0) (pa_cons (pv 2) (pa_cons (pv 4) pa_nil)))) (pg_tup rfl (pgs_cons (pg_name (i := 5) nd rfl (Or.inl rfl)) (pgs_cons (pg_name (i := 6) nd rfl (Or.inl rfl)) pgs_nil))))
        (pss_one (ps_if (PW.pt (pw_and (pt_truth (pv 5) (by intro _; rfl)) (pw_and1 (pt_truth (pv 6) (by intro _; rfl)))))
          (pss_one (ps_dput hu (pv 3) (pv 4) (pe_tup (pa_cons (pv 5) (pa_cons (pv 6) pa_nil))) rfl)) pss_nil))))
      (pss_one (ps_ret (pv 3))))), ?_⟩
    have l60 := ok.l1
    refine ⟨_, rfl, _, rfl, a, b, fo, lv, rfl, hF, hb, ok.ps, l60, hv, fun r us H1 s1 hr2 hR => ?_⟩
    intro D nD
    have S2 := smUpd (o := .dK []) nD
    have hD0 : H D = none := by
      cases e : H D with
      | none => rfl
      | some o => rw [s1 _ _ e] at nD; cases nD
    have hb2 : TN (upd H1 D (.dK [])) b lv := S2 _ _ (s1 _ _ hb)
    have hF2 := foAt_same (s1.trans S2) hF
    have hr3 := S2 _ _ hr2
    have hR2 := rowsSame S2 hR
    have hD2 : upd H1 D (.dK []) D = some (.dK []) := upd_same
    have SS := s1.trans S2
    generalize upd H1 D (.dK []) = H2 at hb2 hF2 hr3 hR2 hD2 SS ⊢
    refine ⟨_, rfl, b, _, rfl, .inr (tnL hb2), ((lv.map vn).length : Int), rfl, by omega, by rw [List.length_map, hv.1]; omega, ?_⟩
    rw [List.length_map, hv.1, Int.toNat_natCast]
    refine for_range (lo := 0) (n := fo.ps.length) (fun i σ H' => Same H H' ∧ FoAt C H' a fo ∧ TN H' b lv ∧ H' r = some (.lst us) ∧ Rows H' (stk fo.ps lv) fo.ps.length us ∧ (∃ kvs, H' D = some (.dK kvs) ∧ ByPlace H' kvs (heldNotes fo.ps fo.be fo.as lv i)) ∧ ∃ t4 t5 t6 : Option V, σ = [some (.ref a), some (.ref b), some (.ref r), some (.ref D), t4, t5, t6])
      ⟨SS, hF2, hb2, hr3, hR2, ⟨[], hD2, .nil⟩, none, none, none, rfl⟩ ?_ ?_
    · rintro i σ H3 hi ⟨s3, hF3, hb3, hr4, hR3, ⟨kvs, hD3, hK⟩, t4, t5, t6, rfl⟩
      rw [Int.zero_add]
      refine ⟨_, rfl, _, rfl, _, rfl, a, r, fo, lv, us, i, rfl, hF3, ok, hv, hr4, hR3, hi, fun v H4 s4 hv4 => ?_⟩
      obtain ⟨t, x1, y1, rfl, ht, hx1, hy1⟩ := hv4
      have hD4 := s4 _ _ hD3
      have S4 := s3.trans s4
      have hK4 := byPlaceSame s4 hK
      refine ⟨t, _, rfl, .inl (.inl ht), rfl, _, _, rfl, _, _, rfl, rfl, ?_⟩
      refine ⟨_, rfl, _, .inr (.inl ⟨_, tnL hx1, rfl⟩), ?_⟩
      rw [vnEmpty]
      have hno : kept2 (noteAt fo.ps fo.be fo.as lv i) = false → ByPlace H4 kvs (heldNotes fo.ps fo.be fo.as lv (i + 1)) := fun c => by
        rw [heldNotes_succ, c, if_neg Bool.false_ne_true, List.append_nil]
        exact hK4
      cases e1 : (noteAt fo.ps fo.be fo.as lv i).1.isEmpty with
      | true =>
        refine ifF (by decide) ?_
        refine ifF (by decide) ?_
        exact ⟨S4, foAt_same s4 hF3, s4 _ _ hb3, s4 _ _ hr4, rowsSame s4 hR3, ⟨kvs, hD4, hno (by unfold kept2; rw [e1]; rfl)⟩, _, _, _, rfl⟩
      | false =>
        refine ifT (by decide) ?_
        refine ⟨_, rfl, _, .inr (.inl ⟨_, tnL hy1, rfl⟩), ?_⟩
        rw [vnEmpty]
        cases e2 : (noteAt fo.ps fo.be fo.as lv i).2.isEmpty with
        | true =>
          refine ifF (by decide) ?_
          exact ⟨S4, foAt_same s4 hF3, s4 _ _ hb3, s4 _ _ hr4, rowsSame s4 hR3, ⟨kvs, hD4, hno (by unfold kept2; rw [e1, e2]; rfl)⟩, _, _, _, rfl⟩
        | false =>
          refine ifT (by decide) ?_
          refine ⟨_, rfl, _, rfl, by show 2 ≤ sizeLine; decide, fun t2 n2 => ?_⟩
          have S5 := smUpd (o := .tup [.ref x1, .ref y1]) n2
          have hD5 := S5 _ _ hD4
          have hn5 : NoteR (upd H4 t2 (.tup [.ref x1, .ref y1])) (.ref t2) (noteAt fo.ps fo.be fo.as lv i) := ⟨t2, x1, y1, rfl, upd_same, S5 _ _ hx1, S5 _ _ hy1⟩
          have S45 := S4.trans S5
          have s45 := s4.trans S5
          have hK5 := byPlaceSame S5 hK4
          generalize upd H4 t2 (.tup [.ref x1, .ref y1]) = H5 at hD5 hn5 S45 s45 hK5 ⊢
          have hl : kvs.length ≤ i := by rw [Paired.length hK5]; exact heldNotes_len
          refine ⟨_, rfl, _, rfl, D, _, rfl, DPut.k (k := Sum.inl ((i : Nat) : Int)) hD5 (small1000 (by omega)), ?_⟩
          have hab : valV kvs (Sum.inl ((i : Nat) : Int) : L2.Key) = none := byPlaceAbs hK5 fun e he z => by
            have := heldNotes_lt he
            omega
          rw [putK_new _ hab]
          have nt : ∀ ys, H5 D ≠ some (.tup ys) := fun ys z => by rw [hD5] at z; cases z
          have So : Same H (upd H5 D (.dK (kvs ++ [(Sum.inl ((i : Nat) : Int), .ref t2)]))) := smOver hD0 S45
          have So2 : ∀ {a : Addr} {o : HO}, H3 a = some o → a ≠ D → upd H5 D (.dK (kvs ++ [(Sum.inl ((i : Nat) : Int), .ref t2)])) a = some o := fun {a o} h1 h2 => by
            rw [upd_ne h2]; exact s45 _ _ h1
          have bD : b ≠ D := fun z => by rw [z] at hb3; rw [show H3 D = _ from hb3] at hD3; cases hD3
          have rD : r ≠ D := fun z => by rw [z, hD3] at hr4; cases hr4
          refine ⟨So, foAt_same So hF, So2 hb3 bD, So2 hr4 rD, ?_, ⟨_, upd_same, ?_⟩, _, _, _, rfl⟩
          · exact rowsUpdN nt (rowsSame s45 hR3)
          · rw [heldNotes_succ, if_pos (by unfold kept2; rw [e1, e2]; rfl)]
            exact paired_snoc (byPlaceUpd nt hK5) ⟨rfl, noteUpdN nt hn5⟩
    · rintro σ H3 ⟨s3, hF3, hb3, hr4, hR3, ⟨kvs, hD3, hK⟩, t4, t5, t6, rfl⟩
      exact ⟨_, rfl, k D kvs H3 s3 hD0 hD3 hK⟩
end
end Cn
namespace Cn
open PySem PySem.Spec PyProof.Rows L2 Ck
theorem atMem {xs : List V} {d : Int} (h0 : 0 ≤ d) (h1 : d < (xs.length : Int)) : ∃ v, atI xs d = some v ∧ v ∈ xs := by
  obtain ⟨n, rfl⟩ := Int.eq_ofNat_of_zero_le h0
  have hn : n < xs.length := by omega
  exact ⟨xs[n], atI_nat (List.getElem?_eq_getElem hn), List.getElem_mem hn⟩
section
variable {P : Program} {w : World} {K : PySem.W.Frag} {mg : Str → Option Value} {base : Heap} {C : Addr}
theorem nOf (B : Defs K mg C) : NamT mg := B.N
theorem dHand (B : Defs K mg C) : Def P w K mg base "_law_pool" 1 ["_law_script"] (spHand K) := def_of B.ha fun f fd F => ok_hand F (nOf B).abs (nOf B).int
theorem dDraw (B : Defs K mg C) : Def P w K mg base "_law_draw" 1 ["_law_pool_here", "_law_many"] spDraw := def_of B.dr fun f fd F => ok_draw F (nOf B).int (nOf B).is.len
end
end Cn
namespace Cn
open PySem PySem.Spec PyProof.Rows L2 Ck
/-! alike, by the pool laws' own look: flat things, lists and tuples of such -/
def EqS (H : Hp) : Nat → V → V → Prop
  | 0 => fun x y => x = y ∧ flatV x = true
  | n + 1 => fun x y => EqS H n x y ∨ ∃ a b xs ys, x = .ref a ∧ y = .ref b ∧ ((H a = some (.lst xs) ∧ H b = some (.lst ys)) ∨ (H a = some (.tup xs) ∧ H b = some (.tup ys))) ∧ xs.length ≤ 4000 ∧ Paired (EqS H n) xs ys
theorem eqS_same {H H' : Hp} (s : Same H H') : ∀ {n : Nat} {x y : V}, EqS H n x y → EqS H' n x y
  | 0, _, _, h => h
  | _ + 1, _, _, h => by
    rcases h with h | ⟨a, b, xs, ys, e1, e2, h, hl, hp⟩
    · exact .inl (eqS_same s h)
    · exact .inr ⟨a, b, xs, ys, e1, e2, h.imp (fun z => ⟨s _ _ z.1, s _ _ z.2⟩) (fun z => ⟨s _ _ z.1, s _ _ z.2⟩), hl, Paired.mapP hp fun _ _ z => eqS_same s z⟩
theorem eqS_up {H : Hp} {n m : Nat} {x y : V} (h : EqS H n x y) (hm : n ≤ m) : EqS H m x y := by
  induction m with
  | zero =>
    have e : n = 0 := by omega
    rw [← e]; exact h
  | succ m ih =>
    by_cases e : n = m + 1
    · rw [← e]; exact h
    · exact .inl (ih (by omega))
theorem eqS_cases {H : Hp} : ∀ {n : Nat} {x y : V}, EqS H n x y → (x = y ∧ flatV x = true) ∨ ∃ m, n = m + 1 ∧ ∃ a b xs ys, x = .ref a ∧ y = .ref b ∧ ((H a = some (.lst xs) ∧ H b = some (.lst ys)) ∨ (H a = some (.tup xs) ∧ H b = some (.tup ys))) ∧ xs.length ≤ 4000 ∧ Paired (EqS H m) xs ys
  | 0, _, _, h => .inl h
  | n + 1, x, y, h => by
    rcases h with h | ⟨a, b, xs, ys, h⟩
    · rcases eqS_cases h with z | ⟨m, e, a, b, xs, ys, e1, e2, e3, e4, e5⟩
      · exact .inl z
      · exact .inr ⟨n, rfl, a, b, xs, ys, e1, e2, e3, e4, Paired.mapP e5 fun _ _ q => eqS_up q (by omega)⟩
    · exact .inr ⟨n, rfl, a, b, xs, ys, h⟩
theorem eqSInt {H : Hp} {i : Int} : EqS H 0 (.int i) (.int i) := ⟨rfl, rfl⟩
theorem eqSSelf {H : Hp} {xs : List V} (h : ∀ x ∈ xs, flatV x = true) : Paired (EqS H 0) xs xs := pairedSelf fun x hx => ⟨rfl, h x hx⟩
theorem eqSN {H : Hp} {a b : Addr} {ns : List Nat} (ha : TN H a ns) (hb : TN H b ns) (hl : ns.length ≤ 1000) : EqS H 1 (.ref a) (.ref b) :=
  .inr ⟨a, b, _, _, rfl, rfl, .inr ⟨ha, hb⟩, by rw [List.length_map]; exact Nat.le_trans hl (by decide), eqSSelf fun x hx => by
    obtain ⟨n, _, rfl⟩ := List.mem_map.mp hx
    rfl⟩
theorem eqSP {H : Hp} {a b : Addr} {ps : List (Option Nat)} (ha : TP H a ps) (hb : TP H b ps) (hl : ps.length ≤ 1000) : EqS H 1 (.ref a) (.ref b) :=
  .inr ⟨a, b, _, _, rfl, rfl, .inr ⟨ha, hb⟩, by rw [List.length_map]; exact Nat.le_trans hl (by decide), eqSSelf fun x hx => by
    obtain ⟨q, _, rfl⟩ := List.mem_map.mp hx
    cases q <;> rfl⟩
def spIsS (n : Nat) : Sp := fun vs H Q _ => ∃ (x y : V), vs = [x, y] ∧ EqS H n x y ∧ ∀ H', Same H H' → Q (.bl true) H'
def spJS : Nat → Sp
  | 0 => fun _ _ _ _ => False
  | n + 1 => spIsS n
theorem leafS {K : PySem.W.Frag} {H : Hp} {x : V} (h : flatV x = true) : ∃ T b, TyX K H x (.type T) ∧ PySem.W.kitAny K (.type T) [.type "tuple", .type "list"] = some false ∧ PySem.W.kitOne K (.type T) (.type "bool") = some b ∧ PySem.W.kitOne K (.type T) (.type "dict") = some false := by
  cases x with
  | non => exact ⟨"NoneType", false, .base .non, kit2 (by decide +kernel), kit_ty (by decide +kernel), kit_ty (by decide +kernel)⟩
  | bl b => exact ⟨"bool", true, .base (.bl b), kit2 (by decide +kernel), kit_ty (by decide +kernel), kit_ty (by decide +kernel)⟩
  | int i => exact ⟨"int", false, .base (.int i), kit2 (by decide +kernel), kit_ty (by decide +kernel), kit_ty (by decide +kernel)⟩
  | str z => exact ⟨"str", false, .base (.str z), kit2 (by decide +kernel), kit_ty (by decide +kernel), kit_ty (by decide +kernel)⟩
  | _ => cases h
theorem seqS {K : PySem.W.Frag} {H : Hp} {a : Addr} {xs : List V} {tu : Bool} (h : if tu = true then H a = some (.tup xs) else H a = some (.lst xs)) : ∃ T, TyX K H (.ref a) (.type T) ∧ PySem.W.kitAny K (.type T) [.type "tuple", .type "list"] = some true ∧ PySem.W.kitOne K (.type T) (.type "tuple") = some tu ∧ PySem.W.kitOne K (.type T) (.type "list") = some (!tu) := by
  cases tu with
  | true => exact ⟨"tuple", .base (.tup (by simpa using h)), kit2 (by decide +kernel), kit_ty (by decide +kernel), kit_ty (by decide +kernel)⟩
  | false => exact ⟨"list", .base (.lst (by simpa using h)), kit2 (by decide +kernel), kit_ty (by decide +kernel), kit_ty (by decide +kernel)⟩
def nIs : List Str := ["_law_told", "_law_due", "_law_at", "_law_key"]
theorem scIs : FnScope nIs ["_law_told", "_law_due"] (defScope sIs) := ⟨rfl, rfl, rfl, by decide +kernel, rfl, by decide +kernel, by decide +kernel⟩
section
variable {P : Program} {w : World} {K : PySem.W.Frag} {mg : Str → Option Value} {base : Heap} {C : Addr}
theorem ok_isS {f : Addr} {fd : FuncData} (F : Fun K "_law_is" "_law_is" sIs f fd) (T : IsTxt mg) (mR : mg "range" = none) (mD : mg "dict" = none) (g : mg "_law_is" = some (.ref f)) (bI : Binds K fd ["_law_told", "_law_due"] []) : ∀ n : Nat, FnOk P w K mg base CX0 (n + 2) f fd ["_law_told", "_law_due"] (spJS n) := by
  intro n
  induction n with
  | zero => exact ⟨fun _ _ _ _ z => z.elim, fun _ _ _ _ _ _ _ _ _ _ _ _ _ z => z.elim⟩
  | succ n ih =>
    have nd := scIs.nd
    refine F.ok scIs (fun vs H Q E h => ?_) (fun cdv A outer s H vs Q E hr h => ?_)
    · obtain ⟨x, y, rfl, _⟩ := h
      rfl
    · obtain ⟨x, y, rfl, hE, k⟩ := h
      refine ⟨_, pss_cons (ps_if (pt_val (pe_callB call_isiT (by rfl) T.inst (by decide +kernel) (pa_cons (pv 1) (pa_cons (pe_tup (pa_cons (pe_bltn (v := .ty "tuple") (by rfl) T.tup (by decide +kernel) rfl) (pa_cons (pe_bltn (v := .ty "list") (by rfl) T.lst (by decide +kernel) rfl) pa_nil))) pa_nil))))
          (pss_cons (ps_if (PW.pt (pw_or (pt_cmpR op_ne (pe_callB call_isi (by rfl) T.inst (by decide +kernel) (pa_cons (pv 0) (pa_cons (pe_bltn (v := .ty "tuple") (by rfl) T.tup (by decide +kernel) rfl) pa_nil))) (pe_callB call_isi (by rfl) T.inst (by decide +kernel) (pa_cons (pv 1) (pa_cons (pe_bltn (v := .ty "tuple") (by rfl) T.tup (by decide +kernel) rfl) pa_nil))) (nomark _))
              (pw_or1 (pt_cmpR op_ne (pe_callB call_isi (by rfl) T.inst (by decide +kernel) (pa_cons (pv 0) (pa_cons (pe_bltn (v := .ty "list") (by rfl) T.lst (by decide +kernel) rfl) pa_nil))) (pe_callB call_isi (by rfl) T.inst (by decide +kernel) (pa_cons (pv 1) (pa_cons (pe_bltn (v := .ty "list") (by rfl) T.lst (by decide +kernel) rfl) pa_nil))) (nomark _)))))
            (pss_one (ps_ret pe_bl)) pss_nil)
          (pss_one (ps_ret (pe_and (pe_cmpR op_eq (pe_callB call_len_seq (by rfl) T.len PySem.boot_len (pa_cons (pv 0) pa_nil)) (pe_callB call_len_seq (by rfl) T.len PySem.boot_len (pa_cons (pv 1) pa_nil)) (nomark _)) (pe_one
            (pe_callB (cr_all rfl) (by rfl) T.all (by decide +kernel) (pa_cons (pe_lc (own := [("_law_at", 2)]) (g := gName 2) (tt := tYes) (te := tCall (spJS n) [] (fun _ _ _ => False) (tCons (tOp (rIx K) (tVar 0) (tVar 2)) (tCons (tOp (rIx K) (tVar 1) (tVar 2)) tNil))) rfl nd (pi_range1 (by rfl) mR (pa_cons (pe_callB call_len_seq (by rfl) T.len PySem.boot_len (pa_cons (pv 1) pa_nil)) pa_nil))
              (blkOk_by (N := nIs) (sc := defScope sIs) (by decide +kernel)) (fun _ _ _ _ _ => pg_name (i := 2) nd rfl (Or.inl rfl)) (fun _ _ _ _ _ => pts_nil)
              (fun _ _ _ _ _ => pe_call ih hr (by rfl) g F.kp bI .nil pass0 (pa_cons (pe_ix ix_seq (pv 0) (pv 2) (fun _ _ => rfl)) (pa_cons (pe_ix ix_seq (pv 1) (pv 2) (fun _ _ => rfl)) pa_nil)))) pa_nil))))))) pss_nil)
        (pss_cons (ps_if (pt_val (pe_callB call_isi (by rfl) T.inst (by decide +kernel) (pa_cons (pv 1) (pa_cons (pe_bltn (v := .ty "dict") (by rfl) mD (by decide +kernel) rfl) pa_nil)))) (pss_cons ps_never (pss_one ps_never)) pss_nil)
        (pss_cons (ps_if (pt_cmpR op_isN (pv 1) pe_non (nomark _)) (pss_one (ps_ret (pe_cmpR op_isN (pv 0) pe_non (nomark _)))) pss_nil)
        (pss_one (ps_ret (pe_and (pe_cmpR op_eq (pe_callB call_isi (by rfl) T.inst (by decide +kernel) (pa_cons (pv 0) (pa_cons (pe_bltn (v := .ty "bool") (by rfl) T.bool (by decide +kernel) rfl) pa_nil))) (pe_callB call_isi (by rfl) T.inst (by decide +kernel) (pa_cons (pv 1) (pa_cons (pe_bltn (v := .ty "bool") (by rfl) T.bool (by decide +kernel) rfl) pa_nil))) (nomark _))
          (pe_and (pe_cmpR op_notN (pv 0) pe_non (nomark _)) (pe_one (pe_cmpR op_eq (pv 0) (pv 1) (nomark _))))))))), ?_⟩
      have cls2 : Paired ClsV [.ty "tuple", .ty "list"] [.type "tuple", .type "list"] := .cons (.ty _) (.cons (.ty _) .nil)
      refine ⟨_, rfl, by show 2 ≤ sizeLine; decide, fun t1 m1 => ?_⟩
      have S1 := smUpd (o := .tup [.ty "tuple", .ty "list"]) m1
      rcases eqS_cases hE with ⟨rfl, hL⟩ | ⟨m, rfl, a, b, xs, ys, rfl, rfl, hk, hx, hp⟩
      · obtain ⟨Ty, bb, ty, k2, k3, k4⟩ := leafS (K := K) (H := upd H t1 (.tup [.ty "tuple", .ty "list"])) hL
        refine ⟨x, t1, _, _, _, false, rfl, upd_same, cls2, ty, k2, false, rfl, ?_⟩
        refine iteF ?_
        refine ⟨_, rfl, x, .ty "dict", _, _, false, rfl, .ty _, ty, k4, false, rfl, ?_⟩
        refine iteF ?_
        refine ⟨_, rfl, rfl, _, rfl, ?_⟩
        by_cases cx : x = V.non
        · subst cx
          refine ifT rfl ?_
          exact ⟨_, rfl, rfl, k _ S1⟩
        refine ifF (by simpa using cx) ?_
        refine ⟨_, rfl, x, .ty "bool", _, _, bb, rfl, .ty _, ty, k3, _, rfl, x, .ty "bool", _, _, bb, rfl, .ty _, ty, k3, rfl, _, rfl, ?_⟩
        refine ifT (decide_eq_true rfl) ?_
        refine ⟨_, rfl, rfl, _, rfl, ?_⟩
        refine ifT (by simpa using cx) ?_
        refine ⟨_, rfl, _, rfl, ?_, ?_⟩
        · cases x <;> first | rfl | cases hL
        · rw [decide_eq_true rfl]; exact k _ S1
      · obtain ⟨tu, ha, hb⟩ : ∃ tu : Bool, (if tu = true then H a = some (.tup xs) else H a = some (.lst xs)) ∧ (if tu = true then H b = some (.tup ys) else H b = some (.lst ys)) := by
          rcases hk with ⟨z1, z2⟩ | ⟨z1, z2⟩
          · exact ⟨false, by simpa using z1, by simpa using z2⟩
          · exact ⟨true, by simpa using z1, by simpa using z2⟩
        have keep : ∀ {H1 : Hp} {c : Addr} {zs : List V}, Same H H1 → (if tu = true then H c = some (.tup zs) else H c = some (.lst zs)) → (if tu = true then H1 c = some (.tup zs) else H1 c = some (.lst zs)) := fun {H1 c zs} sm z => by
          cases tu with
          | true => rw [if_pos rfl] at z ⊢; exact sm _ _ z
          | false => rw [if_neg Bool.false_ne_true] at z ⊢; exact sm _ _ z
        obtain ⟨Tb, ty, k2, k3, k3l⟩ := seqS (K := K) (keep S1 hb)
        refine ⟨_, t1, _, _, _, true, rfl, upd_same, cls2, ty, k2, true, rfl, ?_⟩
        refine iteT ?_
        obtain ⟨Ta, ty2, k4, k5, k5l⟩ := seqS (K := K) (keep S1 ha)
        refine ⟨_, rfl, _, .ty "tuple", _, _, tu, rfl, .ty _, ty2, k5, _, rfl, _, .ty "tuple", _, _, tu, rfl, .ty _, ty, k3, rfl, _, rfl, ?_⟩
        refine ifF (by rw [decide_eq_true rfl]; decide) ?_
        refine ⟨_, rfl, _, .ty "list", _, _, !tu, rfl, .ty _, ty2, k5l, _, rfl, _, .ty "list", _, _, !tu, rfl, .ty _, ty, k3l, rfl, _, rfl, ?_⟩
        refine ifF (by rw [decide_eq_true rfl]; decide) ?_
        have hl : xs.length = ys.length := Paired.length hp
        generalize upd H t1 (.tup [.ty "tuple", .ty "list"]) = H2 at S1 ⊢
        have rd : ∀ {H3 : Hp}, Same H2 H3 → ((SqL K H3 a xs ∧ SqL K H3 b ys) ∨ (SqT K H3 a xs ∧ SqT K H3 b ys)) := fun {H3} s => by
          rcases hk with ⟨z1, z2⟩ | ⟨z1, z2⟩
          · exact .inl ⟨.inl (.inl ((S1.trans s) _ _ z1)), .inl (.inl ((S1.trans s) _ _ z2))⟩
          · exact .inr ⟨.inl (.inl ((S1.trans s) _ _ z1)), .inl (.inl ((S1.trans s) _ _ z2))⟩
        have hk2 := rd (Same.refl H2)
        have la : SqL K H2 a xs ∨ SqT K H2 a xs := hk2.imp And.left And.left
        have lb : SqL K H2 b ys ∨ SqT K H2 b ys := hk2.imp And.right And.right
        refine ⟨_, rfl, a, xs, rfl, la, _, rfl, b, ys, rfl, lb, rfl, _, rfl, ?_⟩
        refine ifT (decide_eq_true (by rw [hl])) ?_
        refine ⟨_, rfl, b, ys, rfl, lb, (ys.length : Int), rfl, by omega, by omega, fun D nD => ?_⟩
        rw [Int.toNat_natCast]
        refine lc_range (lo := 0) (n := ys.length) (fun i G => Same H2 G ∧ G D = some (.lst ((List.replicate i true).map V.bl))) ⟨smUpd nD, upd_same⟩ ?_ ?_
        · rintro i G hi ⟨sm, hD⟩
          rw [show (0 : Int) + (i : Int) = (i : Int) from Int.zero_add _]
          have hxi : xs[i]? = some xs[i] := List.getElem?_eq_getElem (by omega)
          have hyi : ys[i]? = some ys[i] := List.getElem?_eq_getElem hi
          have he : EqS G m xs[i] ys[i] := eqS_same (S1.trans sm) (pairedAt hp hxi hyi)
          refine ⟨rfl, ?_⟩
          show tYes _ _ _
          have fin : ∀ G2, Same G G2 → ∃ acc, G2 D = some (.lst acc) ∧ acc.length < sizeLine ∧ Same H2 (upd G2 D (.lst (acc ++ [V.bl true]))) ∧ upd G2 D (.lst (acc ++ [V.bl true])) D = some (.lst ((List.replicate (i + 1) true).map V.bl)) := fun G2 s2 =>
            ⟨_, s2 _ _ hD, by rw [List.length_map, List.length_replicate]; exact small4000 (by omega), smOver nD (sm.trans s2), by rw [upd_same, List.replicate_succ', List.map_append]; rfl⟩
          cases m with
          | zero =>
            rcases rd sm with ⟨qa, qb⟩ | ⟨qa, qb⟩
            · exact ⟨_, rfl, _, rfl, .inl ⟨a, xs, _, _, rfl, rfl, qa, atI_nat hxi, _, rfl, _, rfl, .inl ⟨b, ys, _, _, rfl, rfl, qb, atI_nat hyi, xs[i], ys[i], rfl, he, fun G2 s2 => fin G2 s2⟩⟩⟩
            · exact ⟨_, rfl, _, rfl, .inr (.inl ⟨a, xs, _, _, rfl, rfl, qa, atI_nat hxi, _, rfl, _, rfl, .inr (.inl ⟨b, ys, _, _, rfl, rfl, qb, atI_nat hyi, xs[i], ys[i], rfl, he, fun G2 s2 => fin G2 s2⟩)⟩)⟩
          | succ m =>
            rcases rd sm with ⟨qa, qb⟩ | ⟨qa, qb⟩
            · exact ⟨_, rfl, _, rfl, .inl ⟨a, xs, _, _, rfl, rfl, qa, atI_nat hxi, _, rfl, _, rfl, .inl ⟨b, ys, _, _, rfl, rfl, qb, atI_nat hyi, xs[i], ys[i], rfl, he, fun G2 s2 => fin G2 s2⟩⟩⟩
            · exact ⟨_, rfl, _, rfl, .inr (.inl ⟨a, xs, _, _, rfl, rfl, qa, atI_nat hxi, _, rfl, _, rfl, .inr (.inl ⟨b, ys, _, _, rfl, rfl, qb, atI_nat hyi, xs[i], ys[i], rfl, he, fun G2 s2 => fin G2 s2⟩)⟩)⟩
        · rintro G ⟨sm, hD⟩
          refine ⟨D, List.replicate ys.length true, rfl, .inl (.inl hD), ?_⟩
          rw [allRep]
          exact k _ (S1.trans sm)
theorem dIs (B : Defs K mg C) : Def P w K mg base "_law_is" 6 ["_law_told", "_law_due"] (spJS 4) := by
  obtain ⟨f, fd, D⟩ := B.is
  exact ⟨f, fd, ok_isS D.F B.N.is B.N.range B.zDict D.g D.b 4, D.g, D.F.kp, D.b⟩
end
end Cn
namespace Cn
open PySem PySem.Spec PyProof.Rows L2 Ck
section
variable {P : Program} {w : World} {K : PySem.W.Frag} {mg : Str → Option Value} {base : Heap} {C : Addr}
def ParOk (n : Nat) (v : V) : Prop := ∃ q, v = vp q ∧ ∀ m, q = some m → m < n
theorem psSnoc {ps : List (Option Nat)} {q : Option Nat} (hp : Ps ps) (hq : ∀ m, q = some m → m < ps.length) : Ps (ps ++ [q]) := fun i m h => by
  by_cases c : i < ps.length
  · rw [List.getElem?_append_left c] at h
    exact hp i m h
  · rw [List.getElem?_append_right (by omega)] at h
    have e : i = ps.length := by
      have := (List.getElem?_eq_some_iff.mp h).1
      simp at this
      omega
    subst e
    rw [Nat.sub_self] at h
    exact hq m (Option.some.inj h)
end
end Cn
namespace Cn
open PySem PySem.Spec PyProof.Rows L2 Ck
/-! drawn levels -/
def LvTo (ps : List (Option Nat)) (lv : List Nat) : Prop := ∀ (j l : Nat) (q : Option Nat), lv[j]? = some l → ps[j]? = some q → 1 ≤ l ∧ l ≤ mostLv lv q
theorem lvTo_le {ps : List (Option Nat)} {lv : List Nat} (hp : Ps ps) (hv : LvTo ps lv) (hl : lv.length ≤ ps.length) : ∀ i l, lv[i]? = some l → l ≤ i + 1 := by
  intro i
  induction i using Nat.strongRecOn with
  | ind i ih =>
    intro l hl2
    have hi : i < lv.length := (List.getElem?_eq_some_iff.mp hl2).1
    rcases opt_cases (ps := ps) (i := i) (by omega) with h | ⟨p, h⟩
    · have h2 := hv i l _ hl2 h
      have e : mostLv lv none = 1 := rfl
      omega
    · have h2 := hv i l _ hl2 h
      have e : mostLv lv (some p) = lv.getD p 0 + 1 := rfl
      have hpi := hp i p h
      have := ih p hpi _ (getD_at (Nat.lt_trans hpi hi))
      omega
theorem mostSnoc {lv : List Nat} {l : Nat} {q : Option Nat} (hq : ∀ m, q = some m → m < lv.length) : mostLv (lv ++ [l]) q = mostLv lv q := by
  cases q with
  | none => rfl
  | some m =>
    show (lv ++ [l]).getD m 0 + 1 = lv.getD m 0 + 1
    rw [List.getD_eq_getElem?_getD, List.getD_eq_getElem?_getD, List.getElem?_append_left (hq m rfl)]
theorem lvSnoc {ps : List (Option Nat)} {lv : List Nat} {l : Nat} {q : Option Nat} (hp : Ps ps) (hv : LvTo ps lv) (hq : ps[lv.length]? = some q) (h1 : 1 ≤ l) (h2 : l ≤ mostLv lv q) : LvTo ps (lv ++ [l]) := fun j m r hm hr => by
  by_cases c : j < lv.length
  · rw [List.getElem?_append_left c] at hm
    rw [mostSnoc fun x e => Nat.lt_trans (hp j x (by rw [hr, e])) c]
    exact hv j m r hm hr
  · rw [List.getElem?_append_right (by omega)] at hm
    have e : j = lv.length := by
      have := (List.getElem?_eq_some_iff.mp hm).1
      simp at this
      omega
    subst e
    rw [Nat.sub_self] at hm
    cases (Option.some.inj hm)
    rw [hq] at hr
    cases (Option.some.inj hr)
    rw [mostSnoc fun x e => hp lv.length x (by rw [hq, e])]
    exact ⟨h1, h2⟩
end Cn

namespace Cn
open PySem PySem.Spec PyProof.Rows L2 Ck
section
variable {P : Program} {w : World} {K : PySem.W.Frag} {mg : Str → Option Value} {base : Heap} {C : Addr}
end
end Cn
namespace Cn
open PySem PySem.Spec PyProof.Rows L2 Ck
def TolR (H : Hp) (r : Addr) (f : Fo) : Prop := ∃ ap ab aa, H r = some (.tup [.ref ap, .ref ab, .ref aa]) ∧ TP H ap f.ps ∧ TN H ab f.be ∧ TN H aa f.as
theorem tolSame {H H' : Hp} {r : Addr} {f : Fo} (s : Same H H') (h : TolR H r f) : TolR H' r f := by
  obtain ⟨ap, ab, aa, h1, h2, h3, h4⟩ := h
  exact ⟨ap, ab, aa, s _ _ h1, s _ _ h2, s _ _ h3, s _ _ h4⟩
theorem tolKept {H H' : Hp} {p c r : Addr} {cells : List Int} {f : Fo} (hI : HandIn H p S) (k : Kept p H H') (h : TolR H r f) : TolR H' r f := by
  obtain ⟨ap, ab, aa, h1, h2, h3, h4⟩ := h
  exact ⟨ap, ab, aa, k _ _ (tup_ne hI h1) h1, k _ _ (tup_ne hI h2) h2, k _ _ (tup_ne hI h3) h3, k _ _ (tup_ne hI h4) h4⟩
end Cn
namespace Cn
open PySem PySem.Spec PyProof.Rows L2 Ck
section
variable {P : Program} {w : World} {K : PySem.W.Frag} {mg : Str → Option Value} {base : Heap} {C : Addr}
def measR : L2.St → Hp → Nat := fun σ H => match σ[2]? with
  | some (some (V.ref D)) => (match H D with
    | some (.lst (V.int n :: _)) => n.toNat
    | _ => 0)
  | _ => 0
end
end Cn
namespace Cn
open PySem PySem.Spec PyProof.Rows L2 Ck
/-! what is under a place -/
def dwn (ps : List (Option Nat)) (i n : Nat) : List Nat := (List.range n).filter fun j => decide (i ∈ road ps j)
theorem dwn_mem {ps : List (Option Nat)} {i n j : Nat} : j ∈ dwn ps i n ↔ j < n ∧ i ∈ road ps j := by
  unfold dwn
  rw [List.mem_filter, List.mem_range, decide_eq_true_iff]
theorem dwn_len {ps : List (Option Nat)} {i n : Nat} : (dwn ps i n).length ≤ n := by
  have := List.length_filter_le (fun j => decide (i ∈ road ps j)) (List.range n)
  rw [List.length_range] at this
  exact this
theorem dwn_succ {ps : List (Option Nat)} {i j : Nat} : dwn ps i (j + 1) = dwn ps i j ++ if i ∈ road ps j then [j] else [] := by
  unfold dwn
  rw [List.range_succ, List.filter_append]
  by_cases c : i ∈ road ps j
  · rw [if_pos c, List.filter_cons_of_pos (by simpa using c)]; rfl
  · rw [if_neg c, List.filter_cons_of_neg (by simpa using c)]; rfl
theorem dwn_before {ps : List (Option Nat)} {i : Nat} (hp : Ps ps) (hi : i < ps.length) : ∀ j, j ≤ i → dwn ps i j = [] := by
  intro j
  induction j with
  | zero => intro _; rfl
  | succ j ih =>
    intro h
    rw [dwn_succ, ih (by omega), if_neg (fun z => by have := road_le hp j (by omega) i z; omega)]
    rfl
theorem dwn_start {ps : List (Option Nat)} {i : Nat} (hp : Ps ps) (hi : i < ps.length) : dwn ps i (i + 1) = [i] := by
  rw [dwn_succ, dwn_before hp hi i (Nat.le_refl _), if_pos (road_self hp hi)]
  rfl
theorem dwn_step {ps : List (Option Nat)} {i j : Nat} {q : Option Nat} (hp : Ps ps) (hij : i < j) (hj : j < ps.length) (h : ps[j]? = some q) : (i ∈ road ps j) ↔ ∃ p, q = some p ∧ p ∈ dwn ps i j := by
  cases q with
  | none =>
    rw [road_none h]
    constructor
    · intro z; have := List.mem_singleton.mp z; omega
    · rintro ⟨p, z, _⟩; cases z
  | some p =>
    rw [road_some hp h, List.mem_append, List.mem_singleton]
    constructor
    · rintro (z | z)
      · exact ⟨p, rfl, dwn_mem.mpr ⟨hp j p h, z⟩⟩
      · omega
    · rintro ⟨p', z, m⟩
      cases z
      exact .inl (dwn_mem.mp m).2
theorem inV_vp {ns : List Nat} {q : Option Nat} : inV (vp q) (ns.map vn) = decide (∃ p, q = some p ∧ p ∈ ns) := by
  cases q with
  | some p =>
    show inV (vn p) (ns.map vn) = _
    rw [inV_vn]
    by_cases c : p ∈ ns
    · rw [decide_eq_true c, decide_eq_true ⟨p, rfl, c⟩]
    · rw [decide_eq_false c, decide_eq_false (fun ⟨p', z, m⟩ => by cases z; exact c m)]
  | none =>
    rw [decide_eq_false (fun ⟨p', z, m⟩ => by cases z)]
    induction ns with
    | nil => rfl
    | cons n ns ih => exact ih
theorem vp_flat (q : Option Nat) : flatV (vp q) = true := by cases q <;> rfl
/-! the pairs -/
def pairsOf (ps : List (Option Nat)) (be as : List Nat) : List (Nat × Nat) := be.flatMap fun i => (as.filter fun j => decide (i ∈ road ps j)).map (Prod.mk i)
def PairR (H : Hp) (v : V) (p : Nat × Nat) : Prop := ∃ t, v = .ref t ∧ H t = some (.tup [vn p.1, vn p.2])
def PairsR (H : Hp) (us : List V) (ps : List (Nat × Nat)) : Prop := Paired (PairR H) us ps
theorem pairSame {H H' : Hp} (s : Same H H') {v : V} {p : Nat × Nat} (h : PairR H v p) : PairR H' v p := by
  obtain ⟨t, e, h1⟩ := h
  exact ⟨t, e, s _ _ h1⟩
theorem pairsSame {H H' : Hp} (s : Same H H') {us : List V} {ps : List (Nat × Nat)} (h : PairsR H us ps) : PairsR H' us ps := Paired.mapP h fun _ _ z => pairSame s z
theorem pairsUpd {H' : Hp} {D : Addr} {o : HO} {xs us : List V} {ps : List (Nat × Nat)} (hD : H' D = some (.lst xs)) (h : PairsR H' us ps) : PairsR (upd H' D o) us ps := Paired.mapP h fun v p z => by
  obtain ⟨t, e, h1⟩ := z
  have q : t ≠ D := fun z => by rw [z, hD] at h1; cases h1
  exact ⟨t, e, by rw [upd_ne q]; exact h1⟩
theorem pairedSnoc {α β : Type} {F : α → β → Prop} : ∀ {xs : List α} {ys : List β} {x : α} {y : β}, Paired F xs ys → F x y → Paired F (xs ++ [x]) (ys ++ [y])
  | _, _, _, _, .nil, h => .cons h .nil
  | _, _, _, _, .cons a t, h => .cons a (pairedSnoc t h)
theorem pairedApp {α β : Type} {F : α → β → Prop} : ∀ {xs xs' : List α} {ys ys' : List β}, Paired F xs ys → Paired F xs' ys' → Paired F (xs ++ xs') (ys ++ ys')
  | _, _, _, _, .nil, h => h
  | _, _, _, _, .cons a t, h => .cons a (pairedApp t h)
theorem pairsOf_len {ps : List (Option Nat)} {as : List Nat} : ∀ {be : List Nat}, (pairsOf ps be as).length ≤ be.length * as.length
  | [] => Nat.zero_le _
  | i :: be => by
    have h := pairsOf_len (ps := ps) (as := as) (be := be)
    show (((as.filter fun j => decide (i ∈ road ps j)).map (Prod.mk i)) ++ pairsOf ps be as).length ≤ (be.length + 1) * as.length
    rw [List.length_append, List.length_map, Nat.add_mul, Nat.one_mul]
    have := List.length_filter_le (fun j => decide (i ∈ road ps j)) as
    omega
theorem pairsOf_snoc {ps : List (Option Nat)} {be as : List Nat} {i : Nat} : pairsOf ps (be ++ [i]) as = pairsOf ps be as ++ (as.filter fun j => decide (i ∈ road ps j)).map (Prod.mk i) := by
  unfold pairsOf
  rw [List.flatMap_append, List.flatMap_singleton]
theorem pairs3600 {f : Fo} (ok : FoOk f) : (pairsOf f.ps f.be f.as).length ≤ 3600 := by
  have h := pairsOf_len (ps := f.ps) (as := f.as) (be := f.be)
  have h1 := lotLen ok.be ok.bl
  have h2 := lotLen ok.as ok.al
  have h3 := ok.l1
  exact Nat.le_trans h (Nat.mul_le_mul (Nat.le_trans h1 h3) (Nat.le_trans h2 h3))
section
variable {P : Program} {w : World} {K : PySem.W.Frag} {mg : Str → Option Value} {base : Heap} {C : Addr}
def spUnder (C : Addr) : Sp := fun vs H Q _ => ∃ (a : Addr) (f : Fo) (i : Nat), vs = [.ref a, vn i] ∧ FoAt C H a f ∧ Ps f.ps ∧ f.ps.length ≤ 60 ∧ i < f.ps.length ∧ ∀ r H', Same H H' → TN H' r (dwn f.ps i f.ps.length) → Q (.ref r) H'
def nUnder : List Str := ["forest", "place", "found", "later"]
theorem scUnder : FnScope nUnder ["forest", "place"] (defScope sUnder) := ⟨rfl, rfl, rfl, by decide +kernel, rfl, by decide +kernel, by decide +kernel⟩
theorem dUnder (B : Defs K mg C) : Def P w K mg base "under" 4 ["forest", "place"] (spUnder C) := by
  obtain ⟨fB, fdB, GB, gB, kB, bB⟩ := dPlace (P := P) (w := w) (base := base) B
  have N := B.N
  have T := B.T
  refine def_of B.un fun f fd F => ?_
  refine F.ok scUnder (fun vs H Q E h => ?_) (fun cdv A outer s H vs Q E hr h => ?_)
  · obtain ⟨a, f, i, rfl, _⟩ := h
    rfl
  · obtain ⟨a, fo, i, rfl, hF, hp, hl, hi, k⟩ := h
    refine ⟨_, pss_cons (ps_if (pt_not (pt_val (pe_call GB hr (by rfl) gB kB bB .nil pass0 (pa_cons (pv 0) (pa_cons (pv 1) pa_nil))))) (pss_one ps_never) pss_nil)
      (pss_cons (ps_set (i := 2) scUnder.nd rfl (Or.inl rfl) (pe_lst (pa_cons (pv 1) pa_nil)))
      (pss_cons (ps_for PassesOwn.never rfl (pi_range2 (by rfl) N.range (pa_cons (pe_op op_add (pv 1) pe_int) (pa_cons (pe_callB call_len_seq (by rfl) N.is.len PySem.boot_len (pa_cons (pe_fld (pv 0) rfl) pa_nil)) pa_nil))) (pg_name (i := 3) scUnder.nd rfl (Or.inl rfl))
        (pss_one (ps_if (pt_cmpR op_in_seq (pe_ix ix_tup (pe_fld (pv 0) rfl) (pv 3) (fun _ _ => rfl)) (pv 2) (by rfl))
          (pss_one (ps_expr (pe_bm PySem.F.plainAttrs_list PySem.F.slot_list_append PySem.F.type_list_append mt_append (pv 2) (pa_cons (pv 3) pa_nil)))) pss_nil)))
      (pss_one (ps_ret (pe_callTy call_tuple_of (by rfl) N.is.tup (by decide +kernel) (pa_cons (pv 2) pa_nil)))))), ?_⟩
    refine ⟨_, rfl, _, rfl, a, fo, i, rfl, hF, hi, true, rfl, ?_⟩
    refine ifF (by decide) ?_
    obtain ⟨dx, ap, ab, aa, h0, h1, h2, h3⟩ := hF
    refine ⟨_, rfl, by show 1 ≤ sizeLine; decide, fun D nD => ?_⟩
    have S1 := smUpd (o := .lst [vn i]) nD
    refine ⟨_, rfl, _, _, rfl, rfl, _, rfl, a, C, dx, _, _, rfl, S1 _ _ h0, T.cl, T.nP, fP, ap, _, rfl, .inr (tpL (S1 _ _ h1)), ((i : Int) + 1), ((fo.ps.map vp).length : Int), rfl, ⟨by omega, by omega, by omega, by rw [List.length_map]; omega⟩, ?_⟩
    rw [List.length_map]
    refine for_range (lo := (i : Int) + 1) (n := ((fo.ps.length : Int) - ((i : Int) + 1)).toNat) (fun k σ H' => ∃ t3, σ = [some (.ref a), some (vn i), some (.ref D), t3] ∧ Same H H' ∧ H' D = some (.lst ((dwn fo.ps i (i + 1 + k)).map vn))) ⟨none, rfl, S1, by rw [Nat.add_zero, dwn_start hp hi]; exact upd_same⟩ ?_ ?_
    · rintro m σ H1 hm ⟨t3, rfl, sm, hD⟩
      have hj : i + 1 + m < fo.ps.length := by omega
      have ej : (i : Int) + 1 + (m : Int) = ((i + 1 + m : Nat) : Int) := by omega
      rw [ej]
      obtain ⟨q, hq⟩ := ps_at hj
      refine ⟨_, rfl, a, C, dx, _, _, rfl, sm _ _ h0, T.cl, T.nP, fP, _, rfl, ap, _, ((i + 1 + m : Nat) : Int), _, rfl, rfl, tpL (sm _ _ h1), vp_ix hq, _, rfl, D, _, rfl, .inl (.inl (.inl hD)), vp_flat q, vn_flat _, _, rfl, ?_⟩
      have st := dwn_step hp (by omega : i < i + 1 + m) hj hq
      have ed : dwn fo.ps i (i + 1 + (m + 1)) = dwn fo.ps i (i + 1 + m) ++ if i ∈ road fo.ps (i + 1 + m) then [i + 1 + m] else [] := dwn_succ
      by_cases c : i ∈ road fo.ps (i + 1 + m)
      · refine ifT (by show inV (vp q) _ = true; rw [inV_vp]; exact decide_eq_true (st.mp c)) ?_
        refine ⟨_, rfl, .inl ⟨rfl, _, .inl (.inl hD)⟩, _, rfl, D, _, _, rfl, rfl, hD, small1000 (by rw [List.length_map]; have := dwn_len (ps := fo.ps) (i := i) (n := i + 1 + m); omega), ?_⟩
        refine ⟨_, rfl, smOver nD sm, ?_⟩
        rw [upd_same, ed, if_pos c, List.map_append]
        rfl
      · refine ifF (by show ¬ inV (vp q) _ = true; rw [inV_vp]; simpa using fun p e m => c (st.mpr ⟨p, e, m⟩)) ?_
        refine ⟨_, rfl, sm, ?_⟩
        rw [ed, if_neg c, List.append_nil]
        exact hD
    · rintro σ H1 ⟨t3, rfl, sm, hD⟩
      have en : i + 1 + ((fo.ps.length : Int) - ((i : Int) + 1)).toNat = fo.ps.length := by omega
      rw [en] at hD
      refine ⟨_, rfl, D, _, rfl, .inl ⟨.inl (.inl hD), fun r nr => ?_⟩⟩
      exact k r _ (sm.trans (smUpd nr)) upd_same
end
end Cn
namespace Cn
open PySem PySem.Spec PyProof.Rows L2 Ck
section
variable {P : Program} {w : World} {K : PySem.W.Frag} {mg : Str → Option Value} {base : Heap} {C : Addr}
end
end Cn
namespace Cn
open PySem PySem.Spec PyProof.Rows L2 Ck
/-! a dict made by a comprehension, its keys of any kind that a dict of the hand layer has (o0: the empty dict of that kind) -/
section
variable {X : Cx}
/-- stored by the comprehension -/
theorem putIn {pins : List (Addr × Obj)} {σ : L2.St} {H H' : Hp} {s : Shared} {E : Value → Shared → Prop} {D : Addr} {y z : V} {u r : Value} {Q : Unit → Shared → Prop} (hu : X.A.units + 1 < cLine) (I : Inv X pins σ H s) (put : DPut H D y z H') (ry : RelV y u) (rz : RelV z r) (k : ∀ s', Inv X pins σ H' s' → Q () s') : wpAny (model X.prog X.w) X.A (dictSet D u r) Q E s := by
  rcases put with ⟨kvs, q, hD, rfl, hl, rfl⟩ | ⟨kvs, q, b, hD, rfl, hb, hl, rfl⟩
  · exact L2.d_dictSet I hD hl ry rz k
  · cases (show u = Value.ref b from ry)
    obtain ⟨c1, c2, xs, rel, dd⟩ := dt_of I.hok hD
    have c3 : xs.length ≤ sizeLine := Paired.length rel ▸ c1
    have c4 : (putK kvs q z).length ≤ sizeLine := Nat.le_trans (length_putK kvs q z) hl
    refine wpAny_dictSet_heap (hsz := c3) (Nat.lt_of_succ_lt hu) (key_of I.hok hb) dd (fun g ⟨o, es, ep, e1, e2, e3, e4, _, e5⟩ same => k _ ?_)
    have kept : ∀ (c : Addr) (ys : List V), H c = some (.tup ys) → upd H D (.dT (putK kvs q z)) c = some (.tup ys) := fun c ys hc => (upd_ne (L2.ne_of hc hD nofun)).trans hc
    exact d_write I (hD ▸ True.intro) same ⟨o, e1⟩ ⟨c4, c2, _, (rel.put q hb rz).keeps fun c ys hc => kept c ys hc, o, es, ep, e1, e2, e3, e4, e5⟩
/-- a turn's word and the walk's, as for a list -/
def tDcP (o0 : HO) (wi : TI) (g : TG) (tt : TT) (tk tv : TE) (vs : List Nat) : TE := fun σ H Q => wi σ H fun J H1 => ∀ D, H1 D = none → ∃ W : Nat → Nat → Hp → Prop, (∃ m, W 0 m (upd H1 D o0)) ∧ ∀ i m G, W i m G → (J.stop i G ∧ Q (.ref D) G) ∨
  (J.go i G ∧ ∃ Nx : Hp → Prop, (∀ G', Nx G' → ∃ m', m' < m ∧ W (i + 1) m' G') ∧ ∀ x G', J.yld i G x G' → g x (wipe σ vs) G' fun τ G2 => wipe τ vs = wipe σ vs ∧ tt τ G2 fun b G3 => if b = true then tk τ G3 fun y G4 => tv τ G4 fun z G5 => ∃ G6, DPut G5 D y z G6 ∧ Nx G6 else Nx G3)
theorem dcP_core {pins : List (Addr × Obj)} {s : Shared} {σ : L2.St} {H : Hp} {Q : VK} {o0 : HO} {kx vx tg iter : Expr} {ifs : List Expr} {sc : Scope} {own : List (Str × Nat)} {pos ipos : Pos} {wi : TI} {g : TG} {tt : TT} {tk tv : TE} {use : Option (Value → Sem Unit)} {Qf : Value → Shared → Prop} (I : Inv X pins σ H s) (h0 : o0 = .dK [] ∨ o0 = .dT []) (hc : X.calm = true) (hu : X.A.units + 1 < cLine) (hN : X.N.Nodup) (hi : PI X tg iter wi) (ok : BlkOk X.N X.env.scope sc own)
    (hg : ∀ s H C cl fp, PG (X.blk s H sc (compEnvC sc cl C X.env) fp) tg g) (ht : ∀ s H C cl fp, PTs (X.blk s H sc (compEnvC sc cl C X.env) fp) ifs tt) (hk : ∀ s H C cl fp, PE (X.blk s H sc (compEnvC sc cl C X.env) fp) kx tk) (hv : ∀ s H C cl fp, PE (X.blk s H sc (compEnvC sc cl C X.env) fp) vx tv)
    (hs : ∀ x, foldedSetIterable iter X.env x = pure x) (hw : tDcP o0 wi g tt tk tv (own.map (·.2)) σ H Q)
    (last : ∀ D C t m G, Inv X pins σ G t → Q (.ref D) G → t.heap.Ns C m → FpOk X pins G C → compPost (model X.prog X.w) X.A X.xe use Qf (.ref D) C (.ok .next) t) :
    wpAny (model X.prog X.w) X.A (comprehension (.DictComp kx vx [⟨tg, iter, ifs, 0⟩] sc pos) sc X.env ipos newDict false (eval iter X.env) use) Qf X.xe s := by
  have cells : ∀ y ∈ sc.names, y.2 = .free → ∃ c, X.env.cells.lookup y.1 = some c := fun y hy e => (ok.free y hy e).elim (fun z => I.ok.has _ (.inl z)) (fun z => I.ok.has _ (.inr z))
  refine wpAny_comprehension_free (use := use) rfl hs (closure_ok cells) ok.kind (fun y hy e => (ok.uniq y hy).trans (congrArg some e)) ?_
  refine thn (hi.run pins s σ H _ I hw) fun _ sa wa => thn wa fun _ sb ⟨it, fp, tn, J, Ha, e, Ia, T, stA, okA, qq⟩ => ?_
  subst e
  refine wpAny_newObj_type (newEnv_comp ?_)
  obtain ⟨D, hD⟩ : ∃ D, sb.heap.objs.size = D := ⟨_, rfl⟩
  have fresh : Ha D = none := Ia.hok.fresh (Nat.le_of_eq hD)
  obtain ⟨W, ⟨m0, w0⟩, turn⟩ := qq D fresh
  obtain ⟨sd, ed⟩ : ∃ sd : Shared, ({ sb with heap := sb.heap.push { cls := .type "dict", data := .dict #[] } } : Shared) = sd := ⟨_, rfl⟩
  have heq : sd.heap = sb.heap.push { cls := .type "dict", data := .dict #[] } := ed ▸ rfl
  have Ib : Inv X pins σ (upd Ha D o0) sd := by
    subst ed hD
    refine Ia.laid (t' := sb.toks) (fun b o e => Heap.get?_push_of_some _ e) (Nat.le_refl _) ?_
    rcases h0 with rfl | rfl
    · exact dk_empty sb.heap Ia.big
    · exact dt_empty sb.heap Ia.big
  have below : ∀ b ∈ fp, b < sb.heap.objs.size := fun b hb => let ⟨_, e, _⟩ := T.obj _ _ stA b hb; Heap.lt_size e
  have okB : ∀ b ∈ fp, FpOk X pins (upd Ha D o0) b ∧ b < sd.heap.objs.size := fun b hb => by
    have lt := below b hb
    exact ⟨⟨(upd_ne (hD ▸ Nat.ne_of_lt lt)).trans (okA b hb).1, (okA b hb).2⟩, by rw [heq, Heap.size_push]; exact Nat.lt_succ_of_lt lt⟩
  have stB : tn 0 sd.heap := T.keep _ _ _ stA fun b _ o e => heq ▸ Heap.get?_push_of_some _ e
  have Ic := block_start Ib ok hN okB
  obtain ⟨C, hC⟩ : ∃ C, sd.heap.objs.size = C := ⟨_, rfl⟩
  rw [hC] at Ic
  obtain ⟨cl, hcl⟩ : ∃ cl, cellsFrom (C + 1) sc.names (cloFrom X.env.cells sc.names []) = cl := ⟨_, rfl⟩
  rw [hcl] at Ic
  obtain ⟨G, hG⟩ : ∃ G, upd Ha D o0 = G := ⟨_, rfl⟩
  rw [hG] at Ib Ic okB w0
  have rg := hg sd G C cl fp
  have rt := ht sd G C cl fp
  have rk := hk sd G C cl fp
  have rv := hv sd G C cl fp
  obtain ⟨ce, hce⟩ : ∃ ce, compEnvC sc cl C X.env = ce := ⟨_, rfl⟩
  have ceL : ce.locals = C := hce ▸ rfl
  rw [hce] at Ic rg rt rk rv
  obtain ⟨se, hse⟩ : ∃ se : Shared, ({ sd with heap := pushCells (sd.heap.push { cls := .type "dict", data := .dict #[] }) sc.names } : Shared) = se := ⟨_, rfl⟩
  rw [hse] at Ic
  have stC : tn 0 se.heap := T.keep _ _ _ stB fun b _ o e => hse ▸ pushCells_keeps _ _ _ _ (Heap.get?_push_of_some _ e)
  have none0 : ∀ b ∈ fp, G b = none := fun b hb => (okB b hb).1.1
  have looks : ∀ {σ' : L2.St} {H' : Hp} {s' : Shared}, Inv (X.blk sd G sc ce fp) [] σ' H' s' → (∀ b ∈ fp, H' b = none) → ∀ b ∈ fp, FpOk (X.blk sd G sc ce fp) [] H' b := fun I' z b hb =>
    ⟨z b hb, (I'.ok.exf b hb).1, I'.ok.exfs b hb, .inl hb, fun x c e => (I'.ok.exf b hb).2 x c e, fun p hp => nomatch (show p ∈ ([] : List (Addr × Obj)) from hp)⟩
  have whole : codeAny (model X.prog X.w) X.A (.compLoop (.DictComp kx vx [⟨tg, iter, ifs, 0⟩] sc pos) 0 (.ref it) (.ref D) ce) (compPost (model X.prog X.w) X.A X.xe use Qf (.ref D) C) se := by
    refine compLoop_anyD (fun n s' => ∃ i H', Inv (X.blk sd G sc ce fp) [] (wipe σ (own.map (·.2))) H' s' ∧ tn i s'.heap ∧ (∀ b ∈ fp, H' b = none) ∧ W i n H') ?_ m0 ⟨0, G, Ic, stC, none0, w0⟩
    rintro n t ⟨i, Ht, It, stT, noneT, wT⟩
    rcases turn i n Ht wT with ⟨stop, out⟩ | ⟨go, Nx, less, step⟩
    · refine thnF (T.done (X.blk sd G sc ce fp) rfl rfl rfl hc i [] t _ Ht (fun _ _ => False) It (looks It noneT) stT stop) fun r t' ⟨hr, Iu⟩ => ?_
      subst hr
      have back : Inv X pins σ Ht t' := Ib.call' (ch := fp) Iu.os Iu.base Iu.hok Iu.bare fun b hb => let z := (okB b hb).1.2; ⟨z.2.2.1, z.1, z.2.2.2.1, z.2.2.2.2⟩
      have gone : Ht C = none := ceL ▸ Iu.free
      obtain ⟨m, hm, _⟩ := Iu.loc
      have hm : t'.heap.Ns C m := ceL ▸ hm
      exact last D C t' m Ht back out hm (Ib.fpOk (Nat.le_of_eq hC) gone)
    · refine thnF (T.item (X.blk sd G sc ce fp) rfl rfl rfl hc i [] t _ Ht (fun _ _ => False) It (looks It noneT) stT go) fun r t1 ⟨u, hr, hh⟩ => ?_
      subst hr
      refine thnF hh fun _ t2 ⟨x, Hu, Iu, rx, yx, stU, noneU⟩ => ?_
      have Iw := Iu.pinned (looks Iu noneU) (T.obj _ _ stU)
      refine thnF (rg.run _ t2 _ Hu x u _ Iw rx (step x Hu yx)) fun _ t3 ⟨τ, Hv, Iv, wip, qv⟩ => ?_
      refine thnF (rt.run _ t3 τ Hv _ Iv qv) fun b t4 ⟨Hw, Ix, qw⟩ => ?_
      have onward : ∀ (t' : Shared) (H' : Hp), Inv (X.blk sd G sc ce fp) ([] ++ pinsAt fp t2.heap) τ H' t' → Nx H' → ∃ m, m < n ∧ ∃ i H', Inv (X.blk sd G sc ce fp) [] (wipe σ (own.map (·.2))) H' t' ∧ tn i t'.heap ∧ (∀ b ∈ fp, H' b = none) ∧ W i m H' := by
        intro t' H' I' nx
        obtain ⟨m, lt, wm⟩ := less H' nx
        have held : ∀ b ∈ fp, ∀ o, t2.heap.get? b = some o → t'.heap.get? b = some o ∧ H' b = none := fun b hb o e =>
          have z := I'.pin (b, o) (List.mem_append_right _ (List.mem_append_right _ (mem_pinsAt hb e)))
          ⟨z.1, z.2.1⟩
        refine ⟨m, lt, i + 1, H', (I'.unpinned (pins := [])).weak (by rw [← wip, wipe_length]) (fun j v e => (wipe_some (wip ▸ e : (wipe τ (own.map (·.2)))[j]? = some (some v))).1), T.keep _ _ _ stU fun b hb o e => (held b hb o e).1, fun b hb => ?_, wm⟩
        exact let ⟨o, e, _⟩ := T.obj _ _ stU b hb; (held b hb o e).2
      cases b with
      | false =>
        rw [if_neg Bool.false_ne_true] at qw
        rw [if_neg Bool.false_ne_true]
        exact onward t4 Hw Ix qw
      | true =>
        rw [if_pos rfl] at qw
        rw [if_pos rfl]
        refine thnF (rk.run _ t4 τ Hw _ Ix qw) fun z1 t5 ⟨y, Hy, Iy, ry, qy⟩ => ?_
        refine thnF (rv.run _ t5 τ Hy _ Iy qy) fun z2 t6 ⟨z, Hz, Iz, rz, He, put, nx⟩ => ?_
        exact putIn (X := X.blk sd G sc ce fp) hu Iz put ry rz fun t7 I7 => onward t7 He I7 nx
  have start := codeAny_compStart_dict whole (T.self X.A 0 _ _ _ stC whole)
  rw [← hC] at hcl
  subst hcl hce ed hse
  show codeAny _ _ _ _ _
  rw [hC] at start ⊢
  exact hD ▸ start
/-- as a value -/
theorem pe_dcP {o0 : HO} {kx vx tg iter : Expr} {ifs : List Expr} {sc : Scope} {own : List (Str × Nat)} {pos : Pos} {wi : TI} {g : TG} {tt : TT} {tk tv : TE} (h0 : o0 = .dK [] ∨ o0 = .dT []) (hc : X.calm = true) (hu : X.A.units + 1 < cLine) (hN : X.N.Nodup) (hi : PI X tg iter wi) (ok : BlkOk X.N X.env.scope sc own)
    (hg : ∀ s H C cl fp, PG (X.blk s H sc (compEnvC sc cl C X.env) fp) tg g) (ht : ∀ s H C cl fp, PTs (X.blk s H sc (compEnvC sc cl C X.env) fp) ifs tt) (hk : ∀ s H C cl fp, PE (X.blk s H sc (compEnvC sc cl C X.env) fp) kx tk) (hv : ∀ s H C cl fp, PE (X.blk s H sc (compEnvC sc cl C X.env) fp) vx tv)
    (hs : ∀ x, foldedSetIterable iter X.env x = pure x := by intro _; rfl) : PE X (.DictComp kx vx [⟨tg, iter, ifs, 0⟩] sc pos) (tDcP o0 wi g tt tk tv (own.map (·.2))) := by
  refine ⟨fun pins s σ H Q I hw => ?_⟩
  rw [arm_eval_DictComp]
  refine dcP_core I h0 hc hu hN hi ok hg ht hk hv hs hw fun D C t m G It q hm ⟨f0, f1, _, f3, f4, f5⟩ => ⟨m, hm, fun g' same => ?_⟩
  exact ⟨.ref D, G, It.turned (t' := t.toks) (fun b o hb e => (same.2 b hb).trans e) f0 f1 f3 f4 f5, rfl, q⟩
/-- stored under a name on its own row -/
theorem ps_setDcP {i : Nat} {y : Str} {py spos : Pos} {o0 : HO} {kx vx tg iter : Expr} {ifs : List Expr} {sc : Scope} {own : List (Str × Nat)} {pos : Pos} {wi : TI} {g : TG} {tt : TT} {tk tv : TE} (h0 : o0 = .dK [] ∨ o0 = .dT []) (hc : X.calm = true) (hu : X.A.units + 1 < cLine) (hN : X.N.Nodup) (hy : X.N[i]? = some y) (hl : X.env.scope.names.lookup y = some .local)
    (sw : swapsWith (.DictComp kx vx [⟨tg, iter, ifs, 0⟩] sc pos) (some (.Name y py)) spos.line X.env = pure true) (hi : PI X tg iter wi) (ok : BlkOk X.N X.env.scope sc own)
    (hg : ∀ s H C cl fp, PG (X.blk s H sc (compEnvC sc cl C X.env) fp) tg g) (ht : ∀ s H C cl fp, PTs (X.blk s H sc (compEnvC sc cl C X.env) fp) ifs tt) (hk : ∀ s H C cl fp, PE (X.blk s H sc (compEnvC sc cl C X.env) fp) kx tk) (hv : ∀ s H C cl fp, PE (X.blk s H sc (compEnvC sc cl C X.env) fp) vx tv)
    (hs : ∀ x, foldedSetIterable iter X.env x = pure x := by intro _; rfl) :
    PS X (.Assign [.Name y py] (.DictComp kx vx [⟨tg, iter, ifs, 0⟩] sc pos) spos) (tAsg (tDcP o0 wi g tt tk tv (own.map (·.2))) (gName i)) := by
  refine ⟨fun pins s σ H D I hw => ?_⟩
  rw [exec_Assign_Name_used _ _ _ _ sw]
  have hw : tDcP o0 wi g tt tk tv (own.map (·.2)) σ H (fun x G => gName i x σ G D.nx) := hw
  have go := dcP_core (pos := pos) (ipos := firstIterPos [⟨tg, iter, ifs, 0⟩] pos) (use := some (assign (.Name y py) X.env)) (Qf := fun _ s' => SP X pins D .next s') I h0 hc hu hN hi ok hg ht hk hv hs hw fun L C t m G It q hm f => by
    refine wpAny_assign_Name (store_ok2 (v := V.ref L) It hN hy (.inl hl) rfl (fun t2 I2 ⟨a, sb, ha⟩ => ?_) (.inr hl))
    have ne : C ≠ a := ha.elim (fun z => z ▸ f.2.1) (fun z e => f.2.2.2.2.1 y a z e.symm)
    exact ⟨m, hm.sameBut sb ne, fun g' same => ⟨_, G, I2.turned (t' := t2.toks) (fun b o hb e => (same.2 b hb).trans e) f.1 f.2.1 f.2.2.2.1 f.2.2.2.2.1 f.2.2.2.2.2, q⟩⟩
  exact wpAny_bind (wpAny_standAt (wpAny_bind (wpAny_bind (thn go fun _ _ z => wpAny_pure (wpAny_pure z)))))
theorem sw_dict {kx vx : Expr} {gs : List Comprehension} {sc : Scope} {pos py : Pos} {y : Str} {l : Nat} {env : Env} (hk : env.scope.kind = .function) (hy : env.scope.names.lookup y = some .local) (hl : (py.line == pos.line) = true) (ha : (sc.names.any fun q => q.1 == y && (q.2 == .local || q.2 == .cell)) = false) :
    swapsWith (.DictComp kx vx gs sc pos) (some (.Name y py)) l env = pure true := by
  have e1 : env.kindOf y = some .local := hy
  have e2 : env.blockKind = .function := by unfold Env.blockKind; rw [hk]; rfl
  show (pure (env.blockKind == ScopeKind.function && env.kindOf y == some NameKind.local && py.line == pos.line && !(sc.names.any fun q => q.1 == y && (q.2 == .local || q.2 == .cell))) : Sem Bool) = pure true
  rw [e1, e2, hl, ha]
  rfl
end
end Cn
namespace Cn
open PySem PySem.Spec PyProof.Rows L2 Ck
def pk (p : Nat × Nat) : List Key := [.inl (p.1 : Int), .inl (p.2 : Int)]
theorem pk_inj {p q : Nat × Nat} (h : pk p = pk q) : p = q := by
  unfold pk at h
  simp only [List.cons.injEq, Sum.inl.injEq, Int.natCast_inj] at h
  exact Prod.ext h.1 h.2.1
theorem pk_tup {p : Nat × Nat} : (pk p).map kV = [vn p.1, vn p.2] := rfl
def byPair (v : Nat × Nat → V) (prs : List (Nat × Nat)) : List (List Key × V) := prs.map fun p => (pk p, v p)
theorem byPair_no {v : Nat × Nat → V} {q : Nat × Nat} : ∀ {prs : List (Nat × Nat)}, q ∉ prs → valV (byPair v prs) (pk q) = none
  | [], _ => rfl
  | p :: prs, h => (valV_neg (p := (pk p, v p)) (fun z => h (pk_inj z ▸ List.mem_cons_self))).trans (byPair_no fun z => h (List.mem_cons_of_mem _ z))
theorem byPair_yes {v : Nat × Nat → V} {q : Nat × Nat} : ∀ {prs : List (Nat × Nat)}, q ∈ prs → valV (byPair v prs) (pk q) = some (v q)
  | p :: prs, h => by
    by_cases e : p = q
    · rw [e]
      exact valV_pos (p := (pk q, v q)) rfl
    · refine (valV_neg (p := (pk p, v p)) (fun z => e (pk_inj z))).trans (byPair_yes ?_)
      rcases List.mem_cons.mp h with z | z
      · exact absurd z.symm e
      · exact z
theorem byPair_put {v : Nat × Nat → V} {q : Nat × Nat} {prs : List (Nat × Nat)} (h : q ∉ prs) : putK (byPair v prs) (pk q) (v q) = byPair v (prs ++ [q]) := by
  rw [putK_new _ (byPair_no h)]
  unfold byPair
  rw [List.map_append]
  rfl
theorem byPair_set {v : Nat × Nat → V} {q : Nat × Nat} {prs : List (Nat × Nat)} {x : V} (h : q ∈ prs) : putK (byPair v prs) (pk q) x = byPair (fun p => if p = q then x else v p) prs := by
  unfold putK
  have a : ((byPair v prs).any fun kv => decide (kv.1 = pk q)) = true := by rw [valV_any, byPair_yes h]; rfl
  rw [if_pos a]
  unfold byPair
  rw [List.map_map]
  refine List.map_congr_left fun p _ => ?_
  show (if pk p = pk q then (pk p, x) else (pk p, v p)) = (pk p, if p = q then x else v p)
  by_cases e : p = q
  · rw [e, if_pos rfl, if_pos rfl]
  · rw [if_neg (fun z => e (pk_inj z)), if_neg e]
theorem byPair_len {v : Nat × Nat → V} {prs : List (Nat × Nat)} : (byPair v prs).length = prs.length := List.length_map ..
def lexLt (p q : Nat × Nat) : Prop := p.1 < q.1 ∨ (p.1 = q.1 ∧ p.2 < q.2)
theorem pairsOf_mem {ps : List (Option Nat)} {be as : List Nat} {i j : Nat} : (i, j) ∈ pairsOf ps be as ↔ i ∈ be ∧ j ∈ as ∧ i ∈ road ps j := by
  unfold pairsOf
  rw [List.mem_flatMap]
  constructor
  · rintro ⟨a, ha, h⟩
    obtain ⟨b, hb, e⟩ := List.mem_map.mp h
    obtain ⟨hb1, hb2⟩ := List.mem_filter.mp hb
    cases e
    exact ⟨ha, hb1, of_decide_eq_true hb2⟩
  · rintro ⟨h1, h2, h3⟩
    exact ⟨i, h1, List.mem_map.mpr ⟨j, List.mem_filter.mpr ⟨h2, decide_eq_true h3⟩, rfl⟩⟩
theorem pairsOf_asc {ps : List (Option Nat)} {as : List Nat} (ha : as.Pairwise (· < ·)) : ∀ {be : List Nat}, be.Pairwise (· < ·) → (pairsOf ps be as).Pairwise lexLt
  | [], _ => .nil
  | i :: be, hb => by
    obtain ⟨h1, h2⟩ := List.pairwise_cons.mp hb
    show (((as.filter fun j => decide (i ∈ road ps j)).map (Prod.mk i)) ++ pairsOf ps be as).Pairwise lexLt
    refine List.pairwise_append.mpr ⟨List.pairwise_map.mpr ((ha.filter _).imp fun h => .inr ⟨rfl, h⟩), pairsOf_asc ha h2, fun x hx y hy => ?_⟩
    obtain ⟨j, _, rfl⟩ := List.mem_map.mp hx
    exact .inl (h1 _ (pairsOf_mem.mp (show (y.1, y.2) ∈ _ from hy)).1)
theorem pairsOf_nd {f : Fo} (ok : FoOk f) : (pairsOf f.ps f.be f.as).Nodup := (pairsOf_asc ok.as ok.be).imp fun h e => by
  subst e
  rcases h with h | h <;> omega
theorem vnEm (ns : List Nat) : (ns.map vn).isEmpty = ns.isEmpty := by cases ns <;> rfl
structure NoteOk (prs : List (Nat × Nat)) (p : List Nat × List Nat) : Prop where
  a1 : p.1.Pairwise (· < ·)
  a2 : p.2.Pairwise (· < ·)
  n1 : p.1 ≠ []
  n2 : p.2 ≠ []
  l1 : p.1.length ≤ 60
  l2 : p.2.length ≤ 60
  sub : ∀ i ∈ p.1, ∀ j ∈ p.2, (i, j) ∈ prs
section
variable {P : Program} {w : World} {K : PySem.W.Frag} {mg : Str → Option Value} {base : Heap} {C : Addr}
end
end Cn
namespace Cn
open PySem PySem.Spec PyProof.Rows L2 Ck
theorem PI.orr {X : Cx} {tg e : Expr} {w1 w2 : TI} (h : PI X tg e w1) (k : PI X tg e w2) : PI X tg e (fun σ H R => w1 σ H R ∨ w2 σ H R) := ⟨fun pins s σ H R I q => q.elim (h.run pins s σ H R I) (k.run pins s σ H R I)⟩
theorem dcP_list {K : PySem.W.Frag} {o0 : HO} {a : Addr} {xs : List V} {g : TG} {tt : TT} {tk tv : TE} {vs : List Nat} {σ : L2.St} {H1 : Hp} {D : Addr} {Qd : Hp → Prop} (Pv : Nat → Hp → Prop) (h0 : Pv 0 (upd H1 D o0)) (hl : ∀ i H, i ≤ xs.length → Pv i H → SqL K H a xs)
    (hs : ∀ i x H, xs[i]? = some x → Pv i H → g x (wipe σ vs) H fun τ G2 => wipe τ vs = wipe σ vs ∧ tt τ G2 fun b G3 => if b = true then tk τ G3 fun y G4 => tv τ G4 fun z G5 => ∃ G6, DPut G5 D y z G6 ∧ Pv (i + 1) G6 else Pv (i + 1) G3) (hd : ∀ H, Pv xs.length H → Qd H) :
    ∃ W : Nat → Nat → Hp → Prop, (∃ m, W 0 m (upd H1 D o0)) ∧ ∀ i m G, W i m G → ((Itl K a).stop i G ∧ Qd G) ∨
      ((Itl K a).go i G ∧ ∃ Nx : Hp → Prop, (∀ G', Nx G' → ∃ m', m' < m ∧ W (i + 1) m' G') ∧ ∀ x G', (Itl K a).yld i G x G' → g x (wipe σ vs) G' fun τ G2 => wipe τ vs = wipe σ vs ∧ tt τ G2 fun b G3 => if b = true then tk τ G3 fun y G4 => tv τ G4 fun z G5 => ∃ G6, DPut G5 D y z G6 ∧ Nx G6 else Nx G3) := by
  refine ⟨fun i m G => m = xs.length - i ∧ i ≤ xs.length ∧ Pv i G, ⟨_, rfl, Nat.zero_le _, h0⟩, ?_⟩
  rintro i m G ⟨rfl, hi, p⟩
  have sq := hl i G hi p
  rcases Nat.lt_or_ge i xs.length with lt | ge
  · refine .inr ⟨⟨xs, xs[i], sq, List.getElem?_eq_getElem lt⟩, Pv (i + 1), fun G' p' => ⟨_, by omega, rfl, lt, p'⟩, ?_⟩
    rintro x G' ⟨rfl, y⟩
    exact hs i x _ (y xs sq) p
  · have e : i = xs.length := Nat.le_antisymm hi ge
    exact .inl ⟨⟨xs, sq, ge⟩, hd G (e ▸ p)⟩
def SeqH (H : Hp) (b : Addr) (us : List V) : Prop := H b = some (.lst us) ∨ H b = some (.tup us)
theorem seqSame {H H' : Hp} (s : Same H H') {b : Addr} {us : List V} (h : SeqH H b us) : SeqH H' b us := h.imp (s _ _) (s _ _)
theorem seqSq {K : PySem.W.Frag} {H : Hp} {b : Addr} {us : List V} (h : SeqH H b us) : SqL K H b us ∨ SqT K H b us := h.imp (fun z => .inl (.inl z)) (fun z => .inl (.inl z))
theorem seqWalk {K : PySem.W.Frag} {a : Addr} {xs : List V} {σ : L2.St} {H : Hp} {i : Nat} {R : It → Hp → Prop} {H0 : Hp} (hv : σ[i]? = some (some (.ref a))) (hq : SeqH H0 a xs) (s0 : Same H0 H) (k : ∀ J, Walk J xs.length (fun G => Same H0 G) (YAt xs) → R J H) : iList K (tVar i) σ H R ∨ iTup K (tVar i) σ H R :=
  hq.elim (fun z => .inl ⟨_, hv, a, rfl, ⟨xs, .inl (.inl (s0 _ _ z))⟩, k _ ((walk_list (K := K)).mono (fun _ (s : Same H0 _) => .inl (.inl (s _ _ z))) fun _ _ _ _ _ _ y => y)⟩) (fun z => .inr ⟨_, hv, a, rfl, ⟨xs, .inl (.inl (s0 _ _ z))⟩, k _ ((walk_tup (K := K)).mono (fun _ (s : Same H0 _) => .inl (.inl (s _ _ z))) fun _ _ _ _ _ _ y => y)⟩)
theorem seqTyB {K : PySem.W.Frag} {H : Hp} {b : Addr} {us : List V} (h : SeqH H b us) : ∃ t, TyX K H (.ref b) t ∧ PySem.W.kitAny K t [.type "list", .type "tuple"] = some true := by
  rcases h with h | h
  · exact ⟨.type "list", .base (.lst h), kitAny_cons (b := true) (kit_ty (by decide +kernel)) (fun z => absurd z (by decide)) fun _ => rfl⟩
  · exact ⟨.type "tuple", .base (.tup h), kitAny_cons (b := false) (kit_ty (by decide +kernel)) (fun _ => kitAny_cons (b := true) (kit_ty (by decide +kernel)) (fun z => absurd z (by decide)) fun _ => rfl) (fun z => absurd z (by decide))⟩
theorem pairedGetQ {α β : Type} {F : α → β → Prop} : ∀ {xs : List α} {ys : List β} {i : Nat} {x : α}, Paired F xs ys → xs[i]? = some x → ∃ y, ys[i]? = some y ∧ F x y
  | _, _, i, x, .nil, h => by rw [List.getElem?_nil] at h; cases h
  | _, _, 0, x, .cons a t, h => by cases h; exact ⟨_, rfl, a⟩
  | _, _, i + 1, x, .cons a t, h => by
    rw [List.getElem?_cons_succ] at h
    obtain ⟨y, h1, h2⟩ := pairedGetQ t h
    exact ⟨y, by rw [List.getElem?_cons_succ]; exact h1, h2⟩
theorem nd_take {α : Type} {xs : List α} {m : Nat} {x : α} (nd : xs.Nodup) (h : xs[m]? = some x) : x ∉ xs.take m := fun z => by
  obtain ⟨j, hj⟩ := List.getElem?_of_mem z
  rw [List.getElem?_take] at hj
  split at hj
  · have h1 := List.getElem?_eq_some_iff.mp h
    have h2 := List.getElem?_eq_some_iff.mp hj
    have := (List.getElem_inj (h₀ := h2.1) (h₁ := h1.1) nd).mp (h2.2.trans h1.2.symm)
    omega
  · cases hj
section
variable {P : Program} {w : World} {K : PySem.W.Frag} {mg : Str → Option Value} {base : Heap} {C : Addr}
structure NotesOk (prs : List (Nat × Nat)) (ns : List (List Nat × List Nat)) : Prop where
  len : ns.length ≤ 200
  all : ∀ p ∈ ns, NoteOk prs p
end
end Cn
namespace Cn
open PySem PySem.Spec PyProof.Rows L2 Ck
def times (ns : List (List Nat × List Nat)) (p : Nat × Nat) : Nat := ns.countP fun q => decide (p.1 ∈ q.1) && decide (p.2 ∈ q.2)
theorem times_snoc {ns : List (List Nat × List Nat)} {q : List Nat × List Nat} {p : Nat × Nat} : times (ns ++ [q]) p = times ns p + if p.1 ∈ q.1 ∧ p.2 ∈ q.2 then 1 else 0 := by
  unfold times
  rw [List.countP_append, List.countP_singleton]
  by_cases c : p.1 ∈ q.1 ∧ p.2 ∈ q.2
  · rw [if_pos c, if_pos (by rw [decide_eq_true c.1, decide_eq_true c.2]; rfl)]
  · rw [if_neg c, if_neg (fun z => c ⟨of_decide_eq_true (Bool.and_eq_true _ _ ▸ z).1, of_decide_eq_true (Bool.and_eq_true _ _ ▸ z).2⟩)]
def addRow (g : Nat × Nat → Nat) (i : Nat) (js : List Nat) : Nat × Nat → Nat := fun p => g p + if p.1 = i ∧ p.2 ∈ js then 1 else 0
def addBox (g : Nat × Nat → Nat) (is js : List Nat) : Nat × Nat → Nat := fun p => g p + if p.1 ∈ is ∧ p.2 ∈ js then 1 else 0
theorem addRow_nil {g : Nat × Nat → Nat} {i : Nat} : addRow g i [] = g := funext fun p => by
  show g p + (if p.1 = i ∧ p.2 ∈ [] then 1 else 0) = g p
  rw [if_neg (fun z => nomatch z.2)]
  rfl
theorem addBox_nil {g : Nat × Nat → Nat} {js : List Nat} : addBox g [] js = g := funext fun p => by
  show g p + (if p.1 ∈ [] ∧ p.2 ∈ js then 1 else 0) = g p
  rw [if_neg (fun z => nomatch z.1)]
  rfl
theorem addRow_snoc {g : Nat × Nat → Nat} {i j : Nat} {js : List Nat} (h : j ∉ js) : (fun p => if p = (i, j) then addRow g i js (i, j) + 1 else addRow g i js p) = addRow g i (js ++ [j]) := funext fun p => by
  show (if p = (i, j) then g (i, j) + (if i = i ∧ j ∈ js then 1 else 0) + 1 else g p + (if p.1 = i ∧ p.2 ∈ js then 1 else 0)) = g p + (if p.1 = i ∧ p.2 ∈ js ++ [j] then 1 else 0)
  by_cases e : p = (i, j)
  · rw [if_pos e, if_neg (fun z => h z.2), e, if_pos ⟨rfl, List.mem_append_right _ (List.mem_singleton.mpr rfl)⟩]
  · rw [if_neg e]
    by_cases c : p.1 = i ∧ p.2 ∈ js
    · rw [if_pos c, if_pos ⟨c.1, List.mem_append_left _ c.2⟩]
    · rw [if_neg c, if_neg (fun z => (List.mem_append.mp z.2).elim (fun y => c ⟨z.1, y⟩) fun y => e (Prod.ext z.1 (List.mem_singleton.mp y)))]
theorem addBox_snoc {g : Nat × Nat → Nat} {i : Nat} {is js : List Nat} (h : i ∉ is) : addRow (addBox g is js) i js = addBox g (is ++ [i]) js := funext fun p => by
  show g p + (if p.1 ∈ is ∧ p.2 ∈ js then 1 else 0) + (if p.1 = i ∧ p.2 ∈ js then 1 else 0) = g p + (if p.1 ∈ is ++ [i] ∧ p.2 ∈ js then 1 else 0)
  by_cases e : p.1 = i
  · by_cases c : p.2 ∈ js <;> simp [e, h, c]
  · by_cases c : p.1 ∈ is <;> by_cases d : p.2 ∈ js <;> simp [e, c, d]
def cntD (g : Nat × Nat → Nat) (prs : List (Nat × Nat)) : List (List Key × V) := byPair (fun p => vn (g p)) prs
theorem cntD_up {g : Nat × Nat → Nat} {q : Nat × Nat} {prs : List (Nat × Nat)} (h : q ∈ prs) : putK (cntD g prs) (pk q) (.int ((g q : Int) + 1)) = cntD (fun p => if p = q then g q + 1 else g p) prs := by
  unfold cntD
  rw [byPair_set h]
  congr 1
  funext p
  show (if p = q then V.int ((g q : Int) + 1) else vn (g p)) = vn (if p = q then g q + 1 else g p)
  split
  · rfl
  · rfl
theorem nd_asc {xs : List Nat} (h : xs.Pairwise (· < ·)) : xs.Nodup := h.imp fun z e => by subst e; omega
theorem take_at {α : Type} {xs : List α} {m : Nat} {x : α} (h : xs[m]? = some x) : xs.take (m + 1) = xs.take m ++ [x] := by rw [List.take_add_one, h]; rfl
section
variable {P : Program} {w : World} {K : PySem.W.Frag} {mg : Str → Option Value} {base : Heap} {C : Addr}
end
end Cn
namespace Cn
open PySem PySem.Spec PyProof.Rows L2 Ck
theorem ixNat {n i : Nat} (h : i < n) : ixN n (i : Int) = some i := by
  unfold ixN
  rw [if_pos (Int.natCast_nonneg _), if_pos (by omega), Int.toNat_natCast]
theorem noneBack {H H1 : Hp} {D : Addr} (s : Same H H1) (h : H1 D = none) : H D = none := by
  cases e : H D with
  | none => rfl
  | some o => rw [s _ _ e] at h; cases h
end Cn
namespace Cn
open PySem PySem.Spec PyProof.Rows L2 Ck
/-! two tuples of numbers side by side -/
theorem small6063 {m : Nat} (h : m ≤ 6100) : m < sizeLine := Nat.lt_of_le_of_lt h (by decide)
/-- budgets of so many places -/
def BuAt (H : Hp) (b : Addr) (T R : List Nat) : Prop := ∃ t r, H b = some (.tup [.ref t, .ref r]) ∧ TN H t T ∧ TN H r R
theorem buSame {H H' : Hp} {b : Addr} {T R : List Nat} (s : Same H H') (h : BuAt H b T R) : BuAt H' b T R := by
  obtain ⟨t, r, h1, h2, h3⟩ := h
  exact ⟨t, r, s _ _ h1, s _ _ h2, s _ _ h3⟩
/-- own look: at no place greater -/
def leB (n : Nat) (X Y : List Nat) : Bool := ((List.range n).map fun j => decide (X.getD j 0 ≤ Y.getD j 0)).all id
theorem leB_iff {n : Nat} {X Y : List Nat} : leB n X Y = true ↔ ∀ j, j < n → X.getD j 0 ≤ Y.getD j 0 := by
  unfold leB
  rw [List.all_eq_true]
  constructor
  · intro h j hj
    exact of_decide_eq_true (h _ (List.mem_map.mpr ⟨j, List.mem_range.mpr hj, rfl⟩))
  · intro h x hx
    obtain ⟨j, hj, rfl⟩ := List.mem_map.mp hx
    exact decide_eq_true (h j (List.mem_range.mp hj))
theorem pairedUnsnoc {α β : Type} {F : α → β → Prop} {y : β} : ∀ {us : List α} {ws : List β}, Paired F us (ws ++ [y]) → ∃ us' x, us = us' ++ [x] ∧ Paired F us' ws ∧ F x y
  | _, [], .cons a .nil => ⟨[], _, rfl, .nil, a⟩
  | _, z :: ws, .cons a t => by
    obtain ⟨us', x, rfl, h1, h2⟩ := pairedUnsnoc t
    exact ⟨_ :: us', x, rfl, .cons a h1, h2⟩
theorem lastG {us : List V} {v : V} : (us ++ [v])[(us ++ [v]).length - 1]? = some v := by
  rw [List.length_append]
  show (us ++ [v])[us.length + 1 - 1]? = some v
  rw [Nat.add_sub_cancel, List.getElem?_append_right (Nat.le_refl _), Nat.sub_self]
  rfl
end Cn
namespace Cn
/-! notes held, counted twice -/
theorem countP_or {α : Type} {f g : α → Bool} : ∀ {l : List α}, (∀ x ∈ l, ¬ (f x = true ∧ g x = true)) → (l.countP fun x => f x || g x) = l.countP f + l.countP g
  | [], _ => rfl
  | x :: l, h => by
    have ih := countP_or (f := f) (g := g) (l := l) fun y hy => h y (List.mem_cons_of_mem _ hy)
    have hx := h x List.mem_cons_self
    rw [List.countP_cons, List.countP_cons, List.countP_cons, ih]
    cases a : f x <;> cases b : g x <;> simp_all <;> omega
theorem countP_one {p : Nat × Nat} : ∀ {l : List (Nat × Nat)}, l.Nodup → p ∈ l → (l.countP fun q => decide (q = p)) = 1
  | x :: l, nd, h => by
    obtain ⟨n1, n2⟩ := List.nodup_cons.mp nd
    rw [List.countP_cons]
    by_cases e : x = p
    · subst e
      rw [List.countP_eq_zero.mpr fun q hq => by simp only [decide_eq_true_eq]; exact fun z => n1 (z ▸ hq)]
      simp
    · rw [countP_one n2 ((List.mem_cons.mp h).resolve_left fun z => e z.symm)]
      simp [e]
theorem countRow {i : Nat} {prs : List (Nat × Nat)} (nd : prs.Nodup) : ∀ {js : List Nat}, js.Nodup → (∀ j ∈ js, (i, j) ∈ prs) → (prs.countP fun q => decide (q.1 = i) && decide (q.2 ∈ js)) = js.length
  | [], _, _ => List.countP_eq_zero.mpr fun q _ => by simp
  | j :: js, h, m => by
    obtain ⟨n1, n2⟩ := List.nodup_cons.mp h
    have ih := countRow (js := js) nd n2 fun k hk => m k (List.mem_cons_of_mem _ hk)
    have e : (prs.countP fun q => decide (q.1 = i) && decide (q.2 ∈ j :: js)) = prs.countP fun q => decide (q = (i, j)) || (decide (q.1 = i) && decide (q.2 ∈ js)) := by
      refine List.countP_congr fun q _ => ?_
      simp only [Bool.and_eq_true, Bool.or_eq_true, decide_eq_true_eq, List.mem_cons]
      constructor
      · rintro ⟨a, b | b⟩
        · exact .inl (Prod.ext a b)
        · exact .inr ⟨a, b⟩
      · rintro (z | ⟨a, b⟩)
        · rw [z]; exact ⟨rfl, .inl rfl⟩
        · exact ⟨a, .inr b⟩
    rw [e, countP_or fun q _ => ?_, countP_one nd (m j List.mem_cons_self), ih, List.length_cons, Nat.add_comm]
    rintro ⟨a, b⟩
    simp only [Bool.and_eq_true, decide_eq_true_eq] at a b
    rw [a] at b
    exact n1 b.2
theorem countBox {prs : List (Nat × Nat)} {js : List Nat} (nd : prs.Nodup) (hj : js.Nodup) : ∀ {is : List Nat}, is.Nodup → (∀ i ∈ is, ∀ j ∈ js, (i, j) ∈ prs) → (prs.countP fun q => decide (q.1 ∈ is) && decide (q.2 ∈ js)) = is.length * js.length
  | [], _, _ => by rw [List.length_nil, Nat.zero_mul]; exact List.countP_eq_zero.mpr fun q _ => by simp
  | i :: is, h, m => by
    obtain ⟨n1, n2⟩ := List.nodup_cons.mp h
    have ih := countBox (is := is) nd hj n2 fun k hk => m k (List.mem_cons_of_mem _ hk)
    have e : (prs.countP fun q => decide (q.1 ∈ i :: is) && decide (q.2 ∈ js)) = prs.countP fun q => (decide (q.1 = i) && decide (q.2 ∈ js)) || (decide (q.1 ∈ is) && decide (q.2 ∈ js)) := by
      refine List.countP_congr fun q _ => ?_
      simp only [Bool.and_eq_true, Bool.or_eq_true, decide_eq_true_eq, List.mem_cons]
      constructor
      · rintro ⟨a | a, b⟩
        · exact .inl ⟨a, b⟩
        · exact .inr ⟨a, b⟩
      · rintro (⟨a, b⟩ | ⟨a, b⟩)
        · exact ⟨.inl a, b⟩
        · exact ⟨.inr a, b⟩
    rw [e, countP_or fun q _ => ?_, countRow nd hj (m i List.mem_cons_self), ih, List.length_cons, Nat.add_mul, Nat.one_mul, Nat.add_comm]
    rintro ⟨a, b⟩
    simp only [Bool.and_eq_true, decide_eq_true_eq] at a b
    rw [a.1] at b
    exact n1 b.1
theorem sumAdd {α : Type} {f g : α → Nat} : ∀ {l : List α}, (l.map fun x => f x + g x).sum = (l.map f).sum + (l.map g).sum
  | [] => rfl
  | x :: l => by
    have := sumAdd (f := f) (g := g) (l := l)
    simp only [List.map_cons, List.sum_cons]
    omega
theorem sumCount {α : Type} {c : α → Bool} : ∀ {l : List α}, (l.map fun x => if c x = true then 1 else 0).sum = l.countP c
  | [] => rfl
  | x :: l => by
    have := sumCount (c := c) (l := l)
    simp only [List.map_cons, List.sum_cons, List.countP_cons]
    omega
theorem sumLe {α : Type} {f : α → Nat} : ∀ {l : List α}, (∀ x ∈ l, 1 ≤ f x) → l.length ≤ (l.map f).sum ∧ ((l.map f).sum = l.length ↔ ∀ x ∈ l, f x ≤ 1)
  | [], _ => ⟨Nat.le_refl _, by simp⟩
  | x :: l, h => by
    obtain ⟨h1, h2⟩ := sumLe (l := l) fun y hy => h y (List.mem_cons_of_mem _ hy)
    have hx := h x List.mem_cons_self
    simp only [List.map_cons, List.sum_cons, List.length_cons, List.forall_mem_cons]
    refine ⟨by omega, fun e => ⟨by omega, h2.mp (by omega)⟩, fun ⟨a, b⟩ => ?_⟩
    have := h2.mpr b
    omega
end Cn
namespace Ck
/-! over and under, once more -/
section
variable {ps : List (Option Nat)}
theorem rd_cases (hp : Ps ps) {x y : Nat} (hy : y < ps.length) (h : x ∈ road ps y) : x = y ∨ ∃ p, ps[y]? = some (some p) ∧ p < y ∧ x ∈ road ps p := by
  rcases opt_cases hy with e | ⟨p, e⟩
  · rw [road_none e] at h
    exact .inl (List.mem_singleton.mp h)
  · rw [road_some hp e] at h
    rcases List.mem_append.mp h with h | h
    · exact .inr ⟨p, e, hp y p e, h⟩
    · exact .inl (List.mem_singleton.mp h)
theorem rd_up (hp : Ps ps) {x y p : Nat} (e : ps[y]? = some (some p)) (h : x ∈ road ps p) : x ∈ road ps y := by
  rw [road_some hp e]
  exact List.mem_append_left _ h
theorem rd_trans (hp : Ps ps) {x y : Nat} : ∀ z, z < ps.length → x ∈ road ps y → y ∈ road ps z → x ∈ road ps z := by
  intro z
  induction z using Nat.strongRecOn with
  | ind z ih =>
    intro hz hxy hyz
    rcases rd_cases hp hz hyz with rfl | ⟨p, e, hpz, h⟩
    · exact hxy
    · exact rd_up hp e (ih p hpz (Nat.lt_trans hpz hz) hxy h)
theorem rd_lin (hp : Ps ps) {x y : Nat} : ∀ z, z < ps.length → x ∈ road ps z → y ∈ road ps z → x ∈ road ps y ∨ y ∈ road ps x := by
  intro z
  induction z using Nat.strongRecOn with
  | ind z ih =>
    intro hz hx hy
    rcases rd_cases hp hz hx with rfl | ⟨p, e, hpz, h⟩
    · exact .inr hy
    · rcases rd_cases hp hz hy with rfl | ⟨p', e', _, h'⟩
      · exact .inl hx
      · rw [e] at e'
        cases e'
        exact ih p hpz (Nat.lt_trans hpz hz) h h'
theorem rd_anti (hp : Ps ps) {x y : Nat} (hx : x < ps.length) (hy : y < ps.length) (h : x ∈ road ps y) (k : y ∈ road ps x) : x = y := by
  have := road_le hp y hy x h
  have := road_le hp x hx y k
  omega
theorem rd_lt (hp : Ps ps) {x y : Nat} (hy : y < ps.length) (h : x ∈ road ps y) : x < ps.length := Nat.lt_of_le_of_lt (road_le hp y hy x h) hy
theorem road_asc (hp : Ps ps) : ∀ z, z < ps.length → (road ps z).Pairwise (· < ·) := by
  intro z
  induction z using Nat.strongRecOn with
  | ind z ih =>
    intro hz
    rcases opt_cases hz with e | ⟨p, e⟩
    · rw [road_none e]; exact List.pairwise_singleton _ _
    · have hl := hp z p e
      rw [road_some hp e, List.pairwise_append]
      refine ⟨ih p hl (Nat.lt_trans hl hz), List.pairwise_singleton _ _, fun a ha b hb => ?_⟩
      rw [List.mem_singleton.mp hb]
      exact Nat.lt_of_le_of_lt (road_le hp p (Nat.lt_trans hl hz) a ha) hl
end
/-! the topmost place up to which none is cut -/
def top (ps : List (Option Nat)) (cut : List Nat) (i : Nat) : Nat :=
  match ps[i]? with
  | some (some p) => if _h : p < i then (if p ∈ cut then i else top ps cut p) else i
  | _ => i
termination_by i
section
variable {ps : List (Option Nat)} {cut : List Nat}
theorem top_none {i : Nat} (h : ps[i]? = some none) : top ps cut i = i := by rw [top, h]
theorem top_cut {i p : Nat} (hp : Ps ps) (h : ps[i]? = some (some p)) (c : p ∈ cut) : top ps cut i = i := by
  rw [top, h]
  dsimp only
  rw [dif_pos (hp i p h), if_pos c]
theorem top_up {i p : Nat} (hp : Ps ps) (h : ps[i]? = some (some p)) (c : p ∉ cut) : top ps cut i = top ps cut p := by
  rw [top, h]
  dsimp only
  rw [dif_pos (hp i p h), if_neg c]
theorem top_road (hp : Ps ps) : ∀ x, x < ps.length → top ps cut x ∈ road ps x := by
  intro x
  induction x using Nat.strongRecOn with
  | ind x ih =>
    intro hx
    rcases opt_cases hx with e | ⟨p, e⟩
    · rw [top_none e]; exact road_self hp hx
    · by_cases c : p ∈ cut
      · rw [top_cut hp e c]; exact road_self hp hx
      · rw [top_up hp e c]
        exact rd_up hp e (ih p (hp x p e) (Nat.lt_trans (hp x p e) hx))
theorem top_free (hp : Ps ps) : ∀ x, x < ps.length → x ∉ cut → top ps cut x ∉ cut := by
  intro x
  induction x using Nat.strongRecOn with
  | ind x ih =>
    intro hx nx
    rcases opt_cases hx with e | ⟨p, e⟩
    · rw [top_none e]; exact nx
    · by_cases c : p ∈ cut
      · rw [top_cut hp e c]; exact nx
      · rw [top_up hp e c]
        exact ih p (hp x p e) (Nat.lt_trans (hp x p e) hx) c
/-- all from the topmost one down are alike -/
theorem top_seg (hp : Ps ps) {z : Nat} : ∀ x, x < ps.length → x ∉ cut → z ∈ road ps x → top ps cut x ∈ road ps z → z ∉ cut ∧ top ps cut z = top ps cut x := by
  intro x
  induction x using Nat.strongRecOn with
  | ind x ih =>
    intro hx nx hz ht
    rcases rd_cases hp hx hz with rfl | ⟨p, e, hpx, h⟩
    · exact ⟨nx, rfl⟩
    · by_cases c : p ∈ cut
      · rw [top_cut hp e c] at ht
        have h1 := road_le hp p (Nat.lt_trans hpx hx) z h
        have h2 := road_le hp z (Nat.lt_of_le_of_lt h1 (Nat.lt_trans hpx hx)) x ht
        omega
      · rw [top_up hp e c] at ht ⊢
        exact ih p hpx (Nat.lt_trans hpx hx) c h ht
theorem top_same (hp : Ps ps) {y : Nat} : ∀ x, x < ps.length → y ∈ road ps x → (∀ z ∈ road ps x, y ∈ road ps z → z ≠ x → z ∉ cut) → top ps cut x = top ps cut y := by
  intro x
  induction x using Nat.strongRecOn with
  | ind x ih =>
    intro hx hy hf
    rcases rd_cases hp hx hy with rfl | ⟨p, e, hpx, h⟩
    · rfl
    · have hpl := Nat.lt_trans hpx hx
      have c : p ∉ cut := hf p (rd_up hp e (road_self hp hpl)) h (Nat.ne_of_lt hpx)
      rw [top_up hp e c]
      refine ih p hpx hpl h fun z hz hyz _ => hf z (rd_up hp e hz) hyz fun e2 => ?_
      have := road_le hp p hpl z hz
      omega
/-- joined with a place over it just if none between is cut -/
theorem join_iff (hp : Ps ps) {x y : Nat} (hx : x < ps.length) (hy : y ∈ road ps x) : (x ∉ cut ∧ top ps cut x = top ps cut y) ↔ ∀ z ∈ road ps x, y ∈ road ps z → z ∉ cut := by
  have hyl := rd_lt hp hx hy
  constructor
  · rintro ⟨nx, e⟩ z hz hyz
    have hzl := rd_lt hp hx hz
    exact (top_seg hp x hx nx hz (e ▸ rd_trans hp z hzl (top_road hp y hyl) hyz)).1
  · intro h
    exact ⟨h x (road_self hp hx) hy, top_same hp x hx hy fun z hz hyz _ => h z hz hyz⟩
/-! one place more cut -/
theorem cut_far (hp : Ps ps) {x : Nat} : ∀ y, y < ps.length → ¬ (x ∈ road ps y ∧ top ps cut y = top ps cut x) → top ps (x :: cut) y = top ps cut y := by
  intro y
  induction y using Nat.strongRecOn with
  | ind y ih =>
    intro hy hn
    rcases opt_cases hy with e | ⟨p, e⟩
    · rw [top_none e, top_none e]
    · by_cases c : p ∈ cut
      · rw [top_cut hp e c, top_cut hp e (List.mem_cons_of_mem _ c)]
      · have hpy := hp y p e
        have hpl := Nat.lt_trans hpy hy
        have nx : p ≠ x := fun z => by
          subst z
          exact hn ⟨rd_up hp e (road_self hp hpl), top_up hp e c⟩
        rw [top_up hp e c, top_up hp e (fun z => (List.mem_cons.mp z).elim nx c)]
        exact ih p hpy hpl fun z => hn ⟨rd_up hp e z.1, by rw [top_up hp e c]; exact z.2⟩
theorem cut_near (hp : Ps ps) {x : Nat} : ∀ y, y < ps.length → y ∉ cut → y ≠ x → x ∈ road ps y → top ps cut y = top ps cut x → ps[top ps (x :: cut) y]? = some (some x) ∧ top ps (x :: cut) y ∈ road ps y ∧ ∀ c, ps[c]? = some (some x) → c ∈ road ps y → top ps (x :: cut) y = c := by
  intro y
  induction y using Nat.strongRecOn with
  | ind y ih =>
    intro hy ny ne hx ht
    rcases rd_cases hp hy hx with z | ⟨p, e, hpy, h⟩
    · exact absurd z.symm ne
    · have hpl := Nat.lt_trans hpy hy
      by_cases px : p = x
      · subst px
        have et : top ps (p :: cut) y = y := top_cut hp e List.mem_cons_self
        rw [et]
        refine ⟨e, road_self hp hy, fun c hc hcy => ?_⟩
        rcases rd_cases hp hy hcy with z | ⟨p', e', _, h'⟩
        · exact z.symm
        · rw [e] at e'
          cases e'
          have := road_le hp p hpl c h'
          have := hp c p hc
          omega
      · have c : p ∉ cut := fun c => by
          rw [top_cut hp e c] at ht
          have hxl := rd_lt hp hy hx
          have h1 := road_le hp x hxl _ (top_road (cut := cut) hp x hxl)
          have h2 := road_le hp p hpl x h
          omega
        have et : top ps (x :: cut) y = top ps (x :: cut) p := top_up hp e fun z => (List.mem_cons.mp z).elim px c
        rw [top_up hp e c] at ht
        obtain ⟨i1, i2, i3⟩ := ih p hpy hpl c px h ht
        rw [et]
        refine ⟨i1, rd_up hp e i2, fun c' hc hcy => ?_⟩
        rcases rd_cases hp hy hcy with z | ⟨p', e', _, h'⟩
        · subst z
          rw [e] at hc
          cases hc
          exact absurd rfl px
        · rw [e] at e'
          cases e'
          exact i3 c' hc h'
/-! the pieces -/
def comp (ps : List (Option Nat)) (cut : List Nat) (r : Nat) : List Nat := (List.range ps.length).filter fun y => decide (y ∉ cut) && decide (top ps cut y = r)
theorem comp_mem {r y : Nat} : y ∈ comp ps cut r ↔ y < ps.length ∧ y ∉ cut ∧ top ps cut y = r := by
  unfold comp
  rw [List.mem_filter, List.mem_range, Bool.and_eq_true, decide_eq_true_iff, decide_eq_true_iff]
/-- as the law cuts a piece at a place -/
def cutL (ps : List (Option Nat)) (pc : List Nat) (x : Nat) : List (List Nat) :=
  ((pc.filter fun y => !decide (y ∈ pc.filter fun y => decide (x ∈ road ps y))) ::
    ((pc.filter fun y => decide (x ∈ road ps y)).filter fun c => decide (ps[c]? = some (some x))).map fun c => (pc.filter fun y => decide (x ∈ road ps y)).filter fun y => decide (c ∈ road ps y)).filter fun l => !l.isEmpty
structure Tops (ps : List (Option Nat)) (cut : List Nat) (rs : List Nat) : Prop where
  nd : rs.Nodup
  mem : ∀ r, r ∈ rs ↔ r < ps.length ∧ r ∉ cut ∧ top ps cut r = r
theorem filter_eq {α : Type} {f g : α → Bool} {xs : List α} (h : ∀ x ∈ xs, f x = g x) : xs.filter f = xs.filter g := List.filter_congr h
/-- the piece of a place, cut at it -/
theorem cut_parts (hp : Ps ps) {x : Nat} (hx : x < ps.length) (nx : x ∉ cut) : cutL ps (comp ps cut (top ps cut x)) x = ((if top ps cut x = x then [] else [top ps cut x]) ++ (List.range ps.length).filter fun c => decide (c ∉ cut) && decide (ps[c]? = some (some x))).map (comp ps (x :: cut)) := by
  have hr := top_road (cut := cut) hp x hx
  have hrl := rd_lt hp hx hr
  have hrx := road_le hp x hx _ hr
  -- those under it
  have eu : ((comp ps cut (top ps cut x)).filter fun y => decide (x ∈ road ps y)).filter (fun c => decide (ps[c]? = some (some x))) = (List.range ps.length).filter fun c => decide (c ∉ cut) && decide (ps[c]? = some (some x)) := by
    unfold comp
    rw [List.filter_filter, List.filter_filter]
    refine List.filter_congr fun c hc => ?_
    have hcl := List.mem_range.mp hc
    rw [Bool.eq_iff_iff]
    simp only [Bool.and_eq_true, decide_eq_true_eq]
    constructor
    · rintro ⟨⟨a, b⟩, d, e⟩
      exact ⟨d, a⟩
    · rintro ⟨d, a⟩
      exact ⟨⟨a, rd_up hp a (road_self hp hx)⟩, d, top_up hp a nx⟩
  have ec : ∀ c, c < ps.length → c ∉ cut → ps[c]? = some (some x) → ((comp ps cut (top ps cut x)).filter fun y => decide (x ∈ road ps y)).filter (fun y => decide (c ∈ road ps y)) = comp ps (x :: cut) c := by
    intro c hc nc e
    have hxc := hp c x e
    unfold comp
    rw [List.filter_filter, List.filter_filter]
    refine List.filter_congr fun y hy => ?_
    have hyl := List.mem_range.mp hy
    rw [Bool.eq_iff_iff]
    simp only [Bool.and_eq_true, decide_eq_true_eq]
    constructor
    · rintro ⟨⟨a, b⟩, d, t⟩
      have ne : y ≠ x := fun z => by
        subst z
        have := road_le hp y hyl c a
        omega
      exact ⟨fun z => (List.mem_cons.mp z).elim ne d, (cut_near hp y hyl d ne b t).2.2 c e a⟩
    · rintro ⟨d, t⟩
      have dc : y ∉ cut := fun z => d (List.mem_cons_of_mem _ z)
      have hcy : c ∈ road ps y := t ▸ top_road hp y hyl
      have hxy : x ∈ road ps y := rd_trans hp y hyl (rd_up hp e (road_self hp hx)) hcy
      by_cases j : x ∈ road ps y ∧ top ps cut y = top ps cut x
      · exact ⟨⟨hcy, hxy⟩, dc, j.2⟩
      · have := cut_far hp y hyl j
        rw [t] at this
        have h2 := top_seg hp y hyl dc hcy (this ▸ road_self hp hc)
        rw [← h2.2, top_up hp e nx] at this
        exact absurd ⟨hxy, by rw [← h2.2, top_up hp e nx]⟩ j
  have er : ((comp ps cut (top ps cut x)).filter fun y => !decide (y ∈ (comp ps cut (top ps cut x)).filter fun y => decide (x ∈ road ps y))) = if top ps cut x = x then [] else comp ps (x :: cut) (top ps cut x) := by
    have e1 : ((comp ps cut (top ps cut x)).filter fun y => !decide (y ∈ (comp ps cut (top ps cut x)).filter fun y => decide (x ∈ road ps y))) = (comp ps cut (top ps cut x)).filter fun y => !decide (x ∈ road ps y) := by
      refine List.filter_congr fun y hy => ?_
      congr 1
      rw [Bool.eq_iff_iff, decide_eq_true_iff, decide_eq_true_iff, List.mem_filter, decide_eq_true_iff]
      exact ⟨fun z => z.2, fun z => ⟨hy, z⟩⟩
    rw [e1]
    by_cases c : top ps cut x = x
    · rw [if_pos c, List.filter_eq_nil_iff]
      intro y hy
      obtain ⟨hyl, _, t⟩ := comp_mem.mp hy
      have := top_road (cut := cut) hp y hyl
      rw [t, c] at this
      simpa using this
    · rw [if_neg c]
      have nr : x ∉ road ps (top ps cut x) := fun z => c (rd_anti hp hrl hx hr z)
      unfold comp
      rw [List.filter_filter]
      refine List.filter_congr fun y hy => ?_
      have hyl := List.mem_range.mp hy
      rw [Bool.eq_iff_iff]
      simp only [Bool.and_eq_true, decide_eq_true_eq, Bool.not_eq_true', decide_eq_false_iff_not]
      constructor
      · rintro ⟨a, d, t⟩
        refine ⟨fun z => (List.mem_cons.mp z).elim (fun z => a (by rw [← z]; exact road_self hp hyl)) d, ?_⟩
        rw [cut_far hp y hyl (fun z => a z.1)]
        exact t
      · rintro ⟨d, t⟩
        have dc : y ∉ cut := fun z => d (List.mem_cons_of_mem _ z)
        have ne : y ≠ x := fun z => d (z ▸ List.mem_cons_self)
        have j : ¬ (x ∈ road ps y ∧ top ps cut y = top ps cut x) := fun j => by
          have h1 := (cut_near hp y hyl dc ne j.1 j.2).1
          rw [t] at h1
          have := hp _ _ h1
          omega
        have e2 := cut_far hp y hyl j
        rw [t] at e2
        exact ⟨fun z => j ⟨z, e2.symm⟩, dc, e2.symm⟩
  unfold cutL
  rw [er, eu]
  have em : (((List.range ps.length).filter fun c => decide (c ∉ cut) && decide (ps[c]? = some (some x))).map fun c => ((comp ps cut (top ps cut x)).filter fun y => decide (x ∈ road ps y)).filter fun y => decide (c ∈ road ps y)) = ((List.range ps.length).filter fun c => decide (c ∉ cut) && decide (ps[c]? = some (some x))).map (comp ps (x :: cut)) := by
    refine List.map_congr_left fun c hc => ?_
    obtain ⟨h1, h2⟩ := List.mem_filter.mp hc
    simp only [Bool.and_eq_true, decide_eq_true_eq] at h2
    exact ec c (List.mem_range.mp h1) h2.1 h2.2
  rw [em]
  have ne : ∀ r, r < ps.length → r ∉ cut → r ≠ x → top ps (x :: cut) r = r → (!(comp ps (x :: cut) r).isEmpty) = true := fun r hr n1 n2 t => by
    have : r ∈ comp ps (x :: cut) r := comp_mem.mpr ⟨hr, fun z => (List.mem_cons.mp z).elim n2 n1, t⟩
    cases h : comp ps (x :: cut) r with
    | nil => rw [h] at this; cases this
    | cons _ _ => rfl
  have hch : (((List.range ps.length).filter fun c => decide (c ∉ cut) && decide (ps[c]? = some (some x))).map (comp ps (x :: cut))).filter (fun l => !l.isEmpty) = ((List.range ps.length).filter fun c => decide (c ∉ cut) && decide (ps[c]? = some (some x))).map (comp ps (x :: cut)) := by
    rw [List.filter_eq_self]
    intro l hl
    obtain ⟨c, hc, rfl⟩ := List.mem_map.mp hl
    obtain ⟨h1, h2⟩ := List.mem_filter.mp hc
    simp only [Bool.and_eq_true, decide_eq_true_eq] at h2
    have := hp c x h2.2
    exact ne c (List.mem_range.mp h1) h2.1 (by omega) (top_cut hp h2.2 List.mem_cons_self)
  by_cases c : top ps cut x = x
  · rw [if_pos c, if_pos c, List.filter_cons_of_neg (by simp), hch]
    rfl
  · rw [if_neg c, if_neg c, List.filter_cons_of_pos, hch]
    · rfl
    · have nr : x ∉ road ps (top ps cut x) := fun z => c (rd_anti hp hrl hx hr z)
      have tt : top ps cut (top ps cut x) = top ps cut x := (top_seg hp x hx nx hr (road_self hp hrl)).2
      exact ne _ hrl (top_free hp x hx nx) c (by rw [cut_far hp _ hrl (fun z => nr z.1)]; exact tt)
/-- the tops behind a cut -/
theorem tops_next (hp : Ps ps) {rs : List Nat} {x at_ : Nat} (T : Tops ps cut rs) (hx : x < ps.length) (nx : x ∉ cut) (ha : rs[at_]? = some (top ps cut x)) :
    ∃ rs', Tops ps (x :: cut) rs' ∧ (rs.map (comp ps cut)).take at_ ++ cutL ps (comp ps cut (top ps cut x)) x ++ (rs.map (comp ps cut)).drop (at_ + 1) = rs'.map (comp ps (x :: cut)) := by
  have hr := top_road (cut := cut) hp x hx
  have hrl := rd_lt hp hx hr
  have hrx := road_le hp x hx _ hr
  have hal := (List.getElem?_eq_some_iff.mp ha).1
  have hae := (List.getElem?_eq_some_iff.mp ha).2
  have split : rs = rs.take at_ ++ top ps cut x :: rs.drop (at_ + 1) := by
    rw [← hae, ← List.drop_eq_getElem_cons hal, List.take_append_drop]
  have nd := T.nd
  rw [split] at nd
  obtain ⟨nd1, nd2, nd3⟩ := List.nodup_append.mp nd
  obtain ⟨nd4, nd5⟩ := List.nodup_cons.mp nd2
  -- the others
  have far : ∀ r ∈ rs, r ≠ top ps cut x → comp ps cut r = comp ps (x :: cut) r ∧ r ≠ x ∧ top ps (x :: cut) r = r := by
    intro r hr' ne
    obtain ⟨h1, h2, h3⟩ := (T.mem r).mp hr'
    have rx : r ≠ x := fun z => ne (by rw [← z]; exact h3.symm)
    refine ⟨?_, rx, by rw [cut_far hp r h1 (fun z => ne (by rw [← z.2]; exact h3.symm))]; exact h3⟩
    unfold comp
    refine List.filter_congr fun y hy => ?_
    have hyl := List.mem_range.mp hy
    rw [Bool.eq_iff_iff]
    simp only [Bool.and_eq_true, decide_eq_true_eq]
    constructor
    · rintro ⟨d, t⟩
      have yx : y ≠ x := fun z => ne (by rw [← t, z])
      exact ⟨fun z => (List.mem_cons.mp z).elim yx d, by rw [cut_far hp y hyl (fun z => ne (by rw [← t]; exact z.2))]; exact t⟩
    · rintro ⟨d, t⟩
      have dc : y ∉ cut := fun z => d (List.mem_cons_of_mem _ z)
      have yx : y ≠ x := fun z => d (z ▸ List.mem_cons_self)
      by_cases j : x ∈ road ps y ∧ top ps cut y = top ps cut x
      · have h4 := (cut_near hp y hyl dc yx j.1 j.2).1
        rw [t] at h4
        have h5 := top_up (cut := cut) hp h4 nx
        rw [h3] at h5
        exact absurd h5 ne
      · have := cut_far hp y hyl j
        rw [t] at this
        exact ⟨dc, this.symm⟩
  have inT : ∀ r ∈ rs.take at_, r ∈ rs ∧ r ≠ top ps cut x := fun r h => ⟨List.mem_of_mem_take h, nd3 r h _ List.mem_cons_self⟩
  have inD : ∀ r ∈ rs.drop (at_ + 1), r ∈ rs ∧ r ≠ top ps cut x := fun r h => ⟨List.mem_of_mem_drop h, fun z => nd4 (z ▸ h)⟩
  refine ⟨rs.take at_ ++ (((if top ps cut x = x then [] else [top ps cut x]) ++ (List.range ps.length).filter fun c => decide (c ∉ cut) && decide (ps[c]? = some (some x))) ++ rs.drop (at_ + 1)), ⟨?_, fun r => ?_⟩, ?_⟩
  · have chn : ∀ c ∈ (List.range ps.length).filter (fun c => decide (c ∉ cut) && decide (ps[c]? = some (some x))), c ∉ rs ∧ c ≠ top ps cut x := fun c hc => by
      obtain ⟨h1, h2⟩ := List.mem_filter.mp hc
      simp only [Bool.and_eq_true, decide_eq_true_eq] at h2
      have h3 := hp c x h2.2
      have h4 := top_up (cut := cut) hp h2.2 nx
      exact ⟨fun z => by have := ((T.mem c).mp z).2.2; omega, by omega⟩
    rw [List.nodup_append, List.nodup_append, List.nodup_append]
    refine ⟨nd1, ⟨⟨?_, List.nodup_range.filter _, fun a ha b hb z => ?_⟩, nd5, fun a ha b hb z => ?_⟩, fun a ha b hb z => ?_⟩
    · split
      · exact List.nodup_nil
      · exact List.nodup_cons.mpr ⟨List.not_mem_nil, List.nodup_nil⟩
    · subst z
      split at ha
      · cases ha
      · exact (chn a hb).2 (List.mem_singleton.mp ha)
    · subst z
      rcases List.mem_append.mp ha with ha | ha
      · split at ha
        · cases ha
        · exact (inD a hb).2 (List.mem_singleton.mp ha)
      · exact (chn a ha).1 (inD a hb).1
    · subst z
      rcases List.mem_append.mp hb with hb | hb
      · rcases List.mem_append.mp hb with hb | hb
        · split at hb
          · cases hb
          · exact (inT a ha).2 (List.mem_singleton.mp hb)
        · exact (chn a hb).1 (inT a ha).1
      · exact nd3 a ha a (List.mem_cons_of_mem _ hb) rfl
  · rw [List.mem_append, List.mem_append, List.mem_append]
    constructor
    · rintro (h | (h | h) | h)
      · obtain ⟨a, b⟩ := inT r h
        obtain ⟨h1, h2, h3⟩ := (T.mem r).mp a
        obtain ⟨_, f2, f3⟩ := far r a b
        exact ⟨h1, fun z => (List.mem_cons.mp z).elim f2 h2, f3⟩
      · split at h
        · cases h
        · rename_i c
          rw [List.mem_singleton.mp h]
          have nr : x ∉ road ps (top ps cut x) := fun z => c (rd_anti hp hrl hx hr z)
          have tt : top ps cut (top ps cut x) = top ps cut x := (top_seg hp x hx nx hr (road_self hp hrl)).2
          exact ⟨hrl, fun z => (List.mem_cons.mp z).elim c (top_free hp x hx nx), by rw [cut_far hp _ hrl (fun z => nr z.1)]; exact tt⟩
      · obtain ⟨h1, h2⟩ := List.mem_filter.mp h
        simp only [Bool.and_eq_true, decide_eq_true_eq] at h2
        have h3 := hp r x h2.2
        exact ⟨List.mem_range.mp h1, fun z => (List.mem_cons.mp z).elim (by omega) h2.1, top_cut hp h2.2 List.mem_cons_self⟩
      · obtain ⟨a, b⟩ := inD r h
        obtain ⟨h1, h2, h3⟩ := (T.mem r).mp a
        obtain ⟨_, f2, f3⟩ := far r a b
        exact ⟨h1, fun z => (List.mem_cons.mp z).elim f2 h2, f3⟩
    · rintro ⟨h1, h2, h3⟩
      have dc : r ∉ cut := fun z => h2 (List.mem_cons_of_mem _ z)
      have rx : r ≠ x := fun z => h2 (z ▸ List.mem_cons_self)
      by_cases j : x ∈ road ps r ∧ top ps cut r = top ps cut x
      · have h4 := (cut_near hp r h1 dc rx j.1 j.2).1
        rw [h3] at h4
        exact .inr (.inl (.inr (List.mem_filter.mpr ⟨List.mem_range.mpr h1, by simp only [Bool.and_eq_true, decide_eq_true_eq]; exact ⟨dc, h4⟩⟩)))
      · have h4 := cut_far hp r h1 j
        rw [h3] at h4
        have hrs := (T.mem r).mpr ⟨h1, dc, h4.symm⟩
        by_cases e : r = top ps cut x
        · refine .inr (.inl (.inl ?_))
          rw [if_neg (fun z => rx (e.trans z))]
          exact List.mem_singleton.mpr e
        · rw [split] at hrs
          rcases List.mem_append.mp hrs with h | h
          · exact .inl h
          · exact .inr (.inr ((List.mem_cons.mp h).resolve_left e))
  · rw [cut_parts hp hx nx, ← List.map_take, ← List.map_drop]
    generalize ((if top ps cut x = x then [] else [top ps cut x]) ++ (List.range ps.length).filter fun c => decide (c ∉ cut) && decide (ps[c]? = some (some x))) = Y
    rw [List.map_append, List.map_append, List.append_assoc]
    congr 1
    · exact List.map_congr_left fun r h => (far r (inT r h).1 (inT r h).2).1
    · congr 1
      exact List.map_congr_left fun r h => (far r (inD r h).1 (inD r h).2).1
end
end Ck
namespace Cn
open PySem PySem.Spec PyProof.Rows L2 Ck
theorem root_comp {ps : List (Option Nat)} (hp : Ps ps) {r : Nat} (hr : ps[r]? = some none) : comp ps [] r = (List.range ps.length).filter fun y => decide (r ∈ road ps y) := by
  unfold comp
  refine List.filter_congr fun y hy => ?_
  have hyl := List.mem_range.mp hy
  rw [Bool.eq_iff_iff]
  simp only [Bool.and_eq_true, decide_eq_true_eq]
  constructor
  · rintro ⟨_, t⟩
    rw [← t]
    exact top_road hp y hyl
  · intro h
    refine ⟨List.not_mem_nil, ?_⟩
    rw [top_same hp y hyl h fun z _ _ _ => List.not_mem_nil, top_none hr]
theorem root_tops {ps : List (Option Nat)} (hp : Ps ps) : Tops ps [] ((List.range ps.length).filter fun r => decide (ps[r]? = some none)) := by
  refine ⟨List.nodup_range.filter _, fun r => ?_⟩
  rw [List.mem_filter, List.mem_range, decide_eq_true_iff]
  constructor
  · rintro ⟨h1, h2⟩
    exact ⟨h1, List.not_mem_nil, top_none h2⟩
  · rintro ⟨h1, _, h3⟩
    refine ⟨h1, ?_⟩
    rcases opt_cases h1 with e | ⟨p, e⟩
    · exact e
    · rw [top_up hp e List.not_mem_nil] at h3
      have hl := hp r p e
      have := road_le hp p (Nat.lt_trans hl h1) _ (top_road (cut := []) hp p (Nat.lt_trans hl h1))
      omega
theorem tops_len {ps : List (Option Nat)} {cut rs : List Nat} (T : Tops ps cut rs) : rs.length ≤ ps.length := by
  have h : rs.Subset (List.range ps.length) := fun r hr => List.mem_range.mpr ((T.mem r).mp hr).1
  have := T.nd.length_le_of_subset h
  rwa [List.length_range] at this
end Cn
namespace Cn
open PySem PySem.Spec PyProof.Rows L2 Ck
section
variable {P : Program} {w : World} {K : PySem.W.Frag} {mg : Str → Option Value} {base : Heap} {C : Addr}
/-- one of a list or tuple, drawn -/
def spPick : Sp := fun vs H Q _ => ∃ (p : Addr) (S : Addr → Prop) (b : Addr) (xs : List V), vs = [.ref p, .ref b] ∧ HandIn H p S ∧ b ≠ p ∧ (H b = some (.lst xs) ∨ H b = some (.tup xs)) ∧ 0 < xs.length ∧ xs.length ≤ 1000000 ∧
  ∀ (i : Nat) (v : V) H', xs[i]? = some v → HandIn H' p S → Kept p H H' → Q v H'
def nPick : List Str := ["_law_pool_here", "_law_things"]
theorem scPick : FnScope nPick ["_law_pool_here", "_law_things"] (defScope sPick) := ⟨rfl, rfl, rfl, by decide +kernel, rfl, by decide +kernel, by decide +kernel⟩
theorem dPick (B : Defs K mg C) : Def P w K mg base "_law_pick" 2 ["_law_pool_here", "_law_things"] spPick := by
  obtain ⟨fD, fdD, GD, gD, kD, bD⟩ := dDraw (P := P) (w := w) (base := base) B
  have N := B.N
  refine def_of B.pck fun f fd F => ?_
  refine F.ok scPick (fun vs H Q E h => ?_) (fun cdv A outer s H vs Q E hr h => ?_)
  · obtain ⟨p, S, b, xs, rfl, _⟩ := h
    rfl
  · obtain ⟨p, S, b, xs, rfl, hI, bp, hb, l0, l1, k⟩ := h
    refine ⟨_, pss_one (ps_ret (pe_ix ix_seq (pv 1) (pe_call GD hr (by rfl) gD kD bD .nil pass0 (pa_cons (pv 0) (pa_cons (pe_callB call_len_seq (by rfl) N.is.len PySem.boot_len (pa_cons (pv 1) pa_nil)) pa_nil))) (fun _ _ => rfl))), ?_⟩
    have sq : SqL K H b xs ∨ SqT K H b xs := hb.imp (fun h => .inl (.inl h)) (fun h => .inl (.inl h))
    refine ⟨_, rfl, _, rfl, _, rfl, b, xs, rfl, sq, p, S, (xs.length : Int), rfl, hI, by omega, by omega, fun d H1 d0 d1 hI1 k1 => ?_⟩
    obtain ⟨i, rfl⟩ := Int.eq_ofNat_of_zero_le d0
    have hi : xs[i]? = some xs[i] := List.getElem?_eq_getElem (by omega)
    rcases hb with hb | hb
    · exact .inl ⟨b, xs, (i : Int), _, rfl, rfl, .inl (.inl (k1 _ _ bp hb)), atI_nat hi, k i _ H1 hi hI1 k1⟩
    · exact .inr (.inl ⟨b, xs, (i : Int), _, rfl, rfl, .inl (.inl (k1 _ _ bp hb)), atI_nat hi, k i _ H1 hi hI1 k1⟩)
end
end Cn
namespace Cn
open PySem PySem.Spec PyProof.Rows L2 Ck
section
variable {P : Program} {w : World} {K : PySem.W.Frag} {mg : Str → Option Value} {base : Heap} {C : Addr}
/-- a drawn lot -/
def spLawLot : Sp := fun vs H Q _ => ∃ (p : Addr) (S : Addr → Prop) (n : Nat) (sd : Int), vs = [.ref p, vn n, .int sd] ∧ HandIn H p S ∧ n ≤ 60 ∧ 0 < sd ∧ sd < 1073741824 ∧
  ∀ r ns H', ns.Pairwise (· < ·) → (∀ x ∈ ns, x < n) → HandIn H' p S → Kept p H H' → TN H' r ns → Q (.ref r) H'
def nLawLot : List Str := ["_law_pool_here", "_law_many", "_law_sides", "_law_one"]
theorem scLawLot : FnScope nLawLot ["_law_pool_here", "_law_many", "_law_sides"] (defScope sLawLot) := ⟨rfl, rfl, rfl, by decide +kernel, rfl, by decide +kernel, by decide +kernel⟩
theorem dLawLot (B : Defs K mg C) : Def P w K mg base "_law_lot" 2 ["_law_pool_here", "_law_many", "_law_sides"] spLawLot := by
  obtain ⟨fD, fdD, GD, gD, kD, bD⟩ := dDraw (P := P) (w := w) (base := base) B
  have N := B.N
  have nd := scLawLot.nd
  refine def_of B.lo fun f fd F => ?_
  refine F.ok scLawLot (fun vs H Q E h => ?_) (fun cdv A outer s H vs Q E hr h => ?_)
  · obtain ⟨p, S, n, sd, rfl, _⟩ := h
    rfl
  · obtain ⟨p, S, n, sd, rfl, hI, h60, s0, s1, k⟩ := h
    refine ⟨_, pss_one (ps_ret (pe_callTy call_tuple_of (by rfl) N.is.tup (by decide +kernel) (pa_cons (pe_lc (own := [("_law_one", 3)]) (g := gName 3) rfl nd (pi_range1 (by rfl) N.range (pa_cons (pv 1) pa_nil))
        (blkOk_by (N := nLawLot) (sc := defScope sLawLot) (by decide +kernel)) (fun _ _ _ _ _ => pg_name (i := 3) nd rfl (Or.inl rfl)) (fun _ _ _ _ _ => pts_one (pt_cmpR op_gt (pe_call GD hr (by rfl) gD kD bD .nil pass0 (pa_cons (pv 0) (pa_cons (pv 2) pa_nil))) pe_int (nomark _))) (fun _ _ _ _ _ => pv 3)) pa_nil))), ?_⟩
    refine ⟨_, rfl, (n : Int), rfl, by omega, by omega, fun D nD => ?_⟩
    rw [Int.toNat_natCast]
    have nDp := hand_ne hI nD
    refine lc_range (lo := 0) (n := n) (fun i G => HandIn G p (fun x => x = D ∨ S x) ∧ Kept p H G ∧ ∃ ns : List Nat, G D = some (.lst (ns.map vn)) ∧ ns.length ≤ i ∧ ns.Pairwise (· < ·) ∧ ∀ x ∈ ns, x < i) ⟨handIn_add hI nD, kept_same (smUpd nD), [], upd_same, Nat.zero_le _, .nil, fun x hx => by cases hx⟩ ?_ ?_
    · rintro i G hi ⟨hG, kG, ns, hD, hl, hp, hx⟩
      rw [show (0 : Int) + (i : Int) = (i : Int) from Int.zero_add _]
      refine ⟨rfl, _, rfl, _, rfl, p, _, sd, rfl, hG, s0, s1, fun d G2 d0 d1 hG2 k2 => ⟨_, _, rfl, rfl, _, rfl, ?_⟩⟩
      have hD2 := k2 _ _ nDp hD
      have kG2 := kept_trans kG k2
      refine ite2 (fun _ => ?_) (fun _ => ⟨hG2, kG2, ns, hD2, by omega, hp, fun x h => Nat.lt_succ_of_lt (hx x h)⟩)
      refine ⟨_, rfl, _, hD2, small1000 (by rw [List.length_map]; omega), handIn_write hG2 (.inl rfl), kept_over nD kG2, ns ++ [i], by rw [upd_same, List.map_append]; rfl, by rw [List.length_append]; show ns.length + 1 ≤ i + 1; omega, ?_, fun x h => ?_⟩
      · rw [List.pairwise_append]
        exact ⟨hp, List.pairwise_singleton _ _, fun x h y hy => by rw [List.mem_singleton.mp hy]; exact hx x h⟩
      · rcases List.mem_append.mp h with h | h
        · exact Nat.lt_succ_of_lt (hx x h)
        · rw [List.mem_singleton.mp h]; exact Nat.lt_succ_self _
    · rintro G ⟨hG, kG, ns, hD, hl, hp, hx⟩
      refine ⟨D, _, rfl, .inl ⟨.inl (.inl hD), fun r nr => ?_⟩⟩
      exact k r ns _ hp hx (handIn_keep (handIn_less hG fun _ z => .inr z) (smUpd nr)) (kept_trans kG (kept_same (smUpd nr))) upd_same
/-- drawn parents -/
def spParents : Sp := fun vs H Q _ => ∃ (p : Addr) (S : Addr → Prop) (n : Nat), vs = [.ref p, vn n] ∧ HandIn H p S ∧ 1 ≤ n ∧ n ≤ 60 ∧
  ∀ r ps H', Ps ps → ps.length = n → HandIn H' p S → Kept p H H' → TP H' r ps → Q (.ref r) H'
def nParents : List Str := ["_law_pool_here", "_law_many", "_law_kind", "_law_found", "_law_place", "_law_parent"]
theorem scParents : FnScope nParents ["_law_pool_here", "_law_many"] (defScope sParents) := ⟨rfl, rfl, rfl, by decide +kernel, rfl, by decide +kernel, by decide +kernel⟩
theorem dParents (B : Defs K mg C) : Def P w K mg base "_law_parents" 2 ["_law_pool_here", "_law_many"] spParents := by
  obtain ⟨fD, fdD, GD, gD, kD, bD⟩ := dDraw (P := P) (w := w) (base := base) B
  have N := B.N
  have nd := scParents.nd
  refine def_of B.pa fun f fd F => ?_
  refine F.ok scParents (fun vs H Q E h => ?_) (fun cdv A outer s H vs Q E hr h => ?_)
  · obtain ⟨p, S, n, rfl, _⟩ := h
    rfl
  · obtain ⟨p, S, n, rfl, hI, h1, h60, k⟩ := h
    refine ⟨_, pss_cons (ps_set (i := 2) nd rfl (Or.inl rfl) (pe_call GD hr (by rfl) gD kD bD .nil pass0 (pa_cons (pv 0) (pa_cons pe_int pa_nil))))
      (pss_cons (ps_set (i := 3) nd rfl (Or.inl rfl) (pe_lst (pa_cons pe_non pa_nil)))
      (pss_cons (ps_for PassesOwn.never rfl (pi_range2 (by rfl) N.range (pa_cons pe_int (pa_cons (pv 1) pa_nil))) (pg_name (i := 4) nd rfl (Or.inl rfl))
        (pss_cons (ps_set (i := 5) nd rfl (Or.inl rfl) (pe_call GD hr (by rfl) gD kD bD .nil pass0 (pa_cons (pv 0) (pa_cons (pv 4) pa_nil))))
        (psMid (ps_if (PW.pt (pw_or (pt_cmpR op_eq (pv 2) pe_int (nomark _)) (pw_or1 (PW.pt (pw_and (pt_cmpR op_eq (pv 2) pe_int (nomark _)) (pw_and1 (pt_cmpR op_gt (pe_call GD hr (by rfl) gD kD bD .nil pass0 (pa_cons (pv 0) (pa_cons pe_int pa_nil))) pe_int (nomark _))))))))
          (pss_one (ps_set (i := 5) nd rfl (Or.inl rfl) (pe_op op_sub (pv 4) pe_int))) pss_nil)
        (pss_one (ps_expr (pe_bm PySem.F.plainAttrs_list PySem.F.slot_list_append PySem.F.type_list_append mt_append (pv 3) (pa_cons (pe_ifExp (PW.pt (pw_and (pt_cmpR op_eq (pv 2) pe_int (nomark _)) (pw_and1 (pt_cmpR op_eq (pe_call GD hr (by rfl) gD kD bD .nil pass0 (pa_cons (pv 0) (pa_cons pe_int pa_nil))) pe_int (nomark _))))) pe_non (pv 5)) pa_nil)))))))
      (pss_one (ps_ret (pe_callTy call_tuple_of (by rfl) N.is.tup (by decide +kernel) (pa_cons (pv 3) pa_nil)))))), ?_⟩
    refine ⟨_, rfl, p, S, 4, rfl, hI, by decide, by decide, fun kd H1 kd0 kd1 hI1 k1 => ?_⟩
    refine ⟨by show 1 ≤ sizeLine; decide, fun D nD => ?_⟩
    have nDp := hand_ne hI1 nD
    have n0 : ∀ {b : Addr} {o : HO}, b ≠ p → H b = some o → b ≠ D := fun bp e z => by rw [z] at e bp; rw [k1 _ _ bp e] at nD; cases nD
    have kw : ∀ {G : Hp} {o : HO}, Kept p H G → Kept p H (upd G D o) := fun kg b o n e => by rw [upd_ne (n0 n e)]; exact kg b o n e
    refine ⟨_, rfl, 1, (n : Int), rfl, ⟨by decide, by decide, by omega, by omega⟩, ?_⟩
    refine for_range (lo := 1) (n := ((n : Int) - 1).toNat) (fun i σ G => ∃ (ps : List (Option Nat)) (t4 t5 : Option V), σ = [some (.ref p), some (vn n), some (.int kd), some (.ref D), t4, t5] ∧ HandIn G p (fun x => x = D ∨ S x) ∧ Kept p H G ∧ G D = some (.lst (ps.map vp)) ∧ ps.length = i + 1 ∧ Ps ps) ⟨[none], none, none, rfl, handIn_add hI1 nD, kw k1, upd_same, rfl, fun i m h => by
      cases i with
      | zero => cases h
      | succ i => cases h⟩ ?_ ?_
    · rintro i σ G hi ⟨ps, t4, t5, rfl, hG, kG, hD, hl, hp⟩
      have e1 : (1 : Int) + (i : Int) = ((i + 1 : Nat) : Int) := by omega
      rw [e1]
      refine ⟨_, rfl, _, rfl, p, _, ((i + 1 : Nat) : Int), rfl, hG, by omega, by omega, fun d G2 d0 d1 hG2 k2 => ?_⟩
      have hD2 := k2 _ _ nDp hD
      have kG2 := kept_trans kG k2
      obtain ⟨d, rfl⟩ := Int.eq_ofNat_of_zero_le d0
      refine ⟨fun σ J => ∃ m : Nat, m ≤ i ∧ σ = [some (.ref p), some (vn n), some (.int kd), some (.ref D), some (.int ((i + 1 : Nat) : Int)), some (vn m)] ∧ HandIn J p (fun x => x = D ∨ S x) ∧ Kept p H J ∧ J D = some (.lst (ps.map vp)), ?_, ?_⟩
      · have e2 : (((i + 1 : Nat) : Int)) - 1 = ((i : Nat) : Int) := by omega
        have yes : ∀ {J : Hp} (x : Nat), HandIn J p (fun x => x = D ∨ S x) → Kept p H J → J D = some (.lst (ps.map vp)) → ∃ m : Nat, m ≤ i ∧ ([some (.ref p), some (vn n), some (.int kd), some (.ref D), some (.int ((i + 1 : Nat) : Int)), some (.int (((i + 1 : Nat) : Int) - 1))] : L2.St) = [some (.ref p), some (vn n), some (.int kd), some (.ref D), some (.int ((i + 1 : Nat) : Int)), some (vn m)] ∧ HandIn J p (fun x => x = D ∨ S x) ∧ Kept p H J ∧ J D = some (.lst (ps.map vp)) := fun x a b c => ⟨i, Nat.le_refl _, by rw [e2], a, b, c⟩
        refine ⟨_, rfl, rfl, _, rfl, ?_⟩
        refine ite2 (fun _ => ⟨_, rfl, _, _, rfl, rfl, yes 0 hG2 kG2 hD2⟩) (fun _ => ?_)
        refine ⟨_, rfl, rfl, _, rfl, ?_⟩
        refine ite2 (fun _ => ?_) (fun _ => ⟨d, by omega, rfl, hG2, kG2, hD2⟩)
        refine ⟨_, rfl, p, _, 3, rfl, hG2, by decide, by decide, fun e G3 e0 e1 hG3 k3 => ⟨_, _, rfl, rfl, _, rfl, ?_⟩⟩
        refine ite2 (fun _ => ⟨_, rfl, _, _, rfl, rfl, yes 0 hG3 (kept_trans kG2 k3) (k3 _ _ nDp hD2)⟩) (fun _ => ⟨d, by omega, rfl, hG3, kept_trans kG2 k3, k3 _ _ nDp hD2⟩)
      · rintro σ J ⟨m, hm, rfl, hJ, kJ, hDJ⟩
        have fin : ∀ {J2 : Hp} (q : Option Nat), (∀ x, q = some x → x ≤ i) → HandIn J2 p (fun x => x = D ∨ S x) → Kept p H J2 → J2 D = some (.lst (ps.map vp)) → ∃ l xs y, V.ref D = .ref l ∧ [vp q] = [y] ∧ J2 l = some (.lst xs) ∧ xs.length < sizeLine ∧ ∃ (ps' : List (Option Nat)) (t4 t5 : Option V), ([some (.ref p), some (vn n), some (.int kd), some (.ref D), some (.int ((i + 1 : Nat) : Int)), some (vn m)] : L2.St) = [some (.ref p), some (vn n), some (.int kd), some (.ref D), t4, t5] ∧ HandIn (upd J2 l (.lst (xs ++ [y]))) p (fun x => x = D ∨ S x) ∧ Kept p H (upd J2 l (.lst (xs ++ [y]))) ∧ upd J2 l (.lst (xs ++ [y])) D = some (.lst (ps'.map vp)) ∧ ps'.length = i + 1 + 1 ∧ Ps ps' := fun {J2} q hq a b c =>
          ⟨D, _, _, rfl, rfl, c, small1000 (by rw [List.length_map]; omega), ps ++ [q], _, _, rfl, handIn_write a (.inl rfl), kw b, by rw [upd_same, List.map_append]; rfl, by rw [List.length_append, hl]; rfl, psSnoc hp fun x e => by have := hq x e; omega⟩
        refine ⟨_, rfl, .inl ⟨rfl, _, .inl (.inl hDJ)⟩, _, rfl, rfl, _, rfl, ?_⟩
        refine ite2 (fun _ => ?_) (fun _ => ⟨_, rfl, fin (some m) (fun x e => by cases e; exact hm) hJ kJ hDJ⟩)
        refine ⟨_, rfl, p, _, 4, rfl, hJ, by decide, by decide, fun e G3 e0 e1 hG3 k3 => ⟨rfl, _, rfl, ?_⟩⟩
        refine ite2 (fun _ => fin none (fun x e => nomatch e) hG3 (kept_trans kJ k3) (k3 _ _ nDp hDJ)) (fun _ => ⟨_, rfl, fin (some m) (fun x e => by cases e; exact hm) hG3 (kept_trans kJ k3) (k3 _ _ nDp hDJ)⟩)
    · rintro σ G ⟨ps, t4, t5, rfl, hG, kG, hD, hl, hp⟩
      refine ⟨_, rfl, D, _, rfl, .inl ⟨.inl (.inl hD), fun r nr => ?_⟩⟩
      exact k r ps _ hp (by omega) (handIn_keep (handIn_less hG fun _ z => .inr z) (smUpd nr)) (kept_trans kG (kept_same (smUpd nr))) upd_same
end
end Cn
namespace Cn
open PySem PySem.Spec PyProof.Rows L2 Ck
section
variable {P : Program} {w : World} {K : PySem.W.Frag} {mg : Str → Option Value} {base : Heap} {C : Addr}
/-- parts of a forest, drawn -/
def spSpec : Sp := fun vs H Q _ => ∃ (p : Addr) (S : Addr → Prop) (a b : Nat), vs = [.ref p, vn a, vn b] ∧ HandIn H p S ∧ 1 ≤ a ∧ a ≤ b ∧ b ≤ 60 ∧
  ∀ r fo H', FoOk fo → a ≤ fo.ps.length → fo.ps.length ≤ b → HandIn H' p S → Kept p H H' → TolR H' r fo → Q (.ref r) H'
def nSpec : List Str := ["_law_pool_here", "_law_least", "_law_most", "_law_many", "_law_sides"]
theorem scSpec : FnScope nSpec ["_law_pool_here", "_law_least", "_law_most"] (defScope sSpec) := ⟨rfl, rfl, rfl, by decide +kernel, rfl, by decide +kernel, by decide +kernel⟩
theorem dSpec (B : Defs K mg C) : Def P w K mg base "_law_spec" 3 ["_law_pool_here", "_law_least", "_law_most"] spSpec := by
  obtain ⟨fD, fdD, GD, gD, kD, bD⟩ := dDraw (P := P) (w := w) (base := base) B
  obtain ⟨fP, fdP, GP, gP, kP, bP⟩ := dParents (P := P) (w := w) (base := base) B
  obtain ⟨fL, fdL, GL, gL, kL, bL⟩ := dLawLot (P := P) (w := w) (base := base) B
  have N := B.N
  have nd := scSpec.nd
  refine def_of B.spc fun f fd F => ?_
  refine F.ok scSpec (fun vs H Q E h => ?_) (fun cdv A outer s H vs Q E hr h => ?_)
  · obtain ⟨p, S, a, b, rfl, _⟩ := h
    rfl
  · obtain ⟨p, S, a, b, rfl, hI, h1, hab, h60, k⟩ := h
    have r1 : Room 1 (A.deeper (envOfC "_law_spec" (defScope sSpec) s.heap.objs.size f cdv)) := Room.mono hr (by decide)
    refine ⟨_, pss_cons (ps_set (i := 3) nd rfl (Or.inl rfl) (pe_op op_add (pv 1) (pe_call GD r1 (by rfl) gD kD bD .nil pass0 (pa_cons (pv 0) (pa_cons (pe_op op_add (pe_op op_sub (pv 2) (pv 1)) pe_int) pa_nil)))))
      (pss_cons (ps_set (i := 4) nd rfl (Or.inl rfl) (pe_ix ix_list (pe_lst (pa_cons pe_int (pa_cons pe_int (pa_cons pe_int pa_nil)))) (pe_call GD r1 (by rfl) gD kD bD .nil pass0 (pa_cons (pv 0) (pa_cons pe_int pa_nil))) (fun _ _ => rfl)))
      (pss_one (ps_ret (pe_tup (pa_cons (pe_call GP hr (by rfl) gP kP bP .nil pass0 (pa_cons (pv 0) (pa_cons (pv 3) pa_nil))) (pa_cons (pe_call GL hr (by rfl) gL kL bL .nil pass0 (pa_cons (pv 0) (pa_cons (pv 3) (pa_cons (pv 4) pa_nil)))) (pa_cons (pe_call GL hr (by rfl) gL kL bL .nil pass0 (pa_cons (pv 0) (pa_cons (pv 3) (pa_cons (pv 4) pa_nil)))) pa_nil))))))), ?_⟩
    refine ⟨_, rfl, _, rfl, _, rfl, _, rfl, _, _, rfl, rfl, _, _, rfl, rfl, p, S, (b : Int) - (a : Int) + 1, rfl, hI, by omega, by omega, fun d H1 d0 d1 hI1 k1 => ⟨_, _, rfl, rfl, ?_⟩⟩
    obtain ⟨d, rfl⟩ := Int.eq_ofNat_of_zero_le d0
    obtain ⟨n, en⟩ : ∃ n : Nat, n = a + d := ⟨_, rfl⟩
    show gName 3 (V.int ((a : Int) + (d : Int))) _ _ _
    rw [show (a : Int) + (d : Int) = (n : Int) from by omega]
    refine ⟨by show 3 ≤ sizeLine; decide, fun l nl => ?_⟩
    have S1 := smUpd (o := .lst [.int 3, .int 6, .int 2]) nl
    have nlp := hand_ne hI1 nl
    refine ⟨_, rfl, p, S, 3, rfl, handIn_keep hI1 S1, by decide, by decide, fun e H2 e0 e1 hI2 k2 => ?_⟩
    have kk := kept_trans k1 (kept_trans (kept_same S1) k2)
    obtain ⟨sd, hsd, s0, s1⟩ : ∃ sd : Int, atI [V.int 3, V.int 6, V.int 2] e = some (.int sd) ∧ 0 < sd ∧ sd < 1073741824 := by
      rcases (show e = 0 ∨ e = 1 ∨ e = 2 by omega) with rfl | rfl | rfl
      · exact ⟨3, rfl, by decide, by decide⟩
      · exact ⟨6, rfl, by decide, by decide⟩
      · exact ⟨2, rfl, by decide, by decide⟩
    refine ⟨l, _, e, _, rfl, rfl, .inl (.inl (k2 _ _ nlp upd_same)), hsd, ?_⟩
    refine ⟨_, rfl, _, rfl, p, S, n, rfl, hI2, by omega, by omega, fun r1 ps H3 hps hpl hI3 k3 ht3 => ?_⟩
    refine ⟨_, rfl, _, rfl, _, rfl, p, S, n, sd, rfl, hI3, by omega, s0, s1, fun r2 be H4 basc blt hI4 k4 ht4 => ?_⟩
    refine ⟨_, rfl, _, rfl, _, rfl, p, S, n, sd, rfl, hI4, by omega, s0, s1, fun r3 as H5 aasc alt hI5 k5 ht5 => ?_⟩
    refine ⟨by show 3 ≤ sizeLine; decide, fun r nr => ?_⟩
    have S6 := smUpd (o := .tup [.ref r1, .ref r2, .ref r3]) nr
    refine k r ⟨ps, be, as⟩ _ ⟨hps, by show 1 ≤ ps.length; omega, by show ps.length ≤ 60; omega, basc, fun x hx => by show x < ps.length; rw [hpl]; exact blt x hx, aasc, fun x hx => by show x < ps.length; rw [hpl]; exact alt x hx⟩ (by show a ≤ ps.length; omega) (by show ps.length ≤ b; omega) (handIn_keep hI5 S6) (kept_trans kk (kept_trans k3 (kept_trans k4 (kept_trans k5 (kept_same S6))))) ?_
    exact ⟨r1, r2, r3, upd_same, S6 _ _ (k5 _ _ (tup_ne hI4 (k4 _ _ (tup_ne hI3 ht3) ht3)) (k4 _ _ (tup_ne hI3 ht3) ht3)), S6 _ _ (k5 _ _ (tup_ne hI4 ht4) ht4), S6 _ _ ht5⟩
end
end Cn
namespace Cn
open PySem PySem.Spec PyProof.Rows L2 Ck
section
variable {P : Program} {w : World} {K : PySem.W.Frag} {mg : Str → Option Value} {base : Heap} {C : Addr}
/-- levels, drawn -/
def spDPlan : Sp := fun vs H Q _ => ∃ (p : Addr) (S : Addr → Prop) (b : Addr) (ps : List (Option Nat)), vs = [.ref p, .ref b] ∧ HandIn H p S ∧ TP H b ps ∧ Ps ps ∧ ps.length ≤ 60 ∧
  ∀ r lv H', Lv ps lv → HandIn H' p S → Kept p H H' → TN H' r lv → Q (.ref r) H'
def nDPlan : List Str := ["_law_pool_here", "_law_parents_here", "_law_found", "_law_parent"]
theorem scDPlan : FnScope nDPlan ["_law_pool_here", "_law_parents_here"] (defScope sDPlan) := ⟨rfl, rfl, rfl, by decide +kernel, rfl, by decide +kernel, by decide +kernel⟩
theorem dDPlan (B : Defs K mg C) : Def P w K mg base "_law_plan" 2 ["_law_pool_here", "_law_parents_here"] spDPlan := by
  obtain ⟨fD, fdD, GD, gD, kD, bD⟩ := dDraw (P := P) (w := w) (base := base) B
  have N := B.N
  have nd := scDPlan.nd
  refine def_of B.dpl fun f fd F => ?_
  refine F.ok scDPlan (fun vs H Q E h => ?_) (fun cdv A outer s H vs Q E hr h => ?_)
  · obtain ⟨p, S, b, ps, rfl, _⟩ := h
    rfl
  · obtain ⟨p, S, b, ps, rfl, hI, hb, hp, h60, k⟩ := h
    refine ⟨_, pss_cons (ps_set (i := 2) nd rfl (Or.inl rfl) (pe_lst pa_nil))
      (pss_cons (ps_for PassesOwn.never rfl (pi_tup (pv 1)) (pg_name (i := 3) nd rfl (Or.inl rfl))
        (pss_one (ps_expr (pe_bm PySem.F.plainAttrs_list PySem.F.slot_list_append PySem.F.type_list_append mt_append (pv 2) (pa_cons (pe_ifExp (pt_cmpR op_isN (pv 3) pe_non (nomark _)) pe_int (pe_op op_add pe_int (pe_call GD hr (by rfl) gD kD bD .nil pass0 (pa_cons (pv 0) (pa_cons (pe_op op_add (pe_ix ix_list (pv 2) (pv 3) (fun _ _ => rfl)) pe_int) pa_nil))))) pa_nil)))))
      (pss_one (ps_ret (pe_callTy call_tuple_of (by rfl) N.is.tup (by decide +kernel) (pa_cons (pv 2) pa_nil))))), ?_⟩
    refine ⟨by show 0 ≤ sizeLine; decide, fun D nD => ?_⟩
    have nDp := hand_ne hI nD
    have bp := tup_ne hI hb
    have hb1 : TP (upd H D (.lst [])) b ps := smUpd nD _ _ hb
    refine ⟨_, rfl, b, rfl, ⟨_, tpL hb1⟩, ?_⟩
    refine for_it (walk_tup (xs := ps.map vp)) (fun i σ G => HandIn G p (fun x => x = D ∨ S x) ∧ Kept p H G ∧ TP G b ps ∧ ∃ (lv : List Nat) (t3 : Option V), σ = [some (.ref p), some (.ref b), some (.ref D), t3] ∧ G D = some (.lst (lv.map vn)) ∧ lv.length = i ∧ LvTo ps lv) ⟨handIn_add hI nD, kept_same (smUpd nD), hb1, [], none, rfl, upd_same, rfl, fun j l q h => by rw [List.getElem?_nil] at h; cases h⟩ (fun i σ G _ z => tpL z.2.2.1) ?_ ?_
    · rintro i x σ G0 G hi ⟨hG, kG, hbG, lv, t3, rfl, hD, hl, hv⟩ ⟨rfl, hx⟩
      obtain ⟨q, hq, rfl⟩ := vp_get hx
      rw [List.length_map] at hi
      have hq2 : ps[lv.length]? = some q := by rw [hl]; exact hq
      have nbD : b ≠ D := fun z => by
        have hbG : G b = _ := hbG
        rw [z, hD] at hbG; cases hbG
      have fin : ∀ {J : Hp} (m : Nat), 1 ≤ m → m ≤ mostLv lv q → HandIn J p (fun x => x = D ∨ S x) → Kept p H J → TP J b ps → J D = some (.lst (lv.map vn)) → ∃ l xs y, V.ref D = .ref l ∧ [vn m] = [y] ∧ J l = some (.lst xs) ∧ xs.length < sizeLine ∧ HandIn (upd J l (.lst (xs ++ [y]))) p (fun x => x = D ∨ S x) ∧ Kept p H (upd J l (.lst (xs ++ [y]))) ∧ TP (upd J l (.lst (xs ++ [y]))) b ps ∧ ∃ (lv' : List Nat) (t3 : Option V), ([some (.ref p), some (.ref b), some (.ref D), some (vp q)] : L2.St) = [some (.ref p), some (.ref b), some (.ref D), t3] ∧ upd J l (.lst (xs ++ [y])) D = some (.lst (lv'.map vn)) ∧ lv'.length = i + 1 ∧ LvTo ps lv' := fun {J} m m1 m2 a b' c d =>
        ⟨D, _, _, rfl, rfl, d, small1000 (by rw [List.length_map]; omega), handIn_write a (.inl rfl), kept_over nD b', by show upd J D _ b = _; rw [upd_ne nbD]; exact c, lv ++ [m], _, rfl, by rw [upd_same, List.map_append]; rfl, by rw [List.length_append, hl]; rfl, lvSnoc hp hv hq2 m1 m2⟩
      refine ⟨_, rfl, .inl ⟨rfl, _, .inl (.inl hD)⟩, _, rfl, rfl, _, rfl, ?_⟩
      cases q with
      | none =>
        refine ifT (by decide) ?_
        exact fin 1 (Nat.le_refl _) (Nat.le_refl _) hG kG hbG hD
      | some m =>
        refine ifF (by rw [vp_ne]; decide) ?_
        have hm : m < lv.length := by rw [hl]; exact hp i m hq
        have hle := lvTo_le hp hv (by omega) m _ (getD_at hm)
        refine ⟨_, rfl, _, rfl, _, rfl, D, _, (m : Int), _, rfl, rfl, .inl (.inl hD), vn_ix (getD_at hm), _, _, rfl, rfl, p, _, ((lv.getD m 0 : Nat) : Int) + 1, rfl, hG, by omega, by omega, fun d G2 d0 d1 hG2 k2 => ⟨_, _, rfl, rfl, ?_⟩⟩
        obtain ⟨d, rfl⟩ := Int.eq_ofNat_of_zero_le d0
        have z := fin (1 + d) (by omega) (by show 1 + d ≤ lv.getD m 0 + 1; omega) hG2 (kept_trans kG k2) (k2 _ _ bp hbG) (k2 _ _ nDp hD)
        rw [show vn (1 + d) = V.int (1 + (d : Int)) from congrArg V.int (by omega)] at z
        exact z
    · rintro σ G ⟨hG, kG, hbG, lv, t3, rfl, hD, hl, hv⟩
      rw [List.length_map] at hl
      refine ⟨_, rfl, D, _, rfl, .inl ⟨.inl (.inl hD), fun r nr => ?_⟩⟩
      exact k r lv _ ⟨hl, hv⟩ (handIn_keep (handIn_less hG fun _ z => .inr z) (smUpd nr)) (kept_trans kG (kept_same (smUpd nr))) upd_same
end
end Cn
namespace Cn
open PySem PySem.Spec PyProof.Rows L2 Ck
section
variable {P : Program} {w : World} {K : PySem.W.Frag} {mg : Str → Option Value} {base : Heap} {C : Addr}
/-- the way, a list -/
def spLWay : Sp := fun vs H Q _ => ∃ (b : Addr) (ps : List (Option Nat)) (i : Nat), vs = [.ref b, vn i] ∧ TP H b ps ∧ Ps ps ∧ ps.length ≤ 60 ∧ i < ps.length ∧ ∀ r H', Same H H' → H' r = some (.lst ((road ps i).map vn)) → Q (.ref r) H'
def nLWay : List Str := ["_law_parents_here", "_law_place", "_law_found"]
theorem scLWay : FnScope nLWay ["_law_parents_here", "_law_place"] (defScope sLWay) := ⟨rfl, rfl, rfl, by decide +kernel, rfl, by decide +kernel, by decide +kernel⟩
theorem dLWay (B : Defs K mg C) : Def P w K mg base "_law_way" 1 ["_law_parents_here", "_law_place"] spLWay := by
  have N := nOf B
  refine def_of B.lwy fun f fd F => ?_
  refine F.ok scLWay (fun vs H Q E h => ?_) (fun cdv A outer s H vs Q E hr h => ?_)
  · obtain ⟨b, ps, i, rfl, _⟩ := h
    rfl
  · obtain ⟨b, ps, i, rfl, hb, hp, h60, hi, k⟩ := h
    refine ⟨_, pss_cons (ps_set (i := 2) scLWay.nd rfl (Or.inl rfl) (pe_lst (pa_cons (pv 1) pa_nil)))
      (pss_cons (ps_while PassesOwn.never (pt_cmpR op_notN (pe_ix ix_tup (pv 0) (pe_ix ix_list (pv 2) pe_int (fun _ _ => rfl)) (fun _ _ => rfl)) pe_non (nomark _))
        (pss_one (ps_set (i := 2) scLWay.nd rfl (Or.inl rfl) (pe_op op_cat (pe_lst (pa_cons (pe_ix ix_tup (pv 0) (pe_ix ix_list (pv 2) pe_int (fun _ _ => rfl)) (fun _ _ => rfl)) pa_nil)) (pv 2)))))
      (pss_one (ps_ret (pv 2)))), ?_⟩
    refine ⟨_, rfl, by show 1 ≤ sizeLine; decide, fun D nD => ?_⟩
    refine while_by (fun σ H' => ∃ (D : Addr) (x : Nat) (rest : List Nat), σ = [some (.ref b), some (vn i), some (.ref D)] ∧ Same H H' ∧ H' D = some (.lst ((x :: rest).map vn)) ∧ x < ps.length ∧ road ps i = road ps x ++ rest) measR ⟨D, i, [], rfl, smUpd nD, upd_same, hi, (List.append_nil _).symm⟩ ?_ ?_
    · rintro σ H1 ⟨D, x, rest, rfl, sm, hD, hx, hr1⟩
      have hb1 := sm _ _ hb
      obtain ⟨q, hq⟩ := ps_at hx
      refine ⟨_, rfl, _, rfl, D, _, (0 : Int), _, rfl, rfl, .inl (.inl hD), vn_ix (i := 0) (ns := x :: rest) rfl, b, _, (x : Int), _, rfl, rfl, tpL hb1, vp_ix hq, rfl, _, rfl, ?_⟩
      cases q with
      | none =>
        refine ifF (by decide) ?_
        refine ⟨_, rfl, k D _ sm ?_⟩
        rw [hr1, road_none hq]
        exact hD
      | some p =>
        refine ifT (by rw [vp_ne]; rfl) ?_
        have hpx := hp x p hq
        refine ⟨_, rfl, _, rfl, D, _, (0 : Int), _, rfl, rfl, .inl (.inl hD), vn_ix (i := 0) (ns := x :: rest) rfl, b, _, (x : Int), _, rfl, rfl, tpL hb1, vp_ix hq, by show 1 ≤ sizeLine; decide, fun l nl => ?_⟩
        have S2 := smUpd (o := .lst [vp (some p)]) nl
        have hl2 : upd H1 l (.lst [vp (some p)]) l = some (.lst [vp (some p)]) := upd_same
        generalize upd H1 l (.lst [vp (some p)]) = H2 at S2 hl2 ⊢
        have hlen := road_len hp i hi
        have hxl := List.length_pos_iff.mpr (road_ne hp hx)
        rw [hr1, List.length_append] at hlen
        refine ⟨_, rfl, l, D, _, _, rfl, rfl, hl2, S2 _ _ hD, Nat.le_of_lt (small1000 (by rw [List.length_map]; show 1 + (rest.length + 1) ≤ 1000; omega)), fun e ne => ?_⟩
        refine ⟨⟨e, p, x :: rest, rfl, sm.trans (S2.trans (smUpd ne)), upd_same, Nat.lt_trans hpx hx, ?_⟩, ?_⟩
        · rw [hr1, road_some hp hq, List.append_assoc]; rfl
        · have m1 : measR [some (.ref b), some (vn i), some (.ref D)] H1 = x := by
            show (match H1 D with | some (.lst (V.int n :: _)) => n.toNat | _ => 0) = x
            rw [hD]
            exact Int.toNat_natCast x
          have m2 : measR [some (.ref b), some (vn i), some (.ref e)] (upd H2 e (.lst ([vp (some p)] ++ (x :: rest).map vn))) = p := by
            show (match upd H2 e (.lst ([vp (some p)] ++ (x :: rest).map vn)) e with | some (.lst (V.int n :: _)) => n.toNat | _ => 0) = p
            rw [upd_same]
            exact Int.toNat_natCast p
          show measR [some (.ref b), some (vn i), some (.ref e)] (upd H2 e (.lst ([vp (some p)] ++ (x :: rest).map vn))) < measR [some (.ref b), some (vn i), some (.ref D)] H1
          rw [m1, m2]
          exact hpx
    · rintro σ H' Q1 Q2 hq ⟨v, hv, u, hu, l, ys, j, z, e1, e2, e3, e4, p, xs, i, y, f1, f2, f3, f4, e5, kk, hk, qq⟩
      exact ⟨v, hv, u, hu, l, ys, j, z, e1, e2, e3, e4, p, xs, i, y, f1, f2, f3, f4, e5, kk, hk, hq _ _ qq⟩
def spMade (C : Addr) : Sp := fun vs H Q _ => ∃ (r : Addr) (f : Fo), vs = [.ref r] ∧ TolR H r f ∧ FoOk f ∧ ∀ a H', Same H H' → FoAt C H' a f → Q (.ref a) H'
def nMade : List Str := ["_law_spec_here"]
theorem scMade : FnScope nMade ["_law_spec_here"] (defScope sMade) := ⟨rfl, rfl, rfl, by decide +kernel, rfl, by decide +kernel, by decide +kernel⟩
theorem dMade (B : Defs K mg C) : Def P w K mg base "_law_made" 6 ["_law_spec_here"] (spMade C) := by
  obtain ⟨fN, fdN, FN, MN, bN⟩ := B.ini
  obtain ⟨tm, mM⟩ := B.mM
  obtain ⟨fI, fdI, DI⟩ := B.I
  obtain ⟨fL, fdL, DL⟩ := B.L
  obtain ⟨fB, fdB, DB⟩ := B.B
  obtain ⟨fO, fdO, DO⟩ := B.O
  have GN : FnOk P w K mg base CX0 4 fN fdN ["self", "parents", "bearing", "asking"] (spInit C) := ok_init FN B.N B.T mM DI DL DB DO
  refine def_of B.ma fun f fd F => ?_
  refine F.ok scMade (fun vs H Q E h => ?_) (fun cdv A outer s H vs Q E hr h => ?_)
  · obtain ⟨r, fo, rfl, _⟩ := h
    rfl
  · obtain ⟨r, fo, rfl, ⟨ap, ab, aa, h0, h1, h2, h3⟩, ok, k⟩ := h
    refine ⟨_, pss_one (ps_ret (pe_make MN GN hr (by rfl) B.T.mgC bN .nil pass0 (pa_cons (pe_ix ix_tup (pv 0) pe_int (fun _ _ => rfl)) (pa_cons (pe_ix ix_tup (pv 0) pe_int (fun _ _ => rfl)) (pa_cons (pe_ix ix_tup (pv 0) pe_int (fun _ _ => rfl)) pa_nil))))), ?_⟩
    refine ⟨_, rfl, r, _, (0 : Int), _, rfl, rfl, .inl (.inl h0), rfl, _, rfl, r, _, (1 : Int), _, rfl, rfl, .inl (.inl h0), rfl, _, rfl, r, _, (2 : Int), _, rfl, rfl, .inl (.inl h0), rfl, fun x dx nx ndx ne => ?_⟩
    have S1 := smUpd (o := .own x) ndx
    have nx1 : (upd H dx (.own x)) x = none := by rw [upd_ne (Ne.symm ne)]; exact nx
    have S2 := S1.trans (smUpd (o := .ins C dx []) nx1)
    refine ⟨x, dx, ap, ab, aa, fo, rfl, upd_same, S2 _ _ h1, S2 _ _ h2, S2 _ _ h3, ok, fun H' hF kp => ⟨rfl, k x H' (fun b o e => kp b o (fun z => by rw [z, nx] at e; cases e) (S2 _ _ e)) hF⟩⟩
end
end Cn
namespace Cn
open PySem PySem.Spec PyProof.Rows L2 Ck
section
variable {P : Program} {w : World} {K : PySem.W.Frag} {mg : Str → Option Value} {base : Heap} {C : Addr}
/-! the law's own stacks, where a pool deals -/
def spLStacks : Sp := fun vs H Q _ => ∃ (b l : Addr) (ps : List (Option Nat)) (lv : List Nat), vs = [.ref b, .ref l] ∧ TP H b ps ∧ TN H l lv ∧ Ps ps ∧ ps.length ≤ 60 ∧ Lv ps lv ∧
  ∀ r us H', Same H H' → H' r = some (.lst us) → Rows H' (stk ps lv) ps.length us → Q (.ref r) H'
def nLStacks : List Str := ["_law_parents_here", "_law_plan_here", "_law_found", "_law_place", "_law_ahead"]
theorem scLStacks : FnScope nLStacks ["_law_parents_here", "_law_plan_here"] (defScope sLStacks) := ⟨rfl, rfl, rfl, by decide +kernel, rfl, by decide +kernel, by decide +kernel⟩
theorem dLStacks (B : Defs K mg C) : Def P w K mg base "_law_stacks" 1 ["_law_parents_here", "_law_plan_here"] spLStacks := by
  have N := B.N
  have nd := scLStacks.nd
  refine def_of B.ls fun f fd F => ?_
  refine F.ok scLStacks (fun vs H Q E h => ?_) (fun cdv A outer s H vs Q E hr h => ?_)
  · obtain ⟨b, l, ps, lv, rfl, _⟩ := h
    rfl
  · obtain ⟨b, l, ps, lv, rfl, hb, hlv, hp, h60, hv, k⟩ := h
    refine ⟨_, pss_cons (ps_set (i := 2) nd rfl (Or.inl rfl) (pe_lst pa_nil))
      (pss_cons (ps_for PassesOwn.never rfl (pi_range1 (by rfl) N.range (pa_cons (pe_callB call_len_seq (by rfl) N.is.len PySem.boot_len (pa_cons (pv 0) pa_nil)) pa_nil)) (pg_name (i := 3) nd rfl (Or.inl rfl))
        (psMid (ps_set (i := 4) nd rfl (Or.inl rfl) (pe_ifExp (pt_cmpR op_isN (pe_ix ix_tup (pv 0) (pv 3) (fun _ _ => rfl)) pe_non (nomark _)) (pe_tup pa_nil) (pe_slice sl_tupA (pe_ix ix_list (pv 2) (pe_ix ix_tup (pv 0) (pv 3) (fun _ _ => rfl)) (fun _ _ => rfl)) po_none (po_some (pe_op op_sub (pe_ix ix_tup (pv 1) (pv 3) (fun _ _ => rfl)) pe_int)))))
        (pss_one (ps_expr (pe_bm PySem.F.plainAttrs_list PySem.F.slot_list_append PySem.F.type_list_append mt_append (pv 2) (pa_cons (pe_op op_catA (pv 4) (pe_tup (pa_cons (pv 3) pa_nil))) pa_nil))))))
      (pss_one (ps_ret (pv 2)))), ?_⟩
    refine ⟨by show 0 ≤ sizeLine; decide, fun D nD => ?_⟩
    have S1 := smUpd (o := .lst []) nD
    have hD1 : upd H D (.lst []) D = some (.lst []) := upd_same
    generalize upd H D (.lst []) = H1 at S1 hD1 ⊢
    refine ⟨_, rfl, b, _, rfl, .inr (tpL (S1 _ _ hb)), ((ps.map vp).length : Int), rfl, by omega, by rw [List.length_map]; omega, ?_⟩
    rw [List.length_map, Int.toNat_natCast]
    refine for_range (lo := 0) (n := ps.length) (fun i σ H' => Same H H' ∧ ∃ (us : List V) (t3 t4 : Option V), σ = [some (.ref b), some (.ref l), some (.ref D), t3, t4] ∧ H' D = some (.lst us) ∧ Rows H' (stk ps lv) i us) ⟨S1, [], _, _, rfl, hD1, rows0⟩ ?_ ?_
    · rintro i σ H2 hi ⟨sm, us, t3, t4, rfl, hD, hR⟩
      rw [show (0 : Int) + ((i : Nat) : Int) = ((i : Nat) : Int) from Int.zero_add _]
      have hil : i < lv.length := by rw [hv.1]; exact hi
      obtain ⟨q, hq⟩ : ∃ q, ps[i]? = some q := ⟨_, List.getElem?_eq_getElem hi⟩
      have hqa : atI (ps.map vp) ((i : Nat) : Int) = some (vp q) := atI_nat (by rw [List.getElem?_map, hq]; rfl)
      refine ⟨fun σ J => ∃ (t : Addr) (zs : List Nat), σ = [some (.ref b), some (.ref l), some (.ref D), some (vn i), some (.ref t)] ∧ Same H2 J ∧ J t = some (.tup (zs.map vn)) ∧ zs ++ [i] = stk ps lv i ∧ zs.length ≤ 60, ?_, ?_⟩
      · refine ⟨_, rfl, _, rfl, b, _, (i : Int), _, rfl, rfl, tpL (sm _ _ hb), hqa, rfl, _, rfl, ?_⟩
        cases q with
        | none =>
          refine ifT (by decide) ?_
          refine ⟨by show 0 ≤ sizeLine; decide, fun t nt => ?_⟩
          exact ⟨t, [], rfl, smUpd nt, upd_same, by rw [stk_none hq]; rfl, Nat.zero_le _⟩
        | some p =>
          refine ifF (by rw [vp_ne]; decide) ?_
          obtain ⟨t, hut, ht⟩ := hR.2 p (hp i p hq)
          refine ⟨_, rfl, _, rfl, _, rfl, b, _, (i : Int), _, rfl, rfl, tpL (sm _ _ hb), hqa, D, us, (p : Int), _, rfl, rfl, .inl (.inl hD), atI_nat hut, _, rfl, _, rfl, l, _, (i : Int), _, rfl, rfl, tnL (sm _ _ hlv), vn_ix (getD_at hil), _, _, rfl, rfl, _, rfl, ?_⟩
          have hlv1 := hv.2 i _ _ (getD_at hil) hq
          refine slA ht fun c H3 s3 hc => ?_
          have e1 : ((lv.getD i 0 : Nat) : Int) - 1 = ((lv.getD i 0 - 1 : Nat) : Int) := by omega
          rw [e1, cutTake, ← List.map_take] at hc
          have hpl : p < ps.length := Nat.lt_trans (hp i p hq) hi
          have hzl : (stk ps lv p).length ≤ 60 := stkLe hp hv h60 hpl
          exact ⟨c, _, rfl, s3, hc, (stk_some hp hq).symm, Nat.le_trans (takeLe _ _) hzl⟩
      · rintro σ J ⟨t, zs, rfl, s3, ht, hz, hzl⟩
        have hD3 := s3 _ _ hD
        refine ⟨_, rfl, .inl ⟨rfl, _, .inl (.inl hD3)⟩, _, rfl, _, rfl, by show 1 ≤ sizeLine; decide, fun t2 n2 => ?_⟩
        have S5 := smUpd (o := .tup [vn i]) n2
        refine catA (S5 _ _ ht) upd_same (by rw [List.length_map]; show zs.length + 1 ≤ 1000; omega) fun e H6 s6 he => ?_
        have s26 := s3.trans (S5.trans s6)
        have hD6 := s26 _ _ hD
        refine ⟨D, us, _, rfl, rfl, hD6, by rw [hR.1]; exact small1000 (by omega), ?_⟩
        have he2 : TN H6 e (stk ps lv i) := tnAt he (by rw [← hz, List.map_append]; rfl)
        exact ⟨smOver nD (sm.trans s26), _, _, _, rfl, upd_same, rowsUpd (H0 := H) (rowsAdd (rowsSame s26 hR) he2) hD6⟩
    · rintro σ H' ⟨sm, us, t3, t4, rfl, hD, hR⟩
      exact ⟨_, rfl, k D us H' sm hD hR⟩
end
end Cn
namespace Cn
open PySem PySem.Spec PyProof.Rows L2 Ck
/-! the law's own notes by places -/
theorem vn_last2 {ns : List Nat} {n : Nat} (h : ns.dropLast ≠ []) (hn : ns.dropLast.getLast h = n) : atI (ns.map vn) (-2) = some (vn n) := by
  have hl : 2 ≤ ns.length := by
    have := List.length_pos_iff.mpr h
    rw [List.length_dropLast] at this
    omega
  have e : atI (ns.map vn) (-2) = (ns.map vn)[ns.length - 2]? := by
    unfold atI ixN
    rw [if_neg (by decide), if_pos (by rw [List.length_map]; omega), List.length_map]
    show (ns.map vn)[((-2 : Int) + (ns.length : Int)).toNat]? = _
    rw [show ((-2 : Int) + (ns.length : Int)).toNat = ns.length - 2 from by omega]
  have e2 : ns[ns.length - 2]? = some n := by
    have h1 := List.getLast?_eq_some_getLast h
    rw [hn, List.getLast?_eq_getElem?, List.length_dropLast, List.getElem?_dropLast, if_pos (by omega), show ns.length - 1 - 1 = ns.length - 2 from by omega] at h1
    exact h1
  rw [e, List.getElem?_map, e2]
  rfl
def RowAt (H : Hp) (v : V) (e : Nat × (List Nat × List Nat)) : Prop := ∃ t x y, v = .ref t ∧ H t = some (.tup [vn e.1, .ref x, .ref y]) ∧ TN H x e.2.1 ∧ TN H y e.2.2
theorem rowAtSame {H H' : Hp} (s : Same H H') {v : V} {e : Nat × (List Nat × List Nat)} (h : RowAt H v e) : RowAt H' v e := by
  obtain ⟨t, x, y, h1, h2, h3, h4⟩ := h
  exact ⟨t, x, y, h1, s _ _ h2, s _ _ h3, s _ _ h4⟩
theorem rowAtUpd {H : Hp} {D : Addr} {o : HO} {xs : List V} (hD : H D = some (.lst xs)) {v : V} {e : Nat × (List Nat × List Nat)} (h : RowAt H v e) : RowAt (upd H D o) v e := by
  obtain ⟨t, x, y, h1, h2, h3, h4⟩ := h
  have ne : ∀ {a : Addr} {ys : List V}, H a = some (.tup ys) → upd H D o a = some (.tup ys) := fun {a ys} z => by
    rw [upd_ne (fun q => by rw [q, hD] at z; cases z)]
    exact z
  exact ⟨t, x, y, h1, ne h2, ne h3, ne h4⟩
section
variable {P : Program} {w : World} {K : PySem.W.Frag} {mg : Str → Option Value} {base : Heap} {C : Addr}
def spLRows : Sp := fun vs H Q _ => ∃ (r l : Addr) (fo : Fo) (lv : List Nat), vs = [.ref r, .ref l] ∧ TolR H r fo ∧ FoOk fo ∧ TN H l lv ∧ Lv fo.ps lv ∧
  ∀ q us H', Same H H' → H q = none → H' q = some (.lst us) → Paired (RowAt H') us (heldNotes fo.ps fo.be fo.as lv fo.ps.length) → Q (.ref q) H'
def nLRows : List Str := ["_law_spec_here", "_law_plan_here", "_law_parents_here", "_law_bearing", "_law_asking", "_law_stacks_here", "_law_found", "_law_place", "_law_way_here", "_law_places", "_law_asks", "_law_one"]
theorem scLRows : FnScope nLRows ["_law_spec_here", "_law_plan_here"] (defScope sLRows) := ⟨rfl, rfl, rfl, by decide +kernel, rfl, by decide +kernel, by decide +kernel⟩
theorem dLRows (B : Defs K mg C) : Def P w K mg base "_law_rows" 2 ["_law_spec_here", "_law_plan_here"] spLRows := by
  obtain ⟨fS, fdS, GS, gS, kS, bS⟩ := dLStacks (P := P) (w := w) (base := base) B
  obtain ⟨fW, fdW, GW, gW, kW, bW⟩ := dLWay (P := P) (w := w) (base := base) B
  have N := B.N
  have nd := scLRows.nd
  refine def_of B.lrw fun f fd F => ?_
  refine F.ok scLRows (fun vs H Q E h => ?_) (fun cdv A outer s H vs Q E hr h => ?_)
  · obtain ⟨r, l, fo, lv, rfl, _⟩ := h
    rfl
  · obtain ⟨r, l, fo, lv, rfl, hT, ok, hl, hv, k⟩ := h
    refine ⟨_, pss_cons (ps_asg (pv 0) (pg_tup rfl (pgs_cons (pg_name (i := 2) nd rfl (Or.inl rfl)) (pgs_cons (pg_name (i := 3) nd rfl (Or.inr rfl)) (pgs_cons (pg_name (i := 4) nd rfl (Or.inl rfl)) pgs_nil)))))
      (pss_cons (ps_set (i := 5) nd rfl (Or.inr rfl) (pe_call GS hr (by rfl) gS kS bS .nil pass0 (pa_cons (pv 2) (pa_cons (pv 1) pa_nil))))
      (pss_cons (ps_set (i := 6) nd rfl (Or.inl rfl) (pe_lst pa_nil))
      (pss_cons (ps_for PassesOwn.never rfl (pi_range1 (by rfl) N.range (pa_cons (pe_callB call_len_seq (by rfl) N.is.len PySem.boot_len (pa_cons (pv 2) pa_nil)) pa_nil)) (pg_name (i := 7) nd rfl (Or.inr rfl))
        (pss_cons (ps_set (i := 8) nd rfl (Or.inl rfl) (pe_call GW hr (by rfl) gW kW bW .nil pass0 (pa_cons (pv 2) (pa_cons (pv 7) pa_nil))))
        (psMid (ps_if (pt_cmpR op_gt (pe_callB call_len_seq (by rfl) N.is.len PySem.boot_len (pa_cons (pe_ix ix_list (pv 5) (pv 7) (fun _ _ => rfl)) pa_nil)) pe_int (nomark _))
          (pss_one (ps_set (i := 8) nd rfl (Or.inl rfl) (pe_slice sl_list (pv 8) (po_some (pe_op op_add (pe_bm PySem.F.plainAttrs_list PySem.F.slot_list_index PySem.F.type_list_index mt_index (pv 8) (pa_cons (pe_ix ix_tup (pe_ix ix_list (pv 5) (pv 7) (fun _ _ => rfl)) (pe_un un_neg pe_int) (fun _ _ => rfl)) pa_nil)) pe_int)) po_none))) pss_nil)
        (pss_cons (ps_set (i := 9) nd rfl (Or.inl rfl) (pe_callTy call_tuple_of (by rfl) N.is.tup (by decide +kernel) (pa_cons (pe_lc (own := [("_law_one", 11)]) (g := gName 11) (tt := tTest (tOp (rIn K false) (tVar 11) (tVar 3))) rfl nd (pi_list (pv 8))
          (blkOk_by (N := nLRows) (sc := defScope sLRows) (by decide +kernel)) (fun _ _ _ _ _ => pg_name (i := 11) nd rfl (Or.inl rfl)) (fun _ _ _ _ _ => pts_one (pt_cmpR op_in_seq (pv 11) (pv 3) (by rfl))) (fun _ _ _ _ _ => pv 11)) pa_nil)))
        (pss_cons (ps_set (i := 10) nd rfl (Or.inl rfl) (pe_callTy call_tuple_of (by rfl) N.is.tup (by decide +kernel) (pa_cons (pe_lc (own := [("_law_one", 11)]) (g := gName 11) (tt := tTest (tOp (rIn K false) (tVar 7) (tOp (rIxL K) (tVar 5) (tVar 11)))) rfl nd (pi_tup (pv 4))
          (blkOk_by (N := nLRows) (sc := defScope sLRows) (by decide +kernel)) (fun _ _ _ _ _ => pg_name (i := 11) nd rfl (Or.inl rfl)) (fun _ _ _ _ _ => pts_one (pt_cmpR op_in_seq (pv 7) (pe_ix (r := rIxL K) ix_list (pv 5) (pv 11) (fun _ _ => rfl)) (by rfl))) (fun _ _ _ _ _ => pv 11)) pa_nil)))
        (pss_one (ps_if (PW.pt (pw_and (pt_cmpR op_gt (pe_callB call_len_seq (by rfl) N.is.len PySem.boot_len (pa_cons (pv 9) pa_nil)) pe_int (nomark _)) (pw_and1 (pt_cmpR op_gt (pe_callB call_len_seq (by rfl) N.is.len PySem.boot_len (pa_cons (pv 10) pa_nil)) pe_int (nomark _)))))
          (pss_one (ps_expr (pe_bm PySem.F.plainAttrs_list PySem.F.slot_list_append PySem.F.type_list_append mt_append (pv 6) (pa_cons (pe_tup (pa_cons (pv 7) (pa_cons (pv 9) (pa_cons (pv 10) pa_nil)))) pa_nil)))) pss_nil)))))))
      (pss_one (ps_ret (pv 6)))))), ?_⟩
    obtain ⟨ap, ab, aa, o0, o1, o2, o3⟩ := id hT
    have l60 := ok.l1
    refine ⟨_, rfl, r, _, rfl, .inl (.inl o0), rfl, _, _, rfl, _, _, rfl, _, _, rfl, rfl, ?_⟩
    refine ⟨_, rfl, _, rfl, ap, l, fo.ps, lv, rfl, o1, hl, ok.ps, ok.l1, hv, fun st us H1 s1 hst hR => ?_⟩
    refine ⟨by show 0 ≤ sizeLine; decide, fun D nD => ?_⟩
    have SD := smUpd (o := .lst []) nD
    have nDH : H D = none := by
      cases e : H D with
      | none => rfl
      | some o => rw [s1 _ _ e] at nD; cases nD
    refine ⟨_, rfl, ap, _, rfl, .inr (tpL (SD _ _ (s1 _ _ o1))), ((fo.ps.map vp).length : Int), rfl, by omega, by rw [List.length_map]; omega, ?_⟩
    rw [List.length_map, Int.toNat_natCast]
    refine for_range (lo := 0) (n := fo.ps.length) (fun i σ H' => Same H1 H' ∧ ∃ (ns : List V) (t7 t8 t9 t10 : Option V), σ = [some (.ref r), some (.ref l), some (.ref ap), some (.ref ab), some (.ref aa), some (.ref st), some (.ref D), t7, t8, t9, t10, none] ∧ H' D = some (.lst ns) ∧ Paired (RowAt H') ns (heldNotes fo.ps fo.be fo.as lv i)) ⟨SD, [], _, _, _, _, rfl, upd_same, .nil⟩ ?_ ?_
    · rintro i σ H2 hi ⟨s12, ns, t7, t8, t9, t10, rfl, hD2, hN2⟩
      rw [show (0 : Int) + ((i : Nat) : Int) = ((i : Nat) : Int) from Int.zero_add _]
      have sm2 := s1.trans s12
      refine ⟨_, rfl, _, rfl, ap, fo.ps, i, rfl, sm2 _ _ o1, ok.ps, ok.l1, hi, fun rt H3 s3 hrt => ?_⟩
      have s13 := s12.trans s3
      have hst3 := s13 _ _ hst
      have hR3 := rowsSame s13 hR
      obtain ⟨t, hut, ht⟩ := hR3.2 i hi
      refine ⟨fun σ J => ∃ q8 : Addr, σ = [some (.ref r), some (.ref l), some (.ref ap), some (.ref ab), some (.ref aa), some (.ref st), some (.ref D), some (vn i), some (.ref q8), t9, t10, none] ∧ Same H3 J ∧ J q8 = some (.lst ((heldAt fo.ps lv i).map vn)), ?_, ?_⟩
      · refine ⟨_, rfl, _, rfl, st, us, (i : Int), _, rfl, rfl, .inl (.inl hst3), atI_nat hut, t, _, rfl, .inr (tnL ht), _, _, rfl, rfl, _, rfl, ?_⟩
        by_cases hne : (stk fo.ps lv i).dropLast = []
        · refine ifF (by
            rw [decide_eq_true_iff, List.length_map]
            have := congrArg List.length hne
            rw [List.length_dropLast, List.length_nil] at this
            omega) ?_
          exact ⟨rt, rfl, Same.refl _, by rw [hrt]; unfold heldAt; rw [hne]; rfl⟩
        · refine ifT (by
            rw [decide_eq_true_iff, List.length_map]
            have := List.length_pos_iff.mpr hne
            rw [List.length_dropLast] at this
            omega) ?_
          have hx : (stk fo.ps lv i).dropLast.getLast hne ∈ road fo.ps i := stk_sub ok.ps i hi _ (List.dropLast_subset _ (List.getLast_mem hne))
          have hheld : heldAt fo.ps lv i = (road fo.ps i).drop ((road fo.ps i).idxOf ((stk fo.ps lv i).dropLast.getLast hne) + 1) := by unfold heldAt; rw [lastDrop hne]
          generalize hxx : (stk fo.ps lv i).dropLast.getLast hne = x at hx hheld
          obtain ⟨i1, i2⟩ := vn_idx hx
          refine ⟨_, rfl, _, rfl, .inl ⟨rfl, _, .inl (.inl hrt)⟩, _, rfl, _, rfl, st, us, (i : Int), _, rfl, rfl, .inl (.inl hst3), atI_nat hut, _, rfl, t, _, (-2 : Int), _, rfl, rfl, tnL ht, vn_last2 hne hxx, rt, _, _, (road fo.ps i).idxOf x, _, rfl, rfl, .inl (.inl hrt), rfl, vn_flat _, i1, by rw [vn_inj]; exact decide_eq_true rfl, i2, _, _, rfl, rfl, (((road fo.ps i).idxOf x + 1 : Nat) : Int), rfl, rt, _, rfl, .inl (.inl hrt), fun p1 np1 => ?_⟩
          rw [cutDrop, ← List.map_drop, ← hheld]
          exact ⟨p1, rfl, smUpd np1, upd_same⟩
      rintro σ H5 ⟨p1, rfl, s35, hp5⟩
      have sm5 := (sm2.trans s3).trans s35
      refine ⟨_, rfl, p1, rfl, ⟨_, .inl (.inl hp5)⟩, fun D1 nD1 => ?_⟩
      refine lc_list (K := K) (a := p1) (xs := (heldAt fo.ps lv i).map vn) (fun m H' => Same H5 H' ∧ H' D1 = some (.lst ((((heldAt fo.ps lv i).take m).filter fun x => decide (x ∈ fo.be)).map vn))) ⟨smUpd nD1, upd_same⟩ (fun m H' _ z => .inl (.inl (z.1 _ _ hp5))) ?_ ?_
      · rintro m x H' hx ⟨sm, hD⟩
        obtain ⟨n, hn, rfl⟩ := vn_get hx
        have h2' : TN H' ab fo.be := sm _ _ (sm5 _ _ o2)
        refine ⟨rfl, _, rfl, _, rfl, ab, _, rfl, .inr (tnL h2'), rfl, vn_flat _, _, rfl, ?_⟩
        have et : (heldAt fo.ps lv i).take (m + 1) = (heldAt fo.ps lv i).take m ++ [n] := by rw [List.take_add_one, hn]; rfl
        by_cases c : n ∈ fo.be
        · refine ifT (by show inV (vn n) (fo.be.map vn) = true; rw [inV_vn]; exact decide_eq_true c) ?_
          refine ⟨_, rfl, _, hD, small1000 (by rw [List.length_map]; exact Nat.le_trans (List.length_filter_le _ _) (Nat.le_trans (takeLe _ _) (heldLen ok hi))), smOver nD1 sm, ?_⟩
          rw [upd_same, et, List.filter_append, List.map_append, List.filter_cons_of_pos (by simpa using c)]
          rfl
        · refine ifF (by show ¬ inV (vn n) (fo.be.map vn) = true; rw [inV_vn]; simpa using c) ?_
          refine ⟨sm, ?_⟩
          rw [et, List.filter_append, List.filter_cons_of_neg (by simpa using c)]
          show _ = some (HO.lst ((_ ++ []).map vn))
          rw [List.append_nil]
          exact hD
      rintro H6 ⟨s56, hD6⟩
      rw [List.length_map, List.take_length] at hD6
      refine ⟨D1, _, rfl, .inl ⟨.inl (.inl hD6), fun q1 nq1 => ?_⟩⟩
      have S57 := s56.trans (smUpd (o := .tup (((heldAt fo.ps lv i).filter fun x => decide (x ∈ fo.be)).map vn)) nq1)
      have hq7 : TN (upd H6 q1 (.tup (((heldAt fo.ps lv i).filter fun x => decide (x ∈ fo.be)).map vn))) q1 (noteAt fo.ps fo.be fo.as lv i).1 := upd_same
      generalize upd H6 q1 (.tup (((heldAt fo.ps lv i).filter fun x => decide (x ∈ fo.be)).map vn)) = H7 at S57 hq7 ⊢
      have s17 := (s13.trans s35).trans S57
      have hst7 := s17 _ _ hst
      have hR7 := rowsSame s17 hR
      have h37 : TN H7 aa fo.as := s17 _ _ (s1 _ _ o3)
      -- asks
      refine ⟨_, rfl, aa, rfl, ⟨_, tnL h37⟩, fun D2 nD2 => ?_⟩
      refine lc_tup (xs := fo.as.map vn) (fun m H' => Same H7 H' ∧ H' D2 = some (.lst (((fo.as.take m).filter fun j => decide (i ∈ stk fo.ps lv j)).map vn))) ⟨smUpd nD2, upd_same⟩ (fun m H' _ z => tnL (z.1 _ _ h37)) ?_ ?_
      · rintro m x H' hx ⟨sm, hD⟩
        obtain ⟨n, hn, rfl⟩ := vn_get hx
        have hnl := ok.al n (List.mem_of_getElem? hn)
        obtain ⟨t', hut', ht'⟩ := (rowsSame sm hR7).2 n hnl
        refine ⟨rfl, _, rfl, _, rfl, _, rfl, st, us, (n : Int), _, rfl, rfl, .inl (.inl (sm _ _ hst7)), atI_nat hut', t', _, rfl, .inr (tnL ht'), rfl, vn_flat _, _, rfl, ?_⟩
        have et : fo.as.take (m + 1) = fo.as.take m ++ [n] := by rw [List.take_add_one, hn]; rfl
        by_cases c : i ∈ stk fo.ps lv n
        · refine ifT (by show inV (vn i) ((stk fo.ps lv n).map vn) = true; rw [inV_vn]; exact decide_eq_true c) ?_
          refine ⟨_, rfl, _, hD, small1000 (by rw [List.length_map]; exact Nat.le_trans (List.length_filter_le _ _) (Nat.le_trans (takeLe _ _) (by have := lotLen ok.as ok.al; have := ok.l1; omega))), smOver nD2 sm, ?_⟩
          rw [upd_same, et, List.filter_append, List.map_append, List.filter_cons_of_pos (by simpa using c)]
          rfl
        · refine ifF (by show ¬ inV (vn i) ((stk fo.ps lv n).map vn) = true; rw [inV_vn]; simpa using c) ?_
          refine ⟨sm, ?_⟩
          rw [et, List.filter_append, List.filter_cons_of_neg (by simpa using c)]
          show _ = some (HO.lst ((_ ++ []).map vn))
          rw [List.append_nil]
          exact hD
      rintro H8 ⟨s78, hD8⟩
      rw [List.length_map, List.take_length] at hD8
      refine ⟨D2, _, rfl, .inl ⟨.inl (.inl hD8), fun q2 nq2 => ?_⟩⟩
      have S79 := s78.trans (smUpd (o := .tup ((fo.as.filter fun j => decide (i ∈ stk fo.ps lv j)).map vn)) nq2)
      have hq9 : TN (upd H8 q2 (.tup ((fo.as.filter fun j => decide (i ∈ stk fo.ps lv j)).map vn))) q2 (noteAt fo.ps fo.be fo.as lv i).2 := upd_same
      generalize upd H8 q2 (.tup ((fo.as.filter fun j => decide (i ∈ stk fo.ps lv j)).map vn)) = H9 at S79 hq9 ⊢
      have hq19 : TN H9 q1 (noteAt fo.ps fo.be fo.as lv i).1 := S79 _ _ hq7
      have s29 := (s3.trans s35).trans (S57.trans S79)
      have s19 := s12.trans s29
      have hD9 := s29 _ _ hD2
      have hN9 : Paired (RowAt H9) ns (heldNotes fo.ps fo.be fo.as lv i) := Paired.mapP hN2 fun _ _ z => rowAtSame s29 z
      have nsl := Paired.length hN2
      have hnl := heldNotes_len (ps := fo.ps) (be := fo.be) (as := fo.as) (lv := lv) (n := i)
      generalize hpe : noteAt fo.ps fo.be fo.as lv i = pr at hq19 hq9
      have no : (kept2 pr = false) → Same H1 H9 ∧ ∃ (ns : List V) (t7 t8 t9 t10 : Option V), ([some (.ref r), some (.ref l), some (.ref ap), some (.ref ab), some (.ref aa), some (.ref st), some (.ref D), some (vn i), some (.ref p1), some (.ref q1), some (.ref q2), none] : L2.St) = [some (.ref r), some (.ref l), some (.ref ap), some (.ref ab), some (.ref aa), some (.ref st), some (.ref D), t7, t8, t9, t10, none] ∧ H9 D = some (.lst ns) ∧ Paired (RowAt H9) ns (heldNotes fo.ps fo.be fo.as lv (i + 1)) := fun z => by
        refine ⟨s19, ns, _, _, _, _, rfl, hD9, ?_⟩
        rw [heldNotes_succ, hpe, z, if_neg (by decide), List.append_nil]
        exact hN9
      refine ⟨_, rfl, q1, _, rfl, .inr (tnL hq19), _, _, rfl, rfl, _, rfl, ?_⟩
      by_cases c1 : 0 < pr.1.length
      case neg =>
        refine ifF (by rw [decide_eq_true_iff, List.length_map]; omega) ?_
        refine no ?_
        have : pr.1 = [] := List.eq_nil_of_length_eq_zero (by omega)
        unfold kept2
        rw [this]
        rfl
      refine ifT (decide_eq_true (by rw [List.length_map]; omega)) ?_
      refine ⟨_, rfl, q2, _, rfl, .inr (tnL hq9), _, _, rfl, rfl, _, rfl, ?_⟩
      by_cases c2 : 0 < pr.2.length
      case neg =>
        refine ifF (by rw [decide_eq_true_iff, List.length_map]; omega) ?_
        refine no ?_
        have : pr.2 = [] := List.eq_nil_of_length_eq_zero (by omega)
        unfold kept2
        rw [this]
        exact Bool.and_false _
      refine ifT (decide_eq_true (by rw [List.length_map]; omega)) ?_
      have ky : kept2 pr = true := by
        unfold kept2
        obtain ⟨a, b⟩ := pr
        cases a with
        | nil => exact absurd c1 (Nat.lt_irrefl 0)
        | cons x a => cases b with
          | nil => exact absurd c2 (Nat.lt_irrefl 0)
          | cons y b => rfl
      refine ⟨_, rfl, .inl ⟨rfl, _, .inl (.inl hD9)⟩, _, rfl, _, rfl, _, rfl, by show 3 ≤ sizeLine; decide, fun T nT => ?_⟩
      have sT := smUpd (o := .tup [vn i, .ref q1, .ref q2]) nT
      have hTT : upd H9 T (.tup [vn i, .ref q1, .ref q2]) T = some (.tup [vn i, .ref q1, .ref q2]) := upd_same
      generalize upd H9 T (.tup [vn i, .ref q1, .ref q2]) = H10 at sT hTT ⊢
      have hDT := sT _ _ hD9
      refine ⟨D, ns, .ref T, rfl, rfl, hDT, small1000 (by omega), ?_⟩
      refine ⟨smOver nD (s19.trans sT), ns ++ [.ref T], _, _, _, _, rfl, upd_same, ?_⟩
      rw [heldNotes_succ, hpe, ky, if_pos rfl]
      exact paired_snoc (Paired.mapP hN9 fun _ _ z => rowAtUpd hDT (rowAtSame sT z)) (rowAtUpd hDT ⟨T, q1, q2, rfl, hTT, sT _ _ hq19, sT _ _ hq9⟩)
    · rintro σ H' ⟨s1', ns, t7, t8, t9, t10, rfl, hD, hN⟩
      exact ⟨_, rfl, k D ns H' (s1.trans s1') nDH hD hN⟩
end
end Cn
namespace Cn
open PySem PySem.Spec PyProof.Rows L2
section
/-! x in t, t a tuple of data -/
def rInTD (K : PySem.W.Frag) : R2 := fun x y H Q => ∃ d ds, Dp K H x d ∧ Dp K H y (.tuple ds) ∧ d.depth ≤ 60 ∧ SeqAt.shaped d = true ∧ SeqAt.shaped (.tuple ds) = true ∧ Q (.bl (ds.any fun z => PyData.eqv z d)) H
theorem op_inTD {X : Cx} (hu : X.A.units + 64 < cLine) : OpR X (compareOp .In) (rInTD X.K) := by
  intro pins s σ H x y v u Q I rx ry h
  obtain ⟨d, ds, hd, he, hdp, sd, se, q⟩ := h
  obtain ⟨as, r1⟩ := Dp.reads I d x v hd rx
  obtain ⟨bs, r2⟩ := Dp.reads I (.tuple ds) y u he ry
  exact SeqAt.in_tuple_reads r2 r1 (SeqAt.canLay_of_shaped se) (SeqAt.canLay_of_shaped sd) (by have := Nat.min_le_right (PyData.depthAll ds) d.depth; omega) ⟨.bl _, H, I, rfl, q⟩
end
section
/-! enumerate(l, start=1) -/
theorem callWith_typeK {M : Model} {A : Around} {E : Value → Shared → Prop} {s : Shared} {pos : Pos} {T : String} {first : List Value} {args : List (Bool × Sem Value)} {keywords : List (Option Str × Sem Value)} {Q : Value → Shared → Prop}
    (hplain : args.any (·.1) = false) (hkw : keywords.any (·.1.isNone) = false)
    (h : wpAny M A (evalArgs (.type T) true args keywords) (fun a s₁ => wpAny M A (call (.type T) (first ++ a.pos) a.kw) Q E s₁) E s) :
    wpAny M A (callWith pos (.type T) first args keywords) Q E s := by
  unfold callWith
  refine wpAny_bind (wpAny_holding (wpAny_mono h (fun a s₁ h₁ => wpAny_bind (wpAny_standAt ?_)) fun _ _ x => x))
  simp only [hplain, hkw, Bool.or_false]
  refine wpAny_bind (wpAny_pure ?_)
  exact wpAny_bind (wpAny_mono h₁ (fun r s₂ hr => wpAny_bind (wpAny_holding (wpAny_point (wpAny_pure hr)))) fun _ _ x => x)
variable {prog : Program} {w : World} {A : Around} {E : Value → Shared → Prop} {s : Shared}
theorem enumEndL {e it l : Addr} {i : Nat} {c : Int} {items : Array Value} {old : Value} {Q : Option Value → Shared → Prop} (hh : A.handled = none) (he : IsEnum s.heap e it c old) (hit : s.heap.IsListIter it l i) (hl : s.heap.IsList l items) (hx : items[i]? = none)
    (hQ : ∀ h', Heap.ExtBut it s.heap h' → Q none { s with heap := h' }) : wpAny (model prog w) A (pyNext (.ref e)) Q E s := by
  have hT : s.TypeIs (.ref e) "enumerate" := ⟨_, he, rfl⟩
  unfold pyNext
  refine wpAny_bind (wpAny_attempt (wpAny_callSpecial?_slot (name := Str.ofString "__next__") hT F.slot_enumerate_next
    (wpAny_call_entry F.slot_enumerate_next hT F.entry_enumerate_next ?_ (F.args_enumerate_next_1 _))))
  show wpAny _ _ (field (.ref e) 2 >>= _) _ _ _
  refine wpAny_bind (wpAny_field he rfl (x := .ref it) rfl ?_)
  refine wpAny_bind (wpAny_nextOf_list_end (A := A.in1) hh hit hl hx fun h' x he' hx' => ?_)
  obtain ⟨o, ho, hc⟩ := hx'
  refine wpAny_bind (wpAny_isInstance (T := "StopIteration") (b := true) ⟨o, ho, hc⟩ isSubtype_stop ?_)
  exact wpAny_pure (hQ _ he')
end
/-- the list at a, each item in a new pair, counted from one -/
def Ite1 (K : PySem.W.Frag) (a : Addr) : It :=
  ⟨fun i H => ∃ (xs : List V) (x : V), SqL K H a xs ∧ xs[i]? = some x, fun i H v H' => ∃ T x, v = .ref T ∧ H T = none ∧ H' = upd H T (.tup [.int ((i + 1 : Nat) : Int), x]) ∧ ∀ xs, SqL K H a xs → xs[i]? = some x, fun i H => ∃ xs : List V, SqL K H a xs ∧ xs.length ≤ i⟩
theorem turn_enum1 {P : Program} {w : World} {K : PySem.W.Frag} {elts : List Expr} {kk : Nat} {tpos : Pos} (a e it : Addr) :
    Turn P w K (.Tuple elts kk tpos) (Ite1 K a) [e, it] e (fun i h => (∃ old, IsEnum h e it ((i + 1 : Nat) : Int) old) ∧ h.IsListIter it a i ∧ e ≠ it ∧ a ≠ it ∧ a ≠ e) where
  mem := by simp
  obj := fun i h st b hb => by
    obtain ⟨⟨old, he⟩, ⟨o, ho, hc, hd⟩, _⟩ := st
    have e' : b = e ∨ b = it := by simpa using hb
    rcases e' with z | z
    · rw [z]; exact ⟨_, he, fun v q => nomatch q⟩
    · rw [z]; exact ⟨o, ho, fun v q => by rw [hd] at q; cases q⟩
  keep := fun i h h' st k => let ⟨⟨old, he⟩, hi, hne⟩ := st; ⟨⟨old, k e (by simp) _ he⟩, hi.at fun o q => k it (by simp) o q, hne⟩
  item := by
    intro X hP hw hK hc i pins s σ H E I hf st hg
    subst hP hw hK
    obtain ⟨⟨old, he⟩, hit, hne, hai, hae⟩ := st
    obtain ⟨xs, x, hq, hx⟩ := hg
    obtain ⟨its, rv, p, hz⟩ := I.list hq
    obtain ⟨u, hu, ru⟩ := rv.get hx
    have hel : e < s.heap.objs.size := Heap.lt_size he
    have hil : it < s.heap.objs.size := by obtain ⟨_, q, _⟩ := hit; exact Heap.lt_size q
    have hlt : i < its.toArray.size := by
      have := (List.getElem?_eq_some_iff.mp hu).1
      simpa using this
    refine wpAny_pyNext_enum_itemC (c := ((i + 1 : Nat) : Int)) (Draws.list (A := X.A.in1) (I.ok.hd hc) it a hai its.toArray) he ⟨hit, p.isList⟩ hlt hne (by simp [hne, Ne.symm hae]) fun x' h' tk hP ho hs' hT hsz hk => ?_
    have ex : x' = u := by
      have e1 : its.toArray[i]? = some u := by simpa using hu
      rw [e1] at hP
      exact (Option.some.inj hP).symm
    subst ex
    refine ⟨_, rfl, wpAny_letOwnedTupleGo_enum (s := { s with heap := h', toks := tk + 1 }) ho fun h'' he' sb => ?_⟩
    have hT2 : h''.get? s.heap.objs.size = some { cls := .type "tuple", data := .seq #[.int ((i + 1 : Nat) : Int) tk, x'] } := (sb.2 _ (Nat.ne_of_gt hel)).trans hT
    have new : ObjOk X.prog X.w (upd H s.heap.objs.size (.tup [.int ((i + 1 : Nat) : Int), x])) h'' s.heap.objs.size (.tup [.int ((i + 1 : Nat) : Int), x]) :=
      ⟨by show 2 ≤ sizeLine; decide, [.int ((i + 1 : Nat) : Int) tk, x'], .cons ⟨_, rfl⟩ (.cons ru .nil), ⟨_, hT2, rfl, _, rfl⟩⟩
    have I1 : Inv X pins σ (upd H s.heap.objs.size (.tup [.int ((i + 1 : Nat) : Int), x])) { s with heap := h'', toks := tk + 1 } :=
      I.turnedNew (ch := [e, it]) (fun b ob hb q => (sb.2 b (fun z => hb (by simp [z]))).trans (hk b ob (fun z => hb (by simp [z])) (fun z => hb (by simp [z])) q)) hf (Nat.le_refl _) new
    refine ⟨.ref s.heap.objs.size, _, I1, rfl, ⟨_, x, rfl, I.hok.fresh (Nat.le_refl _), rfl, fun ys hy => by rw [I.list_inj hy hq]; exact hx⟩, ⟨⟨x', ?_⟩, hs'.1.at fun o q => (sb.2 it (Ne.symm hne)).trans q, hne, hai, hae⟩, fun b hb => ?_⟩
    · have e1 : ((i + 1 + 1 : Nat) : Int) = ((i + 1 : Nat) : Int) + 1 := by omega
      rw [e1]; exact he'
    · have hb' : b < s.heap.objs.size := by
        have e' : b = e ∨ b = it := by simpa using hb
        rcases e' with z | z
        · rw [z]; exact hel
        · rw [z]; exact hil
      rw [upd_ne (Nat.ne_of_lt hb')]
      exact (hf b hb).1
  done := by
    intro X hP hw hK hc i pins s σ H E I hf st hg
    subst hP hw hK
    obtain ⟨⟨old, he⟩, hit, hne, hai, hae⟩ := st
    obtain ⟨xs, hq, hx⟩ := hg
    obtain ⟨its, rv, p, hz⟩ := I.list hq
    obtain ⟨f0, f1, f2, f3, f4, f5⟩ := hf it (by simp)
    have hl := rv.length
    exact enumEndL (I.ok.hd hc) he hit p.isList (by simp; omega) fun h' eb => ⟨rfl, I.turned (t' := s.toks) (fun b o hb q => eb b o hb q) f0 f1 f3 f4 f5⟩
  self := fun A i s Q E st h => let ⟨⟨_, he⟩, _⟩ := st; wpAny_pyIter_enum he h
def iEnum1 (K : PySem.W.Frag) (ta tk : TA) : TI := fun σ H R => ta σ H fun vs H1 => tk σ H1 fun zs H2 => ∃ a xs, vs = [.ref a] ∧ zs = [.int 1] ∧ SqL K H2 a xs ∧ R (Ite1 K a) H2
theorem pi_enum1 {X : Cx} {e : Expr} {ta tk : TA} {p pos tpos : Pos} {elts : List Expr} {kk : Nat} {kws : List Keyword} (hg : Gl X "enumerate") (hm : X.mg "enumerate" = none) (ha : PA X [e] ta) (hk : PK X kws tk) (hs : starEach [e] X.env = [(false, eval e X.env)] := by rfl)
    (hnone : (backToKw pos (keywordEach kws X.env)).any (·.1.isNone) = false := by rfl) (hall : (backToKw pos (keywordEach kws X.env)).all (·.1.isSome) = true := by rfl) (hks : (backToKw pos (keywordEach kws X.env)).filterMap (·.1) = [Str.ofString "start"] := by rfl) :
    PI X (.Tuple elts kk tpos) (.Call (.Name "enumerate" p) [e] kws pos) (iEnum1 X.K ta tk) := by
  refine ⟨fun pins s σ H R I h => ?_⟩
  have hA := ha.run pos pins s σ H _ I h
  refine wpAny_Call_Name_kw (ld_blt I hg hm boot_enumerate ?_)
  rw [hs] at hA ⊢
  refine callWith_typeK (by rfl) hnone ?_
  refine PyProof.Rows.evalArgs_kwB hall (thn hA fun us s1 ⟨vs, H1, I1, r1, q1⟩ => thn (hk.run pos pins s1 σ H1 _ I1 q1) fun ws s2 ⟨zs, H2, I2, r2, q2⟩ => ?_)
  rw [hks]
  obtain ⟨a, xs, ex, ez, hq, q⟩ := q2
  subst ex ez
  cases r1 with
  | cons r rr =>
    cases rr
    cases r
    cases r2 with
    | cons r3 rr3 =>
      cases rr3
      obtain ⟨t, rfl⟩ := r3
      obtain ⟨its, rv, p', hz⟩ := I2.list hq
      have hal : a < s2.heap.objs.size := by obtain ⟨_, q, _⟩ := p'.isList; exact Heap.lt_size q
      refine enum_begins_start (begins_list a its.toArray) p'.isList (by decide) (by decide) fun h' he hit hsz hk => wpAny_pyIter_enum he ?_
      have I3 : Inv X pins σ H2 { s2 with heap := h' } := I2.kept (t' := s2.toks) hk
      refine ⟨s2.heap.objs.size + 1, [s2.heap.objs.size + 1, s2.heap.objs.size], _, _, H2, rfl, I3, turn_enum1 a (s2.heap.objs.size + 1) s2.heap.objs.size, ⟨⟨.none, he⟩, ⟨_, hit, rfl, rfl⟩, Nat.succ_ne_self _, Nat.ne_of_lt hal, Nat.ne_of_lt (Nat.lt_succ_of_lt hal)⟩, fun b hb => ?_, q⟩
      have e' : b = s2.heap.objs.size + 1 ∨ b = s2.heap.objs.size := by simpa using hb
      have hle : s2.heap.objs.size ≤ b := by
        rcases e' with z | z
        · rw [z]; exact Nat.le_add_right _ _
        · rw [z]; exact Nat.le_refl _
      exact I2.fpOk hle (I2.hok.fresh hle)
theorem walk_enum1 {K : PySem.W.Frag} {a : Addr} {xs : List V} : Walk (Ite1 K a) xs.length (fun H => SqL K H a xs) (YPair (fun i => some (.int ((i + 1 : Nat) : Int))) (fun i => xs[i]?)) := by
  refine ⟨fun i _ hi q => ⟨xs, xs[i], q, by simp [hi]⟩, fun _ q => ⟨xs, q, Nat.le_refl _⟩, fun i H v H' _ q y => ?_⟩
  obtain ⟨T, x, h1, h2, h3, h4⟩ := y
  exact ⟨T, .int ((i + 1 : Nat) : Int), x, h1, h2, h3, rfl, h4 xs q⟩
end Cn
namespace Cn
open PySem PySem.Spec PyProof.Rows L2 Ck
/-! texts by their signs -/
abbrev Sg (l : List Nat) : Str := SX.S l
theorem lit (s : String) (l : List Nat) (h : s.toList.map Char.toNat = l) : Str.ofString s = Sg l := by
  subst h
  exact TL.ext_tl (TL.tl_ofString s)
theorem lit0 : (Str.ofString "") = Sg [] := lit _ _ (by decide)
theorem litB : (Str.ofString "b") = Sg [98] := lit _ _ (by decide)
theorem litA : (Str.ofString "a") = Sg [97] := lit _ _ (by decide)
theorem litM : (Str.ofString "-") = Sg [45] := lit _ _ (by decide)
theorem litN : (Str.ofString "\n") = Sg [10] := lit _ _ (by decide)
theorem litS : (Str.ofString " ") = Sg [32] := lit _ _ (by decide)
theorem litC : (Str.ofString ",") = Sg [44] := lit _ _ (by decide)
theorem litD : (Str.ofString " : ") = Sg [32, 58, 32] := lit _ _ (by decide)
theorem litSB : (Str.ofString " b") = Sg [32, 98] := lit _ _ (by decide)
theorem litSA : (Str.ofString " a") = Sg [32, 97] := lit _ _ (by decide)
theorem litZ : (Str.ofString "0") = Sg [48] := lit _ _ (by decide)
theorem litF : (Str.ofString "0123456789") = Sg [48, 49, 50, 51, 52, 53, 54, 55, 56, 57] := lit _ _ (by decide)
theorem sg_len (l : List Nat) : (Sg l).length = l.length := SX.S_len l
/-- a number's text -/
abbrev numS (n : Nat) : Str := Sg (TL.numL n)
theorem str_num (n : Nat) : Str.ofString (toString ((n : Nat) : Int)) = numS n := TL.ext_tl (TL.tl_num n)
theorem num_len {n : Nat} (h : n < 100) : (TL.numL n).length ≤ 2 := TL.numL_len (by decide) h
theorem num_int {n : Nat} (h : n < 100) : intText? (numS n) = some (n : Int) := by
  rw [← str_num]
  exact TL.int_num (Nat.le_trans (num_len h) (by decide))
theorem num_pos (n : Nat) : 1 ≤ (TL.numL n).length := List.length_pos_iff.mpr (TL.numL_ne n)
theorem num_dig {n c : Nat} (h : c ∈ TL.numL n) : c ∈ [48, 49, 50, 51, 52, 53, 54, 55, 56, 57] := by
  have h1 : 48 ≤ c := by
    refine Nat.le_of_not_lt fun z => ?_
    exact TL.numL_free (.inl z) h
  have h2 : c ≤ 57 := by
    refine Nat.le_of_not_lt fun z => ?_
    exact TL.numL_free (.inr z) h
  simp only [List.mem_cons, List.not_mem_nil, or_false]
  omega
theorem num_head : ∀ n : Nat, n < 100 → n ≠ 0 → (TL.numL n)[0]? ≠ some 48 := by decide +kernel
theorem num_zero : TL.numL 0 = [48] := by decide +kernel
theorem num_ne0 {n : Nat} (h : n ≠ 0) : TL.numL n ≠ [48] := fun z => h (TL.numL_inj (z.trans num_zero.symm))
theorem joinL_len (s : List Nat) : ∀ ps : List (List Nat), (TL.joinL s ps).length ≤ (ps.map List.length).sum + ps.length * s.length
  | [] => Nat.zero_le _
  | [p] => by show p.length ≤ _; simp only [List.map_cons, List.map_nil, List.sum_cons, List.sum_nil]; omega
  | p :: q :: ps => by
    have h := joinL_len s (q :: ps)
    show (p ++ (s ++ TL.joinL s (q :: ps))).length ≤ _
    rw [List.length_append, List.length_append, List.map_cons, List.sum_cons, List.length_cons (a := p), Nat.succ_mul]
    omega
theorem mem_joinL {s : List Nat} {c : Nat} : ∀ {ps : List (List Nat)}, c ∈ TL.joinL s ps → c ∈ s ∨ ∃ p ∈ ps, c ∈ p
  | [], h => by cases h
  | [p], h => .inr ⟨p, List.mem_cons_self, h⟩
  | p :: q :: ps, h => by
    have h' : c ∈ p ++ (s ++ TL.joinL s (q :: ps)) := h
    rcases List.mem_append.mp h' with h' | h'
    · exact .inr ⟨p, List.mem_cons_self, h'⟩
    · rcases List.mem_append.mp h' with h' | h'
      · exact .inl h'
      · rcases mem_joinL h' with h' | ⟨r, hr, hc⟩
        · exact .inl h'
        · exact .inr ⟨r, List.mem_cons_of_mem _ hr, hc⟩
/-! the lines of a text -/
def txL (ls : List (List Nat)) : List Nat := TL.joinL [] (ls.map (· ++ [10]))
theorem txL_cons (l : List Nat) (ls : List (List Nat)) : txL (l :: ls) = l ++ ([10] ++ txL ls) := by
  cases ls with
  | nil => show l ++ [10] = _; rfl
  | cons m ls => show (l ++ [10]) ++ ([] ++ txL (m :: ls)) = _; rw [List.nil_append, List.append_assoc]
theorem spl_txL : ∀ {ls : List (List Nat)}, (∀ l ∈ ls, 10 ∉ l) → TL.spl [10] 0 [] (txL ls) = ls ++ [[]]
  | [], _ => TL.spl_nil _ _ _
  | l :: ls, h => by
    rw [txL_cons]
    refine (TL.spl_part1 (s := 10) (S := []) (h l List.mem_cons_self)).trans ?_
    rw [spl_txL fun x hx => h x (List.mem_cons_of_mem _ hx)]
    rfl
theorem txL_len : ∀ {ls : List (List Nat)} {k : Nat}, (∀ l ∈ ls, l.length ≤ k) → (txL ls).length ≤ ls.length * (k + 1)
  | [], _, _ => Nat.zero_le _
  | l :: ls, k, h => by
    have h1 := txL_len fun x hx => h x (List.mem_cons_of_mem _ hx)
    have h2 := h l List.mem_cons_self
    rw [txL_cons, List.length_append, List.length_append, List.length_cons (a := l), Nat.succ_mul]
    show _ + (1 + _) ≤ _
    omega
theorem split_tx {ls : List (List Nat)} (h : ∀ l ∈ ls, 10 ∉ l) : Txt.split (Sg (txL ls)) (Str.ofString "\n") = (ls ++ [[]]).map Sg := by
  rw [litN]
  refine (SX.split_S (by decide) (by decide)).trans ?_
  rw [spl_txL h]
/-! a place's line -/
def plF (q : Option Nat) : List Nat := match q with | none => [45] | some n => TL.numL n
def plT (b a : Bool) : List (List Nat) := (if b then [[98]] else []) ++ (if a then [[97]] else [])
def plW (q : Option Nat) (b a : Bool) : List (List Nat) := plF q :: plT b a
def plL (q : Option Nat) (b a : Bool) : List Nat := TL.joinL [32] (plW q b a)
theorem plW_free {q : Option Nat} {b a : Bool} {c : Nat} (hc : c < 45) : ∀ p ∈ plW q b a, c ∉ p := by
  intro p hp hm
  rcases List.mem_cons.mp hp with rfl | hp
  · cases q with
    | none => have : c = 45 := by simpa [plF] using hm
              omega
    | some n => exact TL.numL_free (.inl (by omega)) hm
  · cases b <;> cases a <;> simp [plT] at hp
    · subst hp; have : c = 97 := by simpa using hm
      omega
    · subst hp; have : c = 98 := by simpa using hm
      omega
    · rcases hp with rfl | rfl
      · have : c = 98 := by simpa using hm
        omega
      · have : c = 97 := by simpa using hm
        omega
theorem plL_no10 (q : Option Nat) (b a : Bool) : 10 ∉ plL q b a := fun h => by
  rcases mem_joinL h with h | ⟨p, hp, hc⟩
  · exact absurd h (by decide)
  · exact plW_free (by decide) p hp hc
theorem split_pl (q : Option Nat) (b a : Bool) : Txt.split (Sg (plL q b a)) (Str.ofString " ") = (plW q b a).map Sg := by
  rw [litS]
  refine (SX.split_S (by decide) (by decide)).trans ?_
  exact congrArg (List.map Sg) (SX.spl_join (parts := plW q b a) (List.cons_ne_nil _ _) (plW_free (by decide)))
theorem plL_eq (q : Option Nat) (b a : Bool) : plL q b a = plF q ++ (if b then [32, 98] else []) ++ (if a then [32, 97] else []) := by
  cases b <;> cases a <;> simp [plL, plW, plT, TL.joinL]
theorem plF_len {q : Option Nat} (h : ∀ n, q = some n → n < 100) : (plF q).length ≤ 2 := by
  cases q with
  | none => exact Nat.le_succ 1
  | some n => exact num_len (h n rfl)
theorem plL_len {q : Option Nat} {b a : Bool} (h : ∀ n, q = some n → n < 100) : (plL q b a).length ≤ 6 := by
  have := plF_len h
  rw [plL_eq, List.length_append, List.length_append]
  cases b <;> cases a <;> simp <;> omega
/-! numbers with a sign between them -/
def nlL (c : Nat) (ns : List Nat) : List Nat := TL.joinL [c] (ns.map TL.numL)
theorem split_nl {c : Nat} {ns : List Nat} (h0 : ns ≠ []) (hc : c < 48) : Txt.split (Sg (nlL c ns)) (Sg [c]) = ns.map numS := by
  refine (SX.split_S (by simp) (by simp; omega)).trans ?_
  rw [nlL, SX.spl_join (by simpa using h0) fun p hp => ?_, List.map_map]
  · rfl
  · obtain ⟨n, _, rfl⟩ := List.mem_map.mp hp
    exact TL.numL_free (.inl hc)
theorem nl_free {c d : Nat} {ns : List Nat} (hd : d < 48) (hne : d ≠ c) : d ∉ nlL c ns := fun h => by
  rcases mem_joinL h with h | ⟨p, hp, hm⟩
  · exact hne (by simpa using h)
  · obtain ⟨n, _, rfl⟩ := List.mem_map.mp hp
    exact TL.numL_free (.inl hd) hm
theorem sum_le2 : ∀ {ns : List Nat}, (∀ n ∈ ns, n < 100) → ((ns.map TL.numL).map List.length).sum ≤ ns.length * 2
  | [], _ => Nat.zero_le _
  | n :: ns, h => by
    have h1 := sum_le2 fun x hx => h x (List.mem_cons_of_mem _ hx)
    have h2 := num_len (h n List.mem_cons_self)
    simp only [List.map_cons, List.sum_cons, List.length_cons]
    omega
theorem nl_len {c : Nat} {ns : List Nat} (h : ∀ n ∈ ns, n < 100) : (nlL c ns).length ≤ ns.length * 3 := by
  have h1 := joinL_len [c] (ns.map TL.numL)
  have h2 := sum_le2 h
  rw [List.length_map] at h1
  show (TL.joinL [c] (ns.map TL.numL)).length ≤ _
  simp only [List.length_cons, List.length_nil] at h1
  omega
/-! a note's line -/
def ntL (m : List Nat × List Nat) : List Nat := nlL 44 m.1 ++ ([32, 58, 32] ++ nlL 44 m.2)
theorem split_nt (m : List Nat × List Nat) : Txt.split (Sg (ntL m)) (Str.ofString " : ") = [Sg (nlL 44 m.1), Sg (nlL 44 m.2)] := by
  rw [litD]
  refine (SX.split_S (by decide) (by decide)).trans ?_
  rw [ntL, TL.spl_part1 (s := 32) (S := [58, 32]) (nl_free (by decide) (by decide)), TL.spl_last1 (s := 32) (S := [58, 32]) (nl_free (by decide) (by decide))]
  rfl
theorem nt_no10 (m : List Nat × List Nat) : 10 ∉ ntL m := fun h => by
  rcases List.mem_append.mp h with h | h
  · exact nl_free (by decide) (by decide) h
  · rcases List.mem_append.mp h with h | h
    · exact absurd h (by decide)
    · exact nl_free (by decide) (by decide) h
theorem nt_len {m : List Nat × List Nat} {k : Nat} (h1 : ∀ n ∈ m.1, n < 100) (h2 : ∀ n ∈ m.2, n < 100) (l1 : m.1.length ≤ k) (l2 : m.2.length ≤ k) : (ntL m).length ≤ 6 * k + 3 := by
  have a := nl_len (c := 44) h1
  have b := nl_len (c := 44) h2
  rw [ntL, List.length_append, List.length_append]
  show _ + (3 + _) ≤ _
  omega
end Cn
namespace Cn
open PySem PySem.Spec PyProof.Rows L2 Ck
section
variable {P : Program} {w : World} {K : PySem.W.Frag} {mg : Str → Option Value} {base : Heap} {C : Addr}
/-- a bearing place -/
def spIsBear (C : Addr) : Sp := fun vs H Q _ => ∃ (a : Addr) (fo : Fo) (i : Nat), vs = [.ref a, vn i] ∧ FoAt C H a fo ∧ i ∈ fo.be ∧ Q (.bl true) H
def nIsBear : List Str := ["forest", "thing"]
theorem scIsBear : FnScope nIsBear ["forest", "thing"] (defScope sIsBear) := ⟨rfl, rfl, rfl, by decide +kernel, rfl, by decide +kernel, by decide +kernel⟩
theorem dIsBear (B : Defs K mg C) : Def P w K mg base "is_bearing" 2 ["forest", "thing"] (spIsBear C) := by
  obtain ⟨fI, fdI, DI⟩ := B.I
  have GI : FnOk P w K mg base CX0 1 fI fdI ["thing"] spIsInt := ok_isInt DI.F B.N
  have T := B.T
  refine def_of B.ibe fun f fd F => ?_
  refine F.ok scIsBear (fun vs H Q E h => ?_) (fun cdv A outer s H vs Q E hr h => ?_)
  · obtain ⟨a, fo, i, rfl, _⟩ := h
    rfl
  · obtain ⟨a, fo, i, rfl, ⟨dx, ap, ab, aa, h0, h1, h2, h3⟩, hi, k⟩ := h
    refine ⟨_, pss_one (ps_ret (pe_and (pe_call GI hr (by rfl) DI.g DI.F.kp DI.b .nil pass0 (pa_cons (pv 1) pa_nil)) (pe_one (pe_cmpR op_in_seq (pv 1) (pe_fld (pv 0) rfl) (by rfl))))), ?_⟩
    refine ⟨_, rfl, (i : Int), rfl, true, rfl, ?_⟩
    refine ifT rfl ?_
    refine ⟨_, rfl, _, rfl, a, C, dx, _, _, rfl, h0, T.cl, T.nB, fB, ab, _, rfl, .inr (tnL h2), rfl, vn_flat _, ?_⟩
    have e : inV (vn i) (fo.be.map vn) = true := by rw [inV_vn]; exact decide_eq_true hi
    show Q (.bl (inV (vn i) (fo.be.map vn))) H
    rw [e]
    exact k
/-- an asking place -/
def spIsAsk (C : Addr) : Sp := fun vs H Q _ => ∃ (a : Addr) (fo : Fo) (i : Nat), vs = [.ref a, vn i] ∧ FoAt C H a fo ∧ i ∈ fo.as ∧ Q (.bl true) H
def nIsAsk : List Str := ["forest", "thing"]
theorem scIsAsk : FnScope nIsAsk ["forest", "thing"] (defScope sIsAsk) := ⟨rfl, rfl, rfl, by decide +kernel, rfl, by decide +kernel, by decide +kernel⟩
theorem dIsAsk (B : Defs K mg C) : Def P w K mg base "is_asking" 2 ["forest", "thing"] (spIsAsk C) := by
  obtain ⟨fI, fdI, DI⟩ := B.I
  have GI : FnOk P w K mg base CX0 1 fI fdI ["thing"] spIsInt := ok_isInt DI.F B.N
  have T := B.T
  refine def_of B.iak fun f fd F => ?_
  refine F.ok scIsAsk (fun vs H Q E h => ?_) (fun cdv A outer s H vs Q E hr h => ?_)
  · obtain ⟨a, fo, i, rfl, _⟩ := h
    rfl
  · obtain ⟨a, fo, i, rfl, ⟨dx, ap, ab, aa, h0, h1, h2, h3⟩, hi, k⟩ := h
    refine ⟨_, pss_one (ps_ret (pe_and (pe_call GI hr (by rfl) DI.g DI.F.kp DI.b .nil pass0 (pa_cons (pv 1) pa_nil)) (pe_one (pe_cmpR op_in_seq (pv 1) (pe_fld (pv 0) rfl) (by rfl))))), ?_⟩
    refine ⟨_, rfl, (i : Int), rfl, true, rfl, ?_⟩
    refine ifT rfl ?_
    refine ⟨_, rfl, _, rfl, a, C, dx, _, _, rfl, h0, T.cl, T.nA, fA, aa, _, rfl, .inr (tnL h3), rfl, vn_flat _, ?_⟩
    have e : inV (vn i) (fo.as.map vn) = true := by rw [inV_vn]; exact decide_eq_true hi
    show Q (.bl (inV (vn i) (fo.as.map vn))) H
    rw [e]
    exact k
/-- a tuple with a thing for each bearing place -/
def spIsAmt (C : Addr) : Sp := fun vs H Q _ => ∃ (a b : Addr) (fo : Fo) (xs : List V), vs = [.ref a, .ref b] ∧ FoAt C H a fo ∧ H b = some (.tup xs) ∧ xs.length = fo.be.length ∧ Q (.bl true) H
def nIsAmt : List Str := ["forest", "thing"]
theorem scIsAmt : FnScope nIsAmt ["forest", "thing"] (defScope sIsAmt) := ⟨rfl, rfl, rfl, by decide +kernel, rfl, by decide +kernel, by decide +kernel⟩
theorem dIsAmt (B : Defs K mg C) : Def P w K mg base "is_amounts" 1 ["forest", "thing"] (spIsAmt C) := by
  have N := B.N
  have T := B.T
  refine def_of B.iam fun f fd F => ?_
  refine F.ok scIsAmt (fun vs H Q E h => ?_) (fun cdv A outer s H vs Q E hr h => ?_)
  · obtain ⟨a, b, fo, xs, rfl, _⟩ := h
    rfl
  · obtain ⟨a, b, fo, xs, rfl, ⟨dx, ap, ab, aa, h0, h1, h2, h3⟩, hb, hl, k⟩ := h
    refine ⟨_, pss_one (ps_ret (pe_and (pe_callB call_isi (by rfl) N.is.inst (by decide +kernel) (pa_cons (pv 1) (pa_cons (pe_bltn (v := .ty "tuple") (by rfl) N.is.tup (by decide +kernel) rfl) pa_nil)))
      (pe_one (pe_cmpR op_eq (pe_callB call_len_seq (by rfl) N.is.len PySem.boot_len (pa_cons (pv 1) pa_nil)) (pe_callB call_len_seq (by rfl) N.is.len PySem.boot_len (pa_cons (pe_fld (pv 0) rfl) pa_nil)) (nomark _))))), ?_⟩
    refine ⟨_, rfl, _, .ty "tuple", _, _, true, rfl, .ty _, .base (.tup hb), kit_ty (by decide +kernel), true, rfl, ?_⟩
    refine ifT rfl ?_
    refine ⟨_, rfl, b, _, rfl, .inr (.inl (.inl hb)), _, rfl, a, C, dx, _, _, rfl, h0, T.cl, T.nB, fB, ab, _, rfl, .inr (tnL h2), rfl, ?_⟩
    rw [List.length_map, hl, decide_eq_true rfl]
    exact k
end
end Cn
namespace Cn
open PySem PySem.Spec PyProof.Rows L2 Ck
section
variable {P : Program} {w : World} {K : PySem.W.Frag} {mg : Str → Option Value} {base : Heap} {C : Addr}
theorem anyWalk {J : It} {n : Nat} {G : Hp → Prop} {Y : Nat → Hp → V → Hp → Prop} (w : Walk J n G Y) {H0 : Hp} {Qd : Hp → Prop} {Body : (Hp → Prop) → V → Hp → Prop} (Pv : Nat → Hp → Prop) (start : Pv 0 H0) (still : ∀ i H, i ≤ n → Pv i H → G H)
    (turn : ∀ i x H H', i < n → Pv i H → Y i H x H' → Body (Pv (i + 1)) x H') (over : ∀ H, Pv n H → Qd H) :
    ∃ W : Nat → Nat → Hp → Prop, (∃ m, W 0 m H0) ∧ ∀ i m H, W i m H → (J.stop i H ∧ Qd H) ∨ (J.go i H ∧ ∃ Nx : Hp → Prop, (∀ H', Nx H' → ∃ m', m' < m ∧ W (i + 1) m' H') ∧ ∀ x H', J.yld i H x H' → Body Nx x H') := by
  refine ⟨fun i m H => m + i = n ∧ Pv i H, ⟨n, Nat.add_zero n, start⟩, fun i m H hW => ?_⟩
  obtain ⟨sum, here⟩ := hW
  have st := still i H (by omega) here
  cases m with
  | zero =>
    have ei : i = n := by omega
    subst ei
    exact .inl ⟨w.stops H st, over H here⟩
  | succ m => exact .inr ⟨w.goes i H (by omega) st, Pv (i + 1), fun H' later => ⟨m, Nat.lt_succ_self m, by omega, later⟩, fun x H' y => turn i x H H' (by omega) here (w.yields i H x H' (by omega) st y)⟩
theorem putKLen {kvs : List (L2.Key × V)} {k : L2.Key} {v : V} : (putK kvs k v).length ≤ kvs.length + 1 := by
  unfold putK
  split
  · rw [List.length_map]; omega
  · rw [List.length_append]; exact Nat.le_refl _
theorem nBack {H G : Hp} {b : Addr} (s : Same H G) (n : G b = none) : H b = none := by
  cases e : H b with
  | none => rfl
  | some o => rw [s _ _ e] at n; cases n
theorem bigLine {n : Nat} (h : n ≤ 16000) : n < sizeLine := Nat.lt_of_le_of_lt h (by decide)
theorem num_log : ∀ n : Nat, n < 100 → ((n : Nat) : Int).natAbs.log2 < 1920 := by decide +kernel
abbrev vS (l : List Nat) : V := .str (Sg l)
theorem vS_get {ls : List (List Nat)} {i : Nat} {x : V} (h : (ls.map vS)[i]? = some x) : ∃ l, ls[i]? = some l ∧ x = vS l := by
  rw [List.getElem?_map] at h
  obtain ⟨l, h1, h2⟩ := Option.map_eq_some_iff.mp h
  exact ⟨l, h1, h2.symm⟩
theorem litAH : (Str.ofString "abcdefgh") = Sg [97, 98, 99, 100, 101, 102, 103, 104] := lit _ _ (by decide)
theorem litXZ : (Str.ofString "xyz") = Sg [120, 121, 122] := lit _ _ (by decide)
theorem atSome {l : List Nat} {d : Int} (d0 : 0 ≤ d) (d1 : d < l.length) : ∃ c, atI l d = some c := by
  obtain ⟨n, rfl⟩ := Int.eq_ofNat_of_zero_le d0
  exact ⟨l[n]'(by omega), atI_nat (List.getElem?_eq_getElem (by omega))⟩
/-- a drawn amount: a text -/
def spLWord : Sp := fun vs H Q _ => ∃ (p : Addr) (S : Addr → Prop) (i : Nat), vs = [.ref p, vn i] ∧ HandIn H p S ∧ i < 100 ∧ ∀ (l : List Nat) (H' : Hp), l.length ≤ 4 → HandIn H' p S → Kept p H H' → Q (vS l) H'
def nLWord : List Str := ["_law_pool_here", "_law_place"]
theorem scLWord : FnScope nLWord ["_law_pool_here", "_law_place"] (defScope sLWord) := ⟨rfl, rfl, rfl, by decide +kernel, rfl, by decide +kernel, by decide +kernel⟩
theorem dLWord (B : Defs K mg C) : Def P w K mg base "_law_word" 2 ["_law_pool_here", "_law_place"] spLWord := by
  obtain ⟨fD, fdD, GD, gD, kD, bD⟩ := dDraw (P := P) (w := w) (base := base) B
  have mS := B.zStr
  refine def_of B.lwd fun f fd F => ?_
  refine F.ok scLWord (fun vs H Q E h => ?_) (fun cdv A outer s H vs Q E hr h => ?_)
  · obtain ⟨p, S, i, rfl, _⟩ := h
    rfl
  · obtain ⟨p, S, i, rfl, hI, hi, k⟩ := h
    refine ⟨_, pss_cons (ps_if (pt_cmpR op_eq (pe_call GD hr (by rfl) gD kD bD .nil pass0 (pa_cons (pv 0) (pa_cons pe_int pa_nil))) pe_int (nomark _)) (pss_one (ps_ret pe_str)) pss_nil)
      (pss_one (ps_ret (pe_op op_add_str (pe_op op_add_str (pe_ix ix_str pe_str (pe_call GD hr (by rfl) gD kD bD .nil pass0 (pa_cons (pv 0) (pa_cons pe_int pa_nil))) (fun _ _ => rfl)) (pe_callTy call_str_int (by rfl) mS (by decide +kernel) (pa_cons (pv 1) pa_nil)))
        (pe_ix ix_str pe_str (pe_call GD hr (by rfl) gD kD bD .nil pass0 (pa_cons (pv 0) (pa_cons pe_int pa_nil))) (fun _ _ => rfl))))), ?_⟩
    refine ⟨_, rfl, p, S, 10, rfl, hI, by decide, by decide, fun d H1 d0 d1 hI1 k1 => ⟨rfl, _, rfl, ?_⟩⟩
    refine ite2 (fun _ => ?_) (fun _ => ?_)
    · rw [lit0]
      exact k [] _ (Nat.zero_le _) hI1 k1
    refine ⟨_, rfl, p, S, 8, rfl, hI1, by decide, by decide, fun e H2 e0 e1 hI2 k2 => ?_⟩
    obtain ⟨c, hc⟩ := atSome (l := [97, 98, 99, 100, 101, 102, 103, 104]) e0 e1
    refine ⟨_, e, c, rfl, rfl, by decide +kernel, by rw [litAH]; exact hc, ?_⟩
    refine ⟨_, rfl, _, rfl, num_log i hi, ?_⟩
    rw [str_num]
    have hl := num_len hi
    refine ⟨_, _, rfl, rfl, by show (Sg [c]).length + _ ≤ _; rw [sg_len, sg_len]; show 1 + _ ≤ 16777216; omega, ?_⟩
    refine ⟨_, rfl, p, S, 3, rfl, hI2, by decide, by decide, fun g H3 e2 e3 hI3 k3 => ?_⟩
    obtain ⟨c2, hc2⟩ := atSome (l := [120, 121, 122]) e2 e3
    refine ⟨_, g, c2, rfl, rfl, by decide +kernel, by rw [litXZ]; exact hc2, ?_⟩
    have ej : ((⟨#[c]⟩ : Str) ++ numS i) = Sg ([c] ++ TL.numL i) := SX.S_cat [c] (TL.numL i)
    rw [ej]
    refine ⟨_, _, rfl, rfl, by show _ + (Sg [c2]).length ≤ _; rw [sg_len, sg_len, List.length_append]; show 1 + _ + 1 ≤ 16777216; omega, ?_⟩
    have ek : (Sg ([c] ++ TL.numL i) ++ (⟨#[c2]⟩ : Str)) = Sg (([c] ++ TL.numL i) ++ [c2]) := SX.S_cat _ [c2]
    rw [ek]
    refine k _ _ ?_ hI3 (kept_trans k1 (kept_trans k2 k3))
    rw [List.length_append, List.length_append]
    show 1 + _ + 1 ≤ 4
    omega
/-- drawn amounts -/
def spLWords : Sp := fun vs H Q _ => ∃ (p : Addr) (S : Addr → Prop) (b : Addr) (ns : List Nat), vs = [.ref p, .ref b] ∧ HandIn H p S ∧ TN H b ns ∧ (∀ n ∈ ns, n < 100) ∧ ns.length ≤ 60 ∧
  ∀ (r : Addr) (ws : List (List Nat)) (H' : Hp), HandIn H' p S → Kept p H H' → ws.length = ns.length → (∀ l ∈ ws, l.length ≤ 4) → H' r = some (.tup (ws.map vS)) → Q (.ref r) H'
def nLWords : List Str := ["_law_pool_here", "_law_places", "_law_place"]
theorem scLWords : FnScope nLWords ["_law_pool_here", "_law_places"] (defScope sLWords) := ⟨rfl, rfl, rfl, by decide +kernel, rfl, by decide +kernel, by decide +kernel⟩
theorem dLWords (B : Defs K mg C) : Def P w K mg base "_law_words" 3 ["_law_pool_here", "_law_places"] spLWords := by
  obtain ⟨fW, fdW, GW, gW, kW, bW⟩ := dLWord (P := P) (w := w) (base := base) B
  have N := B.N
  have nd := scLWords.nd
  refine def_of B.lws fun f fd F => ?_
  refine F.ok scLWords (fun vs H Q E h => ?_) (fun cdv A outer s H vs Q E hr h => ?_)
  · obtain ⟨p, S, b, ns, rfl, _⟩ := h
    rfl
  · obtain ⟨p, S, b, ns, rfl, hI, hb, hn, hl, k⟩ := h
    refine ⟨_, pss_one (ps_ret (pe_callTy call_tuple_of (by rfl) N.is.tup (by decide +kernel) (pa_cons (pe_lc (own := [("_law_place", 2)]) (g := gName 2) (tt := tYes) rfl nd (pi_tup (pv 1))
        (blkOk_by (N := nLWords) (sc := defScope sLWords) (by decide +kernel)) (fun _ _ _ _ _ => pg_name (i := 2) nd rfl (Or.inl rfl)) (fun _ _ _ _ _ => pts_nil) (fun _ _ _ _ _ => pe_call GW hr (by rfl) gW kW bW .nil pass0 (pa_cons (pv 0) (pa_cons (pv 2) pa_nil)))) pa_nil))), ?_⟩
    refine ⟨_, rfl, b, rfl, ⟨_, tnL hb⟩, fun D nD => ?_⟩
    have nDp := hand_ne hI nD
    have bp := tup_ne hI hb
    refine anyWalk (walk_tup (xs := ns.map vn)) (fun i G => HandIn G p (fun x => x = D ∨ S x) ∧ Kept p H G ∧ ∃ ws : List (List Nat), G D = some (.lst (ws.map vS)) ∧ ws.length = i ∧ ∀ l ∈ ws, l.length ≤ 4) ⟨handIn_add hI nD, kept_same (smUpd nD), [], upd_same, rfl, fun l h => nomatch h⟩ (fun i G _ z => tnL (z.2.1 _ _ bp hb)) ?_ ?_
    · rintro i x G G' hi ⟨hG, kG, ws, hD, hlw, hw⟩ ⟨rfl, hx⟩
      obtain ⟨n, hn2, rfl⟩ := vn_get hx
      have hi : i < ns.length := by simpa using hi
      refine ⟨rfl, _, rfl, _, rfl, p, _, n, rfl, hG, hn n (List.mem_of_getElem? hn2), fun l G2 hl4 hG2 k2 => ?_⟩
      have hD2 := k2 _ _ nDp hD
      refine ⟨_, hD2, small1000 (by rw [List.length_map]; omega), handIn_write hG2 (.inl rfl), kept_over nD (kept_trans kG k2), ws ++ [l], by rw [upd_same, List.map_append]; rfl, by rw [List.length_append, hlw]; rfl, fun x h => ?_⟩
      rcases List.mem_append.mp h with h | h
      · exact hw x h
      · rw [List.mem_singleton.mp h]; exact hl4
    · rintro G ⟨hG, kG, ws, hD, hlw, hw⟩
      refine ⟨D, _, rfl, .inl ⟨.inl (.inl hD), fun r nr => ?_⟩⟩
      exact k r ws _ (handIn_keep (handIn_less hG fun _ z => .inr z) (smUpd nr)) (kept_trans kG (kept_same (smUpd nr))) (by rw [hlw, List.length_map]) hw upd_same
end
end Cn
namespace Cn
open PySem PySem.Spec PyProof.Rows L2 Ck
section
variable {P : Program} {w : World} {K : PySem.W.Frag} {mg : Str → Option Value} {base : Heap} {C : Addr}
/-- two texts joined -/
def spLJoin : Sp := fun vs H Q _ => ∃ a b : List Nat, vs = [vS a, vS b] ∧ a.length + b.length ≤ 100000 ∧ Q (vS (a ++ b)) H
def nLJoin : List Str := ["_law_one", "_law_other"]
theorem scLJoin : FnScope nLJoin ["_law_one", "_law_other"] (defScope sLJoin) := ⟨rfl, rfl, rfl, by decide +kernel, rfl, by decide +kernel, by decide +kernel⟩
theorem dLJoin (B : Defs K mg C) : Def P w K mg base "_law_joined" 1 ["_law_one", "_law_other"] spLJoin := by
  refine def_of B.ljo fun f fd F => ?_
  refine F.ok scLJoin (fun vs H Q E h => ?_) (fun cdv A outer s H vs Q E hr h => ?_)
  · obtain ⟨a, b, rfl, _⟩ := h
    rfl
  · obtain ⟨a, b, rfl, hl, k⟩ := h
    refine ⟨_, pss_one (ps_ret (pe_op op_add_str (pv 0) (pv 1))), ?_⟩
    refine ⟨_, rfl, _, rfl, _, _, rfl, rfl, by rw [sg_len, sg_len]; show a.length + b.length ≤ 16777216; omega, ?_⟩
    rw [SX.S_cat]
    exact k
/-- an adding of texts: the def at g, what it gives -/
structure Add (P : Program) (w : World) (K : PySem.W.Frag) (mg : Str → Option Value) (base : Heap) (g : Addr) (ad : List Nat → List Nat → List Nat) : Prop where
  ex : ∃ (fd : FuncData) (ps : List Str) (sp : Sp), FnOk P w K mg base CX0 1 g fd ps sp ∧ PySem.W.keepIn K (.ref g) = true ∧ Binds K fd ps [] ∧ ∀ (a b : List Nat) (H : Hp) (Q : VK) (E : XK), a.length + b.length ≤ 100000 → Q (vS (ad a b)) H → sp [vS a, vS b] H Q E
  len : ∀ a b, (ad a b).length ≤ a.length + b.length
theorem addJoin (B : Defs K mg C) : ∃ g, mg "_law_joined" = some (.ref g) ∧ Add P w K mg base g (fun a b => a ++ b) := by
  obtain ⟨f, fd, G, g, k, b⟩ := dLJoin (P := P) (w := w) (base := base) B
  exact ⟨f, g, ⟨fd, _, _, G, k, b, fun x y H Q E hl q => ⟨x, y, rfl, hl, q⟩⟩, fun a b => by rw [List.length_append]; exact Nat.le_refl _⟩
/-- what texts come to, none for none -/
def togL (ad : List Nat → List Nat → List Nat) : List (List Nat) → Option (List Nat)
  | [] => none
  | l :: ls => some (ls.foldl ad l)
def vA : Option (List Nat) → V
  | none => .non
  | some l => vS l
theorem tog_snoc {ad : List Nat → List Nat → List Nat} {ls : List (List Nat)} {x : List Nat} (h : ls ≠ []) : ∃ y, togL ad ls = some y ∧ togL ad (ls ++ [x]) = some (ad y x) := by
  cases ls with
  | nil => exact absurd rfl h
  | cons l ls => exact ⟨_, rfl, by show some ((ls ++ [x]).foldl ad l) = _; rw [List.foldl_append]; rfl⟩
theorem tog_len {ad : List Nat → List Nat → List Nat} (hl : ∀ a b, (ad a b).length ≤ a.length + b.length) {k : Nat} : ∀ {ls : List (List Nat)} {y : List Nat}, (∀ l ∈ ls, l.length ≤ k) → togL ad ls = some y → y.length ≤ ls.length * k := by
  intro ls
  cases ls with
  | nil => intro y _ h; cases h
  | cons l ls =>
    intro y h e
    cases e
    have go : ∀ (ms : List (List Nat)) (a : List Nat) (n : Nat), (∀ l ∈ ms, l.length ≤ k) → a.length ≤ n → (ms.foldl ad a).length ≤ n + ms.length * k := by
      intro ms
      induction ms with
      | nil => intro a n _ ha; show a.length ≤ n + 0 * k; omega
      | cons m ms ih =>
        intro a n hm ha
        have h1 := hm m List.mem_cons_self
        have h2 := hl a m
        have h3 := ih (ad a m) (n + k) (fun l h => hm l (List.mem_cons_of_mem _ h)) (by omega)
        show (ms.foldl ad (ad a m)).length ≤ n + (ms.length + 1) * k
        rw [Nat.succ_mul]
        omega
    have h1 := go ls l k (fun x hx => h x (List.mem_cons_of_mem _ hx)) (h l List.mem_cons_self)
    show (ls.foldl ad l).length ≤ (ls.length + 1) * k
    rw [Nat.succ_mul]
    omega
end
end Cn
namespace Cn
open PySem PySem.Spec PyProof.Rows L2 Ck
/-! deeds that go on by one note at each turn -/
inductive Deed (α : Type) where
  | chg (p : Nat) (a : α)
  | ask (p : Nat)
inductive EvG (α : Type) where
  | chg (k p : Nat) (a : α)
  | ask (k p : Nat)
  | don (k : Nat)
  | tld (k : Nat) (a : Option α)
/-- the notes: a place, what it holds, what it is read by -/
abbrev NtL := List (Nat × (List Nat × List Nat))
def holdsN (nt : NtL) (p : Nat) : List Nat := (nt.filter fun e => decide (p ∈ e.2.1)).map fun e => e.1
def readsN (nt : NtL) (q : Nat) : List Nat := (nt.filter fun e => decide (q ∈ e.2.2)).map fun e => e.1
def placesN (nt : NtL) (s : Nat) : List Nat := match nt.find? fun e => e.1 == s with
  | some e => e.2.1
  | none => []
theorem placesN_of {nt : NtL} (nd : (nt.map fun e => e.1).Nodup) {e : Nat × (List Nat × List Nat)} (he : e ∈ nt) : placesN nt e.1 = e.2.1 := by
  unfold placesN
  induction nt with
  | nil => cases he
  | cons x nt ih =>
    have nd' := List.nodup_cons.mp nd
    rw [List.find?_cons]
    by_cases c : x.1 = e.1
    · rw [show (x.1 == e.1) = true from beq_iff_eq.mpr c]
      rcases List.mem_cons.mp he with rfl | h
      · rfl
      · exact absurd (by show x.1 ∈ _; rw [c]; exact List.mem_map.mpr ⟨e, h, rfl⟩) nd'.1
    · rw [show (x.1 == e.1) = false from by rw [← Bool.not_eq_true]; exact fun z => c (beq_iff_eq.mp z)]
      rcases List.mem_cons.mp he with rfl | h
      · exact absurd rfl c
      · exact ih nd'.2 h
theorem holds_mem {nt : NtL} (nd : (nt.map fun e => e.1).Nodup) {s p : Nat} : s ∈ holdsN nt p ↔ s ∈ nt.map (fun e => e.1) ∧ p ∈ placesN nt s := by
  unfold holdsN
  constructor
  · intro h
    obtain ⟨e, he, rfl⟩ := List.mem_map.mp h
    obtain ⟨h1, h2⟩ := List.mem_filter.mp he
    exact ⟨List.mem_map.mpr ⟨e, h1, rfl⟩, by rw [placesN_of nd h1]; exact of_decide_eq_true h2⟩
  · rintro ⟨h1, h2⟩
    obtain ⟨e, he, rfl⟩ := List.mem_map.mp h1
    rw [placesN_of nd he] at h2
    exact List.mem_map.mpr ⟨e, List.mem_filter.mpr ⟨he, decide_eq_true h2⟩, rfl⟩
theorem reads_sub {nt : NtL} {s q : Nat} (h : s ∈ readsN nt q) : s ∈ nt.map fun e => e.1 := by
  obtain ⟨e, he, rfl⟩ := List.mem_map.mp h
  exact List.mem_map.mpr ⟨e, (List.mem_filter.mp he).1, rfl⟩
section
variable {α : Type}
/-- what things come to, none for none -/
def togG (ad : α → α → α) : List α → Option α
  | [] => none
  | x :: xs => some (xs.foldl ad x)
/-- what the places of a note hold together -/
def sumP (ad : α → α → α) (am : Nat → α) : List Nat → α
  | [] => am 0
  | p :: ps => (ps.map am).foldl ad (am p)
theorem tog_sum {ad : α → α → α} {am : Nat → α} {ps : List Nat} (h : ps ≠ []) : togG ad (ps.map am) = some (sumP ad am ps) := by
  cases ps with
  | nil => exact absurd rfl h
  | cons p ps => rfl
structure Lm (α : Type) where
  am : Nat → α
  sm : Nat → α
  hd : Nat → Option (List Nat)
  rd : Nat → List α
  ev : List (EvG α)
def begL (nt : NtL) (st : Lm α) (k : Nat) : Deed α → Lm α
  | .chg p a => { st with am := fun i => if i = p then a else st.am i, hd := fun i => if i = k then some (holdsN nt p).reverse else st.hd i, ev := st.ev ++ [.chg k p a] }
  | .ask p => { st with hd := fun i => if i = k then some (readsN nt p) else st.hd i, rd := fun i => if i = k then [] else st.rd i, ev := st.ev ++ [.ask k p] }
def goL (ad : α → α → α) (nt : NtL) (st : Lm α) (k : Nat) (d : Deed α) : Lm α := match st.hd k with
  | some (s :: r) => (match d with
    | .chg _ _ => { st with hd := fun i => if i = k then some r else st.hd i, sm := fun i => if i = s then sumP ad st.am (placesN nt s) else st.sm i }
    | .ask _ => { st with hd := fun i => if i = k then some r else st.hd i, rd := fun i => if i = k then st.rd k ++ [st.sm s] else st.rd i })
  | _ => st
def endL (ad : α → α → α) (st : Lm α) (k : Nat) (d : Deed α) : Lm α := match st.hd k with
  | some [] => (match d with
    | .chg _ _ => { st with ev := st.ev ++ [.don k] }
    | .ask _ => { st with ev := st.ev ++ [.tld k (togG ad (st.rd k))] })
  | _ => st
def turnL (ad : α → α → α) (nt : NtL) (st : Lm α) (k : Nat) (d : Deed α) : Lm α := match st.hd k with
  | none => endL ad (goL ad nt (begL nt st k d) k d) k d
  | some [] => st
  | some (_ :: _) => endL ad (goL ad nt st k d) k d
def lm0 (ad : α → α → α) (nt : NtL) (am : Nat → α) : Lm α := ⟨am, fun s => sumP ad am (placesN nt s), fun _ => none, fun _ => [], []⟩
def stepW (ad : α → α → α) (nt : NtL) (ds : List (Deed α)) (st : Lm α) (k : Nat) : Lm α := match ds[k]? with
  | some d => turnL ad nt st k d
  | none => st
/-- all turns, one behind another -/
def weaveL (ad : α → α → α) (nt : NtL) (ds : List (Deed α)) (st : Lm α) (ts : List Nat) : Lm α := ts.foldl (stepW ad nt ds) st
theorem weave_cons (ad : α → α → α) (nt : NtL) (ds : List (Deed α)) (st : Lm α) (k : Nat) (ts : List Nat) : weaveL ad nt ds st (k :: ts) = weaveL ad nt ds (stepW ad nt ds st k) ts := rfl
theorem weave_snoc (ad : α → α → α) (nt : NtL) (ds : List (Deed α)) (st : Lm α) (ts : List Nat) (k : Nat) : weaveL ad nt ds st (ts ++ [k]) = stepW ad nt ds (weaveL ad nt ds st ts) k := by
  unfold weaveL
  rw [List.foldl_append]
  rfl
theorem stepW_of {ad : α → α → α} {nt : NtL} {ds : List (Deed α)} {st : Lm α} {k : Nat} {d : Deed α} (h : ds[k]? = some d) : stepW ad nt ds st k = turnL ad nt st k d := by
  unfold stepW
  rw [h]
end
end Cn
namespace RT
open PySem PySem.Spec PyProof.Rows L2
/-! list(reversed(a list)) -/
section
variable {prog : Program} {w : World} {A : Around} {E : Value → Shared → Prop} {s : Shared}
theorem extend_rev {R : Result → Shared → Prop} {it l : Addr} {items : Array Value} (hh : A.handled = none) (hit : s.heap.IsRevIter it l ((items.size : Int) - 1)) (hl : s.heap.IsList l items) (hne : l ≠ it) (hn : items.size ≤ sizeLine) (S : Addr) (hSi : S ≠ it) (hSl : S ≠ l) (res : Value) (c₀ : Nat) (hS : s.heap.get? S = some { cls := .type "list", data := .seq #[] c₀ })
    (hR : ∀ h' tk acc' c', (∀ b o, b ≠ S → b ≠ it → s.heap.get? b = some o → h'.get? b = some o) → h'.get? S = some { cls := .type "list", dict := none, data := .seq acc' c', slots := #[] } → ItemsOf (fun i v => items[items.size - 1 - i]? = some v) acc' items.size → R (.ok (.ret res)) { s with heap := h', toks := tk }) :
    wpAny (model prog w) A.in1 (Builtin.List.listExtendWith (.ref S) (.ref it) res)
      (fun fin s' => match fin with | .done f => R (.ok f) s' | .again c' => c'.quiet = true ∧ codeAny (model prog w) A c' R s') (fun e s' => R (.error e) s') s := by
  have W := (Walks.listRev (prog := prog) (w := w) (A := A.in1) hh it l hne items).toS
  have hSf : S ∉ [it, l] := by simp only [List.mem_cons, List.not_mem_nil, or_false, not_or]; exact ⟨hSi, hSl⟩
  have hT : s.TypeIs (.ref it) "list_reverseiterator" := hit.typeIs
  have h1 : Builtin.List.listSameRef (.ref S) (.ref it) = false := by simp [Builtin.List.listSameRef, hSi]
  unfold Builtin.List.listExtendWith
  refine wpAny_bind (wpAny_typeOf hT ?_)
  rw [if_neg (by rw [h1]; decide)]
  refine wpAny_bind (wpAny_pyIter_revIter hit ?_)
  refine wpAny_bind (wpAny_holding ?_)
  unfold Builtin.List.listLengthHint
  refine wpAny_bind (wpAny_specialOf hT nolen_lri ?_)
  show wpAny _ A.in1 (specialOf (Value.ref it) (Str.ofString "__length_hint__") >>= _) _ _ _
  refine wpAny_bind (wpAny_specialOf hT hint_lri ?_)
  generalize hid : ("list_reverseiterator.__length_hint__" : String) = id0
  wp_delta
  rw [show splitId id0 = some ("list_reverseiterator", "__length_hint__") from by subst hid; decide +kernel]
  subst hid
  refine wpAny_bind (wpAny_isInstance (b := true) hT (by rw [isSubtype_type]; kernel_rfl) ?_)
  refine wpAny_pure ?_
  rw [if_neg (by decide)]
  have e0 : ((items.size : Nat) : Int) - 1 - ((0 : Nat) : Int) = (items.size : Int) - 1 := by omega
  refine wpAny_pure ⟨plainId_quiet F.plain_extend_loop _, codeAny_extend_loopS W hn _ hSf _ items.size 0 _ _ _ rfl (Nat.zero_le _) ⟨Nat.zero_le _, by rw [e0]; exact hit, hl⟩ hS (ItemsOf.nil _) fun s' acc' c' hm hS' hacc => ?_⟩
  rw [Moved.eq_with hm]
  refine hR s'.heap s'.toks acc' c' (fun b o hb hb2 e => hm.heap b o (fun hmem => ?_) e) hS' hacc
  rcases List.mem_cons.mp hmem with e' | hmem
  · exact hb e'
  · exact hb2 (List.mem_singleton.mp hmem)
theorem list_init_rev {R : Result → Shared → Prop} {it l : Addr} {items : Array Value} (hh : A.handled = none) (hit : s.heap.IsRevIter it l ((items.size : Int) - 1)) (hl : s.heap.IsList l items) (hne : l ≠ it) (hn : items.size ≤ sizeLine) (S : Addr) (hSi : S ≠ it) (hSl : S ≠ l) (hS : s.heap.get? S = some { cls := .type "list", data := .seq #[] })
    (hR : ∀ h' tk acc' c', (∀ b o, b ≠ S → b ≠ it → s.heap.get? b = some o → h'.get? b = some o) → h'.get? S = some { cls := .type "list", dict := none, data := .seq acc' c', slots := #[] } → ItemsOf (fun i v => items[items.size - 1 - i]? = some v) acc' items.size → R (.ok (.ret .none)) { s with heap := h', toks := tk }) :
    wpAny (model prog w) A.in1 (Builtin.«list.__init__» ⟨[.ref S, .ref it], []⟩)
      (fun fin s' => match fin with | .done f => R (.ok f) s' | .again c' => c'.quiet = true ∧ codeAny (model prog w) A c' R s') (fun e s' => R (.error e) s') s := by
  show wpAny _ _ (do let old ← Builtin.List.listItems (.ref S); Builtin.List.listUpdate (.ref S) (fun _ => #[]); letGo old.toList.reverse; Builtin.List.listExtendWith (.ref S) (.ref it) .none) _ _ s
  refine wpAny_bind ?_
  unfold Builtin.List.listItems
  refine wpAny_bind (wpAny_seqItems hS rfl (wpAny_pure ?_))
  show wpAny _ _ (updateSeq S (fun _ => #[]) >>= fun _ => letGo (#[] : Array Value).toList.reverse >>= fun _ => Builtin.List.listExtendWith (.ref S) (.ref it) .none) _ _ s
  refine wpAny_bind (wpAny_updateSeq hS rfl ?_)
  have hS₂ := Heap.get?_update_self (Obj.mapSeq (fun _ => (#[] : Array Value))) hS rfl
  have oth : ∀ b o, b ≠ S → s.heap.get? b = some o → (s.heap.update S (Obj.mapSeq (fun _ => (#[] : Array Value)))).get? b = some o :=
    fun b o hb e => (Heap.get?_update_other _ _ (Ne.symm hb)).trans e
  refine wpAny_bind (wpAny_letGo ?_)
  obtain ⟨ol, hol, hlc⟩ := id hl
  refine extend_rev (s := { s with heap := s.heap.update S (Obj.mapSeq (fun _ => (#[] : Array Value))) }) hh (hit.at fun o e => oth _ o hSi.symm e) ⟨ol, oth _ _ hSl.symm hol, hlc⟩ hne hn S hSi hSl .none _ hS₂ (fun h' tk acc' c' hk hS' hacc => ?_)
  exact hR h' tk acc' c' (fun b o hb hb2 e => hk b o hb hb2 (oth b o hb e)) hS' hacc
theorem call_list_rev {it l : Addr} {items : Array Value} {Q : Value → Shared → Prop} (hh : A.handled = none) (hit : s.heap.IsRevIter it l ((items.size : Int) - 1)) (hl : s.heap.IsList l items) (hne : l ≠ it) (hn : items.size ≤ sizeLine)
    (hQ : ∀ h' tk acc' c', (∀ b o, b ≠ it → s.heap.get? b = some o → h'.get? b = some o) → h'.get? s.heap.objs.size = some { cls := .type "list", dict := none, data := .seq acc' c', slots := #[] } → ItemsOf (fun i v => items[items.size - 1 - i]? = some v) acc' items.size → Q (.ref s.heap.objs.size) { s with heap := h', toks := tk }) :
    wpAny (model prog w) A (call (.type "list") [.ref it]) Q E s := by
  refine callType_codes (Q₁ := fun obj s₁ => obj = .ref s.heap.objs.size ∧ s₁ = { s with heap := s.heap.push { cls := .type "list", data := .seq #[] } }) PySem.F.called_list (PySem.F.typeCall_list_1 _) PySem.F.entry_list_init
    (PySem.code_list_new _ ⟨rfl, rfl⟩) fun obj s₁ h₁ => ?_
  obtain ⟨rfl, rfl⟩ := h₁
  have hS : (s.heap.push { cls := .type "list", data := .seq #[] }).get? s.heap.objs.size = some { cls := .type "list", data := .seq #[] } := Heap.get?_push_size _ rfl
  obtain ⟨oi, hoi, _⟩ := id hit
  obtain ⟨ol, hol, _⟩ := id hl
  have hSi : s.heap.objs.size ≠ it := Nat.ne_of_gt (Heap.lt_size hoi)
  have hSl : s.heap.objs.size ≠ l := Nat.ne_of_gt (Heap.lt_size hol)
  refine ⟨⟨_, hS, rfl⟩, PySem.F.args_list_init_2 _ _, list_init_rev (A := A.in1) (s := { s with heap := s.heap.push { cls := .type "list", data := .seq #[] } }) hh (hit.at fun o e => Heap.get?_push_of_some _ e) (hl.push _) hne hn _ hSi hSl hS (fun h' tk acc' c' hk hS' hacc => ?_)⟩
  exact ⟨rfl, hQ h' tk acc' c' (fun b o hb e => hk b o (Nat.ne_of_lt (Heap.lt_size e)) hb (Heap.get?_push_of_some _ e)) hS' hacc⟩
end
/-- list(reversed(x)), x a list: a new list -/
def tLstRev (K : PySem.W.Frag) (te : TE) : TE := fun σ H Q => te σ H fun v H1 => ∃ (a : Addr) (xs : List V), v = .ref a ∧ SqL K H1 a xs ∧ ∀ q, H1 q = none → Q (.ref q) (upd H1 q (.lst xs.reverse))
section
variable {X : Cx}
theorem pe_lstRev {e : Expr} {te : TE} {p p2 pos pos2 : Pos} (hc : X.calm = true) (hg : Gl X "list") (hm : X.mg "list" = none) (hg2 : Gl X "reversed") (hm2 : X.mg "reversed" = none) (he : PE X e te)
    (hs : starEach [e] X.env = (false, eval e X.env) :: starEach [] X.env := by rfl)
    (hs2 : starEach [.Call (.Name "reversed" p2) [e] [] pos2] X.env = (false, eval (.Call (.Name "reversed" p2) [e] [] pos2) X.env) :: starEach [] X.env := by rfl) :
    PE X (.Call (.Name "list" p) [.Call (.Name "reversed" p2) [e] [] pos2] [] pos) (tLstRev X.K te) := by
  refine ⟨fun pins s σ H Q I h => ?_⟩
  refine Call_ (ld_blt I hg hm boot_list (PyProof.Rows.callWith_type1 (args_cons (Call_ (ld_blt I hg2 hm2 PyProof.Rows.boot_reversed (PyProof.Rows.callWith_type1 (args_cons (thn (he.run pins s σ H _ I h) fun u s1 ⟨v, H1, I1, r1, q1⟩ => args_nil ?_) hs) hs rfl))) hs2) hs2 rfl))
  obtain ⟨a, xs, ev, hq, q⟩ := q1
  subst ev
  obtain rfl : u = Value.ref a := r1
  obtain ⟨its, rv, p', hz⟩ := I1.list hq
  refine call_reversed_list p'.isList (args_nil ?_)
  have k0 : ∀ b o, s1.heap.get? b = some o → (s1.heap.push (revObj a ((its.toArray.size : Int) - 1))).get? b = some o := fun b o e => Heap.get?_push_of_some _ e
  have I2 : Inv X pins σ H1 { s1 with heap := s1.heap.push (revObj a ((its.toArray.size : Int) - 1)) } := I1.kept (t' := s1.toks) k0
  have fp := I1.fpOk (H' := H1) (b := s1.heap.objs.size) (Nat.le_refl _) (I1.hok.fresh (Nat.le_refl _))
  have hl := p'.isList
  obtain ⟨ol, hol, _⟩ := id hl
  have hne : a ≠ s1.heap.objs.size := Nat.ne_of_lt (Heap.lt_size hol)
  have hn : its.toArray.size ≤ sizeLine := by rw [List.size_toArray, ← rv.length]; exact hz
  refine call_list_rev (s := { s1 with heap := s1.heap.push (revObj a ((its.toArray.size : Int) - 1)) }) (I1.ok.hd hc) ⟨_, Heap.get?_push_size _ rfl, rfl, rfl⟩ (hl.push _) hne hn fun h' tk acc c hk hS hi => ?_
  refine ⟨.ref _, upd H1 (s1.heap.push (revObj a ((its.toArray.size : Int) - 1))).objs.size (.lst xs.reverse), I2.turnedNew (t' := tk) (ch := [s1.heap.objs.size]) (fun b o hb e => hk b o (fun z => hb (by rw [z]; exact List.mem_singleton_self _)) e) (fun b hb => by rw [List.mem_singleton.mp hb]; exact fp) (Nat.le_refl _) (show ObjOk X.prog X.w _ _ _ (.lst xs.reverse) from ⟨by rw [List.length_reverse]; exact hz, acc.toList, c, vals_rev rv hi, by rw [Array.toArray_toList]; exact hS⟩), rfl, q _ (I2.hok.fresh (Nat.le_refl _))⟩
end
end RT
namespace Cn
open PySem PySem.Spec PyProof.Rows L2 Ck
/-! amounts of any kind: what stands for them, how it is kept, a size that what is put together has at most the sum of -/
structure Dom (α : Type) where
  rep : Hp → V → α → Prop
  keep : ∀ {H H' : Hp} {v : V} {a : α}, (∀ t xs, H t = some (.tup xs) → H' t = some (.tup xs)) → rep H v a → rep H' v a
  sz : α → Nat
theorem Dom.same {α : Type} (D : Dom α) {H H' : Hp} {v : V} {a : α} (s : Same H H') (h : D.rep H v a) : D.rep H' v a := D.keep (fun t xs e => s _ _ e) h
theorem Dom.upd {α : Type} (D : Dom α) {H : Hp} {b : Addr} {o o2 : HO} {v : V} {a : α} (hb : H b = some o) (no : ∀ xs, o ≠ .tup xs) (h : D.rep H v a) : D.rep (upd H b o2) v a :=
  D.keep (fun t xs e => by rw [upd_ne (fun z => by rw [z, hb] at e; exact no xs (Option.some.inj e))]; exact e) h
def Dom.opt {α : Type} (D : Dom α) (H : Hp) (v : V) : Option α → Prop
  | none => v = .non
  | some a => D.rep H v a
theorem Dom.optSame {α : Type} (D : Dom α) {H H' : Hp} {v : V} {a : Option α} (s : Same H H') (h : D.opt H v a) : D.opt H' v a := by
  cases a with
  | none => exact h
  | some a => exact D.same s h
theorem Dom.all {α : Type} (D : Dom α) {H H' : Hp} {us : List V} {xs : List α} (s : Same H H') (h : Paired (D.rep H) us xs) : Paired (D.rep H') us xs := Paired.mapP h fun _ _ z => D.same s z
theorem Dom.allUpd {α : Type} (D : Dom α) {H : Hp} {b : Addr} {o o2 : HO} {us : List V} {xs : List α} (hb : H b = some o) (no : ∀ xs, o ≠ .tup xs) (h : Paired (D.rep H) us xs) : Paired (D.rep (L2.upd H b o2)) us xs := Paired.mapP h fun _ _ z => D.upd hb no z
/-- an adding: the def at g, what it gives -/
structure AddG {α : Type} (P : Program) (w : World) (K : PySem.W.Frag) (mg : Str → Option Value) (base : Heap) (D : Dom α) (g : Addr) (ad : α → α → α) : Prop where
  ex : ∃ (fd : FuncData) (ps : List Str) (sp : Sp), FnOk P w K mg base CX0 1 g fd ps sp ∧ PySem.W.keepIn K (.ref g) = true ∧ Binds K fd ps [] ∧
    ∀ (H : Hp) (u v : V) (a b : α) (Q : VK) (E : XK), D.rep H u a → D.rep H v b → D.sz a + D.sz b ≤ 100000 → (∀ x H', Same H H' → D.rep H' x (ad a b) → Q x H') → sp [u, v] H Q E
  len : ∀ a b, D.sz (ad a b) ≤ D.sz a + D.sz b
theorem togG_snoc {α : Type} {ad : α → α → α} {ls : List α} {x : α} (h : ls ≠ []) : ∃ y, togG ad ls = some y ∧ togG ad (ls ++ [x]) = some (ad y x) := by
  cases ls with
  | nil => exact absurd rfl h
  | cons l ls => exact ⟨_, rfl, by show some ((ls ++ [x]).foldl ad l) = _; rw [List.foldl_append]; rfl⟩
theorem togG_sz {α : Type} {sz : α → Nat} {ad : α → α → α} (hl : ∀ a b, sz (ad a b) ≤ sz a + sz b) {k : Nat} : ∀ {ls : List α} {y : α}, (∀ l ∈ ls, sz l ≤ k) → togG ad ls = some y → sz y ≤ ls.length * k := by
  intro ls
  cases ls with
  | nil => intro y _ h; cases h
  | cons l ls =>
    intro y h e
    cases e
    have go : ∀ (ms : List α) (a : α) (n : Nat), (∀ l ∈ ms, sz l ≤ k) → sz a ≤ n → sz (ms.foldl ad a) ≤ n + ms.length * k := by
      intro ms
      induction ms with
      | nil => intro a n _ ha; show sz a ≤ n + 0 * k; omega
      | cons m ms ih =>
        intro a n hm ha
        have h1 := hm m List.mem_cons_self
        have h2 := hl a m
        have h3 := ih (ad a m) (n + k) (fun l h => hm l (List.mem_cons_of_mem _ h)) (by omega)
        show sz (ms.foldl ad (ad a m)) ≤ n + (ms.length + 1) * k
        rw [Nat.succ_mul]
        omega
    have h1 := go ls l k (fun x hx => h x (List.mem_cons_of_mem _ hx)) (h l List.mem_cons_self)
    show sz (ls.foldl ad l) ≤ (ls.length + 1) * k
    rw [Nat.succ_mul]
    omega
section
variable {P : Program} {w : World} {K : PySem.W.Frag} {mg : Str → Option Value} {base : Heap} {C : Addr}
/-- what things come to -/
def spTogt {α : Type} (P : Program) (w : World) (K : PySem.W.Frag) (mg : Str → Option Value) (base : Heap) (D : Dom α) : Sp := fun vs H Q _ => ∃ (g b : Addr) (ad : α → α → α) (us : List V) (xs : List α) (m : Nat), vs = [.ref g, .ref b] ∧ AddG P w K mg base D g ad ∧ H b = some (.lst us) ∧ Paired (D.rep H) us xs ∧ (∀ x ∈ xs, D.sz x ≤ m) ∧ xs.length * m ≤ 100000 ∧
  ∀ v H', Same H H' → D.opt H' v (togG ad xs) → Q v H'
def nTogt : List Str := ["adding", "things", "whole", "at", "thing"]
theorem scTogt : FnScope nTogt ["adding", "things"] (defScope sTogt) := ⟨rfl, rfl, rfl, by decide +kernel, rfl, by decide +kernel, by decide +kernel⟩
theorem dTogt {α : Type} (D : Dom α) (B : Defs K mg C) : Def P w K mg base "together" 2 ["adding", "things"] (spTogt P w K mg base D) := by
  have N := B.N
  have nd := scTogt.nd
  refine def_of B.tgt fun f fd F => ?_
  refine F.ok scTogt (fun vs H Q E h => ?_) (fun cdv A outer s H vs Q E hr h => ?_)
  · obtain ⟨g, b, ad, us, xs, m, rfl, _⟩ := h
    rfl
  · obtain ⟨g, b, ad, us, xs, m, rfl, ⟨⟨fdG, psG, spG, FG, kG, bG, yes⟩, al⟩, hb, hP, hm, hlm, k⟩ := h
    refine ⟨_, pss_cons (ps_set (i := 2) nd rfl (Or.inl rfl) pe_non)
      (pss_cons (ps_for PassesOwn.never rfl (pi_enum (by rfl) N.enum (pa_cons (pv 1) pa_nil)) (pg_tup rfl (pgs_cons (pg_name (i := 3) nd rfl (Or.inl rfl)) (pgs_cons (pg_name (i := 4) nd rfl (Or.inl rfl)) pgs_nil)))
        (pss_one (ps_set (i := 2) nd rfl (Or.inl rfl) (pe_ifExp (pt_truth (pv 3) (fun _ => rfl)) (pe_callL (i := 0) FG hr rfl (Or.inl rfl) kG bG .nil pass0 (pa_cons (pv 2) (pa_cons (pv 4) pa_nil))) (pv 4)))))
      (pss_one (ps_ret (pv 2)))), ?_⟩
    have ul : us.length = xs.length := Paired.length hP
    refine ⟨_, rfl, b, us, rfl, .inl (.inl hb), ?_⟩
    refine for_it (walk_enum (xs := us)) (fun i σ G => Same H G ∧ ∃ (v : V) (t3 t4 : Option V), σ = [some (.ref g), some (.ref b), some v, t3, t4] ∧ D.opt G v (togG ad (xs.take i))) ⟨Same.refl _, .non, none, none, rfl, rfl⟩ (fun i σ G _ z => .inl (.inl (z.1 _ _ hb))) ?_ ?_
    · rintro i x σ G G2 hi ⟨sm, v, t3, t4, rfl, hv⟩ ⟨T, x1, y1, rfl, nT, rfl, e1, e2⟩
      cases e1
      obtain ⟨a, ha, hr1⟩ := pairedGetQ hP e2
      have sT := smUpd (o := .tup [.int ((i : Nat) : Int), y1]) nT
      have hT2 : upd G T (.tup [.int ((i : Nat) : Int), y1]) T = some (.tup [.int ((i : Nat) : Int), y1]) := upd_same
      generalize upd G T (.tup [.int ((i : Nat) : Int), y1]) = G2 at sT hT2 ⊢
      have s2 := sm.trans sT
      have et : xs.take (i + 1) = xs.take i ++ [a] := by rw [List.take_add_one, ha]; rfl
      refine ⟨T, _, rfl, .inl (.inl hT2), rfl, _, _, rfl, _, _, rfl, rfl, ?_⟩
      refine ⟨_, rfl, ((i : Nat) : Int) != 0, rfl, ?_⟩
      by_cases c : i = 0
      · subst c
        refine ifF (by decide) ?_
        refine ⟨_, rfl, s2, y1, _, _, rfl, ?_⟩
        rw [et]
        exact D.same s2 hr1
      · refine ifT (by rw [bne_iff_ne]; omega) ?_
        have hne : xs.take i ≠ [] := fun z => by
          have := congrArg List.length z
          rw [List.length_take, List.length_nil] at this
          omega
        obtain ⟨y, hy1, hy2⟩ := togG_snoc (ad := ad) (x := a) hne
        have hyl := togG_sz (k := m) al (fun l h => hm l (List.mem_of_mem_take h)) hy1
        have hal := hm a (List.mem_of_getElem? ha)
        rw [List.length_take] at hyl
        rw [hy1] at hv
        have hv : D.rep G v y := hv
        refine ⟨rfl, _, rfl, _, rfl, yes _ _ _ y a _ _ (D.same sT hv) (D.same s2 hr1) ?_ fun x G3 s3 hx => ?_⟩
        · have h1 : (i + 1) * m ≤ xs.length * m := Nat.mul_le_mul_right m (by omega)
          have h2 : min i xs.length * m ≤ i * m := Nat.mul_le_mul_right m (Nat.min_le_left _ _)
          rw [Nat.succ_mul] at h1
          omega
        · refine ⟨s2.trans s3, x, _, _, rfl, ?_⟩
          rw [et, hy2]
          exact hx
    · rintro σ G ⟨sm, v, t3, t4, rfl, hv⟩
      rw [ul, List.take_length] at hv
      exact ⟨_, rfl, k v G sm hv⟩
end
end Cn
namespace Cn
open PySem PySem.Spec PyProof.Rows L2 Ck
/-! texts as amounts; amounts by places in a dict -/
def dW : Dom (List Nat) := ⟨fun _ v a => v = vS a, fun _ h => h, List.length⟩
/-- tuples stay -/
def TK (H H' : Hp) : Prop := ∀ t xs, H t = some (.tup xs) → H' t = some (.tup xs)
theorem tkSame {H H' : Hp} (s : Same H H') : TK H H' := fun t xs e => s _ _ e
theorem tkUpd {H : Hp} {b : Addr} {o o2 : HO} (hb : H b = some o) (no : ∀ xs, o ≠ .tup xs) : TK H (upd H b o2) := fun t xs e => by
  rw [upd_ne (fun z => by rw [z, hb] at e; exact no xs (Option.some.inj e))]
  exact e
theorem TK.trans {H H1 H2 : Hp} (a : TK H H1) (b : TK H1 H2) : TK H H2 := fun t xs e => b t xs (a t xs e)
def AmsAt {α : Type} (D : Dom α) (H : Hp) (am : Addr) (amf : Nat → α) (ps : List Nat) (n : Nat) : Prop := ∃ kvs : List (L2.Key × V), H am = some (.dK kvs) ∧ kvs.length ≤ n ∧ ∀ q ∈ ps, ∃ v, valV kvs (.inl (q : Int)) = some v ∧ D.rep H v (amf q)
theorem amsTK {α : Type} {D : Dom α} {H H' : Hp} {am : Addr} {amf : Nat → α} {ps : List Nat} {n : Nat} (k : TK H H') (e : ∀ kvs, H am = some (.dK kvs) → H' am = some (.dK kvs)) (h : AmsAt D H am amf ps n) : AmsAt D H' am amf ps n := by
  obtain ⟨kvs, h1, hl, h2⟩ := h
  refine ⟨kvs, e _ h1, hl, fun q hq => ?_⟩
  obtain ⟨v, h3, h4⟩ := h2 q hq
  exact ⟨v, h3, D.keep k h4⟩
section
variable {P : Program} {w : World} {K : PySem.W.Frag} {mg : Str → Option Value} {base : Heap} {C : Addr}
theorem addGJoin (B : Defs K mg C) : ∃ g, mg "_law_joined" = some (.ref g) ∧ Add P w K mg base g (fun a b => a ++ b) ∧ AddG P w K mg base dW g (fun a b => a ++ b) := by
  obtain ⟨f, fd, G, g, k, b⟩ := dLJoin (P := P) (w := w) (base := base) B
  refine ⟨f, g, ⟨⟨fd, _, _, G, k, b, fun x y H Q E hl q => ⟨x, y, rfl, hl, q⟩⟩, fun a b => by rw [List.length_append]; exact Nat.le_refl _⟩, ⟨fd, _, _, G, k, b, fun H u v x y Q E hu hv hl q => ?_⟩, fun a b => ?_⟩
  · have hu : u = vS x := hu
    have hv : v = vS y := hv
    exact ⟨x, y, by rw [hu, hv], hl, q _ H (Same.refl _) rfl⟩
  · show (a ++ b).length ≤ a.length + b.length
    rw [List.length_append]
    exact Nat.le_refl _
end
end Cn
namespace Cn
open PySem PySem.Spec PyProof.Rows L2 Ck
/-! the law's own putting together, of amounts of any kind -/
section
variable {P : Program} {w : World} {K : PySem.W.Frag} {mg : Str → Option Value} {base : Heap} {C : Addr}
/-- things put together -/
def spLTog {α : Type} (P : Program) (w : World) (K : PySem.W.Frag) (mg : Str → Option Value) (base : Heap) (D : Dom α) : Sp := fun vs H Q _ => ∃ (g b : Addr) (ad : α → α → α) (us : List V) (xs : List α) (m : Nat), vs = [.ref g, .ref b] ∧ AddG P w K mg base D g ad ∧ H b = some (.lst us) ∧ Paired (D.rep H) us xs ∧ (∀ x ∈ xs, D.sz x ≤ m) ∧ xs.length ≤ 1000 ∧ xs.length * m ≤ 100000 ∧
  ∀ v H', Same H H' → D.opt H' v (togG ad xs) → Q v H'
def nLTog : List Str := ["_law_add", "_law_things", "_law_found", "_law_at"]
theorem scLTog : FnScope nLTog ["_law_add", "_law_things"] (defScope sLTog) := ⟨rfl, rfl, rfl, by decide +kernel, rfl, by decide +kernel, by decide +kernel⟩
theorem dLTog {α : Type} (D : Dom α) (B : Defs K mg C) : Def P w K mg base "_law_together" 2 ["_law_add", "_law_things"] (spLTog P w K mg base D) := by
  have N := B.N
  have nd := scLTog.nd
  refine def_of B.ltg fun f fd F => ?_
  refine F.ok scLTog (fun vs H Q E h => ?_) (fun cdv A outer s H vs Q E hr h => ?_)
  · obtain ⟨g, b, ad, us, xs, m, rfl, _⟩ := h
    rfl
  · obtain ⟨g, b, ad, us, xs, m, rfl, ⟨⟨fdG, psG, spG, FG, kG, bG, yes⟩, al⟩, hb, hP, hm, hx1, hlm, k⟩ := h
    refine ⟨_, pss_cons (ps_set (i := 2) nd rfl (Or.inl rfl) pe_non)
      (pss_cons (ps_for PassesOwn.never rfl (pi_range1 (by rfl) N.range (pa_cons (pe_callB call_len_seq (by rfl) N.is.len PySem.boot_len (pa_cons (pv 1) pa_nil)) pa_nil)) (pg_name (i := 3) nd rfl (Or.inl rfl))
        (pss_one (ps_set (i := 2) nd rfl (Or.inl rfl) (pe_ifExp (pt_cmpR op_eq (pv 3) pe_int (nomark _)) (pe_ix ix_list (pv 1) (pv 3) (fun _ _ => rfl))
          (pe_callL (i := 0) FG hr rfl (Or.inl rfl) kG bG .nil pass0 (pa_cons (pv 2) (pa_cons (pe_ix ix_list (pv 1) (pv 3) (fun _ _ => rfl)) pa_nil)))))))
      (pss_one (ps_ret (pv 2)))), ?_⟩
    have ul : us.length = xs.length := Paired.length hP
    refine ⟨_, rfl, b, _, rfl, .inl (.inl (.inl hb)), (us.length : Int), rfl, by omega, by omega, ?_⟩
    rw [Int.toNat_natCast]
    refine for_range (lo := 0) (n := us.length) (fun i σ G => Same H G ∧ ∃ (v : V) (t3 : Option V), σ = [some (.ref g), some (.ref b), some v, t3] ∧ D.opt G v (togG ad (xs.take i))) ⟨Same.refl _, .non, none, rfl, rfl⟩ ?_ ?_
    · rintro i σ G hi ⟨sm, v, t3, rfl, hv⟩
      rw [show (0 : Int) + (i : Int) = (i : Int) from Int.zero_add _]
      have hu : us[i]? = some (us[i]'hi) := List.getElem?_eq_getElem hi
      generalize us[i]'hi = y1 at hu
      obtain ⟨a, ha, hr1⟩ := pairedGetQ hP hu
      have et : xs.take (i + 1) = xs.take i ++ [a] := by rw [List.take_add_one, ha]; rfl
      have ht : atI us ((i : Nat) : Int) = some y1 := atI_nat hu
      refine ⟨_, rfl, rfl, _, rfl, ?_⟩
      by_cases c : i = 0
      · subst c
        refine ifT (by decide) ?_
        refine ⟨_, rfl, _, rfl, b, _, (0 : Nat), _, rfl, rfl, .inl (.inl (sm _ _ hb)), ht, ?_⟩
        refine ⟨sm, y1, _, rfl, ?_⟩
        rw [et]
        exact D.same sm hr1
      · refine ifF (by rw [decide_eq_true_iff]; exact fun z => c (by injection z with z; omega)) ?_
        have hne : xs.take i ≠ [] := fun z => by
          have := congrArg List.length z
          rw [List.length_take, List.length_nil] at this
          omega
        obtain ⟨y, hy1, hy2⟩ := togG_snoc (ad := ad) (x := a) hne
        have hyl := togG_sz (k := m) al (fun l h => hm l (List.mem_of_mem_take h)) hy1
        have hal := hm a (List.mem_of_getElem? ha)
        rw [List.length_take] at hyl
        rw [hy1] at hv
        have hv : D.rep G v y := hv
        refine ⟨rfl, _, rfl, _, rfl, _, rfl, b, _, (i : Int), _, rfl, rfl, .inl (.inl (sm _ _ hb)), ht, yes _ _ _ y a _ _ hv (D.same sm hr1) ?_ fun x G3 s3 hx => ?_⟩
        · have h1 : (i + 1) * m ≤ xs.length * m := Nat.mul_le_mul_right m (by omega)
          have h2 : min i xs.length * m ≤ i * m := Nat.mul_le_mul_right m (Nat.min_le_left _ _)
          rw [Nat.succ_mul] at h1
          omega
        · refine ⟨sm.trans s3, x, _, rfl, ?_⟩
          rw [et, hy2]
          exact hx
    · rintro σ G ⟨sm, v, t3, rfl, hv⟩
      rw [ul, List.take_length] at hv
      exact ⟨_, rfl, k v G sm hv⟩
end
end Cn
namespace Cn
open PySem PySem.Spec PyProof.Rows L2 Ck
/-! parts of a text; a filter's next step -/
def sxRhs : Stmt → Expr
  | .Assign _ e _ => e
  | .Return (some e) _ => e
  | .Expr e _ => e
  | _ => default
def sxIf : Expr → Expr
  | .ListComp _ (⟨_, _, e :: _, _⟩ :: _) _ _ => e
  | _ => default
def sxArg : Expr → Expr
  | .Call _ (e :: _) _ _ => e
  | _ => default
def sxScope : Expr → Scope
  | .ListComp _ _ sc _ => sc
  | _ => default
def sxRel (sc base : Scope) : Scope := { sc with names := sc.names.map fun (n, k) => if (k == .free && base.kind == .function && base.names.lookup n == some .cell) then (n, .cell) else (n, k) }
theorem ftake {α : Type} {c : α → Bool} {xs : List α} {m : Nat} {x : α} (h : xs[m]? = some x) : (xs.take (m + 1)).filter c = (xs.take m).filter c ++ if c x = true then [x] else [] := by
  rw [List.take_add_one, h]
  show ((xs.take m) ++ [x]).filter c = _
  rw [List.filter_append, List.filter_cons, List.filter_nil]
end Cn
namespace Cn
open PySem PySem.Spec PyProof.Rows L2 Ck
section
variable {P : Program} {w : World} {K : PySem.W.Frag} {mg : Str → Option Value} {base : Heap} {C : Addr}
/-- what a place's answer comes to, by the law -/
def spLCome {α : Type} (P : Program) (w : World) (K : PySem.W.Frag) (mg : Str → Option Value) (base : Heap) (D : Dom α) : Sp := fun vs H Q _ => ∃ (r d g : Addr) (q : Nat) (fo : Fo) (am : Nat → α) (ad : α → α → α) (n m : Nat), vs = [.ref r, .ref d, .ref g, vn q] ∧ TolR H r fo ∧ FoOk fo ∧ AmsAt D H d am fo.be n ∧ AddG P w K mg base D g ad ∧ q < fo.ps.length ∧ (∀ p, D.sz (am p) ≤ m) ∧ m ≤ 1000 ∧
  ∀ v H', Same H H' → D.opt H' v (togG ad (((road fo.ps q).filter fun p => decide (p ∈ fo.be)).map am)) → Q v H'
def nLCome : List Str := ["_law_spec_here", "_law_amounts", "_law_add", "_law_place", "_law_one"]
theorem scLCome : FnScope nLCome ["_law_spec_here", "_law_amounts", "_law_add", "_law_place"] (defScope sLCome) := ⟨rfl, rfl, rfl, by decide +kernel, rfl, by decide +kernel, by decide +kernel⟩
theorem dLCome {α : Type} (D : Dom α) (B : Defs K mg C) : Def P w K mg base "_law_come" 3 ["_law_spec_here", "_law_amounts", "_law_add", "_law_place"] (spLCome P w K mg base D) := by
  obtain ⟨fW, fdW, GW, gW, kW, bW⟩ := dLWay (P := P) (w := w) (base := base) B
  obtain ⟨fT, fdT, GT, gT, kT, bT⟩ := dLTog (P := P) (w := w) (base := base) D B
  have N := B.N
  have nd := scLCome.nd
  refine def_of B.lcm fun f fd F => ?_
  refine F.ok scLCome (fun vs H Q E h => ?_) (fun cdv A outer s H vs Q E hr h => ?_)
  · obtain ⟨r, d, g, q, fo, am, ad, n, m, rfl, _⟩ := h
    rfl
  · obtain ⟨r, d, g, q, fo, am, ad, n, m, rfl, hT, ok, ⟨kvA, hA, hAl, hAv⟩, hAd, hq, hm, hm1, k⟩ := h
    have hu : (A.deeper (envOfC "_law_come" (defScope sLCome) s.heap.objs.size f cdv)).units + 1 < cLine := by have := hr.units; omega
    refine ⟨_, pss_one (ps_ret (pe_call GT hr (by rfl) gT kT bT .nil pass0 (pa_cons (pv 2) (pa_cons (pe_lc (own := [("_law_one", 4)]) (g := gName 4) (tt := tTest (tOp (rIn K false) (tVar 4) (tOp (rIxT K) (tVar 0) (tC (.int 1))))) (te := tDGet (tVar 1) (tVar 4)) rfl nd (pi_list (pe_call GW (hr.mono (by decide)) (by rfl) gW kW bW .nil pass0 (pa_cons (pe_ix ix_tup (pv 0) pe_int (fun _ _ => rfl)) (pa_cons (pv 3) pa_nil))))
        (blkOk_by (N := nLCome) (sc := defScope sLCome) (by decide +kernel)) (fun _ _ _ _ _ => pg_name (i := 4) nd rfl (Or.inl rfl)) (fun _ _ _ _ _ => pts_one (pt_cmpR op_in_seq (pv 4) (pe_ix ix_tup (pv 0) pe_int (fun _ _ => rfl)) (by rfl))) (fun _ _ _ _ _ => pe_dget hu (pv 1) (pv 4) (fun _ _ => rfl))) pa_nil)))), ?_⟩
    obtain ⟨ap, ab, aa, o0, o1, o2, o3⟩ := id hT
    have rl : (road fo.ps q).length ≤ 60 := by
      have := road_len ok.ps q hq
      have := ok.l1
      omega
    refine ⟨_, rfl, _, rfl, r, _, (0 : Int), _, rfl, rfl, .inl (.inl o0), rfl, _, rfl, ap, fo.ps, q, rfl, o1, ok.ps, ok.l1, hq, fun rt H1 s1 hrt => ⟨rt, rfl, ⟨_, .inl (.inl hrt)⟩, fun L nL => ?_⟩⟩
    refine anyWalk (walk_list (xs := (road fo.ps q).map vn)) (fun j J => Same H1 J ∧ ∃ ws, J L = some (.lst ws) ∧ ws.length ≤ j ∧ Paired (D.rep J) ws ((((road fo.ps q).take j).filter fun p => decide (p ∈ fo.be)).map am)) ⟨smUpd nL, [], upd_same, Nat.le_refl _, .nil⟩ (fun j J _ z => .inl (.inl (z.1 _ _ hrt))) ?_ ?_
    · rintro j v0 J J' hj ⟨sj, ws, hL, wl, hW⟩ ⟨rfl, hv0⟩
      obtain ⟨p, hp, rfl⟩ := vn_get hv0
      rw [List.length_map] at hj
      have sJ := s1.trans sj
      have et : (road fo.ps q).take (j + 1) = (road fo.ps q).take j ++ [p] := by rw [List.take_add_one, hp]; rfl
      refine ⟨rfl, _, rfl, _, rfl, r, _, (1 : Int), _, rfl, rfl, .inl (.inl (sJ _ _ o0)), rfl, ab, _, rfl, .inr (tnL (sJ _ _ o2)), rfl, vn_flat _, _, rfl, ?_⟩
      by_cases c : p ∈ fo.be
      · refine ifT (by show inV (vn p) (fo.be.map vn) = true; rw [inV_vn]; exact decide_eq_true c) ?_
        obtain ⟨v, hv1, hv2⟩ := hAv p c
        refine ⟨_, rfl, _, rfl, d, v, rfl, .inl ⟨kvA, .inl (p : Int), .inl (sJ _ _ hA), rfl, hv1.symm⟩, ws, hL, small1000 (by omega), smOver nL sj, ws ++ [v], upd_same, by rw [List.length_append]; show ws.length + 1 ≤ j + 1; omega, ?_⟩
        rw [et, List.filter_append, List.map_append, List.filter_cons_of_pos (by simpa using c)]
        exact paired_snoc (D.allUpd hL (fun xs z => by cases z) hW) (D.upd hL (fun xs z => by cases z) (D.same sJ hv2))
      · refine ifF (by show ¬ inV (vn p) (fo.be.map vn) = true; rw [inV_vn]; simpa using c) ?_
        refine ⟨sj, ws, hL, Nat.le_succ_of_le wl, ?_⟩
        rw [et, List.filter_append, List.filter_cons_of_neg (by simpa using c)]
        show Paired (D.rep J') ws ((_ ++ []).map am)
        rw [List.append_nil]
        exact hW
    rintro J ⟨sj, ws, hL, wl, hW⟩
    rw [List.length_map, List.take_length] at hW
    have fl : (((road fo.ps q).filter fun p => decide (p ∈ fo.be)).map am).length ≤ 60 := by
      rw [List.length_map]
      exact Nat.le_trans (List.length_filter_le _ _) rl
    refine ⟨g, L, ad, ws, _, m, rfl, hAd, hL, hW, fun z hz => ?_, by omega, ?_, fun v H' s' hv' => k v H' (s1.trans (sj.trans s')) hv'⟩
    · obtain ⟨p, hp, rfl⟩ := List.mem_map.mp hz
      exact hm p
    · have : (((road fo.ps q).filter fun p => decide (p ∈ fo.be)).map am).length * m ≤ 60 * 1000 := Nat.mul_le_mul fl hm1
      omega
end
end Cn
namespace Cn
open PySem PySem.Spec PyProof.Rows L2 Ck
section
variable {P : Program} {w : World} {K : PySem.W.Frag} {mg : Str → Option Value} {base : Heap} {C : Addr}
/-- how many notes a place reads, by the law -/
def spLReads : Sp := fun vs H Q _ => ∃ (b : Addr) (q : Nat) (us : List V) (nt : List (Nat × (List Nat × List Nat))), vs = [.ref b, vn q] ∧ H b = some (.lst us) ∧ Paired (RowAt H) us nt ∧ nt.length ≤ 60 ∧ ∀ H', Same H H' → Q (vn (nt.filter fun e => decide (q ∈ e.2.2)).length) H'
def nLReads : List Str := ["_law_rows_here", "_law_place", "_law_one"]
theorem scLReads : FnScope nLReads ["_law_rows_here", "_law_place"] (defScope sLReads) := ⟨rfl, rfl, rfl, by decide +kernel, rfl, by decide +kernel, by decide +kernel⟩
theorem dLReads (B : Defs K mg C) : Def P w K mg base "_law_reads" 1 ["_law_rows_here", "_law_place"] spLReads := by
  have N := B.N
  have nd := scLReads.nd
  refine def_of B.lrd2 fun f fd F => ?_
  refine F.ok scLReads (fun vs H Q E h => ?_) (fun cdv A outer s H vs Q E hr h => ?_)
  · obtain ⟨b, q, us, nt, rfl, _⟩ := h
    rfl
  · obtain ⟨b, q, us, nt, rfl, hb, hP, hl, k⟩ := h
    refine ⟨_, pss_one (ps_ret (pe_callB call_len_seq (by rfl) N.is.len PySem.boot_len (pa_cons (pe_lc (own := [("_law_one", 2)]) (g := gName 2) (tt := tTest (tOp (rIn K false) (tVar 1) (tOp (rIxT K) (tVar 2) (tC (.int 2))))) rfl nd (pi_list (pv 0))
        (blkOk_by (N := nLReads) (sc := defScope sLReads) (by decide +kernel)) (fun _ _ _ _ _ => pg_name (i := 2) nd rfl (Or.inl rfl)) (fun _ _ _ _ _ => pts_one (pt_cmpR op_in_seq (pv 1) (pe_ix (r := rIxT K) ix_tup (pv 2) pe_int (fun _ _ => rfl)) (by rfl))) (fun _ _ _ _ _ => pv 2)) pa_nil))), ?_⟩
    have ul := Paired.length hP
    refine ⟨_, rfl, b, rfl, ⟨_, .inl (.inl hb)⟩, fun D nD => ?_⟩
    refine anyWalk (walk_list (xs := us)) (fun j J => Same H J ∧ ∃ zs : List V, J D = some (.lst zs) ∧ zs.length = ((nt.take j).filter fun e => decide (q ∈ e.2.2)).length ∧ zs.length ≤ j) ⟨smUpd nD, [], upd_same, rfl, Nat.le_refl _⟩ (fun j J _ z => .inl (.inl (z.1 _ _ hb))) ?_ ?_
    · rintro j x J J' hj ⟨sj, zs, hD, hz, hzl⟩ ⟨rfl, hx⟩
      obtain ⟨e, he, t, x1, y1, rfl, ht, hx1, hy1⟩ := pairedGetQ hP hx
      refine ⟨rfl, _, rfl, _, rfl, t, _, (2 : Int), _, rfl, rfl, .inl (.inl (sj _ _ ht)), rfl, y1, _, rfl, .inr (tnL (sj _ _ hy1)), rfl, vn_flat _, _, rfl, ?_⟩
      have ft := ftake (c := fun e : Nat × (List Nat × List Nat) => decide (q ∈ e.2.2)) he
      by_cases c : q ∈ e.2.2
      · refine ifT (by show inV (vn q) (e.2.2.map vn) = true; rw [inV_vn]; exact decide_eq_true c) ?_
        refine ⟨_, rfl, zs, hD, small1000 (by omega), smOver nD sj, zs ++ [.ref t], upd_same, ?_, by rw [List.length_append]; show zs.length + 1 ≤ j + 1; omega⟩
        rw [ft, if_pos (decide_eq_true c), List.length_append, List.length_append, hz]
        rfl
      · refine ifF (by show ¬ inV (vn q) (e.2.2.map vn) = true; rw [inV_vn]; simpa using c) ?_
        refine ⟨sj, zs, hD, ?_, Nat.le_succ_of_le hzl⟩
        rw [ft, if_neg (by simpa using c), List.append_nil]
        exact hz
    rintro J ⟨sj, zs, hD, hz, hzl⟩
    rw [ul, List.take_length] at hz
    refine ⟨D, zs, rfl, .inl (.inl (.inl hD)), ?_⟩
    rw [hz]
    exact k J sj
/-- how many notes some places touch, by the law -/
def spLTouch : Sp := fun vs H Q _ => ∃ (b c : Addr) (us : List V) (nt : List (Nat × (List Nat × List Nat))) (ps : List Nat), vs = [.ref b, .ref c] ∧ H b = some (.lst us) ∧ Paired (RowAt H) us nt ∧ nt.length ≤ 60 ∧ H c = some (.lst (ps.map vn)) ∧ ps.length ≤ 500 ∧ ∀ H', Same H H' → Q (vn (nt.filter fun e => ps.any fun p => decide (p ∈ e.2.1)).length) H'
def nLTouch : List Str := ["_law_rows_here", "_law_places", "_law_one", "_law_place"]
theorem scLTouch : FnScope nLTouch ["_law_rows_here", "_law_places"] (defScope sLTouch) := ⟨rfl, rfl, rfl, by decide +kernel, rfl, by decide +kernel, by decide +kernel⟩
def scTo1 : Scope := sxRel (sxScope (sxArg (sxRhs ((defBody sLTouch).getD 0 default)))) (defScope sLTouch)
theorem dLTouch (B : Defs K mg C) : Def P w K mg base "_law_touches" 1 ["_law_rows_here", "_law_places"] spLTouch := by
  have N := B.N
  have mA := B.zAny
  have nd := scLTouch.nd
  refine def_of B.lth fun f fd F => ?_
  refine F.ok scLTouch (fun vs H Q E h => ?_) (fun cdv A outer s H vs Q E hr h => ?_)
  · obtain ⟨b, c, us, nt, ps, rfl, _⟩ := h
    rfl
  · obtain ⟨b, c, us, nt, ps, rfl, hb, hP, hl, hc, hpl, k⟩ := h
    refine ⟨_, pss_one (ps_ret (pe_callB call_len_seq (by rfl) N.is.len PySem.boot_len (pa_cons (pe_lc (own := [("_law_one", 2)]) (g := gName 2) (tt := tTest (tCB (rAny K) (tCons (tLc (iList K (tVar 1)) (gName 3) tYes (tOp (rIn K false) (tVar 3) (tOp (rIxT K) (tVar 2) (tC (.int 1)))) [3]) tNil))) (te := tVar 2) rfl nd (pi_list (pv 0))
        (blkOk_by (N := nLTouch) (sc := defScope sLTouch) (by decide +kernel)) (fun _ _ _ _ _ => pg_name (i := 2) nd rfl (Or.inr rfl)) (fun _ _ _ _ _ => pts_one (pt_val (pe_callB (r := rAny K) (cr_any rfl) (by rfl) mA (by decide +kernel) (pa_cons (pe_lc (own := [("_law_place", 3)]) (g := gName 3) (tt := tYes) (te := tOp (rIn K false) (tVar 3) (tOp (rIxT K) (tVar 2) (tC (.int 1)))) rfl nd (pi_list (pv 1))
          (blkOk_by (N := nLTouch) (sc := scTo1) (by decide +kernel)) (fun _ _ _ _ _ => pg_name (i := 3) nd rfl (Or.inl rfl)) (fun _ _ _ _ _ => pts_nil)
          (fun _ _ _ _ _ => pe_cmpR (r := rIn K false) op_in_seq (pv 3) (pe_ix (r := rIxT K) ix_tup (pv 2) pe_int (fun _ _ => rfl)) (by rfl))) pa_nil))))
        (fun _ _ _ _ _ => pv 2)) pa_nil))), ?_⟩
    have ul := Paired.length hP
    refine ⟨_, rfl, b, rfl, ⟨_, .inl (.inl hb)⟩, fun D nD => ?_⟩
    refine anyWalk (walk_list (xs := us)) (fun j J => Same H J ∧ ∃ zs : List V, J D = some (.lst zs) ∧ zs.length = ((nt.take j).filter fun e => ps.any fun p => decide (p ∈ e.2.1)).length ∧ zs.length ≤ j) ⟨smUpd nD, [], upd_same, rfl, Nat.le_refl _⟩ (fun j J _ z => .inl (.inl (z.1 _ _ hb))) ?_ ?_
    · rintro j x J J' hj ⟨sj, zs, hD, hz, hzl⟩ ⟨rfl, hx⟩
      obtain ⟨e, he, t, x1, y1, rfl, ht, hx1, hy1⟩ := pairedGetQ hP hx
      have hcJ := sj _ _ hc
      refine ⟨rfl, _, rfl, c, rfl, ⟨_, .inl (.inl hcJ)⟩, fun D3 nD3 => ?_⟩
      refine anyWalk (walk_list (xs := ps.map vn)) (fun i G => Same J' G ∧ G D3 = some (.lst (((ps.take i).map fun p => decide (p ∈ e.2.1)).map V.bl))) ⟨smUpd nD3, upd_same⟩ (fun i G _ z => .inl (.inl (z.1 _ _ hcJ))) ?_ ?_
      · rintro i y G G' hi ⟨si, hD3⟩ ⟨rfl, hy⟩
        obtain ⟨p, hp, rfl⟩ := vn_get hy
        have s2 := sj.trans si
        rw [List.length_map] at hi
        refine ⟨rfl, _, rfl, _, rfl, t, _, (1 : Int), _, rfl, rfl, .inl (.inl (s2 _ _ ht)), rfl, x1, _, rfl, .inr (tnL (s2 _ _ hx1)), rfl, vn_flat _, ?_⟩
        refine ⟨_, hD3, small1000 (by rw [List.length_map, List.length_map, List.length_take]; omega), smOver nD3 si, ?_⟩
        rw [upd_same, List.take_add_one, hp, List.map_append, List.map_append]
        show some (HO.lst (_ ++ [V.bl (inV (vn p) (e.2.1.map vn))])) = some (HO.lst (_ ++ [V.bl (decide (p ∈ e.2.1))]))
        rw [inV_vn]
      rintro G ⟨si, hD3⟩
      rw [List.length_map, List.take_length] at hD3
      refine ⟨D3, _, rfl, .inl (.inl hD3), ?_⟩
      have ea : (ps.map fun p => decide (p ∈ e.2.1)).any id = ps.any fun p => decide (p ∈ e.2.1) := by rw [List.any_map]; rfl
      rw [ea]
      refine ⟨_, rfl, ?_⟩
      have hDG := si _ _ hD
      have ft := ftake (c := fun e : Nat × (List Nat × List Nat) => ps.any fun p => decide (p ∈ e.2.1)) he
      by_cases cc : (ps.any fun p => decide (p ∈ e.2.1)) = true
      · refine ifT cc ?_
        refine ⟨_, rfl, zs, hDG, small1000 (by omega), smOver nD (sj.trans si), zs ++ [.ref t], upd_same, ?_, by rw [List.length_append]; show zs.length + 1 ≤ j + 1; omega⟩
        rw [ft, if_pos cc, List.length_append, List.length_append, hz]
        rfl
      · refine ifF cc ?_
        refine ⟨sj.trans si, zs, hDG, ?_, Nat.le_succ_of_le hzl⟩
        rw [ft, if_neg cc, List.append_nil]
        exact hz
    rintro J ⟨sj, zs, hD, hz, hzl⟩
    rw [ul, List.take_length] at hz
    refine ⟨D, zs, rfl, .inl (.inl (.inl hD)), ?_⟩
    rw [hz]
    exact k J sj
end
end Cn
namespace Cn
open PySem PySem.Spec PyProof.Rows L2 Ck
/-- a change of a place's amount -/
def ChgAt {α : Type} (D : Dom α) (H : Hp) (v : V) (c : Nat × α) : Prop := ∃ t x, v = .ref t ∧ H t = some (.tup [vn c.1, x]) ∧ D.rep H x c.2
theorem chgTK {α : Type} {D : Dom α} {H H' : Hp} (k : TK H H') {v : V} {c : Nat × α} (h : ChgAt D H v c) : ChgAt D H' v c := by
  obtain ⟨t, x, h1, h2, h3⟩ := h
  exact ⟨t, x, h1, k _ _ h2, D.keep k h3⟩
section
variable {P : Program} {w : World} {K : PySem.W.Frag} {mg : Str → Option Value} {base : Heap} {C : Addr}
/-- changes that may be -/
def spIsChg {α : Type} (C : Addr) (D : Dom α) : Sp := fun vs H Q _ => ∃ (a b : Addr) (fo : Fo) (us : List V) (cs : List (Nat × α)), vs = [.ref a, .ref b] ∧ FoAt C H a fo ∧ SeqH H b us ∧ Paired (ChgAt D H) us cs ∧ (∀ c ∈ cs, c.1 ∈ fo.be) ∧ (cs.map fun c => c.1).Nodup ∧ cs.length ≤ 60 ∧ ∀ H', Same H H' → Q (.bl true) H'
def nIsChg : List Str := ["forest", "thing", "changed", "item"]
theorem scIsChg : FnScope nIsChg ["forest", "thing"] (defScope sIsChg) := ⟨rfl, rfl, rfl, by decide +kernel, rfl, by decide +kernel, by decide +kernel⟩
theorem dIsChg {α : Type} (D : Dom α) (B : Defs K mg C) : Def P w K mg base "is_changes" 3 ["forest", "thing"] (spIsChg C D) := by
  obtain ⟨fB', fdB, GB, gB, kB, bB⟩ := dIsBear (P := P) (w := w) (base := base) B
  obtain ⟨tm, mN⟩ := B.mCh
  have N := B.N
  have nd := scIsChg.nd
  refine def_of B.ich fun f fd F => ?_
  refine F.ok scIsChg (fun vs H Q E h => ?_) (fun cdv A outer s H vs Q E hr h => ?_)
  · obtain ⟨a, b, fo, us, cs, rfl, _⟩ := h
    rfl
  · obtain ⟨a, b, fo, us, cs, rfl, hF, hb, hP, hp, ndc, hl, k⟩ := h
    have hu : (A.deeper (envOfC "is_changes" (defScope sIsChg) s.heap.objs.size f cdv)).units + 1 < cLine := by have := hr.units; omega
    refine ⟨_, pss_cons (ps_if (PW.pt (pw_or (pt_not (pt_val (pe_callB call_isiT (by rfl) N.is.inst (by decide +kernel) (pa_cons (pv 1) (pa_cons (pe_tup (pa_cons (pe_bltn (v := .ty "list") (by rfl) N.is.lst (by decide +kernel) rfl) (pa_cons (pe_bltn (v := .ty "tuple") (by rfl) N.is.tup (by decide +kernel) rfl) pa_nil))) pa_nil)))))
          (pw_or1 (pt_cmpR op_gt (pe_callB call_len_seq (by rfl) N.is.len PySem.boot_len (pa_cons (pv 1) pa_nil)) (pe_glob (v := .int 60) (by rfl) mN ⟨_, rfl⟩) (nomark _))))) (pss_one ps_never) pss_nil)
      (pss_cons (ps_set (i := 2) nd rfl (Or.inl rfl) pe_dnewK)
      (pss_cons (ps_for PassesOwn.never rfl (show PI _ _ _ (iSeq K 1) from PI.orr (pi_list (pv 1)) (pi_tup (pv 1))) (pg_name (i := 3) nd rfl (Or.inl rfl))
        (pss_cons (ps_if (PW.pt (pw_or (pt_not (pt_val (pe_callB call_isi (by rfl) N.is.inst (by decide +kernel) (pa_cons (pv 3) (pa_cons (pe_bltn (v := .ty "tuple") (by rfl) N.is.tup (by decide +kernel) rfl) pa_nil))))) (pw_or1 (pt_cmpR op_ne (pe_callB call_len_seq (by rfl) N.is.len PySem.boot_len (pa_cons (pv 3) pa_nil)) pe_int (nomark _))))) (pss_one ps_never) pss_nil)
        (pss_cons (ps_if (PW.pt (pw_or (pt_not (pt_val (pe_call GB hr (by rfl) gB kB bB .nil pass0 (pa_cons (pv 0) (pa_cons (pe_ix ix_tup (pv 3) pe_int (fun _ _ => rfl)) pa_nil))))) (pw_or1 (pt_cmp (pc_din hu (pe_ix ix_tup (pv 3) pe_int (fun _ _ => rfl)) (pv 2)))))) (pss_one ps_never) pss_nil)
        (pss_one (ps_dput hu (pv 2) (pe_ix ix_tup (pv 3) pe_int (fun _ _ => rfl)) pe_bl rfl)))))
      (pss_one (ps_ret pe_bl)))), ?_⟩
    have ul : us.length = cs.length := Paired.length hP
    refine ⟨_, rfl, by show 2 ≤ sizeLine; decide, fun t1 m1 => ?_⟩
    have S1 := smUpd (o := .tup [.ty "list", .ty "tuple"]) m1
    have ht1 : upd H t1 (.tup [.ty "list", .ty "tuple"]) t1 = some (.tup [.ty "list", .ty "tuple"]) := upd_same
    generalize upd H t1 (.tup [.ty "list", .ty "tuple"]) = H1 at S1 ht1 ⊢
    obtain ⟨ty, hty, kty⟩ := seqTyB (K := K) (seqSame S1 hb)
    refine ⟨_, t1, _, _, _, true, rfl, ht1, .cons (.ty _) (.cons (.ty _) .nil), hty, kty, true, rfl, ?_⟩
    refine ifF (by decide) ?_
    refine ⟨_, rfl, b, _, rfl, seqSq (seqSame S1 hb), _, _, rfl, rfl, _, rfl, ?_⟩
    refine ifF (by rw [decide_eq_true_iff]; omega) ?_
    refine fun DD nD => ?_
    have sD : Same H1 (upd H1 DD (.dK [])) := smUpd nD
    have hD0 : upd H1 DD (.dK []) DD = some (.dK []) := upd_same
    generalize upd H1 DD (.dK []) = H2 at sD hD0 ⊢
    refine seqWalk rfl (seqSame S1 hb) sD fun J wk => ?_
    refine for_it wk (fun i σ G => Same H1 G ∧ (∃ t3 : Option V, σ = [some (.ref a), some (.ref b), some (.ref DD), t3]) ∧ ∃ kvs : List (L2.Key × V), G DD = some (.dK kvs) ∧ kvs.length ≤ i ∧ ∀ p : Nat, p ∉ (cs.take i).map (fun c => c.1) → valV kvs (.inl (p : Int)) = none) ⟨sD, ⟨_, rfl⟩, [], hD0, Nat.le_refl _, fun p _ => rfl⟩ (fun i σ G _ z => z.1) ?_ ?_
    · rintro i x σ G G2 hi ⟨sm, ⟨t3, rfl⟩, kvs, hD, hkl, hkv⟩ ⟨rfl, hx⟩
      obtain ⟨c, hc, t, y, rfl, ht, _⟩ := pairedGetQ hP hx
      have s02 := S1.trans sm
      have htG := s02 _ _ ht
      have tl : SqT K G2 t [vn c.1, y] := .inl (.inl htG)
      have hcm := List.mem_of_getElem? hc
      refine ⟨_, rfl, _, .ty "tuple", _, _, true, rfl, .ty _, .base (.tup htG), kit_ty (by decide +kernel), true, rfl, ?_⟩
      refine ifF (by decide) ?_
      refine ⟨_, rfl, t, _, rfl, .inr tl, rfl, _, rfl, ?_⟩
      refine ifF (by show ¬ (!decide (V.int ((2 : Nat) : Int) = V.int 2)) = true; decide) ?_
      refine ⟨_, rfl, _, rfl, t, _, (0 : Int), _, rfl, rfl, tl, rfl, a, fo, c.1, rfl, foAt_same s02 hF, hp c hcm, true, rfl, ?_⟩
      refine ifF (by decide) ?_
      have hno : valV kvs (.inl (c.1 : Int)) = none := by
        refine hkv c.1 fun z => ?_
        obtain ⟨c2, h2, e2⟩ := List.mem_map.mp z
        obtain ⟨j, hj⟩ := List.getElem?_of_mem h2
        have jl : j < i := by
          have := (List.getElem?_eq_some_iff.mp hj).1
          rw [List.length_take] at this
          omega
        rw [List.getElem?_take_of_lt jl] at hj
        have q1 : (cs.map fun c => c.1)[j]? = some c.1 := by rw [List.getElem?_map, hj]; exact congrArg some e2
        have q2 : (cs.map fun c => c.1)[i]? = some c.1 := by rw [List.getElem?_map, hc]; rfl
        have il := (List.getElem?_eq_some_iff.mp q2).1
        have := (List.getElem?_inj (by omega) ndc).mp (q1.trans q2.symm)
        omega
      refine ⟨_, rfl, t, _, (0 : Int), _, rfl, rfl, tl, rfl, _, rfl, DD, none, rfl, .inl ⟨kvs, .inl (c.1 : Int), .inl hD, rfl, hno.symm⟩, _, rfl, ?_⟩
      refine ifF (by decide) ?_
      refine ⟨_, rfl, _, rfl, t, _, (0 : Int), _, rfl, rfl, tl, rfl, DD, _, rfl, DPut.k (k := .inl (c.1 : Int)) hD (bigLine (by omega)), smOver nD sm, ⟨_, rfl⟩, _, upd_same, Nat.le_trans putKLen (by omega), fun p hpn => ?_⟩
      rw [List.take_add_one, hc, List.map_append] at hpn
      rw [valV_put, if_neg (fun z => hpn (List.mem_append.mpr (.inr (by injection z with z; show p ∈ [c.1]; rw [List.mem_singleton]; omega))))]
      exact hkv p fun z => hpn (List.mem_append.mpr (.inl z))
    · rintro σ G ⟨sm, _, _⟩
      exact k G (S1.trans sm)
end
end Cn
namespace Cn
open PySem PySem.Spec PyProof.Rows L2 Ck
theorem seqIxN {d : Int} {n : Nat} (h0 : 0 ≤ d) (h1 : d < n) : seqIndex? d n = some d.toNat := seqIndex_of h0 h1
theorem mapErase {α β : Type} (f : α → β) : ∀ (l : List α) (k : Nat), (l.map f).eraseIdx k = (l.eraseIdx k).map f
  | [], _ => rfl
  | _ :: _, 0 => rfl
  | x :: l, k + 1 => by
    show f x :: (l.map f).eraseIdx k = f x :: (l.eraseIdx k).map f
    rw [mapErase f l k]
theorem erase_mem {α : Type} {l : List α} {k : Nat} {y : α} (nd : l.Nodup) (h : l[k]? = some y) : y ∉ l.eraseIdx k ∧ (∀ z ∈ l.eraseIdx k, z ∈ l) ∧ (l.eraseIdx k).Nodup := by
  refine ⟨fun z => ?_, fun z hz => List.mem_of_mem_eraseIdx hz, nd.sublist (List.eraseIdx_sublist l k)⟩
  obtain ⟨j, hj⟩ := List.getElem?_of_mem z
  rw [List.getElem?_eraseIdx] at hj
  have kl := (List.getElem?_eq_some_iff.mp h).1
  split at hj
  · have := (List.getElem?_inj (by omega) nd).mp (hj.trans h.symm)
    omega
  · have jl := (List.getElem?_eq_some_iff.mp hj).1
    have := (List.getElem?_inj jl nd).mp (hj.trans h.symm)
    omega
section
variable {P : Program} {w : World} {K : PySem.W.Frag} {mg : Str → Option Value} {base : Heap} {C : Addr}
/-- drawn changes: texts -/
def spLTxtC : Sp := fun vs H Q _ => ∃ (p : Addr) (S : Addr → Prop) (r : Addr) (fo : Fo), vs = [.ref p, .ref r] ∧ HandIn H p S ∧ TolR H r fo ∧ FoOk fo ∧
  ∀ (b : Addr) us cs H', HandIn H' p S → Kept p H H' → H b = none → SeqH H' b us → Paired (ChgAt dW H') us cs → (∀ c ∈ cs, c.1 ∈ fo.be ∧ c.2.length ≤ 4) → (cs.map fun c => c.1).Nodup → cs.length ≤ 60 → Q (.ref b) H'
def nLTxtC : List Str := ["_law_pool_here", "_law_spec_here", "_law_left", "_law_found", "_law_turn", "_law_place"]
theorem scLTxtC : FnScope nLTxtC ["_law_pool_here", "_law_spec_here"] (defScope sLTxtC) := ⟨rfl, rfl, rfl, by decide +kernel, rfl, by decide +kernel, by decide +kernel⟩
theorem dLTxtC (B : Defs K mg C) : Def P w K mg base "_law_text_changes" 3 ["_law_pool_here", "_law_spec_here"] spLTxtC := by
  obtain ⟨fD, fdD, GD, gD, kD, bD⟩ := dDraw (P := P) (w := w) (base := base) B
  obtain ⟨fW, fdW, GW, gW, kW, bW⟩ := dLWord (P := P) (w := w) (base := base) B
  have N := B.N
  have nd := scLTxtC.nd
  refine def_of B.ltc fun f fd F => ?_
  refine F.ok scLTxtC (fun vs H Q E h => ?_) (fun cdv A outer s H vs Q E hr h => ?_)
  · obtain ⟨p, S, r, fo, rfl, _⟩ := h
    rfl
  · obtain ⟨p, S, r, fo, rfl, hI, hT, ok, k⟩ := h
    have r1 : Room 1 (A.deeper (envOfC "_law_text_changes" (defScope sLTxtC) s.heap.objs.size f cdv)) := Room.mono hr (by decide)
    refine ⟨_, pss_cons (ps_set (i := 2) nd rfl (Or.inl rfl) (pe_callTy call_list_of (by rfl) N.is.lst (by decide +kernel) (pa_cons (pe_ix ix_tup (pv 1) pe_int (fun _ _ => rfl)) pa_nil)))
      (pss_cons (ps_set (i := 3) nd rfl (Or.inl rfl) (pe_lst pa_nil))
      (pss_cons (ps_for PassesOwn.never rfl (pi_range1 (by rfl) N.range (pa_cons (pe_call GD r1 (by rfl) gD kD bD .nil pass0 (pa_cons (pv 0) (pa_cons (pe_op op_add (pe_callB call_len_seq (by rfl) N.is.len PySem.boot_len (pa_cons (pv 2) pa_nil)) pe_int) pa_nil))) pa_nil)) (pg_name (i := 4) nd rfl (Or.inl rfl))
        (pss_cons (ps_set (i := 5) nd rfl (Or.inl rfl) (pe_bm PySem.F.plainAttrs_list PySem.F.slot_list_pop PySem.F.type_list_pop mt_popAt (pv 2) (pa_cons (pe_call GD r1 (by rfl) gD kD bD .nil pass0 (pa_cons (pv 0) (pa_cons (pe_callB call_len_seq (by rfl) N.is.len PySem.boot_len (pa_cons (pv 2) pa_nil)) pa_nil))) pa_nil)))
        (pss_one (ps_expr (pe_bm PySem.F.plainAttrs_list PySem.F.slot_list_append PySem.F.type_list_append mt_append (pv 3) (pa_cons (pe_tup (pa_cons (pv 5) (pa_cons (pe_call GW (hr.mono (by decide)) (by rfl) gW kW bW .nil pass0 (pa_cons (pv 0) (pa_cons (pv 5) pa_nil))) pa_nil))) pa_nil))))))
      (pss_one (ps_ret (pe_ifExp (pt_cmpR op_eq (pe_call GD r1 (by rfl) gD kD bD .nil pass0 (pa_cons (pv 0) (pa_cons pe_int pa_nil))) pe_int (nomark _)) (pv 3) (pe_callTy call_tuple_of (by rfl) N.is.tup (by decide +kernel) (pa_cons (pv 3) pa_nil))))))), ?_⟩
    obtain ⟨ap, ab, aa, o0, o1, o2, o3⟩ := id hT
    have p60 := ok.l1
    have l60 : fo.be.length ≤ 60 := Nat.le_trans (lotLen ok.be ok.bl) p60
    have ndB : fo.be.Nodup := ok.be.imp fun h => Nat.ne_of_lt h
    refine ⟨_, rfl, r, _, (1 : Int), _, rfl, rfl, .inl (.inl o0), rfl, ab, _, rfl, .inr (tnL o2), fun L nL => ?_⟩
    have sL := smUpd (o := .lst (fo.be.map vn)) nL
    have hL0 : upd H L (.lst (fo.be.map vn)) L = some (.lst (fo.be.map vn)) := upd_same
    have hI1 := handIn_add (o := .lst (fo.be.map vn)) hI nL
    generalize upd H L (.lst (fo.be.map vn)) = H1 at sL hL0 hI1 ⊢
    refine ⟨by show 0 ≤ sizeLine; decide, fun W nW => ?_⟩
    have sW := smUpd (o := .lst []) nW
    have hW0 : upd H1 W (.lst []) W = some (.lst []) := upd_same
    have hI2 := handIn_add (o := .lst []) hI1 nW
    have hL1 := sW _ _ hL0
    have ne : L ≠ W := fun z => by rw [← z, hL0] at nW; cases nW
    have nWH := nBack sL nW
    generalize upd H1 W (.lst []) = H2 at sW hW0 hI2 hL1 ⊢
    have s2 := sL.trans sW
    have Lp := hand_ne hI nL
    have Wp := hand_ne hI nWH
    refine ⟨_, rfl, _, rfl, L, _, rfl, .inl (.inl (.inl hL1)), _, _, rfl, rfl, p, _, ((fo.be.map vn).length : Int) + 1, rfl, hI2, by omega, by rw [List.length_map]; omega, fun d H3 d0 d1 hI3 k3 => ⟨d, rfl, by rw [List.length_map] at d1; omega, by rw [List.length_map] at d1; omega, ?_⟩⟩
    rw [List.length_map] at d1
    refine for_range (lo := 0) (n := d.toNat) (fun i σ G => ∃ (ls : List Nat) (us : List V) (cs : List (Nat × List Nat)) (t4 t5 : Option V), σ = [some (.ref p), some (.ref r), some (.ref L), some (.ref W), t4, t5] ∧ HandIn G p (fun x => x = W ∨ x = L ∨ S x) ∧ Kept p H G ∧ G L = some (.lst (ls.map vn)) ∧ G W = some (.lst us) ∧ Paired (ChgAt dW G) us cs ∧ (∀ c ∈ cs, c.1 ∈ fo.be ∧ c.2.length ≤ 4) ∧ (∀ x ∈ ls, x ∈ fo.be) ∧ ls.Nodup ∧ (cs.map fun c => c.1).Nodup ∧ (∀ x ∈ ls, x ∉ cs.map fun c => c.1) ∧ ls.length + i = fo.be.length ∧ cs.length = i)
      ⟨fo.be, [], [], _, _, rfl, hI3, kept_trans (kept_same s2) k3, k3 _ _ Lp hL1, k3 _ _ Wp hW0, .nil, (fun c hc => nomatch hc), (fun x hx => hx), ndB, List.nodup_nil, (fun x _ hx => nomatch hx), rfl, rfl⟩ ?_ ?_
    · rintro i σ G hi ⟨ls, us, cs, t4, t5, rfl, hG, kG, hL, hW, hP, hc, hb, ndl, ndc, dis, hlen, hcl⟩
      have ul := Paired.length hP
      have lpos : 0 < ls.length := by omega
      refine ⟨_, rfl, .inl ⟨rfl, _, .inl (.inl hL)⟩, _, rfl, _, rfl, L, _, rfl, .inl (.inl (.inl hL)), p, _, ((ls.map vn).length : Int), rfl, hG, by rw [List.length_map]; omega, by rw [List.length_map]; omega, fun e G1 e0 e1 hG1 k1 => ?_⟩
      rw [List.length_map] at e1
      have hL1 := k1 _ _ Lp hL
      have hW1 := k1 _ _ Wp hW
      have hq : ls[e.toNat]? = some (ls[e.toNat]'(by omega)) := List.getElem?_eq_getElem (by omega)
      generalize ls[e.toNat]'(by omega) = q at hq
      refine ⟨L, ls.map vn, e, e.toNat, vn q, rfl, rfl, hL1, by omega, by omega, by rw [List.length_map]; exact seqIxN e0 e1, by rw [List.getElem?_map, hq]; rfl, ?_⟩
      have eE : (ls.map vn).eraseIdx e.toNat = (ls.eraseIdx e.toNat).map vn := mapErase vn ls e.toNat
      rw [eE]
      obtain ⟨m1, m2, m3⟩ := erase_mem ndl hq
      have hqb := hb q (List.mem_of_getElem? hq)
      have hql := ok.bl q hqb
      have hG2 := handIn_write (o := .lst ((ls.eraseIdx e.toNat).map vn)) hG1 (.inr (.inl rfl))
      have hP1 : Paired (ChgAt dW G1) us cs := Paired.mapP hP fun _ _ z => chgTK (fun t xs y => k1 _ _ (tup_ne hG y) y) z
      have hP2 : Paired (ChgAt dW (upd G1 L (.lst ((ls.eraseIdx e.toNat).map vn)))) us cs := Paired.mapP hP1 fun _ _ z => chgTK (tkUpd hL1 fun xs y => by cases y) z
      have hW2 : upd G1 L (.lst ((ls.eraseIdx e.toNat).map vn)) W = some (.lst us) := by rw [upd_ne ne.symm]; exact hW1
      have hL2 : upd G1 L (.lst ((ls.eraseIdx e.toNat).map vn)) L = some (.lst ((ls.eraseIdx e.toNat).map vn)) := upd_same
      have kG2 : Kept p H (upd G1 L (.lst ((ls.eraseIdx e.toNat).map vn))) := kept_over nL (kept_trans kG k1)
      generalize upd G1 L (.lst ((ls.eraseIdx e.toNat).map vn)) = G2 at hG2 hP2 hW2 hL2 kG2 ⊢
      refine ⟨_, rfl, .inl ⟨rfl, _, .inl (.inl hW2)⟩, _, rfl, _, rfl, _, rfl, p, _, q, rfl, hG2, by omega, fun l G3 hl4 hG3 k3 => ?_⟩
      refine ⟨by show 2 ≤ sizeLine; decide, fun T nT => ?_⟩
      have sT := smUpd (o := .tup [vn q, vS l]) nT
      have hTT : upd G3 T (.tup [vn q, vS l]) T = some (.tup [vn q, vS l]) := upd_same
      generalize upd G3 T (.tup [vn q, vS l]) = G4 at sT hTT ⊢
      have hW4 := sT _ _ (k3 _ _ Wp hW2)
      have hL4 := sT _ _ (k3 _ _ Lp hL2)
      have hP4 : Paired (ChgAt dW G4) us cs := Paired.mapP hP2 fun _ _ z => chgTK (fun t xs y => sT _ _ (k3 _ _ (tup_ne hG2 y) y)) z
      have tkW : TK G4 (upd G4 W (.lst (us ++ [.ref T]))) := tkUpd hW4 fun xs y => by cases y
      have el : (ls.eraseIdx e.toNat).length = ls.length - 1 := by rw [List.length_eraseIdx, if_pos (by omega)]
      refine ⟨W, us, .ref T, rfl, rfl, hW4, small1000 (by omega), ?_⟩
      refine ⟨ls.eraseIdx e.toNat, us ++ [.ref T], cs ++ [(q, l)], _, _, rfl, handIn_write (handIn_keep hG3 sT) (.inl rfl), kept_over nWH (kept_trans kG2 (kept_trans k3 (kept_same sT))), by rw [upd_ne ne]; exact hL4, upd_same, ?_, fun c hcm => ?_, fun x hx => hb x (m2 x hx), m3, ?_, fun x hx => ?_, by omega, by rw [List.length_append, hcl]; rfl⟩
      · exact paired_snoc (Paired.mapP hP4 fun _ _ z => chgTK tkW z) ⟨T, _, rfl, tkW _ _ hTT, rfl⟩
      · rcases List.mem_append.mp hcm with hcm | hcm
        · exact hc c hcm
        · rw [List.mem_singleton.mp hcm]; exact ⟨hqb, hl4⟩
      · rw [List.map_append, List.nodup_append]
        refine ⟨ndc, by simp, fun x hx y hy => ?_⟩
        have hy : y = q := by simpa using hy
        rw [hy]
        exact fun z => dis q (List.mem_of_getElem? hq) (by rw [← z]; exact hx)
      · rw [List.map_append]
        intro z
        rcases List.mem_append.mp z with z | z
        · exact dis x (m2 x hx) z
        · have z : x = q := by simpa using z
          exact m1 (by rw [← z]; exact hx)
    · rintro σ G ⟨ls, us, cs, t4, t5, rfl, hG, kG, hL, hW, hP, hc, hb, ndl, ndc, dis, hlen, hcl⟩
      refine ⟨_, rfl, p, _, 2, rfl, hG, by decide, by decide, fun e G1 _ _ hG1 k1 => ⟨rfl, _, rfl, ?_⟩⟩
      have hW1 := k1 _ _ Wp hW
      have hP1 : Paired (ChgAt dW G1) us cs := Paired.mapP hP fun _ _ z => chgTK (fun t xs y => k1 _ _ (tup_ne hG y) y) z
      have hG1' := handIn_less hG1 (S' := S) fun _ z => .inr (.inr z)
      refine ite2 (fun _ => ?_) (fun _ => ?_)
      · exact ⟨_, rfl, k W us cs _ hG1' (kept_trans kG k1) nWH (.inl hW1) hP1 hc ndc (by omega)⟩
      · refine ⟨_, rfl, W, _, rfl, .inl ⟨.inl (.inl hW1), fun q nq => ?_⟩⟩
        have sq := smUpd (o := .tup us) nq
        refine k q us cs _ (handIn_keep hG1' sq) (kept_trans (kept_trans kG k1) (kept_same sq)) ?_ (.inr upd_same) (Paired.mapP hP1 fun _ _ z => chgTK (tkSame sq) z) hc ndc (by omega)
        cases z : H q with
        | none => rfl
        | some o =>
          exfalso
          by_cases c : q = p
          · subst c
            obtain ⟨_, _, _, _, _, _, y, _⟩ := hG1.ob
            rw [y] at nq
            cases nq
          · rw [(kept_trans kG k1) q o c z] at nq
            cases nq
end
end Cn
namespace Cn
open PySem PySem.Spec PyProof.Rows L2 Ck
/-! the notes in their dict -/
theorem byPlaceAt {H : Hp} {kvs : List (L2.Key × V)} {nt : List (Nat × (List Nat × List Nat))} (h : ByPlace H kvs nt) {i : Nat} {k : L2.Key} {v : V} (hk : kvs[i]? = some (k, v)) : ∃ e, nt[i]? = some e ∧ k = .inl (e.1 : Int) ∧ NoteR H v e.2 := by
  obtain ⟨e, he, h1, h2⟩ := pairedGetQ h hk
  exact ⟨e, he, h1, h2⟩
/-- a dict that is locked, read and let go is the same -/
theorem lockSame {H HL H' : Hp} {d : Addr} {u u2 : HO} (hd : H d = some u) (hL : HL = upd H d u2) (s : Same HL H') : Same H (upd H' d u) := fun b o e => by
  by_cases c : b = d
  · rw [c, upd_same, ← hd, ← c]
    exact e
  · rw [upd_ne c]
    refine s _ _ ?_
    rw [hL, upd_ne c]
    exact e
def holdsA (nt : NtL) (ps : List Nat) : List Nat := (nt.filter fun e => ps.any fun p => decide (p ∈ e.2.1)).map fun e => e.1
theorem holdsA_one {nt : NtL} {p : Nat} : holdsA nt [p] = holdsN nt p := by
  unfold holdsA holdsN
  congr 2
  funext e
  simp
section
variable {P : Program} {w : World} {K : PySem.W.Frag} {mg : Str → Option Value} {base : Heap} {C : Addr}
/-- the notes that a place reads -/
def spReadAt : Sp := fun vs H Q _ => ∃ (d : Addr) (kvs : List (L2.Key × V)) (nt : NtL) (q : Nat), vs = [.ref d, vn q] ∧ H d = some (.dK kvs) ∧ ByPlace H kvs nt ∧ (nt.map fun e => e.1).Nodup ∧ nt.length ≤ 60 ∧
  ∀ r H', Same H H' → H r = none → H' r = some (.lst ((readsN nt q).map vn)) → Q (.ref r) H'
def nReadAt : List Str := ["notes", "place", "s"]
theorem scReadAt : FnScope nReadAt ["notes", "place"] (defScope sReadAt) := ⟨rfl, rfl, rfl, by decide +kernel, rfl, by decide +kernel, by decide +kernel⟩
theorem dReadAt (B : Defs K mg C) : Def P w K mg base "reading_at" 1 ["notes", "place"] spReadAt := by
  have N := B.N
  have nd := scReadAt.nd
  refine def_of B.rda fun f fd F => ?_
  refine F.ok scReadAt (fun vs H Q E h => ?_) (fun cdv A outer s H vs Q E hr h => ?_)
  · obtain ⟨d, kvs, nt, q, rfl, _⟩ := h
    rfl
  · obtain ⟨d, kvs, nt, q, rfl, hd, hB, ndN, h60, k⟩ := h
    have hu : (A.deeper (envOfC "reading_at" (defScope sReadAt) s.heap.objs.size f cdv)).units + 1 < cLine := by have := hr.units; omega
    refine ⟨_, pss_one (ps_ret (pe_lock (pe_lc (own := [("s", 2)]) (g := gName 2) (te := tVar 2) rfl nd (pi_keys (pv 0))
        (blkOk_by (N := nReadAt) (sc := defScope sReadAt) (by decide +kernel)) (fun _ _ _ _ _ => pg_name (i := 2) nd rfl (Or.inl rfl)) (fun _ _ _ _ _ => pts_one (pt_cmpR (r := rIn K false) op_in_seq (pv 1) (pe_ix (r := rIxT K) ix_tup (pe_dget hu (pv 0) (pv 2) (fun _ _ => rfl)) pe_int (fun _ _ => rfl)) (by rfl)))
        (fun _ _ _ _ _ => pv 2)))), ?_⟩
    refine ⟨d, _, hd, trivial, fun od => ?_⟩
    have hL : upd H d (.frz od (.dK kvs)) d = some (.frz od (.dK kvs)) := upd_same
    have nt0 : ∀ ys, H d ≠ some (.tup ys) := fun ys z => by rw [hd] at z; cases z
    have hBL := byPlaceUpd (o := .frz od (.dK kvs)) nt0 hB
    obtain ⟨HL, eL⟩ : ∃ HL, HL = upd H d (.frz od (.dK kvs)) := ⟨_, rfl⟩
    rw [← eL] at hL hBL ⊢
    have kl : kvs.length = nt.length := Paired.length hB
    refine ⟨_, rfl, d, od, rfl, .inl ⟨_, hL, fun D2 nD2 => ?_⟩⟩
    refine anyWalk walk_keys (fun m G => Same HL G ∧ G D2 = some (.lst ((readsN (nt.take m) q).map vn))) ⟨smUpd nD2, upd_same⟩ (fun m G _ z => z.1 _ _ hL) ?_ ?_
    · rintro m x G G' hm ⟨sm, hW⟩ ⟨rfl, kk, v, hkv, rfl⟩
      obtain ⟨e, he, hke, t, x1, y1, rfl, ht, hx1, hy1⟩ := byPlaceAt hBL hkv
      subst hke
      have hget : DGet G' d (kV (.inl (e.1 : Int))) (some (.ref t)) := .inl ⟨kvs, _, .inr ⟨od, sm _ _ hL⟩, rfl, (byPlaceGet hB ndN hkv).symm⟩
      refine ⟨rfl, _, rfl, _, rfl, _, rfl, d, _, rfl, hget, t, _, (1 : Int), _, rfl, rfl, .inl (.inl (sm _ _ ht)), rfl, y1, _, rfl, .inr (tnL (sm _ _ hy1)), rfl, vn_flat _, _, rfl, ?_⟩
      have ft := ftake (c := fun e : Nat × (List Nat × List Nat) => decide (q ∈ e.2.2)) he
      have fl : (readsN (nt.take m) q).length ≤ m := by
        unfold readsN
        rw [List.length_map]
        refine Nat.le_trans (List.length_filter_le _ _) ?_
        rw [List.length_take]
        omega
      by_cases c : q ∈ e.2.2
      · refine ifT (by show inV (vn q) (e.2.2.map vn) = true; rw [inV_vn]; exact decide_eq_true c) ?_
        refine ⟨_, rfl, _, hW, small1000 (by rw [List.length_map]; omega), smOver nD2 sm, ?_⟩
        rw [upd_same]
        unfold readsN
        rw [ft, if_pos (decide_eq_true c), List.map_append, List.map_append]
        rfl
      · refine ifF (by show ¬ inV (vn q) (e.2.2.map vn) = true; rw [inV_vn]; simpa using c) ?_
        refine ⟨sm, ?_⟩
        unfold readsN
        rw [ft, if_neg (by rw [decide_eq_true_iff]; exact c), List.append_nil]
        exact hW
    · rintro G ⟨sm, hW⟩
      rw [kl, List.take_length] at hW
      have hD3 := sm _ _ hL
      have ne : D2 ≠ d := fun z => by rw [z, hL] at nD2; cases nD2
      have nD0 : H D2 = none := by
        rw [eL, upd_ne ne] at nD2
        exact nD2
      exact ⟨hD3, k D2 _ (lockSame hd eL sm) nD0 (by rw [upd_ne ne]; exact hW)⟩
/-- the notes that hold one of some places -/
def spHold1 : Sp := fun vs H Q _ => ∃ (d b : Addr) (kvs : List (L2.Key × V)) (nt : NtL) (ps : List Nat), vs = [.ref d, .ref b] ∧ H d = some (.dK kvs) ∧ ByPlace H kvs nt ∧ (nt.map fun e => e.1).Nodup ∧ nt.length ≤ 60 ∧ H b = some (.lst (ps.map vn)) ∧ ps.length ≤ 60 ∧
  ∀ r H', Same H H' → H r = none → H' r = some (.lst ((holdsA nt ps).map vn)) → Q (.ref r) H'
def nHold1 : List Str := ["notes", "places", "s", "place"]
theorem scHold1 : FnScope nHold1 ["notes", "places"] (defScope sHold1) := ⟨rfl, rfl, rfl, by decide +kernel, rfl, by decide +kernel, by decide +kernel⟩
def scHo1 : Scope := sxRel (sxScope (sxRhs ((defBody sHold1).getD 0 default))) (defScope sHold1)
theorem dHold1 (B : Defs K mg C) : Def P w K mg base "holding_one" 1 ["notes", "places"] spHold1 := by
  have N := B.N
  have mA := B.zAny
  have nd := scHold1.nd
  refine def_of B.hlo fun f fd F => ?_
  refine F.ok scHold1 (fun vs H Q E h => ?_) (fun cdv A outer s H vs Q E hr h => ?_)
  · obtain ⟨d, b, kvs, nt, ps, rfl, _⟩ := h
    rfl
  · obtain ⟨d, b, kvs, nt, ps, rfl, hd, hB, ndN, h60, hb, hpl, k⟩ := h
    have hu : (A.deeper (envOfC "holding_one" (defScope sHold1) s.heap.objs.size f cdv)).units + 1 < cLine := by have := hr.units; omega
    refine ⟨_, pss_one (ps_ret (pe_lock (pe_lc (own := [("s", 2)]) (g := gName 2) (tt := tTest (tCB (rAny K) (tCons (tLc (iList K (tVar 1)) (gName 3) tYes (tOp (rIn K false) (tVar 3) (tOp (rIxT K) (tDGet (tVar 0) (tVar 2)) (tC (.int 0)))) [3]) tNil))) (te := tVar 2) rfl nd (pi_keys (pv 0))
        (blkOk_by (N := nHold1) (sc := defScope sHold1) (by decide +kernel)) (fun _ _ _ _ _ => pg_name (i := 2) nd rfl (Or.inr rfl)) (fun _ _ _ _ _ => pts_one (pt_val (pe_callB (r := rAny K) (cr_any rfl) (by rfl) mA (by decide +kernel) (pa_cons (pe_lc (own := [("place", 3)]) (g := gName 3) (tt := tYes) (te := tOp (rIn K false) (tVar 3) (tOp (rIxT K) (tDGet (tVar 0) (tVar 2)) (tC (.int 0)))) rfl nd (pi_list (pv 1))
          (blkOk_by (N := nHold1) (sc := scHo1) (by decide +kernel)) (fun _ _ _ _ _ => pg_name (i := 3) nd rfl (Or.inl rfl)) (fun _ _ _ _ _ => pts_nil)
          (fun _ _ _ _ _ => pe_cmpR (r := rIn K false) op_in_seq (pv 3) (pe_ix (r := rIxT K) ix_tup (pe_dget hu (pv 0) (pv 2) (fun _ _ => rfl)) pe_int (fun _ _ => rfl)) (by rfl))) pa_nil))))
        (fun _ _ _ _ _ => pv 2)))), ?_⟩
    refine ⟨d, _, hd, trivial, fun od => ?_⟩
    have hL : upd H d (.frz od (.dK kvs)) d = some (.frz od (.dK kvs)) := upd_same
    have nt0 : ∀ ys, H d ≠ some (.tup ys) := fun ys z => by rw [hd] at z; cases z
    have hBL := byPlaceUpd (o := .frz od (.dK kvs)) nt0 hB
    have bd : b ≠ d := fun z => by rw [z, hd] at hb; cases hb
    have hbL : upd H d (.frz od (.dK kvs)) b = some (.lst (ps.map vn)) := by rw [upd_ne bd]; exact hb
    obtain ⟨HL, eL⟩ : ∃ HL, HL = upd H d (.frz od (.dK kvs)) := ⟨_, rfl⟩
    rw [← eL] at hL hBL hbL ⊢
    have kl : kvs.length = nt.length := Paired.length hB
    refine ⟨_, rfl, d, od, rfl, .inl ⟨_, hL, fun D2 nD2 => ?_⟩⟩
    refine anyWalk walk_keys (fun m G => Same HL G ∧ G D2 = some (.lst ((holdsA (nt.take m) ps).map vn))) ⟨smUpd nD2, upd_same⟩ (fun m G _ z => z.1 _ _ hL) ?_ ?_
    · rintro m x G G' hm ⟨sm, hW⟩ ⟨rfl, kk, v, hkv, rfl⟩
      obtain ⟨e, he, hke, t, x1, y1, rfl, ht, hx1, hy1⟩ := byPlaceAt hBL hkv
      subst hke
      refine ⟨rfl, _, rfl, b, rfl, ⟨_, .inl (.inl (sm _ _ hbL))⟩, fun D3 nD3 => ?_⟩
      refine anyWalk (walk_list (xs := ps.map vn)) (fun j J => Same G' J ∧ J D3 = some (.lst (((ps.take j).map fun p => decide (p ∈ e.2.1)).map V.bl))) ⟨smUpd nD3, upd_same⟩ (fun j J _ z => .inl (.inl (z.1 _ _ (sm _ _ hbL)))) ?_ ?_
      · rintro j y J J' hj ⟨sj, hD3⟩ ⟨rfl, hy⟩
        obtain ⟨p, hp, rfl⟩ := vn_get hy
        have s2 := sm.trans sj
        have hget : DGet J' d (kV (.inl (e.1 : Int))) (some (.ref t)) := .inl ⟨kvs, _, .inr ⟨od, s2 _ _ hL⟩, rfl, (byPlaceGet hB ndN hkv).symm⟩
        refine ⟨rfl, _, rfl, _, rfl, _, rfl, d, _, rfl, hget, t, _, (0 : Int), _, rfl, rfl, .inl (.inl (s2 _ _ ht)), rfl, x1, _, rfl, .inr (tnL (s2 _ _ hx1)), rfl, vn_flat _, ?_⟩
        refine ⟨_, hD3, small1000 (by rw [List.length_map, List.length_map, List.length_take]; omega), smOver nD3 sj, ?_⟩
        rw [upd_same, List.take_add_one, hp, List.map_append, List.map_append]
        show some (HO.lst (_ ++ [V.bl (inV (vn p) (e.2.1.map vn))])) = some (HO.lst (_ ++ [V.bl (decide (p ∈ e.2.1))]))
        rw [inV_vn]
      rintro J ⟨sj, hD3⟩
      rw [List.length_map, List.take_length] at hD3
      refine ⟨D3, _, rfl, .inl (.inl hD3), ?_⟩
      have ea : (ps.map fun p => decide (p ∈ e.2.1)).any id = ps.any fun p => decide (p ∈ e.2.1) := by rw [List.any_map]; rfl
      rw [ea]
      refine ⟨_, rfl, ?_⟩
      have hWJ := sj _ _ hW
      have ft := ftake (c := fun e : Nat × (List Nat × List Nat) => ps.any fun p => decide (p ∈ e.2.1)) he
      have fl : (holdsA (nt.take m) ps).length ≤ m := by
        unfold holdsA
        rw [List.length_map]
        refine Nat.le_trans (List.length_filter_le _ _) ?_
        rw [List.length_take]
        omega
      by_cases c : (ps.any fun p => decide (p ∈ e.2.1)) = true
      · refine ifT c ?_
        refine ⟨_, rfl, _, hWJ, small1000 (by rw [List.length_map]; omega), smOver nD2 (sm.trans sj), ?_⟩
        rw [upd_same]
        unfold holdsA
        rw [ft, if_pos c, List.map_append, List.map_append]
        rfl
      · refine ifF c ?_
        refine ⟨sm.trans sj, ?_⟩
        unfold holdsA
        rw [ft, if_neg c, List.append_nil]
        exact hWJ
    · rintro G ⟨sm, hW⟩
      rw [kl, List.take_length] at hW
      have hD3 := sm _ _ hL
      have ne : D2 ≠ d := fun z => by rw [z, hL] at nD2; cases nD2
      have nD0 : H D2 = none := by
        rw [eL, upd_ne ne] at nD2
        exact nD2
      exact ⟨hD3, k D2 _ (lockSame hd eL sm) nD0 (by rw [upd_ne ne]; exact hW)⟩
end
end Cn
namespace Cn
open PySem PySem.Spec PyProof.Rows L2 Ck
/-! what looms and stores share: notes in their dict, notes of a plan, things put together -/
theorem Dom.optKeep {α : Type} (D : Dom α) {H H' : Hp} {v : V} {a : Option α} (k : ∀ t xs, H t = some (.tup xs) → H' t = some (.tup xs)) (h : D.opt H v a) : D.opt H' v a := by
  cases a with
  | none => exact h
  | some a => exact D.keep k h
def NtAt (H : Hp) (nn : Addr) (nt : NtL) : Prop := ∃ kvs : List (L2.Key × V), Rd H nn (.dK kvs) ∧ ByPlace H kvs nt
theorem byPlaceTK {H H' : Hp} {kvs : List (L2.Key × V)} {l : List (Nat × (List Nat × List Nat))} (k : TK H H') (h : ByPlace H kvs l) : ByPlace H' kvs l := Paired.mapP h fun _ _ z => ⟨z.1, by
  obtain ⟨t, x, y, h1, h2, h3, h4⟩ := z.2
  exact ⟨t, x, y, h1, k _ _ h2, k _ _ h3, k _ _ h4⟩⟩
theorem ntGet {H : Hp} {kvs : List (L2.Key × V)} {nt : NtL} (h : ByPlace H kvs nt) (nd : (nt.map fun e => e.1).Nodup) {s : Nat} (hs : s ∈ nt.map fun e => e.1) : ∃ (t x y : Addr) (rs : List Nat), valV kvs (.inl (s : Int)) = some (.ref t) ∧ H t = some (.tup [.ref x, .ref y]) ∧ TN H x (placesN nt s) ∧ TN H y rs := by
  obtain ⟨e, he, rfl⟩ := List.mem_map.mp hs
  obtain ⟨i, hi⟩ := List.getElem?_of_mem he
  have hk : ∃ kv, kvs[i]? = some kv := ⟨kvs[i]'(by rw [Paired.length h]; exact (List.getElem?_eq_some_iff.mp hi).1), List.getElem?_eq_getElem _⟩
  obtain ⟨⟨kk, v⟩, hk⟩ := hk
  obtain ⟨e', he', hke, t, x, y, rfl, h2, h3, h4⟩ := byPlaceAt h hk
  rw [hi] at he'
  cases he'
  subst hke
  exact ⟨t, x, y, e.2.2, byPlaceGet h nd hk, h2, by rw [placesN_of nd he]; exact h3, h4⟩
theorem putK_old {kvs : List (L2.Key × V)} {k : L2.Key} {v w : V} (h : valV kvs k = some w) : (putK kvs k v).length = kvs.length := by
  have e : (kvs.any fun kv => decide (kv.1 = k)) = true := by rw [valV_any, h]; rfl
  unfold putK
  rw [if_pos e, List.length_map]
theorem neK {H : Hp} {a b : Addr} {o u : HO} (h1 : H a = some o) (h2 : H b = some u) (n : o ≠ u) : a ≠ b := fun z => by
  rw [z, h2] at h1
  exact n (Option.some.inj h1).symm
/-- what the notes of a plan keep to -/
structure NtOk (nt : NtL) (be : List Nat) : Prop where
  nd : (nt.map fun e => e.1).Nodup
  len : nt.length ≤ 60
  ne : ∀ s ∈ nt.map (fun e => e.1), placesN nt s ≠ [] ∧ (placesN nt s).length ≤ 60 ∧ ∀ q ∈ placesN nt s, q ∈ be
theorem amsSub {α : Type} {D : Dom α} {H : Hp} {am : Addr} {amf : Nat → α} {ps qs : List Nat} {n : Nat} (s : ∀ q ∈ qs, q ∈ ps) (h : AmsAt D H am amf ps n) : AmsAt D H am amf qs n := by
  obtain ⟨kvs, h1, h2, h3⟩ := h
  exact ⟨kvs, h1, h2, fun q hq => h3 q (s q hq)⟩
theorem ntOk_held {fo : Fo} {lv : List Nat} (ok : FoOk fo) : NtOk (heldNotes fo.ps fo.be fo.as lv fo.ps.length) fo.be := by
  have l60 := ok.l1
  refine ⟨heldNotes_nodup, Nat.le_trans heldNotes_len l60, fun s hs => ?_⟩
  obtain ⟨e, he, rfl⟩ := List.mem_map.mp hs
  rw [placesN_of heldNotes_nodup he]
  have hlt := heldNotes_lt he
  obtain ⟨h1, h2⟩ := List.mem_filter.mp he
  obtain ⟨i, _, rfl⟩ := List.mem_map.mp h1
  have h2 : (!(noteAt fo.ps fo.be fo.as lv i).1.isEmpty && !(noteAt fo.ps fo.be fo.as lv i).2.isEmpty) = true := h2
  rw [Bool.and_eq_true] at h2
  have rl := road_len ok.ps i hlt
  have hlt : i < fo.ps.length := hlt
  refine ⟨fun z => ?_, ?_, fun q hq => ?_⟩
  · have z : (noteAt fo.ps fo.be fo.as lv i).1 = [] := z
    rw [z] at h2
    exact absurd h2.1 (by decide)
  · show ((heldAt fo.ps lv i).filter _).length ≤ 60
    refine Nat.le_trans (List.length_filter_le _ _) ?_
    unfold heldAt
    split
    · omega
    · rw [List.length_drop]; omega
  · exact of_decide_eq_true (List.mem_filter.mp hq).2
theorem foldl_assoc {α : Type} {ad : α → α → α} (as : ∀ a b c, ad (ad a b) c = ad a (ad b c)) : ∀ (xs : List α) (a b : α), xs.foldl ad (ad a b) = ad a (xs.foldl ad b)
  | [], _, _ => rfl
  | x :: xs, a, b => by
    show xs.foldl ad (ad (ad a b) x) = ad a (xs.foldl ad (ad b x))
    rw [as, foldl_assoc as xs]
theorem tog_go {α : Type} {ad : α → α → α} (as : ∀ a b c, ad (ad a b) c = ad a (ad b c)) {vs : List α} {xss : List (List α)} (h : Paired (fun v xs => xs ≠ [] ∧ togG ad xs = some v) vs xss) : ∀ v, vs.foldl ad v = xss.flatten.foldl ad v := by
  induction h with
  | nil => exact fun v => rfl
  | @cons u ys us yss d t ih =>
    intro v
    obtain ⟨d1, d2⟩ := d
    cases ys with
    | nil => exact absurd rfl d1
    | cons y ys =>
      have d2 : ys.foldl ad y = u := Option.some.inj d2
      show us.foldl ad (ad v u) = ((y :: ys) ++ yss.flatten).foldl ad v
      rw [ih, List.foldl_append]
      show _ = yss.flatten.foldl ad (ys.foldl ad (ad v y))
      rw [foldl_assoc as ys, d2]
theorem tog_flat {α : Type} {ad : α → α → α} (as : ∀ a b c, ad (ad a b) c = ad a (ad b c)) {vs : List α} {xss : List (List α)} (h : Paired (fun v xs => xs ≠ [] ∧ togG ad xs = some v) vs xss) : togG ad vs = togG ad xss.flatten := by
  cases h with
  | nil => rfl
  | @cons v xs vs xss c t =>
    obtain ⟨c1, c2⟩ := c
    cases xs with
    | nil => exact absurd rfl c1
    | cons x xs =>
      have c2 : xs.foldl ad x = v := Option.some.inj c2
      show some (vs.foldl ad v) = some ((xs ++ xss.flatten).foldl ad x)
      rw [List.foldl_append, c2, tog_go as t]
end Cn
namespace Cn
open PySem PySem.Spec PyProof.Rows L2 Ck
/-! what a place reads, note by note, is its way -/
section
variable {ps : List (Option Nat)} {lv : List Nat}
theorem stk_asc (hp : Ps ps) : ∀ n, n < ps.length → (stk ps lv n).Pairwise (· < ·) := by
  intro n
  induction n using Nat.strongRecOn with
  | ind n ih =>
    intro hn
    rcases opt_cases hn with h | ⟨p, h⟩
    · rw [stk_none h]; exact List.pairwise_singleton _ _
    · have pn := hp n p h
      rw [stk_some hp h, List.pairwise_append]
      refine ⟨(ih p pn (by omega)).sublist (List.take_sublist _ _), List.pairwise_singleton _ _, fun a ha b hb => ?_⟩
      rw [List.mem_singleton.mp hb]
      have := road_le hp p (by omega) a (stk_sub hp p (by omega) a (List.mem_of_mem_take ha))
      omega
theorem stk_at (hp : Ps ps) : ∀ n, n < ps.length → ∀ t x, (stk ps lv n)[t]? = some x → stk ps lv x = (stk ps lv n).take (t + 1) := by
  intro n
  induction n using Nat.strongRecOn with
  | ind n ih =>
    intro hn t x hx
    rcases opt_cases hn with h | ⟨p, h⟩
    · rw [stk_none h] at hx ⊢
      cases t with
      | zero => cases hx; rw [stk_none h]; rfl
      | succ t => cases hx
    · have pn := hp n p h
      have e := stk_some (lv := lv) hp h
      rw [e] at hx ⊢
      by_cases c : t < ((stk ps lv p).take (lv.getD n 0 - 1)).length
      · rw [List.getElem?_append_left c] at hx
        have c2 := c
        rw [List.length_take] at c2
        rw [List.getElem?_take_of_lt (by omega)] at hx
        rw [List.take_append_of_le_length (by omega), ih p pn (by omega) t x hx, List.take_take, Nat.min_eq_left (by omega)]
      · rw [List.getElem?_append_right (by omega)] at hx
        have e0 : t - ((stk ps lv p).take (lv.getD n 0 - 1)).length = 0 := by
          cases e1 : t - ((stk ps lv p).take (lv.getD n 0 - 1)).length with
          | zero => rfl
          | succ m => rw [e1] at hx; cases hx
        rw [e0] at hx
        cases hx
        rw [List.take_of_length_le (by rw [List.length_append]; show _ + 1 ≤ _; omega), ← e]
theorem road_at (hp : Ps ps) : ∀ n, n < ps.length → ∀ x ∈ road ps n, road ps x ++ (road ps n).drop ((road ps n).idxOf x + 1) = road ps n := by
  intro n
  induction n using Nat.strongRecOn with
  | ind n ih =>
    intro hn x hx
    rcases opt_cases hn with h | ⟨p, h⟩
    · rw [road_none h] at hx ⊢
      have ex := List.mem_singleton.mp hx
      subst ex
      rw [road_none h]
      simp
    · have pn := hp n p h
      have e := road_some hp h
      rw [e] at hx ⊢
      by_cases c : x ∈ road ps p
      · have hi := List.idxOf_lt_length_of_mem c
        rw [List.idxOf_append, if_pos c, List.drop_append_of_le_length (by omega), ← List.append_assoc, ih p pn (by omega) x c]
      · have ex : x = n := (List.mem_append.mp hx).elim (fun z => absurd z c) List.mem_singleton.mp
        subst ex
        rw [List.drop_of_length_le (by
          rw [List.idxOf_append, if_neg c]
          simp), List.append_nil, e]
theorem held_flat (hp : Ps ps) : ∀ n, n < ps.length → (stk ps lv n).flatMap (heldAt ps lv) = road ps n := by
  intro n
  induction n using Nat.strongRecOn with
  | ind n ih =>
    intro hn
    obtain ⟨ini, e⟩ : ∃ ini, stk ps lv n = ini ++ [n] := by
      rcases opt_cases hn with h | ⟨p, h⟩
      · exact ⟨[], stk_none h⟩
      · exact ⟨_, stk_some hp h⟩
    have dl : (stk ps lv n).dropLast = ini := by rw [e, List.dropLast_concat]
    rw [e, List.flatMap_append]
    show _ ++ (heldAt ps lv n ++ []) = _
    rw [List.append_nil]
    unfold heldAt
    rw [dl]
    cases g : ini.getLast? with
    | none =>
      have : ini = [] := List.getLast?_eq_none_iff.mp g
      rw [this]
      rfl
    | some x =>
      rw [List.getLast?_eq_getElem?] at g
      have hl := (List.getElem?_eq_some_iff.mp g).1
      have gx : (stk ps lv n)[ini.length - 1]? = some x := by rw [e, List.getElem?_append_left hl]; exact g
      have sx := stk_at hp n hn _ x gx
      have e1 : ini.length - 1 + 1 = ini.length := by omega
      rw [e1, e, List.take_left'] at sx
      · have xm : x ∈ stk ps lv n := List.mem_of_getElem? gx
        have xr := stk_sub hp n hn x xm
        have xl : x < n := by
          have pw := stk_asc (lv := lv) hp n hn
          rw [e, List.pairwise_append] at pw
          exact pw.2.2 x (List.mem_of_getElem? g) n List.mem_cons_self
        have := ih x xl (by omega)
        rw [sx] at this
        show ini.flatMap (heldAt ps lv) ++ (road ps n).drop ((road ps n).idxOf x + 1) = road ps n
        rw [this]
        exact road_at hp n hn x xr
      · rfl
theorem asc_ext {a b : List Nat} (ha : a.Pairwise (· < ·)) (hb : b.Pairwise (· < ·)) (h : ∀ x, x ∈ a ↔ x ∈ b) : a = b :=
  List.Perm.eq_of_pairwise (le := (· ≤ ·)) (fun x y _ _ p q => Nat.le_antisymm p q) (ha.imp Nat.le_of_lt) (hb.imp Nat.le_of_lt) ((List.perm_ext_iff_of_nodup (ha.imp Nat.ne_of_lt) (hb.imp Nat.ne_of_lt)).mpr h)
theorem flat_filter {α β : Type} {f : α → List β} {c : α → Bool} : ∀ {xs : List α}, (∀ x ∈ xs, c x = false → f x = []) → (xs.filter c).flatMap f = xs.flatMap f
  | [], _ => rfl
  | x :: xs, h => by
    rw [List.filter_cons]
    have ih := flat_filter (f := f) (c := c) (xs := xs) fun y hy => h y (List.mem_cons_of_mem _ hy)
    cases hc : c x with
    | true =>
      show (x :: xs.filter c).flatMap f = f x ++ xs.flatMap f
      rw [← ih]
      rfl
    | false =>
      rw [if_neg (by decide), ih]
      show _ = f x ++ xs.flatMap f
      rw [h x List.mem_cons_self hc]
      rfl
theorem filter_flat {α : Type} {f : α → List Nat} {c : Nat → Bool} : ∀ {xs : List α}, xs.flatMap (fun x => (f x).filter c) = (xs.flatMap f).filter c
  | [] => rfl
  | x :: xs => by
    show (f x).filter c ++ xs.flatMap (fun x => (f x).filter c) = (f x ++ xs.flatMap f).filter c
    rw [List.filter_append, filter_flat (xs := xs)]
end
/-- what a place reads, is what bears over it -/
theorem reads_flat {fo : Fo} {lv : List Nat} (ok : FoOk fo) {q : Nat} (hq : q ∈ fo.as) : (readsN (heldNotes fo.ps fo.be fo.as lv fo.ps.length) q).flatMap (placesN (heldNotes fo.ps fo.be fo.as lv fo.ps.length)) = (road fo.ps q).filter fun p => decide (p ∈ fo.be) := by
  have hql := ok.al q hq
  have e1 : (readsN (heldNotes fo.ps fo.be fo.as lv fo.ps.length) q).flatMap (placesN (heldNotes fo.ps fo.be fo.as lv fo.ps.length)) = ((heldNotes fo.ps fo.be fo.as lv fo.ps.length).filter fun e => decide (q ∈ e.2.2)).flatMap fun e => e.2.1 := by
    unfold readsN
    rw [List.flatMap_map]
    have : ∀ l : List (Nat × (List Nat × List Nat)), (∀ e ∈ l, e ∈ heldNotes fo.ps fo.be fo.as lv fo.ps.length) → l.flatMap (fun e => placesN (heldNotes fo.ps fo.be fo.as lv fo.ps.length) e.1) = l.flatMap fun e => e.2.1 := by
      intro l
      induction l with
      | nil => intro _; rfl
      | cons e l ih =>
        intro h
        show placesN _ e.1 ++ l.flatMap _ = e.2.1 ++ l.flatMap _
        rw [placesN_of heldNotes_nodup (h e List.mem_cons_self), ih fun x hx => h x (List.mem_cons_of_mem _ hx)]
    exact this _ fun e he => (List.mem_filter.mp he).1
  rw [e1]
  unfold heldNotes
  rw [List.filter_filter, List.filter_map, List.flatMap_map]
  have e2 : (List.range fo.ps.length).filter (fun s => decide (s ∈ stk fo.ps lv q)) = stk fo.ps lv q := by
    refine asc_ext (List.pairwise_lt_range.sublist List.filter_sublist) (stk_asc ok.ps q hql) fun x => ?_
    rw [List.mem_filter, List.mem_range, decide_eq_true_iff]
    refine ⟨fun z => z.2, fun z => ⟨?_, z⟩⟩
    have := road_le ok.ps q hql x (stk_sub ok.ps q hql x z)
    omega
  have e3 : ∀ s, (decide (q ∈ (noteAt fo.ps fo.be fo.as lv s).2) && kept2 (noteAt fo.ps fo.be fo.as lv s)) = (decide (s ∈ stk fo.ps lv q) && !(noteAt fo.ps fo.be fo.as lv s).1.isEmpty) := fun s => by
    have h1 : q ∈ (noteAt fo.ps fo.be fo.as lv s).2 ↔ s ∈ stk fo.ps lv q := by
      show q ∈ fo.as.filter _ ↔ _
      rw [List.mem_filter, decide_eq_true_iff]
      exact ⟨fun z => z.2, fun z => ⟨hq, z⟩⟩
    by_cases c : s ∈ stk fo.ps lv q
    · rw [decide_eq_true (h1.mpr c), decide_eq_true c, Bool.true_and, Bool.true_and]
      unfold kept2
      cases h2 : (noteAt fo.ps fo.be fo.as lv s).2 with
      | nil =>
        have := h1.mpr c
        rw [h2] at this
        cases this
      | cons x xs => exact Bool.and_true _
    · rw [decide_eq_false (fun z => c (h1.mp z)), decide_eq_false c, Bool.false_and, Bool.false_and]
  have e4 : (List.range fo.ps.length).filter ((fun e : Nat × (List Nat × List Nat) => decide (q ∈ e.2.2) && kept2 e.2) ∘ fun s => (s, noteAt fo.ps fo.be fo.as lv s)) = (stk fo.ps lv q).filter fun s => !(noteAt fo.ps fo.be fo.as lv s).1.isEmpty := by
    rw [← e2, List.filter_filter]
    refine List.filter_congr fun s _ => ?_
    show (decide (q ∈ (noteAt fo.ps fo.be fo.as lv s).2) && kept2 (noteAt fo.ps fo.be fo.as lv s)) = _
    rw [e3 s, Bool.and_comm]
  rw [e4, flat_filter (fun s _ hc => by
    have : (noteAt fo.ps fo.be fo.as lv s).1.isEmpty = true := by simpa using hc
    exact List.isEmpty_iff.mp this)]
  show (stk fo.ps lv q).flatMap (fun s => (heldAt fo.ps lv s).filter fun x => decide (x ∈ fo.be)) = _
  rw [filter_flat, held_flat ok.ps q hql]
end Cn
namespace DStar
open PySem PySem.Calls PyProof.Rows PySem.Spec L2
section
variable {prog : Program} {w : World} {A : Around} {E : Value → Shared → Prop} {s : Shared}
theorem keyNoRef {k : L2.Key} {u : Value} (h : (mixKind prog w).is k u = true) : ∀ a, u ≠ .ref a := by
  rcases keyIs_shape h with ⟨i, t, rfl, rfl⟩ | ⟨x, t, rfl, rfl⟩
  · exact fun a z => nomatch z
  · exact fun a z => nomatch z
theorem wpAny_dictPut {d : Addr} {kvs : List (L2.Key × Value)} {k : L2.Key} {key v : Value} {Q : Unit → Shared → Prop} (hkey : (mixKind prog w).is k key = true) (hm : s.heap.DictOf (mixKind prog w) d kvs)
    (hQ : ∀ h', h'.DictOf (mixKind prog w) d (stored kvs k v) → Heap.SameBut d s.heap h' → Q () { s with heap := h' })
    (hsz : kvs.length ≤ sizeLine) :
    wpAny (model prog w) A (dictPut d ((mixKind prog w).hash k) key v) Q E s := by
  obtain ⟨o, es, ep, ho, hc, hd, hk, hp, hn⟩ := hm
  have hes : es.size ≤ sizeLine := by
    have e1 := hp.length
    have e2 : es.toList.length = es.size := by simp
    omega
  unfold dictPut
  refine wpAny_bind (wpAny_dictFind_of hkey ho hd hk ?_)
  have hidx : (es.findIdx? fun e => (mixKind prog w).is k e.key) = kvs.findIdx? fun kv => decide (kv.1 = k) := by
    rw [← hp.findIdx k]; obtain ⟨l⟩ := es; simp
  cases hi : es.findIdx? fun e => (mixKind prog w).is k e.key with
  | some i =>
    refine wpAny_updateDict ho hd (hQ _ ⟨_, _, ep, Heap.get?_update_self _ ho (Obj.isFreed_of_dict (Obj.data_mapDict hd _)),
      hc.mapDict _, Obj.data_mapDict hd _, hk.modify _ _, ?_, ?_⟩ (Heap.SameBut.update ..))
    · rw [stored, if_pos (any_of_findIdx_some (hidx ▸ hi))]
      have hl : (es.toList.findIdx? fun e => (mixKind prog w).is k e.key) = some i := by rw [← hi]; obtain ⟨l⟩ := es; simp
      have := hp.modify hn hl v
      obtain ⟨l⟩ := es
      simpa using this
    · rw [stored, if_pos (any_of_findIdx_some (hidx ▸ hi)), keys_map_store]; exact hn
  | none =>
    have hnot : k ∉ kvs.map (·.1) := not_mem_of_findIdx_none (hidx ▸ hi)
    have hany : ¬ (kvs.any fun kv => decide (kv.1 = k)) = true := by
      rw [List.any_eq_true]; rintro ⟨kv, hkv, he⟩
      exact hnot (List.mem_map.mpr ⟨kv, hkv, of_decide_eq_true he⟩)
    refine wpAny_updateDictKeys (hz := hes) ho hd (hQ _ ⟨_, _, ep + 1, Heap.get?_update_self _ ho (Obj.isFreed_of_dict (Obj.data_mapDictKeys hd _)),
      hc.mapDictKeys _, Obj.data_mapDictKeys hd _, hk.push hkey _, ?_, ?_⟩ (Heap.SameBut.update ..))
    · rw [stored, if_neg hany]
      have := hp.append hkey ((mixKind prog w).hash k) v
      obtain ⟨l⟩ := es
      simpa using this
    · rw [stored, if_neg hany, List.map_append, List.nodup_append]
      refine ⟨hn, by simp, ?_⟩
      intro a ha b hb
      simp only [List.map_cons, List.map_nil, List.mem_singleton] at hb
      subst hb
      exact fun e => hnot (e ▸ ha)
theorem wpAny_mergeMapping {d o : Addr} {kvs more : List (L2.Key × Value)} {Q : Unit → Shared → Prop} (hdo : d ≠ o) (hoS : (o == sysModules) = false)
    (hd : s.heap.DictOf (mixKind prog w) d kvs) (ho : s.heap.DictOf (mixKind prog w) o more)
    (hQ : ∀ h', h'.DictOf (mixKind prog w) d (merged kvs more) → h'.DictOf (mixKind prog w) o more → Heap.SameBut d s.heap h' → Q () { s with heap := h' })
    (hsz : kvs.length + more.length ≤ sizeLine) :
    wpAny (model prog w) A (mergeMapping d (.ref o) false) Q E s := by
  obtain ⟨od, esd, epd, hod, hcd, hdd, hkd, hpd, hnd⟩ := id hd
  obtain ⟨oo, eso, epo, hoo, hco, hdo', hko, hpo, hno⟩ := id ho
  have hlen : more.length = eso.size := by rw [← hpo.length]; simp
  unfold mergeMapping
  refine wpAny_bind (wpAny_isInstance ho.typeIs isSubtype_dict_dict ?_)
  dsimp only
  rw [if_pos rfl]
  refine wpAny_bind (wpAny_specialOf ho.typeIs F.slot_dict_iter.lookup (wpAny_bind (wpAny_pure ?_)))
  simp only [beq_self_eq_true]
  rw [if_neg (by rw [hoS]; exact Bool.false_ne_true)]
  refine wpAny_bind (wpAny_dictEntries hod hdd ?_)
  have loop : wpAny (model prog w) A (do
      let l ← dictEntries o
      let epoch ← dictEpoch o
      forIn (List.range l.size) PUnit.unit fun i (_ : PUnit) => (do
          let l' ← dictEntries o
          match l'[i]? with
            | some e => do
              holding [e.key, e.val] (dictPut d e.hash e.key e.val)
              let ep' ← dictEpoch o
              if (ep' != epoch) = true then do
                  (unsupported "dict.changed-during-merge" : Sem PUnit)
                  pure (ForInStep.yield PUnit.unit)
                else pure (ForInStep.yield PUnit.unit)
            | _ => do
              (unsupported "dict.changed-during-merge" : Sem PUnit)
              pure (ForInStep.yield PUnit.unit) : Sem (ForInStep PUnit))
      pure ()) Q E s := by
    refine wpAny_bind (wpAny_dictEntries hoo hdo' ?_)
    refine wpAny_bind (wpAny_dictEpoch hoo hdo' ?_)
    refine wpAny_bind ?_
    rw [List.range_eq_range']
    refine wpAny_forIn_list _
      (fun rest _ s' => ∃ h' i, s' = { s with heap := h' } ∧ rest = List.range' i (eso.size - i) ∧ i ≤ eso.size ∧ h'.DictOf (mixKind prog w) d (merged kvs (more.take i)) ∧ h'.get? o = some oo ∧ Heap.SameBut d s.heap h')
      _ ?_ ?_ _ _ ⟨s.heap, 0, rfl, by simp, Nat.zero_le _, by simpa [merged] using hd, hoo, Heap.SameBut.refl _ _⟩
    · rintro x rest b s' ⟨h', i, rfl, hr, hi, hd', hoo', hs'⟩
      have hlt : i < eso.size := by
        rcases Nat.lt_or_ge i eso.size with h | h
        · exact h
        · rw [Nat.sub_eq_zero_of_le h] at hr; simp at hr
      obtain ⟨rfl, hrest⟩ : x = i ∧ rest = List.range' (i + 1) (eso.size - (i + 1)) := by
        have e : eso.size - i = (eso.size - (i + 1)) + 1 := by omega
        rw [e, List.range'_succ] at hr
        injection hr with h1 h2
        exact ⟨h1, h2⟩
      refine wpAny_bind (wpAny_dictEntries hoo' hdo' ?_)
      rw [Array.getElem?_eq_getElem hlt]
      obtain ⟨kv, hkv⟩ : ∃ kv, more[x]? = some kv := ⟨more[x]'(by rw [hlen]; exact hlt), List.getElem?_eq_getElem _⟩
      obtain ⟨k, v⟩ := kv
      obtain ⟨hkey, hval⟩ := hpo.get? (e := eso[x]) (by simp [hlt]) hkv
      obtain ⟨k', hkey', hhash⟩ := hko eso[x] (Array.getElem_mem hlt)
      obtain rfl : k' = k := (mixKind prog w).inj _ _ _ hkey' hkey
      show wpAny _ _ (holding [eso[x].key, eso[x].val] (dictPut d eso[x].hash eso[x].key eso[x].val) >>= _) _ _ _
      rw [hhash, hval]
      have hmx : (merged kvs (more.take x)).length ≤ sizeLine := by
        have e1 := merged_length_le kvs (more.take x)
        have e2 : (more.take x).length ≤ more.length := by rw [List.length_take]; omega
        omega
      refine wpAny_bind (wpAny_holding (wpAny_dictPut (hsz := hmx) hkey hd' fun h'' hd'' hs'' => ?_))
      have hoo'' : h''.get? o = some oo := (hs''.2 o (Ne.symm hdo)).trans hoo'
      refine wpAny_bind (wpAny_dictEpoch hoo'' hdo' ?_)
      rw [if_neg (by simp)]
      exact wpAny_pure ⟨h'', x + 1, rfl, hrest, hlt, by rw [merged_take_succ kvs more x (k', v) hkv]; exact hd'', hoo'', hs'.trans hs''⟩
    · rintro b s' ⟨h', i, rfl, hr, hi, hd', hoo', hs'⟩
      have hin : i = eso.size := by
        rcases Nat.lt_or_ge i eso.size with h | h
        · have e : eso.size - i = (eso.size - (i + 1)) + 1 := by omega
          rw [e, List.range'_succ] at hr; exact nomatch hr
        · exact Nat.le_antisymm hi h
      refine wpAny_pure (hQ h' ?_ ⟨oo, eso, epo, hoo', hco, hdo', hko, hpo, hno⟩ hs')
      rw [hin, ← hlen, List.take_length] at hd'; exact hd'
  split
  · refine wpAny_bind (wpAny_dictEntries hoo hdo' ?_)
    refine wpAny_bind (wpAny_mono (Q := fun _ s' => s' = s) ?_ (fun _ s' e => ?_) fun _ _ e => e)
    · have hn : ∀ e ∈ eso, ∀ a, e.key ≠ .ref a := fun e he a => by
        obtain ⟨k', hkey', _⟩ := hko e he
        exact keyNoRef hkey' a
      rw [← Array.forIn_toList]
      refine wpAny_forIn_list _ (fun rest _ s' => s' = s ∧ ∀ e ∈ rest, ∀ a, e.key ≠ .ref a) _ ?_ ?_ _ _ ⟨rfl, fun e he => hn e (Array.mem_toList_iff.mp he)⟩
      · rintro x rest b s' ⟨rfl, h⟩
        have hx := h x List.mem_cons_self
        have hr : ∀ e ∈ rest, ∀ a, e.key ≠ .ref a := fun e he => h e (List.mem_cons_of_mem _ he)
        split
        · rename_i a ha
          exact absurd ha (hx a)
        · exact wpAny_pure ⟨rfl, hr⟩
      · rintro b s' ⟨rfl, _⟩
        rfl
    · subst e
      exact loop
  · exact loop
theorem nodupOf {d : Addr} {h : Heap} {kvs : List (L2.Key × Value)} (hd : h.DictOf (mixKind prog w) d kvs) : (kvs.map (·.1)).Nodup := by
  obtain ⟨o, es, ep, ho, hc, he, hk, hp, hn⟩ := hd
  exact hn
theorem wpAny_display1 {m k v : Sem Value} {Q : Value → Shared → Prop}
    (h : wpAny (model prog w) A m (fun x s1 => ∃ (o : Addr) (more : List (L2.Key × Value)), x = .ref o ∧ s.heap.objs.size ≠ o ∧ (o == sysModules) = false ∧ s1.heap.DictOf (mixKind prog w) s.heap.objs.size [] ∧ s1.heap.DictOf (mixKind prog w) o more ∧ more.length ≤ sizeLine ∧
      ∀ h1, h1.DictOf (mixKind prog w) s.heap.objs.size more → Heap.SameBut s.heap.objs.size s1.heap h1 →
        wpAny (model prog w) A (evalPairs [(k, v)]) (fun vs s2 => ∃ kvs, Carries (mixKind prog w) vs kvs ∧ s2.heap.DictOf (mixKind prog w) h1.objs.size [] ∧
          ∀ h3, h3.DictOf (mixKind prog w) h1.objs.size (merged [] kvs) → Heap.SameBut h1.objs.size s2.heap h3 →
            ∃ more3, s.heap.objs.size ≠ h1.objs.size ∧ (h1.objs.size == sysModules) = false ∧ h3.DictOf (mixKind prog w) s.heap.objs.size more3 ∧ more3.length + kvs.length ≤ sizeLine ∧
            ∀ h4, h4.DictOf (mixKind prog w) s.heap.objs.size (merged more3 (merged [] kvs)) → Heap.SameBut s.heap.objs.size h3 h4 → Q (.ref s.heap.objs.size) { s2 with heap := h4, toks := s2.toks + vs.length }) E
          { s1 with heap := h1.push { cls := .type "dict", data := .dict #[] } }) E { s with heap := s.heap.push { cls := .type "dict", data := .dict #[] } }) :
    wpAny (model prog w) A (dictDisplay [(none, m), (some k, v)]) Q E s := by
  unfold dictDisplay
  simp only [List.forIn_cons, List.forIn_nil, List.isEmpty_nil, if_true, pure_bind, bind_assoc]
  refine wpAny_bind (wpAny_alloc ?_)
  refine wpAny_bind (wpAny_holding (wpAny_mono h (fun x s1 h1 => ?_) fun _ _ e => e))
  obtain ⟨o, more, rfl, hne, hoS, hd, ho, hml, hq⟩ := h1
  refine wpAny_bind (wpAny_onRaise (wpAny_tryCatch (wpAny_onRaise (wpAny_holding (wpAny_mergeMapping (kvs := []) hne hoS hd ho (fun h' a _ c => ?_) (by simpa using hml))))))
  rw [merged_nil_of_nodup more (nodupOf ho)] at a
  have q := hq h' a c
  simp only [List.nil_append, List.length_singleton, show ((1 : Nat) == 17) = false from rfl, Bool.false_eq_true, if_false, pure_bind, List.isEmpty_cons]
  refine wpAny_bind (wpAny_bind (wpAny_holding (wpAny_subDict (knd := mixKind prog w) (by show 1 ≤ 15; decide) (wpAny_mono q (fun vs s2 h2 => ?_) fun _ _ e => e))))
  obtain ⟨kvs, hc, hd2, hk⟩ := h2
  refine ⟨kvs, hc, hd2, fun h3 hd3 hs3 => ?_⟩
  obtain ⟨more3, ne2, oS2, hm3, hsz, hq4⟩ := hk h3 hd3 hs3
  have ml : (merged ([] : List (L2.Key × Value)) kvs).length ≤ kvs.length := by
    have := merged_length_le ([] : List (L2.Key × Value)) kvs
    simpa using this
  refine wpAny_bind (wpAny_onRaise (wpAny_holding (wpAny_mergeMapping ne2 oS2 hm3 hd3 (fun h4 a4 _ c4 => ?_) (by omega))))
  exact wpAny_pure (wpAny_pure (hq4 h4 a4 c4))
end
open L2
/-- {**d, k: v}: a new dict, d's keys and one -/
def tStar (te tk tv : TE) : TE := fun σ H Q => ∀ p, H p = none → te σ (upd H p (.dK [])) fun x H1 => ∃ a kvs, x = .ref a ∧ a ≠ p ∧ H1 a = some (.dK kvs) ∧ H1 p = some (.dK []) ∧ kvs.length + 1 ≤ sizeLine ∧
  ∀ p2, upd H1 p (.dK kvs) p2 = none → tk σ (upd (upd H1 p (.dK kvs)) p2 (.dK [])) fun y H2 => tv σ H2 fun z H3 => H3 p = some (.dK kvs) ∧ H3 p2 = some (.dK []) ∧ ∃ k : L2.Key, y = kV k ∧ Q (.ref p) (upd (upd H3 p2 (.dK [(k, z)])) p (.dK (putK kvs k z)))
theorem pe_star {X : Cx} {pos : Pos} {e k v : Expr} {te tk tv : TE} (he : PE X e te) (hk : PE X k tk) (hv : PE X v tv) : PE X (.Dict [none, some k] [e, v] pos) (tStar te tk tv) := by
  refine ⟨fun pins s σ H Q I q => ?_⟩
  have hn := I.hok.fresh (Nat.le_refl s.heap.objs.size)
  have I1 := I.laid (a := s.heap.objs.size) (o := .dK []) (h' := s.heap.push { cls := .type "dict", data := .dict #[] }) (t' := s.toks) (fun _ _ q => Heap.get?_push_of_some _ q) (Nat.le_refl _) (dk_empty s.heap I.big)
  rw [arm_eval_Dict]
  refine wpAny_bind (wpAny_standAt ?_)
  show wpAny _ _ (dictDisplay [(none, do let x ← eval e X.env; standAt pos; pure x), (some (eval k X.env), do let x ← eval v X.env; standAt pos; pure x)]) _ _ _
  refine wpAny_display1 (wpAny_bind (thn (he.run pins _ σ _ _ I1 (q _ hn)) fun u s1 ⟨x, H1, I2, rx, a, kvs, ex, nep, ha, hp, hl, q2⟩ => wpAny_bind (wpAny_standAt (wpAny_pure ?_))))
  subst ex
  obtain rfl : u = Value.ref a := rx
  obtain ⟨z1, hz1, vs1, r1, d1⟩ := dk_of I2.hok ha
  obtain ⟨z0, hz0, vs0, r0, d0⟩ := dk_of I2.hok hp
  cases r0
  refine ⟨a, vs1, rfl, nep.symm, hz1, d0, d1, by rw [← r1.length]; exact z1, fun h1 dm sb => ?_⟩
  have he1 : ∃ q, h1.get? s.heap.objs.size = some q := let ⟨q, _, _, hq, _⟩ := dm; ⟨q, hq⟩
  have I3 := d_write (t' := s1.toks) I2 (by rw [hp]; exact True.intro) sb he1 (dk_new z1 hz0 r1 dm)
  have hn3 := I3.hok.fresh (Nat.le_refl h1.objs.size)
  have I4 := I3.laid (a := h1.objs.size) (o := .dK []) (h' := h1.push { cls := .type "dict", data := .dict #[] }) (t' := s1.toks) (fun _ _ q => Heap.get?_push_of_some _ q) (Nat.le_refl _) (dk_empty h1 I3.big)
  refine evalPairs_cons (thn (hk.run pins _ σ _ _ I4 (q2 _ hn3)) fun u2 s2 ⟨y, H2, I5, ry, q3⟩ => ?_)
  refine wpAny_bind (thn (hv.run pins s2 σ H2 _ I5 q3) fun u3 s3 ⟨z, H3, I6, rz, hp3, hp4, kk, ek, q4⟩ => wpAny_bind (wpAny_standAt (wpAny_pure ?_)))
  subst ek
  refine evalPairs_nil ?_
  obtain ⟨_, hz5, vs5, r5, d5⟩ := dk_of I6.hok hp4
  cases r5
  refine ⟨[(kk, u3)], ⟨kV_is ry, rfl, trivial⟩, d5, fun h3 d6 sb6 => ?_⟩
  have he6 : ∃ q, h3.get? h1.objs.size = some q := let ⟨q, _, _, hq, _⟩ := d6; ⟨q, hq⟩
  have r6 : KV [(kk, z)] (merged [] [(kk, u3)]) := .cons ⟨rfl, rz⟩ .nil
  have I7 := d_write (t' := s3.toks) I6 (by rw [hp4]; exact True.intro) sb6 he6 (dk_new (by show 1 ≤ sizeLine; decide) hz5 r6 d6)
  have ne12 : s.heap.objs.size ≠ h1.objs.size := fun z => by
    rw [← z, upd_same] at hn3
    cases hn3
  have hp7 : upd H3 h1.objs.size (.dK [(kk, z)]) s.heap.objs.size = some (.dK kvs) := by rw [upd_ne ne12]; exact hp3
  obtain ⟨z7, hz7, vs7, r7, d7⟩ := dk_of I7.hok hp7
  have hL : vs7.length = kvs.length := r7.length.symm
  refine ⟨vs7, ne12, hz5, d7, by rw [hL]; exact hl, fun h4 d8 sb8 => ⟨.ref s.heap.objs.size, _, ?_, rfl, q4⟩⟩
  have he8 : ∃ q, h4.get? s.heap.objs.size = some q := let ⟨q, _, _, hq, _⟩ := d8; ⟨q, hq⟩
  have hz9 : (putK kvs kk z).length ≤ sizeLine := by
    have := length_putK kvs kk z
    omega
  have r9 : KV (putK kvs kk z) (merged vs7 (merged [] [(kk, u3)])) := r7.put kk rz
  have I9 := d_write (t' := s3.toks + 1) I7 (by rw [hp7]; exact True.intro) sb8 he8 (dk_new hz9 hz7 r9 d8)
  exact I9
end DStar
namespace Cn
open PySem PySem.Spec PyProof.Rows L2 Ck
/-! what is made of the places of notes, in a dict by these places -/
def kPs (ps : List Nat) : List L2.Key := ps.map fun (p : Nat) => (.inl (p : Int) : L2.Key)
theorem kPs_v {ps : List Nat} : (kPs ps).map kV = ps.map vn := by
  unfold kPs
  rw [List.map_map]
  rfl
theorem kPs_inj : ∀ {a b : List Nat}, kPs a = kPs b → a = b
  | [], [], _ => rfl
  | [], _ :: _, h => by cases h
  | _ :: _, [], h => by cases h
  | x :: a, y :: b, h => by
    have h1 : (Sum.inl (x : Int) : L2.Key) :: kPs a = Sum.inl (y : Int) :: kPs b := h
    injection h1 with h2 h3
    injection h2 with h2
    have := kPs_inj h3
    rw [this, show x = y by omega]
theorem putTLen {kvs : List (List L2.Key × V)} {k : List L2.Key} {v : V} : (putK kvs k v).length ≤ kvs.length + 1 := by
  unfold putK
  split
  · rw [List.length_map]; omega
  · rw [List.length_append]; exact Nat.le_refl _
/-- of places when they were made, and what they hold -/
def MdV {α : Type} (D : Dom α) (tm : List Nat → Nat) (ad : α → α → α) (am : Nat → α) (H : Hp) (ps : List Nat) (v : V) : Prop := ∃ t x, v = .ref t ∧ H t = some (.tup [vn (tm ps), x]) ∧ D.rep H x (sumP ad am ps)
theorem mdTK {α : Type} {D : Dom α} {tm : List Nat → Nat} {ad : α → α → α} {am : Nat → α} {H H' : Hp} {ps : List Nat} {v : V} (k : TK H H') (h : MdV D tm ad am H ps v) : MdV D tm ad am H' ps v := by
  obtain ⟨t, x, h1, h2, h3⟩ := h
  exact ⟨t, x, h1, k _ _ h2, D.keep k h3⟩
/-- a dict of such -/
def MdAt {α : Type} (D : Dom α) (tm : List Nat → Nat) (ad : α → α → α) (am : Nat → α) (nt : NtL) (H : Hp) (d : Addr) : Prop := ∃ kvs : List (List L2.Key × V), H d = some (.dT kvs) ∧ kvs.length ≤ nt.length ∧
  (∀ k v, valV kvs k = some v → ∃ e ∈ nt, k = kPs e.2.1 ∧ MdV D tm ad am H e.2.1 v) ∧ ∀ e ∈ nt, ∃ v, valV kvs (kPs e.2.1) = some v
theorem mdKeep {α : Type} {D : Dom α} {tm : List Nat → Nat} {ad : α → α → α} {am : Nat → α} {nt : NtL} {H H' : Hp} {d : Addr} (k : TK H H') (hd : ∀ o, H d = some o → H' d = some o) (h : MdAt D tm ad am nt H d) : MdAt D tm ad am nt H' d := by
  obtain ⟨kvs, h1, h2, h3, h4⟩ := h
  exact ⟨kvs, hd _ h1, h2, fun k1 v e => by
    obtain ⟨x, a, b, c⟩ := h3 k1 v e
    exact ⟨x, a, b, mdTK k c⟩, h4⟩
theorem mdGet {α : Type} {D : Dom α} {tm : List Nat → Nat} {ad : α → α → α} {am : Nat → α} {nt : NtL} {H : Hp} {d : Addr} (h : MdAt D tm ad am nt H d) {e : Nat × (List Nat × List Nat)} (he : e ∈ nt) : ∃ kvs v, H d = some (.dT kvs) ∧ valV kvs (kPs e.2.1) = some v ∧ MdV D tm ad am H e.2.1 v := by
  obtain ⟨kvs, h1, h2, h3, h4⟩ := h
  obtain ⟨v, hv⟩ := h4 e he
  obtain ⟨x, _, b, c⟩ := h3 _ v hv
  have b := kPs_inj b
  exact ⟨kvs, v, h1, hv, by rw [b]; exact c⟩
section
variable {P : Program} {w : World} {K : PySem.W.Frag} {mg : Str → Option Value} {base : Heap} {C : Addr}
/-- all that is made -/
def spAllM {α : Type} (P : Program) (w : World) (K : PySem.W.Frag) (mg : Str → Option Value) (base : Heap) (D : Dom α) : Sp := fun vs H Q _ => ∃ (am nn st g : Addr) (T n m : Nat) (amf : Nat → α) (ad : α → α → α) (be : List Nat) (nt : NtL) (kvN : List (L2.Key × V)) (kvS : List (List L2.Key × V)) (tm : List Nat → Nat), vs = [.ref am, .ref nn, .ref st, .ref g, vn T] ∧
  H nn = some (.dK kvN) ∧ ByPlace H kvN nt ∧ NtOk nt be ∧ AmsAt D H am amf be n ∧ am ≠ nn ∧ AddG P w K mg base D g ad ∧ H st = some (.dT kvS) ∧ (∀ e ∈ nt, ∀ v, valV kvS (kPs e.2.1) = some v → MdV D tm ad amf H e.2.1 v) ∧ (∀ e ∈ nt, valV kvS (kPs e.2.1) = none → tm e.2.1 = T) ∧ (∀ q, D.sz (amf q) ≤ m) ∧ m ≤ 1000 ∧
  ∀ d H', Same H H' → H d = none → MdAt D tm ad amf nt H' d → Q (.ref d) H'
def nAllM : List Str := ["amounts", "notes", "stay", "adding", "time", "made", "s", "places", "i"]
theorem scAllM : FnScope nAllM ["amounts", "notes", "stay", "adding", "time"] (defScope sAllM) := ⟨rfl, rfl, rfl, by decide +kernel, rfl, by decide +kernel, by decide +kernel⟩
theorem dAllM {α : Type} (D : Dom α) (B : Defs K mg C) : Def P w K mg base "_all_made" 3 ["amounts", "notes", "stay", "adding", "time"] (spAllM P w K mg base D) := by
  obtain ⟨fT, fdT, GT, gT, kT, bT⟩ := dTogt (P := P) (w := w) (base := base) D B
  have N := B.N
  have nd := scAllM.nd
  refine def_of B.alm fun f fd F => ?_
  refine F.ok scAllM (fun vs H Q E h => ?_) (fun cdv A outer s H vs Q E hr h => ?_)
  · obtain ⟨am, nn, st, g, T, n, m, amf, ad, be, nt, kvN, kvS, tm, rfl, _⟩ := h
    rfl
  · obtain ⟨am, nn, st, g, T, n, m, amf, ad, be, nt, kvN, kvS, tm, rfl, hN, hB, ok, ⟨kvA, hA, hAl, hAv⟩, amn, hAd, hS, hSv, hT, hm, hm1, k⟩ := h
    have hu : (A.deeper (envOfC "_all_made" (defScope sAllM) s.heap.objs.size f cdv)).units + 1 < cLine := by have := hr.units; omega
    refine ⟨_, pss_cons (ps_set (i := 5) nd rfl (Or.inl rfl) pe_dnewT)
      (pss_cons (ps_lock (ps_for PassesOwn.never rfl (pi_keys (pv 1)) (pg_name (i := 6) nd rfl (Or.inl rfl))
        (pss_cons (ps_set (i := 7) nd rfl (Or.inl rfl) (pe_ix ix_tup (pe_dget hu (pv 1) (pv 6) (fun _ _ => rfl)) pe_int (fun _ _ => rfl)))
        (pss_one (ps_if (pt_cmp (pc_din hu (pv 7) (pv 2)))
          (pss_one (ps_dput hu (pv 5) (pv 7) (pe_dget hu (pv 2) (pv 7) (fun _ _ => rfl)) rfl))
          (pss_one (ps_if (pt_cmp (pc_dnotin hu (pv 7) (pv 5)))
            (pss_one (ps_dput hu (pv 5) (pv 7) (pe_tup (pa_cons (pv 4) (pa_cons (pe_call GT hr (by rfl) gT kT bT .nil pass0 (pa_cons (pv 3) (pa_cons (pe_lc (own := [("i", 8)]) (g := gName 8) (tt := tYes) (te := tDGet (tVar 0) (tVar 8)) rfl nd (pi_tup (pv 7))
              (blkOk_by (N := nAllM) (sc := defScope sAllM) (by decide +kernel)) (fun _ _ _ _ _ => pg_name (i := 8) nd rfl (Or.inl rfl)) (fun _ _ _ _ _ => pts_nil) (fun _ _ _ _ _ => pe_dget hu (pv 0) (pv 8) (fun _ _ => rfl))) pa_nil))) pa_nil))) rfl)) pss_nil)))))))
      (pss_one (ps_ret (pv 5)))), ?_⟩
    have kl : kvN.length = nt.length := Paired.length hB
    have nl := ok.len
    refine fun DD nD => ?_
    have sD : Same H (upd H DD (.dT [])) := smUpd nD
    have hD0 : upd H DD (.dT []) DD = some (.dT []) := upd_same
    generalize upd H DD (.dT []) = H1 at sD hD0 ⊢
    have hN1 := sD _ _ hN
    refine ⟨nn, _, hN1, trivial, fun od => ?_⟩
    have hL : upd H1 nn (.frz od (.dK kvN)) nn = some (.frz od (.dK kvN)) := upd_same
    obtain ⟨HL, eL⟩ : ∃ HL, HL = upd H1 nn (.frz od (.dK kvN)) := ⟨_, rfl⟩
    have tkL : TK H HL := by rw [eL]; exact (tkSame sD).trans (tkUpd hN1 fun xs z => by cases z)
    rw [← eL] at hL ⊢
    have keep : ∀ {b : Addr} {o : HO}, b ≠ nn → H1 b = some o → HL b = some o := fun n h => by rw [eL, upd_ne n]; exact h
    have dnn : DD ≠ nn := neK hD0 hN1 fun z => by cases z
    have snn : st ≠ nn := neK hS hN fun z => by cases z
    have hDL := keep dnn hD0
    have hSL := keep snn (sD _ _ hS)
    have hAL := keep amn (sD _ _ hA)
    have hBL := byPlaceTK tkL hB
    have nDL : ∀ {b : Addr} {o : HO}, H b = some o → b ≠ DD := fun h z => by rw [z, nD] at h; cases h
    have sdd := nDL hS
    have add := nDL hA
    refine ⟨_, rfl, nn, od, rfl, .inl ⟨_, hL, ?_⟩⟩
    refine for_it walk_keys (fun j σ G => (∃ t6 t7, σ = [some (.ref am), some (.ref nn), some (.ref st), some (.ref g), some (vn T), some (.ref DD), t6, t7, none]) ∧ TK H G ∧ (∀ b o, b ≠ DD → HL b = some o → G b = some o) ∧ ∃ kvs : List (List L2.Key × V), G DD = some (.dT kvs) ∧ kvs.length ≤ j ∧ (∀ k v, valV kvs k = some v → ∃ e ∈ nt, k = kPs e.2.1 ∧ MdV D tm ad amf G e.2.1 v) ∧ ∀ e ∈ nt.take j, ∃ v, valV kvs (kPs e.2.1) = some v)
      ⟨⟨_, _, rfl⟩, tkL, fun b o _ e => e, [], hDL, Nat.le_refl _, fun k v z => (by cases z), fun e he => by rw [List.take_zero] at he; cases he⟩ (fun j σ G _ z => z.2.2.1 _ _ dnn.symm hL) ?_ ?_
    · rintro j x σ G G' hj ⟨⟨t6, t7, rfl⟩, tk, kp, kvs, hD, hlen, hv, hc⟩ ⟨rfl, kk, v, hkv, rfl⟩
      obtain ⟨e, he, hke, t, x1, y1, rfl, ht, hx1, hy1⟩ := byPlaceAt hB hkv
      subst hke
      have hem := List.mem_of_getElem? he
      have hLG := kp _ _ dnn.symm hL
      have hSG := kp _ _ sdd hSL
      have hAG := kp _ _ add hAL
      have htG := tk _ _ ht
      have hxG : TN G' x1 e.2.1 := tk _ _ hx1
      have hxk : G' x1 = some (.tup ((kPs e.2.1).map kV)) := by rw [kPs_v]; exact hxG
      have et : nt.take (j + 1) = nt.take j ++ [e] := by rw [List.take_add_one, he]; rfl
      have next : ∀ {J : Hp} {v : V}, TK G' J → (∀ b o, b ≠ DD → HL b = some o → J b = some o) → J DD = some (.dT (putK kvs (kPs e.2.1) v)) → MdV D tm ad amf J e.2.1 v → ∃ kvs : List (List L2.Key × V), J DD = some (.dT kvs) ∧ kvs.length ≤ j + 1 ∧ (∀ k v, valV kvs k = some v → ∃ e ∈ nt, k = kPs e.2.1 ∧ MdV D tm ad amf J e.2.1 v) ∧ ∀ e ∈ nt.take (j + 1), ∃ v, valV kvs (kPs e.2.1) = some v := fun {J v} tkJ kpJ hJ hmv => by
        refine ⟨_, hJ, Nat.le_trans putTLen (by omega), fun k2 v2 z => ?_, fun e2 he2 => ?_⟩
        · rw [valV_put] at z
          by_cases c : k2 = kPs e.2.1
          · rw [if_pos c] at z
            cases z
            exact ⟨e, hem, c, hmv⟩
          · rw [if_neg c] at z
            obtain ⟨x, a, b, c⟩ := hv k2 v2 z
            exact ⟨x, a, b, mdTK tkJ c⟩
        · rw [valV_put]
          by_cases c : kPs e2.2.1 = kPs e.2.1
          · rw [if_pos c]; exact ⟨_, rfl⟩
          · rw [if_neg c]
            rw [et] at he2
            rcases List.mem_append.mp he2 with h1 | h1
            · exact hc e2 h1
            · exact absurd (by rw [List.mem_singleton.mp h1]) c
      refine ⟨_, rfl, _, rfl, nn, _, rfl, .inl ⟨kvN, .inl (e.1 : Int), .inr ⟨od, hLG⟩, rfl, (byPlaceGet hB ok.nd hkv).symm⟩, t, _, (0 : Int), _, rfl, rfl, .inl (.inl htG), rfl, ?_⟩
      refine ⟨_, rfl, _, rfl, st, _, rfl, DGet.t hSG hxk, _, rfl, ?_⟩
      cases hs : valV kvS (kPs e.2.1) with
      | some v2 =>
        refine ifT rfl ?_
        have hmv := hSv e hem v2 hs
        refine ⟨_, rfl, _, rfl, st, v2, rfl, (by rw [← hs]; exact DGet.t hSG hxk), _, rfl, _, rfl, DD, _, rfl, DPut.t hD hxk (bigLine (by omega)), ?_⟩
        have tkD : TK G' (upd G' DD (.dT (putK kvs (kPs e.2.1) v2))) := tkUpd hD fun xs z => by cases z
        exact ⟨⟨_, _, rfl⟩, tk.trans tkD, fun b o n z => by rw [upd_ne n]; exact kp b o n z, next tkD (fun b o n z => by rw [upd_ne n]; exact kp b o n z) upd_same (mdTK (tk.trans tkD) hmv)⟩
      | none =>
        refine ifF (by decide) ?_
        refine ⟨_, rfl, _, rfl, DD, _, rfl, DGet.t hD hxk, _, rfl, ?_⟩
        cases ho : valV kvs (kPs e.2.1) with
        | some v2 =>
          refine ifF (fun z => nomatch (show false = true from z)) ?_
          refine ⟨⟨_, _, rfl⟩, tk, kp, kvs, hD, by omega, hv, fun e2 he2 => ?_⟩
          rw [et] at he2
          rcases List.mem_append.mp he2 with h1 | h1
          · exact hc e2 h1
          · rw [List.mem_singleton.mp h1]; exact ⟨v2, ho⟩
        | none =>
          refine ifT rfl ?_
          have hne := ok.ne e.1 (List.mem_map.mpr ⟨e, hem, rfl⟩)
          rw [placesN_of ok.nd hem] at hne
          refine ⟨_, rfl, _, rfl, _, rfl, x1, rfl, ⟨_, tnL hxG⟩, fun L nL => ?_⟩
          refine anyWalk (walk_tup (xs := e.2.1.map vn)) (fun j J => Same G' J ∧ ∃ ws, J L = some (.lst ws) ∧ Paired (D.rep J) ws ((e.2.1.take j).map amf)) ⟨smUpd nL, [], upd_same, .nil⟩ (fun j J _ z => tnL (z.1 _ _ hxG)) ?_ ?_
          · rintro j v0 J J' hj ⟨sj, ws, hL, hW⟩ ⟨rfl, hv0⟩
            obtain ⟨p, hp, rfl⟩ := vn_get hv0
            rw [List.length_map] at hj
            obtain ⟨v, hv1, hv2⟩ := hAv p (hne.2.2 p (List.mem_of_getElem? hp))
            have wl := Paired.length hW
            rw [List.length_map, List.length_take] at wl
            refine ⟨rfl, _, rfl, _, rfl, am, v, rfl, .inl ⟨kvA, .inl (p : Int), .inl (sj _ _ hAG), rfl, hv1.symm⟩, ws, hL, small1000 (by omega), smOver nL sj, ws ++ [v], upd_same, ?_⟩
            rw [List.take_add_one, hp, List.map_append]
            exact paired_snoc (D.allUpd hL (fun xs z => by cases z) hW) (D.upd hL (fun xs z => by cases z) (D.same sj (D.keep tk hv2)))
          rintro J ⟨sj, ws, hL2, hW⟩
          rw [List.length_map, List.take_length] at hW
          refine ⟨g, L, ad, ws, e.2.1.map amf, m, rfl, hAd, hL2, hW, fun z hz => ?_, ?_, fun v H' s' hv' => ?_⟩
          · obtain ⟨p, hp, rfl⟩ := List.mem_map.mp hz
            exact hm p
          · rw [List.length_map]
            have : e.2.1.length * m ≤ 60 * 1000 := Nat.mul_le_mul hne.2.1 hm1
            omega
          rw [tog_sum hne.1] at hv'
          have hv' : D.rep H' v (sumP ad amf e.2.1) := hv'
          have sG' := sj.trans s'
          refine ⟨by show 2 ≤ sizeLine; decide, fun t2 n2 => ?_⟩
          have s2 := smUpd (o := .tup [vn T, v]) n2
          have ht2 : upd H' t2 (.tup [vn T, v]) t2 = some (.tup [vn T, v]) := upd_same
          have hv2 := D.same s2 hv'
          have sG2 := sG'.trans s2
          generalize upd H' t2 (.tup [vn T, v]) = H2 at s2 ht2 hv2 sG2 ⊢
          have hD2 := sG2 _ _ hD
          have tkD : TK H2 (upd H2 DD (.dT (putK kvs (kPs e.2.1) (.ref t2)))) := tkUpd hD2 fun xs z => by cases z
          have hmd : MdV D tm ad amf H2 e.2.1 (.ref t2) := ⟨t2, v, rfl, by rw [hT e hem hs]; exact ht2, hv2⟩
          have kp2 : ∀ b o, b ≠ DD → HL b = some o → upd H2 DD (.dT (putK kvs (kPs e.2.1) (.ref t2))) b = some o := fun b o n z => by rw [upd_ne n]; exact sG2 _ _ (kp b o n z)
          refine ⟨_, rfl, _, rfl, DD, _, rfl, DPut.t hD2 (sG2 _ _ hxk) (bigLine (by omega)), ?_⟩
          exact ⟨⟨_, _, rfl⟩, tk.trans ((tkSame sG2).trans tkD), kp2, next ((tkSame sG2).trans tkD) kp2 upd_same (mdTK tkD hmd)⟩
    · rintro σ G ⟨⟨t6, t7, rfl⟩, tk, kp, kvs, hD, hlen, hv, hc⟩
      rw [kl, List.take_length] at hc
      have hLG := kp _ _ dnn.symm hL
      have tkU : TK G (upd G nn (.dK kvN)) := tkUpd hLG fun xs z => by cases z
      refine ⟨hLG, _, rfl, k DD _ (fun b o e => ?_) nD ⟨kvs, by rw [upd_ne dnn]; exact hD, by omega, fun k2 v2 z => ?_, hc⟩⟩
      · by_cases c : b = nn
        · rw [c, upd_same, ← hN, ← c]
          exact e
        · rw [upd_ne c]
          exact kp _ _ (nDL e) (keep c (sD _ _ e))
      · obtain ⟨x, a, b, c⟩ := hv k2 v2 z
        exact ⟨x, a, b, mdTK tkU c⟩
end
end Cn
namespace Cn
open PySem PySem.Spec PyProof.Rows L2 Ck
/-! a store's state at one time -/
def fieldsTa (h l a n m : V) : List (Str × V) := [("hierarchy", h), ("levels", l), ("amounts", a), ("notes", n), ("made", m)]
structure StX where
  s : Addr
  dx : Addr
  a : Addr
  b : Addr
  am : Addr
  nn : Addr
  md : Addr
abbrev ntOf (fo : Fo) (lv : List Nat) : NtL := heldNotes fo.ps fo.be fo.as lv fo.ps.length
/-- a state, F are the addresses it has for itself -/
structure StateAt {α : Type} (Z C : Addr) (D : Dom α) (F : Addr → Prop) (fo : Fo) (lv : List Nat) (ad : α → α → α) (am : Nat → α) (tm : List Nat → Nat) (X : StX) (H : Hp) : Prop where
  ins : H X.s = some (.ins Z X.dx (fieldsTa (.ref X.a) (.ref X.b) (.ref X.am) (.ref X.nn) (.ref X.md)))
  hie : FoAt C H X.a fo
  lvl : TN H X.b lv
  amts : AmsAt D H X.am am fo.be 60
  notes : ∃ kvs : List (L2.Key × V), H X.nn = some (.dK kvs) ∧ ByPlace H kvs (ntOf fo lv)
  made : MdAt D tm ad am (ntOf fo lv) H X.md
  own : F X.s ∧ F X.a ∧ F X.am ∧ F X.nn ∧ F X.md
  ne : X.am ≠ X.nn
theorem foTK {C a : Addr} {fo : Fo} {H H' : Hp} (k : TK H H') (ha : ∀ o, H a = some o → H' a = some o) (h : FoAt C H a fo) : FoAt C H' a fo := by
  obtain ⟨dx, ap, ab, aa, h0, h1, h2, h3⟩ := h
  exact ⟨dx, ap, ab, aa, ha _ h0, k _ _ h1, k _ _ h2, k _ _ h3⟩
theorem StateAt.keep {α : Type} {Z C : Addr} {D : Dom α} {F G : Addr → Prop} {fo : Fo} {lv : List Nat} {ad : α → α → α} {am : Nat → α} {tm : List Nat → Nat} {X : StX} {H H' : Hp} (S : StateAt Z C D F fo lv ad am tm X H) (k : TK H H') (kF : ∀ b o, F b → H b = some o → H' b = some o) (hG : ∀ b, F b → G b) : StateAt Z C D G fo lv ad am tm X H' := by
  obtain ⟨o1, o2, o3, o4, o5⟩ := S.own
  exact { ins := kF _ _ o1 S.ins, hie := foTK k (fun o => kF _ o o2) S.hie, lvl := k _ _ S.lvl,
          amts := amsTK k (fun _ e => kF _ _ o3 e) S.amts,
          notes := by obtain ⟨kvs, h1, h2⟩ := S.notes; exact ⟨kvs, kF _ _ o4 h1, byPlaceTK k h2⟩,
          made := mdKeep k (fun o => kF _ o o5) S.made, own := ⟨hG _ o1, hG _ o2, hG _ o3, hG _ o4, hG _ o5⟩, ne := S.ne }
theorem StateAt.same {α : Type} {Z C : Addr} {D : Dom α} {F : Addr → Prop} {fo : Fo} {lv : List Nat} {ad : α → α → α} {am : Nat → α} {tm : List Nat → Nat} {X : StX} {H H' : Hp} (S : StateAt Z C D F fo lv ad am tm X H) (s : Same H H') : StateAt Z C D F fo lv ad am tm X H' := S.keep (tkSame s) (fun b o _ e => s _ _ e) fun _ h => h
section
variable {P : Program} {w : World} {K : PySem.W.Frag} {mg : Str → Option Value} {base : Heap} {C Z : Addr}
/-- a state is made -/
def spTaI (Z : Addr) : Sp := fun vs H Q _ => ∃ (p dx : Addr) (h l a n m : V), vs = [.ref p, h, l, a, n, m] ∧ H p = some (.ins Z dx []) ∧ ∀ H', H' p = some (.ins Z dx (fieldsTa h l a n m)) → (∀ b, b ≠ p → H' b = H b) → Q .non H'
def nTaI : List Str := ["self", "hierarchy", "levels", "amounts", "notes", "made"]
theorem scTaI : FnScope nTaI ["self", "hierarchy", "levels", "amounts", "notes", "made"] (defScope sTa_init) := ⟨rfl, rfl, rfl, by decide +kernel, rfl, by decide +kernel, by decide +kernel⟩
theorem dTaI (U : TaT K mg Z) : ∃ f fd, FnOk P w K mg base CX0 1 f fd ["self", "hierarchy", "levels", "amounts", "notes", "made"] (spTaI Z) ∧ Mk K Z f ∧ Binds K fd ["self", "hierarchy", "levels", "amounts", "notes", "made"] [] := by
  obtain ⟨f, fd, F0, M, b⟩ := U.ini
  refine ⟨f, fd, ?_, M, b⟩
  refine F0.ok scTaI (fun vs H Q E h => ?_) (fun cdv A outer s H vs Q E hr h => ?_)
  · obtain ⟨p, dx, h, l, a, n, m, rfl, _⟩ := h
    rfl
  · obtain ⟨p, dx, h, l, a, n, m, rfl, hp, k⟩ := h
    refine ⟨_, pss_cons (ps_fld (pv 0) (pv 1) rfl) (pss_cons (ps_fld (pv 0) (pv 2) rfl) (pss_cons (ps_fld (pv 0) (pv 3) rfl) (pss_cons (ps_fld (pv 0) (pv 4) rfl) (pss_one (ps_fld (pv 0) (pv 5) rfl))))), ?_⟩
    refine ⟨_, rfl, _, rfl, p, Z, dx, [], rfl, hp, U.cl, U.n_hierarchy, (by show 0 < 1000; decide), ?_⟩
    refine ⟨_, rfl, _, rfl, p, Z, dx, _, rfl, upd_same, U.cl, U.n_levels, (by show 1 < 1000; decide), ?_⟩
    refine ⟨_, rfl, _, rfl, p, Z, dx, _, rfl, upd_same, U.cl, U.n_amounts, (by show 2 < 1000; decide), ?_⟩
    refine ⟨_, rfl, _, rfl, p, Z, dx, _, rfl, upd_same, U.cl, U.n_notes, (by show 3 < 1000; decide), ?_⟩
    refine ⟨_, rfl, _, rfl, p, Z, dx, _, rfl, upd_same, U.cl, U.n_made, (by show 4 < 1000; decide), ?_⟩
    exact k _ upd_same fun b n => by rw [upd_ne n, upd_ne n, upd_ne n, upd_ne n, upd_ne n]
/-- a state is made where its parts stand -/
theorem stateOf {α : Type} {D : Dom α} {fo : Fo} {lv : List Nat} {ad : α → α → α} {am : Nat → α} {tm : List Nat → Nat} {H G H' : Hp} {F : Addr → Prop} {p dx a b aa nn md : Addr} (hG : H' p = some (.ins Z dx (fieldsTa (.ref a) (.ref b) (.ref aa) (.ref nn) (.ref md)))) (kG : ∀ c, c ≠ p → H' c = G c) (np : H p = none) (s : ∀ c o, H c = some o → G c = some o)
    (h1 : FoAt C H a fo) (h2 : TN H b lv) (h3 : AmsAt D H aa am fo.be 60) (h4 : ∃ kvs : List (L2.Key × V), H nn = some (.dK kvs) ∧ ByPlace H kvs (ntOf fo lv)) (h5 : MdAt D tm ad am (ntOf fo lv) H md) (own : F p ∧ F a ∧ F aa ∧ F nn ∧ F md) (ne : aa ≠ nn) : StateAt Z C D F fo lv ad am tm ⟨p, dx, a, b, aa, nn, md⟩ H' := by
  have k : ∀ c o, H c = some o → H' c = some o := fun c o e => by
    rw [kG c (fun z => by rw [z, np] at e; cases e)]
    exact s c o e
  have tk : TK H H' := fun t xs e => k t _ e
  exact { ins := hG, hie := foTK tk (fun o => k _ o) h1, lvl := k _ _ h2, amts := amsTK tk (fun _ e => k _ _ e) h3,
          notes := by obtain ⟨kvs, a1, a2⟩ := h4; exact ⟨kvs, k _ _ a1, byPlaceTK tk a2⟩,
          made := mdKeep tk (fun o => k _ o) h5, own := own, ne := ne }
/-- the first state -/
def spFirstS {α : Type} (P : Program) (w : World) (K : PySem.W.Frag) (mg : Str → Option Value) (base : Heap) (Z C : Addr) (D : Dom α) : Sp := fun vs H Q _ => ∃ (a b am g : Addr) (fo : Fo) (lv : List Nat) (amf : Nat → α) (ad : α → α → α) (m : Nat), vs = [.ref a, .ref b, .ref am, .ref g] ∧ FoAt C H a fo ∧ FoOk fo ∧ TN H b lv ∧ Lv fo.ps lv ∧ AmsAt D H am amf fo.be 60 ∧ AddG P w K mg base D g ad ∧ (∀ q, D.sz (amf q) ≤ m) ∧ m ≤ 1000 ∧
  ∀ X H', Same H H' → H X.s = none → StateAt Z C D (fun x => x = a ∨ x = am ∨ (H x = none ∧ H' x ≠ none)) fo lv ad amf (fun _ => 0) X H' → Q (.ref X.s) H'
def nFirstS : List Str := ["forest", "plan", "amounts", "adding", "notes"]
theorem scFirstS : FnScope nFirstS ["forest", "plan", "amounts", "adding"] (defScope sFirstS) := ⟨rfl, rfl, rfl, by decide +kernel, rfl, by decide +kernel, by decide +kernel⟩
theorem dFirstS {α : Type} (D : Dom α) (B : Defs K mg C) (U : TaT K mg Z) : Def P w K mg base "first_state" 7 ["forest", "plan", "amounts", "adding"] (spFirstS P w K mg base Z C D) := by
  obtain ⟨fB, fdB, GB, gB, kB, bB⟩ := dByPlace (P := P) (w := w) (base := base) B
  obtain ⟨fA, fdA, GA, gA, kA, bA⟩ := dAllM (P := P) (w := w) (base := base) D B
  obtain ⟨fI, fdI, GI, MI, bI⟩ := dTaI (P := P) (w := w) (base := base) U
  have N := B.N
  have nd := scFirstS.nd
  refine def_of B.fst fun f fd F => ?_
  refine F.ok scFirstS (fun vs H Q E h => ?_) (fun cdv A outer s H vs Q E hr h => ?_)
  · obtain ⟨a, b, am, g, fo, lv, amf, ad, m, rfl, _⟩ := h
    rfl
  · obtain ⟨a, b, am, g, fo, lv, amf, ad, m, rfl, hF, ok, hb, hv, hA, hAd, hm, hm1, k⟩ := h
    refine ⟨_, pss_cons (ps_set (i := 4) nd rfl (Or.inl rfl) (pe_call GB hr (by rfl) gB kB bB .nil pass0 (pa_cons (pv 0) (pa_cons (pv 1) pa_nil))))
      (pss_one (ps_ret (pe_make MI GI (hr.mono (by decide)) (by rfl) U.mgC bI .nil pass0 (pa_cons (pv 0) (pa_cons (pv 1) (pa_cons (pv 2) (pa_cons (pv 4) (pa_cons (pe_call GA (hr.mono (by decide)) (by rfl) gA kA bA .nil pass0 (pa_cons (pv 2) (pa_cons (pv 4) (pa_cons pe_dnewT (pa_cons (pv 3) (pa_cons pe_int pa_nil)))))) pa_nil)))))))), ?_⟩
    refine ⟨_, rfl, _, rfl, a, b, fo, lv, rfl, hF, hb, ok, hv, fun nn kvN H1 s1 nN hN hB => ?_⟩
    refine ⟨_, rfl, _, rfl, _, rfl, _, rfl, _, rfl, _, rfl, fun E0 nE => ?_⟩
    have sE := smUpd (o := .dT []) nE
    have hE0 : upd H1 E0 (.dT []) E0 = some (.dT []) := upd_same
    generalize upd H1 E0 (.dT []) = H2 at sE hE0 ⊢
    have s2 := s1.trans sE
    have hA2 : AmsAt D H2 am amf fo.be 60 := amsTK (tkSame s2) (fun _ e => s2 _ _ e) hA
    have amn : am ≠ nn := fun z => by
      obtain ⟨kvs, e, _⟩ := hA
      rw [z, nN] at e
      cases e
    refine ⟨_, rfl, am, nn, E0, g, 0, 60, m, amf, ad, fo.be, ntOf fo lv, kvN, [], fun _ => 0, rfl, sE _ _ hN, byPlaceSame sE hB, ntOk_held ok, hA2, amn, hAd, hE0, fun e _ v z => (by cases z), fun e _ _ => rfl, hm, hm1, fun d H3 s3 nd3 hM => ?_⟩
    intro p dx np ndx ne
    have s4 := (smUpd (o := .own p) ndx)
    have np4 : (upd H3 dx (.own p)) p = none := by rw [upd_ne (Ne.symm ne)]; exact np
    have s5 := s4.trans (smUpd (o := .ins Z dx []) np4)
    have s13 := sE.trans s3
    have s03 := s1.trans s13
    refine ⟨p, dx, _, _, _, _, _, rfl, upd_same, fun H' hp hk => ?_⟩
    have sH : Same H3 H' := fun b o e => by
      rw [hk b (fun z => by rw [z, np] at e; cases e)]
      exact s5 _ _ e
    have sF := s03.trans sH
    have npH : H p = none := nBack s03 np
    refine ⟨rfl, k ⟨p, dx, a, b, am, nn, d⟩ H' sF npH (stateOf (H := H3) (G := H') hp (fun _ _ => rfl) np sH (foAt_same s03 hF) (s03 _ _ hb) (amsTK (tkSame s03) (fun _ e => s03 _ _ e) hA) ⟨kvN, s13 _ _ hN, byPlaceSame s13 hB⟩ hM ⟨.inr (.inr ⟨npH, by rw [hp]; exact fun z => nomatch z⟩), .inl rfl, .inr (.inl rfl), .inr (.inr ⟨nN, fun z => by rw [sH _ _ (s13 _ _ hN)] at z; cases z⟩), .inr (.inr ⟨nBack s2 nd3, fun z => by
      obtain ⟨kvs, e, _⟩ := hM
      rw [sH _ _ e] at z; cases z⟩)⟩ amn)⟩
/-- what the bearing places over an asking one hold together -/
def spTaA {α : Type} (P : Program) (w : World) (K : PySem.W.Frag) (mg : Str → Option Value) (base : Heap) (Z C : Addr) (D : Dom α) : Sp := fun vs H Q _ => ∃ (X : StX) (F : Addr → Prop) (fo : Fo) (lv : List Nat) (ad : α → α → α) (am : Nat → α) (tm : List Nat → Nat) (g : Addr) (q m : Nat), vs = [.ref X.s, .ref g, vn q] ∧ StateAt Z C D F fo lv ad am tm X H ∧ FoOk fo ∧ AddG P w K mg base D g ad ∧ (∀ q, D.sz (am q) ≤ m) ∧ m ≤ 20 ∧
  ∀ v H', Same H H' → D.opt H' v (togG ad ((readsN (ntOf fo lv) q).map fun s => sumP ad am (placesN (ntOf fo lv) s))) → Q v H'
def nTaA : List Str := ["self", "adding", "place", "s"]
theorem scTaA : FnScope nTaA ["self", "adding", "place"] (defScope sTa_answer) := ⟨rfl, rfl, rfl, by decide +kernel, rfl, by decide +kernel, by decide +kernel⟩
theorem sumP_szT {α : Type} {sz : α → Nat} {ad : α → α → α} (al : ∀ a b, sz (ad a b) ≤ sz a + sz b) {am : Nat → α} {m : Nat} (h : ∀ q, sz (am q) ≤ m) {ps : List Nat} (hl : ps.length ≤ 60) : sz (sumP ad am ps) ≤ 60 * m := by
  cases ps with
  | nil =>
    have := h 0
    show sz (am 0) ≤ 60 * m
    omega
  | cons p ps =>
    have h1 := togG_sz (sz := sz) (k := m) al (ls := (p :: ps).map am) (y := sumP ad am (p :: ps)) (fun l hl => by
      obtain ⟨q, _, rfl⟩ := List.mem_map.mp hl
      exact h q) rfl
    rw [List.length_map] at h1
    exact Nat.le_trans h1 (Nat.mul_le_mul_right m hl)
theorem dTaA {α : Type} (D : Dom α) (B : Defs K mg C) (U : TaT K mg Z) : ∃ f fd, FnOk P w K mg base CX0 3 f fd ["self", "adding", "place"] (spTaA P w K mg base Z C D) ∧ Meth K Z "answer" f ∧ Binds K fd ["self", "adding", "place"] [] := by
  obtain ⟨fT, fdT, GT, gT, kT, bT⟩ := dTogt (P := P) (w := w) (base := base) D B
  obtain ⟨fR, fdR, GR, gR, kR, bR⟩ := dReadAt (P := P) (w := w) (base := base) B
  obtain ⟨f, fd, F, M, b⟩ := U.m_answer
  have N := B.N
  have nd := scTaA.nd
  refine ⟨f, fd, ?_, M, b⟩
  refine F.ok scTaA (fun vs H Q E h => ?_) (fun cdv A outer s H vs Q E hr h => ?_)
  · obtain ⟨X, F, fo, lv, ad, am, tm, g, q, m, rfl, _⟩ := h
    rfl
  · obtain ⟨X, F, fo, lv, ad, am, tm, g, q, m, rfl, S, ok, hAd, hm, hm1, k⟩ := h
    have hu : (A.deeper (envOfC "State.answer" (defScope sTa_answer) s.heap.objs.size f cdv)).units + 1 < cLine := by have := hr.units; omega
    refine ⟨_, pss_one (ps_ret (pe_call GT hr (by rfl) gT kT bT .nil pass0 (pa_cons (pv 1) (pa_cons (pe_lc (own := [("s", 3)]) (g := gName 3) (tt := tYes) (te := tOp (rIxT K) (tDGet (tFld K (tVar 0) "made") (tOp (rIxT K) (tDGet (tFld K (tVar 0) "notes") (tVar 3)) (tC (.int 0)))) (tC (.int 1))) rfl nd (pi_list (pe_call GR (hr.mono (by decide)) (by rfl) gR kR bR .nil pass0 (pa_cons (pe_fld (pv 0) rfl) (pa_cons (pv 2) pa_nil))))
        (blkOk_by (N := nTaA) (sc := defScope sTa_answer) (by decide +kernel)) (fun _ _ _ _ _ => pg_name (i := 3) nd rfl (Or.inl rfl)) (fun _ _ _ _ _ => pts_nil) (fun _ _ _ _ _ => pe_ix (r := rIxT K) ix_tup (pe_dget hu (pe_fld (pv 0) rfl) (pe_ix (r := rIxT K) ix_tup (pe_dget hu (pe_fld (pv 0) rfl) (pv 3) (fun _ _ => rfl)) pe_int (fun _ _ => rfl)) (fun _ _ => rfl)) pe_int (fun _ _ => rfl))) pa_nil)))), ?_⟩
    have okN := ntOk_held (lv := lv) ok
    have fN : (fieldsTa (.ref X.a) (.ref X.b) (.ref X.am) (.ref X.nn) (.ref X.md)).lookup ("notes" : Str) = some (.ref X.nn) := rfl
    have fM : (fieldsTa (.ref X.a) (.ref X.b) (.ref X.am) (.ref X.nn) (.ref X.md)).lookup ("made" : Str) = some (.ref X.md) := rfl
    obtain ⟨kvN, hN, hB⟩ := S.notes
    refine ⟨_, rfl, _, rfl, X.s, Z, X.dx, _, _, rfl, S.ins, U.cl, U.n_notes, fN, _, rfl, X.nn, kvN, _, q, rfl, hN, hB, okN.nd, okN.len, fun r H1 s1 nr hr1 => ⟨r, rfl, ⟨_, .inl (.inl hr1)⟩, fun L nL => ?_⟩⟩
    have S1 := S.same s1
    have rl : (readsN (ntOf fo lv) q).length ≤ 60 := by
      unfold readsN
      rw [List.length_map]
      exact Nat.le_trans (List.length_filter_le _ _) okN.len
    refine anyWalk (walk_list (xs := (readsN (ntOf fo lv) q).map vn)) (fun j J => Same H1 J ∧ ∃ ws, J L = some (.lst ws) ∧ ws.length ≤ j ∧ Paired (D.rep J) ws (((readsN (ntOf fo lv) q).take j).map fun s => sumP ad am (placesN (ntOf fo lv) s))) ⟨smUpd nL, [], upd_same, Nat.le_refl _, .nil⟩ (fun j J _ z => .inl (.inl (z.1 _ _ hr1))) ?_ ?_
    · rintro j v0 J J' hj ⟨sj, ws, hL, wl, hW⟩ ⟨rfl, hv0⟩
      obtain ⟨s, hs, rfl⟩ := vn_get hv0
      rw [List.length_map] at hj
      have SJ := S1.same sj
      obtain ⟨kvN, hN, hB⟩ := SJ.notes
      have hsm := reads_sub (List.mem_of_getElem? hs)
      obtain ⟨e, he, rfl⟩ := List.mem_map.mp hsm
      obtain ⟨t, x, y, rs, hv, ht, hx, hy⟩ := ntGet hB okN.nd hsm
      rw [placesN_of okN.nd he] at hx
      have hxk : J' x = some (.tup ((kPs e.2.1).map kV)) := by rw [kPs_v]; exact hx
      obtain ⟨kvM, v2, hM, hMv, t2, x2, rfl, ht2, hx2⟩ := mdGet SJ.made he
      refine ⟨rfl, _, rfl, X.s, Z, X.dx, _, _, rfl, SJ.ins, U.cl, U.n_made, fM, _, rfl, X.s, Z, X.dx, _, _, rfl, SJ.ins, U.cl, U.n_notes, fN, _, rfl, X.nn, .ref t, rfl, .inl ⟨kvN, .inl (e.1 : Int), .inl hN, rfl, hv.symm⟩, t, _, (0 : Int), _, rfl, rfl, .inl (.inl ht), rfl, X.md, .ref t2, rfl, (by rw [← hMv]; exact DGet.t hM hxk), t2, _, (1 : Int), _, rfl, rfl, .inl (.inl ht2), rfl, ws, hL, small1000 (by omega), smOver nL sj, ws ++ [x2], upd_same, by rw [List.length_append]; show ws.length + 1 ≤ j + 1; omega, ?_⟩
      rw [List.take_add_one, hs, List.map_append]
      show Paired _ (ws ++ [x2]) (_ ++ [sumP ad am (placesN (ntOf fo lv) e.1)])
      rw [placesN_of okN.nd he]
      exact paired_snoc (D.allUpd hL (fun xs z => by cases z) hW) (D.upd hL (fun xs z => by cases z) hx2)
    rintro J ⟨sj, ws, hL, wl, hW⟩
    rw [List.length_map, List.take_length] at hW
    refine ⟨g, L, ad, ws, _, 60 * m, rfl, hAd, hL, hW, fun z hz => ?_, ?_, fun v H' s' hv' => k v H' (s1.trans (sj.trans s')) hv'⟩
    · obtain ⟨s, hs, rfl⟩ := List.mem_map.mp hz
      exact sumP_szT hAd.len hm (okN.ne s (reads_sub hs)).2.1
    · rw [List.length_map]
      have : (readsN (ntOf fo lv) q).length * (60 * m) ≤ 60 * (60 * 20) := Nat.mul_le_mul rl (Nat.mul_le_mul_left 60 hm1)
      omega
/-- how many notes changes make anew -/
def spAnewC {α : Type} (Z C : Addr) (D : Dom α) : Sp := fun vs H Q _ => ∃ (X : StX) (F : Addr → Prop) (fo : Fo) (lv : List Nat) (ad : α → α → α) (am : Nat → α) (tm : List Nat → Nat) (c : Addr) (us : List V) (cs : List (Nat × α)), vs = [.ref X.s, .ref c] ∧ StateAt Z C D F fo lv ad am tm X H ∧ FoOk fo ∧ SeqH H c us ∧ Paired (ChgAt D H) us cs ∧ cs.length ≤ 60 ∧
  ∀ H', Same H H' → Q (vn (holdsA (ntOf fo lv) (cs.map fun c => c.1)).length) H'
def nAnewC : List Str := ["state", "changes", "place", "_"]
theorem scAnewC : FnScope nAnewC ["state", "changes"] (defScope sAnewC) := ⟨rfl, rfl, rfl, by decide +kernel, rfl, by decide +kernel, by decide +kernel⟩
theorem dAnewC {α : Type} (D : Dom α) (B : Defs K mg C) (U : TaT K mg Z) : Def P w K mg base "anew_by_changes" 2 ["state", "changes"] (spAnewC Z C D) := by
  obtain ⟨fH, fdH, GH, gH, kH, bH⟩ := dHold1 (P := P) (w := w) (base := base) B
  have N := B.N
  have nd := scAnewC.nd
  refine def_of B.anc fun f fd F => ?_
  refine F.ok scAnewC (fun vs H Q E h => ?_) (fun cdv A outer s H vs Q E hr h => ?_)
  · obtain ⟨X, F, fo, lv, ad, am, tm, c, us, cs, rfl, _⟩ := h
    rfl
  · obtain ⟨X, F, fo, lv, ad, am, tm, c, us, cs, rfl, S, ok, hc, hP, hl, k⟩ := h
    refine ⟨_, pss_one (ps_ret (pe_callB call_len_seq (by rfl) N.is.len PySem.boot_len (pa_cons (pe_call GH hr (by rfl) gH kH bH .nil pass0 (pa_cons (pe_fld (pv 0) rfl) (pa_cons (pe_lc (own := [("place", 2), ("_", 3)]) (g := gTup K 2 (gCons (gName 2) (gCons (gName 3) gNil))) (tt := tYes) (te := tVar 2) rfl nd (show PI _ _ _ (iSeq K 1) from PI.orr (pi_list (pv 1)) (pi_tup (pv 1)))
        (blkOk_by (N := nAnewC) (sc := defScope sAnewC) (by decide +kernel)) (fun _ _ _ _ _ => pg_tup rfl (pgs_cons (pg_name (i := 2) nd rfl (Or.inl rfl)) (pgs_cons (pg_name (i := 3) nd rfl (Or.inl rfl)) pgs_nil))) (fun _ _ _ _ _ => pts_nil) (fun _ _ _ _ _ => pv 2)) pa_nil))) pa_nil))), ?_⟩
    have okN := ntOk_held (lv := lv) ok
    have fN : (fieldsTa (.ref X.a) (.ref X.b) (.ref X.am) (.ref X.nn) (.ref X.md)).lookup ("notes" : Str) = some (.ref X.nn) := rfl
    have ul : us.length = cs.length := Paired.length hP
    refine ⟨_, rfl, X.s, Z, X.dx, _, _, rfl, S.ins, U.cl, U.n_notes, fN, ?_⟩
    refine seqWalk rfl hc (Same.refl _) fun J wk L nL => ?_
    refine anyWalk wk (fun j G => Same H G ∧ G L = some (.lst (((cs.take j).map fun c => c.1).map vn))) ⟨smUpd nL, upd_same⟩ (fun j G _ z => z.1) ?_ ?_
    · rintro j x G G' hj ⟨sm, hL⟩ ⟨rfl, hx⟩
      obtain ⟨c1, hc1, t, y, rfl, ht, _⟩ := pairedGetQ hP hx
      refine ⟨t, _, rfl, .inl (.inl (sm _ _ ht)), rfl, _, _, rfl, _, _, rfl, rfl, rfl, _, rfl, _, hL, small1000 (by rw [List.length_map, List.length_map, List.length_take]; omega), smOver nL sm, ?_⟩
      rw [upd_same, List.take_add_one, hc1, List.map_append, List.map_append]
      rfl
    rintro G ⟨sm, hL⟩
    rw [ul, List.take_length] at hL
    have S1 := S.same sm
    obtain ⟨kvN, hN, hB⟩ := S1.notes
    refine ⟨X.nn, L, kvN, _, _, rfl, hN, hB, okN.nd, okN.len, hL, by rw [List.length_map]; exact hl, fun r H1 s1 nr hr1 => ?_⟩
    refine ⟨r, _, rfl, .inl (.inl (.inl hr1)), ?_⟩
    rw [List.length_map]
    exact k H1 (sm.trans s1)
end
end Cn
namespace Cn
open PySem PySem.Spec PyProof.Rows L2 Ck
/-! a state behind changes -/
section
variable {κ : Type} [DecidableEq κ]
theorem valV_at {k : κ} {v : V} : ∀ {kvs : List (κ × V)}, valV kvs k = some v → ∃ i : Nat, kvs[i]? = some (k, v)
  | [], h => by cases h
  | (k0, v0) :: kvs, h => by
    by_cases c : k0 = k
    · rw [valV_pos c] at h
      cases h
      exact ⟨0, by rw [c]; rfl⟩
    · rw [valV_neg c] at h
      obtain ⟨i, hi⟩ := valV_at h
      exact ⟨i + 1, hi⟩
theorem valV_have {k : κ} {v : V} : ∀ {kvs : List (κ × V)} {i : Nat}, kvs[i]? = some (k, v) → ∃ v2, valV kvs k = some v2
  | [], i, h => by rw [List.getElem?_nil] at h; cases h
  | (k0, v0) :: kvs, i, h => by
    by_cases c : k0 = k
    · exact ⟨v0, by rw [valV_pos c]⟩
    · cases i with
      | zero => cases h; exact absurd rfl c
      | succ i =>
        obtain ⟨v2, e⟩ := valV_have (kvs := kvs) h
        exact ⟨v2, by rw [valV_neg c]; exact e⟩
end
section
variable {α : Type}
def chgA (am : Nat → α) (cs : List (Nat × α)) : Nat → α := cs.foldl (fun f c i => if i = c.1 then c.2 else f i) am
theorem chgA_snoc {am : Nat → α} {cs : List (Nat × α)} {c : Nat × α} : chgA am (cs ++ [c]) = fun i => if i = c.1 then c.2 else chgA am cs i := by
  unfold chgA
  rw [List.foldl_append]
  rfl
theorem chgA_out {am : Nat → α} : ∀ {cs : List (Nat × α)} {q : Nat}, q ∉ cs.map (fun c => c.1) → chgA am cs q = am q := by
  intro cs
  suffices h : ∀ (cs : List (Nat × α)) (am : Nat → α) (q : Nat), q ∉ cs.map (fun c => c.1) → chgA am cs q = am q from fun {q} => h cs am q
  intro cs
  induction cs with
  | nil => intro am q _; rfl
  | cons c cs ih =>
    intro am q h
    rw [List.map_cons, List.mem_cons, not_or] at h
    show chgA (fun i => if i = c.1 then c.2 else am i) cs q = am q
    rw [ih _ q h.2, if_neg h.1]
theorem chgA_sz {sz : α → Nat} {m : Nat} : ∀ {cs : List (Nat × α)} {am : Nat → α}, (∀ q, sz (am q) ≤ m) → (∀ c ∈ cs, sz c.2 ≤ m) → ∀ q, sz (chgA am cs q) ≤ m
  | [], _, h, _, q => h q
  | c :: cs, am, h, h2, q => chgA_sz (cs := cs) (am := fun i => if i = c.1 then c.2 else am i) (fun q => by
      show sz (if q = c.1 then c.2 else am q) ≤ m
      by_cases e : q = c.1
      · rw [if_pos e]; exact h2 c List.mem_cons_self
      · rw [if_neg e]; exact h q) (fun c hc => h2 c (List.mem_cons_of_mem _ hc)) q
def hitC (cs : List (Nat × α)) (ps : List Nat) : Bool := cs.any fun c => decide (c.1 ∈ ps)
def tmC (tm : List Nat → Nat) (cs : List (Nat × α)) (T : Nat) : List Nat → Nat := fun ps => if hitC cs ps = true then T else tm ps
theorem sumP_out {ad : α → α → α} {am : Nat → α} {cs : List (Nat × α)} {ps : List Nat} (h : hitC cs ps = false) (ne : ps ≠ []) : sumP ad (chgA am cs) ps = sumP ad am ps := by
  have out : ∀ q ∈ ps, chgA am cs q = am q := fun q hq => chgA_out fun z => by
    obtain ⟨c, hc, e⟩ := List.mem_map.mp z
    have : hitC cs ps = true := List.any_eq_true.mpr ⟨c, hc, decide_eq_true (by rw [e]; exact hq)⟩
    rw [h] at this
    cases this
  cases ps with
  | nil => exact absurd rfl ne
  | cons p ps =>
    show (ps.map (chgA am cs)).foldl ad (chgA am cs p) = (ps.map am).foldl ad (am p)
    rw [out p List.mem_cons_self, List.map_congr_left fun q hq => out q (List.mem_cons_of_mem _ hq)]
end
section
variable {P : Program} {w : World} {K : PySem.W.Frag} {mg : Str → Option Value} {base : Heap} {C Z : Addr}
def spChgS {α : Type} (P : Program) (w : World) (K : PySem.W.Frag) (mg : Str → Option Value) (base : Heap) (Z C : Addr) (D : Dom α) : Sp := fun vs H Q _ => ∃ (X : StX) (F : Addr → Prop) (fo : Fo) (lv : List Nat) (ad : α → α → α) (am : Nat → α) (tm : List Nat → Nat) (c g : Addr) (T m : Nat) (us : List V) (cs : List (Nat × α)), vs = [.ref X.s, .ref c, .ref g, vn T] ∧ StateAt Z C D F fo lv ad am tm X H ∧ FoOk fo ∧ AddG P w K mg base D g ad ∧ SeqH H c us ∧ Paired (ChgAt D H) us cs ∧ (∀ c ∈ cs, c.1 ∈ fo.be) ∧ cs.length ≤ 60 ∧ (∀ q, D.sz (am q) ≤ m) ∧ (∀ c ∈ cs, D.sz c.2 ≤ m) ∧ m ≤ 1000 ∧
  ∀ X' H', Same H H' → H X'.s = none → X'.a = X.a → X'.b = X.b → StateAt Z C D (fun x => F x ∨ (H x = none ∧ H' x ≠ none)) fo lv ad (chgA am cs) (tmC tm cs T) X' H' → Q (.ref X'.s) H'
def nChgS : List Str := ["state", "changes", "adding", "time", "place", "amounts", "amount", "stay", "places", "made", "_"]
theorem scChgS : FnScope nChgS ["state", "changes", "adding", "time"] (defScope sChgS) := ⟨rfl, rfl, rfl, by decide +kernel, rfl, by decide +kernel, by decide +kernel⟩
theorem dChgS {α : Type} (D : Dom α) (B : Defs K mg C) (U : TaT K mg Z) : Def P w K mg base "changed_state" 4 ["state", "changes", "adding", "time"] (spChgS P w K mg base Z C D) := by
  obtain ⟨fA, fdA, GA, gA, kA, bA⟩ := dAllM (P := P) (w := w) (base := base) D B
  obtain ⟨fI, fdI, GI, MI, bI⟩ := dTaI (P := P) (w := w) (base := base) U
  have N := B.N
  have mA := B.zAny
  have nd := scChgS.nd
  refine def_of B.chst fun f fd F => ?_
  refine F.ok scChgS (fun vs H Q E h => ?_) (fun cdv A outer s H vs Q E hr h => ?_)
  · obtain ⟨X, F, fo, lv, ad, am, tm, c, g, T, m, us, cs, rfl, _⟩ := h
    rfl
  · obtain ⟨X, F, fo, lv, ad, am, tm, c, g, T, m, us, cs, rfl, S, ok, hAd, hc, hP, hbe, hl, hm, hmc, hm1, k⟩ := h
    have hu : (A.deeper (envOfC "changed_state" (defScope sChgS) s.heap.objs.size f cdv)).units + 1 < cLine := by have := hr.units; omega
    refine ⟨_, pss_cons (ps_lock (ps_setDcP (i := 5) (o0 := .dK []) (own := [("place", 4)]) (g := gName 4) (tt := tYes) (tk := tVar 4) (tv := tDGet (tFld K (tVar 0) "amounts") (tVar 4)) (.inl rfl) rfl hu nd rfl rfl (sw_dict rfl rfl rfl (by decide +kernel)) (pi_keys (pe_fld (pv 0) rfl))
          (blkOk_by (N := nChgS) (sc := defScope sChgS) (by decide +kernel)) (fun _ _ _ _ _ => pg_name (i := 4) nd rfl (Or.inl rfl)) (fun _ _ _ _ _ => pts_nil) (fun _ _ _ _ _ => pv 4) (fun _ _ _ _ _ => pe_dget hu (pe_fld (pv 0) rfl) (pv 4) (fun _ _ => rfl))))
      (pss_cons (ps_for PassesOwn.never rfl (show PI _ _ _ (iSeq K 1) from PI.orr (pi_list (pv 1)) (pi_tup (pv 1))) (pg_tup rfl (pgs_cons (pg_name (i := 4) nd rfl (Or.inl rfl)) (pgs_cons (pg_name (i := 6) nd rfl (Or.inl rfl)) pgs_nil)))
        (pss_one (ps_dput hu (pv 5) (pv 4) (pv 6) rfl)))
      (pss_cons (ps_set (i := 7) nd rfl (Or.inl rfl) pe_dnewT)
      (pss_cons (ps_lock (ps_for PassesOwn.never rfl (pi_keys (pe_fld (pv 0) rfl)) (pg_name (i := 8) nd rfl (Or.inr rfl))
        (pss_one (ps_if (pt_not (pt_val (pe_callB (r := rAny K) (cr_any rfl) (by rfl) mA (by decide +kernel) (pa_cons (pe_lc (own := [("place", 4), ("_", 10)]) (g := gTup K 2 (gCons (gName 4) (gCons (gName 10) gNil))) (tt := tYes) (te := tOp (rIn K false) (tVar 4) (tVar 8)) rfl nd (show PI _ _ _ (iSeq K 1) from PI.orr (pi_list (pv 1)) (pi_tup (pv 1)))
            (blkOk_by (N := nChgS) (sc := defScope sChgS) (by decide +kernel)) (fun _ _ _ _ _ => pg_tup rfl (pgs_cons (pg_name (i := 4) nd rfl (Or.inl rfl)) (pgs_cons (pg_name (i := 10) nd rfl (Or.inl rfl)) pgs_nil))) (fun _ _ _ _ _ => pts_nil) (fun _ _ _ _ _ => pe_cmpR (r := rIn K false) op_in_seq (pv 4) (pv 8) (by rfl))) pa_nil))))
          (pss_one (ps_dput hu (pv 7) (pv 8) (pe_dget hu (pe_fld (pv 0) rfl) (pv 8) (fun _ _ => rfl)) rfl)) pss_nil))))
      (pss_cons (ps_set (i := 9) nd rfl (Or.inl rfl) (pe_call GA hr (by rfl) gA kA bA .nil pass0 (pa_cons (pv 5) (pa_cons (pe_fld (pv 0) rfl) (pa_cons (pv 7) (pa_cons (pv 2) (pa_cons (pv 3) pa_nil)))))))
      (pss_one (ps_ret (pe_make MI GI (hr.mono (by decide)) (by rfl) U.mgC bI .nil pass0 (pa_cons (pe_fld (pv 0) rfl) (pa_cons (pe_fld (pv 0) rfl) (pa_cons (pv 5) (pa_cons (pe_fld (pv 0) rfl) (pa_cons (pv 9) pa_nil)))))))))))), ?_⟩
    have okN := ntOk_held (lv := lv) ok
    have ul : us.length = cs.length := Paired.length hP
    have fH : (fieldsTa (.ref X.a) (.ref X.b) (.ref X.am) (.ref X.nn) (.ref X.md)).lookup ("hierarchy" : Str) = some (.ref X.a) := rfl
    have fL : (fieldsTa (.ref X.a) (.ref X.b) (.ref X.am) (.ref X.nn) (.ref X.md)).lookup ("levels" : Str) = some (.ref X.b) := rfl
    have fA : (fieldsTa (.ref X.a) (.ref X.b) (.ref X.am) (.ref X.nn) (.ref X.md)).lookup ("amounts" : Str) = some (.ref X.am) := rfl
    have fN : (fieldsTa (.ref X.a) (.ref X.b) (.ref X.am) (.ref X.nn) (.ref X.md)).lookup ("notes" : Str) = some (.ref X.nn) := rfl
    have fM : (fieldsTa (.ref X.a) (.ref X.b) (.ref X.am) (.ref X.nn) (.ref X.md)).lookup ("made" : Str) = some (.ref X.md) := rfl
    obtain ⟨kvA, hA, hAl, hAv⟩ := S.amts
    -- a copy of the amounts
    refine ⟨X.am, _, hA, trivial, fun od => ?_⟩
    have hL : upd H X.am (.frz od (.dK kvA)) X.am = some (.frz od (.dK kvA)) := upd_same
    obtain ⟨HL, eL⟩ : ∃ HL, HL = upd H X.am (.frz od (.dK kvA)) := ⟨_, rfl⟩
    rw [← eL] at hL ⊢
    have insL : HL X.s = some (.ins Z X.dx (fieldsTa (.ref X.a) (.ref X.b) (.ref X.am) (.ref X.nn) (.ref X.md))) := by rw [eL, upd_ne (neK S.ins hA fun z => by cases z)]; exact S.ins
    refine ⟨_, rfl, X.s, Z, X.dx, _, _, rfl, insL, U.cl, U.n_amounts, fA, X.am, od, rfl, .inl ⟨_, hL, fun A2 nA2 => ?_⟩⟩
    refine anyWalk walk_keys (fun j G => Same HL G ∧ ∃ kvs : List (L2.Key × V), G A2 = some (.dK kvs) ∧ kvs.length ≤ j ∧ ∀ i k v, i < j → kvA[i]? = some (k, v) → valV kvs k = valV kvA k) ⟨smUpd nA2, [], upd_same, Nat.le_refl _, fun i k v z => absurd z (Nat.not_lt_zero _)⟩ (fun j G _ z => z.1 _ _ hL) ?_ ?_
    · rintro j x G G' hj ⟨sm, kvs, hD, hlen, hv⟩ ⟨rfl, kk, v, hkv, rfl⟩
      obtain ⟨v2, hv2⟩ := valV_have hkv
      refine ⟨rfl, _, rfl, _, rfl, X.s, Z, X.dx, _, _, rfl, sm _ _ insL, U.cl, U.n_amounts, fA, _, rfl, X.am, v2, rfl, .inl ⟨kvA, kk, .inr ⟨od, sm _ _ hL⟩, rfl, hv2.symm⟩, _, DPut.k hD (bigLine (by omega)), smOver nA2 sm, _, upd_same, Nat.le_trans putKLen (by omega), fun i k3 v3 hi h3 => ?_⟩
      rw [valV_put]
      by_cases c : k3 = kk
      · rw [if_pos c, c, hv2]
      · rw [if_neg c]
        refine hv i k3 v3 ?_ h3
        by_cases e : i = j
        · subst e
          rw [hkv] at h3
          cases h3
          exact absurd rfl c
        · omega
    rintro G ⟨sm, kv1, hD, hlen1, hv1⟩
    have A2am : A2 ≠ X.am := fun z => by rw [z, hL] at nA2; cases nA2
    refine ⟨sm _ _ hL, ?_⟩
    have s1 : Same H (upd G X.am (.dK kvA)) := lockSame hA eL sm
    have hA2 : upd G X.am (.dK kvA) A2 = some (.dK kv1) := by rw [upd_ne A2am]; exact hD
    have nA2H : H A2 = none := by rw [eL, upd_ne A2am] at nA2; exact nA2
    generalize upd G X.am (.dK kvA) = H1 at s1 hA2 ⊢
    have ams0 : ∀ q ∈ fo.be, ∃ v, valV kv1 (.inl (q : Int)) = some v ∧ D.rep H1 v (am q) := fun q hq => by
      obtain ⟨v, e1, e2⟩ := hAv q hq
      obtain ⟨i, hi⟩ := valV_at e1
      exact ⟨v, by rw [hv1 i _ _ (List.getElem?_eq_some_iff.mp hi).1 hi]; exact e1, D.same s1 e2⟩
    -- the changes
    refine seqWalk rfl hc s1 fun J wk => ?_
    refine for_it wk (fun j σ G => Same H G ∧ (∃ t4 t6 : Option V, σ = [some (.ref X.s), some (.ref c), some (.ref g), some (vn T), t4, some (.ref A2), t6, none, none, none, none]) ∧ ∃ kvs : List (L2.Key × V), G A2 = some (.dK kvs) ∧ kvs.length ≤ 60 ∧ ∀ q ∈ fo.be, ∃ v, valV kvs (.inl (q : Int)) = some v ∧ D.rep G v (chgA am (cs.take j) q))
      ⟨s1, ⟨_, _, rfl⟩, kv1, hA2, by omega, ams0⟩ (fun j σ G _ z => z.1) ?_ ?_
    · rintro j x σ G G' hj ⟨sm, ⟨t4, t6, rfl⟩, kvs, hD, hlen, hv⟩ ⟨rfl, hx⟩
      obtain ⟨c1, hc1, t, y, rfl, ht, hy⟩ := pairedGetQ hP hx
      have hcb := hbe c1 (List.mem_of_getElem? hc1)
      have tkD : TK G' (upd G' A2 (.dK (putK kvs (.inl (c1.1 : Int)) y))) := tkUpd hD fun xs z => by cases z
      refine ⟨t, _, rfl, .inl (.inl (sm _ _ ht)), rfl, _, _, rfl, _, _, rfl, rfl, _, rfl, _, rfl, _, rfl, A2, _, rfl, DPut.k (k := .inl (c1.1 : Int)) hD (bigLine (by omega)), smOver nA2H sm, ⟨_, _, rfl⟩, _, upd_same, ?_, fun q hq => ?_⟩
      · obtain ⟨v0, e0, _⟩ := hv c1.1 hcb
        rw [putK_old e0]
        exact hlen
      · rw [valV_put, List.take_add_one, hc1]
        show ∃ v, _ ∧ D.rep _ v (chgA am (cs.take j ++ [c1]) q)
        rw [chgA_snoc]
        show ∃ v, _ ∧ D.rep _ v (if q = c1.1 then c1.2 else chgA am (cs.take j) q)
        by_cases e : q = c1.1
        · rw [if_pos (by rw [e]), if_pos e]
          exact ⟨y, rfl, D.keep tkD (D.same sm hy)⟩
        · rw [if_neg (fun z => e (by injection z with z; omega)), if_neg e]
          obtain ⟨v, e1, e2⟩ := hv q hq
          exact ⟨v, e1, D.keep tkD e2⟩
    rintro σ G2 ⟨s2, ⟨t4, t6, rfl⟩, kv2, hA2, hlen2, hv2⟩
    rw [ul, List.take_length] at hv2
    -- what stays
    refine fun DS nDS => ?_
    have sS := smUpd (o := .dT []) nDS
    have hS0 : upd G2 DS (.dT []) DS = some (.dT []) := upd_same
    have nDSH : H DS = none := nBack s2 nDS
    generalize upd G2 DS (.dT []) = H3 at sS hS0 ⊢
    have s3 := s2.trans sS
    have S3 := S.same s3
    obtain ⟨kvM, hM, hMl, hMg, hMc⟩ := S3.made
    refine ⟨X.md, _, hM, trivial, fun od => ?_⟩
    have hL : upd H3 X.md (.frz od (.dT kvM)) X.md = some (.frz od (.dT kvM)) := upd_same
    have tkL : TK H3 (upd H3 X.md (.frz od (.dT kvM))) := tkUpd hM fun xs z => by cases z
    obtain ⟨HL2, eL2⟩ : ∃ HL2, HL2 = upd H3 X.md (.frz od (.dT kvM)) := ⟨_, rfl⟩
    rw [← eL2] at hL tkL ⊢
    have insL : HL2 X.s = some (.ins Z X.dx (fieldsTa (.ref X.a) (.ref X.b) (.ref X.am) (.ref X.nn) (.ref X.md))) := by rw [eL2, upd_ne (neK S3.ins hM fun z => by cases z)]; exact S3.ins
    have mdH : ∃ kvs, H X.md = some (.dT kvs) := let ⟨kvs, e, _⟩ := S.made; ⟨kvs, e⟩
    have dsm : DS ≠ X.md := fun z => by obtain ⟨kvs, e⟩ := mdH; rw [← z, nDSH] at e; cases e
    have hSL : HL2 DS = some (.dT []) := by rw [eL2, upd_ne dsm]; exact hS0
    have inH : ∀ {b : Addr} {o : HO}, b ≠ X.md → H3 b = some o → HL2 b = some o := fun n e => by rw [eL2, upd_ne n]; exact e
    have sds : X.s ≠ DS := fun z => by have e := S.ins; rw [z, nDSH] at e; cases e
    have seqL : SeqH HL2 c us := by
      have hc3 := seqSame s3 hc
      rcases hc3 with h | h
      · exact .inl (inH (neK h hM fun z => by cases z) h)
      · exact .inr (inH (neK h hM fun z => by cases z) h)
    have cds : c ≠ DS := fun z => by
      rcases hc with h | h <;> (rw [z, nDSH] at h; cases h)
    refine ⟨_, rfl, X.s, Z, X.dx, _, _, rfl, insL, U.cl, U.n_made, fM, X.md, od, rfl, .inr ⟨_, hL, ?_⟩⟩
    refine for_it walk_keysT (fun j σ G => (∃ t8 : Option V, σ = [some (.ref X.s), some (.ref c), some (.ref g), some (vn T), t4, some (.ref A2), t6, some (.ref DS), t8, none, none]) ∧ (∀ b o, b ≠ DS → HL2 b = some o → G b = some o) ∧ ∃ kvs : List (List L2.Key × V), G DS = some (.dT kvs) ∧ kvs.length ≤ j ∧ (∀ e ∈ ntOf fo lv, ∀ v, valV kvs (kPs e.2.1) = some v → MdV D (tmC tm cs T) ad (chgA am cs) G e.2.1 v) ∧ ∀ i ps v, i < j → kvM[i]? = some (kPs ps, v) → hitC cs ps = false → ∃ v2, valV kvs (kPs ps) = some v2)
      ⟨⟨_, rfl⟩, fun b o _ e => e, [], hSL, Nat.le_refl _, fun e _ v z => (by cases z), fun i ps v z => absurd z (Nat.not_lt_zero _)⟩ (fun j σ G _ z => z.2.1 _ _ dsm.symm hL) ?_ ?_
    · rintro j x σ G G' hj ⟨⟨t8, rfl⟩, kp, kvs, hD, hlen, hv, hh⟩ ⟨rfl, kk, v, q, hkv, rfl, hq⟩
      obtain ⟨v2, hv2'⟩ := valV_have hkv
      obtain ⟨e, hem, hke, hmd⟩ := hMg kk v2 hv2'
      subst hke
      rw [kPs_v] at hq
      have hq : TN G' q e.2.1 := hq
      have hqk : G' q = some (.tup ((kPs e.2.1).map kV)) := by rw [kPs_v]; exact hq
      have tkG : TK HL2 G' := fun t xs z => kp t _ (fun y => by rw [y, hSL] at z; cases z) z
      have seqG : SeqH G' c us := by
        rcases seqL with h | h
        · exact .inl (kp _ _ cds h)
        · exact .inr (kp _ _ cds h)
      have nlen : kvM.length ≤ 60 := Nat.le_trans hMl okN.len
      refine seqWalk rfl seqG (Same.refl _) fun J wk L nL => ?_
      refine anyWalk wk (fun j J => Same G' J ∧ J L = some (.lst (((cs.take j).map fun c => decide (c.1 ∈ e.2.1)).map V.bl))) ⟨smUpd nL, upd_same⟩ (fun j J _ z => z.1) ?_ ?_
      · rintro j x J J' hj ⟨sj, hL⟩ ⟨rfl, hx⟩
        obtain ⟨c1, hc1, t, y, rfl, ht, hy⟩ := pairedGetQ hP hx
        have htG := tkG _ _ (tkL _ _ (s3 _ _ ht))
        refine ⟨t, _, rfl, .inl (.inl (sj _ _ htG)), rfl, _, _, rfl, _, _, rfl, rfl, rfl, _, rfl, _, rfl, q, _, rfl, .inr (tnL (sj _ _ hq)), rfl, vn_flat _, ?_⟩
        refine ⟨_, hL, small1000 (by rw [List.length_map, List.length_map, List.length_take]; omega), smOver nL sj, ?_⟩
        rw [upd_same, List.take_add_one, hc1, List.map_append, List.map_append]
        show some (HO.lst (_ ++ [V.bl (inV (vn c1.1) (e.2.1.map vn))])) = some (HO.lst (_ ++ [V.bl (decide (c1.1 ∈ e.2.1))]))
        rw [inV_vn]
      rintro J ⟨sj, hLL⟩
      rw [ul, List.take_length] at hLL
      refine ⟨L, _, rfl, .inl (.inl hLL), ?_⟩
      have ea : (cs.map fun c => decide (c.1 ∈ e.2.1)).any id = hitC cs e.2.1 := by
        unfold hitC
        rw [List.any_map]
        rfl
      rw [ea]
      refine ⟨_, rfl, ?_⟩
      have hDJ := sj _ _ hD
      have kpJ : ∀ b o, b ≠ DS → HL2 b = some o → J b = some o := fun b o n z => sj _ _ (kp b o n z)
      have hvJ : ∀ e ∈ ntOf fo lv, ∀ v, valV kvs (kPs e.2.1) = some v → MdV D (tmC tm cs T) ad (chgA am cs) J e.2.1 v := fun e he v z => mdTK (tkSame sj) (hv e he v z)
      have tkJ : TK HL2 J := tkG.trans (tkSame sj)
      cases hc2 : hitC cs e.2.1 with
      | true =>
        refine ifF (by decide) ?_
        refine ⟨⟨_, rfl⟩, kpJ, kvs, hDJ, by omega, hvJ, fun i ps v3 hi h3 hn => ?_⟩
        by_cases ei : i = j
        · subst ei
          rw [hkv] at h3
          have : kPs e.2.1 = kPs ps := congrArg Prod.fst (Option.some.inj h3)
          rw [← kPs_inj this, hc2] at hn
          cases hn
        · exact hh i ps v3 (by omega) h3 hn
      | false =>
        refine ifT rfl ?_
        have tkD : TK J (upd J DS (.dT (putK kvs (kPs e.2.1) v2))) := tkUpd hDJ fun xs z => by cases z
        have hne := okN.ne e.1 (List.mem_map.mpr ⟨e, hem, rfl⟩)
        rw [placesN_of okN.nd hem] at hne
        have hmd2 : MdV D (tmC tm cs T) ad (chgA am cs) J e.2.1 v2 := by
          obtain ⟨t, y, h1, h2, h3⟩ := mdTK (tkL.trans tkJ) hmd
          refine ⟨t, y, h1, ?_, ?_⟩
          · rw [show tmC tm cs T e.2.1 = tm e.2.1 from if_neg (by rw [hc2]; decide)]; exact h2
          · rw [sumP_out hc2 hne.1]; exact h3
        refine ⟨_, rfl, X.s, Z, X.dx, _, _, rfl, kpJ _ _ sds insL, U.cl, U.n_made, fM, _, rfl, X.md, v2, rfl, .inr ⟨kvM, kPs e.2.1, q, .inr ⟨od, kpJ _ _ dsm.symm hL⟩, rfl, sj _ _ hqk, hv2'.symm⟩, _, rfl, _, rfl, DS, _, rfl, DPut.t hDJ (sj _ _ hqk) (bigLine (by omega)), ⟨_, rfl⟩, fun b o n z => by rw [upd_ne n]; exact kpJ b o n z, _, upd_same, Nat.le_trans putTLen (by omega), fun e2 he2 v3 z => ?_, fun i ps v3 hi h3 hn => ?_⟩
        · rw [valV_put] at z
          by_cases c : kPs e2.2.1 = kPs e.2.1
          · rw [if_pos c] at z
            cases z
            rw [kPs_inj c]
            exact mdTK tkD hmd2
          · rw [if_neg c] at z
            exact mdTK tkD (hvJ e2 he2 v3 z)
        · rw [valV_put]
          by_cases c : kPs ps = kPs e.2.1
          · rw [if_pos c]; exact ⟨_, rfl⟩
          · rw [if_neg c]
            refine hh i ps v3 ?_ h3 hn
            by_cases ei : i = j
            · subst ei
              rw [hkv] at h3
              exact absurd (congrArg Prod.fst (Option.some.inj h3)).symm c
            · omega
    rintro σ G4 ⟨⟨t8, rfl⟩, kp, kvS, hS4, hlen4, hv4, hh4⟩
    refine ⟨kp _ _ dsm.symm hL, ?_⟩
    have tkU : TK G4 (upd G4 X.md (.dT kvM)) := tkUpd (kp _ _ dsm.symm hL) fun xs z => by cases z
    have s5 : Same H (upd G4 X.md (.dT kvM)) := fun b o e => by
      by_cases cb : b = X.md
      · rw [cb, upd_same, ← hM, ← cb]
        exact s3 _ _ e
      · rw [upd_ne cb]
        exact kp _ _ (fun z => by rw [z, nDSH] at e; cases e) (inH cb (s3 _ _ e))
    have hA5 : upd G4 X.md (.dT kvM) A2 = some (.dK kv2) := by
      have a1 : A2 ≠ X.md := neK (sS _ _ hA2) hM fun z => by cases z
      rw [upd_ne a1]
      exact kp _ _ (fun z => by rw [z, nDS] at hA2; cases hA2) (inH a1 (sS _ _ hA2))
    have tk25 : TK G2 (upd G4 X.md (.dT kvM)) := fun t xs e => tkU _ _ (kp _ _ (fun z => by rw [z, nDS] at e; cases e) (tkL _ _ (sS _ _ e)))
    have hS5 : upd G4 X.md (.dT kvM) DS = some (.dT kvS) := by rw [upd_ne dsm]; exact hS4
    have hv5 : ∀ e ∈ ntOf fo lv, ∀ v, valV kvS (kPs e.2.1) = some v → MdV D (tmC tm cs T) ad (chgA am cs) (upd G4 X.md (.dT kvM)) e.2.1 v := fun e he v z => mdTK tkU (hv4 e he v z)
    have ams5 : AmsAt D (upd G4 X.md (.dT kvM)) A2 (chgA am cs) fo.be 60 := ⟨kv2, hA5, hlen2, fun q hq => by
      obtain ⟨v, e1, e2⟩ := hv2 q hq
      exact ⟨v, e1, D.keep tk25 e2⟩⟩
    generalize upd G4 X.md (.dT kvM) = H5 at s5 hA5 hS5 hv5 ams5 ⊢
    have S5 := S.same s5
    obtain ⟨kvN, hN, hB⟩ := S5.notes
    have a2n : A2 ≠ X.nn := fun z => by
      obtain ⟨kvs, e, _⟩ := S.notes
      rw [← z, nA2H] at e
      cases e
    refine ⟨_, rfl, _, rfl, X.s, Z, X.dx, _, _, rfl, S5.ins, U.cl, U.n_notes, fN, _, rfl, _, rfl, _, rfl, ?_⟩
    refine ⟨A2, X.nn, DS, g, T, 60, m, chgA am cs, ad, fo.be, ntOf fo lv, kvN, kvS, tmC tm cs T, rfl, hN, hB, okN, ams5, a2n, hAd, hS5, hv5, fun e he z => ?_, chgA_sz hm hmc, hm1, fun d H6 s6 nd6 hM6 => ?_⟩
    · obtain ⟨v, hv⟩ := hMc e he
      obtain ⟨i, hi⟩ := valV_at hv
      cases hc2 : hitC cs e.2.1 with
      | true => exact if_pos hc2
      | false =>
        obtain ⟨v2, e2⟩ := hh4 i _ v (List.getElem?_eq_some_iff.mp hi).1 hi hc2
        rw [z] at e2
        cases e2
    have S6 := S5.same s6
    refine ⟨_, rfl, X.s, Z, X.dx, _, _, rfl, S6.ins, U.cl, U.n_hierarchy, fH, _, rfl, X.s, Z, X.dx, _, _, rfl, S6.ins, U.cl, U.n_levels, fL, _, rfl, _, rfl, X.s, Z, X.dx, _, _, rfl, S6.ins, U.cl, U.n_notes, fN, _, rfl, ?_⟩
    intro p dx np ndx ne
    have s7 := (smUpd (o := .own p) ndx)
    have np7 : (upd H6 dx (.own p)) p = none := by rw [upd_ne (Ne.symm ne)]; exact np
    have s8 := s7.trans (smUpd (o := .ins Z dx []) np7)
    refine ⟨p, dx, _, _, _, _, _, rfl, upd_same, fun H' hp hk => ⟨rfl, ?_⟩⟩
    have sH : Same H6 H' := fun b o e => by
      rw [hk b (fun z => by rw [z, np] at e; cases e)]
      exact s8 _ _ e
    have s56 := s5.trans s6
    have sF := s56.trans sH
    have npH : H p = none := nBack s56 np
    obtain ⟨o1, o2, o3, o4, o5⟩ := S.own
    refine k ⟨p, dx, X.a, X.b, A2, X.nn, d⟩ H' sF npH rfl rfl (stateOf (H := H6) (G := H') hp (fun _ _ => rfl) np sH S6.hie S6.lvl (amsTK (tkSame s6) (fun _ e => s6 _ _ e) ams5) S6.notes hM6 ⟨.inr ⟨npH, by rw [hp]; exact fun z => nomatch z⟩, .inl o2, .inr ⟨nA2H, fun z => by rw [sH _ _ (s6 _ _ hA5)] at z; cases z⟩, .inl o4, .inr ⟨nBack s5 nd6, fun z => by
      obtain ⟨kvs, e, _⟩ := hM6
      rw [sH _ _ e] at z; cases z⟩⟩ a2n)
end
end Cn
namespace Cn
open PySem PySem.Spec PyProof.Rows L2 Ck
/-! a store -/
theorem natPerm {ys : List Int} {W : List Nat} (h : ys.Perm (W.map fun (n : Nat) => (n : Int))) (s : ys.Pairwise (· ≤ ·)) : ∃ zs : List Nat, ys = zs.map (fun (n : Nat) => (n : Int)) ∧ zs.Perm W ∧ zs.Pairwise (· ≤ ·) := by
  have nn : ∀ y ∈ ys, 0 ≤ y := fun y hy => by
    obtain ⟨n, _, e⟩ := List.mem_map.mp (h.mem_iff.mp hy)
    omega
  have e : ys = (ys.map Int.toNat).map (fun (n : Nat) => (n : Int)) := by
    rw [List.map_map]
    conv => lhs; rw [← List.map_id ys]
    exact List.map_congr_left fun y hy => by
      have := nn y hy
      show y = ((y.toNat : Nat) : Int)
      omega
  refine ⟨ys.map Int.toNat, e, ?_, ?_⟩
  · have := h.map Int.toNat
    rw [List.map_map] at this
    have e2 : W.map (Int.toNat ∘ fun (n : Nat) => (n : Int)) = W := by
      conv => rhs; rw [← List.map_id W]
      exact List.map_congr_left fun n _ => by show ((n : Int)).toNat = n; omega
    rw [e2] at this
    exact this
  · refine List.pairwise_map.mpr (s.imp fun {a b} h => ?_)
    omega
theorem srt_uniq {ys zs W : List Nat} (h1 : ys.Perm W) (h2 : zs.Perm W) (s1 : ys.Pairwise (· ≤ ·)) (s2 : zs.Pairwise (· ≤ ·)) : ys = zs :=
  List.Perm.eq_of_pairwise (le := (· ≤ ·)) (fun x y _ _ p q => Nat.le_antisymm p q) s1 s2 (h1.trans h2.symm)
/-- whether each watched place is fresh, in a dict -/
def kvF (W : List Nat) (fl : Nat → Bool) : List (L2.Key × V) := W.map fun (q : Nat) => ((.inl (q : Int) : L2.Key), V.bl (fl q))
theorem kvF_len {W : List Nat} {fl : Nat → Bool} : (kvF W fl).length = W.length := List.length_map _
theorem kvF_at {W : List Nat} {fl : Nat → Bool} {i : Nat} {k : L2.Key} {v : V} (h : (kvF W fl)[i]? = some (k, v)) : ∃ q, W[i]? = some q ∧ k = .inl (q : Int) ∧ v = .bl (fl q) := by
  unfold kvF at h
  rw [List.getElem?_map] at h
  obtain ⟨q, h1, h2⟩ := Option.map_eq_some_iff.mp h
  cases h2
  exact ⟨q, h1, rfl, rfl⟩
theorem kvF_val {W : List Nat} {fl : Nat → Bool} {q : Nat} : valV (kvF W fl) (.inl (q : Int)) = if q ∈ W then some (.bl (fl q)) else none := by
  unfold kvF
  induction W with
  | nil => rfl
  | cons x W ih =>
    rw [List.map_cons]
    by_cases c : x = q
    · rw [valV_pos (by rw [c]), if_pos (by rw [c]; exact List.mem_cons_self), c]
    · rw [valV_neg (fun z => c (by injection z with z; omega)), ih]
      by_cases d : q ∈ W
      · rw [if_pos d, if_pos (List.mem_cons_of_mem _ d)]
      · rw [if_neg d, if_neg (fun z => (List.mem_cons.mp z).elim (fun e => c e.symm) d)]
theorem kvF_congr {W : List Nat} {fl fl' : Nat → Bool} (h : ∀ q ∈ W, fl q = fl' q) : kvF W fl = kvF W fl' := List.map_congr_left fun q hq => by rw [h q hq]
theorem kvF_snoc {W : List Nat} {fl : Nat → Bool} {q : Nat} {b : Bool} (h : q ∉ W) : putK (kvF W fl) (.inl (q : Int)) (.bl b) = kvF (W ++ [q]) fun i => if i = q then b else fl i := by
  rw [putK_new _ (by rw [kvF_val, if_neg h])]
  have e1 : kvF W fl = kvF W fun i => if i = q then b else fl i := kvF_congr fun x hx => by rw [if_neg (fun z => h (by rw [← z]; exact hx))]
  rw [e1]
  unfold kvF
  rw [List.map_append]
  show _ = _ ++ [((.inl (q : Int) : L2.Key), V.bl (if q = q then b else fl q))]
  rw [if_pos rfl]
structure SoX where
  p : Addr
  dx : Addr
  fr : Addr
  mkA : Addr
  st : StX
structure Sv (α : Type) where
  fo : Fo
  lv : List Nat
  am : Nat → α
  tm : List Nat → Nat
  T : Nat
  tc : Nat
  rd : Nat
  nm : Nat
  W : List Nat
  fl : Nat → Bool
def fieldsSo (g s T tc rd fr mk nm : V) : List (Str × V) := [("_adding", g), ("_state", s), ("_time", T), ("_touches", tc), ("_reads", rd), ("_fresh", fr), ("_marked", mk), ("_next_mark", nm)]
abbrev fldS {α : Type} (g : Addr) (X : SoX) (S : Sv α) : List (Str × V) := fieldsSo (.ref g) (.ref X.st.s) (vn S.T) (vn S.tc) (vn S.rd) (.ref X.fr) (.ref X.mkA) (vn S.nm)
/-- a store, as it stands; F are the addresses of its parts -/
structure StoreAt {α : Type} (Zs Zt C : Addr) (D : Dom α) (F : Addr → Prop) (ad : α → α → α) (g : Addr) (X : SoX) (S : Sv α) (H : Hp) : Prop where
  ins : H X.p = some (.ins Zs X.dx (fldS g X S))
  sta : StateAt Zt C D F S.fo S.lv ad S.am S.tm X.st H
  frs : H X.fr = some (.dK (kvF S.W S.fl))
  own : F X.fr ∧ ¬ F X.p
  live : ∀ b, F b → H b ≠ none
  ok : FoOk S.fo
  lvo : Lv S.fo.ps S.lv
  wn : S.W.Nodup ∧ ∀ q ∈ S.W, q ∈ S.fo.as
theorem nodupLt : ∀ {n : Nat} {W : List Nat}, W.Nodup → (∀ x ∈ W, x < n) → W.length ≤ n := fun {n W} nd h => by
  have := nd.length_le_of_subset (l₂ := List.range n) fun x hx => List.mem_range.mpr (h x hx)
  rw [List.length_range] at this
  exact this
theorem StoreAt.w60 {α : Type} {Zs Zt C : Addr} {D : Dom α} {F : Addr → Prop} {ad : α → α → α} {g : Addr} {X : SoX} {S : Sv α} {H : Hp} (A : StoreAt Zs Zt C D F ad g X S H) : S.W.length ≤ 60 :=
  Nat.le_trans (nodupLt A.wn.1 fun x hx => A.ok.al x (A.wn.2 x hx)) A.ok.l1
/-- what comes next: a store's parts stand, new ones among them, and its instance is written -/
theorem StoreAt.next {α : Type} {Zs Zt C : Addr} {D : Dom α} {F : Addr → Prop} {ad : α → α → α} {g : Addr} {X : SoX} {S : Sv α} {H H1 H' : Hp} (A : StoreAt Zs Zt C D F ad g X S H) (X' : SoX) (S' : Sv α) (ep : X'.p = X.p) (s1 : Same H H1)
    (st' : StateAt Zt C D (fun x => F x ∨ (H x = none ∧ H1 x ≠ none)) S'.fo S'.lv ad S'.am S'.tm X'.st H1) (fr' : H1 X'.fr = some (.dK (kvF S'.W S'.fl))) (frF : F X'.fr ∨ H X'.fr = none) (hp : H' X.p = some (.ins Zs X'.dx (fldS g X' S'))) (hk : ∀ b, b ≠ X.p → H' b = H1 b)
    (ok : FoOk S'.fo) (lvo : Lv S'.fo.ps S'.lv) (wn : S'.W.Nodup ∧ ∀ q ∈ S'.W, q ∈ S'.fo.as) : StoreAt Zs Zt C D (fun x => F x ∨ (H x = none ∧ H' x ≠ none)) ad g X' S' H' ∧ Kept X.p H H' ∧ TK H H' := by
  have hp1 := s1 _ _ A.ins
  have nF : ∀ b, (F b ∨ (H b = none ∧ H1 b ≠ none)) → b ≠ X.p := fun b h z => by
    rcases h with h | ⟨h, _⟩
    · exact A.own.2 (by rw [← z]; exact h)
    · rw [z, A.ins] at h; cases h
  have tk1 : TK H1 H' := fun t xs e => by
    rw [hk t (fun z => by rw [z, hp1] at e; cases e)]
    exact e
  have gF : ∀ b, (F b ∨ (H b = none ∧ H1 b ≠ none)) → (F b ∨ (H b = none ∧ H' b ≠ none)) := fun b h => by
    rcases id h with h1 | ⟨h1, h2⟩
    · exact .inl h1
    · exact .inr ⟨h1, by rw [hk b (nF b h)]; exact h2⟩
  have frn : X'.fr ≠ X.p := fun z => by rw [z, hp1] at fr'; cases fr'
  refine ⟨?_, fun b o n e => by rw [hk b n]; exact s1 _ _ e, (tkSame s1).trans tk1⟩
  exact { ins := by rw [ep]; exact hp, sta := st'.keep tk1 (fun b o h e => by rw [hk b (nF b h)]; exact e) gF,
          frs := by rw [hk _ frn]; exact fr',
          own := ⟨frF.imp (fun z => z) fun z => ⟨z, by rw [hk _ frn, fr']; exact (fun y => nomatch y)⟩, fun z => by
            rw [ep] at z
            rcases z with z | ⟨z, _⟩
            · exact A.own.2 z
            · rw [A.ins] at z; cases z⟩,
          live := fun b h => by
            rcases h with h | ⟨_, h⟩
            · have e := A.live b h
              rw [hk b (nF b (.inl h))]
              cases q : H b with
              | none => exact absurd q e
              | some o => rw [s1 _ _ q]; exact fun y => nomatch y
            · exact h,
          ok := ok, lvo := lvo, wn := wn }
/-- what is beside a store may change -/
theorem StoreAt.beside {α : Type} {Zs Zt C : Addr} {D : Dom α} {F : Addr → Prop} {ad : α → α → α} {g : Addr} {X : SoX} {S : Sv α} {H H' : Hp} (A : StoreAt Zs Zt C D F ad g X S H) (tk : TK H H') (k : ∀ b o, (F b ∨ b = X.p) → H b = some o → H' b = some o) : StoreAt Zs Zt C D F ad g X S H' :=
  { ins := k _ _ (.inr rfl) A.ins, sta := A.sta.keep tk (fun b o h => k b o (.inl h)) fun _ h => h, frs := k _ _ (.inl A.own.1) A.frs, own := A.own,
    live := fun b h => by
      cases q : H b with
      | none => exact absurd q (A.live b h)
      | some o => rw [k b o (.inl h) q]; exact (fun y => nomatch y),
    ok := A.ok, lvo := A.lvo, wn := A.wn }
/-- no new part matters -/
theorem StoreAt.wider {α : Type} {Zs Zt C : Addr} {D : Dom α} {F G : Addr → Prop} {ad : α → α → α} {g : Addr} {X : SoX} {S : Sv α} {H : Hp} (A : StoreAt Zs Zt C D F ad g X S H) (hG : ∀ b, F b → G b) (np : ¬ G X.p) (live : ∀ b, G b → H b ≠ none) : StoreAt Zs Zt C D G ad g X S H :=
  { ins := A.ins, sta := A.sta.keep (fun _ _ e => e) (fun _ _ _ e => e) hG, frs := A.frs, own := ⟨hG _ A.own.1, np⟩, live := live, ok := A.ok, lvo := A.lvo, wn := A.wn }
/-- a store's step: what is asked of it, and what stands behind it -/
def StoreTo {α : Type} (Zs Zt C : Addr) (D : Dom α) (F : Addr → Prop) (ad : α → α → α) (g : Addr) (X : SoX) (S' : Sv α) (H : Hp) (k : Hp → Prop) : Prop := ∀ X' H', X'.p = X.p → StoreAt Zs Zt C D (fun x => F x ∨ (H x = none ∧ H' x ≠ none)) ad g X' S' H' → Kept X.p H H' → TK H H' → k H'
theorem storeSame {α : Type} {Zs Zt C : Addr} {D : Dom α} {F : Addr → Prop} {ad : α → α → α} {g : Addr} {X : SoX} {S : Sv α} {H H' : Hp} {k : Hp → Prop} (A : StoreAt Zs Zt C D F ad g X S H) (s : Same H H') (h : StoreTo Zs Zt C D F ad g X S H k) : k H' :=
  h X H' rfl ((A.beside (tkSame s) fun b o _ e => s _ _ e).wider (fun b h => .inl h) (fun z => z.elim A.own.2 fun y => by rw [A.ins] at y; cases y.1) fun b z => z.elim (fun y => by
    cases q : H b with
    | none => exact absurd q (A.live b y)
    | some o => rw [s _ _ q]; exact fun y => nomatch y) fun y => y.2) (kept_same s) (tkSame s)
section
variable {P : Program} {w : World} {K : PySem.W.Frag} {mg : Str → Option Value} {base : Heap} {C Zs Zt : Addr}
def spSoT {α : Type} (Zs Zt C : Addr) (D : Dom α) : Sp := fun vs H Q _ => ∃ (F : Addr → Prop) (ad : α → α → α) (g : Addr) (X : SoX) (S : Sv α), vs = [.ref X.p] ∧ StoreAt Zs Zt C D F ad g X S H ∧ Q (vn S.tc) H
def nSoT : List Str := ["self"]
theorem scSoT : FnScope nSoT ["self"] (defScope sSo_touched) := ⟨rfl, rfl, rfl, by decide +kernel, rfl, by decide +kernel, by decide +kernel⟩
theorem dSoT {α : Type} (D : Dom α) (U : SoT K mg Zs) : ∃ f fd, FnOk P w K mg base CX0 1 f fd ["self"] (spSoT Zs Zt C D) ∧ Meth K Zs "touched" f ∧ Binds K fd ["self"] [] := by
  obtain ⟨f, fd, F0, M, b⟩ := U.m_touched
  refine ⟨f, fd, ?_, M, b⟩
  refine F0.ok scSoT (fun vs H Q E h => ?_) (fun cdv A outer s H vs Q E hr h => ?_)
  · obtain ⟨F, ad, g, X, S, rfl, _⟩ := h
    rfl
  · obtain ⟨F, ad, g, X, S, rfl, At, k⟩ := h
    refine ⟨_, pss_one (ps_ret (pe_fld (pv 0) rfl)), ?_⟩
    exact ⟨_, rfl, X.p, Zs, X.dx, _, _, rfl, At.ins, U.cl, U.n__touches, rfl, k⟩
def spSoA {α : Type} (Zs Zt C : Addr) (D : Dom α) : Sp := fun vs H Q _ => ∃ (F : Addr → Prop) (ad : α → α → α) (g : Addr) (X : SoX) (S : Sv α), vs = [.ref X.p] ∧ StoreAt Zs Zt C D F ad g X S H ∧ Q (vn S.rd) H
theorem scSoA : FnScope nSoT ["self"] (defScope sSo_asked) := ⟨rfl, rfl, rfl, by decide +kernel, rfl, by decide +kernel, by decide +kernel⟩
theorem dSoA {α : Type} (D : Dom α) (U : SoT K mg Zs) : ∃ f fd, FnOk P w K mg base CX0 1 f fd ["self"] (spSoA Zs Zt C D) ∧ Meth K Zs "asked" f ∧ Binds K fd ["self"] [] := by
  obtain ⟨f, fd, F0, M, b⟩ := U.m_asked
  refine ⟨f, fd, ?_, M, b⟩
  refine F0.ok scSoA (fun vs H Q E h => ?_) (fun cdv A outer s H vs Q E hr h => ?_)
  · obtain ⟨F, ad, g, X, S, rfl, _⟩ := h
    rfl
  · obtain ⟨F, ad, g, X, S, rfl, At, k⟩ := h
    refine ⟨_, pss_one (ps_ret (pe_fld (pv 0) rfl)), ?_⟩
    exact ⟨_, rfl, X.p, Zs, X.dx, _, _, rfl, At.ins, U.cl, U.n__reads, rfl, k⟩
/-- the watched places -/
def spSoW {α : Type} (Zs Zt C : Addr) (D : Dom α) : Sp := fun vs H Q _ => ∃ (F : Addr → Prop) (ad : α → α → α) (g : Addr) (X : SoX) (S : Sv α), vs = [.ref X.p] ∧ StoreAt Zs Zt C D F ad g X S H ∧ ∀ ys r H', Same H H' → ys.Perm S.W → ys.Pairwise (· ≤ ·) → TN H' r ys → Q (.ref r) H'
theorem scSoW : FnScope nSoT ["self"] (defScope sSo_watched) := ⟨rfl, rfl, rfl, by decide +kernel, rfl, by decide +kernel, by decide +kernel⟩
theorem dSoW {α : Type} (D : Dom α) (B : Defs K mg C) (U : SoT K mg Zs) : ∃ f fd, FnOk P w K mg base CX0 1 f fd ["self"] (spSoW Zs Zt C D) ∧ Meth K Zs "watched" f ∧ Binds K fd ["self"] [] := by
  obtain ⟨f, fd, F0, M, b⟩ := U.m_watched
  have N := B.N
  refine ⟨f, fd, ?_, M, b⟩
  refine F0.ok scSoW (fun vs H Q E h => ?_) (fun cdv A outer s H vs Q E hr h => ?_)
  · obtain ⟨F, ad, g, X, S, rfl, _⟩ := h
    rfl
  · obtain ⟨F, ad, g, X, S, rfl, At, k⟩ := h
    refine ⟨_, pss_one (ps_ret (pe_callTy call_tuple_of (by rfl) N.is.tup (by decide +kernel) (pa_cons (pe_callB (call_sortedDI rfl) (by rfl) N.sorted (by decide +kernel) (pa_cons (pe_fld (pv 0) rfl) pa_nil)) pa_nil))), ?_⟩
    have w60 := At.w60
    refine ⟨_, rfl, X.p, Zs, X.dx, _, _, rfl, At.ins, U.cl, U.n__fresh, rfl, X.fr, kvF S.W S.fl, S.W.map (fun (n : Nat) => (n : Int)), rfl, .inl At.frs, by unfold kvF; rw [List.map_map, List.map_map]; rfl, by rw [List.length_map]; omega, fun ys p hy hs np => ?_⟩
    obtain ⟨zs, rfl, z1, z2⟩ := natPerm hy hs
    have s1 := smUpd (o := .lst ((zs.map fun (n : Nat) => (n : Int)).map V.int)) np
    refine ⟨p, _, rfl, .inl ⟨.inl (.inl upd_same), fun q nq => ?_⟩⟩
    have s2 := s1.trans (smUpd (o := .tup ((zs.map fun (n : Nat) => (n : Int)).map V.int)) nq)
    refine k zs q _ s2 z1 z2 ?_
    show upd _ q _ q = some (.tup (zs.map vn))
    rw [upd_same, List.map_map]
    rfl
end
end Cn
namespace Cn
open PySem PySem.Spec PyProof.Rows L2 Ck
/-! a store: watch, unwatch, ask -/
theorem kvF_add {W : List Nat} {fl : Nat → Bool} {q : Nat} (h : q ∉ W) : putK (kvF W fl) (.inl (q : Int)) (.bl (fl q)) = kvF (W ++ [q]) fl := by
  rw [kvF_snoc h]
  exact kvF_congr fun i _ => by
    by_cases c : i = q
    · rw [if_pos c, c]
    · rw [if_neg c]
theorem vnAdd {a b : Nat} : V.int ((a : Int) + (b : Int)) = vn (a + b) := by
  show V.int _ = V.int _
  rw [Int.natCast_add]
/-- the size of amounts -/
def SzS {α : Type} (D : Dom α) (S : Sv α) (m : Nat) : Prop := (∀ q, D.sz (S.am q) ≤ m) ∧ m ≤ 20
section
variable {P : Program} {w : World} {K : PySem.W.Frag} {mg : Str → Option Value} {base : Heap} {C Zs Zt : Addr}
theorem takeNot {W : List Nat} (nd : W.Nodup) {j x : Nat} (h : W[j]? = some x) : x ∉ W.take j := fun z => by
  obtain ⟨i, hi⟩ := List.getElem?_of_mem z
  have il := (List.getElem?_eq_some_iff.mp hi).1
  rw [List.length_take] at il
  rw [List.getElem?_take_of_lt (by omega)] at hi
  have := (List.getElem?_inj (by omega) nd).mp (hi.trans h.symm)
  omega
/-- a place is watched -/
def spSoWa {α : Type} (Zs Zt C : Addr) (D : Dom α) : Sp := fun vs H Q _ => ∃ (F : Addr → Prop) (ad : α → α → α) (g : Addr) (X : SoX) (S : Sv α) (q : Nat), vs = [.ref X.p, vn q] ∧ StoreAt Zs Zt C D F ad g X S H ∧ q ∈ S.fo.as ∧ q ∉ S.W ∧
  StoreTo Zs Zt C D F ad g X { S with W := S.W ++ [q], fl := fun i => if i = q then false else S.fl i } H (Q .non)
def nSoWa : List Str := ["self", "place"]
theorem scSoWa : FnScope nSoWa ["self", "place"] (defScope sSo_watch) := ⟨rfl, rfl, rfl, by decide +kernel, rfl, by decide +kernel, by decide +kernel⟩
theorem dSoWa {α : Type} (D : Dom α) (B : Defs K mg C) (U : SoT K mg Zs) (Ut : TaT K mg Zt) : ∃ f fd, FnOk P w K mg base CX0 3 f fd ["self", "place"] (spSoWa Zs Zt C D) ∧ Meth K Zs "watch" f ∧ Binds K fd ["self", "place"] [] := by
  obtain ⟨fA, fdA, GA, gA, kA, bA⟩ := dIsAsk (P := P) (w := w) (base := base) B
  obtain ⟨f, fd, F0, M, b⟩ := U.m_watch
  have N := B.N
  refine ⟨f, fd, ?_, M, b⟩
  refine F0.ok scSoWa (fun vs H Q E h => ?_) (fun cdv A outer s H vs Q E hr h => ?_)
  · obtain ⟨F, ad, g, X, S, q, rfl, _⟩ := h
    rfl
  · obtain ⟨F, ad, g, X, S, q, rfl, At, hq, hw, k⟩ := h
    have hu : (A.deeper (envOfC "Store.watch" (defScope sSo_watch) s.heap.objs.size f cdv)).units + 1 < cLine := by have := hr.units; omega
    refine ⟨_, pss_cons (ps_if (PW.pt (pw_or (pt_not (pt_val (pe_call GA hr (by rfl) gA kA bA .nil pass0 (pa_cons (pe_fld (pe_fld (pv 0) rfl) rfl) (pa_cons (pv 1) pa_nil))))) (pw_or1 (pt_cmp (pc_din hu (pv 1) (pe_fld (pv 0) rfl)))))) (pss_one ps_never) pss_nil)
      (pss_one (ps_fld (pv 0) (DStar.pe_star (pe_fld (pv 0) rfl) (pv 1) pe_bl) rfl)), ?_⟩
    have w60 := At.w60
    refine ⟨_, rfl, X.p, Zs, X.dx, _, _, rfl, At.ins, U.cl, U.n__state, rfl, X.st.s, Zt, X.st.dx, _, _, rfl, At.sta.ins, Ut.cl, Ut.n_hierarchy, rfl, _, rfl, X.st.a, S.fo, q, rfl, At.sta.hie, hq, true, rfl, ?_⟩
    refine ifF (by decide) ?_
    refine ⟨_, rfl, _, rfl, X.p, Zs, X.dx, _, _, rfl, At.ins, U.cl, U.n__fresh, rfl, X.fr, none, rfl, .inl ⟨kvF S.W S.fl, .inl (q : Int), .inl At.frs, rfl, by rw [kvF_val, if_neg hw]⟩, _, rfl, ?_⟩
    refine ifF (by decide) ?_
    refine fun n1 h1 => ?_
    have e1 : ∀ {b : Addr} {o o2 : HO}, H b = some o → upd H n1 o2 b = some o := fun h => by rw [upd_ne (fun z => by rw [z, h1] at h; cases h)]; exact h
    refine ⟨_, rfl, X.p, Zs, X.dx, _, _, rfl, e1 At.ins, U.cl, U.n__fresh, rfl, X.fr, kvF S.W S.fl, rfl, (fun z => by have := At.frs; rw [z, h1] at this; cases this), e1 At.frs, upd_same, by rw [kvF_len]; exact bigLine (by omega), fun n2 h2 => ?_⟩
    have h2H : H n2 = none := nBack (smOver h1 (smUpd h1)) h2
    have n12 : n1 ≠ n2 := fun z => by rw [← z, upd_same] at h2; cases h2
    refine ⟨_, rfl, by rw [upd_ne n12, upd_same], upd_same, .inl (q : Int), rfl, ?_⟩
    rw [kvF_snoc hw]
    have sG : Same H (upd (upd (upd (upd (upd H n1 (.dK [])) n1 (.dK (kvF S.W S.fl))) n2 (.dK [])) n2 (.dK [(.inl (q : Int), V.bl false)])) n1 (.dK (kvF (S.W ++ [q]) fun i => if i = q then false else S.fl i))) := smOver h1 (smOver h2H (smOver h2H (smOver h1 (smUpd h1))))
    have hG : upd (upd (upd (upd (upd H n1 (.dK [])) n1 (.dK (kvF S.W S.fl))) n2 (.dK [])) n2 (.dK [(.inl (q : Int), V.bl false)])) n1 (.dK (kvF (S.W ++ [q]) fun i => if i = q then false else S.fl i)) n1 = some (.dK (kvF (S.W ++ [q]) fun i => if i = q then false else S.fl i)) := upd_same
    generalize upd (upd (upd (upd (upd H n1 (.dK [])) n1 (.dK (kvF S.W S.fl))) n2 (.dK [])) n2 (.dK [(.inl (q : Int), V.bl false)])) n1 (.dK (kvF (S.W ++ [q]) fun i => if i = q then false else S.fl i)) = G at sG hG ⊢
    refine ⟨_, rfl, X.p, Zs, X.dx, _, rfl, sG _ _ At.ins, U.cl, U.n__fresh, (by show 8 < 1000; decide), ?_⟩
    obtain ⟨A2, K2, T2⟩ := At.next { X with fr := n1 } { S with W := S.W ++ [q], fl := fun i => if i = q then false else S.fl i } rfl sG ((At.sta.same sG).keep (fun _ _ e => e) (fun _ _ _ e => e) fun b h => .inl h) hG (.inr h1) (H' := upd G X.p (.ins Zs X.dx (putF "_fresh" (.ref n1) (fldS g X S)))) (by rw [upd_same]; rfl) (fun b n => upd_ne n) At.ok At.lvo
      ⟨List.nodup_append.mpr ⟨At.wn.1, by simp, fun a ha b hb z => hw (by rw [← List.mem_singleton.mp hb, ← z]; exact ha)⟩, fun x hx => (List.mem_append.mp hx).elim (At.wn.2 x) fun z => by rw [List.mem_singleton.mp z]; exact hq⟩
    exact k { X with fr := n1 } _ rfl A2 K2 T2
/-- a place is watched no longer -/
def spSoUn {α : Type} (Zs Zt C : Addr) (D : Dom α) : Sp := fun vs H Q _ => ∃ (F : Addr → Prop) (ad : α → α → α) (g : Addr) (X : SoX) (S : Sv α) (q : Nat), vs = [.ref X.p, vn q] ∧ StoreAt Zs Zt C D F ad g X S H ∧ q ∈ S.W ∧
  StoreTo Zs Zt C D F ad g X { S with W := S.W.filter fun i => !decide (i = q) } H (Q .non)
def nSoUn : List Str := ["self", "place", "other"]
theorem scSoUn : FnScope nSoUn ["self", "place"] (defScope sSo_unwatch) := ⟨rfl, rfl, rfl, by decide +kernel, rfl, by decide +kernel, by decide +kernel⟩
theorem dSoUn {α : Type} (D : Dom α) (B : Defs K mg C) (U : SoT K mg Zs) : ∃ f fd, FnOk P w K mg base CX0 2 f fd ["self", "place"] (spSoUn Zs Zt C D) ∧ Meth K Zs "unwatch" f ∧ Binds K fd ["self", "place"] [] := by
  obtain ⟨fI, fdI, DI⟩ := B.I
  have GI : FnOk P w K mg base CX0 1 fI fdI ["thing"] spIsInt := ok_isInt DI.F B.N
  obtain ⟨f, fd, F0, M, b⟩ := U.m_unwatch
  have N := B.N
  have nd := scSoUn.nd
  refine ⟨f, fd, ?_, M, b⟩
  refine F0.ok scSoUn (fun vs H Q E h => ?_) (fun cdv A outer s H vs Q E hr h => ?_)
  · obtain ⟨F, ad, g, X, S, q, rfl, _⟩ := h
    rfl
  · obtain ⟨F, ad, g, X, S, q, rfl, At, hw, k⟩ := h
    have hu : (A.deeper (envOfC "Store.unwatch" (defScope sSo_unwatch) s.heap.objs.size f cdv)).units + 1 < cLine := by have := hr.units; omega
    refine ⟨_, pss_cons (ps_if (PW.pt (pw_or (pt_not (pt_val (pe_call GI hr (by rfl) DI.g DI.F.kp DI.b .nil pass0 (pa_cons (pv 1) pa_nil)))) (pw_or1 (pt_cmp (pc_dnotin hu (pv 1) (pe_fld (pv 0) rfl)))))) (pss_one ps_never) pss_nil)
      (pss_one (ps_fld (pv 0) (pe_lock (pe_dc (own := [("other", 2)]) (g := gName 2) (tt := tTest (tOp rNe (tVar 2) (tVar 1))) (tk := tVar 2) (tv := tDGet (tFld K (tVar 0) "_fresh") (tVar 2)) rfl nd (pi_keys (pe_fld (pv 0) rfl)) (blkOk_by (N := nSoUn) (sc := defScope sSo_unwatch) (by decide +kernel)) (fun _ _ _ _ _ => pg_name (i := 2) nd rfl (Or.inl rfl)) (fun _ _ _ _ _ => pts_one (pt_cmpR op_ne (pv 2) (pv 1) (nomark _))) (fun _ _ _ _ _ => pv 2)
        (fun _ _ _ _ _ => pe_dget hu (pe_fld (pv 0) rfl) (pv 2) (fun _ _ => rfl)))) rfl)), ?_⟩
    have w60 := At.w60
    refine ⟨_, rfl, (q : Int), rfl, true, rfl, ?_⟩
    refine ifF (by decide) ?_
    refine ⟨_, rfl, _, rfl, X.p, Zs, X.dx, _, _, rfl, At.ins, U.cl, U.n__fresh, rfl, X.fr, some (.bl (S.fl q)), rfl, .inl ⟨kvF S.W S.fl, .inl (q : Int), .inl At.frs, rfl, by rw [kvF_val, if_pos hw]⟩, _, rfl, ?_⟩
    refine ifF (fun z => nomatch (show false = true from z)) ?_
    refine ⟨X.fr, _, At.frs, trivial, fun od => ?_⟩
    have hL : upd H X.fr (.frz od (.dK (kvF S.W S.fl))) X.fr = some (.frz od (.dK (kvF S.W S.fl))) := upd_same
    obtain ⟨HL, eL⟩ : ∃ HL, HL = upd H X.fr (.frz od (.dK (kvF S.W S.fl))) := ⟨_, rfl⟩
    rw [← eL] at hL ⊢
    have insL : HL X.p = some (.ins Zs X.dx (fldS g X S)) := by rw [eL, upd_ne (neK At.ins At.frs fun z => by cases z)]; exact At.ins
    refine ⟨_, rfl, X.p, Zs, X.dx, _, _, rfl, insL, U.cl, U.n__fresh, rfl, X.fr, od, rfl, .inl ⟨_, hL, fun D2 nD2 => ?_⟩⟩
    refine anyWalk walk_keys (fun j G => Same HL G ∧ G D2 = some (.dK (kvF ((S.W.take j).filter fun i => !decide (i = q)) S.fl))) ⟨smUpd nD2, upd_same⟩ (fun j G _ z => z.1 _ _ hL) ?_ ?_
    · rintro j x G G' hj ⟨sm, hD⟩ ⟨rfl, kk, v, hkv, rfl⟩
      obtain ⟨y, hy, rfl, rfl⟩ := kvF_at hkv
      have et : S.W.take (j + 1) = S.W.take j ++ [y] := by rw [List.take_add_one, hy]; rfl
      refine ⟨rfl, _, rfl, _, rfl, rfl, _, rfl, ?_⟩
      by_cases c : y = q
      · refine ifF (by rw [c]; show ¬ (!decide (V.int (q : Int) = V.int (q : Int))) = true; rw [decide_eq_true rfl]; decide) ?_
        refine ⟨sm, ?_⟩
        rw [et, List.filter_append, List.filter_cons_of_neg (by rw [decide_eq_true c]; decide)]
        show _ = some (HO.dK (kvF (_ ++ []) _))
        rw [List.append_nil]
        exact hD
      · refine ifT (by show (!decide (V.int (y : Int) = V.int (q : Int))) = true; rw [decide_eq_false (fun z => c (by injection z with z; omega))]; rfl) ?_
        have yn : y ∉ (S.W.take j).filter fun i => !decide (i = q) := fun z => takeNot At.wn.1 hy (List.mem_filter.mp z).1
        have ll : (kvF ((S.W.take j).filter fun i => !decide (i = q)) S.fl).length ≤ 60 := by
          rw [kvF_len]
          refine Nat.le_trans (List.length_filter_le _ _) ?_
          rw [List.length_take]
          omega
        refine ⟨_, rfl, _, rfl, X.p, Zs, X.dx, _, _, rfl, sm _ _ insL, U.cl, U.n__fresh, rfl, _, rfl, X.fr, .bl (S.fl y), rfl, .inl ⟨kvF S.W S.fl, .inl (y : Int), .inr ⟨od, sm _ _ hL⟩, rfl, by rw [kvF_val, if_pos (List.mem_of_getElem? hy)]⟩, _, .inl (y : Int), rfl, hD, bigLine (by omega), smOver nD2 sm, ?_⟩
        rw [upd_same, kvF_add yn, et, List.filter_append, List.filter_cons_of_pos (by rw [decide_eq_false c]; rfl)]
        rfl
    rintro G ⟨sm, hD⟩
    rw [kvF_len, List.take_length] at hD
    have hLG := sm _ _ hL
    have neD : D2 ≠ X.fr := fun z => by rw [z, hL] at nD2; cases nD2
    refine ⟨hLG, ?_⟩
    have sG : Same H (upd G X.fr (.dK (kvF S.W S.fl))) := lockSame At.frs eL sm
    have hG : upd G X.fr (.dK (kvF S.W S.fl)) D2 = some (.dK (kvF (S.W.filter fun i => !decide (i = q)) S.fl)) := by rw [upd_ne neD]; exact hD
    have nH : H D2 = none := by rw [eL, upd_ne neD] at nD2; exact nD2
    generalize upd G X.fr (.dK (kvF S.W S.fl)) = G2 at sG hG ⊢
    refine ⟨_, rfl, X.p, Zs, X.dx, _, rfl, sG _ _ At.ins, U.cl, U.n__fresh, (by show 8 < 1000; decide), ?_⟩
    obtain ⟨A2, K2, T2⟩ := At.next { X with fr := D2 } { S with W := S.W.filter fun i => !decide (i = q) } rfl sG ((At.sta.same sG).keep (fun _ _ e => e) (fun _ _ _ e => e) fun b h => .inl h) hG (.inr nH) (H' := upd G2 X.p (.ins Zs X.dx (putF "_fresh" (.ref D2) (fldS g X S)))) (by rw [upd_same]; rfl) (fun b n => upd_ne n) At.ok At.lvo
      ⟨At.wn.1.filter _, fun x hx => At.wn.2 x (List.mem_filter.mp hx).1⟩
    exact k { X with fr := D2 } _ rfl A2 K2 T2
/-- an answer -/
def spSoAsk {α : Type} (P : Program) (w : World) (K : PySem.W.Frag) (mg : Str → Option Value) (base : Heap) (Zs Zt C : Addr) (D : Dom α) : Sp := fun vs H Q _ => ∃ (F : Addr → Prop) (ad : α → α → α) (g : Addr) (X : SoX) (S : Sv α) (q m : Nat), vs = [.ref X.p, vn q] ∧ StoreAt Zs Zt C D F ad g X S H ∧ q ∈ S.fo.as ∧ AddG P w K mg base D g ad ∧ SzS D S m ∧
  ∀ v, StoreTo Zs Zt C D F ad g X { S with rd := S.rd + (readsN (ntOf S.fo S.lv) q).length } H fun H' => D.opt H' v (togG ad ((readsN (ntOf S.fo S.lv) q).map fun s => sumP ad S.am (placesN (ntOf S.fo S.lv) s))) → Q v H'
def nSoAsk : List Str := ["self", "place", "answer"]
theorem scSoAsk : FnScope nSoAsk ["self", "place"] (defScope sSo_ask) := ⟨rfl, rfl, rfl, by decide +kernel, rfl, by decide +kernel, by decide +kernel⟩
theorem dSoAsk {α : Type} (D : Dom α) (B : Defs K mg C) (U : SoT K mg Zs) (Ut : TaT K mg Zt) : ∃ f fd, FnOk P w K mg base CX0 4 f fd ["self", "place"] (spSoAsk P w K mg base Zs Zt C D) ∧ Meth K Zs "ask" f ∧ Binds K fd ["self", "place"] [] := by
  obtain ⟨fA, fdA, GA, gA, kA, bA⟩ := dIsAsk (P := P) (w := w) (base := base) B
  obtain ⟨fR, fdR, GR, gR, kR, bR⟩ := dReadAt (P := P) (w := w) (base := base) B
  obtain ⟨fW, fdW, GW, MW, bW⟩ := dTaA (P := P) (w := w) (base := base) D B Ut
  obtain ⟨f, fd, F0, M, b⟩ := U.m_ask
  have N := B.N
  have nd := scSoAsk.nd
  refine ⟨f, fd, ?_, M, b⟩
  refine F0.ok scSoAsk (fun vs H Q E h => ?_) (fun cdv A outer s H vs Q E hr h => ?_)
  · obtain ⟨F, ad, g, X, S, q, m, rfl, _⟩ := h
    rfl
  · obtain ⟨F, ad, g, X, S, q, m, rfl, At, hq, hAd, ⟨hm, hm1⟩, k⟩ := h
    refine ⟨_, pss_cons (ps_if (pt_not (pt_val (pe_call GA (hr.mono (by decide)) (by rfl) gA kA bA .nil pass0 (pa_cons (pe_fld (pe_fld (pv 0) rfl) rfl) (pa_cons (pv 1) pa_nil))))) (pss_one ps_never) pss_nil)
      (pss_cons (ps_set (i := 2) nd rfl (Or.inl rfl) (pe_meth (pe_fld (pv 0) rfl) Ut.cl MW GW hr bW .nil pass0 (pa_cons (pe_fld (pv 0) rfl) (pa_cons (pv 1) pa_nil))))
      (pss_cons (ps_fldaug (pv 0) (pe_callB call_len_seq (by rfl) N.is.len PySem.boot_len (pa_cons (pe_call GR (hr.mono (by decide)) (by rfl) gR kR bR .nil pass0 (pa_cons (pe_fld (pe_fld (pv 0) rfl) rfl) (pa_cons (pv 1) pa_nil))) pa_nil)) iop_add)
      (pss_one (ps_ret (pv 2))))), ?_⟩
    have okN := ntOk_held (lv := S.lv) At.ok
    refine ⟨_, rfl, X.p, Zs, X.dx, _, _, rfl, At.ins, U.cl, U.n__state, rfl, X.st.s, Zt, X.st.dx, _, _, rfl, At.sta.ins, Ut.cl, Ut.n_hierarchy, rfl, _, rfl, X.st.a, S.fo, q, rfl, At.sta.hie, hq, true, rfl, ?_⟩
    refine ifF (by decide) ?_
    refine ⟨_, rfl, X.p, Zs, X.dx, _, _, rfl, At.ins, U.cl, U.n__state, rfl, X.st.s, X.st.dx, _, rfl, At.sta.ins, rfl, _, rfl, X.p, Zs, X.dx, _, _, rfl, At.ins, U.cl, U.n__adding, rfl, _, rfl, X.st, F, S.fo, S.lv, ad, S.am, S.tm, g, q, m, rfl, At.sta, At.ok, hAd, hm, hm1, fun v H1 s1 hv => ?_⟩
    have S1 := At.sta.same s1
    obtain ⟨kvN, hN, hB⟩ := S1.notes
    refine ⟨_, rfl, X.p, Zs, X.dx, _, _, rfl, s1 _ _ At.ins, U.cl, U.n__reads, rfl, _, rfl, X.p, Zs, X.dx, _, _, rfl, s1 _ _ At.ins, U.cl, U.n__state, rfl, X.st.s, Zt, X.st.dx, _, _, rfl, S1.ins, Ut.cl, Ut.n_notes, rfl, _, rfl, X.st.nn, kvN, _, q, rfl, hN, hB, okN.nd, okN.len, fun r H2 s2 nr hr2 => ?_⟩
    have s02 := s1.trans s2
    refine ⟨r, _, rfl, .inl (.inl (.inl hr2)), (S.rd : Int), _, rfl, rfl, X.dx, _, s02 _ _ At.ins, (by show 8 < 1000; decide), ?_⟩
    obtain ⟨A2, K2, T2⟩ := At.next X { S with rd := S.rd + (readsN (ntOf S.fo S.lv) q).length } rfl s02 ((At.sta.same s02).keep (fun _ _ e => e) (fun _ _ _ e => e) fun b h => .inl h) (s02 _ _ At.frs) (.inl At.own.1) (H' := upd H2 X.p (.ins Zs X.dx (putF "_reads" (.int ((S.rd : Int) + ((((readsN (ntOf S.fo S.lv) q).map vn).length : Nat) : Int))) (fldS g X S)))) (by rw [upd_same, List.length_map, vnAdd]; rfl) (fun b n => upd_ne n) At.ok At.lvo At.wn
    refine ⟨_, rfl, k v X _ rfl A2 K2 T2 (D.optKeep (tkUpd (s02 _ _ At.ins) fun xs z => by cases z) (D.optSame s2 hv))⟩
end
end Cn
namespace Cn
open PySem PySem.Spec PyProof.Rows L2 Ck
/-! a store: changes -/
theorem StoreAt.step {α : Type} {Zs Zt C : Addr} {D : Dom α} {F : Addr → Prop} {ad : α → α → α} {g : Addr} {X : SoX} {S : Sv α} {H H' : Hp} (A : StoreAt Zs Zt C D F ad g X S H) (X' : SoX) (S' : Sv α) (ep : X'.p = X.p) (kp : Kept X.p H H')
    (st' : StateAt Zt C D (fun x => F x ∨ (H x = none ∧ H' x ≠ none)) S'.fo S'.lv ad S'.am S'.tm X'.st H') (fr' : H' X'.fr = some (.dK (kvF S'.W S'.fl))) (frF : F X'.fr ∨ H X'.fr = none) (hp : H' X.p = some (.ins Zs X'.dx (fldS g X' S')))
    (ok : FoOk S'.fo) (lvo : Lv S'.fo.ps S'.lv) (wn : S'.W.Nodup ∧ ∀ q ∈ S'.W, q ∈ S'.fo.as) : StoreAt Zs Zt C D (fun x => F x ∨ (H x = none ∧ H' x ≠ none)) ad g X' S' H' :=
  { ins := by rw [ep]; exact hp, sta := st', frs := fr',
    own := ⟨frF.imp (fun z => z) fun z => ⟨z, by rw [fr']; exact (fun y => nomatch y)⟩, fun z => by
      rw [ep] at z
      rcases z with z | ⟨z, _⟩
      · exact A.own.2 z
      · rw [A.ins] at z; cases z⟩,
    live := fun b h => by
      rcases h with h | ⟨_, h⟩
      · cases q : H b with
        | none => exact absurd q (A.live b h)
        | some o => rw [kp b o (fun z => A.own.2 (by rw [← z]; exact h)) q]; exact (fun y => nomatch y)
      · exact h,
    ok := ok, lvo := lvo, wn := wn }
theorem StoreTo.from {α : Type} {Zs Zt C : Addr} {D : Dom α} {F : Addr → Prop} {ad : α → α → α} {g : Addr} {X : SoX} {S S' : Sv α} {H H2 : Hp} {k : Hp → Prop} (A : StoreAt Zs Zt C D F ad g X S H) (s : Same H H2) (h : StoreTo Zs Zt C D F ad g X S' H k) : StoreTo Zs Zt C D F ad g X S' H2 k := fun X' H' ep A' K' T' =>
  h X' H' ep (A'.wider (fun b z => z.imp (fun y => y) fun y => ⟨nBack s y.1, y.2⟩) (fun z => by
    rw [ep] at z
    rcases z with z | ⟨z, _⟩
    · exact A.own.2 z
    · rw [A.ins] at z; cases z) fun b z => z.elim (fun y => A'.live b (.inl y)) fun y => y.2) (kept_trans (kept_same s) K') ((tkSame s).trans T')
theorem keptTK {p : Addr} {H H' : Hp} {o : HO} (k : Kept p H H') (hp : H p = some o) (no : ∀ xs, o ≠ .tup xs) : TK H H' := fun t xs e => k t _ (fun z => by rw [z, hp] at e; exact no xs (Option.some.inj e)) e
def chgSv {α : Type} (S : Sv α) (cs : List (Nat × α)) : Sv α := { S with am := chgA S.am cs, tm := tmC S.tm cs (S.T + 1), T := S.T + 1, tc := S.tc + (holdsA (ntOf S.fo S.lv) (cs.map fun c => c.1)).length, fl := fun q => S.fl q || cs.any fun c => decide (c.1 ∈ road S.fo.ps q) }
theorem fldT1 {n : Nat} : V.int ((n : Int) + 1) = vn (n + 1) := vnAdd (b := 1)
section
variable {P : Program} {w : World} {K : PySem.W.Frag} {mg : Str → Option Value} {base : Heap} {C Zs Zt : Addr}
def spSoC {α : Type} (P : Program) (w : World) (K : PySem.W.Frag) (mg : Str → Option Value) (base : Heap) (Zs Zt C : Addr) (D : Dom α) : Sp := fun vs H Q _ => ∃ (F : Addr → Prop) (ad : α → α → α) (g : Addr) (X : SoX) (S : Sv α) (c : Addr) (m : Nat) (us : List V) (cs : List (Nat × α)), vs = [.ref X.p, .ref c] ∧ StoreAt Zs Zt C D F ad g X S H ∧ AddG P w K mg base D g ad ∧ SeqH H c us ∧ Paired (ChgAt D H) us cs ∧ (∀ c ∈ cs, c.1 ∈ S.fo.be) ∧ cs.length ≤ 60 ∧ SzS D S m ∧ (∀ c ∈ cs, D.sz c.2 ≤ m) ∧
  StoreTo Zs Zt C D F ad g X (chgSv S cs) H (Q .non)
def nSoC : List Str := ["self", "changes", "before", "reached", "place", "_", "below"]
theorem scSoC : FnScope nSoC ["self", "changes"] (defScope sSo__change) := ⟨rfl, rfl, rfl, by decide +kernel, rfl, by decide +kernel, by decide +kernel⟩
theorem dSoC {α : Type} (D : Dom α) (B : Defs K mg C) (U : SoT K mg Zs) (Ut : TaT K mg Zt) : ∃ f fd, FnOk P w K mg base CX0 5 f fd ["self", "changes"] (spSoC P w K mg base Zs Zt C D) ∧ Meth K Zs "_change" f ∧ Binds K fd ["self", "changes"] [] := by
  obtain ⟨fC, fdC, GC, gC, kC, bC⟩ := dChgS (P := P) (w := w) (base := base) D B Ut
  obtain ⟨fN, fdN, GN, gN, kN, bN⟩ := dAnewC (P := P) (w := w) (base := base) D B Ut
  obtain ⟨fU, fdU, GU, gU, kU, bU⟩ := dUnder (P := P) (w := w) (base := base) B
  obtain ⟨f, fd, F0, M, b⟩ := U.m__change
  have N := B.N
  have nd := scSoC.nd
  refine ⟨f, fd, ?_, M, b⟩
  refine F0.ok scSoC (fun vs H Q E h => ?_) (fun cdv A outer s H vs Q E hr h => ?_)
  · obtain ⟨F, ad, g, X, S, c, m, us, cs, rfl, _⟩ := h
    rfl
  · obtain ⟨F, ad, g, X, S, c, m, us, cs, rfl, At, hAd, hc, hP, hbe, hl, ⟨hm, hm1⟩, hmc, k⟩ := h
    have hu : (A.deeper (envOfC "Store._change" (defScope sSo__change) s.heap.objs.size f cdv)).units + 1 < cLine := by have := hr.units; omega
    refine ⟨_, pss_cons (ps_set (i := 2) nd rfl (Or.inl rfl) (pe_fld (pv 0) rfl))
      (pss_cons (ps_fld (pv 0) (pe_call GC hr (by rfl) gC kC bC .nil pass0 (pa_cons (pv 2) (pa_cons (pv 1) (pa_cons (pe_fld (pv 0) rfl) (pa_cons (pe_op op_add (pe_fld (pv 0) rfl) pe_int) pa_nil))))) rfl)
      (pss_cons (ps_fldaug (pv 0) pe_int iop_add)
      (pss_cons (ps_fldaug (pv 0) (pe_call GN (hr.mono (by decide)) (by rfl) gN kN bN .nil pass0 (pa_cons (pv 2) (pa_cons (pv 1) pa_nil))) iop_add)
      (pss_cons (ps_set (i := 3) nd rfl (Or.inr rfl) pe_dnewK)
      (pss_cons (ps_for PassesOwn.never rfl (show PI _ _ _ (iSeq K 1) from PI.orr (pi_list (pv 1)) (pi_tup (pv 1))) (pg_tup rfl (pgs_cons (pg_name (i := 4) nd rfl (Or.inl rfl)) (pgs_cons (pg_name (i := 5) nd rfl (Or.inl rfl)) pgs_nil)))
        (pss_one (ps_for PassesOwn.never rfl (pi_tup (pe_call GU hr (by rfl) gU kU bU .nil pass0 (pa_cons (pe_fld (pv 2) rfl) (pa_cons (pv 4) pa_nil)))) (pg_name (i := 6) nd rfl (Or.inl rfl))
          (pss_one (ps_dput hu (pv 3) (pv 6) pe_bl rfl)))))
      (pss_one (ps_fld (pv 0) (pe_lock (pe_dc (own := [("place", 4)]) (g := gName 4) (tt := tYes) (tk := tVar 4) (tv := tOrV (tDGet (tFld K (tVar 0) "_fresh") (tVar 4)) (tDIn (tVar 4) (tVar 3))) rfl nd (pi_keys (pe_fld (pv 0) rfl)) (blkOk_by (N := nSoC) (sc := defScope sSo__change) (by decide +kernel)) (fun _ _ _ _ _ => pg_name (i := 4) nd rfl (Or.inl rfl)) (fun _ _ _ _ _ => pts_nil) (fun _ _ _ _ _ => pv 4)
        (fun _ _ _ _ _ => pe_or (pe_dget hu (pe_fld (pv 0) rfl) (pv 4) (fun _ _ => rfl)) (pe_one (pe_cmp (pc_din hu (pv 4) (pv 3))))))) rfl))))))), ?_⟩
    have w60 := At.w60
    have ul : us.length = cs.length := Paired.length hP
    have l60 := At.ok.l1
    refine ⟨_, rfl, X.p, Zs, X.dx, _, _, rfl, At.ins, U.cl, U.n__state, rfl, ?_⟩
    refine ⟨_, rfl, _, rfl, _, rfl, X.p, Zs, X.dx, _, _, rfl, At.ins, U.cl, U.n__adding, rfl, _, rfl, X.p, Zs, X.dx, _, _, rfl, At.ins, U.cl, U.n__time, rfl, (S.T : Int), 1, rfl, rfl, ?_⟩
    refine ⟨X.st, F, S.fo, S.lv, ad, S.am, S.tm, c, g, S.T + 1, m, us, cs, rfl, At.sta, At.ok, hAd, hc, hP, hbe, hl, hm, hmc, by omega, fun X1 H1 s1 nX1 ea eb S1 => ?_⟩
    -- three writes at the store
    have hp1 := s1 _ _ At.ins
    refine ⟨_, rfl, X.p, Zs, X.dx, _, rfl, hp1, U.cl, U.n__state, (by show 8 < 1000; decide), ?_⟩
    have hp2 : upd H1 X.p (.ins Zs X.dx (putF "_state" (.ref X1.s) (fldS g X S))) X.p = some (.ins Zs X.dx (fieldsSo (.ref g) (.ref X1.s) (vn S.T) (vn S.tc) (vn S.rd) (.ref X.fr) (.ref X.mkA) (vn S.nm))) := upd_same
    have k2 : ∀ b, b ≠ X.p → upd H1 X.p (.ins Zs X.dx (putF "_state" (.ref X1.s) (fldS g X S))) b = H1 b := fun b n => upd_ne n
    generalize upd H1 X.p (.ins Zs X.dx (putF "_state" (.ref X1.s) (fldS g X S))) = H2 at hp2 k2 ⊢
    refine ⟨_, rfl, X.p, Zs, X.dx, _, _, rfl, hp2, U.cl, U.n__time, rfl, (S.T : Int), 1, rfl, rfl, X.dx, _, hp2, (by show 8 < 1000; decide), ?_⟩
    have hp3 : upd H2 X.p (.ins Zs X.dx (putF "_time" (.int ((S.T : Int) + 1)) (fieldsSo (.ref g) (.ref X1.s) (vn S.T) (vn S.tc) (vn S.rd) (.ref X.fr) (.ref X.mkA) (vn S.nm)))) X.p = some (.ins Zs X.dx (fieldsSo (.ref g) (.ref X1.s) (vn (S.T + 1)) (vn S.tc) (vn S.rd) (.ref X.fr) (.ref X.mkA) (vn S.nm))) := by rw [upd_same, fldT1]; rfl
    have k3 : ∀ b, b ≠ X.p → upd H2 X.p (.ins Zs X.dx (putF "_time" (.int ((S.T : Int) + 1)) (fieldsSo (.ref g) (.ref X1.s) (vn S.T) (vn S.tc) (vn S.rd) (.ref X.fr) (.ref X.mkA) (vn S.nm)))) b = H1 b := fun b n => by rw [upd_ne n]; exact k2 b n
    generalize upd H2 X.p (.ins Zs X.dx (putF "_time" (.int ((S.T : Int) + 1)) (fieldsSo (.ref g) (.ref X1.s) (vn S.T) (vn S.tc) (vn S.rd) (.ref X.fr) (.ref X.mkA) (vn S.nm)))) = H3 at hp3 k3 ⊢
    have K13 : Kept X.p H1 H3 := fun b o n e => by rw [k3 b n]; exact e
    have T13 := keptTK K13 hp1 fun xs z => by cases z
    have K03 : Kept X.p H H3 := kept_trans (kept_same s1) K13
    have T03 : TK H H3 := (tkSame s1).trans T13
    have cp : c ≠ X.p := fun z => by
      have e := At.ins
      rcases hc with h | h <;> (rw [z, e] at h; cases h)
    have seq3 : SeqH H3 c us := by
      rcases hc with h | h
      · exact .inl (K03 _ _ cp h)
      · exact .inr (K03 _ _ cp h)
    have hP3 : Paired (ChgAt D H3) us cs := Paired.mapP hP fun _ _ z => chgTK T03 z
    have fp : ∀ {b : Addr}, F b → b ≠ X.p := fun h z => At.own.2 (by rw [← z]; exact h)
    have B3 : StateAt Zt C D F S.fo S.lv ad S.am S.tm X.st H3 := At.sta.keep T03 (fun b o h e => K03 b o (fp h) e) fun _ h => h
    refine ⟨_, rfl, X.p, Zs, X.dx, _, _, rfl, hp3, U.cl, U.n__touches, rfl, _, rfl, _, rfl, X.st, F, S.fo, S.lv, ad, S.am, S.tm, c, us, cs, rfl, B3, At.ok, seq3, hP3, hl, fun H4 s4 => ?_⟩
    have hp4 := s4 _ _ hp3
    refine ⟨(S.tc : Int), _, rfl, rfl, X.dx, _, hp4, (by show 8 < 1000; decide), ?_⟩
    have hp5 : upd H4 X.p (.ins Zs X.dx (putF "_touches" (.int ((S.tc : Int) + (((holdsA (ntOf S.fo S.lv) (cs.map fun c => c.1)).length : Nat) : Int))) (fieldsSo (.ref g) (.ref X1.s) (vn (S.T + 1)) (vn S.tc) (vn S.rd) (.ref X.fr) (.ref X.mkA) (vn S.nm)))) X.p = some (.ins Zs X.dx (fieldsSo (.ref g) (.ref X1.s) (vn (S.T + 1)) (vn (S.tc + (holdsA (ntOf S.fo S.lv) (cs.map fun c => c.1)).length)) (vn S.rd) (.ref X.fr) (.ref X.mkA) (vn S.nm))) := by rw [upd_same, vnAdd]; rfl
    have k5 : ∀ b, b ≠ X.p → upd H4 X.p (.ins Zs X.dx (putF "_touches" (.int ((S.tc : Int) + (((holdsA (ntOf S.fo S.lv) (cs.map fun c => c.1)).length : Nat) : Int))) (fieldsSo (.ref g) (.ref X1.s) (vn (S.T + 1)) (vn S.tc) (vn S.rd) (.ref X.fr) (.ref X.mkA) (vn S.nm)))) b = H4 b := fun b n => upd_ne n
    generalize upd H4 X.p (.ins Zs X.dx (putF "_touches" (.int ((S.tc : Int) + (((holdsA (ntOf S.fo S.lv) (cs.map fun c => c.1)).length : Nat) : Int))) (fieldsSo (.ref g) (.ref X1.s) (vn (S.T + 1)) (vn S.tc) (vn S.rd) (.ref X.fr) (.ref X.mkA) (vn S.nm)))) = H5 at hp5 k5 ⊢
    have K35 : Kept X.p H3 H5 := fun b o n e => by rw [k5 b n]; exact s4 _ _ e
    have K15 := kept_trans K13 K35
    have K05 := kept_trans K03 K35
    have T05 : TK H H5 := keptTK K05 At.ins fun xs z => by cases z
    have seq5 : SeqH H5 c us := by
      rcases hc with h | h
      · exact .inl (K05 _ _ cp h)
      · exact .inr (K05 _ _ cp h)
    have B5 : StateAt Zt C D F S.fo S.lv ad S.am S.tm X.st H5 := At.sta.keep T05 (fun b o h e => K05 b o (fp h) e) fun _ h => h
    -- what the changes reach
    refine fun DR nDR => ?_
    have hR0 : upd H5 DR (.dK []) DR = some (.dK []) := upd_same
    have sR := smUpd (o := .dK []) nDR
    refine seqWalk rfl seq5 sR fun J wk => ?_
    have dl : ∀ q, (dwn S.fo.ps q S.fo.ps.length).length ≤ 60 := fun q => Nat.le_trans dwn_len l60
    refine for_it wk (fun j σ G => Same H5 G ∧ (∃ t4 t5 t6 : Option V, σ = [some (.ref X.p), some (.ref c), some (.ref X.st.s), some (.ref DR), t4, t5, t6]) ∧ ∃ kvs : List (L2.Key × V), G DR = some (.dK kvs) ∧ kvs.length ≤ 60 * j ∧ ∀ q : Nat, q < S.fo.ps.length → ((valV kvs (.inl (q : Int))).isSome = true ↔ ∃ c ∈ cs.take j, c.1 ∈ road S.fo.ps q))
      ⟨sR, ⟨_, _, _, rfl⟩, [], hR0, Nat.le_refl _, fun q _ => ⟨fun z => (by cases z), fun ⟨c, hc, _⟩ => by rw [List.take_zero] at hc; cases hc⟩⟩ (fun j σ G _ z => z.1) ?_ ?_
    · rintro j x σ G G' hj ⟨sm, ⟨t4, t5, t6, rfl⟩, kvs, hD, hlen, hv⟩ ⟨rfl, hx⟩
      obtain ⟨c1, hc1, t, y, rfl, ht, hy⟩ := pairedGetQ hP hx
      have hcb := hbe c1 (List.mem_of_getElem? hc1)
      have hcl := At.ok.bl c1.1 hcb
      have BG := B5.same sm
      refine ⟨t, _, rfl, .inl (.inl (sm _ _ (T05 _ _ ht))), rfl, _, _, rfl, _, _, rfl, rfl, ?_⟩
      refine ⟨_, rfl, X.st.s, Zt, X.st.dx, _, _, rfl, BG.ins, Ut.cl, Ut.n_hierarchy, rfl, _, rfl, X.st.a, S.fo, c1.1, rfl, BG.hie, At.ok.ps, l60, hcl, fun r G1 s1 hr1 => ?_⟩
      refine ⟨r, rfl, ⟨_, tnL hr1⟩, ?_⟩
      have smG1 := sm.trans s1
      have hD1 := s1 _ _ hD
      have et : cs.take (j + 1) = cs.take j ++ [c1] := by rw [List.take_add_one, hc1]; rfl
      refine for_it (walk_tup (xs := (dwn S.fo.ps c1.1 S.fo.ps.length).map vn)) (fun i σ G => Same H5 G ∧ G r = some (.tup ((dwn S.fo.ps c1.1 S.fo.ps.length).map vn)) ∧ (∃ t4 t5 t6 : Option V, σ = [some (.ref X.p), some (.ref c), some (.ref X.st.s), some (.ref DR), t4, t5, t6]) ∧ ∃ kvs : List (L2.Key × V), G DR = some (.dK kvs) ∧ kvs.length ≤ 60 * j + i ∧ ∀ q : Nat, q < S.fo.ps.length → ((valV kvs (.inl (q : Int))).isSome = true ↔ ((∃ c ∈ cs.take j, c.1 ∈ road S.fo.ps q) ∨ q ∈ (dwn S.fo.ps c1.1 S.fo.ps.length).take i)))
        ⟨smG1, hr1, ⟨_, _, _, rfl⟩, kvs, hD1, hlen, fun q hq => by rw [List.take_zero, hv q hq]; exact ⟨.inl, fun z => z.elim (fun y => y) fun y => (by cases y)⟩⟩ (fun i σ G _ z => .inl (.inl z.2.1)) ?_ ?_
      · rintro i x σ G2 G3 hi ⟨sm2, hr2, ⟨t4, t5, t6, rfl⟩, kvs2, hD2, hlen2, hv2⟩ ⟨rfl, hx2⟩
        obtain ⟨y2, hy2, rfl⟩ := vn_get hx2
        rw [List.length_map] at hi
        have dl1 := dl c1.1
        have rDR : r ≠ DR := fun z => by rw [z, hD2] at hr2; cases hr2
        refine ⟨_, rfl, _, rfl, DR, _, rfl, DPut.k (k := .inl (y2 : Int)) hD2 (bigLine (by omega)), smOver nDR sm2, by rw [upd_ne rDR]; exact hr2, ⟨_, _, _, rfl⟩, _, upd_same, Nat.le_trans putKLen (by omega), fun q hq => ?_⟩
        rw [valV_put, List.take_add_one, hy2, List.mem_append]
        by_cases e : q = y2
        · rw [if_pos (by rw [e])]
          exact ⟨fun _ => .inr (.inr (by rw [e]; exact List.mem_cons_self)), fun _ => rfl⟩
        · rw [if_neg (fun z => e (by injection z with z; omega)), hv2 q hq]
          exact ⟨fun z => z.imp (fun y => y) .inl, fun z => z.imp (fun y => y) fun y => y.elim (fun y => y) fun y => absurd (List.mem_singleton.mp y) e⟩
      · rintro σ G2 ⟨sm2, hr2, ⟨t4, t5, t6, rfl⟩, kvs2, hD2, hlen2, hv2⟩
        rw [List.length_map] at hlen2 hv2
        have dl1 := dl c1.1
        refine ⟨sm2, ⟨_, _, _, rfl⟩, kvs2, hD2, by omega, fun q hq => ?_⟩
        rw [hv2 q hq, List.take_length, et]
        constructor
        · rintro (⟨c2, h1, h2⟩ | h)
          · exact ⟨c2, List.mem_append.mpr (.inl h1), h2⟩
          · exact ⟨c1, List.mem_append.mpr (.inr List.mem_cons_self), (dwn_mem.mp h).2⟩
        · rintro ⟨c2, h1, h2⟩
          rcases List.mem_append.mp h1 with h1 | h1
          · exact .inl ⟨c2, h1, h2⟩
          · rw [List.mem_singleton.mp h1] at h2
            exact .inr (dwn_mem.mpr ⟨hq, h2⟩)
    rintro σ G ⟨sm, ⟨t4, t5, t6, rfl⟩, kvs, hD, hlen, hv⟩
    rw [ul, List.take_length] at hv
    -- the fresh ones
    have frp : X.fr ≠ X.p := fp At.own.1
    have hfr5 : H5 X.fr = some (.dK (kvF S.W S.fl)) := K05 _ _ frp At.frs
    have hfrG := sm _ _ hfr5
    refine ⟨X.fr, _, hfrG, trivial, fun od => ?_⟩
    have hL : upd G X.fr (.frz od (.dK (kvF S.W S.fl))) X.fr = some (.frz od (.dK (kvF S.W S.fl))) := upd_same
    obtain ⟨HL, eL⟩ : ∃ HL, HL = upd G X.fr (.frz od (.dK (kvF S.W S.fl))) := ⟨_, rfl⟩
    rw [← eL] at hL ⊢
    have insL : HL X.p = some (.ins Zs X.dx (fieldsSo (.ref g) (.ref X1.s) (vn (S.T + 1)) (vn (S.tc + (holdsA (ntOf S.fo S.lv) (cs.map fun c => c.1)).length)) (vn S.rd) (.ref X.fr) (.ref X.mkA) (vn S.nm))) := by rw [eL, upd_ne frp.symm]; exact sm _ _ hp5
    have dfr : DR ≠ X.fr := fun z => by rw [z, hfr5] at nDR; cases nDR
    have hDL : HL DR = some (.dK kvs) := by rw [eL, upd_ne dfr]; exact hD
    refine ⟨_, rfl, X.p, Zs, X.dx, _, _, rfl, insL, U.cl, U.n__fresh, rfl, X.fr, od, rfl, .inl ⟨_, hL, fun D2 nD2 => ?_⟩⟩
    refine anyWalk walk_keys (fun j G => Same HL G ∧ G D2 = some (.dK (kvF (S.W.take j) (chgSv S cs).fl))) ⟨smUpd nD2, upd_same⟩ (fun j G _ z => z.1 _ _ hL) ?_ ?_
    · rintro j x G2 G3 hj ⟨sm2, hD2⟩ ⟨rfl, kk, v, hkv, rfl⟩
      obtain ⟨y, hy, rfl, rfl⟩ := kvF_at hkv
      have et : S.W.take (j + 1) = S.W.take j ++ [y] := by rw [List.take_add_one, hy]; rfl
      have hyW := List.mem_of_getElem? hy
      have yn := takeNot At.wn.1 hy
      have yl := At.ok.al y (At.wn.2 y hyW)
      have ll : (kvF (S.W.take j) (chgSv S cs).fl).length ≤ 60 := by
        rw [kvF_len, List.length_take]
        omega
      have gF : DGet G3 X.fr (kV (.inl (y : Int))) (some (.bl (S.fl y))) := .inl ⟨kvF S.W S.fl, .inl (y : Int), .inr ⟨od, sm2 _ _ hL⟩, rfl, by rw [kvF_val, if_pos hyW]⟩
      have nxt : Same HL (upd G3 D2 (.dK (putK (kvF (S.W.take j) (chgSv S cs).fl) (.inl (y : Int)) (.bl ((chgSv S cs).fl y))))) ∧ upd G3 D2 (.dK (putK (kvF (S.W.take j) (chgSv S cs).fl) (.inl (y : Int)) (.bl ((chgSv S cs).fl y)))) D2 = some (.dK (kvF (S.W.take (j + 1)) (chgSv S cs).fl)) := ⟨smOver nD2 sm2, by rw [upd_same, kvF_add yn, et]⟩
      refine ⟨rfl, _, rfl, _, rfl, X.p, Zs, X.dx, _, _, rfl, sm2 _ _ insL, U.cl, U.n__fresh, rfl, _, rfl, X.fr, _, rfl, gF, S.fl y, rfl, ?_⟩
      cases hf : S.fl y with
      | true =>
        refine ifT rfl ?_
        have e : (chgSv S cs).fl y = true := by show (S.fl y || _) = true; rw [hf]; rfl
        rw [e] at nxt
        exact ⟨_, .inl (y : Int), rfl, hD2, bigLine (by omega), nxt⟩
      | false =>
        refine ifF (by decide) ?_
        refine ⟨_, rfl, _, rfl, DR, _, rfl, .inl ⟨kvs, .inl (y : Int), .inl (sm2 _ _ hDL), rfl, rfl⟩, ?_⟩
        have e : (chgSv S cs).fl y = (valV kvs (.inl (y : Int))).isSome := by
          show (S.fl y || cs.any fun c => decide (c.1 ∈ road S.fo.ps y)) = _
          rw [hf, Bool.false_or, Bool.eq_iff_iff, hv y yl, List.any_eq_true]
          exact ⟨fun ⟨c, h1, h2⟩ => ⟨c, h1, of_decide_eq_true h2⟩, fun ⟨c, h1, h2⟩ => ⟨c, h1, decide_eq_true h2⟩⟩
        rw [e] at nxt
        exact ⟨_, .inl (y : Int), rfl, hD2, bigLine (by omega), nxt⟩
    rintro G2 ⟨sm2, hD2⟩
    rw [kvF_len, List.take_length] at hD2
    have neD : D2 ≠ X.fr := fun z => by rw [z, hL] at nD2; cases nD2
    refine ⟨sm2 _ _ hL, ?_⟩
    have sG : Same G (upd G2 X.fr (.dK (kvF S.W S.fl))) := lockSame hfrG eL sm2
    have hG : upd G2 X.fr (.dK (kvF S.W S.fl)) D2 = some (.dK (kvF S.W (chgSv S cs).fl)) := by rw [upd_ne neD]; exact hD2
    have nG : G D2 = none := by rw [eL, upd_ne neD] at nD2; exact nD2
    generalize upd G2 X.fr (.dK (kvF S.W S.fl)) = G4 at sG hG ⊢
    have s54 := sm.trans sG
    have hp6 := s54 _ _ hp5
    refine ⟨_, rfl, X.p, Zs, X.dx, _, rfl, hp6, U.cl, U.n__fresh, (by show 8 < 1000; decide), ?_⟩
    have K06 : Kept X.p H (upd G4 X.p (.ins Zs X.dx (putF "_fresh" (.ref D2) (fieldsSo (.ref g) (.ref X1.s) (vn (S.T + 1)) (vn (S.tc + (holdsA (ntOf S.fo S.lv) (cs.map fun c => c.1)).length)) (vn S.rd) (.ref X.fr) (.ref X.mkA) (vn S.nm))))) := kept_trans (kept_trans K05 (kept_same s54)) kept_hand
    have K16 : Kept X.p H1 (upd G4 X.p (.ins Zs X.dx (putF "_fresh" (.ref D2) (fieldsSo (.ref g) (.ref X1.s) (vn (S.T + 1)) (vn (S.tc + (holdsA (ntOf S.fo S.lv) (cs.map fun c => c.1)).length)) (vn S.rd) (.ref X.fr) (.ref X.mkA) (vn S.nm))))) := kept_trans (kept_trans K15 (kept_same s54)) kept_hand
    have hp7 : upd G4 X.p (.ins Zs X.dx (putF "_fresh" (.ref D2) (fieldsSo (.ref g) (.ref X1.s) (vn (S.T + 1)) (vn (S.tc + (holdsA (ntOf S.fo S.lv) (cs.map fun c => c.1)).length)) (vn S.rd) (.ref X.fr) (.ref X.mkA) (vn S.nm)))) X.p = some (.ins Zs X.dx (fldS g { X with fr := D2, st := X1 } (chgSv S cs))) := by rw [upd_same]; rfl
    have D2p : D2 ≠ X.p := neK hG hp6 fun z => by cases z
    have hfr7 : upd G4 X.p (.ins Zs X.dx (putF "_fresh" (.ref D2) (fieldsSo (.ref g) (.ref X1.s) (vn (S.T + 1)) (vn (S.tc + (holdsA (ntOf S.fo S.lv) (cs.map fun c => c.1)).length)) (vn S.rd) (.ref X.fr) (.ref X.mkA) (vn S.nm)))) D2 = some (.dK (kvF S.W (chgSv S cs).fl)) := by rw [upd_ne D2p]; exact hG
    generalize upd G4 X.p (.ins Zs X.dx (putF "_fresh" (.ref D2) (fieldsSo (.ref g) (.ref X1.s) (vn (S.T + 1)) (vn (S.tc + (holdsA (ntOf S.fo S.lv) (cs.map fun c => c.1)).length)) (vn S.rd) (.ref X.fr) (.ref X.mkA) (vn S.nm)))) = H7 at K06 K16 hp7 hfr7 ⊢
    have nH : H D2 = none := by
      cases q : H D2 with
      | none => rfl
      | some o => rw [sm _ _ (K05 _ _ D2p q)] at nG; cases nG
    have T16 : TK H1 H7 := keptTK K16 hp1 fun xs z => by cases z
    have np1 : ∀ {b : Addr}, (F b ∨ (H b = none ∧ H1 b ≠ none)) → b ≠ X.p := fun h z => by
      rcases h with h | ⟨h, _⟩
      · exact fp h z
      · rw [z, At.ins] at h; cases h
    have S7 : StateAt Zt C D (fun x => F x ∨ (H x = none ∧ H7 x ≠ none)) S.fo S.lv ad (chgA S.am cs) (tmC S.tm cs (S.T + 1)) X1 H7 := S1.keep T16 (fun b o h e => K16 b o (np1 h) e) fun b h => by
      rcases id h with h1 | ⟨h1, h2⟩
      · exact .inl h1
      · refine .inr ⟨h1, ?_⟩
        cases q : H1 b with
        | none => exact absurd q h2
        | some o => rw [K16 b o (np1 h) q]; exact (fun y => nomatch y)
    exact k { X with fr := D2, st := X1 } H7 rfl (At.step { X with fr := D2, st := X1 } (chgSv S cs) rfl K06 S7 hfr7 (.inr nH) hp7 At.ok At.lvo At.wn) K06 (keptTK K06 At.ins fun xs z => by cases z)
/-- one change -/
def spSoC1 {α : Type} (P : Program) (w : World) (K : PySem.W.Frag) (mg : Str → Option Value) (base : Heap) (Zs Zt C : Addr) (D : Dom α) : Sp := fun vs H Q _ => ∃ (F : Addr → Prop) (ad : α → α → α) (g : Addr) (X : SoX) (S : Sv α) (m q : Nat) (v : V) (a : α), vs = [.ref X.p, vn q, v] ∧ StoreAt Zs Zt C D F ad g X S H ∧ AddG P w K mg base D g ad ∧ D.rep H v a ∧ q ∈ S.fo.be ∧ SzS D S m ∧ D.sz a ≤ m ∧
  StoreTo Zs Zt C D F ad g X (chgSv S [(q, a)]) H (Q .non)
def nSoC1 : List Str := ["self", "place", "amount"]
theorem scSoC1 : FnScope nSoC1 ["self", "place", "amount"] (defScope sSo_change) := ⟨rfl, rfl, rfl, by decide +kernel, rfl, by decide +kernel, by decide +kernel⟩
theorem dSoC1 {α : Type} (D : Dom α) (B : Defs K mg C) (U : SoT K mg Zs) (Ut : TaT K mg Zt) : ∃ f fd, FnOk P w K mg base CX0 6 f fd ["self", "place", "amount"] (spSoC1 P w K mg base Zs Zt C D) ∧ Meth K Zs "change" f ∧ Binds K fd ["self", "place", "amount"] [] := by
  obtain ⟨fA, fdA, GA, gA, kA, bA⟩ := dIsBear (P := P) (w := w) (base := base) B
  obtain ⟨fC, fdC, GC, MC, bC⟩ := dSoC (P := P) (w := w) (base := base) D B U Ut
  obtain ⟨f, fd, F0, M, b⟩ := U.m_change
  have N := B.N
  refine ⟨f, fd, ?_, M, b⟩
  refine F0.ok scSoC1 (fun vs H Q E h => ?_) (fun cdv A outer s H vs Q E hr h => ?_)
  · obtain ⟨F, ad, g, X, S, m, q, v, a, rfl, _⟩ := h
    rfl
  · obtain ⟨F, ad, g, X, S, m, q, v, a, rfl, At, hAd, hv, hq, hm, ha, k⟩ := h
    refine ⟨_, pss_cons (ps_if (pt_not (pt_val (pe_call GA (hr.mono (by decide)) (by rfl) gA kA bA .nil pass0 (pa_cons (pe_fld (pe_fld (pv 0) rfl) rfl) (pa_cons (pv 1) pa_nil))))) (pss_one ps_never) pss_nil)
      (pss_one (ps_expr (pe_meth (pv 0) U.cl MC GC hr bC .nil pass0 (pa_cons (pe_tup (pa_cons (pe_tup (pa_cons (pv 1) (pa_cons (pv 2) pa_nil))) pa_nil)) pa_nil)))), ?_⟩
    refine ⟨_, rfl, X.p, Zs, X.dx, _, _, rfl, At.ins, U.cl, U.n__state, rfl, X.st.s, Zt, X.st.dx, _, _, rfl, At.sta.ins, Ut.cl, Ut.n_hierarchy, rfl, _, rfl, X.st.a, S.fo, q, rfl, At.sta.hie, hq, true, rfl, ?_⟩
    refine ifF (by decide) ?_
    refine ⟨_, rfl, X.p, X.dx, _, rfl, At.ins, rfl, _, rfl, _, rfl, by show 2 ≤ sizeLine; decide, fun t1 n1 => ⟨by show 1 ≤ sizeLine; decide, fun t2 n2 => ?_⟩⟩
    have s1 := smUpd (o := .tup [vn q, v]) n1
    have s2 := s1.trans (smUpd (o := .tup [.ref t1]) n2)
    have h1 : upd (upd H t1 (.tup [vn q, v])) t2 (.tup [.ref t1]) t1 = some (.tup [vn q, v]) := smUpd n2 _ _ upd_same
    have h2 : upd (upd H t1 (.tup [vn q, v])) t2 (.tup [.ref t1]) t2 = some (.tup [.ref t1]) := upd_same
    generalize upd (upd H t1 (.tup [vn q, v])) t2 (.tup [.ref t1]) = H2 at s2 h1 h2 ⊢
    have A2 := At.beside (tkSame s2) fun b o _ e => s2 _ _ e
    exact ⟨F, ad, g, X, S, t2, m, [.ref t1], [(q, a)], rfl, A2, hAd, .inr h2, .cons ⟨t1, v, rfl, h1, D.same s2 hv⟩ .nil, fun c hc => by rw [List.mem_singleton.mp hc]; exact hq, by show 1 ≤ 60; decide, hm, fun c hc => by rw [List.mem_singleton.mp hc]; exact ha, k.from At s2⟩
/-- several changes -/
def spSoCA {α : Type} (P : Program) (w : World) (K : PySem.W.Frag) (mg : Str → Option Value) (base : Heap) (Zs Zt C : Addr) (D : Dom α) : Sp := fun vs H Q _ => ∃ (F : Addr → Prop) (ad : α → α → α) (g : Addr) (X : SoX) (S : Sv α) (c : Addr) (m : Nat) (us : List V) (cs : List (Nat × α)), vs = [.ref X.p, .ref c] ∧ StoreAt Zs Zt C D F ad g X S H ∧ AddG P w K mg base D g ad ∧ SeqH H c us ∧ Paired (ChgAt D H) us cs ∧ (∀ c ∈ cs, c.1 ∈ S.fo.be) ∧ (cs.map fun c => c.1).Nodup ∧ cs.length ≤ 60 ∧ SzS D S m ∧ (∀ c ∈ cs, D.sz c.2 ≤ m) ∧
  StoreTo Zs Zt C D F ad g X (chgSv S cs) H (Q .non)
def nSoCA : List Str := ["self", "changes"]
theorem scSoCA : FnScope nSoCA ["self", "changes"] (defScope sSo_change_all) := ⟨rfl, rfl, rfl, by decide +kernel, rfl, by decide +kernel, by decide +kernel⟩
theorem dSoCA {α : Type} (D : Dom α) (B : Defs K mg C) (U : SoT K mg Zs) (Ut : TaT K mg Zt) : ∃ f fd, FnOk P w K mg base CX0 6 f fd ["self", "changes"] (spSoCA P w K mg base Zs Zt C D) ∧ Meth K Zs "change_all" f ∧ Binds K fd ["self", "changes"] [] := by
  obtain ⟨fA, fdA, GA, gA, kA, bA⟩ := dIsChg (P := P) (w := w) (base := base) D B
  obtain ⟨fC, fdC, GC, MC, bC⟩ := dSoC (P := P) (w := w) (base := base) D B U Ut
  obtain ⟨f, fd, F0, M, b⟩ := U.m_change_all
  have N := B.N
  refine ⟨f, fd, ?_, M, b⟩
  refine F0.ok scSoCA (fun vs H Q E h => ?_) (fun cdv A outer s H vs Q E hr h => ?_)
  · obtain ⟨F, ad, g, X, S, c, m, us, cs, rfl, _⟩ := h
    rfl
  · obtain ⟨F, ad, g, X, S, c, m, us, cs, rfl, At, hAd, hc, hP, hbe, nd, hl, hm, hmc, k⟩ := h
    refine ⟨_, pss_cons (ps_if (pt_not (pt_val (pe_call GA (hr.mono (by decide)) (by rfl) gA kA bA .nil pass0 (pa_cons (pe_fld (pe_fld (pv 0) rfl) rfl) (pa_cons (pv 1) pa_nil))))) (pss_one ps_never) pss_nil)
      (pss_one (ps_expr (pe_meth (pv 0) U.cl MC GC hr bC .nil pass0 (pa_cons (pv 1) pa_nil)))), ?_⟩
    refine ⟨_, rfl, X.p, Zs, X.dx, _, _, rfl, At.ins, U.cl, U.n__state, rfl, X.st.s, Zt, X.st.dx, _, _, rfl, At.sta.ins, Ut.cl, Ut.n_hierarchy, rfl, _, rfl, X.st.a, c, S.fo, us, cs, rfl, At.sta.hie, hc, hP, hbe, nd, hl, fun H2 s2 => ⟨true, rfl, ?_⟩⟩
    refine ifF (by decide) ?_
    have A2 := At.beside (tkSame s2) fun b o _ e => s2 _ _ e
    exact ⟨_, rfl, X.p, X.dx, _, rfl, A2.ins, rfl, _, rfl, F, ad, g, X, S, c, m, us, cs, rfl, A2, hAd, seqSame s2 hc, Paired.mapP hP fun _ _ z => chgTK (tkSame s2) z, hbe, hl, hm, hmc, k.from At s2⟩
end
end Cn
namespace Cn
open PySem PySem.Spec PyProof.Rows L2 Ck
/-! a store: news -/
def NewsAt {α : Type} (D : Dom α) (H : Hp) (v : V) (e : Nat × Option α) : Prop := ∃ t x, v = .ref t ∧ H t = some (.tup [vn e.1, x]) ∧ D.opt H x e.2
theorem newsTK {α : Type} {D : Dom α} {H H' : Hp} (k : TK H H') {v : V} {e : Nat × Option α} (h : NewsAt D H v e) : NewsAt D H' v e := by
  obtain ⟨t, x, h1, h2, h3⟩ := h
  exact ⟨t, x, h1, k _ _ h2, D.optKeep k h3⟩
def ansS {α : Type} (ad : α → α → α) (S : Sv α) (q : Nat) : Option α := togG ad ((readsN (ntOf S.fo S.lv) q).map fun s => sumP ad S.am (placesN (ntOf S.fo S.lv) s))
def newsSv {α : Type} (S : Sv α) (ys : List Nat) : Sv α := { S with rd := S.rd + ((ys.filter S.fl).map fun q => (readsN (ntOf S.fo S.lv) q).length).sum, fl := fun _ => false }
theorem natSumInt {f : Nat → Nat} : ∀ l : List Nat, (l.map fun q => ((f q : Nat) : Int)).sum = (((l.map f).sum : Nat) : Int)
  | [] => rfl
  | x :: l => by
    rw [List.map_cons, List.map_cons, List.sum_cons, List.sum_cons, natSumInt l, Int.natCast_add]
section
variable {P : Program} {w : World} {K : PySem.W.Frag} {mg : Str → Option Value} {base : Heap} {C Zs Zt : Addr}
def spSoN {α : Type} (P : Program) (w : World) (K : PySem.W.Frag) (mg : Str → Option Value) (base : Heap) (Zs Zt C : Addr) (D : Dom α) : Sp := fun vs H Q _ => ∃ (F : Addr → Prop) (ad : α → α → α) (g : Addr) (X : SoX) (S : Sv α) (m : Nat), vs = [.ref X.p] ∧ StoreAt Zs Zt C D F ad g X S H ∧ AddG P w K mg base D g ad ∧ SzS D S m ∧
  ∀ ys us r, ys.Perm S.W → ys.Pairwise (· ≤ ·) → H r = none → StoreTo Zs Zt C D F ad g X (newsSv S ys) H fun H' => H' r = some (.lst us) → Paired (NewsAt D H') us ((ys.filter S.fl).map fun q => (q, ansS ad S q)) → Q (.ref r) H'
def nSoN : List Str := ["self", "due", "answers", "place"]
theorem scSoN : FnScope nSoN ["self"] (defScope sSo_news) := ⟨rfl, rfl, rfl, by decide +kernel, rfl, by decide +kernel, by decide +kernel⟩
theorem dSoN {α : Type} (D : Dom α) (B : Defs K mg C) (U : SoT K mg Zs) (Ut : TaT K mg Zt) : ∃ f fd, FnOk P w K mg base CX0 4 f fd ["self"] (spSoN P w K mg base Zs Zt C D) ∧ Meth K Zs "news" f ∧ Binds K fd ["self"] [] := by
  obtain ⟨fR, fdR, GR, gR, kR, bR⟩ := dReadAt (P := P) (w := w) (base := base) B
  obtain ⟨fA, fdA, GA, MA, bA⟩ := dTaA (P := P) (w := w) (base := base) D B Ut
  obtain ⟨fW, fdW, GW, MW, bW⟩ := dSoW (P := P) (w := w) (base := base) (Zt := Zt) D B U
  obtain ⟨f, fd, F0, M, b⟩ := U.m_news
  have N := B.N
  have nd := scSoN.nd
  refine ⟨f, fd, ?_, M, b⟩
  refine F0.ok scSoN (fun vs H Q E h => ?_) (fun cdv A outer s H vs Q E hr h => ?_)
  · obtain ⟨F, ad, g, X, S, m, rfl, _⟩ := h
    rfl
  · obtain ⟨F, ad, g, X, S, m, rfl, At, hAd, ⟨hm, hm1⟩, k⟩ := h
    have hu : (A.deeper (envOfC "Store.news" (defScope sSo_news) s.heap.objs.size f cdv)).units + 1 < cLine := by have := hr.units; omega
    have r1 : Room 1 (A.deeper (envOfC "Store.news" (defScope sSo_news) s.heap.objs.size f cdv)) := Room.mono hr (by decide)
    refine ⟨_, pss_cons (ps_setLc (i := 1) (own := [("place", 3)]) (g := gName 3) (tt := fun σ H Q => tDGet (tFld K (tVar 0) "_fresh") (tVar 3) σ H fun x H' => ∃ k, TruV K x H' k ∧ Q k H') (te := tVar 3) rfl nd rfl rfl (sw_true rfl rfl rfl (by decide +kernel)) (pi_tup (pe_meth0 (pv 0) U.cl MW GW r1 bW .nil pass0))
          (blkOk_by (N := nSoN) (sc := defScope sSo_news) (by decide +kernel)) (fun _ _ _ _ _ => pg_name (i := 3) nd rfl (Or.inl rfl)) (fun _ _ _ _ _ => pts_one (pt_truth (pe_dget hu (pe_fld (pv 0) rfl) (pv 3) (fun _ _ => rfl)) (fun _ => rfl))) (fun _ _ _ _ _ => pv 3))
      (pss_cons (ps_setLc (i := 2) (own := [("place", 3)]) (g := gName 3) (tt := tYes) (te := tTup (tCons (tVar 3) (tCons (tMeth Zt "answer" (spTaA P w K mg base Zt C D) [] (fun _ _ _ => False) (tFld K (tVar 0) "_state") (tCons (tFld K (tVar 0) "_adding") (tCons (tVar 3) tNil))) tNil))) rfl nd rfl rfl (sw_true rfl rfl rfl (by decide +kernel)) (pi_list (pv 1))
          (blkOk_by (N := nSoN) (sc := defScope sSo_news) (by decide +kernel)) (fun _ _ _ _ _ => pg_name (i := 3) nd rfl (Or.inl rfl)) (fun _ _ _ _ _ => pts_nil)
          (fun _ _ _ _ _ => pe_tup (pa_cons (pv 3) (pa_cons (pe_meth (pe_fld (pv 0) rfl) Ut.cl MA GA hr bA .nil pass0 (pa_cons (pe_fld (pv 0) rfl) (pa_cons (pv 3) pa_nil))) pa_nil))))
      (pss_cons (ps_fldaug (pv 0) (pe_callB (r := rSum K) (cr_sum rfl) (by rfl) B.zSum (by decide +kernel) (pa_cons (pe_lc (own := [("place", 3)]) (g := gName 3) (tt := tYes) (te := tCB (rLenQ K) (tCons (tCall spReadAt [] (fun _ _ _ => False) (tCons (tFld K (tFld K (tVar 0) "_state") "notes") (tCons (tVar 3) tNil))) tNil)) rfl nd (pi_list (pv 1))
          (blkOk_by (N := nSoN) (sc := defScope sSo_news) (by decide +kernel)) (fun _ _ _ _ _ => pg_name (i := 3) nd rfl (Or.inl rfl)) (fun _ _ _ _ _ => pts_nil)
          (fun _ _ _ _ _ => pe_callB (r := rLenQ K) len_q (by rfl) N.is.len PySem.boot_len (pa_cons (pe_call GR r1 (by rfl) gR kR bR .nil pass0 (pa_cons (pe_fld (pe_fld (pv 0) rfl) rfl) (pa_cons (pv 3) pa_nil))) pa_nil))) pa_nil)) iop_add)
      (pss_cons (ps_fld (pv 0) (pe_lock (pe_dc (own := [("place", 3)]) (g := gName 3) (tt := tYes) (tk := tVar 3) (tv := tC (.bl false)) rfl nd (pi_keys (pe_fld (pv 0) rfl)) (blkOk_by (N := nSoN) (sc := defScope sSo_news) (by decide +kernel)) (fun _ _ _ _ _ => pg_name (i := 3) nd rfl (Or.inl rfl)) (fun _ _ _ _ _ => pts_nil) (fun _ _ _ _ _ => pv 3)
          (fun _ _ _ _ _ => pe_bl))) rfl)
      (pss_one (ps_ret (pv 2)))))), ?_⟩
    have w60 := At.w60
    have okN := ntOk_held (lv := S.lv) At.ok
    refine ⟨_, rfl, X.p, X.dx, _, rfl, At.ins, rfl, F, ad, g, X, S, rfl, At, fun ys r0 H1 s1 hp hsrt hr0 => ⟨r0, rfl, ⟨_, tnL hr0⟩, fun L1 nL1 => ?_⟩⟩
    have A1 := At.beside (tkSame s1) fun b o _ e => s1 _ _ e
    have yW : ∀ y ∈ ys, y ∈ S.W := fun y hy => hp.mem_iff.mp hy
    have y60 : ys.length ≤ 60 := by rw [hp.length_eq]; exact w60
    refine anyWalk (walk_tup (xs := ys.map vn)) (fun j J => Same H1 J ∧ J L1 = some (.lst (((ys.take j).filter S.fl).map vn))) ⟨smUpd nL1, upd_same⟩ (fun j J _ z => tnL (z.1 _ _ hr0)) ?_ ?_
    · rintro j x J J' hj ⟨sj, hL⟩ ⟨rfl, hx⟩
      obtain ⟨y, hy, rfl⟩ := vn_get hx
      rw [List.length_map] at hj
      have hyW := yW y (List.mem_of_getElem? hy)
      refine ⟨rfl, _, rfl, X.p, Zs, X.dx, _, _, rfl, sj _ _ A1.ins, U.cl, U.n__fresh, rfl, _, rfl, X.fr, .bl (S.fl y), rfl, .inl ⟨kvF S.W S.fl, .inl (y : Int), .inl (sj _ _ A1.frs), rfl, by rw [kvF_val, if_pos hyW]⟩, S.fl y, rfl, ?_⟩
      have et : ys.take (j + 1) = ys.take j ++ [y] := by rw [List.take_add_one, hy]; rfl
      have ll : (((ys.take j).filter S.fl).map vn).length ≤ 60 := by
        rw [List.length_map]
        refine Nat.le_trans (List.length_filter_le _ _) ?_
        rw [List.length_take]
        omega
      cases hf : S.fl y with
      | true =>
        refine ifT rfl ?_
        refine ⟨_, rfl, _, hL, small1000 (by omega), smOver nL1 sj, ?_⟩
        rw [upd_same, et, List.filter_append, List.filter_cons_of_pos hf, List.map_append]
        rfl
      | false =>
        refine ifF (by decide) ?_
        refine ⟨sj, ?_⟩
        rw [et, List.filter_append, List.filter_cons_of_neg (by rw [hf]; decide), List.filter_nil, List.append_nil]
        exact hL
    rintro H2 ⟨s12, hL1⟩
    rw [List.length_map, List.take_length] at hL1
    have s2 := s1.trans s12
    have A2 := At.beside (tkSame s2) fun b o _ e => s2 _ _ e
    obtain ⟨du, hdu⟩ : ∃ du, du = ys.filter S.fl := ⟨_, rfl⟩
    rw [← hdu] at hL1
    have d60 : du.length ≤ 60 := by rw [hdu]; exact Nat.le_trans (List.length_filter_le _ _) y60
    refine ⟨_, rfl, L1, rfl, ⟨_, .inl (.inl hL1)⟩, fun L2 nL2 => ?_⟩
    have nL2H : H L2 = none := nBack s2 nL2
    refine anyWalk (walk_list (xs := du.map vn)) (fun j J => Same H2 J ∧ ∃ ws, J L2 = some (.lst ws) ∧ Paired (NewsAt D J) ws ((du.take j).map fun q => (q, ansS ad S q))) ⟨smUpd nL2, [], upd_same, .nil⟩ (fun j J _ z => .inl (.inl (z.1 _ _ hL1))) ?_ ?_
    · rintro j x J J' hj ⟨sj, ws, hL, hW⟩ ⟨rfl, hx⟩
      obtain ⟨y, hy, rfl⟩ := vn_get hx
      rw [List.length_map] at hj
      have AJ := A2.beside (tkSame sj) fun b o _ e => sj _ _ e
      have wl := Paired.length hW
      rw [List.length_map, List.length_take] at wl
      refine ⟨rfl, _, rfl, _, rfl, X.p, Zs, X.dx, _, _, rfl, AJ.ins, U.cl, U.n__state, rfl, X.st.s, X.st.dx, _, rfl, AJ.sta.ins, rfl, _, rfl, X.p, Zs, X.dx, _, _, rfl, AJ.ins, U.cl, U.n__adding, rfl, _, rfl, X.st, F, S.fo, S.lv, ad, S.am, S.tm, g, y, m, rfl, AJ.sta, At.ok, hAd, hm, hm1, fun v G s3 hv => ⟨by show 2 ≤ sizeLine; decide, fun t nt => ?_⟩⟩
      have s4 := smUpd (o := .tup [vn y, v]) nt
      have ht : upd G t (.tup [vn y, v]) t = some (.tup [vn y, v]) := upd_same
      have hv4 := D.optSame s4 hv
      generalize upd G t (.tup [vn y, v]) = G4 at s4 ht hv4 ⊢
      have sJ4 := s3.trans s4
      have hL4 := sJ4 _ _ hL
      have tkD : TK G4 (upd G4 L2 (.lst (ws ++ [.ref t]))) := tkUpd hL4 fun xs z => by cases z
      refine ⟨ws, hL4, small1000 (by omega), smOver nL2 (sj.trans sJ4), _, upd_same, ?_⟩
      rw [List.take_add_one, hy, List.map_append]
      exact paired_snoc (Paired.mapP hW fun _ _ z => newsTK ((tkSame sJ4).trans tkD) z) (newsTK tkD ⟨t, v, rfl, ht, hv4⟩)
    rintro H3 ⟨s23, ws, hL2, hW⟩
    rw [List.length_map, List.take_length] at hW
    have s3 := s2.trans s23
    have A3 := At.beside (tkSame s3) fun b o _ e => s3 _ _ e
    refine ⟨_, rfl, X.p, Zs, X.dx, _, _, rfl, A3.ins, U.cl, U.n__reads, rfl, ?_⟩
    refine ⟨_, rfl, L1, rfl, ⟨_, .inl (.inl (s23 _ _ hL1))⟩, fun L3 nL3 => ?_⟩
    refine anyWalk (walk_list (xs := du.map vn)) (fun j J => Same H3 J ∧ J L3 = some (.lst (((du.take j).map fun q => (((readsN (ntOf S.fo S.lv) q).length : Nat) : Int)).map V.int))) ⟨smUpd nL3, upd_same⟩ (fun j J _ z => .inl (.inl (z.1 _ _ (s23 _ _ hL1)))) ?_ ?_
    · rintro j x J J' hj ⟨sj, hL⟩ ⟨rfl, hx⟩
      obtain ⟨y, hy, rfl⟩ := vn_get hx
      rw [List.length_map] at hj
      have AJ := A3.beside (tkSame sj) fun b o _ e => sj _ _ e
      obtain ⟨kvN, hN, hB⟩ := AJ.sta.notes
      refine ⟨rfl, _, rfl, X.p, Zs, X.dx, _, _, rfl, AJ.ins, U.cl, U.n__state, rfl, X.st.s, Zt, X.st.dx, _, _, rfl, AJ.sta.ins, Ut.cl, Ut.n_notes, rfl, _, rfl, X.st.nn, kvN, _, y, rfl, hN, hB, okN.nd, okN.len, fun r G s3 nr hr => ⟨r, _, rfl, .inl (.inl (.inl hr)), _, s3 _ _ hL, small1000 (by rw [List.length_map, List.length_map, List.length_take]; omega), smOver nL3 (sj.trans s3), ?_⟩⟩
      rw [upd_same, List.take_add_one, hy, List.map_append, List.map_append, List.length_map]
      rfl
    rintro H4 ⟨s34, hL3⟩
    rw [List.length_map, List.take_length] at hL3
    have s4 := s3.trans s34
    have A4 := At.beside (tkSame s4) fun b o _ e => s4 _ _ e
    have W4 : Paired (NewsAt D H4) ws (du.map fun q => (q, ansS ad S q)) := Paired.mapP hW fun _ _ z => newsTK (tkSame s34) z
    have hr4 := s34 _ _ hL2
    refine ⟨L3, du.map fun q => (((readsN (ntOf S.fo S.lv) q).length : Nat) : Int), rfl, .inl (.inl hL3), (S.rd : Int), _, rfl, rfl, X.dx, _, A4.ins, (by show 8 < 1000; decide), ?_⟩
    have hp5 : upd H4 X.p (.ins Zs X.dx (putF "_reads" (.int ((S.rd : Int) + (du.map fun q => (((readsN (ntOf S.fo S.lv) q).length : Nat) : Int)).sum)) (fldS g X S))) X.p = some (.ins Zs X.dx (fieldsSo (.ref g) (.ref X.st.s) (vn S.T) (vn S.tc) (vn (newsSv S ys).rd) (.ref X.fr) (.ref X.mkA) (vn S.nm))) := by
      rw [upd_same, natSumInt, vnAdd, hdu]
      rfl
    have k5 : ∀ b, b ≠ X.p → upd H4 X.p (.ins Zs X.dx (putF "_reads" (.int ((S.rd : Int) + (du.map fun q => (((readsN (ntOf S.fo S.lv) q).length : Nat) : Int)).sum)) (fldS g X S))) b = H4 b := fun b n => upd_ne n
    generalize upd H4 X.p (.ins Zs X.dx (putF "_reads" (.int ((S.rd : Int) + (du.map fun q => (((readsN (ntOf S.fo S.lv) q).length : Nat) : Int)).sum)) (fldS g X S))) = H5 at hp5 k5 ⊢
    have K05 : Kept X.p H H5 := fun b o n e => by rw [k5 b n]; exact s4 _ _ e
    have T05 := keptTK K05 At.ins fun xs z => by cases z
    have frp : X.fr ≠ X.p := fun z => At.own.2 (by rw [← z]; exact At.own.1)
    have hfr5 := K05 _ _ frp At.frs
    have L2p : L2 ≠ X.p := fun z => by rw [z, At.ins] at nL2H; cases nL2H
    have hr5 : H5 L2 = some (.lst ws) := by rw [k5 _ L2p]; exact hr4
    have T45 : TK H4 H5 := fun t xs e => by rw [k5 t (fun z => by rw [z, A4.ins] at e; cases e)]; exact e
    -- nothing is fresh
    refine ⟨X.fr, _, hfr5, trivial, fun od => ?_⟩
    have hL : upd H5 X.fr (.frz od (.dK (kvF S.W S.fl))) X.fr = some (.frz od (.dK (kvF S.W S.fl))) := upd_same
    obtain ⟨HL, eL⟩ : ∃ HL, HL = upd H5 X.fr (.frz od (.dK (kvF S.W S.fl))) := ⟨_, rfl⟩
    rw [← eL] at hL ⊢
    have insL : HL X.p = some (.ins Zs X.dx (fieldsSo (.ref g) (.ref X.st.s) (vn S.T) (vn S.tc) (vn (newsSv S ys).rd) (.ref X.fr) (.ref X.mkA) (vn S.nm))) := by rw [eL, upd_ne frp.symm]; exact hp5
    refine ⟨_, rfl, X.p, Zs, X.dx, _, _, rfl, insL, U.cl, U.n__fresh, rfl, X.fr, od, rfl, .inl ⟨_, hL, fun D2 nD2 => ?_⟩⟩
    refine anyWalk walk_keys (fun j G => Same HL G ∧ G D2 = some (.dK (kvF (S.W.take j) fun _ => false))) ⟨smUpd nD2, upd_same⟩ (fun j G _ z => z.1 _ _ hL) ?_ ?_
    · rintro j x G2 G3 hj ⟨sm2, hD2⟩ ⟨rfl, kk, v, hkv, rfl⟩
      obtain ⟨y, hy, rfl, rfl⟩ := kvF_at hkv
      have et : S.W.take (j + 1) = S.W.take j ++ [y] := by rw [List.take_add_one, hy]; rfl
      have yn := takeNot At.wn.1 hy
      refine ⟨rfl, _, rfl, _, .inl (y : Int), rfl, hD2, bigLine (by rw [kvF_len, List.length_take]; omega), smOver nD2 sm2, ?_⟩
      rw [upd_same]
      show some (HO.dK (putK _ _ (V.bl ((fun _ => false) y)))) = _
      rw [kvF_add yn, et]
    rintro G2 ⟨sm2, hD2⟩
    rw [kvF_len, List.take_length] at hD2
    have neD : D2 ≠ X.fr := fun z => by rw [z, hL] at nD2; cases nD2
    refine ⟨sm2 _ _ hL, ?_⟩
    have sG : Same H5 (upd G2 X.fr (.dK (kvF S.W S.fl))) := lockSame hfr5 eL sm2
    have hG : upd G2 X.fr (.dK (kvF S.W S.fl)) D2 = some (.dK (kvF S.W fun _ => false)) := by rw [upd_ne neD]; exact hD2
    have nG : H5 D2 = none := by rw [eL, upd_ne neD] at nD2; exact nD2
    generalize upd G2 X.fr (.dK (kvF S.W S.fl)) = G4 at sG hG ⊢
    have hp6 := sG _ _ hp5
    refine ⟨_, rfl, X.p, Zs, X.dx, _, rfl, hp6, U.cl, U.n__fresh, (by show 8 < 1000; decide), ?_⟩
    have D2p : D2 ≠ X.p := neK hG hp6 fun z => by cases z
    have nH : H D2 = none := by
      cases q : H D2 with
      | none => rfl
      | some o => rw [K05 _ _ D2p q] at nG; cases nG
    have K06 : Kept X.p H (upd G4 X.p (.ins Zs X.dx (putF "_fresh" (.ref D2) (fieldsSo (.ref g) (.ref X.st.s) (vn S.T) (vn S.tc) (vn (newsSv S ys).rd) (.ref X.fr) (.ref X.mkA) (vn S.nm))))) := kept_trans (kept_trans K05 (kept_same sG)) kept_hand
    have T06 := keptTK K06 At.ins fun xs z => by cases z
    have S6 : StateAt Zt C D (fun x => F x ∨ (H x = none ∧ upd G4 X.p (.ins Zs X.dx (putF "_fresh" (.ref D2) (fieldsSo (.ref g) (.ref X.st.s) (vn S.T) (vn S.tc) (vn (newsSv S ys).rd) (.ref X.fr) (.ref X.mkA) (vn S.nm)))) x ≠ none)) S.fo S.lv ad S.am S.tm X.st _ := At.sta.keep T06 (fun b o h e => K06 b o (fun z => At.own.2 (by rw [← z]; exact h)) e) fun b h => .inl h
    have r6 : upd G4 X.p (.ins Zs X.dx (putF "_fresh" (.ref D2) (fieldsSo (.ref g) (.ref X.st.s) (vn S.T) (vn S.tc) (vn (newsSv S ys).rd) (.ref X.fr) (.ref X.mkA) (vn S.nm)))) L2 = some (.lst ws) := by rw [upd_ne L2p]; exact sG _ _ hr5
    have T46 : TK H4 (upd G4 X.p (.ins Zs X.dx (putF "_fresh" (.ref D2) (fieldsSo (.ref g) (.ref X.st.s) (vn S.T) (vn S.tc) (vn (newsSv S ys).rd) (.ref X.fr) (.ref X.mkA) (vn S.nm))))) := (T45.trans (tkSame sG)).trans (tkUpd hp6 fun xs z => by cases z)
    refine ⟨_, rfl, k ys ws L2 hp hsrt nL2H { X with fr := D2 } _ rfl (At.step { X with fr := D2 } (newsSv S ys) rfl K06 S6 (by rw [upd_ne D2p]; exact hG) (.inr nH) (by rw [upd_same]; rfl) At.ok At.lvo At.wn) K06 T06 r6 ?_⟩
    rw [← hdu]
    exact Paired.mapP W4 fun _ _ z => newsTK T46 z
end
end Cn
namespace Cn
open PySem PySem.Spec PyProof.Rows L2 Ck
/-! a store is made -/
def sv0 {α : Type} (fo : Fo) (lv : List Nat) (am : Nat → α) : Sv α := ⟨fo, lv, am, fun _ => 0, 0, 0, 0, 0, [], fun _ => false⟩
section
variable {P : Program} {w : World} {K : PySem.W.Frag} {mg : Str → Option Value} {base : Heap} {C Zs Zt : Addr}
def spSoI {α : Type} (P : Program) (w : World) (K : PySem.W.Frag) (mg : Str → Option Value) (base : Heap) (Zs Zt C : Addr) (D : Dom α) : Sp := fun vs H Q _ => ∃ (p dx a b m g : Addr) (fo : Fo) (lv : List Nat) (ws : List V) (am : Nat → α) (ad : α → α → α) (m0 : Nat), vs = [.ref p, .ref a, .ref b, .ref m, .ref g] ∧ H p = some (.ins Zs dx []) ∧ FoAt C H a fo ∧ FoOk fo ∧ TN H b lv ∧ Lv fo.ps lv ∧
  H m = some (.tup ws) ∧ ws.length = fo.be.length ∧ (∀ i p : Nat, fo.be[i]? = some p → ∃ v, ws[i]? = some v ∧ D.rep H v (am p)) ∧ AddG P w K mg base D g ad ∧ (∀ q, D.sz (am q) ≤ m0) ∧ m0 ≤ 1000 ∧
  ∀ X H', X.p = p → StoreAt Zs Zt C D (fun x => x = a ∨ (H x = none ∧ H' x ≠ none)) ad g X (sv0 fo lv am) H' → Kept p H H' → Q .non H'
def nSoI : List Str := ["self", "forest", "plan", "amounts", "adding", "borne", "place", "amount"]
theorem scSoI : FnScope nSoI ["self", "forest", "plan", "amounts", "adding"] (defScope sSo_init) := ⟨rfl, rfl, rfl, by decide +kernel, rfl, by decide +kernel, by decide +kernel⟩
theorem dSoI {α : Type} (D : Dom α) (B : Defs K mg C) (U : SoT K mg Zs) (Ut : TaT K mg Zt) : ∃ f fd, FnOk P w K mg base CX0 8 f fd ["self", "forest", "plan", "amounts", "adding"] (spSoI P w K mg base Zs Zt C D) ∧ Mk K Zs f ∧ Binds K fd ["self", "forest", "plan", "amounts", "adding"] [] := by
  obtain ⟨f1, fd1, G1, g1, k1, b1⟩ := dIsPlan (P := P) (w := w) (base := base) B
  obtain ⟨f2, fd2, G2, g2, k2, b2⟩ := dIsAmt (P := P) (w := w) (base := base) B
  obtain ⟨f3, fd3, G3, g3, k3, b3⟩ := dFirstS (P := P) (w := w) (base := base) D B Ut
  obtain ⟨f, fd, F0, M, b⟩ := U.ini
  have N := B.N
  have TT := B.T
  have nd := scSoI.nd
  refine ⟨f, fd, ?_, M, b⟩
  refine F0.ok scSoI (fun vs H Q E h => ?_) (fun cdv A outer s H vs Q E hr h => ?_)
  · obtain ⟨p, dx, a, b, m, g, fo, lv, ws, am, ad, m0, rfl, _⟩ := h
    rfl
  · obtain ⟨p, dx, a, b, m, g, fo, lv, ws, am, ad, m0, rfl, hp, hF, ok, hb, hv, hm, hwl, ham, hAd, hsa, hm0, k⟩ := h
    have hu : (A.deeper (envOfC "Store.__init__" (defScope sSo_init) s.heap.objs.size f cdv)).units + 1 < cLine := by have := hr.units; omega
    refine ⟨_, pss_cons (ps_if (pt_not (pt_val (pe_call G1 (hr.mono (by decide)) (by rfl) g1 k1 b1 .nil pass0 (pa_cons (pv 1) (pa_cons (pv 2) pa_nil))))) (pss_one ps_never) pss_nil)
      (pss_cons (ps_if (pt_not (pt_val (pe_call G2 (hr.mono (by decide)) (by rfl) g2 k2 b2 .nil pass0 (pa_cons (pv 1) (pa_cons (pv 3) pa_nil))))) (pss_one ps_never) pss_nil)
      (pss_cons (ps_setDcP (i := 5) (o0 := .dK []) (own := [("place", 6), ("amount", 7)]) (g := gTup K 2 (gCons (gName 6) (gCons (gName 7) gNil))) (tt := tYes) (tk := tVar 6) (tv := tVar 7) (.inl rfl) rfl hu nd rfl rfl (sw_dict rfl rfl rfl (by decide +kernel)) (RZ.pi_zipA (by rfl) N.is.zip (pa_cons (pe_fld (pv 1) rfl) (pa_cons (pv 3) pa_nil)))
          (blkOk_by (N := nSoI) (sc := defScope sSo_init) (by decide +kernel)) (fun _ _ _ _ _ => pg_tup rfl (pgs_cons (pg_name (i := 6) nd rfl (Or.inl rfl)) (pgs_cons (pg_name (i := 7) nd rfl (Or.inl rfl)) pgs_nil))) (fun _ _ _ _ _ => pts_nil) (fun _ _ _ _ _ => pv 6) (fun _ _ _ _ _ => pv 7))
      (pss_cons (ps_fld (pv 0) (pv 4) rfl)
      (pss_cons (ps_fld (pv 0) (pe_call G3 hr (by rfl) g3 k3 b3 .nil pass0 (pa_cons (pv 1) (pa_cons (pv 2) (pa_cons (pv 5) (pa_cons (pv 4) pa_nil))))) rfl)
      (pss_cons (ps_fld (pv 0) pe_int rfl) (pss_cons (ps_fld (pv 0) pe_int rfl) (pss_cons (ps_fld (pv 0) pe_int rfl)
      (pss_cons (ps_fld (pv 0) pe_dnewK rfl) (pss_cons (ps_fld (pv 0) pe_dnewK rfl) (pss_one (ps_fld (pv 0) pe_int rfl))))))))))), ?_⟩
    have l60 := ok.l1
    have bl60 := lotLen ok.be ok.bl
    refine ⟨_, rfl, _, rfl, a, b, fo, lv, rfl, hF, hb, ok.ps, hv, fun H1 s1 => ⟨true, rfl, ?_⟩⟩
    refine ifF (by decide) ?_
    refine ⟨_, rfl, _, rfl, a, m, fo, ws, rfl, foAt_same s1 hF, s1 _ _ hm, hwl, true, rfl, ?_⟩
    refine ifF (by decide) ?_
    obtain ⟨dxf, ap, ab, aa, h0, h1, h2, h3⟩ := foAt_same s1 hF
    refine ⟨_, rfl, a, C, dxf, _, _, rfl, h0, TT.cl, TT.nB, fB, _, rfl, ab, m, fo.be.map vn, ws, rfl, .inr ⟨tnL h2, .inl (.inl (s1 _ _ hm)), fun D1 nD1 => ?_⟩⟩
    refine anyWalk (walk_zipT (n := fo.be.length) (xs := fo.be.map vn) (ys := ws) (by rw [List.length_map, hwl, Nat.min_self])) (fun i G => Same H1 G ∧ ∃ kvs : List (L2.Key × V), G D1 = some (.dK kvs) ∧ kvs.length ≤ i ∧ ∀ p ∈ fo.be.take i, ∃ v, valV kvs (.inl (p : Int)) = some v ∧ D.rep G v (am p))
      ⟨smUpd nD1, [], upd_same, Nat.le_refl _, (fun p hp => by rw [List.take_zero] at hp; cases hp)⟩ (fun i G _ z => ⟨tnL (z.1 _ _ h2), .inl (.inl (z.1 _ _ (s1 _ _ hm)))⟩) ?_ ?_
    · rintro i x G G2 hi ⟨sm, kvs, hD, hkl, hkv⟩ ⟨T, x1, y1, rfl, nT, rfl, e1, e2⟩
      obtain ⟨q, hq, rfl⟩ := vn_get (i := i) e1
      obtain ⟨v, hv1, hv2⟩ := ham i q hq
      have ey : y1 = v := by
        have e2 : ws[i]? = some y1 := e2
        rw [hv1] at e2
        exact (Option.some.inj e2).symm
      subst ey
      have T2 : Same G (upd G T (.tup [vn q, y1])) := smUpd nT
      have hT2 : upd G T (.tup [vn q, y1]) T = some (.tup [vn q, y1]) := upd_same
      generalize upd G T (.tup [vn q, y1]) = G2 at T2 hT2 ⊢
      have hD2 := T2 _ _ hD
      have tkD : TK G2 (upd G2 D1 (.dK (putK kvs (.inl (q : Int)) y1))) := tkUpd hD2 fun xs z => by cases z
      refine ⟨T, _, rfl, .inl (.inl hT2), rfl, _, _, rfl, _, _, rfl, rfl, rfl, _, rfl, _, rfl, _, DPut.k (k := .inl (q : Int)) hD2 (bigLine (by omega)), smOver nD1 (sm.trans T2), putK kvs (.inl (q : Int)) y1, upd_same, Nat.le_trans putKLen (by omega), fun q2 hq2 => ?_⟩
      rw [List.take_add_one, hq] at hq2
      rw [valV_put]
      by_cases c : q2 = q
      · rw [if_pos (by rw [c]), c]
        exact ⟨y1, rfl, D.keep tkD (D.same (s1.trans (sm.trans T2)) hv2)⟩
      · rw [if_neg (fun z => c (by injection z with z; omega))]
        rcases List.mem_append.mp hq2 with h1 | h1
        · obtain ⟨v, a1, a2⟩ := hkv q2 h1
          exact ⟨v, a1, D.keep tkD (D.same T2 a2)⟩
        · exact absurd (List.mem_singleton.mp h1) c
    rintro H4 ⟨s14, kvA, hA, hAl, hAv⟩
    rw [List.take_length] at hAv
    have s4 := s1.trans s14
    have hp4 := s4 _ _ hp
    have nD1H : H D1 = none := nBack s1 nD1
    -- the adding
    refine ⟨_, rfl, _, rfl, p, Zs, dx, [], rfl, hp4, U.cl, U.n__adding, (by show 0 < 1000; decide), ?_⟩
    have hp5 : upd H4 p (.ins Zs dx (putF "_adding" (.ref g) [])) p = some (.ins Zs dx [("_adding", .ref g)]) := upd_same
    have k5 : ∀ b, b ≠ p → upd H4 p (.ins Zs dx (putF "_adding" (.ref g) [])) b = H4 b := fun b n => upd_ne n
    generalize upd H4 p (.ins Zs dx (putF "_adding" (.ref g) [])) = H5 at hp5 k5 ⊢
    have K05 : Kept p H H5 := fun b o n e => by rw [k5 b n]; exact s4 _ _ e
    have T05 := keptTK K05 hp fun xs z => by cases z
    have T45 : TK H4 H5 := fun t xs e => by rw [k5 t (fun z => by rw [z, hp4] at e; cases e)]; exact e
    have ap' : a ≠ p := by
      obtain ⟨_, _, _, _, e0, _⟩ := hF
      exact neK e0 hp fun z => by injection z with _ _ z; exact absurd (congrArg List.length z) (show ¬ (3 = 0) by decide)
    have D1p : D1 ≠ p := fun z => by rw [z, hp] at nD1H; cases nD1H
    have hF5 : FoAt C H5 a fo := foTK T05 (fun o e => K05 _ _ ap' e) hF
    refine ⟨_, rfl, _, rfl, _, rfl, _, rfl, a, b, D1, g, fo, lv, am, ad, m0, rfl, hF5, ok, T05 _ _ hb, hv, ⟨kvA, by rw [k5 _ D1p]; exact hA, by omega, fun q hq => ?_⟩, hAd, hsa, hm0, fun X1 H6 s6 nX1 S1 => ?_⟩
    · obtain ⟨v, a1, a2⟩ := hAv q hq
      exact ⟨v, a1, D.keep T45 a2⟩
    have hp6 := s6 _ _ hp5
    refine ⟨_, rfl, p, Zs, dx, _, rfl, hp6, U.cl, U.n__state, (by show 1 < 1000; decide), ?_⟩
    refine ⟨_, rfl, p, Zs, dx, _, rfl, upd_same, U.cl, U.n__time, (by show 2 < 1000; decide), ?_⟩
    refine ⟨_, rfl, p, Zs, dx, _, rfl, upd_same, U.cl, U.n__touches, (by show 3 < 1000; decide), ?_⟩
    refine ⟨_, rfl, p, Zs, dx, _, rfl, upd_same, U.cl, U.n__reads, (by show 4 < 1000; decide), ?_⟩
    obtain ⟨H7, e7⟩ : ∃ H7, H7 = upd (upd (upd (upd H6 p (.ins Zs dx (putF "_state" (.ref X1.s) [("_adding", .ref g)]))) p (.ins Zs dx (putF "_time" (.int 0) (putF "_state" (.ref X1.s) [("_adding", .ref g)])))) p (.ins Zs dx (putF "_touches" (.int 0) (putF "_time" (.int 0) (putF "_state" (.ref X1.s) [("_adding", .ref g)]))))) p (.ins Zs dx (putF "_reads" (.int 0) (putF "_touches" (.int 0) (putF "_time" (.int 0) (putF "_state" (.ref X1.s) [("_adding", .ref g)]))))) := ⟨_, rfl⟩
    have hp7 : H7 p = some (.ins Zs dx [("_adding", .ref g), ("_state", .ref X1.s), ("_time", .int 0), ("_touches", .int 0), ("_reads", .int 0)]) := by rw [e7]; exact upd_same
    have k7 : ∀ b, b ≠ p → H7 b = H6 b := fun b n => by rw [e7, upd_ne n, upd_ne n, upd_ne n, upd_ne n]
    rw [← e7]
    refine fun E1 nE1 => ?_
    have s78 := smUpd (o := .dK []) nE1
    have hE1 : upd H7 E1 (.dK []) E1 = some (.dK []) := upd_same
    generalize upd H7 E1 (.dK []) = H8 at s78 hE1 ⊢
    have hp8 := s78 _ _ hp7
    have E1p : E1 ≠ p := neK hE1 hp8 fun z => by cases z
    refine ⟨_, rfl, p, Zs, dx, _, rfl, hp8, U.cl, U.n__fresh, (by show 5 < 1000; decide), ?_⟩
    have hp9 : upd H8 p (.ins Zs dx (putF "_fresh" (.ref E1) [("_adding", .ref g), ("_state", .ref X1.s), ("_time", .int 0), ("_touches", .int 0), ("_reads", .int 0)])) p = some (.ins Zs dx [("_adding", .ref g), ("_state", .ref X1.s), ("_time", .int 0), ("_touches", .int 0), ("_reads", .int 0), ("_fresh", .ref E1)]) := upd_same
    have k9 : ∀ b, b ≠ p → upd H8 p (.ins Zs dx (putF "_fresh" (.ref E1) [("_adding", .ref g), ("_state", .ref X1.s), ("_time", .int 0), ("_touches", .int 0), ("_reads", .int 0)])) b = H8 b := fun b n => upd_ne n
    generalize upd H8 p (.ins Zs dx (putF "_fresh" (.ref E1) [("_adding", .ref g), ("_state", .ref X1.s), ("_time", .int 0), ("_touches", .int 0), ("_reads", .int 0)])) = H9 at hp9 k9 ⊢
    refine fun E2 nE2 => ?_
    have s9 := smUpd (o := .dK []) nE2
    have hE2 : upd H9 E2 (.dK []) E2 = some (.dK []) := upd_same
    generalize upd H9 E2 (.dK []) = H10 at s9 hE2 ⊢
    have hp10 := s9 _ _ hp9
    refine ⟨_, rfl, p, Zs, dx, _, rfl, hp10, U.cl, U.n__marked, (by show 6 < 1000; decide), ?_⟩
    refine ⟨_, rfl, p, Zs, dx, _, rfl, upd_same, U.cl, U.n__next_mark, (by show 7 < 1000; decide), ?_⟩
    obtain ⟨H12, e12⟩ : ∃ H12, H12 = upd (upd H10 p (.ins Zs dx (putF "_marked" (.ref E2) [("_adding", .ref g), ("_state", .ref X1.s), ("_time", .int 0), ("_touches", .int 0), ("_reads", .int 0), ("_fresh", .ref E1)]))) p (.ins Zs dx (putF "_next_mark" (.int 0) (putF "_marked" (.ref E2) [("_adding", .ref g), ("_state", .ref X1.s), ("_time", .int 0), ("_touches", .int 0), ("_reads", .int 0), ("_fresh", .ref E1)]))) := ⟨_, rfl⟩
    have hp12 : H12 p = some (.ins Zs dx (fldS g ⟨p, dx, E1, E2, X1⟩ (sv0 fo lv am))) := by rw [e12]; exact upd_same
    have k12 : ∀ b, b ≠ p → H12 b = H10 b := fun b n => by rw [e12, upd_ne n, upd_ne n]
    rw [← e12]
    have K6 : Kept p H6 H12 := fun b o n e => by
      rw [k12 b n]
      refine s9 _ _ ?_
      rw [k9 b n]
      refine s78 _ _ ?_
      rw [k7 b n]
      exact e
    have K5 : Kept p H5 H12 := kept_trans (kept_same s6) K6
    have K0 : Kept p H H12 := kept_trans K05 K5
    have T6 := keptTK K6 hp6 fun xs z => by cases z
    have hE1' : H12 E1 = some (.dK []) := by
      rw [k12 _ E1p]
      refine s9 _ _ ?_
      rw [k9 _ E1p]
      exact hE1
    have nE1H : H E1 = none := by
      cases q : H E1 with
      | none => rfl
      | some o =>
        rw [k7 _ E1p, s6 _ _ (K05 _ _ E1p q)] at nE1
        cases nE1
    have in6 : ∀ x, (x = a ∨ x = D1 ∨ (H5 x = none ∧ H6 x ≠ none)) → x ≠ p ∧ (x = a ∨ (H x = none ∧ H12 x ≠ none)) := fun x h => by
      rcases h with h | h | ⟨h, h'⟩
      · exact ⟨by rw [h]; exact ap', .inl h⟩
      · refine ⟨by rw [h]; exact D1p, .inr ⟨by rw [h]; exact nD1H, ?_⟩⟩
        rw [h, K5 _ _ D1p (show H5 D1 = some (.dK kvA) from by rw [k5 _ D1p]; exact hA)]
        exact (fun y => nomatch y)
      · have xp : x ≠ p := fun z => by rw [z, hp5] at h; cases h
        refine ⟨xp, .inr ⟨?_, ?_⟩⟩
        · cases q : H x with
          | none => rfl
          | some o => rw [K05 _ _ xp q] at h; cases h
        · cases q : H6 x with
          | none => exact absurd q h'
          | some o => rw [K6 _ _ xp q]; exact (fun y => nomatch y)
    have S12 := S1.keep (G := fun x => x = a ∨ (H x = none ∧ H12 x ≠ none)) T6 (fun b o h e => K6 b o (in6 b h).1 e) fun b h => (in6 b h).2
    refine k ⟨p, dx, E1, E2, X1⟩ H12 rfl { ins := hp12, sta := S12, frs := hE1', own := ⟨.inr ⟨nE1H, by rw [hE1']; exact (fun y => nomatch y)⟩, fun z => ?_⟩, live := fun b h => ?_, ok := ok, lvo := hv, wn := ⟨List.nodup_nil, fun q z => (by cases z)⟩ } K0
    · rcases z with z | ⟨z, _⟩
      · exact ap' z.symm
      · rw [hp] at z; cases z
    · rcases h with h | ⟨_, h⟩
      · obtain ⟨_, _, _, _, e0, _⟩ := hF
        rw [h, K0 _ _ ap' e0]
        exact (fun y => nomatch y)
      · exact h
end
end Cn
namespace Cn
open PySem PySem.Spec PyProof.Rows L2 Ck
/-! the news that are due, by the law -/
def kvC (W : List Nat) (cl : Nat → Addr) : List (L2.Key × V) := W.map fun (q : Nat) => ((.inl (q : Int) : L2.Key), V.ref (cl q))
theorem kvC_len {W : List Nat} {cl : Nat → Addr} : (kvC W cl).length = W.length := List.length_map _
theorem kvC_at {W : List Nat} {cl : Nat → Addr} {i : Nat} {k : L2.Key} {v : V} (h : (kvC W cl)[i]? = some (k, v)) : ∃ q, W[i]? = some q ∧ k = .inl (q : Int) ∧ v = .ref (cl q) := by
  unfold kvC at h
  rw [List.getElem?_map] at h
  obtain ⟨q, h1, h2⟩ := Option.map_eq_some_iff.mp h
  cases h2
  exact ⟨q, h1, rfl, rfl⟩
theorem kvC_val {W : List Nat} {cl : Nat → Addr} {q : Nat} : valV (kvC W cl) (.inl (q : Int)) = if q ∈ W then some (.ref (cl q)) else none := by
  unfold kvC
  induction W with
  | nil => rfl
  | cons x W ih =>
    rw [List.map_cons]
    by_cases c : x = q
    · rw [valV_pos (by rw [c]), if_pos (by rw [c]; exact List.mem_cons_self), c]
    · rw [valV_neg (fun z => c (by injection z with z; omega)), ih]
      by_cases d : q ∈ W
      · rw [if_pos d, if_pos (List.mem_cons_of_mem _ d)]
      · rw [if_neg d, if_neg (fun z => (List.mem_cons.mp z).elim (fun e => c e.symm) d)]
section
variable {P : Program} {w : World} {K : PySem.W.Frag} {mg : Str → Option Value} {base : Heap} {C : Addr}
def comeL (fo : Fo) (am : Nat → List Nat) (q : Nat) : Option (List Nat) := togG (fun a b => a ++ b) (((road fo.ps q).filter fun p => decide (p ∈ fo.be)).map am)
def spNewsD : Sp := fun vs H Q _ => ∃ (r da lw dc : Addr) (fo : Fo) (am : Nat → List Nat) (n : Nat) (W : List Nat) (cl : Nat → Addr) (chs : Nat → List Nat), vs = [.ref r, .ref da, .ref lw, .ref dc] ∧ TolR H r fo ∧ FoOk fo ∧ AmsAt dW H da am fo.be n ∧ (∀ q, (am q).length ≤ 20) ∧ H lw = some (.lst (W.map vn)) ∧ W.length ≤ 60 ∧ (∀ q ∈ W, q < fo.ps.length) ∧ H dc = some (.dK (kvC W cl)) ∧ (∀ q ∈ W, H (cl q) = some (.lst ((chs q).map vn)) ∧ (chs q).length ≤ 10000) ∧
  ∀ (ys : List Nat) us d H', Same H H' → H d = none → ys.Perm W → ys.Pairwise (· ≤ ·) → H' d = some (.lst us) → Paired (NewsAt dW H') us ((ys.filter fun q => (chs q).any fun p => decide (p ∈ road fo.ps q)).map fun q => (q, comeL fo am q)) → Q (.ref d) H'
def nNewsD : List Str := ["_law_spec_here", "_law_amounts", "_law_watched", "_law_changed", "_law_found", "_law_place", "_law_over", "_law_one"]
theorem scNewsD : FnScope nNewsD ["_law_spec_here", "_law_amounts", "_law_watched", "_law_changed"] (defScope sNewsD) := ⟨rfl, rfl, rfl, by decide +kernel, rfl, by decide +kernel, by decide +kernel⟩
theorem dNewsD (B : Defs K mg C) : Def P w K mg base "_law_news_due" 4 ["_law_spec_here", "_law_amounts", "_law_watched", "_law_changed"] spNewsD := by
  obtain ⟨fW, fdW, GW, gW, kW, bW⟩ := dLWay (P := P) (w := w) (base := base) B
  obtain ⟨fC, fdC, GC, gC, kC, bC⟩ := dLCome (P := P) (w := w) (base := base) dW B
  obtain ⟨gJ, mJ, AJ, AGJ⟩ := addGJoin (P := P) (w := w) (base := base) B
  have N := B.N
  have mA := B.zAny
  have nd := scNewsD.nd
  refine def_of B.lnd fun f fd F => ?_
  refine F.ok scNewsD (fun vs H Q E h => ?_) (fun cdv A outer s H vs Q E hr h => ?_)
  · obtain ⟨r, da, lw, dc, fo, am, n, W, cl, chs, rfl, _⟩ := h
    rfl
  · obtain ⟨r, da, lw, dc, fo, am, n, W, cl, chs, rfl, hT, ok, hA, hm, hW, w60, wl, hC, hL, k⟩ := h
    have hu : (A.deeper (envOfC "_law_news_due" (defScope sNewsD) s.heap.objs.size f cdv)).units + 1 < cLine := by have := hr.units; omega
    refine ⟨_, pss_cons (ps_set (i := 4) nd rfl (Or.inl rfl) (pe_lst pa_nil))
      (pss_cons (ps_for PassesOwn.never rfl (pi_list (pe_callB cr_sorted (by rfl) N.sorted (by decide +kernel) (pa_cons (pe_callTy call_list_of (by rfl) N.is.lst (by decide +kernel) (pa_cons (pv 2) pa_nil)) pa_nil))) (pg_name (i := 5) nd rfl (Or.inl rfl))
        (pss_cons (ps_set (i := 6) nd rfl (Or.inr rfl) (pe_call GW (hr.mono (by decide)) (by rfl) gW kW bW .nil pass0 (pa_cons (pe_ix ix_tup (pv 0) pe_int (fun _ _ => rfl)) (pa_cons (pv 5) pa_nil))))
        (pss_one (ps_if (pt_val (pe_callB (r := rAny K) (cr_any rfl) (by rfl) mA (by decide +kernel) (pa_cons (pe_lc (own := [("_law_one", 7)]) (g := gName 7) (tt := tYes) (te := tOp (rIn K false) (tVar 7) (tVar 6)) rfl nd (pi_list (pe_dget hu (pv 3) (pv 5) (fun _ _ => rfl)))
            (blkOk_by (N := nNewsD) (sc := defScope sNewsD) (by decide +kernel)) (fun _ _ _ _ _ => pg_name (i := 7) nd rfl (Or.inl rfl)) (fun _ _ _ _ _ => pts_nil) (fun _ _ _ _ _ => pe_cmpR (r := rIn K false) op_in_seq (pv 7) (pv 6) (by rfl))) pa_nil)))
          (pss_one (ps_expr (pe_bm PySem.F.plainAttrs_list PySem.F.slot_list_append PySem.F.type_list_append mt_append (pv 4) (pa_cons (pe_tup (pa_cons (pv 5) (pa_cons (pe_call GC hr (by rfl) gC kC bC .nil pass0 (pa_cons (pv 0) (pa_cons (pv 1) (pa_cons (pe_glob (v := .ref gJ) (by rfl) mJ rfl) (pa_cons (pv 5) pa_nil))))) pa_nil))) pa_nil)))) pss_nil))))
      (pss_one (ps_ret (pv 4)))), ?_⟩
    refine ⟨by show 0 ≤ sizeLine; decide, fun D nD => ?_⟩
    have s1 := smUpd (o := .lst []) nD
    have hD1 : upd H D (.lst []) D = some (.lst []) := upd_same
    generalize upd H D (.lst []) = H1 at s1 hD1 ⊢
    refine ⟨_, rfl, lw, _, rfl, .inl (.inl (.inl (s1 _ _ hW))), fun L2 nL2 => ?_⟩
    have s2 := smUpd (o := .lst (W.map vn)) nL2
    have hL2 : upd H1 L2 (.lst (W.map vn)) L2 = some (.lst (W.map vn)) := upd_same
    generalize upd H1 L2 (.lst (W.map vn)) = H2 at s2 hL2 ⊢
    refine ⟨L2, W.map (fun (n : Nat) => (n : Int)), rfl, .inl (.inl (by rw [hL2, List.map_map]; rfl)), by rw [List.length_map]; omega, fun ns' L3 hp hs nL3 => ?_⟩
    obtain ⟨ys, rfl, yp, ysr⟩ := natPerm hp hs
    have e3 : (ys.map fun (n : Nat) => (n : Int)).map V.int = ys.map vn := by rw [List.map_map]; rfl
    rw [e3]
    have s3 := smUpd (o := .lst (ys.map vn)) nL3
    have hL3 : upd H2 L3 (.lst (ys.map vn)) L3 = some (.lst (ys.map vn)) := upd_same
    generalize upd H2 L3 (.lst (ys.map vn)) = H3 at s3 hL3 ⊢
    have s23 := s2.trans s3
    have s13 := s1.trans s23
    have hD3 := s23 _ _ hD1
    have yW : ∀ y ∈ ys, y ∈ W := fun y hy => yp.mem_iff.mp hy
    have y60 : ys.length ≤ 60 := by rw [yp.length_eq]; exact w60
    obtain ⟨ap, ab, aa, o0, o1, o2, o3⟩ := id hT
    refine ⟨_, rfl, ⟨_, .inl (.inl hL3)⟩, ?_⟩
    have nL3D : L3 ≠ D := fun z => by rw [z, s2 _ _ hD1] at nL3; cases nL3
    refine for_it (walk_list (xs := ys.map vn)) (fun j σ G => Same H G ∧ G L3 = some (.lst (ys.map vn)) ∧ (∃ t5 t6 : Option V, σ = [some (.ref r), some (.ref da), some (.ref lw), some (.ref dc), some (.ref D), t5, t6, none]) ∧ ∃ us, G D = some (.lst us) ∧ us.length ≤ j ∧ Paired (NewsAt dW G) us (((ys.take j).filter fun q => (chs q).any fun p => decide (p ∈ road fo.ps q)).map fun q => (q, comeL fo am q)))
      ⟨s13, hL3, ⟨_, _, rfl⟩, [], hD3, Nat.le_refl _, .nil⟩ (fun j σ G _ z => .inl (.inl z.2.1)) ?_ ?_
    · rintro j x σ G G' hj ⟨sm, hLG, ⟨t5, t6, rfl⟩, us, hD, hul, hU⟩ ⟨rfl, hx⟩
      obtain ⟨q, hq, rfl⟩ := vn_get hx
      rw [List.length_map] at hj
      have qW := yW q (List.mem_of_getElem? hq)
      have ql := wl q qW
      obtain ⟨hl, hll⟩ := hL q qW
      have et : ys.take (j + 1) = ys.take j ++ [q] := by rw [List.take_add_one, hq]; rfl
      refine ⟨_, rfl, r, _, (0 : Int), _, rfl, rfl, .inl (.inl (sm _ _ o0)), rfl, _, rfl, ap, fo.ps, q, rfl, sm _ _ o1, ok.ps, ok.l1, ql, fun rt G1 s4 hrt => ?_⟩
      have sm1 := sm.trans s4
      refine ⟨_, rfl, _, rfl, dc, .ref (cl q), rfl, .inl ⟨kvC W cl, .inl (q : Int), .inl (sm1 _ _ hC), rfl, by rw [kvC_val, if_pos qW]⟩, cl q, rfl, ⟨_, .inl (.inl (sm1 _ _ hl))⟩, fun L4 nL4 => ?_⟩
      refine anyWalk (walk_list (xs := (chs q).map vn)) (fun i J => Same G1 J ∧ J L4 = some (.lst ((((chs q).take i).map fun p => decide (p ∈ road fo.ps q)).map V.bl))) ⟨smUpd nL4, upd_same⟩ (fun i J _ z => .inl (.inl (z.1 _ _ (sm1 _ _ hl)))) ?_ ?_
      · rintro i y J J' hi ⟨sj, hL4⟩ ⟨rfl, hy⟩
        obtain ⟨p, hp, rfl⟩ := vn_get hy
        rw [List.length_map] at hi
        refine ⟨rfl, _, rfl, _, rfl, rt, _, rfl, .inl (.inl (.inl (sj _ _ hrt))), rfl, vn_flat _, ?_⟩
        refine ⟨_, hL4, bigLine (by rw [List.length_map, List.length_map, List.length_take]; omega), smOver nL4 sj, ?_⟩
        rw [upd_same, List.take_add_one, hp, List.map_append, List.map_append]
        show some (HO.lst (_ ++ [V.bl (inV (vn p) ((road fo.ps q).map vn))])) = some (HO.lst (_ ++ [V.bl (decide (p ∈ road fo.ps q))]))
        rw [inV_vn]
      rintro J ⟨sj, hL4⟩
      rw [List.length_map, List.take_length] at hL4
      refine ⟨L4, _, rfl, .inl (.inl hL4), ?_⟩
      have ea : ((chs q).map fun p => decide (p ∈ road fo.ps q)).any id = (chs q).any fun p => decide (p ∈ road fo.ps q) := by
        rw [List.any_map]
        rfl
      rw [ea]
      refine ⟨_, rfl, ?_⟩
      have sGJ := s4.trans sj
      have smJ := sm.trans sGJ
      have hDJ := sGJ _ _ hD
      have hLJ := sGJ _ _ hLG
      cases hc : (chs q).any fun p => decide (p ∈ road fo.ps q) with
      | false =>
        refine ifF (by decide) ?_
        refine ⟨smJ, hLJ, ⟨_, _, rfl⟩, us, hDJ, by omega, ?_⟩
        rw [et, List.filter_append, List.filter_cons_of_neg (by rw [hc]; decide), List.filter_nil, List.append_nil]
        exact Paired.mapP hU fun _ _ z => newsTK (tkSame sGJ) z
      | true =>
        refine ifT rfl ?_
        refine ⟨_, rfl, .inl ⟨rfl, _, .inl (.inl hDJ)⟩, _, rfl, _, rfl, _, rfl, _, rfl, r, da, gJ, q, fo, am, fun a b => a ++ b, n, 20, rfl, tolSame smJ hT, ok, amsTK (tkSame smJ) (fun _ e => smJ _ _ e) hA, AGJ, ql, hm, by decide, fun v G2 s5 hv => ⟨by show 2 ≤ sizeLine; decide, fun t nt => ?_⟩⟩
        have s6 := smUpd (o := .tup [vn q, v]) nt
        have ht : upd G2 t (.tup [vn q, v]) t = some (.tup [vn q, v]) := upd_same
        have hv6 := dW.optSame s6 hv
        generalize upd G2 t (.tup [vn q, v]) = G3 at s6 ht hv6 ⊢
        have s7 := s5.trans s6
        have hD7 := s7 _ _ hDJ
        have tkD : TK G3 (upd G3 D (.lst (us ++ [.ref t]))) := tkUpd hD7 fun xs z => by cases z
        have sG3 := sGJ.trans s7
        refine ⟨D, us, _, rfl, rfl, hD7, bigLine (by omega), smOver nD (smJ.trans s7), by rw [upd_ne nL3D]; exact s7 _ _ hLJ, ⟨_, _, rfl⟩, _, upd_same, by rw [List.length_append]; show us.length + 1 ≤ j + 1; omega, ?_⟩
        rw [et, List.filter_append, List.filter_cons_of_pos (p := fun q => (chs q).any fun p => decide (p ∈ road fo.ps q)) hc, List.map_append]
        exact paired_snoc (Paired.mapP hU fun _ _ z => newsTK ((tkSame sG3).trans tkD) z) (newsTK tkD ⟨t, v, rfl, ht, hv6⟩)
    · rintro σ G ⟨sm, hLG, ⟨t5, t6, rfl⟩, us, hD, hul, hU⟩
      rw [List.length_map, List.take_length] at hU
      exact ⟨_, rfl, k ys us D G sm nD yp ysr hD hU⟩
end
end Cn
namespace Cn
open PySem PySem.Spec PyProof.Rows L2 Ck
/-! what stands in the loop of k31: the store, and the law's own account beside it -/
theorem tolTK {H H' : Hp} {r : Addr} {fo : Fo} (k : TK H H') (h : TolR H r fo) : TolR H' r fo := by
  obtain ⟨ap, ab, aa, h0, h1, h2, h3⟩ := h
  exact ⟨ap, ab, aa, k _ _ h0, k _ _ h1, k _ _ h2, k _ _ h3⟩
theorem rowTK {H H' : Hp} (k : TK H H') {v : V} {e : Nat × (List Nat × List Nat)} (h : RowAt H v e) : RowAt H' v e := by
  obtain ⟨t, x, y, h1, h2, h3, h4⟩ := h
  exact ⟨t, x, y, h1, k _ _ h2, k _ _ h3, k _ _ h4⟩
theorem kvC_add {W : List Nat} {cl : Nat → Addr} {q : Nat} {L : Addr} (h : q ∉ W) : putK (kvC W cl) (.inl (q : Int)) (.ref L) = kvC (W ++ [q]) fun i => if i = q then L else cl i := by
  rw [putK_new _ (by rw [kvC_val, if_neg h])]
  have e1 : kvC W cl = kvC W fun i => if i = q then L else cl i := List.map_congr_left fun x hx => by
    show _ = ((Sum.inl (x : Int) : L2.Key), V.ref (if x = q then L else cl x))
    rw [if_neg (fun z => h (by rw [← z]; exact hx))]
  rw [e1]
  unfold kvC
  rw [List.map_append]
  show _ = _ ++ [((.inl (q : Int) : L2.Key), V.ref (if q = q then L else cl q))]
  rw [if_pos rfl]
theorem kvC_set {W : List Nat} {cl : Nat → Addr} {q : Nat} {L : Addr} (h : q ∈ W) : putK (kvC W cl) (.inl (q : Int)) (.ref L) = kvC W fun i => if i = q then L else cl i := by
  unfold putK
  rw [if_pos (by rw [valV_any, kvC_val, if_pos h]; rfl)]
  unfold kvC
  rw [List.map_map]
  refine List.map_congr_left fun x _ => ?_
  show (if (Sum.inl (x : Int) : L2.Key) = .inl (q : Int) then ((Sum.inl (x : Int) : L2.Key), V.ref L) else ((Sum.inl (x : Int) : L2.Key), V.ref (cl x))) = ((Sum.inl (x : Int) : L2.Key), V.ref (if x = q then L else cl x))
  by_cases c : x = q
  · rw [if_pos (by rw [c]), if_pos c]
  · rw [if_neg (fun z => c (by injection z with z; omega)), if_neg c]
theorem kvC_drop {W : List Nat} {cl : Nat → Addr} {q : Nat} : dropK (kvC W cl) (.inl (q : Int)) = kvC (W.filter fun i => !decide (i = q)) cl := by
  unfold dropK kvC
  rw [List.filter_map]
  congr 1
  refine List.filter_congr fun x _ => ?_
  rw [Bool.eq_iff_iff, Bool.not_eq_true', decide_eq_false_iff_not]
  show decide ((Sum.inl (x : Int) : L2.Key) ≠ .inl (q : Int)) = true ↔ _
  rw [decide_eq_true_iff]
  exact ⟨fun h c => h (by rw [c]), fun h c => h (by injection c with c; omega)⟩
abbrev SxI (F : Addr → Prop) (sp da dc rw : Addr) (W : List Nat) (cl : Nat → Addr) : Addr → Prop := fun x => F x ∨ x = sp ∨ x = da ∨ x = dc ∨ x = rw ∨ ∃ q ∈ W, x = cl q
structure Iv (Zs Zt C : Addr) (fo : Fo) (lv : List Nat) (gJ p r da dc rw : Addr) (F : Addr → Prop) (X : SoX) (S : Sv (List Nat)) (am : Nat → List Nat) (W : List Nat) (cl : Nat → Addr) (chs : Nat → List Nat) (G : Hp) : Prop where
  hI : HandIn G p (SxI F X.p da dc rw W cl)
  st : StoreAt Zs Zt C dW F (fun a b => a ++ b) gJ X S G
  nda : ¬ F da
  ndc : ¬ F dc
  nrw : ¬ F rw
  ncl : ∀ q ∈ W, ¬ F (cl q)
  dd : da ≠ dc
  rc : ∀ q ∈ W, cl q ≠ rw
  inj : ∀ q ∈ W, ∀ q' ∈ W, cl q = cl q' → q = q'
  spec : TolR G r fo
  rows : ∃ us, G rw = some (.lst us) ∧ Paired (RowAt G) us (ntOf fo lv)
  ams : AmsAt dW G da am fo.be 60
  chd : G dc = some (.dK (kvC W cl))
  chl : ∀ q ∈ W, G (cl q) = some (.lst ((chs q).map vn))
  nd : W.Nodup
  was : ∀ q ∈ W, q ∈ fo.as
  sfo : S.fo = fo
  slv : S.lv = lv
section
variable {Zs Zt C : Addr} {fo : Fo} {lv : List Nat} {gJ p r da dc rw : Addr} {F : Addr → Prop} {X : SoX} {S : Sv (List Nat)} {am : Nat → List Nat} {W : List Nat} {cl : Nat → Addr} {chs : Nat → List Nat} {G G' : Hp}
theorem Iv.keep (J : Iv Zs Zt C fo lv gJ p r da dc rw F X S am W cl chs G) (hI' : HandIn G' p (SxI F X.p da dc rw W cl)) (tk : TK G G') (k : ∀ b o, SxI F X.p da dc rw W cl b → G b = some o → G' b = some o) : Iv Zs Zt C fo lv gJ p r da dc rw F X S am W cl chs G' :=
  { J with
    hI := hI', st := J.st.beside tk fun b o h => k b o (h.imp (fun z => z) .inl), spec := tolTK tk J.spec,
    rows := by obtain ⟨us, h1, h2⟩ := J.rows; exact ⟨us, k _ _ (.inr (.inr (.inr (.inr (.inl rfl))))) h1, Paired.mapP h2 fun _ _ z => rowTK tk z⟩,
    ams := amsTK tk (fun _ e => k _ _ (.inr (.inr (.inl rfl))) e) J.ams, chd := k _ _ (.inr (.inr (.inr (.inl rfl)))) J.chd,
    chl := fun q hq => k _ _ (.inr (.inr (.inr (.inr (.inr ⟨q, hq, rfl⟩))))) (J.chl q hq) }
theorem Iv.pool (J : Iv Zs Zt C fo lv gJ p r da dc rw F X S am W cl chs G) (hI' : HandIn G' p (SxI F X.p da dc rw W cl)) (kp : Kept p G G') : Iv Zs Zt C fo lv gJ p r da dc rw F X S am W cl chs G' :=
  J.keep hI' (fun t xs e => kp t _ (tup_ne J.hI e) e) fun b o h e => kp b o (fun z => J.hI.np (by rw [← z]; exact h)) e
theorem Iv.same (J : Iv Zs Zt C fo lv gJ p r da dc rw F X S am W cl chs G) (s : Same G G') : Iv Zs Zt C fo lv gJ p r da dc rw F X S am W cl chs G' :=
  J.keep (handIn_keep J.hI s) (tkSame s) fun b o _ e => s b o e
/-- behind a store's step -/
theorem Iv.store {F' : Addr → Prop} {X' : SoX} {S' : Sv (List Nat)} (J : Iv Zs Zt C fo lv gJ p r da dc rw F X S am W cl chs G) (st' : StoreAt Zs Zt C dW F' (fun a b => a ++ b) gJ X' S' G') (ep : X'.p = X.p) (hF : ∀ x, F' x → F x ∨ G x = none) (kp : Kept X.p G G') (tk : TK G G') (sfo : S'.fo = fo) (slv : S'.lv = lv) : Iv Zs Zt C fo lv gJ p r da dc rw F' X' S' am W cl chs G' := by
  have hda : ∃ o, G da = some o := let ⟨kvs, e, _⟩ := J.ams; ⟨_, e⟩
  have hrw : ∃ o, G rw = some o := let ⟨us, e, _⟩ := J.rows; ⟨_, e⟩
  have out : ∀ {b : Addr}, ¬ F b → (∃ o, G b = some o) → ¬ F' b := fun n ⟨o, e⟩ z => (hF _ z).elim n fun y => by rw [e] at y; cases y
  have kk : ∀ {b : Addr} {o : HO}, (∀ Z dx fs, o ≠ .ins Z dx fs) → G b = some o → G' b = some o := fun n e => kp _ _ (fun z => by rw [z, J.st.ins] at e; exact n _ _ _ (Option.some.inj e).symm) e
  have ka : ∀ {b : Addr}, SxI F X.p da dc rw W cl b → b ≠ X.p → ∀ o, G b = some o → G' b = some o := fun _ n o e => kp _ _ n e
  have hI' : HandIn G' p (SxI F' X'.p da dc rw W cl) := by
    obtain ⟨⟨g, c, gs, cs, d, n, hp, hg, hc, n1, n2, n3, n4⟩, np, tr⟩ := J.hI
    have xp : ∀ {b : Addr}, ¬ SxI F X.p da dc rw W cl b → b ≠ X.p := fun h z => h (.inr (.inl z))
    have no : ∀ {b : Addr} {o : HO}, ¬ SxI F X.p da dc rw W cl b → G b = some o → ¬ SxI F' X'.p da dc rw W cl b := fun h e z => by
      rcases z with z | z | z
      · exact out (fun y => h (.inl y)) ⟨_, e⟩ z
      · exact h (.inr (.inl (by rw [← ep]; exact z)))
      · exact h (.inr (.inr z))
    refine ⟨⟨g, c, gs, cs, d, n, kp _ _ (xp np) hp, kp _ _ (xp n3) hg, kp _ _ (xp n4) hc, n1, n2, no n3 hg, no n4 hc⟩, no np hp, fun D hD => ?_⟩
    rcases hD with h | h | h | h | h | ⟨q, hq, h⟩
    · exact st'.live D h
    · rw [h, st'.ins]; exact (fun z => nomatch z)
    · obtain ⟨kvs, e, _⟩ := J.ams
      rw [h, kk (fun _ _ _ z => by cases z) e]; exact (fun z => nomatch z)
    · rw [h, kk (fun _ _ _ z => by cases z) J.chd]; exact (fun z => nomatch z)
    · obtain ⟨us, e, _⟩ := J.rows
      rw [h, kk (fun _ _ _ z => by cases z) e]; exact (fun z => nomatch z)
    · rw [h, kk (fun _ _ _ z => by cases z) (J.chl q hq)]; exact (fun z => nomatch z)
  exact { J with
    hI := hI', st := st', nda := out J.nda hda, ndc := out J.ndc ⟨_, J.chd⟩, nrw := out J.nrw hrw, ncl := fun q hq => out (J.ncl q hq) ⟨_, J.chl q hq⟩, spec := tolTK tk J.spec,
    rows := by obtain ⟨us, h1, h2⟩ := J.rows; exact ⟨us, kk (fun _ _ _ z => by cases z) h1, Paired.mapP h2 fun _ _ z => rowTK tk z⟩,
    ams := amsTK tk (fun _ e => kk (fun _ _ _ z => by cases z) e) J.ams, chd := kk (fun _ _ _ z => by cases z) J.chd,
    chl := fun q hq => kk (fun _ _ _ z => by cases z) (J.chl q hq), sfo := sfo, slv := slv }
theorem Iv.beside (J : Iv Zs Zt C fo lv gJ p r da dc rw F X S am W cl chs G) {b : Addr} {o o2 : HO} (hb : G b = some o) (no : ∀ xs, o ≠ .tup xs) (ni : ∀ Z dx fs, o ≠ .ins Z dx fs) (nF : ¬ F b) : StoreAt Zs Zt C dW F (fun a b => a ++ b) gJ X S (upd G b o2) :=
  J.st.beside (tkUpd hb no) fun c u h e => by
    rw [upd_ne (fun z => by
      rcases h with h | h
      · exact nF (by rw [← z]; exact h)
      · rw [← z, h, J.st.ins] at hb; exact ni _ _ _ (Option.some.inj hb).symm)]
    exact e
/-- an amount -/
theorem Iv.setAm (J : Iv Zs Zt C fo lv gJ p r da dc rw F X S am W cl chs G) {kvs : List (L2.Key × V)} (hk : G da = some (.dK kvs)) {q : Nat} (hq : q ∈ fo.be) {a : List Nat} : Iv Zs Zt C fo lv gJ p r da dc rw F X S (fun i => if i = q then a else am i) W cl chs (upd G da (.dK (putK kvs (.inl (q : Int)) (vS a)))) := by
  have tk : TK G (upd G da (.dK (putK kvs (.inl (q : Int)) (vS a)))) := tkUpd hk fun xs z => by cases z
  have ls : ∀ {b : Addr} {xs : List V}, G b = some (.lst xs) → upd G da (.dK (putK kvs (.inl (q : Int)) (vS a))) b = some (.lst xs) := fun h => by rw [upd_ne (neK h hk fun z => by cases z)]; exact h
  exact { J with
    hI := handIn_write J.hI (.inr (.inr (.inl rfl))), st := J.beside hk (fun _ z => by cases z) (fun _ _ _ z => by cases z) J.nda, spec := tolTK tk J.spec,
    rows := by obtain ⟨us, h1, h2⟩ := J.rows; exact ⟨us, ls h1, Paired.mapP h2 fun _ _ z => rowTK tk z⟩,
    ams := by
      obtain ⟨kv2, h1, hl, h2⟩ := J.ams
      rw [hk] at h1
      cases h1
      refine ⟨_, upd_same, ?_, fun i hi => ?_⟩
      · obtain ⟨w, hw, _⟩ := h2 q hq
        rw [putK_old hw]
        exact hl
      · rw [valV_put]
        show ∃ x, _ ∧ x = vS (if i = q then a else am i)
        by_cases c : i = q
        · rw [if_pos (by rw [c]), if_pos c]
          exact ⟨_, rfl, rfl⟩
        · rw [if_neg (fun z => c (by injection z with z; omega)), if_neg c]
          obtain ⟨w, hw, hw2⟩ := h2 i hi
          exact ⟨w, hw, hw2⟩,
    chd := by rw [upd_ne J.dd.symm]; exact J.chd,
    chl := fun q hq => ls (J.chl q hq) }
/-- a change told to a watched place -/
theorem Iv.push (J : Iv Zs Zt C fo lv gJ p r da dc rw F X S am W cl chs G) {q x : Nat} (hq : q ∈ W) : Iv Zs Zt C fo lv gJ p r da dc rw F X S am W cl (fun i => if i = q then chs q ++ [x] else chs i) (upd G (cl q) (.lst ((chs q).map vn ++ [vn x]))) := by
  have hb := J.chl q hq
  have tk : TK G (upd G (cl q) (.lst ((chs q).map vn ++ [vn x]))) := tkUpd hb fun xs z => by cases z
  have dk : ∀ {b : Addr} {kvs : List (L2.Key × V)}, G b = some (.dK kvs) → upd G (cl q) (.lst ((chs q).map vn ++ [vn x])) b = some (.dK kvs) := fun h => by rw [upd_ne (neK h hb fun z => by cases z)]; exact h
  exact { J with
    hI := handIn_write J.hI (.inr (.inr (.inr (.inr (.inr ⟨q, hq, rfl⟩))))), st := J.beside hb (fun _ z => by cases z) (fun _ _ _ z => by cases z) (J.ncl q hq), spec := tolTK tk J.spec,
    rows := by obtain ⟨us, h1, h2⟩ := J.rows; exact ⟨us, by rw [upd_ne (J.rc q hq).symm]; exact h1, Paired.mapP h2 fun _ _ z => rowTK tk z⟩,
    ams := amsTK tk (fun _ e => dk e) J.ams, chd := dk J.chd,
    chl := fun q' hq' => by
      show _ = some (HO.lst ((if q' = q then chs q ++ [x] else chs q').map vn))
      by_cases c : q' = q
      · rw [c, upd_same, if_pos rfl, List.map_append]
        rfl
      · rw [upd_ne (fun z => c (J.inj q' hq' q hq z)), if_neg c]
        exact J.chl q' hq' }
theorem Iv.newL (J : Iv Zs Zt C fo lv gJ p r da dc rw F X S am W cl chs G) {L : Addr} (nL : G L = none) {o : HO} : Iv Zs Zt C fo lv gJ p r da dc rw F X S am W cl chs (upd G L o) := J.same (smUpd nL)
/-- a place has a new list -/
theorem Iv.put (J : Iv Zs Zt C fo lv gJ p r da dc rw F X S am W cl chs G) {L : Addr} (nL : G L = none) {q : Nat} {W' : List Nat} (hk : putK (kvC W cl) (.inl (q : Int)) (.ref L) = kvC W' fun i => if i = q then L else cl i) (hW : ∀ i ∈ W', i ≠ q → i ∈ W) (nd : W'.Nodup) (was : ∀ q ∈ W', q ∈ fo.as) :
    Iv Zs Zt C fo lv gJ p r da dc rw F X S am W' (fun i => if i = q then L else cl i) (fun i => if i = q then [] else chs i) (upd (upd G L (.lst [])) dc (.dK (putK (kvC W cl) (.inl (q : Int)) (.ref L)))) := by
  have V1 := J.newL nL (o := HO.lst [])
  have hL1 : upd G L (.lst []) L = some (.lst []) := upd_same
  have hI1 := handIn_add (o := .lst []) J.hI nL
  have noL : ∀ {b : Addr} {o : HO}, G b = some o → b ≠ L := fun h z => by rw [z, nL] at h; cases h
  have FL : ¬ F L := fun z => J.st.live L z nL
  have spL : X.p ≠ L := noL J.st.ins
  have rwL : rw ≠ L := let ⟨_, e, _⟩ := J.rows; noL e
  have clL : ∀ i ∈ W, cl i ≠ L := fun i hi => noL (J.chl i hi)
  generalize upd G L (.lst []) = G1 at V1 hL1 hI1
  have tk : TK G1 (upd G1 dc (.dK (putK (kvC W cl) (.inl (q : Int)) (.ref L)))) := tkUpd V1.chd fun xs z => by cases z
  have ls : ∀ {b : Addr} {xs : List V}, G1 b = some (.lst xs) → upd G1 dc (.dK (putK (kvC W cl) (.inl (q : Int)) (.ref L))) b = some (.lst xs) := fun h => by rw [upd_ne (neK h V1.chd fun z => by cases z)]; exact h
  exact { V1 with
    hI := handIn_less (handIn_write hI1 (.inr (.inr (.inr (.inr (.inl rfl)))))) fun x h => by
      rcases h with h | h | h | h | h | ⟨i, hi, h⟩
      · exact .inr (.inl h)
      · exact .inr (.inr (.inl h))
      · exact .inr (.inr (.inr (.inl h)))
      · exact .inr (.inr (.inr (.inr (.inl h))))
      · exact .inr (.inr (.inr (.inr (.inr (.inl h)))))
      · have h : x = if i = q then L else cl i := h
        by_cases c : i = q
        · rw [if_pos c] at h; exact .inl h
        · rw [if_neg c] at h; exact .inr (.inr (.inr (.inr (.inr (.inr ⟨i, hW i hi c, h⟩))))),
    st := V1.beside V1.chd (fun _ z => by cases z) (fun _ _ _ z => by cases z) J.ndc, spec := tolTK tk V1.spec,
    ncl := fun i hi => by
      show ¬ F (if i = q then L else cl i)
      by_cases c : i = q
      · rw [if_pos c]; exact FL
      · rw [if_neg c]; exact J.ncl i (hW i hi c),
    rc := fun i hi => by
      show (if i = q then L else cl i) ≠ rw
      by_cases c : i = q
      · rw [if_pos c]; exact rwL.symm
      · rw [if_neg c]; exact J.rc i (hW i hi c),
    inj := fun i hi j hj e => by
      have e : (if i = q then L else cl i) = if j = q then L else cl j := e
      by_cases c : i = q
      · by_cases d : j = q
        · rw [c, d]
        · rw [if_pos c, if_neg d] at e
          exact absurd e.symm (clL j (hW j hj d))
      · by_cases d : j = q
        · rw [if_neg c, if_pos d] at e
          exact absurd e (clL i (hW i hi c))
        · rw [if_neg c, if_neg d] at e
          exact J.inj i (hW i hi c) j (hW j hj d) e,
    rows := by obtain ⟨us, h1, h2⟩ := V1.rows; exact ⟨us, ls h1, Paired.mapP h2 fun _ _ z => rowTK tk z⟩,
    ams := amsTK tk (fun _ e => by rw [upd_ne J.dd]; exact e) V1.ams,
    chd := by rw [upd_same, hk],
    chl := fun i hi => by
      show upd G1 dc _ (if i = q then L else cl i) = some (HO.lst ((if i = q then [] else chs i).map vn))
      by_cases c : i = q
      · rw [if_pos c, if_pos c]; exact ls hL1
      · rw [if_neg c, if_neg c]; exact ls (V1.chl i (hW i hi c)),
    nd := nd, was := was }
/-- a place is watched no longer -/
theorem Iv.drop (J : Iv Zs Zt C fo lv gJ p r da dc rw F X S am W cl chs G) {q : Nat} : Iv Zs Zt C fo lv gJ p r da dc rw F X S am (W.filter fun i => !decide (i = q)) cl chs (upd G dc (.dK (dropK (kvC W cl) (.inl (q : Int))))) := by
  have tk : TK G (upd G dc (.dK (dropK (kvC W cl) (.inl (q : Int))))) := tkUpd J.chd fun xs z => by cases z
  have ls : ∀ {b : Addr} {xs : List V}, G b = some (.lst xs) → upd G dc (.dK (dropK (kvC W cl) (.inl (q : Int)))) b = some (.lst xs) := fun h => by rw [upd_ne (neK h J.chd fun z => by cases z)]; exact h
  have inW : ∀ i ∈ W.filter fun i => !decide (i = q), i ∈ W := fun i hi => (List.mem_filter.mp hi).1
  exact { J with
    hI := handIn_less (handIn_write J.hI (.inr (.inr (.inr (.inl rfl))))) fun x h => by
      rcases h with h | h | h | h | h | ⟨i, hi, h⟩
      · exact .inl h
      · exact .inr (.inl h)
      · exact .inr (.inr (.inl h))
      · exact .inr (.inr (.inr (.inl h)))
      · exact .inr (.inr (.inr (.inr (.inl h))))
      · exact .inr (.inr (.inr (.inr (.inr ⟨i, inW i hi, h⟩)))),
    st := J.beside J.chd (fun _ z => by cases z) (fun _ _ _ z => by cases z) J.ndc, spec := tolTK tk J.spec,
    ncl := fun i hi => J.ncl i (inW i hi), rc := fun i hi => J.rc i (inW i hi), inj := fun i hi j hj => J.inj i (inW i hi) j (inW j hj),
    rows := by obtain ⟨us, h1, h2⟩ := J.rows; exact ⟨us, ls h1, Paired.mapP h2 fun _ _ z => rowTK tk z⟩,
    ams := amsTK tk (fun _ e => by rw [upd_ne J.dd]; exact e) J.ams,
    chd := by rw [upd_same, kvC_drop],
    chl := fun i hi => ls (J.chl i (inW i hi)), nd := J.nd.filter _, was := fun i hi => J.was i (inW i hi) }
end
end Cn
namespace Cn
open PySem PySem.Spec PyProof.Rows L2 Ck
/-- != of equal things without dicts -/
def rNeP (K : PySem.W.Frag) : R2 := fun x y H Q => ∃ d, Dp K H x d ∧ Dp K H y d ∧ d.plain = true ∧ d.depth ≤ 60 ∧ Q (.bl false) H
theorem op_neP {X : Cx} (hu : X.A.units + 64 < cLine) : OpR X (compareOp .NotEq) (rNeP X.K) := by
  intro pins s σ H x y v u Q I rx ry h
  obtain ⟨d, hd, he, hp, hl, q⟩ := h
  obtain ⟨as, r1⟩ := Dp.reads I d x v hd rx
  obtain ⟨bs, r2⟩ := Dp.reads I d y u he ry
  refine PySem.SeqAt.ne_plain r1 r2 hp hp (by rw [Nat.min_self]; omega) ⟨.bl _, H, I, rfl, ?_⟩
  rw [PySem.SeqAt.eqv_refl_plain d hp]
  exact q
/-- amounts by places, short ones -/
theorem ex_am4 : ∀ (be : List Nat) (ws : List (List Nat)), be.Nodup → ws.length = be.length → (∀ l ∈ ws, l.length ≤ 4) → ∃ am : Nat → List Nat, (∀ i p : Nat, be[i]? = some p → ws[i]? = some (am p)) ∧ ∀ q, (am q).length ≤ 4
  | [], _, _, _, _ => ⟨fun _ => [], fun i p h => (by cases h), fun _ => Nat.zero_le _⟩
  | b :: be, [], _, hl, _ => by cases hl
  | b :: be, w :: ws, nd, hl, h4 => by
    have nd := List.nodup_cons.mp nd
    obtain ⟨am, h1, h2⟩ := ex_am4 be ws nd.2 (Nat.succ.inj hl) fun l h => h4 l (List.mem_cons_of_mem _ h)
    refine ⟨fun q => if q = b then w else am q, fun i p h => ?_, fun q => ?_⟩
    · cases i with
      | zero =>
        cases h
        show some w = some (if b = b then w else am b)
        rw [if_pos rfl]
      | succ i =>
        have hp : p ∈ be := List.mem_of_getElem? h
        show ws[i]? = some (if p = b then w else am p)
        rw [if_neg (fun z => nd.1 (by rw [← z]; exact hp))]
        exact h1 i p h
    · show (if q = b then w else am q).length ≤ 4
      by_cases c : q = b
      · rw [if_pos c]
        exact h4 w List.mem_cons_self
      · rw [if_neg c]; exact h2 q
/-- a dict out of pairs -/
theorem merge_val {am : Nat → List Nat} : ∀ (ns : List Nat) (kvs : List (L2.Key × V)) (p : Nat), p ∈ ns ∨ valV kvs (.inl (p : Int)) = some (vS (am p)) → valV (mergeK kvs (ns.map fun (q : Nat) => ((.inl (q : Int) : L2.Key), vS (am q)))) (.inl (p : Int)) = some (vS (am p))
  | [], kvs, p, h => by
    rcases h with h | h
    · cases h
    · exact h
  | n :: ns, kvs, p, h => by
    show valV (mergeK (putK kvs (.inl (n : Int)) (vS (am n))) (ns.map fun (q : Nat) => ((.inl (q : Int) : L2.Key), vS (am q)))) _ = _
    refine merge_val ns _ p ?_
    by_cases c : p = n
    · refine .inr ?_
      rw [valV_put, c, if_pos rfl]
    · rcases h with h | h
      · exact .inl ((List.mem_cons.mp h).resolve_left c)
      · refine .inr ?_
        rw [valV_put, if_neg (fun z => c (by injection z with z; omega))]
        exact h
theorem upd_comm {H : Hp} {a b : Addr} {o u : HO} (n : a ≠ b) : upd (upd H a o) b u = upd (upd H b u) a o := by
  funext c
  by_cases ca : c = a
  · subst ca
    rw [upd_ne n, upd_same, upd_same]
  · by_cases cb : c = b
    · subst cb
      rw [upd_same, upd_ne ca, upd_same]
    · rw [upd_ne cb, upd_ne ca, upd_ne ca, upd_ne cb]
theorem upd_self {H : Hp} {a : Addr} {o : HO} (h : H a = some o) : upd H a o = H := by
  funext c
  by_cases ca : c = a
  · rw [ca, upd_same, h]
  · rw [upd_ne ca]
theorem seqWalkO {K : PySem.W.Frag} {a : Addr} {xs : List V} {σ : L2.St} {H : Hp} {i : Nat} {R : It → Hp → Prop} {o : HO} (hv : σ[i]? = some (some (.ref a))) (hq : H a = some o) (ho : o = .lst xs ∨ o = .tup xs) (k : ∀ J, Walk J xs.length (fun G => G a = some o) (YAt xs) → R J H) : iList K (tVar i) σ H R ∨ iTup K (tVar i) σ H R :=
  ho.elim (fun z => .inl ⟨_, hv, a, rfl, ⟨xs, .inl (.inl (by rw [hq, z]))⟩, k _ ((walk_list (K := K)).mono (fun G (s : G a = some o) => .inl (.inl (by rw [s, z]))) fun _ _ _ _ _ _ y => y)⟩) (fun z => .inr ⟨_, hv, a, rfl, ⟨xs, .inl (.inl (by rw [hq, z]))⟩, k _ ((walk_tup (K := K)).mono (fun G (s : G a = some o) => .inl (.inl (by rw [s, z]))) fun _ _ _ _ _ _ y => y)⟩)
/-- what a place's notes hold together is what its way holds -/
theorem ans_come {S : Sv (List Nat)} (ok : FoOk S.fo) {q : Nat} (hq : q ∈ S.fo.as) : ansS (fun a b => a ++ b) S q = comeL S.fo S.am q := by
  have okN := ntOk_held (lv := S.lv) ok
  have h := reads_flat (lv := S.lv) ok hq
  unfold ansS comeL
  rw [← h, List.map_flatMap]
  have go : ∀ l : List Nat, (∀ s ∈ l, s ∈ (ntOf S.fo S.lv).map fun e => e.1) → Paired (fun v xs => xs ≠ [] ∧ togG (fun a b : List Nat => a ++ b) xs = some v) (l.map fun s => sumP (fun a b => a ++ b) S.am (placesN (ntOf S.fo S.lv) s)) (l.map fun s => (placesN (ntOf S.fo S.lv) s).map S.am) := by
    intro l
    induction l with
    | nil => intro _; exact .nil
    | cons s l ih =>
      intro h
      have hne := (okN.ne s (h s List.mem_cons_self)).1
      exact .cons ⟨fun z => hne (List.map_eq_nil_iff.mp z), tog_sum hne⟩ (ih fun x hx => h x (List.mem_cons_of_mem _ hx))
  rw [tog_flat List.append_assoc (go _ fun s hs => reads_sub hs), ← List.flatMap_def]
theorem dWopt {H : Hp} {v u : V} {o : Option (List Nat)} (h : dW.opt H v o) (h2 : dW.opt H u o) : v = u ∧ flatV v = true ∧ scal v u = true := by
  cases o with
  | none =>
    have h : v = .non := h
    have h2 : u = .non := h2
    rw [h, h2]
    exact ⟨rfl, rfl, rfl⟩
  | some a =>
    have h : v = vS a := h
    have h2 : u = vS a := h2
    rw [h, h2]
    exact ⟨rfl, rfl, rfl⟩
theorem newsEq {H : Hp} : ∀ {l : List (Nat × Option (List Nat))} {us ws : List V}, Paired (NewsAt dW H) us l → Paired (NewsAt dW H) ws l → Paired (EqS H 1) us ws
  | [], _, _, .nil, .nil => .nil
  | _ :: _, _, _, .cons h t, .cons h2 t2 => .cons (by
      obtain ⟨a, x, rfl, h3, h4⟩ := h
      obtain ⟨b, y, rfl, h5, h6⟩ := h2
      obtain ⟨e, f, _⟩ := dWopt h4 h6
      subst e
      exact .inr ⟨a, b, _, _, rfl, rfl, .inr ⟨h3, h5⟩, by show 2 ≤ 4000; decide, .cons ⟨rfl, rfl⟩ (.cons ⟨rfl, f⟩ .nil)⟩) (newsEq t t2)
theorem newsLen {D : Dom (List Nat)} {H : Hp} {us : List V} {l : List (Nat × Option (List Nat))} (h : Paired (NewsAt D H) us l) : us.length = l.length := Paired.length h
theorem tolKeptP {H G : Hp} {p r : Addr} {S : Addr → Prop} {fo : Fo} (hI : HandIn H p S) (k : Kept p H G) (h : TolR H r fo) : TolR G r fo := tolTK (fun t xs e => k t _ (tup_ne hI e) e) h
theorem handIn_grow {H H' : Hp} {p : Addr} {S S' : Addr → Prop} (h : HandIn H p S) (s : Same H H') (hS : ∀ x, S' x → (H x = none ∧ H' x ≠ none) ∨ ∃ Z dx fs, H' x = some (.ins Z dx fs)) : HandIn H' p S' := by
  obtain ⟨⟨g, c, gs, cs, d, n, hp, hg, hc, n1, n2, n3, n4⟩, np, tr⟩ := h
  have no : ∀ {b : Addr} {xs : List V}, H b = some (.lst xs) → ¬ S' b := fun e z => by
    rcases hS _ z with ⟨y, _⟩ | ⟨Z, dx, fs, y⟩
    · rw [y] at e; cases e
    · rw [s _ _ e] at y; cases y
  refine ⟨⟨g, c, gs, cs, d, n, s _ _ hp, s _ _ hg, s _ _ hc, n1, n2, no hg, no hc⟩, no hp, fun D hD => ?_⟩
  rcases hS _ hD with ⟨_, y⟩ | ⟨Z, dx, fs, y⟩
  · exact y
  · rw [y]; exact fun z => nomatch z
theorem Iv.congr {Zs Zt C : Addr} {fo : Fo} {lv : List Nat} {gJ p r da dc rw : Addr} {F : Addr → Prop} {X : SoX} {S : Sv (List Nat)} {am : Nat → List Nat} {W : List Nat} {cl : Nat → Addr} {chs chs' : Nat → List Nat} {G : Hp} (J : Iv Zs Zt C fo lv gJ p r da dc rw F X S am W cl chs G) (h : ∀ q ∈ W, chs q = chs' q) : Iv Zs Zt C fo lv gJ p r da dc rw F X S am W cl chs' G :=
  { J with chl := fun q hq => by rw [← h q hq]; exact J.chl q hq }
/-- the loop, turn by turn -/
def JL (Zs Zt C : Addr) (fo : Fo) (lv : List Nat) (gJ a p r l m da dc rw : Addr) (i : Nat) (σ : L2.St) (G : Hp) : Prop := ∃ (F : Addr → Prop) (X : SoX) (S : Sv (List Nat)) (cl : Nat → Addr) (chs : Nat → List Nat) (t11 t12 t13 t14 t15 t16 t17 t18 : Option V),
  σ = [some (.ref a), some (.ref p), some (.ref r), some (.ref l), some (.ref m), some (.ref da), some (.ref rw), some (.ref X.p), some (.ref dc), some (vn S.tc), some (vn S.rd), t11, t12, t13, t14, t15, t16, t17, t18, none, none] ∧
  Iv Zs Zt C fo lv gJ p r da dc rw F X S S.am S.W cl chs G ∧ (∀ q ∈ S.W, S.fl q = (chs q).any fun x => decide (x ∈ road fo.ps q)) ∧ (∀ q, (chs q).length ≤ 60 * i) ∧ ∀ q, (S.am q).length ≤ 4
def spLaw (K : PySem.W.Frag) : Sp := fun vs H Q _ => ∃ (a : Addr) (ns : List Int), vs = [.ref a] ∧ SqL K H a (ns.map V.int) ∧ ns.length ≤ 63 ∧ ∀ H', Q (.bl true) H'
section
variable {P : Program} {w : World} {K : PySem.W.Frag} {mg : Str → Option Value} {base : Heap} {C : Addr}
def nLaw : List Str := ["_law_script", "_law_pool_here", "_law_spec_here", "_law_plan_here", "_law_given", "_law_amounts", "_law_rows_here", "_law_store", "_law_changed", "_law_touched", "_law_asked", "_law_turn", "_law_kind", "_law_some", "_law_place", "_law_amount", "_law_other", "_law_due", "_law_told", "_law_at", "_law_answer"]
theorem scLaw : FnScope nLaw ["_law_script"] (defScope sLaw) := ⟨rfl, rfl, rfl, by decide +kernel, rfl, by decide +kernel, by decide +kernel⟩
theorem ok_law {f : Addr} {fd : FuncData} (F : Fun K "law" "law" sLaw f fd) (B : Defs K mg C) : FnOk P w K mg base CX0 10 f fd ["_law_script"] (spLaw K) := by
  obtain ⟨Zs, U⟩ := B.cSo
  obtain ⟨Zt, Ut⟩ := B.cTa
  obtain ⟨fH, fdH, GH, gH, kH, bH⟩ := dHand (P := P) (w := w) (base := base) B
  obtain ⟨fD, fdD, GD, gD, kD, bD⟩ := dDraw (P := P) (w := w) (base := base) B
  obtain ⟨fS, fdS, GS, gS, kS, bS⟩ := dSpec (P := P) (w := w) (base := base) B
  obtain ⟨fP, fdP, GP, gP, kP, bP⟩ := dDPlan (P := P) (w := w) (base := base) B
  obtain ⟨fM, fdM, GM, gM, kM, bM⟩ := dMade (P := P) (w := w) (base := base) B
  obtain ⟨fI, fdI, GI, gI, kI, bI⟩ := dIs (P := P) (w := w) (base := base) B
  obtain ⟨f1, fd1, G1, g1, k1, b1⟩ := dLWords (P := P) (w := w) (base := base) B
  obtain ⟨f2, fd2, G2, g2, k2, b2⟩ := dLRows (P := P) (w := w) (base := base) B
  obtain ⟨f3, fd3, G3, g3, k3, b3⟩ := dLTxtC (P := P) (w := w) (base := base) B
  obtain ⟨f4, fd4, G4, g4, k4, b4⟩ := dPick (P := P) (w := w) (base := base) B
  obtain ⟨f5, fd5, G5, g5, k5, b5⟩ := dLWord (P := P) (w := w) (base := base) B
  obtain ⟨f6, fd6, G6, g6, k6, b6⟩ := dLTouch (P := P) (w := w) (base := base) B
  obtain ⟨f7, fd7, G7, g7, k7, b7⟩ := dLCome (P := P) (w := w) (base := base) dW B
  obtain ⟨f8, fd8, G8, g8, k8, b8⟩ := dLReads (P := P) (w := w) (base := base) B
  obtain ⟨f9, fd9, G9, g9, k9, b9⟩ := dNewsD (P := P) (w := w) (base := base) B
  obtain ⟨fA, fdA, GA, MA, bA⟩ := dSoI (P := P) (w := w) (base := base) dW B U Ut
  obtain ⟨fB, fdB, GB, MB, bB⟩ := dSoC1 (P := P) (w := w) (base := base) dW B U Ut
  obtain ⟨fC, fdC, GC, MC, bC⟩ := dSoCA (P := P) (w := w) (base := base) dW B U Ut
  obtain ⟨fE, fdE, GE, ME, bE⟩ := dSoAsk (P := P) (w := w) (base := base) dW B U Ut
  obtain ⟨fF, fdF, GF, MF, bF⟩ := dSoUn (P := P) (w := w) (base := base) (C := C) (Zt := Zt) dW B U
  obtain ⟨fG, fdG, GG, MG, bG⟩ := dSoWa (P := P) (w := w) (base := base) dW B U Ut
  obtain ⟨fN, fdN, GN, MN, bN⟩ := dSoN (P := P) (w := w) (base := base) dW B U Ut
  obtain ⟨fT, fdT, GT, MT, bT⟩ := dSoT (P := P) (w := w) (base := base) (C := C) (Zt := Zt) dW U
  obtain ⟨fQ, fdQ, GQ, MQ, bQ⟩ := dSoA (P := P) (w := w) (base := base) (C := C) (Zt := Zt) dW U
  obtain ⟨fW, fdW, GW, MW, bW⟩ := dSoW (P := P) (w := w) (base := base) (Zt := Zt) dW B U
  obtain ⟨gJ, mJ, AJ, AGJ⟩ := addGJoin (P := P) (w := w) (base := base) B
  have N := B.N
  have T := B.T
  have mD := B.zDict
  have nd := scLaw.nd
  refine F.ok scLaw (fun vs H Q E h => ?_) (fun cdv A outer s H vs Q E hr h => ?_)
  · obtain ⟨a, ns, rfl, _⟩ := h
    rfl
  · obtain ⟨a, ns, rfl, hs, hl, k⟩ := h
    have hu : (A.deeper (envOfC "law" (defScope sLaw) s.heap.objs.size f cdv)).units + 1 < cLine := by have := hr.units; omega
    have r1 : Room 1 (A.deeper (envOfC "law" (defScope sLaw) s.heap.objs.size f cdv)) := Room.mono hr (by decide)
    have r2 : Room 2 (A.deeper (envOfC "law" (defScope sLaw) s.heap.objs.size f cdv)) := Room.mono hr (by decide)
    have r3 : Room 3 (A.deeper (envOfC "law" (defScope sLaw) s.heap.objs.size f cdv)) := Room.mono hr (by decide)
    have r4 : Room 4 (A.deeper (envOfC "law" (defScope sLaw) s.heap.objs.size f cdv)) := Room.mono hr (by decide)
    have r6 : Room 6 (A.deeper (envOfC "law" (defScope sLaw) s.heap.objs.size f cdv)) := Room.mono hr (by decide)
    have r9 : Room 9 (A.deeper (envOfC "law" (defScope sLaw) s.heap.objs.size f cdv)) := Room.mono hr (by decide)
    refine ⟨_, pss_cons (ps_set (i := 1) nd rfl (Or.inl rfl) (pe_call GH r1 (by rfl) gH kH bH .nil pass0 (pa_cons (pv 0) pa_nil)))
      (pss_cons (ps_set (i := 2) nd rfl (Or.inr rfl) (pe_call GS r3 (by rfl) gS kS bS .nil pass0 (pa_cons (pv 1) (pa_cons pe_int (pa_cons pe_int pa_nil)))))
      (pss_cons (ps_set (i := 3) nd rfl (Or.inl rfl) (pe_call GP r2 (by rfl) gP kP bP .nil pass0 (pa_cons (pv 1) (pa_cons (pe_ix ix_tup (pv 2) pe_int (fun _ _ => rfl)) pa_nil))))
      (pss_cons (ps_set (i := 4) nd rfl (Or.inr rfl) (pe_call G1 r3 (by rfl) g1 k1 b1 .nil pass0 (pa_cons (pv 1) (pa_cons (pe_ix ix_tup (pv 2) pe_int (fun _ _ => rfl)) pa_nil))))
      (pss_cons (ps_set (i := 5) nd rfl (Or.inl rfl) (pe_callTy (call_dictP rfl) (by rfl) mD (by decide +kernel) (pa_cons (pe_lc (own := [("_law_at", 19)]) (g := gName 19) (tt := tYes) rfl nd (pi_range1 (by rfl) N.range (pa_cons (pe_callB call_len_seq (by rfl) N.is.len PySem.boot_len (pa_cons (pv 4) pa_nil)) pa_nil))
          (blkOk_by (N := nLaw) (sc := defScope sLaw) (by decide +kernel)) (fun _ _ _ _ _ => pg_name (i := 19) nd rfl (Or.inl rfl)) (fun _ _ _ _ _ => pts_nil)
          (fun _ _ _ _ _ => pe_tup (pa_cons (pe_ix (r := rIxT K) ix_tup (pe_ix (r := rIxT K) ix_tup (pv 2) pe_int (fun _ _ => rfl)) (pv 19) (fun _ _ => rfl)) (pa_cons (pe_ix (r := rIxT K) ix_tup (pv 4) (pv 19) (fun _ _ => rfl)) pa_nil)))) pa_nil)))
      (pss_cons (ps_set (i := 6) nd rfl (Or.inr rfl) (pe_call G2 r2 (by rfl) g2 k2 b2 .nil pass0 (pa_cons (pv 2) (pa_cons (pv 3) pa_nil))))
      (pss_cons (ps_set (i := 7) nd rfl (Or.inl rfl) (pe_make MA GA r9 (by rfl) U.mgC bA .nil pass0 (pa_cons (pe_call GM r6 (by rfl) gM kM bM .nil pass0 (pa_cons (pv 2) pa_nil)) (pa_cons (pv 3) (pa_cons (pv 4) (pa_cons (pe_glob (v := .ref gJ) (by rfl) mJ rfl) pa_nil))))))
      (pss_cons (ps_set (i := 8) nd rfl (Or.inl rfl) pe_dnewK)
      (pss_cons (ps_asg (pe_tup (pa_cons pe_int (pa_cons pe_int pa_nil))) (pg_tup rfl (pgs_cons (pg_name (i := 9) nd rfl (Or.inl rfl)) (pgs_cons (pg_name (i := 10) nd rfl (Or.inl rfl)) pgs_nil))))
      (pss_cons (ps_for PassesOwn.never rfl (pi_range1 (by rfl) N.range (pa_cons (pe_op op_add pe_int (pe_call GD r1 (by rfl) gD kD bD .nil pass0 (pa_cons (pv 1) (pa_cons pe_int pa_nil)))) pa_nil)) (pg_name (i := 11) nd rfl (Or.inl rfl))
        (pss_cons (ps_set (i := 12) nd rfl (Or.inl rfl) (pe_call GD r1 (by rfl) gD kD bD .nil pass0 (pa_cons (pv 1) (pa_cons pe_int pa_nil))))
        (psMid (ps_if (pt_cmpR op_lt (pv 12) pe_int (nomark _))
          (pss_cons (ps_set (i := 13) nd rfl (Or.inl rfl) (pe_call G3 r3 (by rfl) g3 k3 b3 .nil pass0 (pa_cons (pv 1) (pa_cons (pv 2) pa_nil))))
          (psMid (ps_if (PW.pt (pw_and (pt_cmpR op_gt (pe_callB call_len_seq (by rfl) N.is.len PySem.boot_len (pa_cons (pe_ix ix_tup (pv 2) pe_int (fun _ _ => rfl)) pa_nil)) pe_int (nomark _)) (pw_and1 (pt_cmpR op_eq (pv 12) pe_int (nomark _)))))
            (pss_cons (ps_set (i := 14) nd rfl (Or.inl rfl) (pe_call G4 r2 (by rfl) g4 k4 b4 .nil pass0 (pa_cons (pv 1) (pa_cons (pe_ix ix_tup (pv 2) pe_int (fun _ _ => rfl)) pa_nil))))
            (pss_cons (ps_set (i := 13) nd rfl (Or.inl rfl) (pe_lst (pa_cons (pe_tup (pa_cons (pv 14) (pa_cons (pe_ifExp (pt_cmpR op_eq (pe_call GD r1 (by rfl) gD kD bD .nil pass0 (pa_cons (pv 1) (pa_cons pe_int pa_nil))) pe_int (nomark _)) (pe_dget hu (pv 5) (pv 14) (fun _ _ => rfl)) (pe_call G5 r2 (by rfl) g5 k5 b5 .nil pass0 (pa_cons (pv 1) (pa_cons (pv 14) pa_nil)))) pa_nil))) pa_nil)))
            (pss_one (ps_expr (pe_meth (pv 7) U.cl MB GB r6 bB .nil pass0 (pa_cons (pv 14) (pa_cons (pe_ix ix_tup (pe_ix ix_list (pv 13) pe_int (fun _ _ => rfl)) pe_int (fun _ _ => rfl)) pa_nil)))))))
            (pss_one (ps_expr (pe_meth (pv 7) U.cl MC GC r6 bC .nil pass0 (pa_cons (pv 13) pa_nil)))))
          (pss_cons (ps_for PassesOwn.never rfl (show PI _ _ _ (iSeq K 13) from PI.orr (pi_list (pv 13)) (pi_tup (pv 13))) (pg_tup rfl (pgs_cons (pg_name (i := 14) nd rfl (Or.inl rfl)) (pgs_cons (pg_name (i := 15) nd rfl (Or.inl rfl)) pgs_nil)))
            (pss_cons (ps_dput hu (pv 5) (pv 14) (pv 15) rfl)
            (pss_one (ps_lock (ps_for PassesOwn.never rfl (pi_keys (pv 8)) (pg_name (i := 16) nd rfl (Or.inl rfl))
              (pss_one (ps_expr (pe_bm PySem.F.plainAttrs_list PySem.F.slot_list_append PySem.F.type_list_append mt_append (pe_dget hu (pv 8) (pv 16) (fun _ _ => rfl)) (pa_cons (pv 14) pa_nil)))))))))
          (pss_one (ps_set (i := 9) nd rfl (Or.inl rfl) (pe_op op_add (pv 9) (pe_call G6 r1 (by rfl) g6 k6 b6 .nil pass0 (pa_cons (pv 6) (pa_cons (pe_lc (own := [("_law_place", 14), ("_law_amount", 15)]) (g := gTup K 2 (gCons (gName 14) (gCons (gName 15) gNil))) (tt := tYes) (te := tVar 14) rfl nd (show PI _ _ _ (iSeq K 13) from PI.orr (pi_list (pv 13)) (pi_tup (pv 13)))
              (blkOk_by (N := nLaw) (sc := defScope sLaw) (by decide +kernel)) (fun _ _ _ _ _ => pg_tup rfl (pgs_cons (pg_name (i := 14) nd rfl (Or.inl rfl)) (pgs_cons (pg_name (i := 15) nd rfl (Or.inl rfl)) pgs_nil))) (fun _ _ _ _ _ => pts_nil) (fun _ _ _ _ _ => pv 14)) pa_nil)))))))))
          (pss_one (ps_if (PW.pt (pw_and (pt_cmpR op_lt (pv 12) pe_int (nomark _)) (pw_and1 (pt_cmpR op_gt (pe_callB call_len_seq (by rfl) N.is.len PySem.boot_len (pa_cons (pe_ix ix_tup (pv 2) pe_int (fun _ _ => rfl)) pa_nil)) pe_int (nomark _)))))
            (pss_cons (ps_set (i := 14) nd rfl (Or.inl rfl) (pe_call G4 r2 (by rfl) g4 k4 b4 .nil pass0 (pa_cons (pv 1) (pa_cons (pe_ix ix_tup (pv 2) pe_int (fun _ _ => rfl)) pa_nil))))
            (pss_one (ps_if (pt_cmpR op_eq (pv 12) pe_int (nomark _))
              (pss_cons (ps_if (pt_cmpR op_ne (pe_meth (pv 7) U.cl ME GE r4 bE .nil pass0 (pa_cons (pv 14) pa_nil)) (pe_call G7 r3 (by rfl) g7 k7 b7 .nil pass0 (pa_cons (pv 2) (pa_cons (pv 5) (pa_cons (pe_glob (v := .ref gJ) (by rfl) mJ rfl) (pa_cons (pv 14) pa_nil))))) (nomark _)) (pss_one ps_never) pss_nil)
              (pss_one (ps_set (i := 10) nd rfl (Or.inl rfl) (pe_op op_add (pv 10) (pe_call G8 r1 (by rfl) g8 k8 b8 .nil pass0 (pa_cons (pv 6) (pa_cons (pv 14) pa_nil)))))))
              (pss_one (ps_if (pt_cmp (pc_din hu (pv 14) (pv 8)))
                (pss_cons (ps_expr (pe_dpop1 (pv 8) (pv 14) (by constructor <;> rfl)))
                (pss_one (ps_expr (pe_meth (pv 7) U.cl MF GF r2 bF .nil pass0 (pa_cons (pv 14) pa_nil)))))
                (pss_cons (ps_dput hu (pv 8) (pv 14) (pe_lst pa_nil) rfl)
                (pss_one (ps_expr (pe_meth (pv 7) U.cl MG GG r3 bG .nil pass0 (pa_cons (pv 14) pa_nil))))))))))
            (pss_one (ps_if (pt_cmpR op_eq (pv 12) pe_int (nomark _))
              (pss_cons (ps_set (i := 17) nd rfl (Or.inl rfl) (pe_call G9 r4 (by rfl) g9 k9 b9 .nil pass0 (pa_cons (pv 2) (pa_cons (pv 5) (pa_cons (pe_callTy (call_listD rfl) (by rfl) N.is.lst (by decide +kernel) (pa_cons (pv 8) pa_nil)) (pa_cons (pv 8) pa_nil))))))
              (pss_cons (ps_set (i := 10) nd rfl (Or.inl rfl) (pe_op op_add (pv 10) (pe_callB (r := rSum K) (cr_sum rfl) (by rfl) B.zSum (by decide +kernel) (pa_cons (pe_lc (own := [("_law_place", 14), ("_law_answer", 20)]) (g := gTup K 2 (gCons (gName 14) (gCons (gName 20) gNil))) (tt := tYes) (te := tCall spLReads [] (fun _ _ _ => False) (tCons (tVar 6) (tCons (tVar 14) tNil))) rfl nd (pi_list (pv 17))
                (blkOk_by (N := nLaw) (sc := defScope sLaw) (by decide +kernel)) (fun _ _ _ _ _ => pg_tup rfl (pgs_cons (pg_name (i := 14) nd rfl (Or.inl rfl)) (pgs_cons (pg_name (i := 20) nd rfl (Or.inl rfl)) pgs_nil))) (fun _ _ _ _ _ => pts_nil) (fun _ _ _ _ _ => pe_call G8 r1 (by rfl) g8 k8 b8 .nil pass0 (pa_cons (pv 6) (pa_cons (pv 14) pa_nil)))) pa_nil))))
              (pss_cons (ps_if (PW.pt (pw_or (pt_not (pt_val (pe_call GI r6 (by rfl) gI kI bI .nil pass0 (pa_cons (pe_meth0 (pv 7) U.cl MN GN r4 bN .nil pass0) (pa_cons (pv 17) pa_nil))))) (pw_or1 (pt_cmpR (op_neP hr.units) (pe_meth0 (pv 7) U.cl MN GN r4 bN .nil pass0) (pe_lst pa_nil) (nomark _))))) (pss_one ps_never) pss_nil)
              (pss_one (ps_for PassesOwn.never rfl (pi_list (pe_callTy (call_listD rfl) (by rfl) N.is.lst (by decide +kernel) (pa_cons (pv 8) pa_nil))) (pg_name (i := 14) nd rfl (Or.inl rfl))
                (pss_one (ps_dput hu (pv 8) (pv 14) (pe_lst pa_nil) rfl)))))))
              pss_nil)))))
        (pss_cons (ps_set (i := 18) nd rfl (Or.inl rfl) (pe_lst (pa_cons (pe_meth0 (pv 7) U.cl MT GT r1 bT .nil pass0) (pa_cons (pe_meth0 (pv 7) U.cl MQ GQ r1 bQ .nil pass0) (pa_cons (pe_meth0 (pv 7) U.cl MW GW r1 bW .nil pass0) pa_nil)))))
        (pss_one (ps_if (pt_not (pt_val (pe_call GI r6 (by rfl) gI kI bI .nil pass0 (pa_cons (pv 18) (pa_cons (pe_lst (pa_cons (pv 9) (pa_cons (pv 10) (pa_cons (pe_callTy call_tuple_of (by rfl) N.is.tup (by decide +kernel) (pa_cons (pe_callB cr_sorted (by rfl) N.sorted (by decide +kernel) (pa_cons (pe_callTy (call_listD rfl) (by rfl) N.is.lst (by decide +kernel) (pa_cons (pv 8) pa_nil)) pa_nil)) pa_nil)) pa_nil)))) pa_nil))))) (pss_one ps_never) pss_nil))))))
      (pss_one (ps_ret pe_bl))))))))))), ?_⟩
    refine ⟨_, rfl, a, ns, rfl, hs, hl, fun H1 p s1 np hI1 => ?_⟩
    refine ⟨_, rfl, p, _, 2, 9, rfl, hI1, by decide, by decide, by decide, fun r fo H2 ok l2 l9 hI2 kp2 hT2 => ?_⟩
    obtain ⟨ap, ab, aa, u0, u1, u2, u3⟩ := id hT2
    refine ⟨_, rfl, _, rfl, r, _, (0 : Int), _, rfl, rfl, .inl (.inl u0), rfl, p, _, ap, fo.ps, rfl, hI2, u1, ok.ps, ok.l1, fun l lv H3 hv hI3 kp3 hl3 => ?_⟩
    have hT3 := tolKeptP hI2 kp3 hT2
    have bl60 := lotLen ok.be ok.bl
    have al60 := lotLen ok.as ok.al
    have p60 := ok.l1
    have ndB : fo.be.Nodup := ok.be.imp fun h => Nat.ne_of_lt h
    obtain ⟨ap, ab, aa, u0, u1, u2, u3⟩ := id hT3
    refine ⟨_, rfl, _, rfl, r, _, (1 : Int), _, rfl, rfl, .inl (.inl u0), rfl, p, _, ab, fo.be, rfl, hI3, u2, fun n hn => by have := ok.bl n hn; omega, by omega, fun m ws J3 hI4 kp4 hwl hw4 hm => ?_⟩
    obtain ⟨am, ham, ham4⟩ := ex_am4 fo.be ws ndB hwl hw4
    have hT4 := tolKeptP hI3 kp4 hT3
    have hl4 := kp4 _ _ (tup_ne hI3 hl3) hl3
    obtain ⟨ap, ab, aa, o0, o1, o2, o3⟩ := id hT4
    -- the amounts in a dict
    refine ⟨_, rfl, m, _, rfl, .inr (.inl (.inl hm)), ((ws.map vS).length : Int), rfl, by rw [List.length_map]; omega, by rw [List.length_map]; omega, fun D nD => ?_⟩
    rw [Int.toNat_natCast, List.length_map]
    refine lc_range (lo := 0) (n := ws.length) (fun i G => Same J3 G ∧ ∃ ps : List Addr, G D = some (.lst (ps.map V.ref)) ∧ Paired (fun q kv => G q = some (.tup [kV kv.1, kv.2])) ps ((fo.be.take i).map fun (q : Nat) => ((.inl (q : Int) : L2.Key), vS (am q)))) ⟨smUpd nD, [], upd_same, .nil⟩ ?_ ?_
    · rintro i G hi ⟨sm, ps, hD, hP⟩
      rw [show (0 : Int) + (i : Int) = (i : Int) from Int.zero_add _]
      have hq : fo.be[i]? = some (fo.be[i]'(by omega)) := List.getElem?_eq_getElem (by omega)
      generalize fo.be[i]'(by omega) = q at hq
      have hw := ham i q hq
      refine ⟨rfl, _, rfl, r, _, (1 : Int), _, rfl, rfl, .inl (.inl (sm _ _ o0)), rfl, _, rfl, ab, _, (i : Int), _, rfl, rfl, tnL (sm _ _ o2), vn_ix hq, _, rfl, _, rfl, m, _, (i : Int), _, rfl, rfl, .inl (.inl (sm _ _ hm)), atI_nat (by rw [List.getElem?_map, hw]; rfl), by show 2 ≤ sizeLine; decide, fun T nT => ?_⟩
      have sT := smUpd (o := .tup [vn q, vS (am q)]) nT
      have hTT : upd G T (.tup [vn q, vS (am q)]) T = some (.tup [vn q, vS (am q)]) := upd_same
      have hD2 := sT _ _ hD
      have lp := Paired.length hP
      rw [List.length_map, List.length_take] at lp
      refine ⟨_, hD2, small1000 (by rw [List.length_map]; omega), smOver nD (sm.trans sT), ps ++ [T], by rw [upd_same, List.map_append]; rfl, ?_⟩
      rw [List.take_add_one, hq, List.map_append]
      refine paired_snoc (Paired.mapP hP fun q kv z => ?_) ?_
      · rw [upd_ne (fun y => by rw [y, hD] at z; cases z)]
        exact sT _ _ z
      · rw [upd_ne (fun y => by rw [y, hD] at nT; cases nT)]
        exact hTT
    rintro G ⟨smG, ps, hD, hP⟩
    rw [hwl, List.take_length] at hP
    refine ⟨D, ps, _, rfl, .inl (.inl hD), Paired.mapP hP fun _ _ z => .inl (.inl z), fun da nA => ?_⟩
    have sA := smUpd (o := .dK (mergeK [] (fo.be.map fun (q : Nat) => ((.inl (q : Int) : L2.Key), vS (am q))))) nA
    have hA5 : AmsAt dW (upd G da (.dK (mergeK [] (fo.be.map fun (q : Nat) => ((.inl (q : Int) : L2.Key), vS (am q)))))) da am fo.be 60 := ⟨_, upd_same, by
      have := length_mergeK (fo.be.map fun (q : Nat) => ((.inl (q : Int) : L2.Key), vS (am q))) []
      rw [List.length_nil, List.length_map] at this
      omega, fun q hq => ⟨_, merge_val fo.be [] q (.inl hq), rfl⟩⟩
    generalize upd G da (.dK (mergeK [] (fo.be.map fun (q : Nat) => ((.inl (q : Int) : L2.Key), vS (am q))))) = J5 at sA hA5 ⊢
    have s35 := smG.trans sA
    have nda : J3 da = none := nBack smG nA
    -- the rows
    refine ⟨_, rfl, _, rfl, r, l, fo, lv, rfl, tolSame s35 hT4, ok, s35 _ _ hl4, hv, fun rw rus J6 s56 nrw hrw hRows => ?_⟩
    have s36 := s35.trans s56
    have nrw3 : J3 rw = none := nBack s35 nrw
    have hA6 : AmsAt dW J6 da am fo.be 60 := amsTK (tkSame s56) (fun _ e => s56 _ _ e) hA5
    -- the store
    refine ⟨_, rfl, r, fo, rfl, tolSame s36 hT4, ok, fun fa J7 s67 hF7 => ⟨_, rfl, _, rfl, fun sp dx nx ndx ne => ?_⟩⟩
    have s37 := s36.trans s67
    have np8 : (upd J7 dx (.own sp)) sp = none := by rw [upd_ne (Ne.symm ne)]; exact nx
    have s78 : Same J7 (upd (upd J7 dx (.own sp)) sp (.ins Zs dx [])) := (smUpd ndx).trans (smUpd np8)
    have hp8 : upd (upd J7 dx (.own sp)) sp (.ins Zs dx []) sp = some (.ins Zs dx []) := upd_same
    generalize upd (upd J7 dx (.own sp)) sp (.ins Zs dx []) = J8 at s78 hp8 ⊢
    have s38 := s37.trans s78
    refine ⟨sp, dx, fa, l, m, gJ, fo, lv, ws.map vS, am, fun a b => a ++ b, 4, rfl, hp8, foAt_same s78 hF7, ok, s38 _ _ hl4, hv, s38 _ _ hm, by rw [List.length_map]; exact hwl, fun i q hq => ⟨vS (am q), by rw [List.getElem?_map, ham i q hq]; rfl, rfl⟩, AGJ, ham4, by decide, fun X0 J9 eX st9 k89 => ⟨rfl, ?_⟩⟩
    have s79 : Same J7 J9 := fun b o e => k89 b o (fun z => by rw [z, nx] at e; cases e) (s78 _ _ e)
    have s39 := s37.trans s79
    have s69 := s67.trans s79
    -- nothing is watched
    refine fun dc ndc => ?_
    have s9a := smUpd (o := .dK []) ndc
    have hdc : upd J9 dc (.dK []) dc = some (.dK []) := upd_same
    generalize upd J9 dc (.dK []) = J10 at s9a hdc ⊢
    refine ⟨by show 2 ≤ sizeLine; decide, fun tt ntt => ?_⟩
    have sab := smUpd (o := .tup [.int 0, .int 0]) ntt
    have htt : upd J10 tt (.tup [.int 0, .int 0]) tt = some (.tup [.int 0, .int 0]) := upd_same
    generalize upd J10 tt (.tup [.int 0, .int 0]) = J11 at sab htt ⊢
    refine ⟨tt, _, rfl, .inl (.inl htt), rfl, _, _, rfl, _, _, rfl, rfl, ?_⟩
    have s9b := s9a.trans sab
    have s3b := s39.trans s9b
    have s6b := s69.trans s9b
    obtain ⟨X0p, X0dx, X0fr, X0mk, X0st⟩ := X0
    have eX : X0p = sp := eX
    subst eX
    have fa9 : ∃ Z dx fs, J11 fa = some (.ins Z dx fs) := by
      obtain ⟨_, _, _, _, e0, _⟩ := hF7
      exact ⟨_, _, _, s9b _ _ (s79 _ _ e0)⟩
    have st11 : StoreAt Zs Zt C dW (fun x => x = fa ∨ (J8 x = none ∧ J9 x ≠ none)) (fun a b => a ++ b) gJ ⟨X0p, X0dx, X0fr, X0mk, X0st⟩ (sv0 fo lv am) J11 := st9.beside (tkSame s9b) fun b o _ e => s9b _ _ e
    have hA11 : AmsAt dW J11 da am fo.be 60 := amsTK (tkSame s6b) (fun _ e => s6b _ _ e) hA6
    have hda8 : J8 da ≠ none := by
      obtain ⟨kvs, e, _⟩ := hA6
      rw [s78 _ _ (s67 _ _ e)]
      exact fun z => nomatch z
    have kF : ∀ {b : Addr} {o : HO}, J11 b = some o → (∀ Z dx fs, o ≠ .ins Z dx fs) → J8 b ≠ none → ¬ (b = fa ∨ (J8 b = none ∧ J9 b ≠ none)) := fun e no h z => by
      rcases z with z | ⟨z, _⟩
      · obtain ⟨Z, dx, fs, e2⟩ := fa9
        rw [z, e2] at e
        exact no _ _ _ (Option.some.inj e).symm
      · exact h z
    have I0 : Iv Zs Zt C fo lv gJ p r da dc rw (fun x => x = fa ∨ (J8 x = none ∧ J9 x ≠ none)) ⟨X0p, X0dx, X0fr, X0mk, X0st⟩ (sv0 fo lv am) am [] (fun _ => da) (fun _ => []) J11 :=
      { hI := handIn_grow hI4 s3b fun x h => by
          rcases h with (h | ⟨h, h2⟩) | h | h | h | h | ⟨q, hq, _⟩
          · rw [h]; exact .inr fa9
          · refine .inl ⟨nBack s38 h, ?_⟩
            cases q : J9 x with
            | none => exact absurd q h2
            | some o => rw [s9b _ _ q]; exact fun z => nomatch z
          · rw [h]; exact .inr ⟨_, _, _, st11.ins⟩
          · rw [h]
            obtain ⟨kvs, e, _⟩ := hA11
            exact .inl ⟨nda, by rw [e]; exact fun z => nomatch z⟩
          · rw [h]; exact .inl ⟨nBack s39 ndc, by rw [sab _ _ hdc]; exact fun z => nomatch z⟩
          · rw [h]; exact .inl ⟨nrw3, by rw [s6b _ _ hrw]; exact fun z => nomatch z⟩
          · (cases hq),
        st := st11,
        nda := (by obtain ⟨kvs, e, _⟩ := hA11; exact kF e (fun _ _ _ z => by cases z) hda8),
        ndc := (fun z => st9.live dc z ndc),
        nrw := kF (s6b _ _ hrw) (fun _ _ _ z => by cases z) (by rw [s78 _ _ (s67 _ _ hrw)]; exact fun z => nomatch z),
        ncl := fun q hq => (by cases hq),
        dd := (fun z => by
          obtain ⟨kvs, e, _⟩ := hA6
          rw [z] at e
          rw [s69 _ _ e] at ndc
          cases ndc),
        rc := fun q hq => (by cases hq), inj := fun q hq => (by cases hq), spec := tolSame s3b hT4,
        rows := ⟨rus, s6b _ _ hrw, Paired.mapP hRows fun _ _ z => rowTK (tkSame s6b) z⟩, ams := hA11, chd := sab _ _ hdc, chl := fun q hq => (by cases hq), nd := List.nodup_nil, was := fun q hq => (by cases hq), sfo := rfl, slv := rfl }
    -- the loop
    refine ⟨_, rfl, p, _, 31, rfl, I0.hI, by decide, by decide, fun d J12 d0 d1 hI12 kp12 => ⟨10, d, rfl, rfl, 10 + d, rfl, by omega, by omega, ?_⟩⟩
    refine for_range (lo := 0) (n := (10 + d).toNat) (JL Zs Zt C fo lv gJ a p r l m da dc rw) ⟨_, _, _, _, _, none, none, none, none, none, none, none, none, rfl, I0.pool hI12 kp12, fun q hq => (by cases hq), fun q => Nat.zero_le _, ham4⟩ ?_ ?_
    · rintro i σ G hi ⟨F, X, S, cl, chs, t11, t12, t13, t14, t15, t16, t17, t18, rfl, J, hfl, hch, hs4⟩
      rw [show (0 : Int) + (i : Int) = (i : Int) from Int.zero_add _]
      have okN := ntOk_held (lv := lv) ok
      have i40 : i < 40 := by omega
      refine ⟨_, rfl, p, _, 8, rfl, J.hI, by decide, by decide, fun kd G1 kd0 kd8 hI1 kp1 => ?_⟩
      have J1 := J.pool hI1 kp1
      obtain ⟨ap, ab, aa, u0, u1, u2, u3⟩ := id J1.spec
      refine ⟨JL Zs Zt C fo lv gJ a p r l m da dc rw (i + 1), ?_, ?_⟩
      · refine ⟨_, rfl, kd, 3, rfl, rfl, _, rfl, ?_⟩
        refine ite2 (fun c3 => ?_) (fun c3 => ?_)
        · refine ⟨_, rfl, _, rfl, p, _, r, fo, rfl, J1.hI, J1.spec, ok, fun b us cs G2 hI2 kp2 nb hb hP hcs ncs l60 => ?_⟩
          have J2 := J1.pool hI2 kp2
          obtain ⟨o, hbo, ho⟩ : ∃ o, G2 b = some o ∧ (o = .lst us ∨ o = .tup us) := hb.elim (fun h => ⟨_, h, .inl rfl⟩) fun h => ⟨_, h, .inr rfl⟩
          have bne : ∀ {c : Addr} {o : HO}, G1 c = some o → b ≠ c := fun h z => by rw [← z, nb] at h; cases h
          have bda : b ≠ da := by obtain ⟨kvs, e, _⟩ := J1.ams; exact bne e
          refine ⟨fun σ G => ∃ (b : Addr) (us : List V) (cs : List (Nat × List Nat)) (o : HO) (F' : Addr → Prop) (X' : SoX) (t14 : Option V), σ = [some (.ref a), some (.ref p), some (.ref r), some (.ref l), some (.ref m), some (.ref da), some (.ref rw), some (.ref X.p), some (.ref dc), some (vn S.tc), some (vn S.rd), some (.int (i : Int)), some (.int kd), some (.ref b), t14, t15, t16, t17, t18, none, none] ∧ X'.p = X.p ∧ G b = some o ∧ (o = .lst us ∨ o = .tup us) ∧ b ≠ da ∧ b ≠ dc ∧ (∀ q ∈ S.W, b ≠ cl q) ∧ Paired (ChgAt dW G) us cs ∧ (∀ c ∈ cs, c.1 ∈ fo.be ∧ c.2.length ≤ 4) ∧ cs.length ≤ 60 ∧ Iv Zs Zt C fo lv gJ p r da dc rw F' X' (chgSv S cs) S.am S.W cl chs G, ?_, ?_⟩
          · obtain ⟨ap, ab, aa, u0, u1, u2, u3⟩ := id J2.spec
            refine ⟨_, rfl, r, _, (1 : Int), _, rfl, rfl, .inl (.inl u0), rfl, ab, _, rfl, .inr (tnL u2), _, _, rfl, rfl, _, rfl, ?_⟩
            refine ite2 (fun c1 => ?_) (fun c1 => ?_)
            · have c1 := of_decide_eq_true c1
              rw [List.length_map] at c1
              refine ⟨_, rfl, rfl, _, rfl, ?_⟩
              refine ite2 (fun c2 => ?_) (fun c2 => ?_)
              · refine ⟨_, rfl, _, rfl, r, _, (1 : Int), _, rfl, rfl, .inl (.inl u0), rfl, p, _, ab, fo.be.map vn, rfl, J2.hI, tup_ne J2.hI u2, .inr u2, by rw [List.length_map]; omega, by rw [List.length_map]; omega, fun ix v G3 hv hI3 kp3 => ?_⟩
                obtain ⟨q, hq, rfl⟩ := vn_get hv
                have hqb := List.mem_of_getElem? hq
                have hql := ok.bl q hqb
                have J3 := J2.pool hI3 kp3
                refine ⟨_, rfl, _, rfl, p, _, 3, rfl, J3.hI, by decide, by decide, fun d3 G4 _ _ hI4 kp4 => ⟨rfl, _, rfl, ?_⟩⟩
                have J4 := J3.pool hI4 kp4
                refine ite2 (fun _ => ?_) (fun _ => ?_)
                · obtain ⟨kvA, hA, hAl, hAv⟩ := J4.ams
                  obtain ⟨v, hv1, hv2⟩ := hAv q hqb
                  have hv2 : v = vS (S.am q) := hv2
                  subst hv2
                  refine ⟨_, rfl, _, rfl, da, _, rfl, .inl ⟨kvA, .inl (q : Int), .inl hA, rfl, hv1.symm⟩, by show 2 ≤ sizeLine; decide, fun t1 n1 => ⟨by show 1 ≤ sizeLine; decide, fun b2 n2 => ?_⟩⟩
                  have hw := hs4 q
                  generalize S.am q = w at n2 hw ⊢
                  have J5 := J4
                  generalize G4 = G5 at n1 n2 J5 ⊢
                  have s1 := smUpd (o := .tup [vn q, vS w]) n1
                  have h1 : upd G5 t1 (.tup [vn q, vS w]) t1 = some (.tup [vn q, vS w]) := upd_same
                  have s2 := smUpd (o := .lst [.ref t1]) n2
                  have h2 : upd (upd G5 t1 (.tup [vn q, vS w])) b2 (.lst [.ref t1]) b2 = some (.lst [.ref t1]) := upd_same
                  have s12 := s1.trans s2
                  have h3 := s2 _ _ h1
                  have nb2 := nBack s1 n2
                  generalize upd (upd G5 t1 (.tup [vn q, vS w])) b2 (.lst [.ref t1]) = G6 at s12 h2 h3 ⊢
                  have J6 := J5.same s12
                  refine ⟨_, rfl, X.p, X.dx, _, rfl, J6.st.ins, rfl, _, rfl, _, rfl, b2, _, (0 : Int), _, rfl, rfl, .inl (.inl h2), rfl, t1, _, (1 : Int), _, rfl, rfl, .inl (.inl h3), rfl, F, _, gJ, X, S, 4, q, vS w, w, rfl, J6.st, AGJ, rfl, by rw [J.sfo]; exact hqb, ⟨hs4, by decide⟩, hw, fun X' G7 ep A' K' T' => ?_⟩
                  have J7 := J6.store A' ep (fun x z => z.imp (fun y => y) fun y => y.1) K' T' J6.sfo J6.slv
                  have ne : ∀ {c : Addr} {o : HO}, G5 c = some o → b2 ≠ c := fun h z => by rw [← z, nb2] at h; cases h
                  exact ⟨b2, [.ref t1], [(q, w)], .lst [.ref t1], _, X', _, rfl, ep, K' _ _ (ne J5.st.ins) h2, .inl rfl, (by obtain ⟨kvs, e, _⟩ := J5.ams; exact ne e), ne J5.chd, fun x hx => ne (J5.chl x hx), .cons ⟨t1, vS w, rfl, T' _ _ h3, rfl⟩ .nil, fun c hc => by rw [List.mem_singleton.mp hc]; exact ⟨hqb, hw⟩, by show 1 ≤ 60; decide, J7⟩
                · refine ⟨_, rfl, _, rfl, p, _, q, rfl, J4.hI, by omega, fun w G5 hw hI5 kp5 => ⟨by show 2 ≤ sizeLine; decide, fun t1 n1 => ⟨by show 1 ≤ sizeLine; decide, fun b2 n2 => ?_⟩⟩⟩
                  have J5 := J4.pool hI5 kp5
                  have s1 := smUpd (o := .tup [vn q, vS w]) n1
                  have h1 : upd G5 t1 (.tup [vn q, vS w]) t1 = some (.tup [vn q, vS w]) := upd_same
                  have s2 := smUpd (o := .lst [.ref t1]) n2
                  have h2 : upd (upd G5 t1 (.tup [vn q, vS w])) b2 (.lst [.ref t1]) b2 = some (.lst [.ref t1]) := upd_same
                  have s12 := s1.trans s2
                  have h3 := s2 _ _ h1
                  have nb2 := nBack s1 n2
                  generalize upd (upd G5 t1 (.tup [vn q, vS w])) b2 (.lst [.ref t1]) = G6 at s12 h2 h3 ⊢
                  have J6 := J5.same s12
                  refine ⟨_, rfl, X.p, X.dx, _, rfl, J6.st.ins, rfl, _, rfl, _, rfl, b2, _, (0 : Int), _, rfl, rfl, .inl (.inl h2), rfl, t1, _, (1 : Int), _, rfl, rfl, .inl (.inl h3), rfl, F, _, gJ, X, S, 4, q, vS w, w, rfl, J6.st, AGJ, rfl, by rw [J.sfo]; exact hqb, ⟨hs4, by decide⟩, hw, fun X' G7 ep A' K' T' => ?_⟩
                  have J7 := J6.store A' ep (fun x z => z.imp (fun y => y) fun y => y.1) K' T' J6.sfo J6.slv
                  have ne : ∀ {c : Addr} {o : HO}, G5 c = some o → b2 ≠ c := fun h z => by rw [← z, nb2] at h; cases h
                  exact ⟨b2, [.ref t1], [(q, w)], .lst [.ref t1], _, X', _, rfl, ep, K' _ _ (ne J5.st.ins) h2, .inl rfl, (by obtain ⟨kvs, e, _⟩ := J5.ams; exact ne e), ne J5.chd, fun x hx => ne (J5.chl x hx), .cons ⟨t1, vS w, rfl, T' _ _ h3, rfl⟩ .nil, fun c hc => by rw [List.mem_singleton.mp hc]; exact ⟨hqb, hw⟩, by show 1 ≤ 60; decide, J7⟩
              · refine ⟨_, rfl, X.p, X.dx, _, rfl, J2.st.ins, rfl, _, rfl, F, _, gJ, X, S, b, 4, us, cs, rfl, J2.st, AGJ, hb, hP, fun c hc => by rw [J.sfo]; exact (hcs c hc).1, ncs, l60, ⟨hs4, by decide⟩, fun c hc => (hcs c hc).2, fun X' G7 ep A' K' T' => ?_⟩
                have J7 := J2.store A' ep (fun x z => z.imp (fun y => y) fun y => y.1) K' T' J2.sfo J2.slv
                exact ⟨b, us, cs, o, _, X', _, rfl, ep, K' _ _ (bne J1.st.ins) hbo, ho, bda, bne J1.chd, fun q hq => bne (J1.chl q hq), Paired.mapP hP fun _ _ z => chgTK T' z, hcs, l60, J7⟩
            · refine ifF (by decide) ?_
              refine ⟨_, rfl, X.p, X.dx, _, rfl, J2.st.ins, rfl, _, rfl, F, _, gJ, X, S, b, 4, us, cs, rfl, J2.st, AGJ, hb, hP, fun c hc => by rw [J.sfo]; exact (hcs c hc).1, ncs, l60, ⟨hs4, by decide⟩, fun c hc => (hcs c hc).2, fun X' G7 ep A' K' T' => ?_⟩
              have J7 := J2.store A' ep (fun x z => z.imp (fun y => y) fun y => y.1) K' T' J2.sfo J2.slv
              exact ⟨b, us, cs, o, _, X', _, rfl, ep, K' _ _ (bne J1.st.ins) hbo, ho, bda, bne J1.chd, fun q hq => bne (J1.chl q hq), Paired.mapP hP fun _ _ z => chgTK T' z, hcs, l60, J7⟩
          rintro σ G2 ⟨b, us, cs, o, F', X', t14, rfl, ep, hb, ho, bda, bdc, bcl, hP, hcs, l60, J2⟩
          have ul : us.length = cs.length := Paired.length hP
          refine seqWalkO rfl hb ho fun Jt wk => ?_
          refine for_it wk (fun j σ G => (∃ t14 t15 t16 : Option V, σ = [some (.ref a), some (.ref p), some (.ref r), some (.ref l), some (.ref m), some (.ref da), some (.ref rw), some (.ref X.p), some (.ref dc), some (vn S.tc), some (vn S.rd), some (.int (i : Int)), some (.int kd), some (.ref b), t14, t15, t16, t17, t18, none, none]) ∧ G b = some o ∧ Paired (ChgAt dW G) us cs ∧ Iv Zs Zt C fo lv gJ p r da dc rw F' X' (chgSv S cs) (chgA S.am (cs.take j)) S.W cl (fun q => chs q ++ (cs.take j).map fun c => c.1) G)
            ⟨⟨_, _, _, rfl⟩, hb, hP, J2.congr (fun q _ => by rw [List.take_zero, List.map_nil, List.append_nil])⟩ (fun j σ G _ z => z.2.1) ?_ ?_
          · rintro j x σ G G' hj ⟨⟨t14, t15, t16, rfl⟩, hbG, hPG, JG⟩ ⟨rfl, hx⟩
            obtain ⟨c1, hc1, t, y, rfl, ht, hy⟩ := pairedGetQ hPG hx
            have hy : y = vS c1.2 := hy
            subst hy
            have hcb := hcs c1 (List.mem_of_getElem? hc1)
            obtain ⟨kvA, hA, hAl, hAv⟩ := JG.ams
            refine ⟨t, _, rfl, .inl (.inl ht), rfl, _, _, rfl, _, _, rfl, rfl, ?_⟩
            refine ⟨_, rfl, _, rfl, _, rfl, da, _, rfl, DPut.k (k := .inl (c1.1 : Int)) hA (bigLine (by omega)), ?_⟩
            have JA := JG.setAm hA hcb.1 (a := c1.2)
            have eA : chgA S.am (cs.take (j + 1)) = fun i => if i = c1.1 then c1.2 else chgA S.am (cs.take j) i := by rw [List.take_add_one, hc1]; exact chgA_snoc
            have et : cs.take (j + 1) = cs.take j ++ [c1] := by rw [List.take_add_one, hc1]; rfl
            rw [← eA] at JA
            have tkA : TK G' (upd G' da (.dK (putK kvA (.inl (c1.1 : Int)) (vS c1.2)))) := tkUpd hA fun xs z => by cases z
            have hbA : upd G' da (.dK (putK kvA (.inl (c1.1 : Int)) (vS c1.2))) b = some o := by rw [upd_ne bda]; exact hbG
            have hPA : Paired (ChgAt dW (upd G' da (.dK (putK kvA (.inl (c1.1 : Int)) (vS c1.2))))) us cs := Paired.mapP hPG fun _ _ z => chgTK tkA z
            generalize upd G' da (.dK (putK kvA (.inl (c1.1 : Int)) (vS c1.2))) = GA at JA hbA hPA ⊢
            have w60 : S.W.length ≤ 60 := J.st.w60
            refine ⟨dc, _, JA.chd, trivial, fun od => ?_⟩
            refine ⟨_, rfl, dc, od, rfl, .inl ⟨_, upd_same, ?_⟩⟩
            refine for_it walk_keys (fun k σ G => (∃ t16 : Option V, σ = [some (.ref a), some (.ref p), some (.ref r), some (.ref l), some (.ref m), some (.ref da), some (.ref rw), some (.ref X.p), some (.ref dc), some (vn S.tc), some (vn S.rd), some (.int (i : Int)), some (.int kd), some (.ref b), some (vn c1.1), some (vS c1.2), t16, t17, t18, none, none]) ∧ G dc = some (.frz od (.dK (kvC S.W cl))) ∧ G b = some o ∧ Paired (ChgAt dW G) us cs ∧ Iv Zs Zt C fo lv gJ p r da dc rw F' X' (chgSv S cs) (chgA S.am (cs.take (j + 1))) S.W cl (fun q => (chs q ++ (cs.take j).map fun c => c.1) ++ if q ∈ S.W.take k then [c1.1] else []) (upd G dc (.dK (kvC S.W cl))))
              ⟨⟨_, rfl⟩, upd_same, by rw [upd_ne bdc]; exact hbA, Paired.mapP hPA fun _ _ z => chgTK (tkUpd JA.chd fun xs z => by cases z) z, by rw [upd_upd, upd_self JA.chd]; exact JA.congr (fun q _ => by rw [List.take_zero, if_neg (fun z => nomatch z), List.append_nil])⟩ (fun k σ G _ z => z.2.1) ?_ ?_
            · rintro k x σ G2 G3 hk ⟨⟨t16, rfl⟩, hdc, hb2, hP2, JK⟩ ⟨rfl, kk, v, hkv, rfl⟩
              obtain ⟨q, hq, rfl, rfl⟩ := kvC_at hkv
              have hqW := List.mem_of_getElem? hq
              have hcl := JK.chl q hqW
              have cdc : cl q ≠ dc := fun z => by rw [z, upd_same] at hcl; cases hcl
              rw [upd_ne cdc] at hcl
              have hchq := hch q
              have tl : (cs.take j).length ≤ 60 := by rw [List.length_take]; omega
              have nW : q ∉ S.W.take k := takeNot J.nd hq
              have hcl2 : G3 (cl q) = some (.lst ((chs q ++ (cs.take j).map fun c => c.1).map vn)) := by rw [hcl, if_neg nW, List.append_nil]
              refine ⟨_, rfl, _, rfl, dc, .ref (cl q), rfl, .inl ⟨kvC S.W cl, .inl (q : Int), .inr ⟨od, hdc⟩, rfl, by rw [kvC_val, if_pos hqW]⟩, .inl ⟨rfl, _, .inl (.inl hcl2)⟩, _, rfl, cl q, _, _, rfl, rfl, hcl2, bigLine (by rw [List.length_map, List.length_append, List.length_map]; omega), ?_⟩
              have tkC : TK G3 (upd G3 (cl q) (.lst ((chs q ++ (cs.take j).map fun c => c.1).map vn ++ [vn c1.1]))) := tkUpd hcl2 fun xs z => by cases z
              refine ⟨⟨_, rfl⟩, by rw [upd_ne cdc.symm]; exact hdc, by rw [upd_ne (bcl q hqW)]; exact hb2, Paired.mapP hP2 fun _ _ z => chgTK tkC z, ?_⟩
              have JP := JK.push (x := c1.1) hqW
              rw [if_neg nW, List.append_nil] at JP
              rw [upd_comm cdc]
              refine JP.congr fun i hi => ?_
              have ek : S.W.take (k + 1) = S.W.take k ++ [q] := by rw [List.take_add_one, hq]; rfl
              rw [ek]
              by_cases ci : i = q
              · rw [if_pos ci, ci, if_pos (List.mem_append.mpr (.inr List.mem_cons_self))]
              · rw [if_neg ci]
                congr 1
                by_cases cm : i ∈ S.W.take k
                · rw [if_pos cm, if_pos (List.mem_append.mpr (.inl cm))]
                · rw [if_neg cm, if_neg (fun z => (List.mem_append.mp z).elim cm fun y => ci (List.mem_singleton.mp y))]
            · rintro σ G2 ⟨⟨t16, rfl⟩, hdc, hb2, hP2, JK⟩
              have tkU : TK G2 (upd G2 dc (.dK (kvC S.W cl))) := tkUpd hdc fun xs z => by cases z
              refine ⟨hdc, ⟨_, _, _, rfl⟩, by rw [upd_ne bdc]; exact hb2, Paired.mapP hP2 fun _ _ z => chgTK tkU z, JK.congr fun q hq => ?_⟩
              rw [kvC_len, List.take_length, if_pos hq, et, List.map_append, List.append_assoc]
              rfl
          rintro σ G3 ⟨⟨t14, t15, t16, rfl⟩, hb3, hP3, J3⟩
          rw [ul, List.take_length] at J3
          refine ⟨_, rfl, _, rfl, ?_⟩
          refine seqWalkO rfl hb3 ho fun Jt wk L nL => ?_
          refine anyWalk wk (fun j J => Same G3 J ∧ J L = some (.lst (((cs.take j).map fun c => c.1).map vn))) ⟨smUpd nL, upd_same⟩ (fun j J _ z => z.1 _ _ hb3) ?_ ?_
          · rintro j x G4 G5 hj ⟨sj, hL⟩ ⟨rfl, hx⟩
            obtain ⟨c1, hc1, t, y, rfl, ht, hy⟩ := pairedGetQ hP3 hx
            refine ⟨t, _, rfl, .inl (.inl (sj _ _ ht)), rfl, _, _, rfl, _, _, rfl, rfl, rfl, _, rfl, _, hL, small1000 (by rw [List.length_map, List.length_map, List.length_take]; omega), smOver nL sj, ?_⟩
            rw [upd_same, List.take_add_one, hc1, List.map_append, List.map_append]
            rfl
          rintro G4 ⟨sj, hL⟩
          rw [ul, List.take_length] at hL
          have J4 := J3.same sj
          obtain ⟨rus, hrw, hRows⟩ := J4.rows
          refine ⟨rw, L, rus, ntOf fo lv, cs.map fun c => c.1, rfl, hrw, hRows, okN.len, hL, by rw [List.length_map]; omega, fun G5 s5 => ⟨(S.tc : Int), _, rfl, rfl, ?_⟩⟩
          have J5 := J4.same s5
          have e : V.int ((S.tc : Int) + ((((ntOf fo lv).filter fun e => (cs.map fun c => c.1).any fun p => decide (p ∈ e.2.1)).length : Nat) : Int)) = vn (chgSv S cs).tc := by
            rw [vnAdd]
            show vn _ = vn (S.tc + (holdsA (ntOf S.fo S.lv) (cs.map fun c => c.1)).length)
            rw [J.sfo, J.slv]
            unfold holdsA
            rw [List.length_map]
          refine ⟨F', X', chgSv S cs, cl, fun q => chs q ++ cs.map fun c => c.1, _, _, _, _, _, _, _, _, by rw [ep, ← e]; rfl, J5, fun q hq => ?_, fun q => ?_, chgA_sz hs4 fun c hc => (hcs c hc).2⟩
          · show (S.fl q || cs.any fun c => decide (c.1 ∈ road S.fo.ps q)) = _
            rw [hfl q hq, J.sfo, List.any_append, List.any_map]
            rfl
          · rw [List.length_append, List.length_map]
            have := hch q
            omega
        · refine ⟨_, rfl, kd, 5, rfl, rfl, _, rfl, ?_⟩
          refine ite2 (fun c5 => ?_) (fun c5 => ?_)
          · have c5 := of_decide_eq_true c5
            refine ⟨_, rfl, r, _, (2 : Int), _, rfl, rfl, .inl (.inl u0), rfl, aa, _, rfl, .inr (tnL u3), _, _, rfl, rfl, _, rfl, ?_⟩
            refine ite2 (fun cA => ?_) (fun cA => ?_)
            · have cA := of_decide_eq_true cA
              rw [List.length_map] at cA
              refine ⟨_, rfl, _, rfl, r, _, (2 : Int), _, rfl, rfl, .inl (.inl u0), rfl, p, _, aa, fo.as.map vn, rfl, J1.hI, tup_ne J1.hI u3, .inr u3, by rw [List.length_map]; omega, by rw [List.length_map]; omega, fun ix v G3 hv hI3 kp3 => ?_⟩
              obtain ⟨q, hq, rfl⟩ := vn_get hv
              have hqa := List.mem_of_getElem? hq
              have hqa2 : q ∈ S.fo.as := by rw [J.sfo]; exact hqa
              have hql := ok.al q hqa
              have J3 := J1.pool hI3 kp3
              refine ⟨_, rfl, rfl, _, rfl, ?_⟩
              refine ite2 (fun cK => ?_) (fun cK => ?_)
              · refine ⟨_, rfl, X.p, X.dx, _, rfl, J3.st.ins, rfl, _, rfl, F, _, gJ, X, S, q, 4, rfl, J3.st, hqa2, AGJ, ⟨hs4, by decide⟩, fun v X' G4 ep A' K' T' hv => ?_⟩
                have J4 := J3.store A' ep (fun x z => z.imp (fun y => y) fun y => y.1) K' T' J3.sfo J3.slv
                refine ⟨_, rfl, _, rfl, _, rfl, r, da, gJ, q, fo, S.am, fun a b => a ++ b, 60, 4, rfl, J4.spec, ok, J4.ams, AGJ, hql, hs4, by decide, fun v2 G5 s5 hv2 => ?_⟩
                have J5 := J4.same s5
                have hv3 : dW.opt G5 v (comeL fo S.am q) := by
                  have e := ans_come (S := S) J.st.ok hqa2
                  rw [J.sfo] at e
                  rw [← e]
                  exact dW.optSame s5 hv
                obtain ⟨ev, _, hsc⟩ := dWopt hv3 hv2
                refine ⟨hsc, _, rfl, ?_⟩
                refine ifF (by rw [ev]; show ¬ (!decide (v2 = v2)) = true; rw [decide_eq_true rfl]; decide) ?_
                obtain ⟨rus, hrw, hRows⟩ := J5.rows
                refine ⟨_, rfl, _, rfl, _, rfl, rw, q, rus, ntOf fo lv, rfl, hrw, hRows, okN.len, fun G6 s6 => ⟨(S.rd : Int), _, rfl, rfl, ?_⟩⟩
                have J6 := J5.same s6
                have e : V.int ((S.rd : Int) + ((((ntOf fo lv).filter fun e => decide (q ∈ e.2.2)).length : Nat) : Int)) = vn (S.rd + (readsN (ntOf S.fo S.lv) q).length) := by
                  rw [vnAdd, J.sfo, J.slv]
                  unfold readsN
                  rw [List.length_map]
                refine ⟨_, X', { S with rd := S.rd + (readsN (ntOf S.fo S.lv) q).length }, cl, chs, _, _, _, _, _, _, _, _, by rw [ep, ← e]; rfl, J6, hfl, fun q => by have := hch q; omega, hs4⟩
              · refine ⟨_, rfl, _, rfl, dc, _, rfl, .inl ⟨kvC S.W cl, .inl (q : Int), .inl J3.chd, rfl, rfl⟩, _, rfl, ?_⟩
                have w60 : S.W.length ≤ 60 := J.st.w60
                by_cases hw : q ∈ S.W
                · refine ifT (by rw [kvC_val, if_pos hw]; rfl) ?_
                  refine ⟨_, rfl, dc, rfl, .inl ⟨_, .inl J3.chd⟩, _, rfl, kvC S.W cl, .inl (q : Int), .ref (cl q), J3.chd, rfl, by rw [kvC_val, if_pos hw], ?_⟩
                  have J4 := J3.drop (q := q)
                  generalize upd G3 dc (.dK (dropK (kvC S.W cl) (.inl (q : Int)))) = G4 at J4 ⊢
                  refine ⟨_, rfl, X.p, X.dx, _, rfl, J4.st.ins, rfl, _, rfl, F, _, gJ, X, S, q, rfl, J4.st, hw, fun X' G5 ep A' K' T' => ?_⟩
                  have J5 := J4.store A' ep (fun x z => z.imp (fun y => y) fun y => y.1) K' T' J4.sfo J4.slv
                  exact ⟨_, X', { S with W := S.W.filter fun i => !decide (i = q) }, cl, chs, _, _, _, _, _, _, _, _, by rw [ep]; rfl, J5, fun x hx => hfl x (List.mem_filter.mp hx).1, fun q => by have := hch q; omega, hs4⟩
                · refine ifF (by rw [kvC_val, if_neg hw]; decide) ?_
                  refine ⟨by show 0 ≤ sizeLine; decide, fun L nL => ?_⟩
                  have hdc : upd G3 L (.lst []) dc = some (.dK (kvC S.W cl)) := smUpd nL _ _ J3.chd
                  refine ⟨_, rfl, _, rfl, dc, _, rfl, DPut.k (k := .inl (q : Int)) hdc (by rw [kvC_len]; exact bigLine (by omega)), ?_⟩
                  have ndW : (S.W ++ [q]).Nodup := List.nodup_append.mpr ⟨J.nd, by simp, fun a ha b hb z => hw (by rw [← List.mem_singleton.mp hb, ← z]; exact ha)⟩
                  have J4 := J3.put nL (q := q) (W' := S.W ++ [q]) (kvC_add hw) (fun i hi n => (List.mem_append.mp hi).elim (fun y => y) fun y => absurd (List.mem_singleton.mp y) n) ndW (fun x hx => (List.mem_append.mp hx).elim (J.was x) fun y => by rw [List.mem_singleton.mp y]; exact hqa)
                  generalize upd (upd G3 L (.lst [])) dc (.dK (putK (kvC S.W cl) (.inl (q : Int)) (.ref L))) = G4 at J4 ⊢
                  refine ⟨_, rfl, X.p, X.dx, _, rfl, J4.st.ins, rfl, _, rfl, F, _, gJ, X, S, q, rfl, J4.st, hqa2, hw, fun X' G5 ep A' K' T' => ?_⟩
                  have J5 := J4.store A' ep (fun x z => z.imp (fun y => y) fun y => y.1) K' T' J4.sfo J4.slv
                  refine ⟨_, X', { S with W := S.W ++ [q], fl := fun i => if i = q then false else S.fl i }, _, fun i => if i = q then [] else chs i, _, _, _, _, _, _, _, _, by rw [ep]; rfl, J5, fun x hx => ?_, fun x => ?_, hs4⟩
                  · show (if x = q then false else S.fl x) = ((if x = q then [] else chs x).any _)
                    by_cases c : x = q
                    · rw [if_pos c, if_pos c]; rfl
                    · rw [if_neg c, if_neg c]
                      exact hfl x ((List.mem_append.mp hx).elim (fun y => y) fun y => absurd (List.mem_singleton.mp y) c)
                  · show (if x = q then [] else chs x).length ≤ _
                    have := hch x
                    by_cases c : x = q
                    · rw [if_pos c]; exact Nat.zero_le _
                    · rw [if_neg c]; omega
            · refine ⟨_, rfl, rfl, _, rfl, ?_⟩
              refine ifF (by rw [decide_eq_true_iff]; intro z; injection z with z; omega) ?_
              exact ⟨F, X, S, cl, chs, _, _, _, _, _, _, _, _, rfl, J1, hfl, fun q => by have := hch q; omega, hs4⟩
          · refine ifF (by decide) ?_
            refine ⟨_, rfl, rfl, _, rfl, ?_⟩
            refine ite2 (fun cN => ?_) (fun cN => ?_)
            · have w60 : S.W.length ≤ 60 := J.st.w60
              refine ⟨_, rfl, _, rfl, _, rfl, dc, _, rfl, .inl J1.chd, fun L nL => ⟨_, rfl, ?_⟩⟩
              have eW : (kvC S.W cl).map (fun kv => kV kv.1) = S.W.map vn := by unfold kvC; rw [List.map_map]; rfl
              rw [eW]
              have s2 := smUpd (o := .lst (S.W.map vn)) nL
              have hL2 : upd G1 L (.lst (S.W.map vn)) L = some (.lst (S.W.map vn)) := upd_same
              generalize upd G1 L (.lst (S.W.map vn)) = G2 at s2 hL2 ⊢
              have J2 := J1.same s2
              refine ⟨r, da, L, dc, fo, S.am, 60, S.W, cl, chs, rfl, J2.spec, ok, J2.ams, fun q => Nat.le_trans (hs4 q) (by decide), hL2, w60, fun q hq => ok.al q (J.was q hq), J2.chd, fun q hq => ⟨J2.chl q hq, by have := hch q; omega⟩, fun ys us d5 G3 s3 nd5 yp ysr hd5 hU => ?_⟩
              have J3 := J2.same s3
              have efl : ys.filter (fun q => (chs q).any fun p => decide (p ∈ road fo.ps q)) = ys.filter S.fl := List.filter_congr fun q hq => (hfl q (yp.mem_iff.mp hq)).symm
              rw [efl] at hU
              obtain ⟨dl, hdl⟩ : ∃ dl, dl = ys.filter S.fl := ⟨_, rfl⟩
              rw [← hdl] at hU
              have y60 : ys.length ≤ 60 := by rw [yp.length_eq]; exact w60
              have dl60 : dl.length ≤ 60 := by rw [hdl]; exact Nat.le_trans (List.length_filter_le _ _) y60
              have usl := Paired.length hU
              rw [List.length_map] at usl
              refine ⟨_, rfl, _, rfl, d5, rfl, ⟨_, .inl (.inl hd5)⟩, fun L2 nL2 => ?_⟩
              refine anyWalk (walk_list (xs := us)) (fun j J => Same G3 J ∧ J L2 = some (.lst (((dl.take j).map fun q => ((((ntOf fo lv).filter fun e => decide (q ∈ e.2.2)).length : Nat) : Int)).map V.int))) ⟨smUpd nL2, upd_same⟩ (fun j J _ z => .inl (.inl (z.1 _ _ hd5))) ?_ ?_
              · rintro j x G4 G5 hj ⟨sj, hL⟩ ⟨rfl, hx⟩
                obtain ⟨c1, hc1, t, y, rfl, ht, hy⟩ := pairedGetQ hU hx
                rw [List.getElem?_map] at hc1
                obtain ⟨q, hq, rfl⟩ := Option.map_eq_some_iff.mp hc1
                have J5 := J3.same sj
                obtain ⟨rus, hrw, hRows⟩ := J5.rows
                refine ⟨t, _, rfl, .inl (.inl (sj _ _ ht)), rfl, _, _, rfl, _, _, rfl, rfl, rfl, _, rfl, _, rfl, rw, q, rus, ntOf fo lv, rfl, hrw, hRows, okN.len, fun G6 s6 => ⟨_, s6 _ _ hL, small1000 (by rw [List.length_map, List.length_map, List.length_take]; omega), smOver nL2 (sj.trans s6), ?_⟩⟩
                rw [upd_same, List.take_add_one, hq, List.map_append, List.map_append]
                rfl
              rintro G4 ⟨sj, hL4⟩
              rw [usl, List.take_length] at hL4
              refine ⟨L2, _, rfl, .inl (.inl hL4), (S.rd : Int), _, rfl, rfl, ?_⟩
              have J4 := J3.same sj
              have hd4 := sj _ _ hd5
              -- the news, told
              refine ⟨_, rfl, X.p, X.dx, _, rfl, J4.st.ins, rfl, F, _, gJ, X, S, 4, rfl, J4.st, AGJ, ⟨hs4, by decide⟩, fun ys2 us2 r2 yp2 ysr2 nr2 X' G5 ep A' K' T' hr2 hU2 => ?_⟩
              obtain ⟨Yp, Ydx, Yfr, Ymk, Yst⟩ := X'
              have ep : Yp = X.p := ep
              subst ep
              have J5 := J4.store A' rfl (fun x z => z.imp (fun y => y) fun y => y.1) K' T' J4.sfo J4.slv
              have eys : ys2 = ys := srt_uniq yp2 yp ysr2 ysr
              subst eys
              rw [← hdl] at hU2
              have d5p : d5 ≠ X.p := neK hd4 J4.st.ins fun z => by cases z
              have hd6 := K' _ _ d5p hd4
              have hU5 : Paired (NewsAt dW G5) us (dl.map fun q => (q, comeL fo S.am q)) := Paired.mapP hU fun _ _ z => newsTK ((tkSame sj).trans T') z
              have eans : (dl.map fun q => (q, ansS (fun a b => a ++ b) S q)) = dl.map fun q => (q, comeL fo S.am q) := List.map_congr_left fun q hq => by
                have hqW : q ∈ S.W := yp.mem_iff.mp (by rw [hdl] at hq; exact (List.mem_filter.mp hq).1)
                rw [ans_come (S := S) J.st.ok (by rw [J.sfo]; exact J.was q hqW), J.sfo]
              rw [eans] at hU2
              refine ⟨_, rfl, .ref r2, .ref d5, rfl, eqS_up (n := 2) (.inr ⟨r2, d5, us2, us, rfl, rfl, .inl ⟨hr2, hd6⟩, by have := Paired.length hU2; rw [List.length_map] at this; omega, newsEq hU2 hU5⟩ : EqS G5 2 (.ref r2) (.ref d5)) (by decide), fun G6 s6 => ⟨true, rfl, ?_⟩⟩
              refine ifF (by decide) ?_
              have J6 := J5.same s6
              refine ⟨_, rfl, X.p, Ydx, _, rfl, J6.st.ins, rfl, _, _, gJ, ⟨X.p, Ydx, Yfr, Ymk, Yst⟩, newsSv S ys2, 4, rfl, J6.st, AGJ, ⟨hs4, by decide⟩, fun ys3 us3 r3 yp3 ysr3 nr3 X2 G7 ep2 A2 K2 T2 hr3 hU3 => ?_⟩
              have J7 := J6.store A2 ep2 (fun x z => z.imp (fun y => y) fun y => y.1) K2 T2 J6.sfo J6.slv
              have e3 : ys3.filter (newsSv S ys2).fl = [] := List.filter_eq_nil_iff.mpr fun x _ => by show ¬ false = true; decide
              rw [e3] at hU3
              have eu3 : us3 = [] := by
                have := Paired.length hU3
                exact List.length_eq_zero_iff.mp this
              subst eu3
              refine ⟨by show 0 ≤ sizeLine; decide, fun L3 nL3 => ?_⟩
              have s8 := smUpd (o := .lst []) nL3
              have hL3 : upd G7 L3 (.lst []) L3 = some (.lst []) := upd_same
              have hr8 := s8 _ _ hr3
              generalize upd G7 L3 (.lst []) = G8 at s8 hL3 hr8 ⊢
              refine ⟨.list [], .lst (.inl (.inl hr8)) .nil, .lst (.inl (.inl hL3)) .nil, rfl, by decide, _, rfl, ?_⟩
              refine ifF (by decide) ?_
              have J8 := J7.same s8
              -- all lists are new ones
              refine ⟨_, rfl, dc, _, rfl, .inl J8.chd, fun L nL => ⟨L, rfl, ⟨_, .inl (.inl upd_same)⟩, ?_⟩⟩
              rw [eW]
              have hLL : upd G8 L (.lst (S.W.map vn)) L = some (.lst (S.W.map vn)) := upd_same
              have J9 := J8.newL nL (o := .lst (S.W.map vn))
              generalize upd G8 L (.lst (S.W.map vn)) = G9 at hLL J9 ⊢
              have e4 : V.int ((S.rd : Int) + (dl.map fun q => ((((ntOf fo lv).filter fun e => decide (q ∈ e.2.2)).length : Nat) : Int)).sum) = vn (newsSv (newsSv S ys2) ys3).rd := by
                rw [natSumInt (f := fun q => ((ntOf fo lv).filter fun e => decide (q ∈ e.2.2)).length), vnAdd]
                show vn _ = vn ((newsSv S ys2).rd + ((ys3.filter (newsSv S ys2).fl).map fun q => (readsN (ntOf S.fo S.lv) q).length).sum)
                rw [e3]
                show vn _ = vn ((S.rd + ((ys2.filter S.fl).map fun q => (readsN (ntOf S.fo S.lv) q).length).sum) + 0)
                rw [Nat.add_zero, ← hdl, J.sfo, J.slv]
                congr 3
                refine List.map_congr_left fun q _ => ?_
                unfold readsN
                rw [List.length_map]
              refine for_it (walk_list (xs := S.W.map vn)) (fun k σ G => ∃ (cl2 : Nat → Addr) (chs2 : Nat → List Nat) (t14 : Option V), σ = [some (.ref a), some (.ref p), some (.ref r), some (.ref l), some (.ref m), some (.ref da), some (.ref rw), some (.ref X2.p), some (.ref dc), some (vn S.tc), some (vn (newsSv (newsSv S ys2) ys3).rd), some (.int (i : Int)), some (.int kd), t13, t14, t15, t16, some (.ref d5), t18, none, none] ∧ G L = some (.lst (S.W.map vn)) ∧ Iv Zs Zt C fo lv gJ p r da dc rw _ X2 (newsSv (newsSv S ys2) ys3) S.am S.W cl2 chs2 G ∧ (∀ q ∈ S.W.take k, chs2 q = []) ∧ ∀ q, (chs2 q).length ≤ 60 * i)
                ⟨cl, chs, _, by rw [ep2, ← e4]; rfl, hLL, J9, fun q hq => (by rw [List.take_zero] at hq; cases hq), hch⟩ (fun k σ G _ z => by obtain ⟨_, _, _, _, y, _⟩ := z; exact .inl (.inl y)) ?_ ?_
              · rintro k x σ G2 G3 hk ⟨cl2, chs2, t14, rfl, hLk, JK, hz, hc2⟩ ⟨rfl, hx⟩
                obtain ⟨q, hq, rfl⟩ := vn_get hx
                have hqW := List.mem_of_getElem? hq
                refine ⟨by show 0 ≤ sizeLine; decide, fun L4 nL4 => ?_⟩
                have hdc : upd G3 L4 (.lst []) dc = some (.dK (kvC S.W cl2)) := smUpd nL4 _ _ JK.chd
                refine ⟨_, rfl, _, rfl, dc, _, rfl, DPut.k (k := .inl (q : Int)) hdc (by rw [kvC_len]; exact bigLine (by omega)), ?_⟩
                have JP := JK.put nL4 (q := q) (W' := S.W) (kvC_set hqW) (fun i hi _ => hi) J.nd J.was
                refine ⟨_, _, _, rfl, by rw [upd_ne (neK hLk JK.chd fun z => by cases z)]; exact smUpd nL4 _ _ hLk, JP, fun x hx => ?_, fun x => ?_⟩
                · show (if x = q then [] else chs2 x) = []
                  by_cases c : x = q
                  · rw [if_pos c]
                  · rw [if_neg c]
                    rw [List.take_add_one, hq] at hx
                    exact hz x ((List.mem_append.mp hx).elim (fun y => y) fun y => absurd (List.mem_singleton.mp y) c)
                · show (if x = q then [] else chs2 x).length ≤ _
                  by_cases c : x = q
                  · rw [if_pos c]; exact Nat.zero_le _
                  · rw [if_neg c]; exact hc2 x
              · rintro σ G2 ⟨cl2, chs2, t14, rfl, hLk, JK, hz, hc2⟩
                rw [List.length_map, List.take_length] at hz
                exact ⟨_, X2, newsSv (newsSv S ys2) ys3, cl2, chs2, _, _, _, _, _, _, _, _, rfl, JK, fun q hq => by rw [hz q hq]; rfl, fun q => by have := hc2 q; omega, hs4⟩
            · exact ⟨F, X, S, cl, chs, _, _, _, _, _, _, _, _, rfl, J1, hfl, fun q => by have := hch q; omega, hs4⟩
      · rintro σ G2 ⟨F, X, S, cl, chs, t11, t12, t13, t14, t15, t16, t17, t18, rfl, J, hfl, hch, hs4⟩
        have w60 : S.W.length ≤ 60 := J.st.w60
        have eW : (kvC S.W cl).map (fun kv => kV kv.1) = S.W.map vn := by unfold kvC; rw [List.map_map]; rfl
        refine ⟨_, rfl, X.p, X.dx, _, rfl, J.st.ins, rfl, F, _, gJ, X, S, rfl, J.st, _, rfl, X.p, X.dx, _, rfl, J.st.ins, rfl, F, _, gJ, X, S, rfl, J.st, _, rfl, X.p, X.dx, _, rfl, J.st.ins, rfl, F, _, gJ, X, S, rfl, J.st, fun ys r1 G3 s3 yp ysr hr1 => ⟨by show 3 ≤ sizeLine; decide, fun L nL => ?_⟩⟩
        have s4 := smUpd (o := .lst [vn S.tc, vn S.rd, .ref r1]) nL
        have hL : upd G3 L (.lst [vn S.tc, vn S.rd, .ref r1]) L = some (.lst [vn S.tc, vn S.rd, .ref r1]) := upd_same
        have hr4 := s4 _ _ hr1
        generalize upd G3 L (.lst [vn S.tc, vn S.rd, .ref r1]) = G4 at s4 hL hr4 ⊢
        have s24 := s3.trans s4
        refine ⟨_, rfl, _, rfl, _, rfl, _, rfl, dc, _, rfl, .inl (s24 _ _ J.chd), fun L2 nL2 => ?_⟩
        rw [eW]
        have s5 := smUpd (o := .lst (S.W.map vn)) nL2
        have hL2 : upd G4 L2 (.lst (S.W.map vn)) L2 = some (.lst (S.W.map vn)) := upd_same
        generalize upd G4 L2 (.lst (S.W.map vn)) = G5 at s5 hL2 ⊢
        refine ⟨L2, S.W.map (fun (n : Nat) => (n : Int)), rfl, .inl (.inl (by rw [hL2, List.map_map]; rfl)), by rw [List.length_map]; omega, fun ns' L3 hp hs nL3 => ?_⟩
        obtain ⟨zs, rfl, zp, zsr⟩ := natPerm hp hs
        have ez : zs = ys := srt_uniq zp yp zsr ysr
        subst ez
        have e3 : (zs.map fun (n : Nat) => (n : Int)).map V.int = zs.map vn := by rw [List.map_map]; rfl
        rw [e3]
        have s6 := smUpd (o := .lst (zs.map vn)) nL3
        have hL3 : upd G5 L3 (.lst (zs.map vn)) L3 = some (.lst (zs.map vn)) := upd_same
        generalize upd G5 L3 (.lst (zs.map vn)) = G6 at s6 hL3 ⊢
        refine ⟨L3, _, rfl, .inl ⟨.inl (.inl hL3), fun r2 nr2 => ⟨by show 3 ≤ sizeLine; decide, fun L4 nL4 => ?_⟩⟩⟩
        have s7 := smUpd (o := .tup (zs.map vn)) nr2
        have hr7 : upd G6 r2 (.tup (zs.map vn)) r2 = some (.tup (zs.map vn)) := upd_same
        generalize upd G6 r2 (.tup (zs.map vn)) = G7 at s7 hr7 nL4 ⊢
        have s8 := smUpd (o := .lst [vn S.tc, vn S.rd, .ref r2]) nL4
        have hL4 : upd G7 L4 (.lst [vn S.tc, vn S.rd, .ref r2]) L4 = some (.lst [vn S.tc, vn S.rd, .ref r2]) := upd_same
        have hr8 := s8 _ _ hr7
        generalize upd G7 L4 (.lst [vn S.tc, vn S.rd, .ref r2]) = G8 at s8 hL4 hr8 ⊢
        have s48 := s5.trans (s6.trans (s7.trans s8))
        have z60 : zs.length ≤ 60 := by rw [zp.length_eq]; exact w60
        refine ⟨.ref L, .ref L4, rfl, eqS_up (n := 2) (.inr ⟨L, L4, _, _, rfl, rfl, .inl ⟨s48 _ _ hL, hL4⟩, by show 3 ≤ 4000; decide, .cons (eqS_up eqSInt (by decide)) (.cons (eqS_up eqSInt (by decide)) (.cons (eqSN (s48 _ _ hr4) hr8 (by omega)) .nil))⟩ : EqS G8 2 (.ref L) (.ref L4)) (by decide), fun G9 s9 => ⟨true, rfl, ?_⟩⟩
        refine ifF (by decide) ?_
        exact ⟨F, X, S, cl, chs, _, _, _, _, _, _, _, _, rfl, J.same (s24.trans (s48.trans s9)), hfl, hch, hs4⟩
    · rintro σ G _
      exact k G
end
end Cn
namespace Cn
open PySem PySem.Spec PyProof.Rows L2 Ck
/-- all the facts of the top, and the law's own promise -/
theorem all_mk {P : Program} {w : World} {K : PySem.W.Frag} {h : Heap} {mg : Str → Option Value} {fa C : Addr} {tm tmMOST_CHANGES : Tok} (X : K.In h) (G : h.Ns mainGlobals mg) (hfa : mg "law" = some (.ref fa))
    {fd0 : Addr} {ocd0 kVd0 dcd0 pmd0 cdd0 ctd0 : Value} {odd0 and0 : Option Addr} {sld0 : Array (Option Value)}
    {fd1 : Addr} {ocd1 kVd1 dcd1 pmd1 cdd1 ctd1 : Value} {odd1 and1 : Option Addr} {sld1 : Array (Option Value)}
    {fd2 : Addr} {ocd2 kVd2 dcd2 pmd2 cdd2 ctd2 : Value} {odd2 and2 : Option Addr} {sld2 : Array (Option Value)}
    {fd3 : Addr} {ocd3 kVd3 dcd3 pmd3 cdd3 ctd3 : Value} {odd3 and3 : Option Addr} {sld3 : Array (Option Value)}
    {fd4 : Addr} {ocd4 kVd4 dcd4 pmd4 cdd4 ctd4 : Value} {odd4 and4 : Option Addr} {sld4 : Array (Option Value)}
    {fd5 : Addr} {ocd5 kVd5 dcd5 pmd5 cdd5 ctd5 : Value} {odd5 and5 : Option Addr} {sld5 : Array (Option Value)}
    {fd6 : Addr} {ocd6 kVd6 dcd6 pmd6 cdd6 ctd6 : Value} {odd6 and6 : Option Addr} {sld6 : Array (Option Value)}
    {fd7 : Addr} {ocd7 kVd7 dcd7 pmd7 cdd7 ctd7 : Value} {odd7 and7 : Option Addr} {sld7 : Array (Option Value)}
    {fd8 : Addr} {ocd8 kVd8 dcd8 pmd8 cdd8 ctd8 : Value} {odd8 and8 : Option Addr} {sld8 : Array (Option Value)}
    {fd9 : Addr} {ocd9 kVd9 dcd9 pmd9 cdd9 ctd9 : Value} {odd9 and9 : Option Addr} {sld9 : Array (Option Value)}
    {fd10 : Addr} {ocd10 kVd10 dcd10 pmd10 cdd10 ctd10 : Value} {odd10 and10 : Option Addr} {sld10 : Array (Option Value)}
    {fd11 : Addr} {ocd11 kVd11 dcd11 pmd11 cdd11 ctd11 : Value} {odd11 and11 : Option Addr} {sld11 : Array (Option Value)}
    {fd12 : Addr} {ocd12 kVd12 dcd12 pmd12 cdd12 ctd12 : Value} {odd12 and12 : Option Addr} {sld12 : Array (Option Value)}
    {fd13 : Addr} {ocd13 kVd13 dcd13 pmd13 cdd13 ctd13 : Value} {odd13 and13 : Option Addr} {sld13 : Array (Option Value)}
    {fd14 : Addr} {ocd14 kVd14 dcd14 pmd14 cdd14 ctd14 : Value} {odd14 and14 : Option Addr} {sld14 : Array (Option Value)}
    {fd15 : Addr} {ocd15 kVd15 dcd15 pmd15 cdd15 ctd15 : Value} {odd15 and15 : Option Addr} {sld15 : Array (Option Value)}
    {fd16 : Addr} {ocd16 kVd16 dcd16 pmd16 cdd16 ctd16 : Value} {odd16 and16 : Option Addr} {sld16 : Array (Option Value)}
    {fd17 : Addr} {ocd17 kVd17 dcd17 pmd17 cdd17 ctd17 : Value} {odd17 and17 : Option Addr} {sld17 : Array (Option Value)}
    {fd18 : Addr} {ocd18 kVd18 dcd18 pmd18 cdd18 ctd18 : Value} {odd18 and18 : Option Addr} {sld18 : Array (Option Value)}
    {fd19 : Addr} {ocd19 kVd19 dcd19 pmd19 cdd19 ctd19 : Value} {odd19 and19 : Option Addr} {sld19 : Array (Option Value)}
    {fd20 : Addr} {ocd20 kVd20 dcd20 pmd20 cdd20 ctd20 : Value} {odd20 and20 : Option Addr} {sld20 : Array (Option Value)}
    {fd21 : Addr} {ocd21 kVd21 dcd21 pmd21 cdd21 ctd21 : Value} {odd21 and21 : Option Addr} {sld21 : Array (Option Value)}
    {fd22 : Addr} {ocd22 kVd22 dcd22 pmd22 cdd22 ctd22 : Value} {odd22 and22 : Option Addr} {sld22 : Array (Option Value)}
    {fd23 : Addr} {ocd23 kVd23 dcd23 pmd23 cdd23 ctd23 : Value} {odd23 and23 : Option Addr} {sld23 : Array (Option Value)}
    {fd24 : Addr} {ocd24 kVd24 dcd24 pmd24 cdd24 ctd24 : Value} {odd24 and24 : Option Addr} {sld24 : Array (Option Value)}
    {fd25 : Addr} {ocd25 kVd25 dcd25 pmd25 cdd25 ctd25 : Value} {odd25 and25 : Option Addr} {sld25 : Array (Option Value)}
    {fd26 : Addr} {ocd26 kVd26 dcd26 pmd26 cdd26 ctd26 : Value} {odd26 and26 : Option Addr} {sld26 : Array (Option Value)}
    {fd27 : Addr} {ocd27 kVd27 dcd27 pmd27 cdd27 ctd27 : Value} {odd27 and27 : Option Addr} {sld27 : Array (Option Value)}
    {fd28 : Addr} {ocd28 kVd28 dcd28 pmd28 cdd28 ctd28 : Value} {odd28 and28 : Option Addr} {sld28 : Array (Option Value)}
    {fd29 : Addr} {ocd29 kVd29 dcd29 pmd29 cdd29 ctd29 : Value} {odd29 and29 : Option Addr} {sld29 : Array (Option Value)}
    {fd30 : Addr} {ocd30 kVd30 dcd30 pmd30 cdd30 ctd30 : Value} {odd30 and30 : Option Addr} {sld30 : Array (Option Value)}
    {fd31 : Addr} {ocd31 kVd31 dcd31 pmd31 cdd31 ctd31 : Value} {odd31 and31 : Option Addr} {sld31 : Array (Option Value)}
    {fd32 : Addr} {ocd32 kVd32 dcd32 pmd32 cdd32 ctd32 : Value} {odd32 and32 : Option Addr} {sld32 : Array (Option Value)}
    {fd33 : Addr} {ocd33 kVd33 dcd33 pmd33 cdd33 ctd33 : Value} {odd33 and33 : Option Addr} {sld33 : Array (Option Value)}
    {fd34 : Addr} {ocd34 kVd34 dcd34 pmd34 cdd34 ctd34 : Value} {odd34 and34 : Option Addr} {sld34 : Array (Option Value)}
    {fd35 : Addr} {ocd35 kVd35 dcd35 pmd35 cdd35 ctd35 : Value} {odd35 and35 : Option Addr} {sld35 : Array (Option Value)}
    {fd36 : Addr} {ocd36 kVd36 dcd36 pmd36 cdd36 ctd36 : Value} {odd36 and36 : Option Addr} {sld36 : Array (Option Value)}
    {fd37 : Addr} {ocd37 kVd37 dcd37 pmd37 cdd37 ctd37 : Value} {odd37 and37 : Option Addr} {sld37 : Array (Option Value)}
    {fd38 : Addr} {ocd38 kVd38 dcd38 pmd38 cdd38 ctd38 : Value} {odd38 and38 : Option Addr} {sld38 : Array (Option Value)}
    {fd39 : Addr} {ocd39 kVd39 dcd39 pmd39 cdd39 ctd39 : Value} {odd39 and39 : Option Addr} {sld39 : Array (Option Value)}
    {fd40 : Addr} {ocd40 kVd40 dcd40 pmd40 cdd40 ctd40 : Value} {odd40 and40 : Option Addr} {sld40 : Array (Option Value)}
    {fd41 : Addr} {ocd41 kVd41 dcd41 pmd41 cdd41 ctd41 : Value} {odd41 and41 : Option Addr} {sld41 : Array (Option Value)}
    {fd42 : Addr} {ocd42 kVd42 dcd42 pmd42 cdd42 ctd42 : Value} {odd42 and42 : Option Addr} {sld42 : Array (Option Value)}
    {fW : Addr} {ocW kVW dcW pmW cdW ctW : Value} {odW anW : Option Addr} {slW : Array (Option Value)}
    {fN : Addr} {ocN kVN dcN pmN cdN ctN : Value} {odN anN : Option Addr} {slN : Array (Option Value)}
    {fTa0 : Addr} {ocTa0 kVTa0 dcTa0 pmTa0 cdTa0 ctTa0 : Value} {odTa0 anTa0 : Option Addr} {slTa0 : Array (Option Value)}
    {fTa1 : Addr} {ocTa1 kVTa1 dcTa1 pmTa1 cdTa1 ctTa1 : Value} {odTa1 anTa1 : Option Addr} {slTa1 : Array (Option Value)}
    {fTa2 : Addr} {ocTa2 kVTa2 dcTa2 pmTa2 cdTa2 ctTa2 : Value} {odTa2 anTa2 : Option Addr} {slTa2 : Array (Option Value)}
    {fSo0 : Addr} {ocSo0 kVSo0 dcSo0 pmSo0 cdSo0 ctSo0 : Value} {odSo0 anSo0 : Option Addr} {slSo0 : Array (Option Value)}
    {fSo1 : Addr} {ocSo1 kVSo1 dcSo1 pmSo1 cdSo1 ctSo1 : Value} {odSo1 anSo1 : Option Addr} {slSo1 : Array (Option Value)}
    {fSo2 : Addr} {ocSo2 kVSo2 dcSo2 pmSo2 cdSo2 ctSo2 : Value} {odSo2 anSo2 : Option Addr} {slSo2 : Array (Option Value)}
    {fSo3 : Addr} {ocSo3 kVSo3 dcSo3 pmSo3 cdSo3 ctSo3 : Value} {odSo3 anSo3 : Option Addr} {slSo3 : Array (Option Value)}
    {fSo4 : Addr} {ocSo4 kVSo4 dcSo4 pmSo4 cdSo4 ctSo4 : Value} {odSo4 anSo4 : Option Addr} {slSo4 : Array (Option Value)}
    {fSo5 : Addr} {ocSo5 kVSo5 dcSo5 pmSo5 cdSo5 ctSo5 : Value} {odSo5 anSo5 : Option Addr} {slSo5 : Array (Option Value)}
    {fSo6 : Addr} {ocSo6 kVSo6 dcSo6 pmSo6 cdSo6 ctSo6 : Value} {odSo6 anSo6 : Option Addr} {slSo6 : Array (Option Value)}
    {fSo7 : Addr} {ocSo7 kVSo7 dcSo7 pmSo7 cdSo7 ctSo7 : Value} {odSo7 anSo7 : Option Addr} {slSo7 : Array (Option Value)}
    {fSo8 : Addr} {ocSo8 kVSo8 dcSo8 pmSo8 cdSo8 ctSo8 : Value} {odSo8 anSo8 : Option Addr} {slSo8 : Array (Option Value)}
    {fSo9 : Addr} {ocSo9 kVSo9 dcSo9 pmSo9 cdSo9 ctSo9 : Value} {odSo9 anSo9 : Option Addr} {slSo9 : Array (Option Value)}
    {fSo10 : Addr} {ocSo10 kVSo10 dcSo10 pmSo10 cdSo10 ctSo10 : Value} {odSo10 anSo10 : Option Addr} {slSo10 : Array (Option Value)}
    {fSo11 : Addr} {ocSo11 kVSo11 dcSo11 pmSo11 cdSo11 ctSo11 : Value} {odSo11 anSo11 : Option Addr} {slSo11 : Array (Option Value)}
    {fSo12 : Addr} {ocSo12 kVSo12 dcSo12 pmSo12 cdSo12 ctSo12 : Value} {odSo12 anSo12 : Option Addr} {slSo12 : Array (Option Value)}
    {fSo13 : Addr} {ocSo13 kVSo13 dcSo13 pmSo13 cdSo13 ctSo13 : Value} {odSo13 anSo13 : Option Addr} {slSo13 : Array (Option Value)}
    {fSo14 : Addr} {ocSo14 kVSo14 dcSo14 pmSo14 cdSo14 ctSo14 : Value} {odSo14 anSo14 : Option Addr} {slSo14 : Array (Option Value)}
    {fSo15 : Addr} {ocSo15 kVSo15 dcSo15 pmSo15 cdSo15 ctSo15 : Value} {odSo15 anSo15 : Option Addr} {slSo15 : Array (Option Value)}
    {fSo16 : Addr} {ocSo16 kVSo16 dcSo16 pmSo16 cdSo16 ctSo16 : Value} {odSo16 anSo16 : Option Addr} {slSo16 : Array (Option Value)}
    {fSo17 : Addr} {ocSo17 kVSo17 dcSo17 pmSo17 cdSo17 ctSo17 : Value} {odSo17 anSo17 : Option Addr} {slSo17 : Array (Option Value)}
    {fSo18 : Addr} {ocSo18 kVSo18 dcSo18 pmSo18 cdSo18 ctSo18 : Value} {odSo18 anSo18 : Option Addr} {slSo18 : Array (Option Value)}
    {fSo19 : Addr} {ocSo19 kVSo19 dcSo19 pmSo19 cdSo19 ctSo19 : Value} {odSo19 anSo19 : Option Addr} {slSo19 : Array (Option Value)}
    {fSo20 : Addr} {ocSo20 kVSo20 dcSo20 pmSo20 cdSo20 ctSo20 : Value} {odSo20 anSo20 : Option Addr} {slSo20 : Array (Option Value)}
    {fSo21 : Addr} {ocSo21 kVSo21 dcSo21 pmSo21 cdSo21 ctSo21 : Value} {odSo21 anSo21 : Option Addr} {slSo21 : Array (Option Value)}
    {fSo22 : Addr} {ocSo22 kVSo22 dcSo22 pmSo22 cdSo22 ctSo22 : Value} {odSo22 anSo22 : Option Addr} {slSo22 : Array (Option Value)}
    {fSo23 : Addr} {ocSo23 kVSo23 dcSo23 pmSo23 cdSo23 ctSo23 : Value} {odSo23 anSo23 : Option Addr} {slSo23 : Array (Option Value)}
    {fSo24 : Addr} {ocSo24 kVSo24 dcSo24 pmSo24 cdSo24 ctSo24 : Value} {odSo24 anSo24 : Option Addr} {slSo24 : Array (Option Value)}
    {fSo25 : Addr} {ocSo25 kVSo25 dcSo25 pmSo25 cdSo25 ctSo25 : Value} {odSo25 anSo25 : Option Addr} {slSo25 : Array (Option Value)}
    {fSo26 : Addr} {ocSo26 kVSo26 dcSo26 pmSo26 cdSo26 ctSo26 : Value} {odSo26 anSo26 : Option Addr} {slSo26 : Array (Option Value)}
    {fSo27 : Addr} {ocSo27 kVSo27 dcSo27 pmSo27 cdSo27 ctSo27 : Value} {odSo27 anSo27 : Option Addr} {slSo27 : Array (Option Value)}
    (aC : PySem.W.nsIn K mainGlobals "Forest" = some (some (.ref C))) (pg : PySem.W.plainGet K C Str.empty = true) (hd : PySem.W.hasDictIn K C = true) (po : PySem.W.plainOver K C = true) (sa : PySem.W.findIn K (.ref C) "__setattr__" = some (some (.builtin "object.__setattr__")))
    (mk : PySem.W.makesIn K C = true) (kc : PySem.W.keepIn K (.ref C) = true) (nP : PySem.W.findIn K (.ref C) "parents" = some none) (nB : PySem.W.findIn K (.ref C) "bearing" = some none) (nA : PySem.W.findIn K (.ref C) "asking" = some none)
    (mM : PySem.W.nsIn K mainGlobals "MOST_PLACES" = some (some (.int 60 tm))) (mMOST_CHANGES : PySem.W.nsIn K mainGlobals "MOST_CHANGES" = some (some (.int 60 tmMOST_CHANGES)))
    (aN : PySem.W.findIn K (.ref C) "__init__" = some (some (.ref fN))) (iN : PySem.W.isFn K (.ref fN) = true) (lN : K.lookup fN = some ⟨ocN, odN, .func (PySem.W.fnOf "__init__" "Forest.__init__" (defArgs sInit) (defBody sInit) (defScope sInit) .none kVN dcN pmN anN cdN ctN), slN⟩) (oN : PySem.W.codeIn K cdN "Forest.__init__" = true) (kN : PySem.W.keepIn K (.ref fN) = true)
    {ZTa : Addr} (aCTa : PySem.W.nsIn K mainGlobals "State" = some (some (.ref ZTa))) (pgTa : PySem.W.plainGet K ZTa Str.empty = true) (hdTa : PySem.W.hasDictIn K ZTa = true) (poTa : PySem.W.plainOver K ZTa = true) (saTa : PySem.W.findIn K (.ref ZTa) "__setattr__" = some (some (.builtin "object.__setattr__"))) (mkTa : PySem.W.makesIn K ZTa = true) (kcTa : PySem.W.keepIn K (.ref ZTa) = true)
    (nTa_hierarchy : PySem.W.findIn K (.ref ZTa) "hierarchy" = some none)
    (nTa_levels : PySem.W.findIn K (.ref ZTa) "levels" = some none)
    (nTa_amounts : PySem.W.findIn K (.ref ZTa) "amounts" = some none)
    (nTa_notes : PySem.W.findIn K (.ref ZTa) "notes" = some none)
    (nTa_made : PySem.W.findIn K (.ref ZTa) "made" = some none)
    (aTa0 : PySem.W.findIn K (.ref ZTa) "__init__" = some (some (.ref fTa0))) (iTa0 : PySem.W.isFn K (.ref fTa0) = true) (lTa0 : K.lookup fTa0 = some ⟨ocTa0, odTa0, .func (PySem.W.fnOf "__init__" "State.__init__" (defArgs sTa_init) (defBody sTa_init) (defScope sTa_init) .none kVTa0 dcTa0 pmTa0 anTa0 cdTa0 ctTa0), slTa0⟩) (oTa0 : PySem.W.codeIn K cdTa0 "State.__init__" = true) (kTa0 : PySem.W.keepIn K (.ref fTa0) = true)
    (aTa1 : PySem.W.findIn K (.ref ZTa) "answer" = some (some (.ref fTa1))) (iTa1 : PySem.W.isFn K (.ref fTa1) = true) (lTa1 : K.lookup fTa1 = some ⟨ocTa1, odTa1, .func (PySem.W.fnOf "answer" "State.answer" (defArgs sTa_answer) (defBody sTa_answer) (defScope sTa_answer) .none kVTa1 dcTa1 pmTa1 anTa1 cdTa1 ctTa1), slTa1⟩) (oTa1 : PySem.W.codeIn K cdTa1 "State.answer" = true) (kTa1 : PySem.W.keepIn K (.ref fTa1) = true)
    (aTa2 : PySem.W.findIn K (.ref ZTa) "versions" = some (some (.ref fTa2))) (iTa2 : PySem.W.isFn K (.ref fTa2) = true) (lTa2 : K.lookup fTa2 = some ⟨ocTa2, odTa2, .func (PySem.W.fnOf "versions" "State.versions" (defArgs sTa_versions) (defBody sTa_versions) (defScope sTa_versions) .none kVTa2 dcTa2 pmTa2 anTa2 cdTa2 ctTa2), slTa2⟩) (oTa2 : PySem.W.codeIn K cdTa2 "State.versions" = true) (kTa2 : PySem.W.keepIn K (.ref fTa2) = true)
    {ZSo : Addr} (aCSo : PySem.W.nsIn K mainGlobals "Store" = some (some (.ref ZSo))) (pgSo : PySem.W.plainGet K ZSo Str.empty = true) (hdSo : PySem.W.hasDictIn K ZSo = true) (poSo : PySem.W.plainOver K ZSo = true) (saSo : PySem.W.findIn K (.ref ZSo) "__setattr__" = some (some (.builtin "object.__setattr__"))) (mkSo : PySem.W.makesIn K ZSo = true) (kcSo : PySem.W.keepIn K (.ref ZSo) = true)
    (nSo__adding : PySem.W.findIn K (.ref ZSo) "_adding" = some none)
    (nSo__state : PySem.W.findIn K (.ref ZSo) "_state" = some none)
    (nSo__time : PySem.W.findIn K (.ref ZSo) "_time" = some none)
    (nSo__touches : PySem.W.findIn K (.ref ZSo) "_touches" = some none)
    (nSo__reads : PySem.W.findIn K (.ref ZSo) "_reads" = some none)
    (nSo__fresh : PySem.W.findIn K (.ref ZSo) "_fresh" = some none)
    (nSo__marked : PySem.W.findIn K (.ref ZSo) "_marked" = some none)
    (nSo__next_mark : PySem.W.findIn K (.ref ZSo) "_next_mark" = some none)
    (aSo0 : PySem.W.findIn K (.ref ZSo) "__init__" = some (some (.ref fSo0))) (iSo0 : PySem.W.isFn K (.ref fSo0) = true) (lSo0 : K.lookup fSo0 = some ⟨ocSo0, odSo0, .func (PySem.W.fnOf "__init__" "Store.__init__" (defArgs sSo_init) (defBody sSo_init) (defScope sSo_init) .none kVSo0 dcSo0 pmSo0 anSo0 cdSo0 ctSo0), slSo0⟩) (oSo0 : PySem.W.codeIn K cdSo0 "Store.__init__" = true) (kSo0 : PySem.W.keepIn K (.ref fSo0) = true)
    (aSo1 : PySem.W.findIn K (.ref ZSo) "change" = some (some (.ref fSo1))) (iSo1 : PySem.W.isFn K (.ref fSo1) = true) (lSo1 : K.lookup fSo1 = some ⟨ocSo1, odSo1, .func (PySem.W.fnOf "change" "Store.change" (defArgs sSo_change) (defBody sSo_change) (defScope sSo_change) .none kVSo1 dcSo1 pmSo1 anSo1 cdSo1 ctSo1), slSo1⟩) (oSo1 : PySem.W.codeIn K cdSo1 "Store.change" = true) (kSo1 : PySem.W.keepIn K (.ref fSo1) = true)
    (aSo2 : PySem.W.findIn K (.ref ZSo) "change_all" = some (some (.ref fSo2))) (iSo2 : PySem.W.isFn K (.ref fSo2) = true) (lSo2 : K.lookup fSo2 = some ⟨ocSo2, odSo2, .func (PySem.W.fnOf "change_all" "Store.change_all" (defArgs sSo_change_all) (defBody sSo_change_all) (defScope sSo_change_all) .none kVSo2 dcSo2 pmSo2 anSo2 cdSo2 ctSo2), slSo2⟩) (oSo2 : PySem.W.codeIn K cdSo2 "Store.change_all" = true) (kSo2 : PySem.W.keepIn K (.ref fSo2) = true)
    (aSo3 : PySem.W.findIn K (.ref ZSo) "_change" = some (some (.ref fSo3))) (iSo3 : PySem.W.isFn K (.ref fSo3) = true) (lSo3 : K.lookup fSo3 = some ⟨ocSo3, odSo3, .func (PySem.W.fnOf "_change" "Store._change" (defArgs sSo__change) (defBody sSo__change) (defScope sSo__change) .none kVSo3 dcSo3 pmSo3 anSo3 cdSo3 ctSo3), slSo3⟩) (oSo3 : PySem.W.codeIn K cdSo3 "Store._change" = true) (kSo3 : PySem.W.keepIn K (.ref fSo3) = true)
    (aSo4 : PySem.W.findIn K (.ref ZSo) "ask" = some (some (.ref fSo4))) (iSo4 : PySem.W.isFn K (.ref fSo4) = true) (lSo4 : K.lookup fSo4 = some ⟨ocSo4, odSo4, .func (PySem.W.fnOf "ask" "Store.ask" (defArgs sSo_ask) (defBody sSo_ask) (defScope sSo_ask) .none kVSo4 dcSo4 pmSo4 anSo4 cdSo4 ctSo4), slSo4⟩) (oSo4 : PySem.W.codeIn K cdSo4 "Store.ask" = true) (kSo4 : PySem.W.keepIn K (.ref fSo4) = true)
    (aSo5 : PySem.W.findIn K (.ref ZSo) "amount" = some (some (.ref fSo5))) (iSo5 : PySem.W.isFn K (.ref fSo5) = true) (lSo5 : K.lookup fSo5 = some ⟨ocSo5, odSo5, .func (PySem.W.fnOf "amount" "Store.amount" (defArgs sSo_amount) (defBody sSo_amount) (defScope sSo_amount) .none kVSo5 dcSo5 pmSo5 anSo5 cdSo5 ctSo5), slSo5⟩) (oSo5 : PySem.W.codeIn K cdSo5 "Store.amount" = true) (kSo5 : PySem.W.keepIn K (.ref fSo5) = true)
    (aSo6 : PySem.W.findIn K (.ref ZSo) "kept" = some (some (.ref fSo6))) (iSo6 : PySem.W.isFn K (.ref fSo6) = true) (lSo6 : K.lookup fSo6 = some ⟨ocSo6, odSo6, .func (PySem.W.fnOf "kept" "Store.kept" (defArgs sSo_kept) (defBody sSo_kept) (defScope sSo_kept) .none kVSo6 dcSo6 pmSo6 anSo6 cdSo6 ctSo6), slSo6⟩) (oSo6 : PySem.W.codeIn K cdSo6 "Store.kept" = true) (kSo6 : PySem.W.keepIn K (.ref fSo6) = true)
    (aSo7 : PySem.W.findIn K (.ref ZSo) "touched" = some (some (.ref fSo7))) (iSo7 : PySem.W.isFn K (.ref fSo7) = true) (lSo7 : K.lookup fSo7 = some ⟨ocSo7, odSo7, .func (PySem.W.fnOf "touched" "Store.touched" (defArgs sSo_touched) (defBody sSo_touched) (defScope sSo_touched) .none kVSo7 dcSo7 pmSo7 anSo7 cdSo7 ctSo7), slSo7⟩) (oSo7 : PySem.W.codeIn K cdSo7 "Store.touched" = true) (kSo7 : PySem.W.keepIn K (.ref fSo7) = true)
    (aSo8 : PySem.W.findIn K (.ref ZSo) "asked" = some (some (.ref fSo8))) (iSo8 : PySem.W.isFn K (.ref fSo8) = true) (lSo8 : K.lookup fSo8 = some ⟨ocSo8, odSo8, .func (PySem.W.fnOf "asked" "Store.asked" (defArgs sSo_asked) (defBody sSo_asked) (defScope sSo_asked) .none kVSo8 dcSo8 pmSo8 anSo8 cdSo8 ctSo8), slSo8⟩) (oSo8 : PySem.W.codeIn K cdSo8 "Store.asked" = true) (kSo8 : PySem.W.keepIn K (.ref fSo8) = true)
    (aSo9 : PySem.W.findIn K (.ref ZSo) "watch" = some (some (.ref fSo9))) (iSo9 : PySem.W.isFn K (.ref fSo9) = true) (lSo9 : K.lookup fSo9 = some ⟨ocSo9, odSo9, .func (PySem.W.fnOf "watch" "Store.watch" (defArgs sSo_watch) (defBody sSo_watch) (defScope sSo_watch) .none kVSo9 dcSo9 pmSo9 anSo9 cdSo9 ctSo9), slSo9⟩) (oSo9 : PySem.W.codeIn K cdSo9 "Store.watch" = true) (kSo9 : PySem.W.keepIn K (.ref fSo9) = true)
    (aSo10 : PySem.W.findIn K (.ref ZSo) "unwatch" = some (some (.ref fSo10))) (iSo10 : PySem.W.isFn K (.ref fSo10) = true) (lSo10 : K.lookup fSo10 = some ⟨ocSo10, odSo10, .func (PySem.W.fnOf "unwatch" "Store.unwatch" (defArgs sSo_unwatch) (defBody sSo_unwatch) (defScope sSo_unwatch) .none kVSo10 dcSo10 pmSo10 anSo10 cdSo10 ctSo10), slSo10⟩) (oSo10 : PySem.W.codeIn K cdSo10 "Store.unwatch" = true) (kSo10 : PySem.W.keepIn K (.ref fSo10) = true)
    (aSo11 : PySem.W.findIn K (.ref ZSo) "watched" = some (some (.ref fSo11))) (iSo11 : PySem.W.isFn K (.ref fSo11) = true) (lSo11 : K.lookup fSo11 = some ⟨ocSo11, odSo11, .func (PySem.W.fnOf "watched" "Store.watched" (defArgs sSo_watched) (defBody sSo_watched) (defScope sSo_watched) .none kVSo11 dcSo11 pmSo11 anSo11 cdSo11 ctSo11), slSo11⟩) (oSo11 : PySem.W.codeIn K cdSo11 "Store.watched" = true) (kSo11 : PySem.W.keepIn K (.ref fSo11) = true)
    (aSo12 : PySem.W.findIn K (.ref ZSo) "news" = some (some (.ref fSo12))) (iSo12 : PySem.W.isFn K (.ref fSo12) = true) (lSo12 : K.lookup fSo12 = some ⟨ocSo12, odSo12, .func (PySem.W.fnOf "news" "Store.news" (defArgs sSo_news) (defBody sSo_news) (defScope sSo_news) .none kVSo12 dcSo12 pmSo12 anSo12 cdSo12 ctSo12), slSo12⟩) (oSo12 : PySem.W.codeIn K cdSo12 "Store.news" = true) (kSo12 : PySem.W.keepIn K (.ref fSo12) = true)
    (aSo13 : PySem.W.findIn K (.ref ZSo) "forest" = some (some (.ref fSo13))) (iSo13 : PySem.W.isFn K (.ref fSo13) = true) (lSo13 : K.lookup fSo13 = some ⟨ocSo13, odSo13, .func (PySem.W.fnOf "forest" "Store.forest" (defArgs sSo_forest) (defBody sSo_forest) (defScope sSo_forest) .none kVSo13 dcSo13 pmSo13 anSo13 cdSo13 ctSo13), slSo13⟩) (oSo13 : PySem.W.codeIn K cdSo13 "Store.forest" = true) (kSo13 : PySem.W.keepIn K (.ref fSo13) = true)
    (aSo14 : PySem.W.findIn K (.ref ZSo) "plan" = some (some (.ref fSo14))) (iSo14 : PySem.W.isFn K (.ref fSo14) = true) (lSo14 : K.lookup fSo14 = some ⟨ocSo14, odSo14, .func (PySem.W.fnOf "plan" "Store.plan" (defArgs sSo_plan) (defBody sSo_plan) (defScope sSo_plan) .none kVSo14 dcSo14 pmSo14 anSo14 cdSo14 ctSo14), slSo14⟩) (oSo14 : PySem.W.codeIn K cdSo14 "Store.plan" = true) (kSo14 : PySem.W.keepIn K (.ref fSo14) = true)
    (aSo15 : PySem.W.findIn K (.ref ZSo) "hang" = some (some (.ref fSo15))) (iSo15 : PySem.W.isFn K (.ref fSo15) = true) (lSo15 : K.lookup fSo15 = some ⟨ocSo15, odSo15, .func (PySem.W.fnOf "hang" "Store.hang" (defArgs sSo_hang) (defBody sSo_hang) (defScope sSo_hang) .none kVSo15 dcSo15 pmSo15 anSo15 cdSo15 ctSo15), slSo15⟩) (oSo15 : PySem.W.codeIn K cdSo15 "Store.hang" = true) (kSo15 : PySem.W.keepIn K (.ref fSo15) = true)
    (aSo16 : PySem.W.findIn K (.ref ZSo) "turn" = some (some (.ref fSo16))) (iSo16 : PySem.W.isFn K (.ref fSo16) = true) (lSo16 : K.lookup fSo16 = some ⟨ocSo16, odSo16, .func (PySem.W.fnOf "turn" "Store.turn" (defArgs sSo_turn) (defBody sSo_turn) (defScope sSo_turn) .none kVSo16 dcSo16 pmSo16 anSo16 cdSo16 ctSo16), slSo16⟩) (oSo16 : PySem.W.codeIn K cdSo16 "Store.turn" = true) (kSo16 : PySem.W.keepIn K (.ref fSo16) = true)
    (aSo17 : PySem.W.findIn K (.ref ZSo) "_turn" = some (some (.ref fSo17))) (iSo17 : PySem.W.isFn K (.ref fSo17) = true) (lSo17 : K.lookup fSo17 = some ⟨ocSo17, odSo17, .func (PySem.W.fnOf "_turn" "Store._turn" (defArgs sSo__turn) (defBody sSo__turn) (defScope sSo__turn) .none kVSo17 dcSo17 pmSo17 anSo17 cdSo17 ctSo17), slSo17⟩) (oSo17 : PySem.W.codeIn K cdSo17 "Store._turn" = true) (kSo17 : PySem.W.keepIn K (.ref fSo17) = true)
    (aSo18 : PySem.W.findIn K (.ref ZSo) "_watch_on" = some (some (.ref fSo18))) (iSo18 : PySem.W.isFn K (.ref fSo18) = true) (lSo18 : K.lookup fSo18 = some ⟨ocSo18, odSo18, .func (PySem.W.fnOf "_watch_on" "Store._watch_on" (defArgs sSo__watch_on) (defBody sSo__watch_on) (defScope sSo__watch_on) .none kVSo18 dcSo18 pmSo18 anSo18 cdSo18 ctSo18), slSo18⟩) (oSo18 : PySem.W.codeIn K cdSo18 "Store._watch_on" = true) (kSo18 : PySem.W.keepIn K (.ref fSo18) = true)
    (aSo19 : PySem.W.findIn K (.ref ZSo) "mark" = some (some (.ref fSo19))) (iSo19 : PySem.W.isFn K (.ref fSo19) = true) (lSo19 : K.lookup fSo19 = some ⟨ocSo19, odSo19, .func (PySem.W.fnOf "mark" "Store.mark" (defArgs sSo_mark) (defBody sSo_mark) (defScope sSo_mark) .none kVSo19 dcSo19 pmSo19 anSo19 cdSo19 ctSo19), slSo19⟩) (oSo19 : PySem.W.codeIn K cdSo19 "Store.mark" = true) (kSo19 : PySem.W.keepIn K (.ref fSo19) = true)
    (aSo20 : PySem.W.findIn K (.ref ZSo) "_marked_state" = some (some (.ref fSo20))) (iSo20 : PySem.W.isFn K (.ref fSo20) = true) (lSo20 : K.lookup fSo20 = some ⟨ocSo20, odSo20, .func (PySem.W.fnOf "_marked_state" "Store._marked_state" (defArgs sSo__marked_state) (defBody sSo__marked_state) (defScope sSo__marked_state) .none kVSo20 dcSo20 pmSo20 anSo20 cdSo20 ctSo20), slSo20⟩) (oSo20 : PySem.W.codeIn K cdSo20 "Store._marked_state" = true) (kSo20 : PySem.W.keepIn K (.ref fSo20) = true)
    (aSo21 : PySem.W.findIn K (.ref ZSo) "ask_at" = some (some (.ref fSo21))) (iSo21 : PySem.W.isFn K (.ref fSo21) = true) (lSo21 : K.lookup fSo21 = some ⟨ocSo21, odSo21, .func (PySem.W.fnOf "ask_at" "Store.ask_at" (defArgs sSo_ask_at) (defBody sSo_ask_at) (defScope sSo_ask_at) .none kVSo21 dcSo21 pmSo21 anSo21 cdSo21 ctSo21), slSo21⟩) (oSo21 : PySem.W.codeIn K cdSo21 "Store.ask_at" = true) (kSo21 : PySem.W.keepIn K (.ref fSo21) = true)
    (aSo22 : PySem.W.findIn K (.ref ZSo) "back_to" = some (some (.ref fSo22))) (iSo22 : PySem.W.isFn K (.ref fSo22) = true) (lSo22 : K.lookup fSo22 = some ⟨ocSo22, odSo22, .func (PySem.W.fnOf "back_to" "Store.back_to" (defArgs sSo_back_to) (defBody sSo_back_to) (defScope sSo_back_to) .none kVSo22 dcSo22 pmSo22 anSo22 cdSo22 ctSo22), slSo22⟩) (oSo22 : PySem.W.codeIn K cdSo22 "Store.back_to" = true) (kSo22 : PySem.W.keepIn K (.ref fSo22) = true)
    (aSo23 : PySem.W.findIn K (.ref ZSo) "drop" = some (some (.ref fSo23))) (iSo23 : PySem.W.isFn K (.ref fSo23) = true) (lSo23 : K.lookup fSo23 = some ⟨ocSo23, odSo23, .func (PySem.W.fnOf "drop" "Store.drop" (defArgs sSo_drop) (defBody sSo_drop) (defScope sSo_drop) .none kVSo23 dcSo23 pmSo23 anSo23 cdSo23 ctSo23), slSo23⟩) (oSo23 : PySem.W.codeIn K cdSo23 "Store.drop" = true) (kSo23 : PySem.W.keepIn K (.ref fSo23) = true)
    (aSo24 : PySem.W.findIn K (.ref ZSo) "marks" = some (some (.ref fSo24))) (iSo24 : PySem.W.isFn K (.ref fSo24) = true) (lSo24 : K.lookup fSo24 = some ⟨ocSo24, odSo24, .func (PySem.W.fnOf "marks" "Store.marks" (defArgs sSo_marks) (defBody sSo_marks) (defScope sSo_marks) .none kVSo24 dcSo24 pmSo24 anSo24 cdSo24 ctSo24), slSo24⟩) (oSo24 : PySem.W.codeIn K cdSo24 "Store.marks" = true) (kSo24 : PySem.W.keepIn K (.ref fSo24) = true)
    (aSo25 : PySem.W.findIn K (.ref ZSo) "held" = some (some (.ref fSo25))) (iSo25 : PySem.W.isFn K (.ref fSo25) = true) (lSo25 : K.lookup fSo25 = some ⟨ocSo25, odSo25, .func (PySem.W.fnOf "held" "Store.held" (defArgs sSo_held) (defBody sSo_held) (defScope sSo_held) .none kVSo25 dcSo25 pmSo25 anSo25 cdSo25 ctSo25), slSo25⟩) (oSo25 : PySem.W.codeIn K cdSo25 "Store.held" = true) (kSo25 : PySem.W.keepIn K (.ref fSo25) = true)
    (aSo26 : PySem.W.findIn K (.ref ZSo) "copy" = some (some (.ref fSo26))) (iSo26 : PySem.W.isFn K (.ref fSo26) = true) (lSo26 : K.lookup fSo26 = some ⟨ocSo26, odSo26, .func (PySem.W.fnOf "copy" "Store.copy" (defArgs sSo_copy) (defBody sSo_copy) (defScope sSo_copy) .none kVSo26 dcSo26 pmSo26 anSo26 cdSo26 ctSo26), slSo26⟩) (oSo26 : PySem.W.codeIn K cdSo26 "Store.copy" = true) (kSo26 : PySem.W.keepIn K (.ref fSo26) = true)
    (aSo27 : PySem.W.findIn K (.ref ZSo) "trying" = some (some (.ref fSo27))) (iSo27 : PySem.W.isFn K (.ref fSo27) = true) (lSo27 : K.lookup fSo27 = some ⟨ocSo27, odSo27, .func (PySem.W.fnOf "trying" "Store.trying" (defArgs sSo_trying) (defBody sSo_trying) (defScope sSo_trying) .none kVSo27 dcSo27 pmSo27 anSo27 cdSo27 ctSo27), slSo27⟩) (oSo27 : PySem.W.codeIn K cdSo27 "Store.trying" = true) (kSo27 : PySem.W.keepIn K (.ref fSo27) = true)
    (ad0 : PySem.W.nsIn K mainGlobals "_law_word" = some (some (.ref fd0))) (ld0 : K.lookup fd0 = some ⟨ocd0, odd0, .func (PySem.W.fnOf "_law_word" "_law_word" (defArgs sLWord) (defBody sLWord) (defScope sLWord) .none kVd0 dcd0 pmd0 and0 cdd0 ctd0), sld0⟩) (od0 : PySem.W.codeIn K cdd0 "_law_word" = true) (kd0 : PySem.W.keepIn K (.ref fd0) = true)
    (ad1 : PySem.W.nsIn K mainGlobals "is_integer" = some (some (.ref fd1))) (ld1 : K.lookup fd1 = some ⟨ocd1, odd1, .func (PySem.W.fnOf "is_integer" "is_integer" (defArgs sIsInt) (defBody sIsInt) (defScope sIsInt) .none kVd1 dcd1 pmd1 and1 cdd1 ctd1), sld1⟩) (od1 : PySem.W.codeIn K cdd1 "is_integer" = true) (kd1 : PySem.W.keepIn K (.ref fd1) = true)
    (ad2 : PySem.W.nsIn K mainGlobals "is_between" = some (some (.ref fd2))) (ld2 : K.lookup fd2 = some ⟨ocd2, odd2, .func (PySem.W.fnOf "is_between" "is_between" (defArgs sIsBtw) (defBody sIsBtw) (defScope sIsBtw) .none kVd2 dcd2 pmd2 and2 cdd2 ctd2), sld2⟩) (od2 : PySem.W.codeIn K cdd2 "is_between" = true) (kd2 : PySem.W.keepIn K (.ref fd2) = true)
    (ad3 : PySem.W.nsIn K mainGlobals "is_lot" = some (some (.ref fd3))) (ld3 : K.lookup fd3 = some ⟨ocd3, odd3, .func (PySem.W.fnOf "is_lot" "is_lot" (defArgs sIsLot) (defBody sIsLot) (defScope sIsLot) .none kVd3 dcd3 pmd3 and3 cdd3 ctd3), sld3⟩) (od3 : PySem.W.codeIn K cdd3 "is_lot" = true) (kd3 : PySem.W.keepIn K (.ref fd3) = true)
    (ad4 : PySem.W.nsIn K mainGlobals "_is_lot_of_places" = some (some (.ref fd4))) (ld4 : K.lookup fd4 = some ⟨ocd4, odd4, .func (PySem.W.fnOf "_is_lot_of_places" "_is_lot_of_places" (defArgs sLotOf) (defBody sLotOf) (defScope sLotOf) .none kVd4 dcd4 pmd4 and4 cdd4 ctd4), sld4⟩) (od4 : PySem.W.codeIn K cdd4 "_is_lot_of_places" = true) (kd4 : PySem.W.keepIn K (.ref fd4) = true)
    (ad5 : PySem.W.nsIn K mainGlobals "is_place" = some (some (.ref fd5))) (ld5 : K.lookup fd5 = some ⟨ocd5, odd5, .func (PySem.W.fnOf "is_place" "is_place" (defArgs sIsPlace) (defBody sIsPlace) (defScope sIsPlace) .none kVd5 dcd5 pmd5 and5 cdd5 ctd5), sld5⟩) (od5 : PySem.W.codeIn K cdd5 "is_place" = true) (kd5 : PySem.W.keepIn K (.ref fd5) = true)
    (ad6 : PySem.W.nsIn K mainGlobals "way" = some (some (.ref fd6))) (ld6 : K.lookup fd6 = some ⟨ocd6, odd6, .func (PySem.W.fnOf "way" "way" (defArgs sWay) (defBody sWay) (defScope sWay) .none kVd6 dcd6 pmd6 and6 cdd6 ctd6), sld6⟩) (od6 : PySem.W.codeIn K cdd6 "way" = true) (kd6 : PySem.W.keepIn K (.ref fd6) = true)
    (ad7 : PySem.W.nsIn K mainGlobals "is_plan" = some (some (.ref fd7))) (ld7 : K.lookup fd7 = some ⟨ocd7, odd7, .func (PySem.W.fnOf "is_plan" "is_plan" (defArgs sIsPlan) (defBody sIsPlan) (defScope sIsPlan) .none kVd7 dcd7 pmd7 and7 cdd7 ctd7), sld7⟩) (od7 : PySem.W.codeIn K cdd7 "is_plan" = true) (kd7 : PySem.W.keepIn K (.ref fd7) = true)
    (ad8 : PySem.W.nsIn K mainGlobals "_stacks" = some (some (.ref fd8))) (ld8 : K.lookup fd8 = some ⟨ocd8, odd8, .func (PySem.W.fnOf "_stacks" "_stacks" (defArgs sStacks) (defBody sStacks) (defScope sStacks) .none kVd8 dcd8 pmd8 and8 cdd8 ctd8), sld8⟩) (od8 : PySem.W.codeIn K cdd8 "_stacks" = true) (kd8 : PySem.W.keepIn K (.ref fd8) = true)
    (ad9 : PySem.W.nsIn K mainGlobals "_note_at" = some (some (.ref fd9))) (ld9 : K.lookup fd9 = some ⟨ocd9, odd9, .func (PySem.W.fnOf "_note_at" "_note_at" (defArgs sNoteAt) (defBody sNoteAt) (defScope sNoteAt) .none kVd9 dcd9 pmd9 and9 cdd9 ctd9), sld9⟩) (od9 : PySem.W.codeIn K cdd9 "_note_at" = true) (kd9 : PySem.W.keepIn K (.ref fd9) = true)
    (ad10 : PySem.W.nsIn K mainGlobals "notes_by_place" = some (some (.ref fd10))) (ld10 : K.lookup fd10 = some ⟨ocd10, odd10, .func (PySem.W.fnOf "notes_by_place" "notes_by_place" (defArgs sByPlace) (defBody sByPlace) (defScope sByPlace) .none kVd10 dcd10 pmd10 and10 cdd10 ctd10), sld10⟩) (od10 : PySem.W.codeIn K cdd10 "notes_by_place" = true) (kd10 : PySem.W.keepIn K (.ref fd10) = true)
    (ad11 : PySem.W.nsIn K mainGlobals "_law_draw" = some (some (.ref fd11))) (ld11 : K.lookup fd11 = some ⟨ocd11, odd11, .func (PySem.W.fnOf "_law_draw" "_law_draw" (defArgs sDraw) (defBody sDraw) (defScope sDraw) .none kVd11 dcd11 pmd11 and11 cdd11 ctd11), sld11⟩) (od11 : PySem.W.codeIn K cdd11 "_law_draw" = true) (kd11 : PySem.W.keepIn K (.ref fd11) = true)
    (ad12 : PySem.W.nsIn K mainGlobals "_law_is" = some (some (.ref fd12))) (ld12 : K.lookup fd12 = some ⟨ocd12, odd12, .func (PySem.W.fnOf "_law_is" "_law_is" (defArgs sIs) (defBody sIs) (defScope sIs) .none kVd12 dcd12 pmd12 and12 cdd12 ctd12), sld12⟩) (od12 : PySem.W.codeIn K cdd12 "_law_is" = true) (kd12 : PySem.W.keepIn K (.ref fd12) = true)
    (ad13 : PySem.W.nsIn K mainGlobals "_law_parents" = some (some (.ref fd13))) (ld13 : K.lookup fd13 = some ⟨ocd13, odd13, .func (PySem.W.fnOf "_law_parents" "_law_parents" (defArgs sParents) (defBody sParents) (defScope sParents) .none kVd13 dcd13 pmd13 and13 cdd13 ctd13), sld13⟩) (od13 : PySem.W.codeIn K cdd13 "_law_parents" = true) (kd13 : PySem.W.keepIn K (.ref fd13) = true)
    (ad14 : PySem.W.nsIn K mainGlobals "_law_lot" = some (some (.ref fd14))) (ld14 : K.lookup fd14 = some ⟨ocd14, odd14, .func (PySem.W.fnOf "_law_lot" "_law_lot" (defArgs sLawLot) (defBody sLawLot) (defScope sLawLot) .none kVd14 dcd14 pmd14 and14 cdd14 ctd14), sld14⟩) (od14 : PySem.W.codeIn K cdd14 "_law_lot" = true) (kd14 : PySem.W.keepIn K (.ref fd14) = true)
    (ad15 : PySem.W.nsIn K mainGlobals "_law_made" = some (some (.ref fd15))) (ld15 : K.lookup fd15 = some ⟨ocd15, odd15, .func (PySem.W.fnOf "_law_made" "_law_made" (defArgs sMade) (defBody sMade) (defScope sMade) .none kVd15 dcd15 pmd15 and15 cdd15 ctd15), sld15⟩) (od15 : PySem.W.codeIn K cdd15 "_law_made" = true) (kd15 : PySem.W.keepIn K (.ref fd15) = true)
    (ad16 : PySem.W.nsIn K mainGlobals "_law_stacks" = some (some (.ref fd16))) (ld16 : K.lookup fd16 = some ⟨ocd16, odd16, .func (PySem.W.fnOf "_law_stacks" "_law_stacks" (defArgs sLStacks) (defBody sLStacks) (defScope sLStacks) .none kVd16 dcd16 pmd16 and16 cdd16 ctd16), sld16⟩) (od16 : PySem.W.codeIn K cdd16 "_law_stacks" = true) (kd16 : PySem.W.keepIn K (.ref fd16) = true)
    (ad17 : PySem.W.nsIn K mainGlobals "under" = some (some (.ref fd17))) (ld17 : K.lookup fd17 = some ⟨ocd17, odd17, .func (PySem.W.fnOf "under" "under" (defArgs sUnder) (defBody sUnder) (defScope sUnder) .none kVd17 dcd17 pmd17 and17 cdd17 ctd17), sld17⟩) (od17 : PySem.W.codeIn K cdd17 "under" = true) (kd17 : PySem.W.keepIn K (.ref fd17) = true)
    (ad18 : PySem.W.nsIn K mainGlobals "_law_pool" = some (some (.ref fd18))) (ld18 : K.lookup fd18 = some ⟨ocd18, odd18, .func (PySem.W.fnOf "_law_pool" "_law_pool" (defArgs sHand) (defBody sHand) (defScope sHand) .none kVd18 dcd18 pmd18 and18 cdd18 ctd18), sld18⟩) (od18 : PySem.W.codeIn K cdd18 "_law_pool" = true) (kd18 : PySem.W.keepIn K (.ref fd18) = true)
    (ad19 : PySem.W.nsIn K mainGlobals "_law_pick" = some (some (.ref fd19))) (ld19 : K.lookup fd19 = some ⟨ocd19, odd19, .func (PySem.W.fnOf "_law_pick" "_law_pick" (defArgs sPick) (defBody sPick) (defScope sPick) .none kVd19 dcd19 pmd19 and19 cdd19 ctd19), sld19⟩) (od19 : PySem.W.codeIn K cdd19 "_law_pick" = true) (kd19 : PySem.W.keepIn K (.ref fd19) = true)
    (ad20 : PySem.W.nsIn K mainGlobals "_law_spec" = some (some (.ref fd20))) (ld20 : K.lookup fd20 = some ⟨ocd20, odd20, .func (PySem.W.fnOf "_law_spec" "_law_spec" (defArgs sSpec) (defBody sSpec) (defScope sSpec) .none kVd20 dcd20 pmd20 and20 cdd20 ctd20), sld20⟩) (od20 : PySem.W.codeIn K cdd20 "_law_spec" = true) (kd20 : PySem.W.keepIn K (.ref fd20) = true)
    (ad21 : PySem.W.nsIn K mainGlobals "_law_plan" = some (some (.ref fd21))) (ld21 : K.lookup fd21 = some ⟨ocd21, odd21, .func (PySem.W.fnOf "_law_plan" "_law_plan" (defArgs sDPlan) (defBody sDPlan) (defScope sDPlan) .none kVd21 dcd21 pmd21 and21 cdd21 ctd21), sld21⟩) (od21 : PySem.W.codeIn K cdd21 "_law_plan" = true) (kd21 : PySem.W.keepIn K (.ref fd21) = true)
    (ad22 : PySem.W.nsIn K mainGlobals "_law_way" = some (some (.ref fd22))) (ld22 : K.lookup fd22 = some ⟨ocd22, odd22, .func (PySem.W.fnOf "_law_way" "_law_way" (defArgs sLWay) (defBody sLWay) (defScope sLWay) .none kVd22 dcd22 pmd22 and22 cdd22 ctd22), sld22⟩) (od22 : PySem.W.codeIn K cdd22 "_law_way" = true) (kd22 : PySem.W.keepIn K (.ref fd22) = true)
    (ad23 : PySem.W.nsIn K mainGlobals "is_bearing" = some (some (.ref fd23))) (ld23 : K.lookup fd23 = some ⟨ocd23, odd23, .func (PySem.W.fnOf "is_bearing" "is_bearing" (defArgs sIsBear) (defBody sIsBear) (defScope sIsBear) .none kVd23 dcd23 pmd23 and23 cdd23 ctd23), sld23⟩) (od23 : PySem.W.codeIn K cdd23 "is_bearing" = true) (kd23 : PySem.W.keepIn K (.ref fd23) = true)
    (ad24 : PySem.W.nsIn K mainGlobals "is_asking" = some (some (.ref fd24))) (ld24 : K.lookup fd24 = some ⟨ocd24, odd24, .func (PySem.W.fnOf "is_asking" "is_asking" (defArgs sIsAsk) (defBody sIsAsk) (defScope sIsAsk) .none kVd24 dcd24 pmd24 and24 cdd24 ctd24), sld24⟩) (od24 : PySem.W.codeIn K cdd24 "is_asking" = true) (kd24 : PySem.W.keepIn K (.ref fd24) = true)
    (ad25 : PySem.W.nsIn K mainGlobals "is_amounts" = some (some (.ref fd25))) (ld25 : K.lookup fd25 = some ⟨ocd25, odd25, .func (PySem.W.fnOf "is_amounts" "is_amounts" (defArgs sIsAmt) (defBody sIsAmt) (defScope sIsAmt) .none kVd25 dcd25 pmd25 and25 cdd25 ctd25), sld25⟩) (od25 : PySem.W.codeIn K cdd25 "is_amounts" = true) (kd25 : PySem.W.keepIn K (.ref fd25) = true)
    (ad26 : PySem.W.nsIn K mainGlobals "_law_words" = some (some (.ref fd26))) (ld26 : K.lookup fd26 = some ⟨ocd26, odd26, .func (PySem.W.fnOf "_law_words" "_law_words" (defArgs sLWords) (defBody sLWords) (defScope sLWords) .none kVd26 dcd26 pmd26 and26 cdd26 ctd26), sld26⟩) (od26 : PySem.W.codeIn K cdd26 "_law_words" = true) (kd26 : PySem.W.keepIn K (.ref fd26) = true)
    (ad27 : PySem.W.nsIn K mainGlobals "_law_joined" = some (some (.ref fd27))) (ld27 : K.lookup fd27 = some ⟨ocd27, odd27, .func (PySem.W.fnOf "_law_joined" "_law_joined" (defArgs sLJoin) (defBody sLJoin) (defScope sLJoin) .none kVd27 dcd27 pmd27 and27 cdd27 ctd27), sld27⟩) (od27 : PySem.W.codeIn K cdd27 "_law_joined" = true) (kd27 : PySem.W.keepIn K (.ref fd27) = true)
    (ad28 : PySem.W.nsIn K mainGlobals "_law_together" = some (some (.ref fd28))) (ld28 : K.lookup fd28 = some ⟨ocd28, odd28, .func (PySem.W.fnOf "_law_together" "_law_together" (defArgs sLTog) (defBody sLTog) (defScope sLTog) .none kVd28 dcd28 pmd28 and28 cdd28 ctd28), sld28⟩) (od28 : PySem.W.codeIn K cdd28 "_law_together" = true) (kd28 : PySem.W.keepIn K (.ref fd28) = true)
    (ad29 : PySem.W.nsIn K mainGlobals "together" = some (some (.ref fd29))) (ld29 : K.lookup fd29 = some ⟨ocd29, odd29, .func (PySem.W.fnOf "together" "together" (defArgs sTogt) (defBody sTogt) (defScope sTogt) .none kVd29 dcd29 pmd29 and29 cdd29 ctd29), sld29⟩) (od29 : PySem.W.codeIn K cdd29 "together" = true) (kd29 : PySem.W.keepIn K (.ref fd29) = true)
    (ad30 : PySem.W.nsIn K mainGlobals "holding_one" = some (some (.ref fd30))) (ld30 : K.lookup fd30 = some ⟨ocd30, odd30, .func (PySem.W.fnOf "holding_one" "holding_one" (defArgs sHold1) (defBody sHold1) (defScope sHold1) .none kVd30 dcd30 pmd30 and30 cdd30 ctd30), sld30⟩) (od30 : PySem.W.codeIn K cdd30 "holding_one" = true) (kd30 : PySem.W.keepIn K (.ref fd30) = true)
    (ad31 : PySem.W.nsIn K mainGlobals "reading_at" = some (some (.ref fd31))) (ld31 : K.lookup fd31 = some ⟨ocd31, odd31, .func (PySem.W.fnOf "reading_at" "reading_at" (defArgs sReadAt) (defBody sReadAt) (defScope sReadAt) .none kVd31 dcd31 pmd31 and31 cdd31 ctd31), sld31⟩) (od31 : PySem.W.codeIn K cdd31 "reading_at" = true) (kd31 : PySem.W.keepIn K (.ref fd31) = true)
    (ad32 : PySem.W.nsIn K mainGlobals "_law_rows" = some (some (.ref fd32))) (ld32 : K.lookup fd32 = some ⟨ocd32, odd32, .func (PySem.W.fnOf "_law_rows" "_law_rows" (defArgs sLRows) (defBody sLRows) (defScope sLRows) .none kVd32 dcd32 pmd32 and32 cdd32 ctd32), sld32⟩) (od32 : PySem.W.codeIn K cdd32 "_law_rows" = true) (kd32 : PySem.W.keepIn K (.ref fd32) = true)
    (ad33 : PySem.W.nsIn K mainGlobals "_law_come" = some (some (.ref fd33))) (ld33 : K.lookup fd33 = some ⟨ocd33, odd33, .func (PySem.W.fnOf "_law_come" "_law_come" (defArgs sLCome) (defBody sLCome) (defScope sLCome) .none kVd33 dcd33 pmd33 and33 cdd33 ctd33), sld33⟩) (od33 : PySem.W.codeIn K cdd33 "_law_come" = true) (kd33 : PySem.W.keepIn K (.ref fd33) = true)
    (ad34 : PySem.W.nsIn K mainGlobals "_law_reads" = some (some (.ref fd34))) (ld34 : K.lookup fd34 = some ⟨ocd34, odd34, .func (PySem.W.fnOf "_law_reads" "_law_reads" (defArgs sLReads) (defBody sLReads) (defScope sLReads) .none kVd34 dcd34 pmd34 and34 cdd34 ctd34), sld34⟩) (od34 : PySem.W.codeIn K cdd34 "_law_reads" = true) (kd34 : PySem.W.keepIn K (.ref fd34) = true)
    (ad35 : PySem.W.nsIn K mainGlobals "_law_touches" = some (some (.ref fd35))) (ld35 : K.lookup fd35 = some ⟨ocd35, odd35, .func (PySem.W.fnOf "_law_touches" "_law_touches" (defArgs sLTouch) (defBody sLTouch) (defScope sLTouch) .none kVd35 dcd35 pmd35 and35 cdd35 ctd35), sld35⟩) (od35 : PySem.W.codeIn K cdd35 "_law_touches" = true) (kd35 : PySem.W.keepIn K (.ref fd35) = true)
    (ad36 : PySem.W.nsIn K mainGlobals "_all_made" = some (some (.ref fd36))) (ld36 : K.lookup fd36 = some ⟨ocd36, odd36, .func (PySem.W.fnOf "_all_made" "_all_made" (defArgs sAllM) (defBody sAllM) (defScope sAllM) .none kVd36 dcd36 pmd36 and36 cdd36 ctd36), sld36⟩) (od36 : PySem.W.codeIn K cdd36 "_all_made" = true) (kd36 : PySem.W.keepIn K (.ref fd36) = true)
    (ad37 : PySem.W.nsIn K mainGlobals "first_state" = some (some (.ref fd37))) (ld37 : K.lookup fd37 = some ⟨ocd37, odd37, .func (PySem.W.fnOf "first_state" "first_state" (defArgs sFirstS) (defBody sFirstS) (defScope sFirstS) .none kVd37 dcd37 pmd37 and37 cdd37 ctd37), sld37⟩) (od37 : PySem.W.codeIn K cdd37 "first_state" = true) (kd37 : PySem.W.keepIn K (.ref fd37) = true)
    (ad38 : PySem.W.nsIn K mainGlobals "anew_by_changes" = some (some (.ref fd38))) (ld38 : K.lookup fd38 = some ⟨ocd38, odd38, .func (PySem.W.fnOf "anew_by_changes" "anew_by_changes" (defArgs sAnewC) (defBody sAnewC) (defScope sAnewC) .none kVd38 dcd38 pmd38 and38 cdd38 ctd38), sld38⟩) (od38 : PySem.W.codeIn K cdd38 "anew_by_changes" = true) (kd38 : PySem.W.keepIn K (.ref fd38) = true)
    (ad39 : PySem.W.nsIn K mainGlobals "changed_state" = some (some (.ref fd39))) (ld39 : K.lookup fd39 = some ⟨ocd39, odd39, .func (PySem.W.fnOf "changed_state" "changed_state" (defArgs sChgS) (defBody sChgS) (defScope sChgS) .none kVd39 dcd39 pmd39 and39 cdd39 ctd39), sld39⟩) (od39 : PySem.W.codeIn K cdd39 "changed_state" = true) (kd39 : PySem.W.keepIn K (.ref fd39) = true)
    (ad40 : PySem.W.nsIn K mainGlobals "_law_news_due" = some (some (.ref fd40))) (ld40 : K.lookup fd40 = some ⟨ocd40, odd40, .func (PySem.W.fnOf "_law_news_due" "_law_news_due" (defArgs sNewsD) (defBody sNewsD) (defScope sNewsD) .none kVd40 dcd40 pmd40 and40 cdd40 ctd40), sld40⟩) (od40 : PySem.W.codeIn K cdd40 "_law_news_due" = true) (kd40 : PySem.W.keepIn K (.ref fd40) = true)
    (ad41 : PySem.W.nsIn K mainGlobals "is_changes" = some (some (.ref fd41))) (ld41 : K.lookup fd41 = some ⟨ocd41, odd41, .func (PySem.W.fnOf "is_changes" "is_changes" (defArgs sIsChg) (defBody sIsChg) (defScope sIsChg) .none kVd41 dcd41 pmd41 and41 cdd41 ctd41), sld41⟩) (od41 : PySem.W.codeIn K cdd41 "is_changes" = true) (kd41 : PySem.W.keepIn K (.ref fd41) = true)
    (ad42 : PySem.W.nsIn K mainGlobals "_law_text_changes" = some (some (.ref fd42))) (ld42 : K.lookup fd42 = some ⟨ocd42, odd42, .func (PySem.W.fnOf "_law_text_changes" "_law_text_changes" (defArgs sLTxtC) (defBody sLTxtC) (defScope sLTxtC) .none kVd42 dcd42 pmd42 and42 cdd42 ctd42), sld42⟩) (od42 : PySem.W.codeIn K cdd42 "_law_text_changes" = true) (kd42 : PySem.W.keepIn K (.ref fd42) = true)
    (aW : PySem.W.nsIn K mainGlobals "law" = some (some (.ref fW))) (lW : K.lookup fW = some ⟨ocW, odW, .func (PySem.W.fnOf "law" "law" (defArgs sLaw) (defBody sLaw) (defScope sLaw) .none kVW dcW pmW anW cdW ctW), slW⟩) (oW : PySem.W.codeIn K cdW "law" = true) (kW : PySem.W.keepIn K (.ref fW) = true)
    (zisinstance : PySem.W.nsIn K mainGlobals "isinstance" = some none) (ztuple : PySem.W.nsIn K mainGlobals "tuple" = some none) (zlist : PySem.W.nsIn K mainGlobals "list" = some none) (zbool : PySem.W.nsIn K mainGlobals "bool" = some none) (zlen : PySem.W.nsIn K mainGlobals "len" = some none) (zall : PySem.W.nsIn K mainGlobals "all" = some none) (zzip : PySem.W.nsIn K mainGlobals "zip" = some none) (zint : PySem.W.nsIn K mainGlobals "int" = some none) (zabs : PySem.W.nsIn K mainGlobals "abs" = some none) (zrange : PySem.W.nsIn K mainGlobals "range" = some none) (zenumerate : PySem.W.nsIn K mainGlobals "enumerate" = some none) (zreversed : PySem.W.nsIn K mainGlobals "reversed" = some none) (zsorted : PySem.W.nsIn K mainGlobals "sorted" = some none) (zmin : PySem.W.nsIn K mainGlobals "min" = some none) (zany : PySem.W.nsIn K mainGlobals "any" = some none) (zsum : PySem.W.nsIn K mainGlobals "sum" = some none) (zdict : PySem.W.nsIn K mainGlobals "dict" = some none) (zValueError : PySem.W.nsIn K mainGlobals "ValueError" = some none) (zstr : PySem.W.nsIn K mainGlobals "str" = some none)
    : ∃ fd : FuncData, (∀ (s : Shared) (v : Value), BindsTo s fd ⟨[v], []⟩ [("_law_script", v)]) ∧ ∀ base : Heap, K.In base → base.Ns mainGlobals mg → FnOk P w K mg base CX0 10 fa fd ["_law_script"] (spLaw K) := by
  have e := hfa.symm.trans (PySem.W.mg_of X G aW)
  cases e
  have IT : IsTxt mg := ⟨PySem.W.mg_none_of X G zisinstance, PySem.W.mg_none_of X G ztuple, PySem.W.mg_none_of X G zlist, PySem.W.mg_none_of X G zbool, PySem.W.mg_none_of X G zlen, PySem.W.mg_none_of X G zall, PySem.W.mg_none_of X G zzip⟩
  have NT : NamT mg := ⟨IT, PySem.W.mg_none_of X G zint, PySem.W.mg_none_of X G zabs, PySem.W.mg_none_of X G zrange, PySem.W.mg_none_of X G zenumerate, PySem.W.mg_none_of X G zreversed, PySem.W.mg_none_of X G zsorted, PySem.W.mg_none_of X G zmin⟩
  have Fd0 := fun_mk (st := sLWord) ld0 od0 kd0
  have Dd0 : ∃ f fd, DefAt K mg "_law_word" sLWord ["_law_pool_here", "_law_place"] f fd := ⟨_, _, ⟨Fd0, Fd0.binds (ps := ["_law_pool_here", "_law_place"]) fun _ _ _ _ _ _ us hl => match us, hl with | [_, _], _ => rfl, PySem.W.mg_of X G ad0⟩⟩
  have Fd1 := fun_mk (st := sIsInt) ld1 od1 kd1
  have Dd1 : ∃ f fd, DefAt K mg "is_integer" sIsInt ["thing"] f fd := ⟨_, _, ⟨Fd1, Fd1.binds (ps := ["thing"]) fun _ _ _ _ _ _ us hl => match us, hl with | [_], _ => rfl, PySem.W.mg_of X G ad1⟩⟩
  have Fd2 := fun_mk (st := sIsBtw) ld2 od2 kd2
  have Dd2 : ∃ f fd, DefAt K mg "is_between" sIsBtw ["thing", "least", "most"] f fd := ⟨_, _, ⟨Fd2, Fd2.binds (ps := ["thing", "least", "most"]) fun _ _ _ _ _ _ us hl => match us, hl with | [_, _, _], _ => rfl, PySem.W.mg_of X G ad2⟩⟩
  have Fd3 := fun_mk (st := sIsLot) ld3 od3 kd3
  have Dd3 : ∃ f fd, DefAt K mg "is_lot" sIsLot ["thing"] f fd := ⟨_, _, ⟨Fd3, Fd3.binds (ps := ["thing"]) fun _ _ _ _ _ _ us hl => match us, hl with | [_], _ => rfl, PySem.W.mg_of X G ad3⟩⟩
  have Fd4 := fun_mk (st := sLotOf) ld4 od4 kd4
  have Dd4 : ∃ f fd, DefAt K mg "_is_lot_of_places" sLotOf ["thing", "many"] f fd := ⟨_, _, ⟨Fd4, Fd4.binds (ps := ["thing", "many"]) fun _ _ _ _ _ _ us hl => match us, hl with | [_, _], _ => rfl, PySem.W.mg_of X G ad4⟩⟩
  have Fd5 := fun_mk (st := sIsPlace) ld5 od5 kd5
  have Dd5 : ∃ f fd, DefAt K mg "is_place" sIsPlace ["forest", "thing"] f fd := ⟨_, _, ⟨Fd5, Fd5.binds (ps := ["forest", "thing"]) fun _ _ _ _ _ _ us hl => match us, hl with | [_, _], _ => rfl, PySem.W.mg_of X G ad5⟩⟩
  have Fd6 := fun_mk (st := sWay) ld6 od6 kd6
  have Dd6 : ∃ f fd, DefAt K mg "way" sWay ["forest", "place"] f fd := ⟨_, _, ⟨Fd6, Fd6.binds (ps := ["forest", "place"]) fun _ _ _ _ _ _ us hl => match us, hl with | [_, _], _ => rfl, PySem.W.mg_of X G ad6⟩⟩
  have Fd7 := fun_mk (st := sIsPlan) ld7 od7 kd7
  have Dd7 : ∃ f fd, DefAt K mg "is_plan" sIsPlan ["forest", "thing"] f fd := ⟨_, _, ⟨Fd7, Fd7.binds (ps := ["forest", "thing"]) fun _ _ _ _ _ _ us hl => match us, hl with | [_, _], _ => rfl, PySem.W.mg_of X G ad7⟩⟩
  have Fd8 := fun_mk (st := sStacks) ld8 od8 kd8
  have Dd8 : ∃ f fd, DefAt K mg "_stacks" sStacks ["forest", "plan"] f fd := ⟨_, _, ⟨Fd8, Fd8.binds (ps := ["forest", "plan"]) fun _ _ _ _ _ _ us hl => match us, hl with | [_, _], _ => rfl, PySem.W.mg_of X G ad8⟩⟩
  have Fd9 := fun_mk (st := sNoteAt) ld9 od9 kd9
  have Dd9 : ∃ f fd, DefAt K mg "_note_at" sNoteAt ["forest", "found", "place"] f fd := ⟨_, _, ⟨Fd9, Fd9.binds (ps := ["forest", "found", "place"]) fun _ _ _ _ _ _ us hl => match us, hl with | [_, _, _], _ => rfl, PySem.W.mg_of X G ad9⟩⟩
  have Fd10 := fun_mk (st := sByPlace) ld10 od10 kd10
  have Dd10 : ∃ f fd, DefAt K mg "notes_by_place" sByPlace ["forest", "plan"] f fd := ⟨_, _, ⟨Fd10, Fd10.binds (ps := ["forest", "plan"]) fun _ _ _ _ _ _ us hl => match us, hl with | [_, _], _ => rfl, PySem.W.mg_of X G ad10⟩⟩
  have Fd11 := fun_mk (st := sDraw) ld11 od11 kd11
  have Dd11 : ∃ f fd, DefAt K mg "_law_draw" sDraw ["_law_pool_here", "_law_many"] f fd := ⟨_, _, ⟨Fd11, Fd11.binds (ps := ["_law_pool_here", "_law_many"]) fun _ _ _ _ _ _ us hl => match us, hl with | [_, _], _ => rfl, PySem.W.mg_of X G ad11⟩⟩
  have Fd12 := fun_mk (st := sIs) ld12 od12 kd12
  have Dd12 : ∃ f fd, DefAt K mg "_law_is" sIs ["_law_told", "_law_due"] f fd := ⟨_, _, ⟨Fd12, Fd12.binds (ps := ["_law_told", "_law_due"]) fun _ _ _ _ _ _ us hl => match us, hl with | [_, _], _ => rfl, PySem.W.mg_of X G ad12⟩⟩
  have Fd13 := fun_mk (st := sParents) ld13 od13 kd13
  have Dd13 : ∃ f fd, DefAt K mg "_law_parents" sParents ["_law_pool_here", "_law_many"] f fd := ⟨_, _, ⟨Fd13, Fd13.binds (ps := ["_law_pool_here", "_law_many"]) fun _ _ _ _ _ _ us hl => match us, hl with | [_, _], _ => rfl, PySem.W.mg_of X G ad13⟩⟩
  have Fd14 := fun_mk (st := sLawLot) ld14 od14 kd14
  have Dd14 : ∃ f fd, DefAt K mg "_law_lot" sLawLot ["_law_pool_here", "_law_many", "_law_sides"] f fd := ⟨_, _, ⟨Fd14, Fd14.binds (ps := ["_law_pool_here", "_law_many", "_law_sides"]) fun _ _ _ _ _ _ us hl => match us, hl with | [_, _, _], _ => rfl, PySem.W.mg_of X G ad14⟩⟩
  have Fd15 := fun_mk (st := sMade) ld15 od15 kd15
  have Dd15 : ∃ f fd, DefAt K mg "_law_made" sMade ["_law_spec_here"] f fd := ⟨_, _, ⟨Fd15, Fd15.binds (ps := ["_law_spec_here"]) fun _ _ _ _ _ _ us hl => match us, hl with | [_], _ => rfl, PySem.W.mg_of X G ad15⟩⟩
  have Fd16 := fun_mk (st := sLStacks) ld16 od16 kd16
  have Dd16 : ∃ f fd, DefAt K mg "_law_stacks" sLStacks ["_law_parents_here", "_law_plan_here"] f fd := ⟨_, _, ⟨Fd16, Fd16.binds (ps := ["_law_parents_here", "_law_plan_here"]) fun _ _ _ _ _ _ us hl => match us, hl with | [_, _], _ => rfl, PySem.W.mg_of X G ad16⟩⟩
  have Fd17 := fun_mk (st := sUnder) ld17 od17 kd17
  have Dd17 : ∃ f fd, DefAt K mg "under" sUnder ["forest", "place"] f fd := ⟨_, _, ⟨Fd17, Fd17.binds (ps := ["forest", "place"]) fun _ _ _ _ _ _ us hl => match us, hl with | [_, _], _ => rfl, PySem.W.mg_of X G ad17⟩⟩
  have Fd18 := fun_mk (st := sHand) ld18 od18 kd18
  have Dd18 : ∃ f fd, DefAt K mg "_law_pool" sHand ["_law_script"] f fd := ⟨_, _, ⟨Fd18, Fd18.binds (ps := ["_law_script"]) fun _ _ _ _ _ _ us hl => match us, hl with | [_], _ => rfl, PySem.W.mg_of X G ad18⟩⟩
  have Fd19 := fun_mk (st := sPick) ld19 od19 kd19
  have Dd19 : ∃ f fd, DefAt K mg "_law_pick" sPick ["_law_pool_here", "_law_things"] f fd := ⟨_, _, ⟨Fd19, Fd19.binds (ps := ["_law_pool_here", "_law_things"]) fun _ _ _ _ _ _ us hl => match us, hl with | [_, _], _ => rfl, PySem.W.mg_of X G ad19⟩⟩
  have Fd20 := fun_mk (st := sSpec) ld20 od20 kd20
  have Dd20 : ∃ f fd, DefAt K mg "_law_spec" sSpec ["_law_pool_here", "_law_least", "_law_most"] f fd := ⟨_, _, ⟨Fd20, Fd20.binds (ps := ["_law_pool_here", "_law_least", "_law_most"]) fun _ _ _ _ _ _ us hl => match us, hl with | [_, _, _], _ => rfl, PySem.W.mg_of X G ad20⟩⟩
  have Fd21 := fun_mk (st := sDPlan) ld21 od21 kd21
  have Dd21 : ∃ f fd, DefAt K mg "_law_plan" sDPlan ["_law_pool_here", "_law_parents_here"] f fd := ⟨_, _, ⟨Fd21, Fd21.binds (ps := ["_law_pool_here", "_law_parents_here"]) fun _ _ _ _ _ _ us hl => match us, hl with | [_, _], _ => rfl, PySem.W.mg_of X G ad21⟩⟩
  have Fd22 := fun_mk (st := sLWay) ld22 od22 kd22
  have Dd22 : ∃ f fd, DefAt K mg "_law_way" sLWay ["_law_parents_here", "_law_place"] f fd := ⟨_, _, ⟨Fd22, Fd22.binds (ps := ["_law_parents_here", "_law_place"]) fun _ _ _ _ _ _ us hl => match us, hl with | [_, _], _ => rfl, PySem.W.mg_of X G ad22⟩⟩
  have Fd23 := fun_mk (st := sIsBear) ld23 od23 kd23
  have Dd23 : ∃ f fd, DefAt K mg "is_bearing" sIsBear ["forest", "thing"] f fd := ⟨_, _, ⟨Fd23, Fd23.binds (ps := ["forest", "thing"]) fun _ _ _ _ _ _ us hl => match us, hl with | [_, _], _ => rfl, PySem.W.mg_of X G ad23⟩⟩
  have Fd24 := fun_mk (st := sIsAsk) ld24 od24 kd24
  have Dd24 : ∃ f fd, DefAt K mg "is_asking" sIsAsk ["forest", "thing"] f fd := ⟨_, _, ⟨Fd24, Fd24.binds (ps := ["forest", "thing"]) fun _ _ _ _ _ _ us hl => match us, hl with | [_, _], _ => rfl, PySem.W.mg_of X G ad24⟩⟩
  have Fd25 := fun_mk (st := sIsAmt) ld25 od25 kd25
  have Dd25 : ∃ f fd, DefAt K mg "is_amounts" sIsAmt ["forest", "thing"] f fd := ⟨_, _, ⟨Fd25, Fd25.binds (ps := ["forest", "thing"]) fun _ _ _ _ _ _ us hl => match us, hl with | [_, _], _ => rfl, PySem.W.mg_of X G ad25⟩⟩
  have Fd26 := fun_mk (st := sLWords) ld26 od26 kd26
  have Dd26 : ∃ f fd, DefAt K mg "_law_words" sLWords ["_law_pool_here", "_law_places"] f fd := ⟨_, _, ⟨Fd26, Fd26.binds (ps := ["_law_pool_here", "_law_places"]) fun _ _ _ _ _ _ us hl => match us, hl with | [_, _], _ => rfl, PySem.W.mg_of X G ad26⟩⟩
  have Fd27 := fun_mk (st := sLJoin) ld27 od27 kd27
  have Dd27 : ∃ f fd, DefAt K mg "_law_joined" sLJoin ["_law_one", "_law_other"] f fd := ⟨_, _, ⟨Fd27, Fd27.binds (ps := ["_law_one", "_law_other"]) fun _ _ _ _ _ _ us hl => match us, hl with | [_, _], _ => rfl, PySem.W.mg_of X G ad27⟩⟩
  have Fd28 := fun_mk (st := sLTog) ld28 od28 kd28
  have Dd28 : ∃ f fd, DefAt K mg "_law_together" sLTog ["_law_add", "_law_things"] f fd := ⟨_, _, ⟨Fd28, Fd28.binds (ps := ["_law_add", "_law_things"]) fun _ _ _ _ _ _ us hl => match us, hl with | [_, _], _ => rfl, PySem.W.mg_of X G ad28⟩⟩
  have Fd29 := fun_mk (st := sTogt) ld29 od29 kd29
  have Dd29 : ∃ f fd, DefAt K mg "together" sTogt ["adding", "things"] f fd := ⟨_, _, ⟨Fd29, Fd29.binds (ps := ["adding", "things"]) fun _ _ _ _ _ _ us hl => match us, hl with | [_, _], _ => rfl, PySem.W.mg_of X G ad29⟩⟩
  have Fd30 := fun_mk (st := sHold1) ld30 od30 kd30
  have Dd30 : ∃ f fd, DefAt K mg "holding_one" sHold1 ["notes", "places"] f fd := ⟨_, _, ⟨Fd30, Fd30.binds (ps := ["notes", "places"]) fun _ _ _ _ _ _ us hl => match us, hl with | [_, _], _ => rfl, PySem.W.mg_of X G ad30⟩⟩
  have Fd31 := fun_mk (st := sReadAt) ld31 od31 kd31
  have Dd31 : ∃ f fd, DefAt K mg "reading_at" sReadAt ["notes", "place"] f fd := ⟨_, _, ⟨Fd31, Fd31.binds (ps := ["notes", "place"]) fun _ _ _ _ _ _ us hl => match us, hl with | [_, _], _ => rfl, PySem.W.mg_of X G ad31⟩⟩
  have Fd32 := fun_mk (st := sLRows) ld32 od32 kd32
  have Dd32 : ∃ f fd, DefAt K mg "_law_rows" sLRows ["_law_spec_here", "_law_plan_here"] f fd := ⟨_, _, ⟨Fd32, Fd32.binds (ps := ["_law_spec_here", "_law_plan_here"]) fun _ _ _ _ _ _ us hl => match us, hl with | [_, _], _ => rfl, PySem.W.mg_of X G ad32⟩⟩
  have Fd33 := fun_mk (st := sLCome) ld33 od33 kd33
  have Dd33 : ∃ f fd, DefAt K mg "_law_come" sLCome ["_law_spec_here", "_law_amounts", "_law_add", "_law_place"] f fd := ⟨_, _, ⟨Fd33, Fd33.binds (ps := ["_law_spec_here", "_law_amounts", "_law_add", "_law_place"]) fun _ _ _ _ _ _ us hl => match us, hl with | [_, _, _, _], _ => rfl, PySem.W.mg_of X G ad33⟩⟩
  have Fd34 := fun_mk (st := sLReads) ld34 od34 kd34
  have Dd34 : ∃ f fd, DefAt K mg "_law_reads" sLReads ["_law_rows_here", "_law_place"] f fd := ⟨_, _, ⟨Fd34, Fd34.binds (ps := ["_law_rows_here", "_law_place"]) fun _ _ _ _ _ _ us hl => match us, hl with | [_, _], _ => rfl, PySem.W.mg_of X G ad34⟩⟩
  have Fd35 := fun_mk (st := sLTouch) ld35 od35 kd35
  have Dd35 : ∃ f fd, DefAt K mg "_law_touches" sLTouch ["_law_rows_here", "_law_places"] f fd := ⟨_, _, ⟨Fd35, Fd35.binds (ps := ["_law_rows_here", "_law_places"]) fun _ _ _ _ _ _ us hl => match us, hl with | [_, _], _ => rfl, PySem.W.mg_of X G ad35⟩⟩
  have Fd36 := fun_mk (st := sAllM) ld36 od36 kd36
  have Dd36 : ∃ f fd, DefAt K mg "_all_made" sAllM ["amounts", "notes", "stay", "adding", "time"] f fd := ⟨_, _, ⟨Fd36, Fd36.binds (ps := ["amounts", "notes", "stay", "adding", "time"]) fun _ _ _ _ _ _ us hl => match us, hl with | [_, _, _, _, _], _ => rfl, PySem.W.mg_of X G ad36⟩⟩
  have Fd37 := fun_mk (st := sFirstS) ld37 od37 kd37
  have Dd37 : ∃ f fd, DefAt K mg "first_state" sFirstS ["forest", "plan", "amounts", "adding"] f fd := ⟨_, _, ⟨Fd37, Fd37.binds (ps := ["forest", "plan", "amounts", "adding"]) fun _ _ _ _ _ _ us hl => match us, hl with | [_, _, _, _], _ => rfl, PySem.W.mg_of X G ad37⟩⟩
  have Fd38 := fun_mk (st := sAnewC) ld38 od38 kd38
  have Dd38 : ∃ f fd, DefAt K mg "anew_by_changes" sAnewC ["state", "changes"] f fd := ⟨_, _, ⟨Fd38, Fd38.binds (ps := ["state", "changes"]) fun _ _ _ _ _ _ us hl => match us, hl with | [_, _], _ => rfl, PySem.W.mg_of X G ad38⟩⟩
  have Fd39 := fun_mk (st := sChgS) ld39 od39 kd39
  have Dd39 : ∃ f fd, DefAt K mg "changed_state" sChgS ["state", "changes", "adding", "time"] f fd := ⟨_, _, ⟨Fd39, Fd39.binds (ps := ["state", "changes", "adding", "time"]) fun _ _ _ _ _ _ us hl => match us, hl with | [_, _, _, _], _ => rfl, PySem.W.mg_of X G ad39⟩⟩
  have Fd40 := fun_mk (st := sNewsD) ld40 od40 kd40
  have Dd40 : ∃ f fd, DefAt K mg "_law_news_due" sNewsD ["_law_spec_here", "_law_amounts", "_law_watched", "_law_changed"] f fd := ⟨_, _, ⟨Fd40, Fd40.binds (ps := ["_law_spec_here", "_law_amounts", "_law_watched", "_law_changed"]) fun _ _ _ _ _ _ us hl => match us, hl with | [_, _, _, _], _ => rfl, PySem.W.mg_of X G ad40⟩⟩
  have Fd41 := fun_mk (st := sIsChg) ld41 od41 kd41
  have Dd41 : ∃ f fd, DefAt K mg "is_changes" sIsChg ["forest", "thing"] f fd := ⟨_, _, ⟨Fd41, Fd41.binds (ps := ["forest", "thing"]) fun _ _ _ _ _ _ us hl => match us, hl with | [_, _], _ => rfl, PySem.W.mg_of X G ad41⟩⟩
  have Fd42 := fun_mk (st := sLTxtC) ld42 od42 kd42
  have Dd42 : ∃ f fd, DefAt K mg "_law_text_changes" sLTxtC ["_law_pool_here", "_law_spec_here"] f fd := ⟨_, _, ⟨Fd42, Fd42.binds (ps := ["_law_pool_here", "_law_spec_here"]) fun _ _ _ _ _ _ us hl => match us, hl with | [_, _], _ => rfl, PySem.W.mg_of X G ad42⟩⟩
  have FW := fun_mk (st := sLaw) lW oW kW
  have FTa0 := fun_mk (st := sTa_init) lTa0 oTa0 kTa0
  have bTa0 := FTa0.binds (ps := ["self", "hierarchy", "levels", "amounts", "notes", "made"]) fun _ _ _ _ _ _ us hl => match us, hl with | [_, _, _, _, _, _], _ => rfl
  have FTa1 := fun_mk (st := sTa_answer) lTa1 oTa1 kTa1
  have bTa1 := FTa1.binds (ps := ["self", "adding", "place"]) fun _ _ _ _ _ _ us hl => match us, hl with | [_, _, _], _ => rfl
  have FTa2 := fun_mk (st := sTa_versions) lTa2 oTa2 kTa2
  have bTa2 := FTa2.binds (ps := ["self"]) fun _ _ _ _ _ _ us hl => match us, hl with | [_], _ => rfl
  have FSo0 := fun_mk (st := sSo_init) lSo0 oSo0 kSo0
  have bSo0 := FSo0.binds (ps := ["self", "forest", "plan", "amounts", "adding"]) fun _ _ _ _ _ _ us hl => match us, hl with | [_, _, _, _, _], _ => rfl
  have FSo1 := fun_mk (st := sSo_change) lSo1 oSo1 kSo1
  have bSo1 := FSo1.binds (ps := ["self", "place", "amount"]) fun _ _ _ _ _ _ us hl => match us, hl with | [_, _, _], _ => rfl
  have FSo2 := fun_mk (st := sSo_change_all) lSo2 oSo2 kSo2
  have bSo2 := FSo2.binds (ps := ["self", "changes"]) fun _ _ _ _ _ _ us hl => match us, hl with | [_, _], _ => rfl
  have FSo3 := fun_mk (st := sSo__change) lSo3 oSo3 kSo3
  have bSo3 := FSo3.binds (ps := ["self", "changes"]) fun _ _ _ _ _ _ us hl => match us, hl with | [_, _], _ => rfl
  have FSo4 := fun_mk (st := sSo_ask) lSo4 oSo4 kSo4
  have bSo4 := FSo4.binds (ps := ["self", "place"]) fun _ _ _ _ _ _ us hl => match us, hl with | [_, _], _ => rfl
  have FSo5 := fun_mk (st := sSo_amount) lSo5 oSo5 kSo5
  have bSo5 := FSo5.binds (ps := ["self", "place"]) fun _ _ _ _ _ _ us hl => match us, hl with | [_, _], _ => rfl
  have FSo6 := fun_mk (st := sSo_kept) lSo6 oSo6 kSo6
  have bSo6 := FSo6.binds (ps := ["self"]) fun _ _ _ _ _ _ us hl => match us, hl with | [_], _ => rfl
  have FSo7 := fun_mk (st := sSo_touched) lSo7 oSo7 kSo7
  have bSo7 := FSo7.binds (ps := ["self"]) fun _ _ _ _ _ _ us hl => match us, hl with | [_], _ => rfl
  have FSo8 := fun_mk (st := sSo_asked) lSo8 oSo8 kSo8
  have bSo8 := FSo8.binds (ps := ["self"]) fun _ _ _ _ _ _ us hl => match us, hl with | [_], _ => rfl
  have FSo9 := fun_mk (st := sSo_watch) lSo9 oSo9 kSo9
  have bSo9 := FSo9.binds (ps := ["self", "place"]) fun _ _ _ _ _ _ us hl => match us, hl with | [_, _], _ => rfl
  have FSo10 := fun_mk (st := sSo_unwatch) lSo10 oSo10 kSo10
  have bSo10 := FSo10.binds (ps := ["self", "place"]) fun _ _ _ _ _ _ us hl => match us, hl with | [_, _], _ => rfl
  have FSo11 := fun_mk (st := sSo_watched) lSo11 oSo11 kSo11
  have bSo11 := FSo11.binds (ps := ["self"]) fun _ _ _ _ _ _ us hl => match us, hl with | [_], _ => rfl
  have FSo12 := fun_mk (st := sSo_news) lSo12 oSo12 kSo12
  have bSo12 := FSo12.binds (ps := ["self"]) fun _ _ _ _ _ _ us hl => match us, hl with | [_], _ => rfl
  have FSo13 := fun_mk (st := sSo_forest) lSo13 oSo13 kSo13
  have bSo13 := FSo13.binds (ps := ["self"]) fun _ _ _ _ _ _ us hl => match us, hl with | [_], _ => rfl
  have FSo14 := fun_mk (st := sSo_plan) lSo14 oSo14 kSo14
  have bSo14 := FSo14.binds (ps := ["self"]) fun _ _ _ _ _ _ us hl => match us, hl with | [_], _ => rfl
  have FSo15 := fun_mk (st := sSo_hang) lSo15 oSo15 kSo15
  have bSo15 := FSo15.binds (ps := ["self", "parent", "level", "asks", "amounts"]) fun _ _ _ _ _ _ us hl => match us, hl with | [_, _, _, _, _], _ => rfl
  have FSo16 := fun_mk (st := sSo_turn) lSo16 oSo16 kSo16
  have bSo16 := FSo16.binds (ps := ["self", "forest", "plan", "amounts"]) fun _ _ _ _ _ _ us hl => match us, hl with | [_, _, _, _], _ => rfl
  have FSo17 := fun_mk (st := sSo__turn) lSo17 oSo17 kSo17
  have bSo17 := FSo17.binds (ps := ["self", "forest", "plan", "amounts"]) fun _ _ _ _ _ _ us hl => match us, hl with | [_, _, _, _], _ => rfl
  have FSo18 := fun_mk (st := sSo__watch_on) lSo18 oSo18 kSo18
  have bSo18 := FSo18.binds (ps := ["self"]) fun _ _ _ _ _ _ us hl => match us, hl with | [_], _ => rfl
  have FSo19 := fun_mk (st := sSo_mark) lSo19 oSo19 kSo19
  have bSo19 := FSo19.binds (ps := ["self"]) fun _ _ _ _ _ _ us hl => match us, hl with | [_], _ => rfl
  have FSo20 := fun_mk (st := sSo__marked_state) lSo20 oSo20 kSo20
  have bSo20 := FSo20.binds (ps := ["self", "mark"]) fun _ _ _ _ _ _ us hl => match us, hl with | [_, _], _ => rfl
  have FSo21 := fun_mk (st := sSo_ask_at) lSo21 oSo21 kSo21
  have bSo21 := FSo21.binds (ps := ["self", "mark", "place"]) fun _ _ _ _ _ _ us hl => match us, hl with | [_, _, _], _ => rfl
  have FSo22 := fun_mk (st := sSo_back_to) lSo22 oSo22 kSo22
  have bSo22 := FSo22.binds (ps := ["self", "mark"]) fun _ _ _ _ _ _ us hl => match us, hl with | [_, _], _ => rfl
  have FSo23 := fun_mk (st := sSo_drop) lSo23 oSo23 kSo23
  have bSo23 := FSo23.binds (ps := ["self", "mark"]) fun _ _ _ _ _ _ us hl => match us, hl with | [_, _], _ => rfl
  have FSo24 := fun_mk (st := sSo_marks) lSo24 oSo24 kSo24
  have bSo24 := FSo24.binds (ps := ["self"]) fun _ _ _ _ _ _ us hl => match us, hl with | [_], _ => rfl
  have FSo25 := fun_mk (st := sSo_held) lSo25 oSo25 kSo25
  have bSo25 := FSo25.binds (ps := ["self"]) fun _ _ _ _ _ _ us hl => match us, hl with | [_], _ => rfl
  have FSo26 := fun_mk (st := sSo_copy) lSo26 oSo26 kSo26
  have bSo26 := FSo26.binds (ps := ["self"]) fun _ _ _ _ _ _ us hl => match us, hl with | [_], _ => rfl
  have FSo27 := fun_mk (st := sSo_trying) lSo27 oSo27 kSo27
  have bSo27 := FSo27.binds (ps := ["self", "action"]) fun _ _ _ _ _ _ us hl => match us, hl with | [_, _], _ => rfl
  have UTa : TaT K mg ZTa := ⟨⟨pgTa, hdTa, poTa, saTa⟩, PySem.W.mg_of X G aCTa, nTa_hierarchy, nTa_levels, nTa_amounts, nTa_notes, nTa_made, ⟨_, _, FTa0, ⟨mkTa, aTa0, iTa0, kcTa⟩, bTa0⟩, ⟨_, _, FTa1, ⟨aTa1, iTa1, kTa1⟩, bTa1⟩, ⟨_, _, FTa2, ⟨aTa2, iTa2, kTa2⟩, bTa2⟩⟩
  have USo : SoT K mg ZSo := ⟨⟨pgSo, hdSo, poSo, saSo⟩, PySem.W.mg_of X G aCSo, nSo__adding, nSo__state, nSo__time, nSo__touches, nSo__reads, nSo__fresh, nSo__marked, nSo__next_mark, ⟨_, _, FSo0, ⟨mkSo, aSo0, iSo0, kcSo⟩, bSo0⟩, ⟨_, _, FSo1, ⟨aSo1, iSo1, kSo1⟩, bSo1⟩, ⟨_, _, FSo2, ⟨aSo2, iSo2, kSo2⟩, bSo2⟩, ⟨_, _, FSo3, ⟨aSo3, iSo3, kSo3⟩, bSo3⟩, ⟨_, _, FSo4, ⟨aSo4, iSo4, kSo4⟩, bSo4⟩, ⟨_, _, FSo5, ⟨aSo5, iSo5, kSo5⟩, bSo5⟩, ⟨_, _, FSo6, ⟨aSo6, iSo6, kSo6⟩, bSo6⟩, ⟨_, _, FSo7, ⟨aSo7, iSo7, kSo7⟩, bSo7⟩, ⟨_, _, FSo8, ⟨aSo8, iSo8, kSo8⟩, bSo8⟩, ⟨_, _, FSo9, ⟨aSo9, iSo9, kSo9⟩, bSo9⟩, ⟨_, _, FSo10, ⟨aSo10, iSo10, kSo10⟩, bSo10⟩, ⟨_, _, FSo11, ⟨aSo11, iSo11, kSo11⟩, bSo11⟩, ⟨_, _, FSo12, ⟨aSo12, iSo12, kSo12⟩, bSo12⟩, ⟨_, _, FSo13, ⟨aSo13, iSo13, kSo13⟩, bSo13⟩, ⟨_, _, FSo14, ⟨aSo14, iSo14, kSo14⟩, bSo14⟩, ⟨_, _, FSo15, ⟨aSo15, iSo15, kSo15⟩, bSo15⟩, ⟨_, _, FSo16, ⟨aSo16, iSo16, kSo16⟩, bSo16⟩, ⟨_, _, FSo17, ⟨aSo17, iSo17, kSo17⟩, bSo17⟩, ⟨_, _, FSo18, ⟨aSo18, iSo18, kSo18⟩, bSo18⟩, ⟨_, _, FSo19, ⟨aSo19, iSo19, kSo19⟩, bSo19⟩, ⟨_, _, FSo20, ⟨aSo20, iSo20, kSo20⟩, bSo20⟩, ⟨_, _, FSo21, ⟨aSo21, iSo21, kSo21⟩, bSo21⟩, ⟨_, _, FSo22, ⟨aSo22, iSo22, kSo22⟩, bSo22⟩, ⟨_, _, FSo23, ⟨aSo23, iSo23, kSo23⟩, bSo23⟩, ⟨_, _, FSo24, ⟨aSo24, iSo24, kSo24⟩, bSo24⟩, ⟨_, _, FSo25, ⟨aSo25, iSo25, kSo25⟩, bSo25⟩, ⟨_, _, FSo26, ⟨aSo26, iSo26, kSo26⟩, bSo26⟩, ⟨_, _, FSo27, ⟨aSo27, iSo27, kSo27⟩, bSo27⟩⟩
  have FN := fun_mk (st := sInit) lN oN kN
  have bN := FN.binds (ps := ["self", "parents", "bearing", "asking"]) fun _ _ _ _ _ _ us hl => match us, hl with | [_, _, _, _], _ => rfl
  have T : FoT K mg C := ⟨⟨pg, hd, po, sa⟩, nP, nB, nA, PySem.W.mg_of X G aC⟩
  have B : Defs K mg C := ⟨NT, T, ⟨tm, PySem.W.mg_of X G mM⟩, ⟨tmMOST_CHANGES, PySem.W.mg_of X G mMOST_CHANGES⟩, PySem.W.mg_none_of X G zany, PySem.W.mg_none_of X G zsum, PySem.W.mg_none_of X G zdict, PySem.W.mg_none_of X G zValueError, PySem.W.mg_none_of X G zstr, ⟨_, UTa⟩, ⟨_, USo⟩, ⟨_, _, FN, ⟨mk, aN, iN, kc⟩, bN⟩, Dd0, Dd1, Dd2, Dd3, Dd4, Dd5, Dd6, Dd7, Dd8, Dd9, Dd10, Dd11, Dd12, Dd13, Dd14, Dd15, Dd16, Dd17, Dd18, Dd19, Dd20, Dd21, Dd22, Dd23, Dd24, Dd25, Dd26, Dd27, Dd28, Dd29, Dd30, Dd31, Dd32, Dd33, Dd34, Dd35, Dd36, Dd37, Dd38, Dd39, Dd40, Dd41, Dd42⟩
  exact ⟨PySem.W.fnOf "law" "law" (defArgs sLaw) (defBody sLaw) (defScope sLaw) .none kVW dcW pmW anW cdW ctW, fun s v => .of_eq rfl, fun base _ _ => ok_law FW B⟩
theorem walk {l : PySem.W.OpenLaw} {q : Program} {loose : List Str} {XP : (Str → Option Value) → Heap → Prop} {YP : World → Heap → Prop} {d : DefRec} {K : Params → PySem.W.Frag} (hn : l.most = some 63) (hdf : d.params.defaults = [])
    (hY : ∀ (w : World) (h : Heap), YP w h → (K w.params).In h)
    (F : ∀ (w : World) (mg : Str → Option Value) (fa : Addr) (h : Heap), (K w.params).In h → h.Ns mainGlobals mg → mg d.name = some (.ref fa) →
      ∃ fd : FuncData, (∀ (s : Shared) (u : Value), BindsTo s fd ⟨[u], []⟩ [("_law_script", u)]) ∧ ∀ base : Heap, (K w.params).In base → base.Ns mainGlobals mg → FnOk l.prog w (K w.params) mg base CX0 10 fa fd ["_law_script"] (spLaw (K w.params))) :
    PySem.W.WalkO q loose XP YP l.row.toRowW d [] (fun f vs => PySem.call f vs) :=
  L2.walk_of (n := 63) (k := 10) (x := "_law_script") (CX := fun _ => CX0) (sp := fun w => spLaw (K w.params)) hn (by decide) hdf ⟨rfl, by decide, by decide⟩ hY F (fun _ _ a ns hl _ hS => ⟨a, ns, rfl, hS, hl, fun _ => rfl⟩) fun _ _ _ _ _ z => z
end Cn
open PySem PySem.W PyProof.Rows
set_option maxRecDepth 100000 in
set_option maxHeartbeats 0 in
theorem PySem.Challenge.cw_cutnotes_k31_whole_what_is_counted_and_w_holds : PySem.Challenge.rw_cutnotes_k31_whole_what_is_counted_and_w.Holds := by
  w_on; o_law; k_head; (case hw => w_witness2)
  k_fill
  refine Cn.walk (l := PySem.Challenge.rw_cutnotes_k31_whole_what_is_counted_and_w) rfl rfl (fun w h Y => PySem.W.kIn_of Y) ?F
  case F =>
    intro w mg fa h KX G hmg
    refine' Cn.all_mk KX G hmg ?aC ?pg ?hd ?po ?sa ?mk ?kc ?nP ?nB ?nA ?mM ?mMOST_CHANGES ?aN ?iN ?lN ?oN ?kN ?aCTa ?pgTa ?hdTa ?poTa ?saTa ?mkTa ?kcTa ?nTa_hierarchy ?nTa_levels ?nTa_amounts ?nTa_notes ?nTa_made ?a_Ta0 ?i_Ta0 ?l_Ta0 ?o_Ta0 ?k_Ta0 ?a_Ta1 ?i_Ta1 ?l_Ta1 ?o_Ta1 ?k_Ta1 ?a_Ta2 ?i_Ta2 ?l_Ta2 ?o_Ta2 ?k_Ta2 ?aCSo ?pgSo ?hdSo ?poSo ?saSo ?mkSo ?kcSo ?nSo__adding ?nSo__state ?nSo__time ?nSo__touches ?nSo__reads ?nSo__fresh ?nSo__marked ?nSo__next_mark ?a_So0 ?i_So0 ?l_So0 ?o_So0 ?k_So0 ?a_So1 ?i_So1 ?l_So1 ?o_So1 ?k_So1 ?a_So2 ?i_So2 ?l_So2 ?o_So2 ?k_So2 ?a_So3 ?i_So3 ?l_So3 ?o_So3 ?k_So3 ?a_So4 ?i_So4 ?l_So4 ?o_So4 ?k_So4 ?a_So5 ?i_So5 ?l_So5 ?o_So5 ?k_So5 ?a_So6 ?i_So6 ?l_So6 ?o_So6 ?k_So6 ?a_So7 ?i_So7 ?l_So7 ?o_So7 ?k_So7 ?a_So8 ?i_So8 ?l_So8 ?o_So8 ?k_So8 ?a_So9 ?i_So9 ?l_So9 ?o_So9 ?k_So9 ?a_So10 ?i_So10 ?l_So10 ?o_So10 ?k_So10 ?a_So11 ?i_So11 ?l_So11 ?o_So11 ?k_So11 ?a_So12 ?i_So12 ?l_So12 ?o_So12 ?k_So12 ?a_So13 ?i_So13 ?l_So13 ?o_So13 ?k_So13 ?a_So14 ?i_So14 ?l_So14 ?o_So14 ?k_So14 ?a_So15 ?i_So15 ?l_So15 ?o_So15 ?k_So15 ?a_So16 ?i_So16 ?l_So16 ?o_So16 ?k_So16 ?a_So17 ?i_So17 ?l_So17 ?o_So17 ?k_So17 ?a_So18 ?i_So18 ?l_So18 ?o_So18 ?k_So18 ?a_So19 ?i_So19 ?l_So19 ?o_So19 ?k_So19 ?a_So20 ?i_So20 ?l_So20 ?o_So20 ?k_So20 ?a_So21 ?i_So21 ?l_So21 ?o_So21 ?k_So21 ?a_So22 ?i_So22 ?l_So22 ?o_So22 ?k_So22 ?a_So23 ?i_So23 ?l_So23 ?o_So23 ?k_So23 ?a_So24 ?i_So24 ?l_So24 ?o_So24 ?k_So24 ?a_So25 ?i_So25 ?l_So25 ?o_So25 ?k_So25 ?a_So26 ?i_So26 ?l_So26 ?o_So26 ?k_So26 ?a_So27 ?i_So27 ?l_So27 ?o_So27 ?k_So27 ?a_d0 ?l_d0 ?o_d0 ?k_d0 ?a_d1 ?l_d1 ?o_d1 ?k_d1 ?a_d2 ?l_d2 ?o_d2 ?k_d2 ?a_d3 ?l_d3 ?o_d3 ?k_d3 ?a_d4 ?l_d4 ?o_d4 ?k_d4 ?a_d5 ?l_d5 ?o_d5 ?k_d5 ?a_d6 ?l_d6 ?o_d6 ?k_d6 ?a_d7 ?l_d7 ?o_d7 ?k_d7 ?a_d8 ?l_d8 ?o_d8 ?k_d8 ?a_d9 ?l_d9 ?o_d9 ?k_d9 ?a_d10 ?l_d10 ?o_d10 ?k_d10 ?a_d11 ?l_d11 ?o_d11 ?k_d11 ?a_d12 ?l_d12 ?o_d12 ?k_d12 ?a_d13 ?l_d13 ?o_d13 ?k_d13 ?a_d14 ?l_d14 ?o_d14 ?k_d14 ?a_d15 ?l_d15 ?o_d15 ?k_d15 ?a_d16 ?l_d16 ?o_d16 ?k_d16 ?a_d17 ?l_d17 ?o_d17 ?k_d17 ?a_d18 ?l_d18 ?o_d18 ?k_d18 ?a_d19 ?l_d19 ?o_d19 ?k_d19 ?a_d20 ?l_d20 ?o_d20 ?k_d20 ?a_d21 ?l_d21 ?o_d21 ?k_d21 ?a_d22 ?l_d22 ?o_d22 ?k_d22 ?a_d23 ?l_d23 ?o_d23 ?k_d23 ?a_d24 ?l_d24 ?o_d24 ?k_d24 ?a_d25 ?l_d25 ?o_d25 ?k_d25 ?a_d26 ?l_d26 ?o_d26 ?k_d26 ?a_d27 ?l_d27 ?o_d27 ?k_d27 ?a_d28 ?l_d28 ?o_d28 ?k_d28 ?a_d29 ?l_d29 ?o_d29 ?k_d29 ?a_d30 ?l_d30 ?o_d30 ?k_d30 ?a_d31 ?l_d31 ?o_d31 ?k_d31 ?a_d32 ?l_d32 ?o_d32 ?k_d32 ?a_d33 ?l_d33 ?o_d33 ?k_d33 ?a_d34 ?l_d34 ?o_d34 ?k_d34 ?a_d35 ?l_d35 ?o_d35 ?k_d35 ?a_d36 ?l_d36 ?o_d36 ?k_d36 ?a_d37 ?l_d37 ?o_d37 ?k_d37 ?a_d38 ?l_d38 ?o_d38 ?k_d38 ?a_d39 ?l_d39 ?o_d39 ?k_d39 ?a_d40 ?l_d40 ?o_d40 ?k_d40 ?a_d41 ?l_d41 ?o_d41 ?k_d41 ?a_d42 ?l_d42 ?o_d42 ?k_d42 ?a_W ?l_W ?o_W ?k_W ?z_isinstance ?z_tuple ?z_list ?z_bool ?z_len ?z_all ?z_zip ?z_int ?z_abs ?z_range ?z_enumerate ?z_reversed ?z_sorted ?z_min ?z_any ?z_sum ?z_dict ?z_ValueError ?z_str
    (case aC => k_is); (case pg => k_is); (case hd => k_is); (case po => k_is); (case sa => k_is); (case mk => k_is); (case kc => k_is); (case nP => k_is)
    (case nB => k_is); (case nA => k_is); (case mM => k_is); (case mMOST_CHANGES => k_is); (case aN => k_is); (case iN => k_is); (case lN => k_is); (case oN => k_is)
    (case kN => k_is); (case aCTa => k_is); (case pgTa => k_is); (case hdTa => k_is); (case poTa => k_is); (case saTa => k_is); (case mkTa => k_is); (case kcTa => k_is)
    (case nTa_hierarchy => k_is); (case nTa_levels => k_is); (case nTa_amounts => k_is); (case nTa_notes => k_is); (case nTa_made => k_is); (case a_Ta0 => k_is); (case i_Ta0 => k_is); (case l_Ta0 => k_is)
    (case o_Ta0 => k_is); (case k_Ta0 => k_is); (case a_Ta1 => k_is); (case i_Ta1 => k_is); (case l_Ta1 => k_is); (case o_Ta1 => k_is); (case k_Ta1 => k_is); (case a_Ta2 => k_is)
    (case i_Ta2 => k_is); (case l_Ta2 => k_is); (case o_Ta2 => k_is); (case k_Ta2 => k_is); (case aCSo => k_is); (case pgSo => k_is); (case hdSo => k_is); (case poSo => k_is)
    (case saSo => k_is); (case mkSo => k_is); (case kcSo => k_is); (case nSo__adding => k_is); (case nSo__state => k_is); (case nSo__time => k_is); (case nSo__touches => k_is); (case nSo__reads => k_is)
    (case nSo__fresh => k_is); (case nSo__marked => k_is); (case nSo__next_mark => k_is); (case a_So0 => k_is); (case i_So0 => k_is); (case l_So0 => k_is); (case o_So0 => k_is); (case k_So0 => k_is)
    (case a_So1 => k_is); (case i_So1 => k_is); (case l_So1 => k_is); (case o_So1 => k_is); (case k_So1 => k_is); (case a_So2 => k_is); (case i_So2 => k_is); (case l_So2 => k_is)
    (case o_So2 => k_is); (case k_So2 => k_is); (case a_So3 => k_is); (case i_So3 => k_is); (case l_So3 => k_is); (case o_So3 => k_is); (case k_So3 => k_is); (case a_So4 => k_is)
    (case i_So4 => k_is); (case l_So4 => k_is); (case o_So4 => k_is); (case k_So4 => k_is); (case a_So5 => k_is); (case i_So5 => k_is); (case l_So5 => k_is); (case o_So5 => k_is)
    (case k_So5 => k_is); (case a_So6 => k_is); (case i_So6 => k_is); (case l_So6 => k_is); (case o_So6 => k_is); (case k_So6 => k_is); (case a_So7 => k_is); (case i_So7 => k_is)
    (case l_So7 => k_is); (case o_So7 => k_is); (case k_So7 => k_is); (case a_So8 => k_is); (case i_So8 => k_is); (case l_So8 => k_is); (case o_So8 => k_is); (case k_So8 => k_is)
    (case a_So9 => k_is); (case i_So9 => k_is); (case l_So9 => k_is); (case o_So9 => k_is); (case k_So9 => k_is); (case a_So10 => k_is); (case i_So10 => k_is); (case l_So10 => k_is)
    (case o_So10 => k_is); (case k_So10 => k_is); (case a_So11 => k_is); (case i_So11 => k_is); (case l_So11 => k_is); (case o_So11 => k_is); (case k_So11 => k_is); (case a_So12 => k_is)
    (case i_So12 => k_is); (case l_So12 => k_is); (case o_So12 => k_is); (case k_So12 => k_is); (case a_So13 => k_is); (case i_So13 => k_is); (case l_So13 => k_is); (case o_So13 => k_is)
    (case k_So13 => k_is); (case a_So14 => k_is); (case i_So14 => k_is); (case l_So14 => k_is); (case o_So14 => k_is); (case k_So14 => k_is); (case a_So15 => k_is); (case i_So15 => k_is)
    (case l_So15 => k_is); (case o_So15 => k_is); (case k_So15 => k_is); (case a_So16 => k_is); (case i_So16 => k_is); (case l_So16 => k_is); (case o_So16 => k_is); (case k_So16 => k_is)
    (case a_So17 => k_is); (case i_So17 => k_is); (case l_So17 => k_is); (case o_So17 => k_is); (case k_So17 => k_is); (case a_So18 => k_is); (case i_So18 => k_is); (case l_So18 => k_is)
    (case o_So18 => k_is); (case k_So18 => k_is); (case a_So19 => k_is); (case i_So19 => k_is); (case l_So19 => k_is); (case o_So19 => k_is); (case k_So19 => k_is); (case a_So20 => k_is)
    (case i_So20 => k_is); (case l_So20 => k_is); (case o_So20 => k_is); (case k_So20 => k_is); (case a_So21 => k_is); (case i_So21 => k_is); (case l_So21 => k_is); (case o_So21 => k_is)
    (case k_So21 => k_is); (case a_So22 => k_is); (case i_So22 => k_is); (case l_So22 => k_is); (case o_So22 => k_is); (case k_So22 => k_is); (case a_So23 => k_is); (case i_So23 => k_is)
    (case l_So23 => k_is); (case o_So23 => k_is); (case k_So23 => k_is); (case a_So24 => k_is); (case i_So24 => k_is); (case l_So24 => k_is); (case o_So24 => k_is); (case k_So24 => k_is)
    (case a_So25 => k_is); (case i_So25 => k_is); (case l_So25 => k_is); (case o_So25 => k_is); (case k_So25 => k_is); (case a_So26 => k_is); (case i_So26 => k_is); (case l_So26 => k_is)
    (case o_So26 => k_is); (case k_So26 => k_is); (case a_So27 => k_is); (case i_So27 => k_is); (case l_So27 => k_is); (case o_So27 => k_is); (case k_So27 => k_is); (case a_d0 => k_is)
    (case l_d0 => k_is); (case o_d0 => k_is); (case k_d0 => k_is); (case a_d1 => k_is); (case l_d1 => k_is); (case o_d1 => k_is); (case k_d1 => k_is); (case a_d2 => k_is)
    (case l_d2 => k_is); (case o_d2 => k_is); (case k_d2 => k_is); (case a_d3 => k_is); (case l_d3 => k_is); (case o_d3 => k_is); (case k_d3 => k_is); (case a_d4 => k_is)
    (case l_d4 => k_is); (case o_d4 => k_is); (case k_d4 => k_is); (case a_d5 => k_is); (case l_d5 => k_is); (case o_d5 => k_is); (case k_d5 => k_is); (case a_d6 => k_is)
    (case l_d6 => k_is); (case o_d6 => k_is); (case k_d6 => k_is); (case a_d7 => k_is); (case l_d7 => k_is); (case o_d7 => k_is); (case k_d7 => k_is); (case a_d8 => k_is)
    (case l_d8 => k_is); (case o_d8 => k_is); (case k_d8 => k_is); (case a_d9 => k_is); (case l_d9 => k_is); (case o_d9 => k_is); (case k_d9 => k_is); (case a_d10 => k_is)
    (case l_d10 => k_is); (case o_d10 => k_is); (case k_d10 => k_is); (case a_d11 => k_is); (case l_d11 => k_is); (case o_d11 => k_is); (case k_d11 => k_is); (case a_d12 => k_is)
    (case l_d12 => k_is); (case o_d12 => k_is); (case k_d12 => k_is); (case a_d13 => k_is); (case l_d13 => k_is); (case o_d13 => k_is); (case k_d13 => k_is); (case a_d14 => k_is)
    (case l_d14 => k_is); (case o_d14 => k_is); (case k_d14 => k_is); (case a_d15 => k_is); (case l_d15 => k_is); (case o_d15 => k_is); (case k_d15 => k_is); (case a_d16 => k_is)
    (case l_d16 => k_is); (case o_d16 => k_is); (case k_d16 => k_is); (case a_d17 => k_is); (case l_d17 => k_is); (case o_d17 => k_is); (case k_d17 => k_is); (case a_d18 => k_is)
    (case l_d18 => k_is); (case o_d18 => k_is); (case k_d18 => k_is); (case a_d19 => k_is); (case l_d19 => k_is); (case o_d19 => k_is); (case k_d19 => k_is); (case a_d20 => k_is)
    (case l_d20 => k_is); (case o_d20 => k_is); (case k_d20 => k_is); (case a_d21 => k_is); (case l_d21 => k_is); (case o_d21 => k_is); (case k_d21 => k_is); (case a_d22 => k_is)
    (case l_d22 => k_is); (case o_d22 => k_is); (case k_d22 => k_is); (case a_d23 => k_is); (case l_d23 => k_is); (case o_d23 => k_is); (case k_d23 => k_is); (case a_d24 => k_is)
    (case l_d24 => k_is); (case o_d24 => k_is); (case k_d24 => k_is); (case a_d25 => k_is); (case l_d25 => k_is); (case o_d25 => k_is); (case k_d25 => k_is); (case a_d26 => k_is)
    (case l_d26 => k_is); (case o_d26 => k_is); (case k_d26 => k_is); (case a_d27 => k_is); (case l_d27 => k_is); (case o_d27 => k_is); (case k_d27 => k_is); (case a_d28 => k_is)
    (case l_d28 => k_is); (case o_d28 => k_is); (case k_d28 => k_is); (case a_d29 => k_is); (case l_d29 => k_is); (case o_d29 => k_is); (case k_d29 => k_is); (case a_d30 => k_is)
    (case l_d30 => k_is); (case o_d30 => k_is); (case k_d30 => k_is); (case a_d31 => k_is); (case l_d31 => k_is); (case o_d31 => k_is); (case k_d31 => k_is); (case a_d32 => k_is)
    (case l_d32 => k_is); (case o_d32 => k_is); (case k_d32 => k_is); (case a_d33 => k_is); (case l_d33 => k_is); (case o_d33 => k_is); (case k_d33 => k_is); (case a_d34 => k_is)
    (case l_d34 => k_is); (case o_d34 => k_is); (case k_d34 => k_is); (case a_d35 => k_is); (case l_d35 => k_is); (case o_d35 => k_is); (case k_d35 => k_is); (case a_d36 => k_is)
    (case l_d36 => k_is); (case o_d36 => k_is); (case k_d36 => k_is); (case a_d37 => k_is); (case l_d37 => k_is); (case o_d37 => k_is); (case k_d37 => k_is); (case a_d38 => k_is)
    (case l_d38 => k_is); (case o_d38 => k_is); (case k_d38 => k_is); (case a_d39 => k_is); (case l_d39 => k_is); (case o_d39 => k_is); (case k_d39 => k_is); (case a_d40 => k_is)
    (case l_d40 => k_is); (case o_d40 => k_is); (case k_d40 => k_is); (case a_d41 => k_is); (case l_d41 => k_is); (case o_d41 => k_is); (case k_d41 => k_is); (case a_d42 => k_is)
    (case l_d42 => k_is); (case o_d42 => k_is); (case k_d42 => k_is); (case a_W => k_is); (case l_W => k_is); (case o_W => k_is); (case k_W => k_is); (case z_isinstance => k_is)
    (case z_tuple => k_is); (case z_list => k_is); (case z_bool => k_is); (case z_len => k_is); (case z_all => k_is); (case z_zip => k_is); (case z_int => k_is); (case z_abs => k_is)
    (case z_range => k_is); (case z_enumerate => k_is); (case z_reversed => k_is); (case z_sorted => k_is); (case z_min => k_is); (case z_any => k_is); (case z_sum => k_is); (case z_dict => k_is)
    (case z_ValueError => k_is); (case z_str => k_is)
#print axioms PySem.Challenge.cw_cutnotes_k31_whole_what_is_counted_and_w_holds
