import PyProof.Rows.All
import Wide.All
import OpenK.AllK
import Wide.FinOn
import HandS.Base
import HandS.Call
import HandS.List
import HandS.Comp
import HandS.Ends
import HandS.Dict
import HandS.Iter
import HandS.Words
import HandS.WordsList
import PySem.Challenge.RW_cutnotes_k01_forests_and_rows_judged
import HandS.Zip
import HandS.IsInst
import HandS.DeepEq
import HandS.Codes
import KE.GoesMore
import KE.GoesEnum
import PyProof.EnumMake
import PyProof.Draws
import HandS.TupAny
import HandS.Rev
import HandS.Conv
import HandS.Walk
import HandS.More
import HandS.Strs
import HandS.Flow
import KE.KExcSuper
import KE.KSuper
import HandS.Exc
import HandS.ExcInit
import HandS.ExcCtx
import HandS.ExcIs
import HandS.ExcValue
import KE.KExcIs
import KE.KRevSl
import HandS.Style
import HandS.OwnEq
import PyProof.InstNe
import HandS.Lambda
import HandS.ExcOwn
import HandS.TupLe
import HandS.EndTab
import HandS.HeadWalk
import KE.KNest
import KE.RegKSuper
import HandS.ForMost
set_option Elab.async false
set_option linter.all false
set_option maxRecDepth 100000
set_option maxHeartbeats 4000000
namespace Ck
def road (ps : List (Option Nat)) (i : Nat) : List Nat :=
  match ps[i]? with
  | some (some p) => if _h : p < i then road ps p ++ [i] else [i]
  | _ => [i]
termination_by i
def stk (ps : List (Option Nat)) (lv : List Nat) (i : Nat) : List Nat :=
  match ps[i]? with
  | some (some p) => if _h : p < i then (stk ps lv p).take (lv.getD i 0 - 1) ++ [i] else [i]
  | _ => [i]
termination_by i
def Ps (ps : List (Option Nat)) : Prop := ∀ (i p : Nat), ps[i]? = some (some p) → p < i
/-- the most that the level of i may be, by the levels ahead -/
def mostLv (lv : List Nat) : Option Nat → Nat
  | none => 1
  | some p => lv.getD p 0 + 1
def Lv (ps : List (Option Nat)) (lv : List Nat) : Prop := lv.length = ps.length ∧ ∀ (i l : Nat) (q : Option Nat), lv[i]? = some l → ps[i]? = some q → 1 ≤ l ∧ l ≤ mostLv lv q
section
variable {ps : List (Option Nat)} {lv : List Nat} {i p : Nat}
theorem road_none (h : ps[i]? = some none) : road ps i = [i] := by
  rw [road, h]
theorem road_some (hp : Ps ps) (h : ps[i]? = some (some p)) : road ps i = road ps p ++ [i] := by
  have hl := hp i p h
  rw [road, h]
  dsimp only
  rw [dif_pos hl]
theorem stk_none (h : ps[i]? = some none) : stk ps lv i = [i] := by
  rw [stk, h]
theorem stk_some (hp : Ps ps) (h : ps[i]? = some (some p)) : stk ps lv i = (stk ps lv p).take (lv.getD i 0 - 1) ++ [i] := by
  have hl := hp i p h
  rw [stk, h]
  dsimp only
  rw [dif_pos hl]
theorem opt_cases (hi : i < ps.length) : ps[i]? = some none ∨ ∃ p, ps[i]? = some (some p) := by
  rw [List.getElem?_eq_getElem hi]
  cases h : ps[i] with
  | none => exact .inl rfl
  | some p => exact .inr ⟨p, rfl⟩
theorem road_le (hp : Ps ps) : ∀ n, n < ps.length → ∀ x ∈ road ps n, x ≤ n := by
  intro n
  induction n using Nat.strongRecOn with
  | ind n ih =>
    intro hn x hx
    rcases opt_cases hn with h | ⟨p, h⟩
    · rw [road_none h] at hx
      exact Nat.le_of_eq (List.mem_singleton.mp hx)
    · rw [road_some hp h] at hx
      have hl := hp n p h
      rcases List.mem_append.mp hx with hx | hx
      · exact Nat.le_of_lt (Nat.lt_of_le_of_lt (ih p hl (Nat.lt_trans hl hn) x hx) hl)
      · exact Nat.le_of_eq (List.mem_singleton.mp hx)
theorem road_self (hp : Ps ps) (hi : i < ps.length) : i ∈ road ps i := by
  rcases opt_cases hi with h | ⟨p, h⟩
  · rw [road_none h]; exact List.mem_singleton.mpr rfl
  · rw [road_some hp h]; exact List.mem_append.mpr (.inr (List.mem_singleton.mpr rfl))
theorem road_ne (hp : Ps ps) (hi : i < ps.length) : road ps i ≠ [] := fun z => by
  have h := road_self hp hi
  rw [z] at h; cases h
theorem road_len (hp : Ps ps) : ∀ n, n < ps.length → (road ps n).length ≤ n + 1 := by
  intro n
  induction n using Nat.strongRecOn with
  | ind n ih =>
    intro hn
    rcases opt_cases hn with h | ⟨p, h⟩
    · rw [road_none h]; exact Nat.le_add_left _ _
    · have hl := hp n p h
      have := ih p hl (Nat.lt_trans hl hn)
      rw [road_some hp h, List.length_append, List.length_singleton]
      omega
theorem getD_of {xs : List Nat} {l : Nat} (h : xs[i]? = some l) : xs.getD i 0 = l := by
  rw [List.getD_eq_getElem?_getD, h]; rfl
theorem stk_len (hp : Ps ps) (hv : Lv ps lv) : ∀ n, n < ps.length → (stk ps lv n).length = lv.getD n 0 := by
  intro n
  induction n using Nat.strongRecOn with
  | ind n ih =>
    intro hn
    have hl : lv[n]? = some (lv.getD n 0) := by
      rw [List.getD_eq_getElem?_getD, List.getElem?_eq_getElem (by rw [hv.1]; exact hn)]; rfl
    rcases opt_cases hn with h | ⟨p, h⟩
    · have := hv.2 n _ _ hl h
      rw [stk_none h, List.length_singleton]
      have e : mostLv lv none = 1 := rfl
      omega
    · have hpn := hp n p h
      have := hv.2 n _ _ hl h
      have e := ih p hpn (Nat.lt_trans hpn hn)
      have e2 : mostLv lv (some p) = lv.getD p 0 + 1 := rfl
      rw [stk_some hp h, List.length_append, List.length_singleton, List.length_take, e]
      omega
theorem stk_sub (hp : Ps ps) : ∀ n, n < ps.length → ∀ x ∈ stk ps lv n, x ∈ road ps n := by
  intro n
  induction n using Nat.strongRecOn with
  | ind n ih =>
    intro hn x hx
    rcases opt_cases hn with h | ⟨p, h⟩
    · rw [stk_none h] at hx
      rw [road_none h]; exact hx
    · have hl := hp n p h
      rw [stk_some hp h] at hx
      rw [road_some hp h]
      rcases List.mem_append.mp hx with hx | hx
      · exact List.mem_append.mpr (.inl (ih p hl (Nat.lt_trans hl hn) x (List.mem_of_mem_take hx)))
      · exact List.mem_append.mpr (.inr hx)
end
/-! those of a list that rank below all behind them -/
def rlm (rk : Nat → Nat) : List Nat → List Nat
  | [] => []
  | x :: xs => if ∀ y ∈ xs, rk x < rk y then x :: rlm rk xs else rlm rk xs
section
variable {rk rk' : Nat → Nat}
theorem rlm_mem : ∀ {xs : List Nat} {x : Nat}, x ∈ rlm rk xs → x ∈ xs
  | [], _, h => by cases h
  | y :: ys, x, h => by
    unfold rlm at h
    split at h
    · rcases List.mem_cons.mp h with e | h
      · rw [e]; exact List.mem_cons_self
      · exact List.mem_cons_of_mem _ (rlm_mem h)
    · exact List.mem_cons_of_mem _ (rlm_mem h)
theorem rlm_sorted : ∀ xs : List Nat, (rlm rk xs).Pairwise (fun a b => rk a < rk b)
  | [] => .nil
  | y :: ys => by
    unfold rlm
    split
    · rename_i h
      exact .cons (fun z hz => h z (rlm_mem hz)) (rlm_sorted ys)
    · exact rlm_sorted ys
theorem rlm_congr : ∀ {xs : List Nat}, (∀ x ∈ xs, ∀ y ∈ xs, (rk x < rk y ↔ rk' x < rk' y)) → rlm rk xs = rlm rk' xs
  | [], _ => rfl
  | y :: ys, h => by
    have ih := rlm_congr (xs := ys) fun x hx z hz => h x (List.mem_cons_of_mem _ hx) z (List.mem_cons_of_mem _ hz)
    have e : (∀ z ∈ ys, rk y < rk z) ↔ (∀ z ∈ ys, rk' y < rk' z) := ⟨fun q z hz => (h y List.mem_cons_self z (List.mem_cons_of_mem _ hz)).mp (q z hz), fun q z hz => (h y List.mem_cons_self z (List.mem_cons_of_mem _ hz)).mpr (q z hz)⟩
    unfold rlm
    rw [ih]
    by_cases c : ∀ z ∈ ys, rk y < rk z
    · rw [if_pos c, if_pos (e.mp c)]
    · rw [if_neg c, if_neg (fun z => c (e.mpr z))]
theorem rlm_snoc (k : Nat) : ∀ xs : List Nat, rlm rk (xs ++ [k]) = (rlm rk xs).filter (fun x => decide (rk x < rk k)) ++ [k]
  | [] => by
    show (if ∀ y ∈ ([] : List Nat), rk k < rk y then k :: rlm rk [] else rlm rk []) = _
    rw [if_pos (fun y hy => by cases hy)]; rfl
  | y :: ys => by
    have ih := rlm_snoc k ys
    show (if ∀ z ∈ ys ++ [k], rk y < rk z then y :: rlm rk (ys ++ [k]) else rlm rk (ys ++ [k])) = (if ∀ z ∈ ys, rk y < rk z then y :: rlm rk ys else rlm rk ys).filter _ ++ [k]
    rw [ih]
    by_cases c : ∀ z ∈ ys, rk y < rk z
    · rw [if_pos c]
      by_cases d : rk y < rk k
      · rw [if_pos (fun z hz => by
          rcases List.mem_append.mp hz with hz | hz
          · exact c z hz
          · rw [List.mem_singleton.mp hz]; exact d), List.filter_cons_of_pos (by simpa using d)]
        rfl
      · rw [if_neg (fun q => d (q k (List.mem_append.mpr (.inr (List.mem_singleton.mpr rfl))))), List.filter_cons_of_neg (by simpa using d)]
    · rw [if_neg c, if_neg (fun q => c fun z hz => q z (List.mem_append.mpr (.inl hz)))]
end
theorem filter_take {f : Nat → Nat} : ∀ {L : List Nat} {m x : Nat}, L.Pairwise (fun a b => f a < f b) → L[m]? = some x → L.filter (fun y => decide (f y < f x)) = L.take m
  | [], m, x, _, h => by rw [List.getElem?_nil] at h; cases h
  | a :: L, 0, x, p, h => by
    cases h
    rw [List.take_zero, List.filter_eq_nil_iff]
    intro b hb
    rcases List.mem_cons.mp hb with e | hb
    · rw [e]; simp
    · have := (List.pairwise_cons.mp p).1 b hb
      simp; omega
  | a :: L, m + 1, x, p, h => by
    rw [List.getElem?_cons_succ] at h
    have hx : x ∈ L := List.mem_of_getElem? h
    have := (List.pairwise_cons.mp p).1 x hx
    rw [List.filter_cons_of_pos (by simpa using this), List.take_succ_cons, filter_take (List.pairwise_cons.mp p).2 h]
/-! one thing put into an order -/
theorem idx_ne {a x : Nat} {l : List Nat} (h : ¬ a = x) : (a :: l).idxOf x = l.idxOf x + 1 := by
  rw [List.idxOf_cons]
  have e : (a == x) = false := by simpa using h
  rw [e]; rfl
theorem getD_at {L : List Nat} {m : Nat} (h : m < L.length) : L[m]? = some (L.getD m 0) := by
  rw [List.getD_eq_getElem?_getD, List.getElem?_eq_getElem h]; rfl
def putAt (ord : List Nat) (j k : Nat) : List Nat := ord.take j ++ k :: ord.drop j
theorem putAt_new : ∀ {ord : List Nat} {j k : Nat}, k ∉ ord → j ≤ ord.length → (putAt ord j k).idxOf k = j
  | ord, 0, k, _, _ => by
    show (k :: ord.drop 0).idxOf k = 0
    rw [List.idxOf_cons_self]
  | [], j + 1, k, _, h => by cases h
  | a :: ord, j + 1, k, hk, hj => by
    have ne : ¬ a = k := fun e => hk (by rw [e]; exact List.mem_cons_self)
    show (a :: putAt ord j k).idxOf k = j + 1
    rw [idx_ne ne, putAt_new (fun h => hk (List.mem_cons_of_mem _ h)) (Nat.le_of_succ_le_succ hj)]
theorem putAt_old : ∀ {ord : List Nat} {j k x : Nat}, k ∉ ord → j ≤ ord.length → x ∈ ord → (putAt ord j k).idxOf x = if ord.idxOf x < j then ord.idxOf x else ord.idxOf x + 1
  | [], j, k, x, _, _, h => by cases h
  | a :: ord, 0, k, x, hk, _, hx => by
    have ne : ¬ k = x := fun e => hk (by rw [e]; exact hx)
    show (k :: a :: ord).idxOf x = _
    rw [idx_ne ne, if_neg (Nat.not_lt_zero _)]
  | a :: ord, j + 1, k, x, hk, hj, hx => by
    show (a :: putAt ord j k).idxOf x = _
    by_cases e : a = x
    · rw [e, List.idxOf_cons_self, List.idxOf_cons_self, if_pos (Nat.succ_pos _)]
    · have hx' : x ∈ ord := (List.mem_cons.mp hx).resolve_left fun z => e z.symm
      rw [idx_ne e, idx_ne e, putAt_old (fun h => hk (List.mem_cons_of_mem _ h)) (Nat.le_of_succ_le_succ hj) hx']
      by_cases c : ord.idxOf x < j
      · rw [if_pos c, if_pos (Nat.succ_lt_succ c)]
      · rw [if_neg c, if_neg fun z => c (Nat.lt_of_succ_lt_succ z)]
theorem putAt_mem {ord : List Nat} {j k x : Nat} : x ∈ putAt ord j k ↔ x = k ∨ x ∈ ord := by
  unfold putAt
  rw [List.mem_append, List.mem_cons]
  have h : x ∈ ord ↔ x ∈ ord.take j ∨ x ∈ ord.drop j := by
    rw [← List.mem_append, List.take_append_drop]
  rw [h]
  constructor
  · rintro (a | a | a)
    · exact .inr (.inl a)
    · exact .inl a
    · exact .inr (.inr a)
  · rintro (a | a | a)
    · exact .inr (.inl a)
    · exact .inl a
    · exact .inr (.inr a)
theorem putAt_nd {ord : List Nat} {j k : Nat} (h : ord.Nodup) (hk : k ∉ ord) : (putAt ord j k).Nodup := by
  unfold putAt
  have e : (ord.take j ++ ord.drop j).Nodup := by rw [List.take_append_drop]; exact h
  rw [List.nodup_append] at e ⊢
  refine ⟨e.1, List.nodup_cons.mpr ⟨fun z => hk (List.mem_of_mem_drop z), e.2.1⟩, fun a ha b hb => ?_⟩
  rcases List.mem_cons.mp hb with z | hb
  · intro q
    rw [q, z] at ha
    exact hk (List.mem_of_mem_take ha)
  · exact e.2.2 a ha b hb
theorem putAt_len {ord : List Nat} {j k : Nat} : (putAt ord j k).length = ord.length + 1 := by
  unfold putAt
  rw [List.length_append, List.length_cons, List.length_take, List.length_drop]
  omega
/-! the order that the levels tell -/
def above (ps : List (Option Nat)) (lv : List Nat) (i : Nat) : List Nat :=
  match ps[i]? with
  | some (some p) => stk ps lv p
  | _ => []
theorem above_none {ps : List (Option Nat)} {lv : List Nat} {i : Nat} (h : ps[i]? = some none) : above ps lv i = [] := by unfold above; rw [h]
theorem above_some {ps : List (Option Nat)} {lv : List Nat} {i p : Nat} (h : ps[i]? = some (some p)) : above ps lv i = stk ps lv p := by unfold above; rw [h]
def ordAt (ps : List (Option Nat)) (lv : List Nat) (ord : List Nat) (i : Nat) : Nat :=
  if lv.getD i 0 ≤ (above ps lv i).length then ord.idxOf ((above ps lv i).getD (lv.getD i 0 - 1) 0) else ord.length
def ordOf (ps : List (Option Nat)) (lv : List Nat) : Nat → List Nat
  | 0 => []
  | k + 1 => putAt (ordOf ps lv k) (ordAt ps lv (ordOf ps lv k) k) k
theorem ordAt_le {ps : List (Option Nat)} {lv ord : List Nat} {i : Nat} : ordAt ps lv ord i ≤ ord.length := by
  unfold ordAt
  split
  · exact List.idxOf_le_length
  · exact Nat.le_refl _
theorem ord_inv {ps : List (Option Nat)} {lv : List Nat} (hp : Ps ps) (hv : Lv ps lv) : ∀ k, k ≤ ps.length → (ordOf ps lv k).Nodup ∧ (∀ x, x ∈ ordOf ps lv k ↔ x < k) ∧ ∀ i, i < k → stk ps lv i = rlm (fun x => (ordOf ps lv k).idxOf x) (road ps i) := by
  intro k
  induction k with
  | zero => exact fun _ => ⟨List.nodup_nil, fun x => ⟨fun z => (by cases z), fun z => absurd z (Nat.not_lt_zero _)⟩, fun i z => absurd z (Nat.not_lt_zero _)⟩
  | succ k ih =>
    intro hk
    obtain ⟨nd, hm, hs⟩ := ih (Nat.le_of_succ_le hk)
    have kn : k ∉ ordOf ps lv k := fun z => Nat.lt_irrefl _ ((hm k).mp z)
    have jl := ordAt_le (ps := ps) (lv := lv) (ord := ordOf ps lv k) (i := k)
    show (putAt _ _ k).Nodup ∧ (∀ x, x ∈ putAt _ _ k ↔ x < k + 1) ∧ ∀ i, i < k + 1 → stk ps lv i = rlm (fun x => (putAt (ordOf ps lv k) (ordAt ps lv (ordOf ps lv k) k) k).idxOf x) (road ps i)
    have hj : ordAt ps lv (ordOf ps lv k) k = if lv.getD k 0 ≤ (above ps lv k).length then (ordOf ps lv k).idxOf ((above ps lv k).getD (lv.getD k 0 - 1) 0) else (ordOf ps lv k).length := rfl
    generalize ordOf ps lv k = ord at nd hm hs kn jl hj ⊢
    generalize ordAt ps lv ord k = j at jl hj ⊢
    have old : ∀ x, x < k → (putAt ord j k).idxOf x = if ord.idxOf x < j then ord.idxOf x else ord.idxOf x + 1 := fun x hx => putAt_old kn jl ((hm x).mpr hx)
    have cg : ∀ n, n < k → rlm (fun x => (putAt ord j k).idxOf x) (road ps n) = stk ps lv n := fun n hn => by
      rw [hs n hn]
      refine rlm_congr fun x hx y hy => ?_
      have h1 := Nat.lt_of_le_of_lt (road_le hp n (by omega) x hx) hn
      have h2 := Nat.lt_of_le_of_lt (road_le hp n (by omega) y hy) hn
      show (putAt ord j k).idxOf x < (putAt ord j k).idxOf y ↔ _
      rw [old x h1, old y h2]
      split <;> split <;> omega
    refine ⟨putAt_nd nd kn, fun x => ?_, fun i hi => ?_⟩
    · rw [putAt_mem, hm]
      omega
    · by_cases hik : i < k
      · exact (cg i hik).symm
      · have e : i = k := by omega
        subst e
        have hl : lv[i]? = some (lv.getD i 0) := by
          rw [List.getD_eq_getElem?_getD, List.getElem?_eq_getElem (by rw [hv.1]; omega)]; rfl
        rcases opt_cases (ps := ps) (i := i) (by omega) with h | ⟨p, h⟩
        · rw [stk_none h, road_none h]
          show _ = rlm _ ([] ++ [i])
          rw [rlm_snoc]; rfl
        · have hpi := hp i p h
          have hlv := hv.2 i _ _ hl h
          have hml : mostLv lv (some p) = lv.getD p 0 + 1 := rfl
          have ea : above ps lv i = stk ps lv p := by unfold above; rw [h]
          have hlen := stk_len hp hv p (by omega)
          rw [stk_some hp h, road_some hp h, rlm_snoc, cg p hpi, putAt_new kn jl]
          congr 1
          rw [ea] at hj
          have flt : ∀ x ∈ stk ps lv p, decide ((putAt ord j i).idxOf x < j) = decide (ord.idxOf x < j) := fun x hx => by
            have hx2 := Nat.lt_of_le_of_lt (road_le hp p (by omega) x (stk_sub hp p (by omega) x hx)) hpi
            rw [old x hx2]
            congr 1
            refine propext ⟨fun z => ?_, fun z => ?_⟩
            · split at z <;> omega
            · rw [if_pos z]; exact z
          rw [List.filter_congr flt]
          by_cases c : lv.getD i 0 ≤ (stk ps lv p).length
          · rw [if_pos c] at hj
            have hm2 : lv.getD i 0 - 1 < (stk ps lv p).length := by omega
            have hg := getD_at hm2
            rw [hj]
            refine (filter_take ?_ hg).symm
            rw [hs p hpi]
            exact rlm_sorted _
          · rw [if_neg c] at hj
            rw [List.take_of_length_le (by omega), List.filter_eq_self.mpr]
            intro x hx
            have hx2 := Nat.lt_of_le_of_lt (road_le hp p (by omega) x (stk_sub hp p (by omega) x hx)) hpi
            have := List.idxOf_lt_length_of_mem ((hm x).mpr hx2)
            rw [hj]
            exact decide_eq_true this
/-- what the order tells of each place: its level -/
theorem ord_lv {ps : List (Option Nat)} {lv : List Nat} (hp : Ps ps) (hv : Lv ps lv) {i : Nat} (hi : i < ps.length) : (rlm (fun x => (ordOf ps lv ps.length).idxOf x) (road ps i)).length = lv.getD i 0 := by
  rw [← (ord_inv hp hv ps.length (Nat.le_refl _)).2.2 i hi]
  exact stk_len hp hv i hi
theorem ord_len {ps : List (Option Nat)} {lv : List Nat} : ∀ k, (ordOf ps lv k).length = k
  | 0 => rfl
  | k + 1 => by
    show (putAt _ _ k).length = k + 1
    rw [putAt_len, ord_len k]
theorem above_sub {ps : List (Option Nat)} {lv : List Nat} {i x : Nat} (hp : Ps ps) (hi : i < ps.length) (hx : x ∈ above ps lv i) : x < i := by
  rcases opt_cases hi with h | ⟨p, h⟩
  · rw [above_none h] at hx; cases hx
  · rw [above_some h] at hx
    have hl := hp i p h
    exact Nat.lt_of_le_of_lt (road_le hp p (Nat.lt_trans hl hi) x (stk_sub hp p (Nat.lt_trans hl hi) x hx)) hl
theorem putAt_end {ord : List Nat} {k : Nat} : putAt ord ord.length k = ord ++ [k] := by
  unfold putAt
  rw [List.take_length, List.drop_length]
/-- how many are not above any behind them -/
def cntMin : List Nat → Nat
  | [] => 0
  | x :: xs => (if ∀ y ∈ xs, x ≤ y then 1 else 0) + cntMin xs
theorem cnt_rlm {rk : Nat → Nat} : ∀ {xs : List Nat}, xs.Nodup → (∀ x ∈ xs, ∀ y ∈ xs, x ≠ y → rk x ≠ rk y) → cntMin (xs.map rk) = (rlm rk xs).length
  | [], _, _ => rfl
  | x :: xs, nd, inj => by
    have ih := cnt_rlm (xs := xs) (List.nodup_cons.mp nd).2 fun a ha b hb => inj a (List.mem_cons_of_mem _ ha) b (List.mem_cons_of_mem _ hb)
    show (if ∀ y ∈ xs.map rk, rk x ≤ y then 1 else 0) + cntMin (xs.map rk) = (if ∀ y ∈ xs, rk x < rk y then x :: rlm rk xs else rlm rk xs).length
    have e : (∀ y ∈ xs.map rk, rk x ≤ y) ↔ ∀ y ∈ xs, rk x < rk y := by
      constructor
      · intro h y hy
        have h1 := h (rk y) (List.mem_map.mpr ⟨y, hy, rfl⟩)
        have h2 := inj x List.mem_cons_self y (List.mem_cons_of_mem _ hy) fun z => (List.nodup_cons.mp nd).1 (z ▸ hy)
        omega
      · intro h z hz
        obtain ⟨y, hy, rfl⟩ := List.mem_map.mp hz
        exact Nat.le_of_lt (h y hy)
    rw [ih]
    by_cases c : ∀ y ∈ xs, rk x < rk y
    · rw [if_pos (e.mpr c), if_pos c, List.length_cons]; omega
    · rw [if_neg (fun z => c (e.mp z)), if_neg c]; omega
theorem road_nd {ps : List (Option Nat)} (hp : Ps ps) : ∀ n, n < ps.length → (road ps n).Nodup := by
  intro n
  induction n using Nat.strongRecOn with
  | ind n ih =>
    intro hn
    rcases opt_cases hn with h | ⟨p, h⟩
    · rw [road_none h]; exact List.nodup_cons.mpr ⟨fun z => (by cases z), List.nodup_nil⟩
    · have hl := hp n p h
      rw [road_some hp h, List.nodup_append]
      refine ⟨ih p hl (Nat.lt_trans hl hn), List.nodup_cons.mpr ⟨fun z => (by cases z), List.nodup_nil⟩, fun a ha b hb => ?_⟩
      rw [List.mem_singleton.mp hb]
      have := road_le hp p (Nat.lt_trans hl hn) a ha
      omega
/-- one plan's levels under a place put for another's -/
def mixLv (ps : List (Option Nat)) (l1 l2 : List Nat) (i : Nat) (at_ : Nat) : Nat := if i ∈ road ps at_ then l2.getD at_ 0 else l1.getD at_ 0
theorem mix_ok {ps : List (Option Nat)} {l1 l2 : List Nat} {i : Nat} (hp : Ps ps) (h1 : Lv ps l1) (h2 : Lv ps l2) (hi : i < ps.length)
    (hc : ∀ p, ps[i]? = some (some p) → mixLv ps l1 l2 i i ≤ mixLv ps l1 l2 i p + 1) : Lv ps ((List.range ps.length).map (mixLv ps l1 l2 i)) := by
  refine ⟨by rw [List.length_map, List.length_range], fun j l q hl hq => ?_⟩
  have hj : j < ps.length := (List.getElem?_eq_some_iff.mp hq).1
  have hg : ∀ k, k < ps.length → ((List.range ps.length).map (mixLv ps l1 l2 i)).getD k 0 = mixLv ps l1 l2 i k := fun k hk => by
    rw [List.getD_eq_getElem?_getD, List.getElem?_map, List.getElem?_range hk]; rfl
  have el : l = mixLv ps l1 l2 i j := by rw [← hg j hj, getD_of hl]
  have a1 := h1.2 j _ q (getD_at (by rw [h1.1]; exact hj)) hq
  have a2 := h2.2 j _ q (getD_at (by rw [h2.1]; exact hj)) hq
  cases q with
  | none =>
    have e : ∀ lv, mostLv lv none = 1 := fun _ => rfl
    rw [e] at a1 a2 ⊢
    rw [el]
    unfold mixLv
    split <;> omega
  | some p =>
    have hpj := hp j p hq
    have e : ∀ lv, mostLv lv (some p) = lv.getD p 0 + 1 := fun _ => rfl
    rw [e] at a1 a2 ⊢
    rw [hg p (Nat.lt_trans hpj hj), el]
    by_cases ej : j = i
    · subst ej
      refine ⟨?_, hc p hq⟩
      unfold mixLv
      split <;> omega
    · have em : i ∈ road ps j ↔ i ∈ road ps p := by
        rw [road_some hp hq, List.mem_append]
        constructor
        · rintro (h | h)
          · exact h
          · exact absurd (List.mem_singleton.mp h).symm ej
        · exact fun h => .inl h
      unfold mixLv
      by_cases c : i ∈ road ps p
      · rw [if_pos (em.mpr c), if_pos c]; exact a2
      · rw [if_neg (fun z => c (em.mp z)), if_neg c]; exact a1
theorem cnt_cons_yes {x : Nat} {t : List Nat} (c : ∀ y ∈ t, x ≤ y) : cntMin (x :: t) = 1 + cntMin t := by
  show (if ∀ y ∈ t, x ≤ y then 1 else 0) + cntMin t = _
  rw [if_pos c]
theorem cnt_cons_no {x : Nat} {t : List Nat} (c : ¬ ∀ y ∈ t, x ≤ y) : cntMin (x :: t) = cntMin t := by
  show (if ∀ y ∈ t, x ≤ y then 1 else 0) + cntMin t = _
  rw [if_neg c, Nat.zero_add]
theorem cnt_yes {l : List Nat} {i x : Nat} (h : l[i]? = some x) (c : ∀ y ∈ l.drop (i + 1), x ≤ y) : cntMin (l.drop i) = 1 + cntMin (l.drop (i + 1)) := by
  obtain ⟨hi, e⟩ := List.getElem?_eq_some_iff.mp h
  rw [List.drop_eq_getElem_cons hi, e]
  exact cnt_cons_yes c
theorem cnt_no {l : List Nat} {i x : Nat} (h : l[i]? = some x) (c : ¬ ∀ y ∈ l.drop (i + 1), x ≤ y) : cntMin (l.drop i) = cntMin (l.drop (i + 1)) := by
  obtain ⟨hi, e⟩ := List.getElem?_eq_some_iff.mp h
  rw [List.drop_eq_getElem_cons hi, e]
  exact cnt_cons_no c
end Ck
namespace Cn
open PySem PySem.Spec PyProof.Rows L2
def topS (i : Nat) : Stmt := PySem.Challenge.pw_cutnotes_k01_forests_and_rows_judged.main.body.getD i (.Pass ⟨0, 0, 0, 0⟩)

abbrev sDeep : Stmt := topS 23
abbrev sBent : Stmt := topS 35
abbrev sLWord : Stmt := topS 36
abbrev sSome : Stmt := topS 30
abbrev sLRow : Stmt := topS 32
abbrev sRowsR : Stmt := topS 37
abbrev sIsInt : Stmt := topS 6
abbrev sIsBtw : Stmt := topS 7
abbrev sIsLot : Stmt := topS 8
abbrev sLotOf : Stmt := topS 12
abbrev sIsPlace : Stmt := topS 13
abbrev sWay : Stmt := topS 14
abbrev sHand : Stmt := topS 19
abbrev sDraw : Stmt := topS 20
abbrev sIs : Stmt := topS 21
abbrev sParents : Stmt := topS 24
abbrev sLawLot : Stmt := topS 25
abbrev sTold : Stmt := topS 26
abbrev sMade : Stmt := topS 27
abbrev sUnder : Stmt := topS 15
abbrev sFlag : Stmt := topS 22
abbrev sRow : Stmt := topS 16
abbrev sIsRow : Stmt := topS 17
abbrev sLIsInt : Stmt := topS 28
abbrev sLIsLot : Stmt := topS 29
abbrev sLOdd : Stmt := topS 31
abbrev sLDue : Stmt := topS 33
abbrev sSeenOf : Stmt := topS 34
abbrev sInit : Stmt := inClass (topS 11) 0
abbrev sEqM : Stmt := inClass (topS 11) 1
abbrev sLaw : Stmt := topS 38
/-! heaps -/
theorem smUpd {H : Hp} {p : Addr} {o : HO} (h : H p = none) : Same H (upd H p o) := fun b x e => by
  rw [upd_ne (ne_of_none e h)]
  exact e
theorem cutTake (xs : List V) (n : Nat) : cutV xs none (some (n : Int)) = xs.take n := by
  unfold cutV
  rw [HT.sIx_none, HT.sIx_nat]
  show (xs.drop 0).take (min n xs.length - 0) = xs.take n
  rw [List.drop_zero, Nat.sub_zero]
  by_cases h : n ≤ xs.length
  · rw [Nat.min_eq_left h]
  · rw [Nat.min_eq_right (by omega), List.take_length, List.take_of_length_le (by omega)]
theorem getMap {xs : List Int} {i : Nat} {v : V} (h : (xs.map V.int)[i]? = some v) : ∃ z, xs[i]? = some z ∧ v = .int z := by
  rw [List.getElem?_map] at h
  cases e : xs[i]? with
  | none => rw [e] at h; cases h
  | some z => rw [e] at h; exact ⟨z, rfl, (Option.some.inj h).symm⟩
/-! the hand that deals -/
abbrev handL (c : Addr) (i g m t : Int) : HO := .lst [.ref c, .int i, .int g, .int m, .int t]
structure HandIn (H : Hp) (p c : Addr) (cells : List Int) : Prop where
  ob : ∃ i g m t : Int, H p = some (handL c i g m t) ∧ 0 ≤ i
  ce : H c = some (.lst (cells.map V.int))
  ne : p ≠ c
def spHand (K : PySem.W.Frag) : Sp := fun vs H Q _ => ∃ (a : Addr) (ns : List Int), vs = [.ref a] ∧ SqL K H a (ns.map V.int) ∧ ns.length ≤ 63 ∧
  ∀ (H' : Hp) (p c : Addr) (cells : List Int), Same H H' → H p = none → H c = none → HandIn H' p c cells → Q (.ref p) H'
def nHand : List Str := ["_law_script", "_law_cells", "_law_cell"]
theorem scHand : FnScope nHand ["_law_script"] (defScope sHand) := ⟨rfl, rfl, rfl, by decide +kernel, rfl, by decide +kernel, by decide +kernel⟩
section
variable {P : Program} {w : World} {K : PySem.W.Frag} {mg : Str → Option Value} {base : Heap}
theorem ok_hand {f : Addr} {fd : FuncData} (F : Fun K "_law_hand" "_law_hand" sHand f fd) (mAbs : mg "abs" = none) (mInt : mg "int" = none) (mLen : mg "len" = none) : FnOk P w K mg base CX0 1 f fd ["_law_script"] (spHand K) := by
  refine F.ok scHand (fun vs H Q E h => ?_) (fun cdv A outer s H vs Q E hr h => ?_)
  · obtain ⟨a, ns, rfl, _⟩ := h
    rfl
  · obtain ⟨a, ns, rfl, hS, hlen, k⟩ := h
    refine ⟨_, pss_cons (ps_setLc (i := 1) (own := [("_law_cell", 2)]) (g := gName 2) (tt := tYes) rfl scHand.nd rfl rfl (sw_true rfl rfl rfl (by decide +kernel))
        (pi_list (pe_slice sl_list (pv 0) po_none (po_some pe_int))) (blkOk_by (N := nHand) (sc := defScope sHand) (by decide +kernel))
        (fun _ _ _ _ _ => pg_name (i := 2) scHand.nd rfl (Or.inl rfl)) (fun _ _ _ _ _ => pts_nil)
        (fun _ _ _ _ _ => pe_callB call_abs (by rfl) mAbs (by decide +kernel) (pa_cons (pe_callTy call_int1 (by rfl) mInt (by decide +kernel) (pa_cons (pv 2) pa_nil)) pa_nil)))
      (pss_one (ps_ret (pe_lst (pa_cons (pv 1) (pa_cons pe_int (pa_cons pe_int (pa_cons (pe_op op_add pe_int (pe_callB call_len_seq (by rfl) mLen PySem.boot_len (pa_cons (pv 1) pa_nil))) (pa_cons pe_int pa_nil)))))))), ?_⟩
    refine ⟨.ref a, rfl, 63, rfl, a, ns.map V.int, rfl, hS, fun q nq => ?_⟩
    have ex : cutV (ns.map V.int) none (some 63) = (ns.take 63).map V.int := by
      rw [show (some (63 : Int)) = some ((63 : Nat) : Int) from rfl, cutTake, List.map_take]
    rw [ex]
    have s1 : Same H (upd H q (.lst ((ns.take 63).map V.int))) := smUpd nq
    refine ⟨_, rfl, ⟨_, .inl (.inl upd_same)⟩, fun D nD => ?_⟩
    have nDq : D ≠ q := fun e => by rw [e, upd_same] at nD; cases nD
    refine lc_list (K := K) (a := q) (xs := (ns.take 63).map V.int) (fun i H' => Same (upd H q (.lst ((ns.take 63).map V.int))) H' ∧ ∃ cs : List Int, H' D = some (.lst (cs.map V.int)) ∧ cs.length = i) ?_ ?_ ?_ ?_
    · exact ⟨smUpd nD, [], upd_same, rfl⟩
    · rintro i H' _ ⟨sm, _⟩
      exact .inl (.inl (sm _ _ upd_same))
    · rintro i x H' hx ⟨sm, cs, hD, hl⟩
      obtain ⟨z, hz, rfl⟩ := getMap hx
      have hi : i < 63 := by
        have e := (List.getElem?_eq_some_iff.mp hz).1
        rw [List.length_take] at e
        omega
      refine ⟨rfl, ⟨_, rfl, .inl ⟨z, rfl, z, rfl, cs.map V.int, hD, ?_, fun b o e => ?_, cs ++ [if z < 0 then -z else z], ?_, ?_⟩⟩⟩
      · rw [List.length_map]; exact small1000 (by omega)
      · have nb : b ≠ D := fun e' => by rw [e', nD] at e; cases e
        rw [upd_ne nb]
        exact sm b o e
      · rw [upd_same, List.map_append]; rfl
      · rw [List.length_append, hl]; rfl
    · rintro H' ⟨sm, cs, hD, hl⟩
      refine ⟨_, rfl, .ref D, rfl, D, cs.map V.int, rfl, .inl (.inl (.inl hD)), 1, _, rfl, rfl, by show 5 ≤ sizeLine; decide, fun p np => ?_⟩
      have npD : p ≠ D := fun e => by rw [e, hD] at np; cases np
      refine k _ p D cs (fun b o e => ?_) ?_ ?_ ⟨⟨0, 0, _, 0, upd_same, by decide⟩, by rw [upd_ne npD.symm]; exact hD, npD⟩
      · have e1 := sm b o (s1 b o e)
        rw [upd_ne (ne_of_none e1 np)]
        exact e1
      · cases e : H p with
        | none => rfl
        | some o => rw [sm p o (s1 p o e)] at np; cases np
      · cases e : H D with
        | none => rfl
        | some o => rw [s1 D o e] at nD; cases nD
end
end Cn
namespace Cn
open PySem PySem.Spec PyProof.Rows L2
/-! a statement, then the rest, by a word of what stands between -/
def tMid (t u : TS) : TS := fun D σ H => ∃ R : L2.St → Hp → Prop, t { nx := R, rt := D.rt, bk := D.bk, ct := D.ct } σ H ∧ ∀ σ2 H2, R σ2 H2 → u D σ2 H2
theorem psMid {X : Cx} {st : Stmt} {rest : List Stmt} {t u : TS} (a : PS X st t) (b : PSs X rest u) : PSs X (st :: rest) (tMid t u) := by
  constructor
  intro pins s σ H D I h
  obtain ⟨R, h1, h2⟩ := h
  refine wpAny_execs_cons (thn (a.run pins s σ H _ I h1) fun fl s1 q => ?_)
  cases fl with
  | next =>
    obtain ⟨σ2, H2, I2, q2⟩ := q
    exact b.run pins s1 σ2 H2 D I2 (h2 σ2 H2 q2)
  | brk => exact q
  | cont => exact q
  | ret u => exact q
def spDraw : Sp := fun vs H Q _ => ∃ (p c : Addr) (cells : List Int) (k : Int), vs = [.ref p, .int k] ∧ HandIn H p c cells ∧ 0 < k ∧ k < 1073741824 ∧
  ∀ (d i g m t : Int), 0 ≤ d → d < k → 0 ≤ i → Q (.int d) (upd H p (handL c i g m t))
def nDraw : List Str := ["_law_hand_here", "_law_many", "_law_cell", "_law_digit", "_law_number"]
theorem scDraw : FnScope nDraw ["_law_hand_here", "_law_many"] (defScope sDraw) := ⟨rfl, rfl, rfl, by decide +kernel, rfl, by decide +kernel, by decide +kernel⟩
theorem fmB {a k : Int} (h : 0 < k) : 0 ≤ a.fmod k ∧ a.fmod k < k := ⟨Int.fmod_nonneg_of_pos a h, Int.fmod_lt_of_pos a h⟩
theorem atNat {cs : List Int} {i : Int} (h0 : 0 ≤ i) (h1 : i < ((cs.map V.int).length : Int)) : ∃ z, atI (cs.map V.int) i = some (.int z) := by
  obtain ⟨n, rfl⟩ := Int.eq_ofNat_of_zero_le h0
  rw [List.length_map] at h1
  have hn : n < cs.length := by omega
  refine ⟨cs[n], ?_⟩
  unfold atI ixN
  rw [if_pos (by omega), List.length_map, if_pos (by omega)]
  show (cs.map V.int)[((n : Nat) : Int).toNat]? = _
  rw [Int.toNat_natCast, List.getElem?_map, List.getElem?_eq_getElem hn]
  rfl
section
variable {P : Program} {w : World} {K : PySem.W.Frag} {mg : Str → Option Value} {base : Heap}
theorem ok_draw {f : Addr} {fd : FuncData} (F : Fun K "_law_draw" "_law_draw" sDraw f fd) (mInt : mg "int" = none) (mLen : mg "len" = none) : FnOk P w K mg base CX0 1 f fd ["_law_hand_here", "_law_many"] spDraw := by
  refine F.ok scDraw (fun vs H Q E h => ?_) (fun cdv A outer s H vs Q E hr h => ?_)
  · obtain ⟨p, c, cells, k, rfl, _⟩ := h
    rfl
  · obtain ⟨p, c, cells, k, rfl, hI, k0, k1, q⟩ := h
    refine ⟨_, psMid (ps_if (PW.pt (pw_and (pt_cmpR op_eq (pe_ix ix_list (pv 0) pe_int (fun _ _ => rfl)) pe_int (nomark _))
            (pw_and1 (pt_cmpR op_lt (pe_ix ix_list (pv 0) pe_int (fun _ _ => rfl)) (pe_callB call_len_seq (by rfl) mLen PySem.boot_len (pa_cons (pe_ix ix_list (pv 0) pe_int (fun _ _ => rfl)) pa_nil)) (nomark _)))))
        (pss_cons (ps_set (i := 2) scDraw.nd rfl (Or.inl rfl) (pe_ix ix_list (pe_ix ix_list (pv 0) pe_int (fun _ _ => rfl)) (pe_ix ix_list (pv 0) pe_int (fun _ _ => rfl)) (fun _ _ => rfl)))
        (pss_cons (ps_asg (pe_op op_add (pe_ix ix_list (pv 0) pe_int (fun _ _ => rfl)) pe_int) (pg_sub (pv 0) pe_int set_list))
        (pss_cons (ps_asg (pe_op op_modN (pe_callTy call_int1 (by rfl) mInt (by decide +kernel) (pa_cons (pe_op op_add (pe_op op_add (pe_op op_mul (pe_ix ix_list (pv 0) pe_int (fun _ _ => rfl)) pe_int) (pv 2)) pe_int) pa_nil)) pe_int) (pg_sub (pv 0) pe_int set_list))
        (pss_one (ps_if (pt_cmpR op_ge (pv 2) (pe_op op_pow pe_int pe_int) (nomark _)) (pss_one (ps_asg (pv 2) (pg_sub (pv 0) pe_int set_list))) pss_nil)))))
        pss_nil)
      (pss_cons (ps_if (pt_cmpR op_gt (pe_ix ix_list (pv 0) pe_int (fun _ _ => rfl)) pe_int (nomark _))
        (pss_cons (ps_set (i := 3) scDraw.nd rfl (Or.inl rfl) (pe_op op_modN (pe_callTy call_int1 (by rfl) mInt (by decide +kernel) (pa_cons (pe_ix ix_list (pv 0) pe_int (fun _ _ => rfl)) pa_nil)) (pv 1)))
        (pss_cons (ps_asg (pe_op op_fdivN (pe_ix ix_list (pv 0) pe_int (fun _ _ => rfl)) (pv 1)) (pg_sub (pv 0) pe_int set_list))
        (pss_one (ps_ret (pv 3))))) pss_nil)
      (pss_cons (ps_asg (pe_op op_add (pe_ix ix_list (pv 0) pe_int (fun _ _ => rfl)) pe_int) (pg_sub (pv 0) pe_int set_list))
      (pss_cons (ps_set (i := 4) scDraw.nd rfl (Or.inl rfl) (pe_op op_modN (pe_callTy call_int1 (by rfl) mInt (by decide +kernel) (pa_cons (pe_op op_mul (pe_callTy call_int1 (by rfl) mInt (by decide +kernel) (pa_cons (pe_op op_add (pe_ix ix_list (pv 0) pe_int (fun _ _ => rfl)) (pe_op op_mul pe_int (pe_ix ix_list (pv 0) pe_int (fun _ _ => rfl)))) pa_nil)) pe_int) pa_nil)) pe_int))
      (pss_cons (ps_set (i := 4) scDraw.nd rfl (Or.inl rfl) (pe_op op_modN (pe_callTy call_int1 (by rfl) mInt (by decide +kernel) (pa_cons (pe_op op_mul (pv 4) (pe_op op_add (pe_op op_fdivN (pv 4) pe_int) pe_int)) pa_nil)) pe_int))
      (pss_cons (ps_set (i := 4) scDraw.nd rfl (Or.inl rfl) (pe_op op_modN (pe_callTy call_int1 (by rfl) mInt (by decide +kernel) (pa_cons (pe_op op_mul (pv 4) (pe_op op_add (pe_op op_fdivN (pv 4) pe_int) pe_int)) pa_nil)) pe_int))
      (pss_one (ps_ret (pe_op op_modN (pe_callTy call_int1 (by rfl) mInt (by decide +kernel) (pa_cons (pe_op op_fdivN (pv 4) pe_int) pa_nil)) (pv 1))))))))), ?_⟩
    obtain ⟨⟨i, g, m, t, hp, hi⟩, hc, ne⟩ := hI
    have sq : ∀ {H' : Hp} {a : Addr} {xs : List V}, H' a = some (.lst xs) → SqL K H' a xs := fun h => .inl (.inl h)
    have kn : k ≠ 0 := by omega
    have kb : k.natAbs < 1073741824 := by omega
    refine ⟨fun σ2 H2 => ∃ (cl : Option V) (i g m t : Int), 0 ≤ i ∧ σ2 = [some (.ref p), some (.int k), cl, none, none] ∧ H2 = upd H p (handL c i g m t), ?_, ?_⟩
    · have same : upd H p (handL c i g m t) = H := by
        funext b
        by_cases e : b = p
        · rw [e, upd_same, hp]
        · rw [upd_ne e]
      refine ⟨_, rfl, p, _, 2, _, rfl, rfl, sq hp, rfl, rfl, _, rfl, ?_⟩
      refine ite2 (fun _ => ?_) (fun _ => ⟨none, i, g, m, t, hi, rfl, same.symm⟩)
      refine ⟨_, rfl, p, _, 1, _, rfl, rfl, sq hp, rfl, _, rfl, p, _, 0, _, rfl, rfl, sq hp, rfl, c, _, rfl, .inl (sq hc), i, _, rfl, rfl, _, rfl, ?_⟩
      refine ite2 (fun hlt => ?_) (fun _ => ⟨none, i, g, m, t, hi, rfl, same.symm⟩)
      obtain ⟨z, hz⟩ := atNat hi (of_decide_eq_true hlt)
      refine ⟨_, rfl, p, _, 0, _, rfl, rfl, sq hp, rfl, _, rfl, p, _, 1, _, rfl, rfl, sq hp, rfl, c, _, i, _, rfl, rfl, sq hc, hz, ?_⟩
      refine ⟨_, rfl, p, _, 1, _, rfl, rfl, sq hp, rfl, _, _, rfl, rfl, _, rfl, p, _, 1, 1, rfl, rfl, hp, rfl, ?_⟩
      have st : ∀ (j : Nat) (v : V) (i g m t : Int), upd (upd H p (handL c i g m t)) p (.lst (List.set [.ref c, .int i, .int g, .int m, .int t] j v)) = upd H p (.lst (List.set [.ref c, .int i, .int g, .int m, .int t] j v)) := fun _ _ _ _ _ _ => upd_upd
      have s1 : upd H p (.lst (List.set [.ref c, .int i, .int g, .int m, .int t] 1 (.int (i + 1)))) = upd H p (handL c (i + 1) g m t) := rfl
      rw [s1]
      refine ⟨_, rfl, p, _, 3, _, rfl, rfl, sq upd_same, rfl, _, _, rfl, rfl, .inr (by decide), _, rfl, _, _, rfl, rfl, _, _, rfl, rfl, .inl ⟨_, rfl, _, _, rfl, rfl, (show (2147483629 : Int) ≠ 0 by decide), _, rfl, p, _, 3, 3, rfl, rfl, upd_same, rfl, ?_⟩⟩
      rw [st]
      refine ⟨_, rfl, _, _, rfl, rfl, ⟨by decide, by decide, by decide⟩, _, _, rfl, rfl, _, rfl, ?_⟩
      refine ite2 (fun _ => ?_) (fun _ => ⟨_, i + 1, g, _, t, by omega, rfl, rfl⟩)
      refine ⟨_, rfl, _, rfl, p, _, 2, 2, rfl, rfl, upd_same, rfl, ?_⟩
      exact ⟨_, i + 1, z, _, t, by omega, rfl, upd_upd⟩
    · rintro σ2 H2 ⟨cl, i, g, m, t, hi, rfl, rfl⟩
      have hp : upd H p (handL c i g m t) p = some (handL c i g m t) := upd_same
      refine ⟨_, rfl, p, _, 2, _, rfl, rfl, sq hp, rfl, _, _, rfl, rfl, _, rfl, ?_⟩
      refine ite2 (fun _ => ?_) (fun _ => ?_)
      · refine ⟨_, rfl, p, _, 2, _, rfl, rfl, sq hp, rfl, .inl ⟨_, rfl, _, rfl, _, _, rfl, rfl, kn, ?_⟩⟩
        refine ⟨_, rfl, p, _, 2, _, rfl, rfl, sq hp, rfl, _, rfl, _, _, rfl, rfl, ⟨kn, kb⟩, _, rfl, p, _, 2, 2, rfl, rfl, hp, rfl, _, rfl, ?_⟩
        rw [upd_upd]
        exact q _ i _ m t (fmB k0).1 (fmB k0).2 hi
      · refine ⟨_, rfl, p, _, 4, _, rfl, rfl, sq hp, rfl, _, _, rfl, rfl, _, rfl, p, _, 4, 4, rfl, rfl, hp, rfl, ?_⟩
        rw [upd_upd]
        refine ⟨_, rfl, p, _, 3, _, rfl, rfl, sq upd_same, rfl, _, rfl, p, _, 4, _, rfl, rfl, sq upd_same, rfl, _, _, rfl, rfl, .inl (by decide), _, _, rfl, rfl, .inl ⟨_, rfl, _, _, rfl, rfl, .inr (by decide), .inl ⟨_, rfl, _, _, rfl, rfl, (show (2147483647 : Int) ≠ 0 by decide), ?_⟩⟩⟩
        have b1 := fmB (a := (m + 7919 * (t + 1)) * 48271) (k := 2147483647) (by decide)
        refine ⟨_, rfl, _, rfl, _, _, rfl, rfl, ⟨by decide, by decide⟩, _, _, rfl, rfl, _, _, rfl, rfl, .inl ⟨by omega, by omega⟩, .inl ⟨_, rfl, _, _, rfl, rfl, (show (2147483647 : Int) ≠ 0 by decide), ?_⟩⟩
        have b2 := fmB (a := ((m + 7919 * (t + 1)) * 48271).fmod 2147483647 * ((((m + 7919 * (t + 1)) * 48271).fmod 2147483647).fdiv 1009 + 69621)) (k := 2147483647) (by decide)
        refine ⟨_, rfl, _, rfl, _, _, rfl, rfl, ⟨by decide, by decide⟩, _, _, rfl, rfl, _, _, rfl, rfl, .inl ⟨by omega, by omega⟩, .inl ⟨_, rfl, _, _, rfl, rfl, (show (2147483399 : Int) ≠ 0 by decide), ?_⟩⟩
        refine ⟨_, rfl, _, _, rfl, rfl, ⟨by decide, by decide⟩, .inl ⟨_, rfl, _, rfl, _, _, rfl, rfl, kn, ?_⟩⟩
        exact q _ i g m (t + 1) (fmB k0).1 (fmB k0).2 hi
end
end Cn
namespace Cn
open PySem PySem.Spec PyProof.Rows L2
theorem small4000 {n : Nat} (h : n ≤ 4000) : n < sizeLine := Nat.lt_of_le_of_lt h (by decide)
theorem OpR.orr {X : Cx} {f : Value → Value → Sem Value} {r r2 : R2} (h : OpR X f r) (k : OpR X f r2) : OpR X f (fun x y H Q => r x y H Q ∨ r2 x y H Q) := by
  intro pins s σ H x y v u Q I rx ry q
  rcases q with q | q
  · exact h pins s σ H x y v u Q I rx ry q
  · exact k pins s σ H x y v u Q I rx ry q
/-! two things that are alike, of nesting at most n: flat ones and dicts are the same -/
def DictOk (H : Hp) (x : V) : Prop := ∃ a kvs, x = .ref a ∧ H a = some (.dK kvs) ∧ (kvs = [] ∨ ∃ k u, kvs = [(k, u)] ∧ (flatV u = true ∨ ∃ b, u = .ref b))
def EqG (H : Hp) : Nat → V → V → Prop
  | 0 => fun x y => x = y ∧ (flatV x = true ∨ DictOk H x)
  | n + 1 => fun x y => EqG H n x y ∨ ∃ a b xs ys, x = .ref a ∧ y = .ref b ∧ ((H a = some (.lst xs) ∧ H b = some (.lst ys)) ∨ (H a = some (.tup xs) ∧ H b = some (.tup ys))) ∧ xs.length ≤ 4000 ∧ Paired (EqG H n) xs ys
theorem pairedSelf {F : V → V → Prop} : ∀ {xs : List V}, (∀ x ∈ xs, F x x) → Paired F xs xs
  | [], _ => .nil
  | x :: xs, h => .cons (h x List.mem_cons_self) (pairedSelf fun y hy => h y (List.mem_cons_of_mem _ hy))
theorem eqG_same {H H' : Hp} (s : Same H H') : ∀ {n : Nat} {x y : V}, EqG H n x y → EqG H' n x y
  | 0, x, y, h => by
    obtain ⟨e, h | ⟨a, kvs, e2, ha, hk⟩⟩ := h
    · exact ⟨e, .inl h⟩
    · exact ⟨e, .inr ⟨a, kvs, e2, s _ _ ha, hk⟩⟩
  | n + 1, x, y, h => by
    rcases h with h | ⟨a, b, xs, ys, e1, e2, h, hl, hp⟩
    · exact .inl (eqG_same s h)
    · exact .inr ⟨a, b, xs, ys, e1, e2, h.imp (fun z => ⟨s _ _ z.1, s _ _ z.2⟩) (fun z => ⟨s _ _ z.1, s _ _ z.2⟩), hl, Paired.mapP hp fun _ _ z => eqG_same s z⟩
/-- told and due, alike: True comes out, new things apart nothing is changed -/
def spIs (n : Nat) : Sp := fun vs H Q _ => ∃ (x y : V), vs = [x, y] ∧ EqG H n x y ∧ ∀ H', Same H H' → Q (.bl true) H'
/-- all([..]) over two lists, or two tuples, of things alike -/
def tAllIs (n : Nat) : TE := fun σ H Q => ∃ a b xs ys, σ[0]? = some (some (.ref a)) ∧ σ[1]? = some (some (.ref b)) ∧ ((H a = some (.lst xs) ∧ H b = some (.lst ys)) ∨ (H a = some (.tup xs) ∧ H b = some (.tup ys))) ∧ xs.length ≤ 4000 ∧ Paired (EqG H n) xs ys ∧ ∀ H', Same H H' → Q (.bl true) H'
/-! types -/
theorem kit2 {K : PySem.W.Frag} {T : String} {b : Bool} (h : ((kitB T "tuple").bind fun a => if a then some true else kitB T "list") = some b) : PySem.W.kitAny K (.type T) [.type "tuple", .type "list"] = some b := by
  cases e : kitB T "tuple" with
  | none => rw [e] at h; cases h
  | some a =>
    rw [e] at h
    cases a with
    | true =>
      have hb : b = true := (Option.some.inj h).symm
      subst hb
      exact kitAny_cons (kit_ty e) (fun z => nomatch z) fun _ => rfl
    | false =>
      have h : kitB T "list" = some b := h
      refine kitAny_cons (kit_ty e) (fun _ => kitAny_cons (kit_ty h) (fun z => ?_) (fun z => z)) (fun z => nomatch z)
      rw [z]; exact kitAny_nil
/-- a thing that is no list and no tuple -/
theorem leafTy {K : PySem.W.Frag} {H : Hp} {x : V} (h : flatV x = true ∨ DictOk H x) : ∃ T b, TyX K H x (.type T) ∧ PySem.W.kitAny K (.type T) [.type "tuple", .type "list"] = some false ∧ PySem.W.kitOne K (.type T) (.type "bool") = some b := by
  rcases h with h | ⟨a, kvs, rfl, ha, _⟩
  · cases x with
    | non => exact ⟨"NoneType", false, .base .non, kit2 (by decide +kernel), kit_ty (by decide +kernel)⟩
    | bl b => exact ⟨"bool", true, .base (.bl b), kit2 (by decide +kernel), kit_ty (by decide +kernel)⟩
    | int i => exact ⟨"int", false, .base (.int i), kit2 (by decide +kernel), kit_ty (by decide +kernel)⟩
    | str z => exact ⟨"str", false, .base (.str z), kit2 (by decide +kernel), kit_ty (by decide +kernel)⟩
    | _ => cases h
  · exact ⟨"dict", false, .base (.dK ha), kit2 (by decide +kernel), kit_ty (by decide +kernel)⟩
theorem seqTy {K : PySem.W.Frag} {H : Hp} {a : Addr} {xs : List V} {tu : Bool} (h : if tu = true then H a = some (.tup xs) else H a = some (.lst xs)) : ∃ T, TyX K H (.ref a) (.type T) ∧ PySem.W.kitAny K (.type T) [.type "tuple", .type "list"] = some true ∧ PySem.W.kitOne K (.type T) (.type "tuple") = some tu := by
  cases tu with
  | true => exact ⟨"tuple", .base (.tup (by simpa using h)), kit2 (by decide +kernel), kit_ty (by decide +kernel)⟩
  | false => exact ⟨"list", .base (.lst (by simpa using h)), kit2 (by decide +kernel), kit_ty (by decide +kernel)⟩
end Cn
namespace Cn
open PySem PySem.Spec PyProof.Rows L2
/-! comprehensions over zip -/
section
variable {K : PySem.W.Frag} {a b D : Addr} {xs ys : List V} {g : TG} {tt : TT} {te : TE} {vs : List Nat} {σ : L2.St} {H1 : Hp} {Qd : Hp → Prop}
def ZipTurn (Pv : Nat → Hp → Prop) (D : Addr) (g : TG) (tt : TT) (te : TE) (vs : List Nat) (σ : L2.St) (i : Nat) (x y : V) : Prop := ∀ (T : Addr) (H : Hp), Pv i H → H T = none → g (.ref T) (wipe σ vs) (upd H T (.tup [x, y])) fun σ2 H2 => wipe σ2 vs = wipe σ vs ∧ tt σ2 H2 fun k H3 =>
  if k = true then te σ2 H3 fun z H4 => ∃ acc, H4 D = some (.lst acc) ∧ acc.length < sizeLine ∧ Pv (i + 1) (upd H4 D (.lst (acc ++ [z]))) else Pv (i + 1) H3
theorem lcZipL (hl : xs.length = ys.length) (Pv : Nat → Hp → Prop) (h0 : Pv 0 (upd H1 D (.lst []))) (hq : ∀ i H, Pv i H → SqL K H a xs ∧ SqL K H b ys) (hs : ∀ i x y, xs[i]? = some x → ys[i]? = some y → ZipTurn Pv D g tt te vs σ i x y) (hd : ∀ H, Pv xs.length H → Qd H) :
    ∃ W : Nat → Nat → Hp → Prop, (∃ m, W 0 m (upd H1 D (.lst []))) ∧ ∀ i m H, W i m H → ((Itz K a b).stop i H ∧ Qd H) ∨ ((Itz K a b).go i H ∧ ∃ Nx : Hp → Prop, (∀ H', Nx H' → ∃ m', m' < m ∧ W (i + 1) m' H') ∧ ∀ x H', (Itz K a b).yld i H x H' → g x (wipe σ vs) H' fun σ2 H2 => wipe σ2 vs = wipe σ vs ∧ tt σ2 H2 fun k H3 =>
      if k = true then te σ2 H3 fun z H4 => ∃ acc, H4 D = some (.lst acc) ∧ acc.length < sizeLine ∧ Nx (upd H4 D (.lst (acc ++ [z]))) else Nx H3) := by
  refine ⟨fun i m H => m = xs.length - i ∧ i ≤ xs.length ∧ Pv i H, ⟨_, rfl, Nat.zero_le _, h0⟩, ?_⟩
  rintro i m H ⟨rfl, hi, p⟩
  obtain ⟨qa, qb⟩ := hq i H p
  rcases Nat.lt_or_ge i xs.length with lt | ge
  · have ea : xs[i]? = some xs[i] := List.getElem?_eq_getElem lt
    have lt2 : i < ys.length := by omega
    have eb : ys[i]? = some ys[i] := List.getElem?_eq_getElem lt2
    refine .inr ⟨⟨xs, ys, _, _, qa, qb, ea, eb⟩, Pv (i + 1), fun H' p' => ⟨xs.length - (i + 1), by omega, rfl, lt, p'⟩, ?_⟩
    rintro v H' ⟨T, u, z, rfl, nT, rfl, k1, k2⟩
    exact hs i u z (k1 xs qa) (k2 ys qb) T H p nT
  · have e : i = xs.length := by omega
    subst e
    exact .inl ⟨⟨xs, ys, qa, qb, .inl (Nat.le_refl _)⟩, hd H p⟩
theorem lcZipT (hl : xs.length = ys.length) (Pv : Nat → Hp → Prop) (h0 : Pv 0 (upd H1 D (.lst []))) (hq : ∀ i H, Pv i H → SqT K H a xs ∧ SqT K H b ys) (hs : ∀ i x y, xs[i]? = some x → ys[i]? = some y → ZipTurn Pv D g tt te vs σ i x y) (hd : ∀ H, Pv xs.length H → Qd H) :
    ∃ W : Nat → Nat → Hp → Prop, (∃ m, W 0 m (upd H1 D (.lst []))) ∧ ∀ i m H, W i m H → ((RZ.ItzT K a b).stop i H ∧ Qd H) ∨ ((RZ.ItzT K a b).go i H ∧ ∃ Nx : Hp → Prop, (∀ H', Nx H' → ∃ m', m' < m ∧ W (i + 1) m' H') ∧ ∀ x H', (RZ.ItzT K a b).yld i H x H' → g x (wipe σ vs) H' fun σ2 H2 => wipe σ2 vs = wipe σ vs ∧ tt σ2 H2 fun k H3 =>
      if k = true then te σ2 H3 fun z H4 => ∃ acc, H4 D = some (.lst acc) ∧ acc.length < sizeLine ∧ Nx (upd H4 D (.lst (acc ++ [z]))) else Nx H3) := by
  refine ⟨fun i m H => m = xs.length - i ∧ i ≤ xs.length ∧ Pv i H, ⟨_, rfl, Nat.zero_le _, h0⟩, ?_⟩
  rintro i m H ⟨rfl, hi, p⟩
  obtain ⟨qa, qb⟩ := hq i H p
  rcases Nat.lt_or_ge i xs.length with lt | ge
  · have ea : xs[i]? = some xs[i] := List.getElem?_eq_getElem lt
    have lt2 : i < ys.length := by omega
    have eb : ys[i]? = some ys[i] := List.getElem?_eq_getElem lt2
    refine .inr ⟨⟨xs, ys, _, _, qa, qb, ea, eb⟩, Pv (i + 1), fun H' p' => ⟨xs.length - (i + 1), by omega, rfl, lt, p'⟩, ?_⟩
    rintro v H' ⟨T, u, z, rfl, nT, rfl, k1, k2⟩
    exact hs i u z (k1 xs qa) (k2 ys qb) T H p nT
  · have e : i = xs.length := by omega
    subst e
    exact .inl ⟨⟨xs, ys, qa, qb, .inl (Nat.le_refl _)⟩, hd H p⟩
end
theorem pairedAt {F : V → V → Prop} : ∀ {xs ys : List V}, Paired F xs ys → ∀ {i : Nat} {x y : V}, xs[i]? = some x → ys[i]? = some y → F x y
  | _, _, .nil, i, x, y, h, _ => by simp at h
  | _, _, .cons h t, 0, x, y, h1, h2 => by
    cases (Option.some.inj h1)
    cases (Option.some.inj h2)
    exact h
  | _, _, .cons _ t, i + 1, x, y, h1, h2 => pairedAt t (i := i) (by simpa using h1) (by simpa using h2)
section
variable {P : Program} {w : World} {K : PySem.W.Frag} {mg : Str → Option Value} {base : Heap}
structure IsTxt (mg : Str → Option Value) : Prop where
  inst : mg "isinstance" = none
  tup : mg "tuple" = none
  lst : mg "list" = none
  bool : mg "bool" = none
  len : mg "len" = none
  all : mg "all" = none
  zip : mg "zip" = none
/-- the turn of the comprehension, by the promise of the next depth -/
theorem isTurn {n : Nat} {K' : PySem.W.Frag} {D : Addr} {xs ys : List V} {H0 : Hp} {u0 u1 z2 z3 : Option V} (hp : Paired (EqG H0 n) xs ys) (hx : xs.length ≤ 4000) (nD : H0 D = none) (i : Nat) (x y : V) (h1 : xs[i]? = some x) (h2 : ys[i]? = some y) :
    ZipTurn (fun i H' => Same H0 H' ∧ H' D = some (.lst ((List.replicate i true).map V.bl))) D (gTup K' 2 (gCons (gName 2) (gCons (gName 3) gNil))) tYes (tCall (spIs n) [] (fun _ _ _ => False) (tCons (tVar 2) (tCons (tVar 3) tNil))) [2, 3] [u0, u1, z2, z3] i x y := by
  rintro T H ⟨sm, hD⟩ nT
  have hi : i < 4000 := Nat.lt_of_lt_of_le (List.getElem?_eq_some_iff.mp h1).1 hx
  have sT : Same H (upd H T (.tup [x, y])) := smUpd nT
  refine ⟨T, [x, y], rfl, .inl (.inl upd_same), rfl, x, [y], rfl, y, [], rfl, rfl, rfl, x, rfl, y, rfl, x, y, rfl, eqG_same (sm.trans sT) (pairedAt hp h1 h2), fun H' s' => ?_⟩
  have hD' : H' D = some (.lst ((List.replicate i true).map V.bl)) := s' _ _ (sT _ _ hD)
  refine ⟨_, hD', by rw [List.length_map, List.length_replicate]; exact small4000 (by omega), fun b o e => ?_, ?_⟩
  · have nb : b ≠ D := fun z => by rw [z, nD] at e; cases e
    rw [upd_ne nb]
    exact s' _ _ (sT _ _ (sm _ _ e))
  · rw [upd_same, show List.replicate (i + 1) true = List.replicate i true ++ [true] from List.replicate_succ', List.map_append]
    rfl
theorem allRep (n : Nat) : (List.replicate n true).all id = true := by
  induction n with
  | zero => rfl
  | succ n ih => rw [List.replicate_succ, List.all_cons, ih]; rfl
theorem sameT {K : PySem.W.Frag} {H H' : Hp} {a : Addr} {xs : List V} (s : Same H H') (h : SqT K H a xs) : SqT K H' a xs := h.imp (fun r => r.imp (s _ _) (fun ⟨o, e⟩ => ⟨o, s _ _ e⟩)) (fun z => z)
theorem eqG_up {H : Hp} {n m : Nat} {x y : V} (h : EqG H n x y) (hm : n ≤ m) : EqG H m x y := by
  induction m with
  | zero =>
    have e : n = 0 := by omega
    rw [← e]; exact h
  | succ m ih =>
    by_cases e : n = m + 1
    · rw [← e]; exact h
    · exact .inl (ih (by omega))
theorem eqG_cases {H : Hp} : ∀ {n : Nat} {x y : V}, EqG H n x y → (x = y ∧ (flatV x = true ∨ DictOk H x)) ∨ ∃ m, n = m + 1 ∧ ∃ a b xs ys, x = .ref a ∧ y = .ref b ∧ ((H a = some (.lst xs) ∧ H b = some (.lst ys)) ∨ (H a = some (.tup xs) ∧ H b = some (.tup ys))) ∧ xs.length ≤ 4000 ∧ Paired (EqG H m) xs ys
  | 0, x, y, h => .inl h
  | n + 1, x, y, h => by
    rcases h with h | ⟨a, b, xs, ys, h⟩
    · rcases eqG_cases h with z | ⟨m, e, a, b, xs, ys, e1, e2, e3, e4, e5⟩
      · exact .inl z
      · exact .inr ⟨n, rfl, a, b, xs, ys, e1, e2, e3, e4, Paired.mapP e5 fun _ _ q => eqG_up q (by omega)⟩
    · exact .inr ⟨n, rfl, a, b, xs, ys, h⟩
/-- by the depth: nothing at 0 -/
def spJ : Nat → Sp
  | 0 => fun _ _ _ _ => False
  | n + 1 => spIs n
/-- the same flat thing, the same dict, compared -/
theorem leafEq {K : PySem.W.Frag} {H : Hp} {x : V} {Q : VK} (h : flatV x = true ∨ DictOk H x) (k : Q (.bl true) H) : rEq x x H Q ∨ rEqV K x x H Q := by
  rcases h with h | ⟨a, kvs, rfl, ha, hk⟩
  · left
    refine ⟨?_, ?_⟩
    · cases x <;> first | rfl | cases h
    · rw [decide_eq_true rfl]; exact k
  · right
    refine ⟨1, by decide, .inr ⟨a, a, kvs, kvs, rfl, rfl, ha, ha, rfl, fun q hq => ?_⟩, k⟩
    rcases hk with rfl | ⟨kk, u, rfl, hu⟩
    · cases hq
    · obtain rfl := List.mem_singleton.mp hq
      refine ⟨u, ?_, ?_⟩
      · show valV [(kk, u)] kk = some u
        unfold valV
        simp
      · rcases hu with hu | ⟨b, rfl⟩
        · refine .inl ⟨rfl, ?_⟩
          cases u <;> first | rfl | cases hu
        · exact .inr (.inl ⟨b, rfl, rfl⟩)
end
end Cn
namespace Cn
open PySem PySem.Spec PyProof.Rows L2
def nIs : List Str := ["_law_told_here", "_law_due_here", "_law_one", "_law_two"]
theorem scIs : FnScope nIs ["_law_told_here", "_law_due_here"] (defScope sIs) := ⟨rfl, rfl, rfl, by decide +kernel, rfl, by decide +kernel, by decide +kernel⟩
section
variable {P : Program} {w : World} {K : PySem.W.Frag} {mg : Str → Option Value} {base : Heap}
theorem ok_is {f : Addr} {fd : FuncData} (F : Fun K "_law_is" "_law_is" sIs f fd) (T : IsTxt mg) (g : mg "_law_is" = some (.ref f)) (bI : Binds K fd ["_law_told_here", "_law_due_here"] []) : ∀ n : Nat, FnOk P w K mg base CX0 (n + 2) f fd ["_law_told_here", "_law_due_here"] (spJ n) := by
  intro n
  induction n with
  | zero => exact ⟨fun _ _ _ _ z => z.elim, fun _ _ _ _ _ _ _ _ _ _ _ _ _ z => z.elim⟩
  | succ n ih =>
    refine F.ok scIs (fun vs H Q E h => ?_) (fun cdv A outer s H vs Q E hr h => ?_)
    · obtain ⟨x, y, rfl, _⟩ := h
      rfl
    · obtain ⟨x, y, rfl, hE, k⟩ := h
      refine ⟨_, pss_cons (ps_if (pt_val (pe_callB call_isiT (by rfl) T.inst (by decide +kernel) (pa_cons (pv 1) (pa_cons (pe_tup (pa_cons (pe_bltn (v := .ty "tuple") (by rfl) T.tup (by decide +kernel) rfl) (pa_cons (pe_bltn (v := .ty "list") (by rfl) T.lst (by decide +kernel) rfl) pa_nil))) pa_nil))))
          (pss_cons (ps_if (PW.pt (pw_or (pt_cmpR op_ne (pe_callB call_isi (by rfl) T.inst (by decide +kernel) (pa_cons (pv 0) (pa_cons (pe_bltn (v := .ty "tuple") (by rfl) T.tup (by decide +kernel) rfl) pa_nil))) (pe_callB call_isi (by rfl) T.inst (by decide +kernel) (pa_cons (pv 1) (pa_cons (pe_bltn (v := .ty "tuple") (by rfl) T.tup (by decide +kernel) rfl) pa_nil))) (nomark _))
              (pw_or1 (pt_not (pt_val (pe_callB call_isiT (by rfl) T.inst (by decide +kernel) (pa_cons (pv 0) (pa_cons (pe_tup (pa_cons (pe_bltn (v := .ty "tuple") (by rfl) T.tup (by decide +kernel) rfl) (pa_cons (pe_bltn (v := .ty "list") (by rfl) T.lst (by decide +kernel) rfl) pa_nil))) pa_nil))))))))
            (pss_one (ps_ret pe_bl)) pss_nil)
          (pss_one (ps_ret (pe_and (pe_cmpR op_eq (pe_callB call_len_seq (by rfl) T.len PySem.boot_len (pa_cons (pv 0) pa_nil)) (pe_callB call_len_seq (by rfl) T.len PySem.boot_len (pa_cons (pv 1) pa_nil)) (nomark _)) (pe_one
            (pe_callB (cr_all rfl) (by rfl) T.all (by decide +kernel) (pa_cons (pe_lc (own := [("_law_one", 2), ("_law_two", 3)]) (g := gTup K 2 (gCons (gName 2) (gCons (gName 3) gNil))) (tt := tYes) rfl scIs.nd (RZ.pi_zipA (by rfl) T.zip (pa_cons (pv 0) (pa_cons (pv 1) pa_nil)))
              (blkOk_by (N := nIs) (sc := defScope sIs) (by decide +kernel)) (fun _ _ _ _ _ => pg_tup rfl (pgs_cons (pg_name (i := 2) scIs.nd rfl (Or.inl rfl)) (pgs_cons (pg_name (i := 3) scIs.nd rfl (Or.inl rfl)) pgs_nil))) (fun _ _ _ _ _ => pts_nil)
              (fun _ _ _ _ _ => pe_call ih hr (by rfl) g F.kp bI .nil pass0 (pa_cons (pv 2) (pa_cons (pv 3) pa_nil)))) pa_nil)))))))
          pss_nil)
        (pss_one (ps_ret (pe_and (pe_cmpR op_eq (pe_callB call_isi (by rfl) T.inst (by decide +kernel) (pa_cons (pv 0) (pa_cons (pe_bltn (v := .ty "bool") (by rfl) T.bool (by decide +kernel) rfl) pa_nil))) (pe_callB call_isi (by rfl) T.inst (by decide +kernel) (pa_cons (pv 1) (pa_cons (pe_bltn (v := .ty "bool") (by rfl) T.bool (by decide +kernel) rfl) pa_nil))) (nomark _))
          (pe_one (pe_cmpR (Cn.OpR.orr op_eq (op_eqV hr.units)) (pv 0) (pv 1) (nomark _)))))), ?_⟩
      have cls2 : Paired ClsV [.ty "tuple", .ty "list"] [.type "tuple", .type "list"] := .cons (.ty _) (.cons (.ty _) .nil)
      refine ⟨_, rfl, by show 2 ≤ sizeLine; decide, fun t1 m1 => ?_⟩
      have S1 := smUpd (o := .tup [.ty "tuple", .ty "list"]) m1
      rcases eqG_cases hE with ⟨rfl, hL⟩ | ⟨m, rfl, a, b, xs, ys, rfl, rfl, hk, hx, hp⟩
      · have hL1 : flatV x = true ∨ DictOk (upd H t1 (.tup [.ty "tuple", .ty "list"])) x := hL.imp (fun z => z) fun ⟨a, kvs, e, ha, q⟩ => ⟨a, kvs, e, S1 _ _ ha, q⟩
        obtain ⟨Ty, bb, ty, k2, k3⟩ := leafTy (K := K) hL1
        refine ⟨x, t1, _, _, _, false, rfl, upd_same, cls2, ty, k2, false, rfl, ?_⟩
        refine iteF ?_
        refine ⟨_, rfl, x, .ty "bool", _, _, bb, rfl, .ty _, ty, k3, _, rfl, x, .ty "bool", _, _, bb, rfl, .ty _, ty, k3, rfl, _, rfl, ?_⟩
        rw [if_pos (decide_eq_true rfl)]
        exact ⟨_, rfl, _, rfl, leafEq hL1 (k _ S1)⟩
      · obtain ⟨tu, ha, hb⟩ : ∃ tu : Bool, (if tu = true then H a = some (.tup xs) else H a = some (.lst xs)) ∧ (if tu = true then H b = some (.tup ys) else H b = some (.lst ys)) := by
          rcases hk with ⟨z1, z2⟩ | ⟨z1, z2⟩
          · exact ⟨false, by simpa using z1, by simpa using z2⟩
          · exact ⟨true, by simpa using z1, by simpa using z2⟩
        have keep : ∀ {H1 : Hp} {c : Addr} {zs : List V}, Same H H1 → (if tu = true then H c = some (.tup zs) else H c = some (.lst zs)) → (if tu = true then H1 c = some (.tup zs) else H1 c = some (.lst zs)) := fun {H1 c zs} sm z => by
          cases tu with
          | true => rw [if_pos rfl] at z ⊢; exact sm _ _ z
          | false => rw [if_neg Bool.false_ne_true] at z ⊢; exact sm _ _ z
        obtain ⟨Tb, ty, k2, k3⟩ := seqTy (K := K) (keep S1 hb)
        refine ⟨_, t1, _, _, _, true, rfl, upd_same, cls2, ty, k2, true, rfl, ?_⟩
        refine iteT ?_
        obtain ⟨Ta, ty2, k4, k5⟩ := seqTy (K := K) (keep S1 ha)
        refine ⟨_, rfl, _, .ty "tuple", _, _, tu, rfl, .ty _, ty2, k5, _, rfl, _, .ty "tuple", _, _, tu, rfl, .ty _, ty, k3, rfl, _, rfl, ?_⟩
        rw [show (!decide (V.bl tu = V.bl tu)) = false from by rw [decide_eq_true rfl]; rfl]
        refine iteF ?_
        refine ⟨_, rfl, by show 2 ≤ sizeLine; decide, fun t2 m2 => ?_⟩
        have S2 := S1.trans (smUpd (o := .tup [.ty "tuple", .ty "list"]) m2)
        obtain ⟨Tc, ty3, k6, k7⟩ := seqTy (K := K) (keep S2 ha)
        refine ⟨_, t2, _, _, _, true, rfl, upd_same, cls2, ty3, k6, true, rfl, ?_⟩
        refine iteF ?_
        have hl : xs.length = ys.length := Paired.length hp
        generalize upd (upd H t1 (.tup [.ty "tuple", .ty "list"])) t2 (.tup [.ty "tuple", .ty "list"]) = H2 at *
        have hk2 : (SqL K H2 a xs ∧ SqL K H2 b ys) ∨ (SqT K H2 a xs ∧ SqT K H2 b ys) := by
          rcases hk with ⟨z1, z2⟩ | ⟨z1, z2⟩
          · exact .inl ⟨.inl (.inl (S2 _ _ z1)), .inl (.inl (S2 _ _ z2))⟩
          · exact .inr ⟨.inl (.inl (S2 _ _ z1)), .inl (.inl (S2 _ _ z2))⟩
        have la : SqL K H2 a xs ∨ SqT K H2 a xs := hk2.imp And.left And.left
        have lb : SqL K H2 b ys ∨ SqT K H2 b ys := hk2.imp And.right And.right
        refine ⟨_, rfl, a, xs, rfl, la, _, rfl, b, ys, rfl, lb, rfl, _, rfl, ?_⟩
        rw [if_pos (decide_eq_true (by rw [hl]))]
        have hp2 : Paired (EqG H2 m) xs ys := Paired.mapP hp fun _ _ z => eqG_same S2 z
        refine ⟨_, rfl, _, rfl, a, b, xs, ys, rfl, ?_⟩
        have fin : ∀ {D : Addr} {H3 : Hp}, Same H2 H3 → H3 D = some (.lst ((List.replicate xs.length true).map V.bl)) → rAll K [.ref D] H3 Q := fun {D H3} s3 hD =>
          ⟨D, List.replicate xs.length true, rfl, .inl (.inl hD), by rw [allRep]; exact k _ (S2.trans s3)⟩
        rcases hk2 with ⟨qa, qb⟩ | ⟨qa, qb⟩
        · refine .inl ⟨qa, qb, fun D nD => ?_⟩
          refine lcZipL hl (fun i H' => Same H2 H' ∧ H' D = some (.lst ((List.replicate i true).map V.bl))) ⟨smUpd nD, upd_same⟩ (fun i H' z => ⟨z.1.seq qa, z.1.seq qb⟩) (fun i x y h1 h2 => isTurn hp2 hx nD i x y h1 h2) (fun H' z => ?_)
          exact fin z.1 z.2
        · refine .inr ⟨qa, qb, fun D nD => ?_⟩
          refine lcZipT hl (fun i H' => Same H2 H' ∧ H' D = some (.lst ((List.replicate i true).map V.bl))) ⟨smUpd nD, upd_same⟩ (fun i H' z => ⟨sameT z.1 qa, sameT z.1 qb⟩) (fun i x y h1 h2 => isTurn hp2 hx nD i x y h1 h2) (fun H' z => ?_)
          exact fin z.1 z.2
end
end Cn
namespace Cn
open PySem PySem.Spec PyProof.Rows L2
section
open AutoSeq1 (wpAny_loadPart')
theorem meets_enum_tup (l : Addr) (items : Array Value) (n : Nat) (dct : Option Addr) (sl : Array (Option Value)) :
    Meets (Builtin.«enumerate.__new__» ⟨[.type "enumerate", .ref l], []⟩) (fun _ R s => s.heap.get? l = some { cls := .type "tuple", dict := dct, data := .seq items n, slots := sl } ∧
      R (.ok (.ret (.ref (s.heap.push { cls := .type "tuple_iterator", data := .fields #[.ref l, .int 0 0] }).objs.size)))
        { s with heap := (s.heap.push { cls := .type "tuple_iterator", data := .fields #[.ref l, .int 0 0] }).push { cls := .type "enumerate", data := .fields #[.none, .bool false, .ref s.heap.objs.size, rawInt 0, .none, .none] } }) :=
  .of_wp fun prog w A R s h => by
    obtain ⟨hp, g, d, tk, os⟩ := s; obtain ⟨hl, h⟩ := h
    have hsub := sub_enumerate
    have hL : Heap.IsTuple (Shared.heap ⟨hp, g, d, tk, os⟩) l items := ⟨_, hl, rfl, n, rfl⟩
    wp_walk using wpAny_loadPart' hl
    refine wpAny_stack_any fun st => wpAny_pure ?_
    split
    · rename_i c _ _ _ _ _
      cases (c == Value.type "enumerate")
      · wp_walk using wpAny_loadPart' hl, wpAny_pyIter_tuple hL
        exact ⟨_, rfl, h⟩
      · wp_walk using wpAny_loadPart' hl, wpAny_pyIter_tuple hL
        exact ⟨_, rfl, h⟩
    · wp_walk using wpAny_loadPart' hl, wpAny_pyIter_tuple hL
      exact ⟨_, rfl, h⟩
end
section
variable {prog : Program} {w : World} {A : Around} {E : Value → Shared → Prop} {s : Shared}
theorem call_enum_tup {l : Addr} {items : Array Value} {Q : Value → Shared → Prop} (hL : s.heap.IsTuple l items)
    (h : ∀ h', IsEnum h' (s.heap.objs.size + 1) s.heap.objs.size 0 .none → h'.IsTupleIter s.heap.objs.size l 0 → h'.objs.size = s.heap.objs.size + 2 →
      (∀ b o, s.heap.get? b = some o → h'.get? b = some o) → Q (.ref (s.heap.objs.size + 1)) { s with heap := h' }) :
    wpAny (model prog w) A (call (.type "enumerate") [.ref l]) Q E s := by
  obtain ⟨⟨c, dct, dt, sl⟩, hl, hc, n, hd⟩ := hL
  replace hc : c = .type "tuple" := hc
  replace hd : dt = .seq items n := hd
  subst hc hd
  refine callType_new F.called_enumerate (by decide) (F.typeCall_enumerate_1 _) (F.newCall_enumerate_1 _) (fun obj => F.args_object_init_2 obj _) F.entry_enumerate_new
    (meets_enum_tup l items n dct sl) ⟨hl, ?_⟩
  have hz : (s.heap.push { cls := .type "tuple_iterator", data := .fields #[.ref l, .int 0 0] }).objs.size = s.heap.objs.size + 1 := Heap.size_push ..
  show _ ∧ _
  rw [hz]
  have he : IsEnum ((s.heap.push { cls := .type "tuple_iterator", data := .fields #[.ref l, .int 0 0] }).push { cls := .type "enumerate", data := .fields #[.none, .bool false, .ref s.heap.objs.size, rawInt 0, .none, .none] }) (s.heap.objs.size + 1) s.heap.objs.size 0 .none := by
    have := Heap.get?_push_size (s.heap.push { cls := .type "tuple_iterator", data := .fields #[.ref l, .int 0 0] }) (o := { cls := .type "enumerate", data := .fields #[.none, .bool false, .ref s.heap.objs.size, rawInt 0, .none, .none] }) rfl
    rw [hz] at this; exact this
  refine ⟨⟨_, he, rfl⟩, h _ he ⟨_, Heap.get?_push_of_some _ (Heap.get?_push_size _ rfl), rfl, rfl⟩ (by rw [Heap.size_push, hz]) fun b o x => Heap.get?_push_of_some _ (Heap.get?_push_of_some _ x)⟩
theorem enumEndT {e it l : Addr} {i : Nat} {c : Int} {items : Array Value} {old : Value} {Q : Option Value → Shared → Prop} (hh : A.handled = none) (he : IsEnum s.heap e it c old) (hit : s.heap.IsTupleIter it l i) (hl : s.heap.IsTuple l items) (hx : items[i]? = none)
    (hQ : ∀ h', Heap.ExtBut it s.heap h' → Q none { s with heap := h' }) : wpAny (model prog w) A (pyNext (.ref e)) Q E s := by
  have hT : s.TypeIs (.ref e) "enumerate" := ⟨_, he, rfl⟩
  unfold pyNext
  refine wpAny_bind (wpAny_attempt (wpAny_callSpecial?_slot (name := Str.ofString "__next__") hT F.slot_enumerate_next
    (wpAny_call_entry F.slot_enumerate_next hT F.entry_enumerate_next ?_ (F.args_enumerate_next_1 _))))
  show wpAny _ _ (field (.ref e) 2 >>= _) _ _ _
  refine wpAny_bind (wpAny_field he rfl (x := .ref it) rfl ?_)
  refine wpAny_bind (wpAny_nextOf_tuple_end (A := A.in1) hh hit hl hx fun h' x he' hx' => ?_)
  obtain ⟨o, ho, hc⟩ := hx'
  refine wpAny_bind (wpAny_isInstance (T := "StopIteration") (b := true) ⟨o, ho, hc⟩ isSubtype_stop ?_)
  exact wpAny_pure (hQ _ he')
end
/-- the tuple at a, each item in a new pair -/
def IteT (K : PySem.W.Frag) (a : Addr) : It :=
  ⟨fun i H => ∃ (xs : List V) (x : V), SqT K H a xs ∧ xs[i]? = some x, fun i H v H' => ∃ T x, v = .ref T ∧ H T = none ∧ H' = upd H T (.tup [.int (i : Nat), x]) ∧ ∀ xs, SqT K H a xs → xs[i]? = some x, fun i H => ∃ xs : List V, SqT K H a xs ∧ xs.length ≤ i⟩
theorem turn_enumT {P : Program} {w : World} {K : PySem.W.Frag} {elts : List Expr} {kk : Nat} {tpos : Pos} (a e it : Addr) :
    Turn P w K (.Tuple elts kk tpos) (IteT K a) [e, it] e (fun i h => (∃ old, IsEnum h e it ((i : Nat) : Int) old) ∧ h.IsTupleIter it a i ∧ e ≠ it ∧ a ≠ it ∧ a ≠ e) where
  mem := by simp
  obj := fun i h st b hb => by
    obtain ⟨⟨old, he⟩, ⟨o, ho, hc, hd⟩, _⟩ := st
    have e' : b = e ∨ b = it := by simpa using hb
    rcases e' with z | z
    · rw [z]; exact ⟨_, he, fun v q => nomatch q⟩
    · rw [z]; exact ⟨o, ho, fun v q => by rw [hd] at q; cases q⟩
  keep := fun i h h' st k => let ⟨⟨old, he⟩, hi, hne⟩ := st; ⟨⟨old, k e (by simp) _ he⟩, hi.at fun o q => k it (by simp) o q, hne⟩
  item := by
    intro X hP hw hK hc i pins s σ H E I hf st hg
    subst hP hw hK
    obtain ⟨⟨old, he⟩, hit, hne, hai, hae⟩ := st
    obtain ⟨xs, x, hq, hx⟩ := hg
    obtain ⟨its, rv, p, hz⟩ := I.tuple hq
    obtain ⟨u, hu, ru⟩ := rv.get hx
    have hel : e < s.heap.objs.size := Heap.lt_size he
    have hil : it < s.heap.objs.size := by obtain ⟨_, q, _⟩ := hit; exact Heap.lt_size q
    have hlt : i < its.toArray.size := by
      have := (List.getElem?_eq_some_iff.mp hu).1
      simpa using this
    refine wpAny_pyNext_enum_itemC (c := ((i : Nat) : Int)) (Draws.tuple (A := X.A.in1) (I.ok.hd hc) it a hai its.toArray) he ⟨hit, p⟩ hlt hne (by simp [hne, Ne.symm hae]) fun x' h' tk hP ho hs' hT hsz hk => ?_
    have ex : x' = u := by
      have e1 : its.toArray[i]? = some u := by simpa using hu
      rw [e1] at hP
      exact (Option.some.inj hP).symm
    subst ex
    refine ⟨_, rfl, wpAny_letOwnedTupleGo_enum (s := { s with heap := h', toks := tk + 1 }) ho fun h'' he' sb => ?_⟩
    have hT2 : h''.get? s.heap.objs.size = some { cls := .type "tuple", data := .seq #[.int i tk, x'] } := (sb.2 _ (Nat.ne_of_gt hel)).trans hT
    have new : ObjOk X.prog X.w (upd H s.heap.objs.size (.tup [.int (i : Nat), x])) h'' s.heap.objs.size (.tup [.int (i : Nat), x]) :=
      ⟨by show 2 ≤ sizeLine; decide, [.int i tk, x'], .cons ⟨_, rfl⟩ (.cons ru .nil), ⟨_, hT2, rfl, _, rfl⟩⟩
    have I1 : Inv X pins σ (upd H s.heap.objs.size (.tup [.int (i : Nat), x])) { s with heap := h'', toks := tk + 1 } :=
      I.turnedNew (ch := [e, it]) (fun b ob hb q => (sb.2 b (fun z => hb (by simp [z]))).trans (hk b ob (fun z => hb (by simp [z])) (fun z => hb (by simp [z])) q)) hf (Nat.le_refl _) new
    refine ⟨.ref s.heap.objs.size, _, I1, rfl, ⟨_, x, rfl, I.hok.fresh (Nat.le_refl _), rfl, fun ys hy => by rw [I.tuple_inj hy hq]; exact hx⟩, ⟨⟨x', ?_⟩, hs'.1.at fun o q => (sb.2 it (Ne.symm hne)).trans q, hne, hai, hae⟩, fun b hb => ?_⟩
    · have e1 : ((i + 1 : Nat) : Int) = (i : Int) + 1 := by omega
      rw [e1]; exact he'
    · have hb' : b < s.heap.objs.size := by
        have e' : b = e ∨ b = it := by simpa using hb
        rcases e' with z | z
        · rw [z]; exact hel
        · rw [z]; exact hil
      rw [upd_ne (Nat.ne_of_lt hb')]
      exact (hf b hb).1
  done := by
    intro X hP hw hK hc i pins s σ H E I hf st hg
    subst hP hw hK
    obtain ⟨⟨old, he⟩, hit, hne, hai, hae⟩ := st
    obtain ⟨xs, hq, hx⟩ := hg
    obtain ⟨its, rv, p, hz⟩ := I.tuple hq
    obtain ⟨f0, f1, f2, f3, f4, f5⟩ := hf it (by simp)
    have hl := rv.length
    refine enumEndT (I.ok.hd hc) he hit p (by simp; omega) fun h' eb => ⟨rfl, I.turned (t' := s.toks) (fun b o hb q => eb b o hb q) f0 f1 f3 f4 f5⟩
  self := fun A i s Q E st h => let ⟨⟨_, he⟩, _⟩ := st; wpAny_pyIter_enum he h
def iEnumT (K : PySem.W.Frag) (ta : TA) : TI := fun σ H R => ta σ H fun vs H1 => ∃ a xs, vs = [.ref a] ∧ SqT K H1 a xs ∧ R (IteT K a) H1
theorem pi_enumT {X : Cx} {e : Expr} {ta : TA} {p pos tpos : Pos} {elts : List Expr} {kk : Nat} (hg : Gl X "enumerate") (hm : X.mg "enumerate" = none) (ha : PA X [e] ta) (hs : starEach [e] X.env = [(false, eval e X.env)] := by rfl) :
    PI X (.Tuple elts kk tpos) (.Call (.Name "enumerate" p) [e] [] pos) (iEnumT X.K ta) := by
  refine ⟨fun pins s σ H R I h => ?_⟩
  refine Call_ (ld_blt I hg hm boot_enumerate (PyProof.Rows.callWith_type1 (thn (ha.run pos pins s σ H _ I h) fun us s1 ⟨vs, H1, I1, r1, q1⟩ => ?_) hs rfl))
  obtain ⟨a, xs, ex, hq, q⟩ := q1
  subst ex
  cases r1 with
  | cons r rr =>
    cases rr
    cases r
    obtain ⟨its, rv, p', hz⟩ := I1.tuple hq
    have hal : a < s1.heap.objs.size := by obtain ⟨_, q, _⟩ := p'; exact Heap.lt_size q
    refine call_enum_tup p' fun h' he hit hsz hk => wpAny_pyIter_enum he ?_
    have I2 : Inv X pins σ H1 { s1 with heap := h' } := I1.kept (t' := s1.toks) hk
    refine ⟨s1.heap.objs.size + 1, [s1.heap.objs.size + 1, s1.heap.objs.size], _, _, H1, rfl, I2, turn_enumT a (s1.heap.objs.size + 1) s1.heap.objs.size, ⟨⟨.none, he⟩, hit, Nat.succ_ne_self _, Nat.ne_of_lt hal, Nat.ne_of_lt (Nat.lt_succ_of_lt hal)⟩, fun b hb => ?_, q⟩
    have e' : b = s1.heap.objs.size + 1 ∨ b = s1.heap.objs.size := by simpa using hb
    have hle : s1.heap.objs.size ≤ b := by
      rcases e' with z | z
      · rw [z]; exact Nat.le_add_right _ _
      · rw [z]; exact Nat.le_refl _
    exact I1.fpOk hle (I1.hok.fresh hle)
theorem walk_enumT {K : PySem.W.Frag} {a : Addr} {xs : List V} : Walk (IteT K a) xs.length (fun H => SqT K H a xs) (YPair (fun i => some (.int (i : Nat))) (fun i => xs[i]?)) := by
  refine ⟨fun i _ hi q => ⟨xs, xs[i], q, by simp [hi]⟩, fun _ q => ⟨xs, q, Nat.le_refl _⟩, fun i H v H' _ q y => ?_⟩
  obtain ⟨T, x, h1, h2, h3, h4⟩ := y
  exact ⟨T, .int (i : Nat), x, h1, h2, h3, rfl, h4 xs q⟩
/-! t.index(y) -/
def rTidx (K : PySem.W.Frag) : V → List V → Hp → VK → Prop := fun x xs H Q => ∃ (a : Addr) (ys : List V) (y : V) (j : Nat) (z : V), x = V.ref a ∧ xs = [y] ∧ SqT K H a ys ∧ flatV y = true ∧ ys.all flatV = true ∧ ys[j]? = some z ∧ eqV z y = true ∧
  (∀ (m : Nat) (z' : V), m < j → ys[m]? = some z' → eqV z' y = false) ∧ Q (.int (j : Nat)) H
theorem mt_tidx {X : Cx} : MtR X "tuple.index" (rTidx X.K) := by
  intro pins s σ H x xs v us Q I rx rxs h
  obtain ⟨a, ys, y, j, z, rfl, rfl, hs, fy, fys, hz, hzj, hno, q⟩ := h
  cases rx
  cases rxs with
  | cons ry rt =>
    rename_i uy ut
    cases rt
    obtain ⟨its, rv, pl, hlen⟩ := I.tuple hs
    obtain ⟨⟨cls, dd, dt, sl⟩, ho, hc, n, hd⟩ := pl
    simp only at hc hd
    subst hc hd
    obtain ⟨u, hu, ru⟩ := rv.get hz
    obtain ⟨hjl, hje⟩ := List.getElem?_eq_some_iff.mp hu
    have hvl := rv.length
    have hj : j < its.toArray.size := by simpa using hjl
    refine call_meets PySem.F.slot_tuple_index ⟨_, ho, rfl⟩ PySem.F.entry_tuple_index (PySem.F.args_tuple_index_2 _ _) (TI.tuple_indexAt a its.toArray n dd sl uy (eqU y) j hj ?_ ?_)
      ⟨ho, fun u' hu' => mem_eqAt ry fy rv fys u' (by simpa using hu'), ⟨.int (j : Nat), H, I.tok _, ⟨_, rfl⟩, q⟩⟩
    · have e1 : its.toArray[j] = u := by simpa using hje
      rw [e1, eqU_of ru (flat_at fys hz)]
      exact hzj
    · intro m hm hmj
      have hml : m < its.length := by simpa using hm
      have hmy : m < ys.length := by omega
      have hy' : ys[m]? = some ys[m] := List.getElem?_eq_getElem hmy
      obtain ⟨u2, hu2, ru2⟩ := rv.get hy'
      obtain ⟨_, hme⟩ := List.getElem?_eq_some_iff.mp hu2
      have e1 : its.toArray[m] = u2 := by simpa using hme
      rw [e1, eqU_of ru2 (flat_at fys hy')]
      exact hno m _ hmj hy'
/-! sorted(t), whole numbers -/
section
variable {prog : Program} {w : World} {A : Around} {E : Value → Shared → Prop} {s : Shared}
theorem collect_tup {l : Addr} {vs : List Value} {Q : List Value → Shared → Prop} (hl : s.heap.IsTuple l vs.toArray)
    (h : Q vs { s with heap := (s.heap.push (seqObj "list" #[] 0)).update s.heap.objs.size (Obj.mapSeq (· ++ vs.toArray)) }) (hsz : vs.length ≤ sizeLine) :
    wpAny (model prog w) A (collect (.ref l)) Q E s := by
  obtain ⟨o, ho, hc, n, hd⟩ := id hl
  unfold collect
  refine wpAny_bind (wpAny_runValue (codeAny_builtin entry_proto_collect' ?_))
  show wpAny _ _ (do again (.builtin "list.__iadd__" ⟨[← newList [], .ref l], []⟩)) _ _ s
  refine wpAny_bind (wpAny_newList (wpAny_pure ⟨Code.quiet_builtin _ (by decide +kernel), codeAny_builtin entry_list_iadd' ?_⟩))
  show wpAny _ _ (Builtin.List.listExtendWith (.ref s.heap.objs.size) (.ref l) (.ref s.heap.objs.size)) _ _ { s with heap := s.heap.push (seqObj "list" #[] 0) }
  unfold Builtin.List.listExtendWith
  have ho' : (s.heap.push (seqObj "list" #[] 0)).get? l = some o := Heap.get?_push_of_some _ ho
  refine wpAny_bind (wpAny_typeOf (T := "tuple") ⟨o, ho', hc⟩ ?_)
  have ht : (Value.type "tuple" == Value.type "tuple") = true := by rfl
  rw [if_pos (by rw [ht]; simp)]
  refine wpAny_bind (listItems_at ho' hd ?_)
  refine wpAny_bind (listItems_at (xs := #[]) (n := 0) (Heap.get?_push_size _ rfl) rfl ?_)
  rw [if_neg (by simp)]
  refine wpAny_bind (listUpdate_at (xs := #[]) (n := 0) (Heap.get?_push_size _ rfl) rfl ?_ (Nat.zero_le _) (by show (#[] ++ vs.toArray).size ≤ sizeLine + 1; simp only [Array.size_append, List.size_toArray, List.length_nil]; omega))
  refine wpAny_pure ?_
  show wpAny (model prog w) A (do
      let o ← load s.heap.objs.size
      match o.data with
      | .seq xs _ => pure xs.toList
      | _ => unsupported "internal:collect") Q E { s with heap := (s.heap.push (seqObj "list" #[] 0)).update s.heap.objs.size (Obj.mapSeq (· ++ vs.toArray)) }
  refine wpAny_bind (wpAny_load (get?_update_seq (Heap.get?_push_size _ rfl) _) ?_)
  show wpAny _ _ (pure ((#[] : Array Value) ++ vs.toArray).toList) Q E _
  rw [show ((#[] : Array Value) ++ vs.toArray).toList = vs by simp]
  exact wpAny_pure h
theorem sorted_tupI {l : Addr} {vs : List Value} {ns : List Int} {Q : Value → Shared → Prop} (hl : s.heap.IsTuple l vs.toArray) (hI : IntsAre vs ns) (h64 : vs.length < 64)
    (h : ∀ (out : Array Value) (ns' : List Int), IntsAre out.toList ns' → ns'.Perm ns → ns'.Pairwise (· ≤ ·) → Q (.ref (s.heap.objs.size + 1)) { s with heap := sortedAll s.heap vs out }) :
    wpAny (model prog w) A (call (.builtin "sorted") [.ref l]) Q E s := by
  refine Calls.call_function_entry kind_sorted plain_sorted entry_sorted (args_sorted1 _) ?_
  unfold Builtin.«sorted»
  refine wpAny_bind (m := checkCount "sorted" 1 1 _) (wpAny_pure ?_)
  refine wpAny_bind (collect_tup hl ?_ (small64 h64))
  refine wpAny_bind (wpAny_newList ?_)
  have hsz : ((s.heap.push (seqObj "list" #[] 0)).update s.heap.objs.size (Obj.mapSeq (· ++ vs.toArray))).objs.size = s.heap.objs.size + 1 := by
    rw [Heap.size_update, size_push']
  have hoL : (((s.heap.push (seqObj "list" #[] 0)).update s.heap.objs.size (Obj.mapSeq (· ++ vs.toArray))).push (seqObj "list" vs.toArray 0)).get? (s.heap.objs.size + 1) = some (seqObj "list" vs.toArray 0) := by
    rw [← hsz]; exact Heap.get?_push_size _ rfl
  show wpAny _ _ _ _ _ { s with heap := ((s.heap.push (seqObj "list" #[] 0)).update s.heap.objs.size (Obj.mapSeq (· ++ vs.toArray))).push (seqObj "list" vs.toArray 0) }
  rw [hsz]
  refine wpAny_bind (wpAny_holding (wpAny_call_entry slot_list_sort ⟨_, hoL, rfl⟩ entry_list_sort (list_sort_tree hoL hI h64 fun out ns' a1 a2 a3 => ⟨_, rfl, ?_⟩) (args_list_sort _)))
  exact wpAny_pure ⟨_, rfl, h out ns' a1 a2 a3⟩
end
def rSortTup (K : PySem.W.Frag) : List V → Hp → VK → Prop := fun vs H Q => ∃ (a : Addr) (ns : List Int), vs = [V.ref a] ∧ SqT K H a (ns.map V.int) ∧ ns.length < 64 ∧
  ∀ (ns' : List Int) (p : Addr), ns'.Perm ns → ns'.Pairwise (· ≤ ·) → H p = none → Q (.ref p) (upd H p (.lst (ns'.map V.int)))
theorem cr_sortTup {X : Cx} : CallR X (.builtin "sorted") (rSortTup X.K) := by
  intro pins s σ H vs us Q I r h
  obtain ⟨a, ns, rfl, hs, h64, q⟩ := h
  obtain ⟨its, rv, hl, _⟩ := I.tuple hs
  rw [Vals.ref1 r]
  have hi := rv.ints
  refine sorted_tupI hl hi (by rw [hi.length]; exact h64) fun out ns' h1 h2 h3 => ?_
  obtain ⟨ep, he'⟩ := PyProof.Rows.sortedAll_at s.heap its out
  have hlen : (ns'.map V.int).length ≤ sizeLine := by rw [List.length_map, h2.length_eq]; exact small64 h64
  exact ⟨.ref _, upd H (s.heap.objs.size + 1) (.lst (ns'.map V.int)), I.laid (t' := s.toks) (fun _ _ => PyProof.Rows.sortedAll_old) (Nat.le_succ _) ⟨hlen, out.toList, ep, vals_of_ints h1, he'⟩, rfl, q ns' _ h2 h3 (I.hok.fresh (Nat.le_succ _))⟩
/-! tuples of which it is known that they have no dict of their own: t.index(y) -/
def TD (H : Hp) (a : Addr) (xs : List V) : Prop := ∃ o : Obj, o.dict = none ∧ H a = some (.frz o (.tup xs))
theorem tdT {K : PySem.W.Frag} {H : Hp} {a : Addr} {xs : List V} (h : TD H a xs) : SqT K H a xs := by
  obtain ⟨o, _, e⟩ := h
  exact .inl (.inr ⟨o, e⟩)
theorem tdTy {K : PySem.W.Frag} {H : Hp} {a : Addr} {xs : List V} (h : TD H a xs) : TyX K H (.ref a) (.type "tuple") := by
  obtain ⟨o, _, e⟩ := h
  exact .fTuple e
theorem tdSame {H H' : Hp} {a : Addr} {xs : List V} (s : Same H H') (h : TD H a xs) : TD H' a xs := by
  obtain ⟨o, d, e⟩ := h
  exact ⟨o, d, s _ _ e⟩
abbrev tupO (its : List Value) : Obj := { cls := .type "tuple", data := .seq its.toArray }
theorem tdNew {H : Hp} {a : Addr} {its : List Value} {xs : List V} : TD (upd H a (.frz (tupO its) (.tup xs))) a xs := ⟨tupO its, rfl, upd_same⟩
/-- a new tuple, its dict known to be none -/
theorem laidTD {X : Cx} {pins : List (Addr × Obj)} {σ : L2.St} {H : Hp} {s : Shared} {h' : Heap} {tk : Nat} {xs : List V} {its : List Value} (I : Inv X pins σ H { s with heap := h', toks := tk }) (r : Vals xs its) (hz : xs.length ≤ sizeLine) :
    Inv X pins σ (upd H h'.objs.size (.frz (tupO its) (.tup xs))) { s with heap := h'.push (tupO its), toks := tk } := by
  have g : (h'.push (tupO its)).get? h'.objs.size = some (tupO its) := Heap.get?_push_size _ rfl
  exact I.laid (t' := tk) (fun b o e => Heap.get?_push_of_some _ e) (Nat.le_refl _) ⟨g, hz, its, r, ⟨_, g, rfl, 0, rfl⟩⟩
section
variable {X : Cx}
def rTupD (K : PySem.W.Frag) : List V → Hp → VK → Prop := fun xs H Q => ∃ p ys, xs = [.ref p] ∧ SqL K H p ys ∧ ∀ l H', Same H H' → TD H' l ys → Q (.ref l) H'
/-- tuple(a list) -/
theorem call_tupD : CallR X (.type "tuple") (rTupD X.K) := by
  intro pins s σ H xs us Q I r h
  obtain ⟨p, ys, rfl, hq, q⟩ := h
  obtain ⟨u, rfl, rx⟩ := vals1 r
  cases rx
  obtain ⟨its, r', pl, hz⟩ := I.list hq
  have hlen := r'.length
  refine call_tuple_list pl.isList (fun h' kp => ?_) (by simp only [List.size_toArray] <;> omega)
  have I1 : Inv X pins σ H { s with heap := h', toks := s.toks } := I.kept (t' := s.toks) kp
  have hn : H h'.objs.size = none := I1.hok.fresh (Nat.le_refl _)
  exact ⟨.ref h'.objs.size, _, laidTD I1 r' hz, rfl, q _ _ (smUpd hn) tdNew⟩
def tTupRevD (K : PySem.W.Frag) (te : TE) : TE := fun σ H Q => te σ H fun v H1 => ∃ (a : Addr) (xs : List V), v = .ref a ∧ SqL K H1 a xs ∧ ∀ l H', Same H1 H' → TD H' l xs.reverse → Q (.ref l) H'
/-- tuple(reversed(a list)) -/
theorem pe_tupRevD {e : Expr} {te : TE} {p p2 pos pos2 : Pos} (hc : X.calm = true) (hg : Gl X "tuple") (hm : X.mg "tuple" = none) (hg2 : Gl X "reversed") (hm2 : X.mg "reversed" = none) (he : PE X e te)
    (hs : starEach [e] X.env = (false, eval e X.env) :: starEach [] X.env := by rfl)
    (hs2 : starEach [.Call (.Name "reversed" p2) [e] [] pos2] X.env = (false, eval (.Call (.Name "reversed" p2) [e] [] pos2) X.env) :: starEach [] X.env := by rfl) :
    PE X (.Call (.Name "tuple" p) [.Call (.Name "reversed" p2) [e] [] pos2] [] pos) (tTupRevD X.K te) := by
  refine ⟨fun pins s σ H Q I h => ?_⟩
  refine Call_ (ld_blt I hg hm boot_tuple (callWith_type1 (args_cons (Call_ (ld_blt I hg2 hm2 boot_reversed (callWith_type1 (args_cons (thn (he.run pins s σ H _ I h) fun u s1 ⟨v, H1, I1, r1, q1⟩ => args_nil ?_) hs) hs rfl))) hs2) hs2 rfl))
  obtain ⟨l, ys, rfl, hl, q⟩ := q1
  cases (show u = Value.ref l from r1)
  obtain ⟨its, rv, pl, hz⟩ := I1.list hl
  refine call_reversed_list pl.isList (args_nil ?_)
  have I2 : Inv X pins σ H1 { s1 with heap := s1.heap.push (PySem.revObj l ((its.toArray.size : Int) - 1)) } := I1.kept (t' := s1.toks) fun b o z => Heap.get?_push_of_some _ z
  have hfr : H1 s1.heap.objs.size = none := I1.hok.fresh (Nat.le_refl _)
  obtain ⟨f0, f1, _, f3, f4, f5⟩ := I1.fpOk (H' := H1) (b := s1.heap.objs.size) (Nat.le_refl _) hfr
  have hne : l ≠ s1.heap.objs.size := by
    obtain ⟨_, z, _⟩ := pl.isList
    exact Nat.ne_of_lt (Heap.lt_size z)
  refine RT.call_tuple_rev (s := { s1 with heap := s1.heap.push (PySem.revObj l ((its.toArray.size : Int) - 1)) }) (I1.ok.hd hc) ⟨_, Heap.get?_push_size _ rfl, rfl, rfl⟩ (pl.isList.push _) hne (by rw [List.size_toArray, ← rv.length]; exact hz) fun h' tk acc hk hi => ?_
  have I3 : Inv X pins σ H1 { s1 with heap := h', toks := tk } := I2.turned (t' := tk) (fun b o hb z => hk b o hb z) f0 f1 f3 f4 f5
  have hn : H1 h'.objs.size = none := I3.hok.fresh (Nat.le_refl _)
  have I4 := laidTD I3 (RT.vals_rev rv hi) (by rw [List.length_reverse]; exact hz)
  refine ⟨.ref h'.objs.size, upd H1 h'.objs.size (.frz (tupO acc.toList) (.tup ys.reverse)), ?_, rfl, q _ _ (smUpd hn) tdNew⟩
  have ea : acc.toList.toArray = acc := Array.toArray_toList
  rw [← ea]
  exact I4
/-- t.m(..), t such a tuple -/
def tBT (r : V → List V → Hp → VK → Prop) (to : TE) (t : TA) : TE := fun σ H Q => to σ H fun x H1 => (∃ a xs, x = .ref a ∧ TD H1 a xs) ∧ t σ H1 fun xs H2 => r x xs H2 Q
variable {o e : Expr} {es : List Expr} {to : TE} {t : TA} {name : Str} {apos cpos : Pos} {id : String} {r : V → List V → Hp → VK → Prop}
theorem pe_bt (slot : Slot "tuple" name id) (hty : typeOf (.builtin id) = pure (.type "method_descriptor")) (hm : MtR X id r) (ho : PE X o to) (ha : PA X (e :: es) t)
    (hbase : attributeBase o name X.env (eval o X.env) = eval o X.env := by rfl)
    (hfew : ((backTo cpos (starEach (e :: es) X.env)).all (fun x => !x.1) && (backToKw cpos (keywordEach [] X.env)).all (fun x => x.1.isSome)
      && decide ((e :: es).length + ([] : List Keyword).length + (if ([] : List Keyword).isEmpty then 0 else 1) < 30)) = true := by rfl)
    (hline : (apos.endLine == cpos.line) = true := by rfl) (hs : starEach (e :: es) X.env = (false, eval e X.env) :: starEach es X.env := by rfl) (hplain : (backTo cpos (starEach es X.env)).any (·.1) = false := by rfl) :
    PE X (.Call (.Attribute o name apos) (e :: es) [] cpos) (tBT r to t) := by
  refine ⟨fun pins s σ H Q I h => ?_⟩
  refine wpAny_Call_method_late hbase hfew hline rfl (thn (ho.run pins s σ H _ I h) fun v s1 ⟨x, H1, I1, r1, ty, q1⟩ => ?_)
  obtain ⟨a, xs, rfl, ob, hd, hx⟩ := ty
  cases (show v = Value.ref a from r1)
  obtain ⟨g, _, its, _, hit⟩ := I1.hok a _ hx
  have hT : s1.TypeIs (.ref a) "tuple" := by
    obtain ⟨o', g', c, _⟩ := hit
    exact ⟨o', g', c⟩
  refine ⟨"tuple", id, PySem.F.plainAttrs_tuple, slot, hty, hT, fun b z => (by cases z; exact ⟨ob, g, hd⟩), ?_⟩
  have hA := ha.run cpos pins s1 σ H1 _ I1 q1
  rw [hs] at hA ⊢
  refine Calls.callWith_builtin (by show (false || (backTo cpos (starEach es X.env)).any (·.1)) = false; rw [hplain] <;> rfl) (Calls.evalArgs_plain ?_)
  exact thn hA fun us s2 ⟨vs, H2, I2, r2, q2⟩ => hm pins s2 σ H2 (.ref a) vs (.ref a) us Q I2 rfl r2 q2
end
end Cn
namespace Cn
open PySem PySem.Spec PyProof.Rows L2 Ck
theorem kitSelf {K : PySem.W.Frag} {a : Addr} : PySem.W.kitOne K (.ref a) (.ref a) = some true := by
  unfold PySem.W.kitOne
  simp
abbrev vn (n : Nat) : V := .int ((n : Nat) : Int)
def vp : Option Nat → V
  | none => .non
  | some n => vn n
def TN (H : Hp) (a : Addr) (ns : List Nat) : Prop := H a = some (.tup (ns.map vn))
def TP (H : Hp) (a : Addr) (ps : List (Option Nat)) : Prop := H a = some (.tup (ps.map vp))
def TDn (H : Hp) (a : Addr) (ns : List Nat) : Prop := TD H a (ns.map vn)
theorem tdL {K : PySem.W.Frag} {H : Hp} {a : Addr} {ns : List Nat} (h : TDn H a ns) : SqT K H a (ns.map vn) := tdT h
theorem tnL {K : PySem.W.Frag} {H : Hp} {a : Addr} {ns : List Nat} (h : TN H a ns) : SqT K H a (ns.map vn) := .inl (.inl h)
theorem tpL {K : PySem.W.Frag} {H : Hp} {a : Addr} {ps : List (Option Nat)} (h : TP H a ps) : SqT K H a (ps.map vp) := .inl (.inl h)
theorem vn_flat (ns : List Nat) : (ns.map vn).all flatV = true := by
  rw [List.all_eq_true]
  intro x hx
  obtain ⟨n, _, rfl⟩ := List.mem_map.mp hx
  rfl
theorem vn_at {ns : List Nat} {i n : Nat} (h : ns[i]? = some n) : (ns.map vn)[i]? = some (vn n) := by rw [List.getElem?_map, h]; rfl
theorem vp_at {ps : List (Option Nat)} {i : Nat} {q : Option Nat} (h : ps[i]? = some q) : (ps.map vp)[i]? = some (vp q) := by rw [List.getElem?_map, h]; rfl
theorem vn_ix {ns : List Nat} {i n : Nat} (h : ns[i]? = some n) : atI (ns.map vn) ((i : Nat) : Int) = some (vn n) := atI_nat (vn_at h)
theorem vp_ix {ps : List (Option Nat)} {i : Nat} {q : Option Nat} (h : ps[i]? = some q) : atI (ps.map vp) ((i : Nat) : Int) = some (vp q) := atI_nat (vp_at h)
theorem vn_get {ns : List Nat} {i : Nat} {x : V} (h : (ns.map vn)[i]? = some x) : ∃ n, ns[i]? = some n ∧ x = vn n := by
  rw [List.getElem?_map] at h
  obtain ⟨n, hn, e⟩ := Option.map_eq_some_iff.mp h
  exact ⟨n, hn, e.symm⟩
theorem vp_get {ps : List (Option Nat)} {i : Nat} {x : V} (h : (ps.map vp)[i]? = some x) : ∃ q, ps[i]? = some q ∧ x = vp q := by
  rw [List.getElem?_map] at h
  obtain ⟨n, hn, e⟩ := Option.map_eq_some_iff.mp h
  exact ⟨n, hn, e.symm⟩
theorem vn_inj {a b : Nat} : eqV (vn a) (vn b) = decide (a = b) := by
  show (((a : Nat) : Int) == ((b : Nat) : Int)) = decide (a = b)
  rw [Bool.eq_iff_iff, beq_iff_eq, decide_eq_true_iff]
  omega
/-- the first place of n -/
theorem vn_idx {ns : List Nat} {n : Nat} (h : n ∈ ns) : (ns.map vn)[ns.idxOf n]? = some (vn n) ∧ ∀ (m : Nat) (z : V), m < ns.idxOf n → (ns.map vn)[m]? = some z → eqV z (vn n) = false := by
  refine ⟨vn_at ?_, fun m z hm hz => ?_⟩
  · have hl := List.idxOf_lt_length_of_mem h
    rw [List.getElem?_eq_getElem hl, List.getElem_idxOf hl]
  · rw [List.getElem?_map] at hz
    obtain ⟨k, hk, rfl⟩ := Option.map_eq_some_iff.mp hz
    rw [vn_inj]
    refine decide_eq_false fun e => ?_
    subst e
    obtain ⟨hml, hme⟩ := List.getElem?_eq_some_iff.mp hk
    have := List.not_of_lt_findIdx (p := (· == k)) (xs := ns) (i := m) hm
    rw [hme] at this
    simp at this
theorem inV_vn {ns : List Nat} {n : Nat} : inV (vn n) (ns.map vn) = decide (n ∈ ns) := by
  unfold inV
  rw [Bool.eq_iff_iff, decide_eq_true_iff, List.any_eq_true]
  constructor
  · rintro ⟨x, hx, h⟩
    obtain ⟨m, hm, rfl⟩ := List.mem_map.mp hx
    rw [vn_inj, decide_eq_true_iff] at h
    rw [← h]; exact hm
  · intro h
    exact ⟨vn n, List.mem_map.mpr ⟨n, h, rfl⟩, by rw [vn_inj]; exact decide_eq_true rfl⟩
/-! the forest -/
def fields3 (ap ab aa : Addr) : List (Str × V) := [("parents", .ref ap), ("bearing", .ref ab), ("asking", .ref aa)]
structure Fo where
  ps : List (Option Nat)
  be : List Nat
  as : List Nat
/-- what a forest's data keep to -/
structure FoOk (f : Fo) : Prop where
  ps : Ps f.ps
  l0 : 1 ≤ f.ps.length
  l1 : f.ps.length ≤ 60
  be : f.be.Pairwise (· < ·)
  bl : ∀ x ∈ f.be, x < f.ps.length
  as : f.as.Pairwise (· < ·)
  al : ∀ x ∈ f.as, x < f.ps.length
def FoAt (C : Addr) (H : Hp) (a : Addr) (f : Fo) : Prop := ∃ dx ap ab aa, H a = some (.ins C dx (fields3 ap ab aa)) ∧ TP H ap f.ps ∧ TN H ab f.be ∧ TN H aa f.as
theorem foAt_same {C : Addr} {H H' : Hp} {a : Addr} {f : Fo} (s : Same H H') (h : FoAt C H a f) : FoAt C H' a f := by
  obtain ⟨dx, ap, ab, aa, h1, h2, h3, h4⟩ := h
  exact ⟨dx, ap, ab, aa, s _ _ h1, s _ _ h2, s _ _ h3, s _ _ h4⟩
structure FoT (K : PySem.W.Frag) (mg : Str → Option Value) (C : Addr) : Prop where
  cl : Cls K C
  nP : NoAttr K C "parents"
  nB : NoAttr K C "bearing"
  nA : NoAttr K C "asking"
  mgC : mg "Forest" = some (.ref C)
theorem fP {ap ab aa : Addr} : (fields3 ap ab aa).lookup ("parents" : Str) = some (.ref ap) := rfl
theorem fB {ap ab aa : Addr} : (fields3 ap ab aa).lookup ("bearing" : Str) = some (.ref ab) := rfl
theorem fA {ap ab aa : Addr} : (fields3 ap ab aa).lookup ("asking" : Str) = some (.ref aa) := rfl
/-- the builtins that the texts call -/
structure NamT (mg : Str → Option Value) : Prop where
  is : IsTxt mg
  int : mg "int" = none
  abs : mg "abs" = none
  range : mg "range" = none
  enum : mg "enumerate" = none
  rev : mg "reversed" = none
  sorted : mg "sorted" = none
  min : mg "min" = none
/-- a def and its name in the module -/
structure DefAt (K : PySem.W.Frag) (mg : Str → Option Value) (x : Str) (st : Stmt) (ps : List Str) (f : Addr) (fd : FuncData) : Prop where
  F : Fun K x x st f fd
  b : Binds K fd ps []
  g : mg x = some (.ref f)
theorem ifT {c : Prop} {_ : Decidable c} {a b : Prop} (h : c) (x : a) : if c then a else b := by rw [if_pos h]; exact x
theorem ifF {c : Prop} {_ : Decidable c} {a b : Prop} (h : ¬ c) (x : b) : if c then a else b := by rw [if_neg h]; exact x
/-! kinds -/
section
variable {P : Program} {w : World} {K : PySem.W.Frag} {mg : Str → Option Value} {base : Heap}
theorem intTy {H : Hp} {n : Int} : TyX K H (.int n) (.type "int") := .base (.int n)
def spIsInt : Sp := fun vs H Q _ => ∃ n : Int, vs = [.int n] ∧ Q (.bl true) H
theorem scIsInt : FnScope ["thing"] ["thing"] (defScope sIsInt) := ⟨rfl, rfl, rfl, by decide +kernel, rfl, by decide +kernel, by decide +kernel⟩
theorem ok_isInt {f : Addr} {fd : FuncData} (F : Fun K "is_integer" "is_integer" sIsInt f fd) (N : NamT mg) : FnOk P w K mg base CX0 1 f fd ["thing"] spIsInt := by
  refine F.ok scIsInt (fun vs H Q E h => ?_) (fun cdv A outer s H vs Q E hr h => ?_)
  · obtain ⟨n, rfl, _⟩ := h
    rfl
  · obtain ⟨n, rfl, k⟩ := h
    refine ⟨_, pss_one (ps_ret (pe_and (pe_callB call_isi (by rfl) N.is.inst (by decide +kernel) (pa_cons (pv 0) (pa_cons (pe_bltn (v := .ty "int") (by rfl) N.int (by decide +kernel) rfl) pa_nil))) (pe_one (pe_not (pe_callB call_isi (by rfl) N.is.inst (by decide +kernel) (pa_cons (pv 0) (pa_cons (pe_bltn (v := .ty "bool") (by rfl) N.is.bool (by decide +kernel) rfl) pa_nil))))))), ?_⟩
    refine ⟨_, rfl, _, .ty "int", _, _, true, rfl, .ty _, intTy, kit_ty (by decide +kernel), true, rfl, ?_⟩
    refine ifT rfl ?_
    exact ⟨_, rfl, _, .ty "bool", _, _, false, rfl, .ty _, intTy, kit_ty (by decide +kernel), false, rfl, k⟩
def spIsBtw : Sp := fun vs H Q _ => ∃ n a b : Int, vs = [.int n, .int a, .int b] ∧ Q (.bl (decide (a ≤ n ∧ n ≤ b))) H
theorem scIsBtw : FnScope ["thing", "least", "most"] ["thing", "least", "most"] (defScope sIsBtw) := ⟨rfl, rfl, rfl, by decide +kernel, rfl, by decide +kernel, by decide +kernel⟩
theorem ok_isBtw {f fI : Addr} {fd fdI : FuncData} (F : Fun K "is_between" "is_between" sIsBtw f fd) (N : NamT mg) (DI : DefAt K mg "is_integer" sIsInt ["thing"] fI fdI) : FnOk P w K mg base CX0 2 f fd ["thing", "least", "most"] spIsBtw := by
  have GI : FnOk P w K mg base CX0 1 fI fdI ["thing"] spIsInt := ok_isInt DI.F N
  refine F.ok scIsBtw (fun vs H Q E h => ?_) (fun cdv A outer s H vs Q E hr h => ?_)
  · obtain ⟨n, a, b, rfl, _⟩ := h
    rfl
  · obtain ⟨n, a, b, rfl, k⟩ := h
    refine ⟨_, pss_one (ps_ret (pe_and (pe_call GI hr (by rfl) DI.g DI.F.kp DI.b .nil pass0 (pa_cons (pv 0) pa_nil)) (pe_one (pe_chain op_le op_le (pv 1) (pv 0) (pv 2))))), ?_⟩
    refine ⟨_, rfl, n, rfl, true, rfl, ?_⟩
    refine ifT rfl ?_
    refine ⟨_, rfl, _, rfl, _, _, rfl, rfl, _, rfl, ?_⟩
    by_cases h1 : a ≤ n
    · refine ifT (decide_eq_true h1) ?_
      refine ⟨_, rfl, _, _, rfl, rfl, ?_⟩
      rw [show decide (a ≤ n ∧ n ≤ b) = decide (n ≤ b) from by simp [h1]] at k
      exact k
    · refine ifF (by rw [decide_eq_false h1]; exact Bool.false_ne_true) ?_
      rw [show decide (a ≤ n ∧ n ≤ b) = false from by simp [h1]] at k
      exact k
end
end Cn
namespace Cn
open PySem PySem.Spec PyProof.Rows L2 Ck
/-- the defs, as the text has them -/
structure Defs (K : PySem.W.Frag) (mg : Str → Option Value) (C : Addr) : Prop where
  N : NamT mg
  T : FoT K mg C
  mM : ∃ tm, mg "MOST_PLACES" = some (.int 60 tm)
  zValueerror : mg "ValueError" = none
  ini : ∃ f fd, Fun K "__init__" "Forest.__init__" sInit f fd ∧ Mk K C f ∧ Binds K fd ["self", "parents", "bearing", "asking"] []
  eqm : ∃ f fd, Fun K "__eq__" "Forest.__eq__" sEqM f fd ∧ PySem.W.findIn K (.ref C) "__eq__" = some (some (.ref f)) ∧ PySem.W.isFn K (.ref f) = true ∧ Binds K fd ["self", "other"] []
  ty5 : PySem.W.findIn K (.ref C) "__class__" = some (some (.builtin "object.__class__")) ∧ PySem.W.specialIn K (.builtin "object.__class__") "__get__" = some (some (.builtin "getset_descriptor.__get__")) ∧ PySem.W.takesIn K (.builtin "object.__class__") = some true ∧ PySem.W.mroIn K C (.type "object") = some true
  neF : PySem.W.findIn K (.ref C) "__ne__" = some (some (.builtin "object.__ne__"))
  kF : PySem.W.isClsIn K C = true ∧ PySem.W.typeIn K (.ref C) = some (.type "type") ∧ PySem.W.mroIn K C (.type "int") = some false
  ldeep : ∃ f fd, DefAt K mg "_law_deep" sDeep ["_law_hand_here"] f fd
  lbent : ∃ f fd, DefAt K mg "_law_bent" sBent ["_law_hand_here", "_law_told_here"] f fd
  lwd : ∃ f fd, DefAt K mg "_law_word" sLWord ["_law_call"] f fd
  som : ∃ f fd, DefAt K mg "_law_some" sSome ["_law_hand_here", "_law_things"] f fd
  lrw : ∃ f fd, DefAt K mg "_law_row" sLRow ["_law_places"] f fd
  rrt : ∃ f fd, DefAt K mg "_law_rows_right" sRowsR ["_law_hand_here"] f fd
  I : ∃ f fd, DefAt K mg "is_integer" sIsInt ["thing"] f fd
  B : ∃ f fd, DefAt K mg "is_between" sIsBtw ["thing", "least", "most"] f fd
  L : ∃ f fd, DefAt K mg "is_lot" sIsLot ["thing"] f fd
  O : ∃ f fd, DefAt K mg "_is_lot_of_places" sLotOf ["thing", "many"] f fd
  Pl : ∃ f fd, DefAt K mg "is_place" sIsPlace ["forest", "thing"] f fd
  W : ∃ f fd, DefAt K mg "way" sWay ["forest", "place"] f fd
  ha : ∃ f fd, DefAt K mg "_law_hand" sHand ["_law_script"] f fd
  dr : ∃ f fd, DefAt K mg "_law_draw" sDraw ["_law_hand_here", "_law_many"] f fd
  is : ∃ f fd, DefAt K mg "_law_is" sIs ["_law_told_here", "_law_due_here"] f fd
  pa : ∃ f fd, DefAt K mg "_law_parents" sParents ["_law_hand_here", "_law_places"] f fd
  lo : ∃ f fd, DefAt K mg "_law_lot" sLawLot ["_law_hand_here", "_law_places", "_law_share"] f fd
  to : ∃ f fd, DefAt K mg "_law_told" sTold ["_law_hand_here", "_law_most"] f fd
  ma : ∃ f fd, DefAt K mg "_law_made" sMade ["_law_told_here"] f fd
  un : ∃ f fd, DefAt K mg "under" sUnder ["forest", "place"] f fd
  fg : ∃ f fd, DefAt K mg "_law_flag" sFlag ["_law_told_here", "_law_due_here"] f fd
  rw : ∃ f fd, DefAt K mg "row" sRow ["places"] f fd
  isr : ∃ f fd, DefAt K mg "is_row" sIsRow ["thing"] f fd
  lint : ∃ f fd, DefAt K mg "_law_is_int" sLIsInt ["_law_thing", "_law_least", "_law_most"] f fd
  lil : ∃ f fd, DefAt K mg "_law_is_lot" sLIsLot ["_law_thing", "_law_least", "_law_most"] f fd
  lod : ∃ f fd, DefAt K mg "_law_odd" sLOdd ["_law_hand_here"] f fd
  ldu : ∃ f fd, DefAt K mg "_law_due" sLDue ["_law_parents_here", "_law_bearing", "_law_asking"] f fd
  lso : ∃ f fd, DefAt K mg "_law_seen_of" sSeenOf ["_law_given"] f fd
end Cn
namespace Cn
open PySem PySem.Spec PyProof.Rows L2 Ck
/-! readings that leave all as it is, apart from new things -/
theorem cutDrop (xs : List V) (n : Nat) : cutV xs (some (n : Int)) none = xs.drop n := by
  unfold cutV
  rw [HT.sIx_none, HT.sIx_nat]
  by_cases h : n ≤ xs.length
  · rw [Nat.min_eq_left h]
    exact List.take_of_length_le (by rw [List.length_drop]; omega)
  · rw [Nat.min_eq_right (by omega), Nat.sub_self, List.take_zero, List.drop_of_length_le (by omega)]
theorem cutWhole {xs : List V} {lo hi : Option Int} (h : HT.sIx xs.length 0 lo = 0 ∧ HT.sIx xs.length xs.length hi = xs.length) : cutV xs lo hi = xs := by
  unfold cutV
  rw [h.1, h.2, List.drop_zero, Nat.sub_zero, List.take_length]
theorem slA {K : PySem.W.Frag} {H : Hp} {a : Addr} {xs : List V} {lo hi : Option Int} {Q : VK} (ha : H a = some (.tup xs)) (k : ∀ b H', Same H H' → H' b = some (.tup (cutV xs lo hi)) → Q (.ref b) H') : rSlA K (.ref a) lo hi H Q := by
  refine ⟨a, xs, rfl, .inl (.inl ha), fun h => k a H (Same.refl _) (by rw [cutWhole h]; exact ha), fun _ p np => k p _ (smUpd np) upd_same⟩
theorem slN {K : PySem.W.Frag} {σ : L2.St} {H : Hp} {a : Addr} {xs : List V} {lo : Option Int} {Q : VK} (ha : H a = some (.tup xs)) (k : ∀ b H', Same H H' → H' b = some (.tup (cutV xs lo none)) → Q (.ref b) H') : tNoPart σ H (fun u H3 => rSlA K (.ref a) lo u H3 Q) := slA (hi := none) ha k
theorem catA {K : PySem.W.Frag} {H : Hp} {a b : Addr} {xs ys : List V} {Q : VK} (ha : H a = some (.tup xs)) (hb : H b = some (.tup ys)) (hl : xs.length + ys.length ≤ 1000) (k : ∀ c H', Same H H' → H' c = some (.tup (xs ++ ys)) → Q (.ref c) H') : rCatA K (.ref a) (.ref b) H Q := by
  refine ⟨a, b, xs, ys, rfl, rfl, .inl (.inl ha), .inl (.inl hb), Nat.le_of_lt (small1000 hl), fun h => ?_, fun _ h => ?_, fun _ _ p np => k p _ (smUpd np) upd_same⟩
  · subst h
    exact k b H (Same.refl _) hb
  · subst h
    exact k a H (Same.refl _) (by rw [List.append_nil]; exact ha)
theorem walk_zipT {K : PySem.W.Frag} {a b : Addr} {xs ys : List V} {n : Nat} (hn : n = min xs.length ys.length) : Walk (RZ.ItzT K a b) n (fun H => SqT K H a xs ∧ SqT K H b ys) (YPair (fun i => xs[i]?) (fun i => ys[i]?)) := by
  subst hn
  refine ⟨fun i _ hi q => ?_, fun _ q => ⟨xs, ys, q.1, q.2, by omega⟩, fun i H v H' _ q y => ?_⟩
  · have h1 : i < xs.length := by omega
    have h2 : i < ys.length := by omega
    exact ⟨xs, ys, xs[i], ys[i], q.1, q.2, by simp [h1], by simp [h2]⟩
  · obtain ⟨T, x, z, h1, h2, h3, h4, h5⟩ := y
    exact ⟨T, x, z, h1, h2, h3, h4 xs q.1, h5 ys q.2⟩
section
variable {P : Program} {w : World} {K : PySem.W.Frag} {mg : Str → Option Value} {base : Heap}
theorem tupTy {H : Hp} {a : Addr} {xs : List V} (h : H a = some (.tup xs)) : TyX K H (.ref a) (.type "tuple") := .base (.tup h)
def spIsLot : Sp := fun vs H Q _ => ∃ (a : Addr) (ns : List Nat), vs = [.ref a] ∧ TN H a ns ∧ ns.Pairwise (· < ·) ∧ ns.length ≤ 1000 ∧ ∀ H', Same H H' → Q (.bl true) H'
def nLot : List Str := ["thing", "item", "one", "following"]
theorem scIsLot : FnScope nLot ["thing"] (defScope sIsLot) := ⟨rfl, rfl, rfl, by decide +kernel, rfl, by decide +kernel, by decide +kernel⟩
theorem ok_isLot {f fI : Addr} {fd fdI : FuncData} (F : Fun K "is_lot" "is_lot" sIsLot f fd) (N : NamT mg) (DI : DefAt K mg "is_integer" sIsInt ["thing"] fI fdI) : FnOk P w K mg base CX0 2 f fd ["thing"] spIsLot := by
  have GI : FnOk P w K mg base CX0 1 fI fdI ["thing"] spIsInt := ok_isInt DI.F N
  refine F.ok scIsLot (fun vs H Q E h => ?_) (fun cdv A outer s H vs Q E hr h => ?_)
  · obtain ⟨a, ns, rfl, _⟩ := h
    rfl
  · obtain ⟨a, ns, rfl, ha, hp, hl, k⟩ := h
    refine ⟨_, pss_cons (ps_if (pt_not (pt_val (pe_callB call_isi (by rfl) N.is.inst (by decide +kernel) (pa_cons (pv 0) (pa_cons (pe_bltn (v := .ty "tuple") (by rfl) N.is.tup (by decide +kernel) rfl) pa_nil))))) (pss_one ps_never) pss_nil)
      (pss_cons (ps_for PassesOwn.never rfl (pi_tup (pv 0)) (pg_name (i := 1) scIsLot.nd rfl (Or.inl rfl)) (pss_one (ps_if (pt_not (pt_val (pe_call GI hr (by rfl) DI.g DI.F.kp DI.b .nil pass0 (pa_cons (pv 1) pa_nil)))) (pss_one ps_never) pss_nil)))
      (pss_cons (ps_for PassesOwn.never rfl (RZ.pi_zipA (by rfl) N.is.zip (pa_cons (pv 0) (pa_cons (pe_slice sl_tupA (pv 0) (po_some pe_int) po_none) pa_nil))) (pg_tup rfl (pgs_cons (pg_name (i := 2) scIsLot.nd rfl (Or.inl rfl)) (pgs_cons (pg_name (i := 3) scIsLot.nd rfl (Or.inl rfl)) pgs_nil)))
        (pss_one (ps_if (pt_cmpR op_ge (pv 2) (pv 3) (nomark _)) (pss_one ps_never) pss_nil)))
      (pss_one (ps_ret pe_bl)))), ?_⟩
    refine ⟨_, rfl, _, .ty "tuple", _, _, true, rfl, .ty _, tupTy ha, kit_ty (by decide +kernel), true, rfl, ?_⟩
    refine ifF (by decide) ?_
    refine ⟨_, rfl, a, rfl, ⟨_, tnL ha⟩, ?_⟩
    refine for_it (walk_tup (xs := ns.map vn)) (fun _ σ H' => H' = H ∧ ∃ t1, σ = [some (.ref a), t1, none, none]) ⟨rfl, _, rfl⟩ (fun i σ H' _ z => by rw [z.1]; exact tnL ha) ?_ ?_
    · rintro i x σ H' H2 hi ⟨rfl, t1, rfl⟩ ⟨rfl, hx⟩
      rw [List.getElem?_map] at hx
      obtain ⟨n, _, rfl⟩ := Option.map_eq_some_iff.mp hx
      refine ⟨_, rfl, (n : Int), rfl, true, rfl, ?_⟩
      refine ifF (by decide) ?_
      exact ⟨rfl, _, rfl⟩
    · rintro σ H' ⟨rfl, t1, rfl⟩
      refine ⟨_, rfl, _, rfl, 1, rfl, ?_⟩
      refine slN ha fun b H1 s1 hb => ?_
      rw [show (some (1 : Int)) = some ((1 : Nat) : Int) from rfl, cutDrop] at hb
      have ha1 : TN H1 a ns := s1 _ _ ha
      refine ⟨a, b, ns.map vn, (ns.map vn).drop 1, rfl, .inr ⟨tnL ha1, .inl (.inl hb), ?_⟩⟩
      refine for_it (walk_zipT (xs := ns.map vn) (ys := (ns.map vn).drop 1) rfl) (fun _ σ H' => Same H1 H' ∧ ∃ t1 t2 t3, σ = [some (.ref a), t1, t2, t3]) ⟨Same.refl _, _, _, _, rfl⟩ (fun i σ H' _ z => ⟨tnL (z.1 _ _ ha1), .inl (.inl (z.1 _ _ hb))⟩) ?_ ?_
      · rintro i x σ H' H2 hi ⟨sm, t1, t2, t3, rfl⟩ ⟨T, x1, y1, rfl, nT, rfl, e1, e2⟩
        obtain ⟨n, hn, rfl⟩ := vn_get (i := i) e1
        have e2 : ((ns.map vn).drop 1)[i]? = some y1 := e2
        rw [List.getElem?_drop] at e2
        obtain ⟨m, hm, rfl⟩ := vn_get e2
        refine ⟨T, _, rfl, .inl (.inl upd_same), rfl, _, _, rfl, _, _, rfl, rfl, ?_⟩
        refine ⟨_, rfl, _, rfl, _, _, rfl, rfl, _, rfl, ?_⟩
        obtain ⟨q1, q2⟩ := List.getElem?_eq_some_iff.mp hn
        obtain ⟨q3, q4⟩ := List.getElem?_eq_some_iff.mp hm
        have := List.pairwise_iff_getElem.mp hp i (1 + i) q1 q3 (by omega)
        rw [q2, q4] at this
        refine ifF (by rw [decide_eq_true_iff]; show ¬ ((m : Int) ≤ (n : Int)); omega) ?_
        exact ⟨sm.trans (smUpd nT), _, _, _, rfl⟩
      · rintro σ H' ⟨sm, _⟩
        exact k _ (s1.trans sm)
end
end Cn
namespace Cn
open PySem PySem.Spec PyProof.Rows L2 Ck
theorem vn_last {ns : List Nat} {n : Nat} (h : ns ≠ []) (hn : ns.getLast h = n) : atI (ns.map vn) (-1) = some (vn n) := by
  rw [← hn, show ns.map vn = ns.dropLast.map vn ++ [vn (ns.getLast h)] from by rw [← List.map_singleton (f := vn), ← List.map_append, List.dropLast_concat_getLast]]
  exact atI_last _ _
theorem vp_ne {m : Nat} : decide (vp (some m) = V.non) = false := decide_eq_false fun z => nomatch (show vn m = V.non from z)
section
variable {P : Program} {w : World} {K : PySem.W.Frag} {mg : Str → Option Value} {base : Heap} {C : Addr}
def spLotOf : Sp := fun vs H Q _ => ∃ (a : Addr) (ns : List Nat) (n : Nat), vs = [.ref a, vn n] ∧ TN H a ns ∧ ns.Pairwise (· < ·) ∧ (∀ x ∈ ns, x < n) ∧ ns.length ≤ 1000 ∧ ∀ H', Same H H' → Q (.bl true) H'
theorem scLotOf : FnScope ["thing", "many"] ["thing", "many"] (defScope sLotOf) := ⟨rfl, rfl, rfl, by decide +kernel, rfl, by decide +kernel, by decide +kernel⟩
theorem ok_lotOf {f fI fL : Addr} {fd fdI fdL : FuncData} (F : Fun K "_is_lot_of_places" "_is_lot_of_places" sLotOf f fd) (N : NamT mg) (DI : DefAt K mg "is_integer" sIsInt ["thing"] fI fdI) (DL : DefAt K mg "is_lot" sIsLot ["thing"] fL fdL) : FnOk P w K mg base CX0 3 f fd ["thing", "many"] spLotOf := by
  have GL : FnOk P w K mg base CX0 2 fL fdL ["thing"] spIsLot := ok_isLot DL.F N DI
  refine F.ok scLotOf (fun vs H Q E h => ?_) (fun cdv A outer s H vs Q E hr h => ?_)
  · obtain ⟨a, ns, n, rfl, _⟩ := h
    rfl
  · obtain ⟨a, ns, n, rfl, ha, hp, hx, hl, k⟩ := h
    refine ⟨_, pss_one (ps_ret (pe_and (pe_call GL hr (by rfl) DL.g DL.F.kp DL.b .nil pass0 (pa_cons (pv 0) pa_nil)) (pe_one (pe_or (pe_notT (pv 0)) (pe_one (pe_and (pe_cmpR op_le pe_int (pe_ix ix_tup (pv 0) pe_int (fun _ _ => rfl)) (nomark _)) (pe_one (pe_cmpR op_lt (pe_ix ix_tup (pv 0) (pe_un un_neg pe_int) (fun _ _ => rfl)) (pv 1) (nomark _))))))))), ?_⟩
    refine ⟨_, rfl, a, ns, rfl, ha, hp, hl, fun H1 s1 => ⟨true, rfl, ?_⟩⟩
    refine ifT rfl ?_
    have ha1 : TN H1 a ns := s1 _ _ ha
    refine ⟨_, rfl, _, .inr (.inl ⟨_, tnL ha1, rfl⟩), _, rfl, ?_⟩
    by_cases hne : ns = []
    · refine ifT (by rw [hne]; rfl) ?_
      exact k H1 s1
    · obtain ⟨m, h0⟩ : ∃ m, ns[0]? = some m := ⟨_, List.getElem?_eq_getElem (List.length_pos_iff.mpr hne)⟩
      have hem : (ns.map vn).isEmpty = false := by
        cases ns with
        | nil => exact absurd rfl hne
        | cons _ _ => rfl
      refine ifF (by rw [hem]; decide) ?_
      refine ⟨_, rfl, a, _, (0 : Int), _, rfl, rfl, tnL ha1, vn_ix (i := 0) h0, _, _, rfl, rfl, _, rfl, ?_⟩
      refine ifT (by rw [decide_eq_true_iff]; show (0 : Int) ≤ ((m : Nat) : Int); omega) ?_
      have hg := hx _ (List.getLast_mem hne)
      have el := vn_last hne rfl
      refine ⟨_, rfl, _, rfl, a, _, _, _, rfl, rfl, tnL ha1, el, _, rfl, _, _, rfl, rfl, ?_⟩
      have hlt : (((ns.getLast hne : Nat) : Int)) < (n : Int) := by omega
      show Q (V.bl (decide ((((ns.getLast hne : Nat) : Int)) < (n : Int)))) H1
      rw [decide_eq_true hlt]
      exact k H1 s1
/-! Forest(parents, bearing, asking) -/
def spInit (C : Addr) : Sp := fun vs H Q _ => ∃ (p dx ap ab aa : Addr) (f : Fo), vs = [.ref p, .ref ap, .ref ab, .ref aa] ∧ H p = some (.ins C dx []) ∧ TP H ap f.ps ∧ TN H ab f.be ∧ TN H aa f.as ∧ FoOk f ∧
  ∀ H', FoAt C H' p f → (∀ b o, b ≠ p → H b = some o → H' b = some o) → Q .non H'
def nInit : List Str := ["self", "parents", "bearing", "asking", "place", "parent"]
theorem scInit : FnScope nInit ["self", "parents", "bearing", "asking"] (defScope sInit) := ⟨rfl, rfl, rfl, by decide +kernel, rfl, by decide +kernel, by decide +kernel⟩
theorem put3 {ap ab aa : Addr} : putF "asking" (.ref aa) (putF "bearing" (.ref ab) (putF "parents" (.ref ap) [])) = fields3 ap ab aa := rfl
theorem lotLen {ns : List Nat} {n : Nat} (hp : ns.Pairwise (· < ·)) (hx : ∀ x ∈ ns, x < n) : ns.length ≤ n := by
  have h : ∀ (k : Nat) (xs : List Nat), xs.Pairwise (· < ·) → (∀ x ∈ xs, k ≤ x ∧ x < n) → k ≤ n → xs.length + k ≤ n := by
    intro k xs
    induction xs generalizing k with
    | nil => intro _ _ h; rw [List.length_nil]; omega
    | cons y ys ih =>
      intro p q hk
      have hy := q y List.mem_cons_self
      have := ih (y + 1) (List.pairwise_cons.mp p).2 (fun x hx => ⟨(List.pairwise_cons.mp p).1 x hx, (q x (List.mem_cons_of_mem _ hx)).2⟩) hy.2
      rw [List.length_cons]
      omega
  have := h 0 ns hp (fun x hx' => ⟨Nat.zero_le _, hx x hx'⟩) (Nat.zero_le _)
  omega
theorem ok_init {f fI fL fB fO : Addr} {fd fdI fdL fdB fdO : FuncData} {tm : Tok} (F : Fun K "__init__" "Forest.__init__" sInit f fd) (N : NamT mg) (T : FoT K mg C) (mM : mg "MOST_PLACES" = some (.int 60 tm)) (DI : DefAt K mg "is_integer" sIsInt ["thing"] fI fdI) (DL : DefAt K mg "is_lot" sIsLot ["thing"] fL fdL)
    (DB : DefAt K mg "is_between" sIsBtw ["thing", "least", "most"] fB fdB) (DO : DefAt K mg "_is_lot_of_places" sLotOf ["thing", "many"] fO fdO) : FnOk P w K mg base CX0 4 f fd ["self", "parents", "bearing", "asking"] (spInit C) := by
  have GB : FnOk P w K mg base CX0 2 fB fdB ["thing", "least", "most"] spIsBtw := ok_isBtw DB.F N DI
  have GO : FnOk P w K mg base CX0 3 fO fdO ["thing", "many"] spLotOf := ok_lotOf DO.F N DI DL
  refine F.ok scInit (fun vs H Q E h => ?_) (fun cdv A outer s H vs Q E hr h => ?_)
  · obtain ⟨p, dx, ap, ab, aa, f, rfl, _⟩ := h
    rfl
  · obtain ⟨p, dx, ap, ab, aa, fo, rfl, hp, h1, h2, h3, ok, k⟩ := h
    have hr2 : Room 2 (A.deeper (envOfC "Forest.__init__" (defScope sInit) s.heap.objs.size f cdv)) := Room.mono hr (by decide)
    refine ⟨_, pss_cons (ps_if (PW.pt (pw_or (pt_not (pt_val (pe_callB call_isi (by rfl) N.is.inst (by decide +kernel) (pa_cons (pv 1) (pa_cons (pe_bltn (v := .ty "tuple") (by rfl) N.is.tup (by decide +kernel) rfl) pa_nil)))))
          (pw_or1 (pt_not (pt_chain op_le op_le pe_int (pe_callB call_len_seq (by rfl) N.is.len PySem.boot_len (pa_cons (pv 1) pa_nil)) (pe_glob (v := .int 60) (by rfl) mM ⟨_, rfl⟩)))))) (pss_one ps_never) pss_nil)
      (pss_cons (ps_for PassesOwn.never rfl (pi_enumT (by rfl) N.enum (pa_cons (pv 1) pa_nil)) (pg_tup rfl (pgs_cons (pg_name (i := 4) scInit.nd rfl (Or.inl rfl)) (pgs_cons (pg_name (i := 5) scInit.nd rfl (Or.inl rfl)) pgs_nil)))
        (pss_one (ps_if (PW.pt (pw_and (pt_cmpR op_notN (pv 5) pe_non (nomark _)) (pw_and1 (pt_not (pt_val (pe_call GB hr2 (by rfl) DB.g DB.F.kp DB.b .nil pass0 (pa_cons (pv 5) (pa_cons pe_int (pa_cons (pe_op op_sub (pv 4) pe_int) pa_nil))))))))) (pss_one ps_never) pss_nil)))
      (pss_cons (ps_if (pt_not (pt_val (pe_call GO hr (by rfl) DO.g DO.F.kp DO.b .nil pass0 (pa_cons (pv 2) (pa_cons (pe_callB call_len_seq (by rfl) N.is.len PySem.boot_len (pa_cons (pv 1) pa_nil)) pa_nil))))) (pss_one ps_never) pss_nil)
      (pss_cons (ps_if (pt_not (pt_val (pe_call GO hr (by rfl) DO.g DO.F.kp DO.b .nil pass0 (pa_cons (pv 3) (pa_cons (pe_callB call_len_seq (by rfl) N.is.len PySem.boot_len (pa_cons (pv 1) pa_nil)) pa_nil))))) (pss_one ps_never) pss_nil)
      (pss_cons (ps_fld (pv 0) (pv 1) rfl) (pss_cons (ps_fld (pv 0) (pv 2) rfl) (pss_one (ps_fld (pv 0) (pv 3) rfl))))))), ?_⟩
    have l1 : ((fo.ps.map vp).length : Int) ≤ 60 := by have := ok.l1; rw [List.length_map]; omega
    have l0 : (1 : Int) ≤ ((fo.ps.map vp).length : Int) := by have := ok.l0; rw [List.length_map]; omega
    refine ⟨_, rfl, _, .ty "tuple", _, _, true, rfl, .ty _, tupTy h1, kit_ty (by decide +kernel), true, rfl, ?_⟩
    refine ifF (by decide) ?_
    refine ⟨_, rfl, ap, _, rfl, .inr (tpL h1), _, _, rfl, rfl, _, rfl, ?_⟩
    refine ifT (decide_eq_true l0) ?_
    refine ⟨_, _, rfl, rfl, _, rfl, ?_⟩
    refine ifF (by rw [decide_eq_true l1]; decide) ?_
    refine ⟨_, rfl, ap, _, rfl, tpL h1, ?_⟩
    refine for_it (walk_enumT (xs := fo.ps.map vp)) (fun _ σ H' => Same H H' ∧ ∃ t4 t5, σ = [some (.ref p), some (.ref ap), some (.ref ab), some (.ref aa), t4, t5]) ⟨Same.refl _, _, _, rfl⟩ (fun i σ H' _ z => tpL (z.1 _ _ h1)) ?_ ?_
    · rintro i x σ H' H2 hi ⟨sm, t4, t5, rfl⟩ ⟨T, x1, y1, rfl, nT, rfl, e1, e2⟩
      cases e1
      obtain ⟨q, hq, rfl⟩ := vp_get (i := i) e2
      refine ⟨T, _, rfl, .inl (.inl upd_same), rfl, _, _, rfl, _, _, rfl, rfl, ?_⟩
      cases q with
      | none =>
        refine ⟨_, rfl, rfl, _, rfl, ?_⟩
        refine ifF (by decide) ?_
        exact ⟨sm.trans (smUpd nT), _, _, rfl⟩
      | some m =>
        refine ⟨_, rfl, rfl, _, rfl, ?_⟩
        refine ifT (by rw [vp_ne]; rfl) ?_
        refine ⟨_, rfl, _, rfl, _, _, rfl, rfl, (m : Int), 0, (i : Int) - 1, rfl, _, rfl, ?_⟩
        have := ok.ps i m hq
        refine ifF (by rw [decide_eq_true (by omega)]; decide) ?_
        exact ⟨sm.trans (smUpd nT), _, _, rfl⟩
    · rintro σ H' ⟨sm, t4, t5, rfl⟩
      refine ⟨_, rfl, _, rfl, ap, _, rfl, .inr (tpL (sm _ _ h1)), ab, fo.be, fo.ps.length, by rw [List.length_map]; rfl, sm _ _ h2, ok.be, ok.bl, Nat.le_trans (lotLen ok.be ok.bl) (by have := ok.l1; omega), fun H1 s1 => ⟨true, rfl, ?_⟩⟩
      refine ifF (by decide) ?_
      refine ⟨_, rfl, _, rfl, ap, _, rfl, .inr (tpL (s1 _ _ (sm _ _ h1))), aa, fo.as, fo.ps.length, by rw [List.length_map]; rfl, s1 _ _ (sm _ _ h3), ok.as, ok.al, Nat.le_trans (lotLen ok.as ok.al) (by have := ok.l1; omega), fun H3 s3 => ⟨true, rfl, ?_⟩⟩
      refine ifF (by decide) ?_
      have sm3 := (sm.trans s1).trans s3
      refine ⟨_, rfl, _, rfl, p, C, dx, [], rfl, sm3 _ _ hp, T.cl, T.nP, (by show 0 < 1000; decide), ?_⟩
      refine ⟨_, rfl, _, rfl, p, C, dx, _, rfl, upd_same, T.cl, T.nB, (by show 1 < 1000; decide), ?_⟩
      refine ⟨_, rfl, _, rfl, p, C, dx, _, rfl, upd_same, T.cl, T.nA, (by show 2 < 1000; decide), ?_⟩
      have kp : ∀ b o, b ≠ p → H b = some o → (upd (upd (upd H3 p (.ins C dx (putF "parents" (.ref ap) []))) p (.ins C dx (putF "bearing" (.ref ab) (putF "parents" (.ref ap) [])))) p (.ins C dx (fields3 ap ab aa))) b = some o := fun b o ne e => by
        rw [upd_ne ne, upd_ne ne, upd_ne ne]
        exact sm3 _ _ e
      have nt : ∀ {a : Addr} {xs : List V}, H a = some (.tup xs) → a ≠ p := fun {a xs} e z => by rw [z, hp] at e; cases e
      exact k _ ⟨dx, ap, ab, aa, upd_same, kp _ _ (nt h1) h1, kp _ _ (nt h2) h2, kp _ _ (nt h3) h3⟩ kp
end
end Cn
namespace Cn
open PySem PySem.Spec PyProof.Rows L2 Ck
section
variable {P : Program} {w : World} {K : PySem.W.Frag} {mg : Str → Option Value} {base : Heap} {C : Addr}
/-- a def at its level -/
def Def (P : Program) (w : World) (K : PySem.W.Frag) (mg : Str → Option Value) (base : Heap) (x : Str) (k : Nat) (ps : List Str) (sp : Sp) : Prop :=
  ∃ f fd, FnOk P w K mg base CX0 k f fd ps sp ∧ mg x = some (.ref f) ∧ PySem.W.keepIn K (.ref f) = true ∧ Binds K fd ps []
theorem def_of {x : Str} {st : Stmt} {ps : List Str} {k : Nat} {sp : Sp} (h : ∃ f fd, DefAt K mg x st ps f fd) (g : ∀ f fd, Fun K x x st f fd → FnOk P w K mg base CX0 k f fd ps sp) : Def P w K mg base x k ps sp := by
  obtain ⟨f, fd, D⟩ := h
  exact ⟨f, fd, g f fd D.F, D.g, D.F.kp, D.b⟩
theorem dBtw (B : Defs K mg C) : Def P w K mg base "is_between" 2 ["thing", "least", "most"] spIsBtw := by
  obtain ⟨fI, fdI, DI⟩ := B.I
  exact def_of B.B fun f fd F => ok_isBtw F B.N DI
/-! is_place -/
def spPlace (C : Addr) : Sp := fun vs H Q _ => ∃ (a : Addr) (f : Fo) (i : Nat), vs = [.ref a, vn i] ∧ FoAt C H a f ∧ i < f.ps.length ∧ Q (.bl true) H
theorem scIsPlace : FnScope ["forest", "thing"] ["forest", "thing"] (defScope sIsPlace) := ⟨rfl, rfl, rfl, by decide +kernel, rfl, by decide +kernel, by decide +kernel⟩
theorem dPlace (B : Defs K mg C) : Def P w K mg base "is_place" 3 ["forest", "thing"] (spPlace C) := by
  obtain ⟨fB, fdB, GB, gB, kB, bB⟩ := dBtw (P := P) (w := w) (base := base) B
  refine def_of B.Pl fun f fd F => ?_
  refine F.ok scIsPlace (fun vs H Q E h => ?_) (fun cdv A outer s H vs Q E hr h => ?_)
  · obtain ⟨a, f, i, rfl, _⟩ := h
    rfl
  · obtain ⟨a, fo, i, rfl, ⟨dx, ap, ab, aa, h0, h1, h2, h3⟩, hi, k⟩ := h
    refine ⟨_, pss_one (ps_ret (pe_call GB hr (by rfl) gB kB bB .nil pass0 (pa_cons (pv 1) (pa_cons pe_int (pa_cons (pe_op op_sub (pe_callB call_len_seq (by rfl) B.N.is.len PySem.boot_len (pa_cons (pe_fld (pv 0) rfl) pa_nil)) pe_int) pa_nil))))), ?_⟩
    refine ⟨_, rfl, _, rfl, a, C, dx, _, _, rfl, h0, B.T.cl, B.T.nP, fP, ap, _, rfl, .inr (tpL h1), _, _, rfl, rfl, (i : Int), 0, _, rfl, ?_⟩
    rw [List.length_map, decide_eq_true (by omega)]
    exact k
/-! way -/
def spWay (C : Addr) : Sp := fun vs H Q _ => ∃ (a : Addr) (f : Fo) (i : Nat), vs = [.ref a, vn i] ∧ FoAt C H a f ∧ Ps f.ps ∧ f.ps.length ≤ 60 ∧ i < f.ps.length ∧ ∀ b H', Same H H' → TDn H' b (road f.ps i) → Q (.ref b) H'
def nWay : List Str := ["forest", "place", "upward", "parent"]
theorem scWay : FnScope nWay ["forest", "place"] (defScope sWay) := ⟨rfl, rfl, rfl, by decide +kernel, rfl, by decide +kernel, by decide +kernel⟩
theorem ps_at {ps : List (Option Nat)} {i : Nat} (hi : i < ps.length) : ∃ q, ps[i]? = some q := ⟨_, List.getElem?_eq_getElem hi⟩
/-- where the walk upward stands -/
def UpAt (ps : List (Option Nat)) (i : Nat) (up : List Nat) : Option Nat → Prop
  | none => road ps i = up.reverse
  | some p => p < i ∧ road ps i = road ps p ++ up.reverse
theorem upStart {ps : List (Option Nat)} {i : Nat} {q : Option Nat} (hp : Ps ps) (h : ps[i]? = some q) : UpAt ps i [i] q := by
  cases q with
  | none => exact road_none h
  | some p => exact ⟨hp i p h, road_some hp h⟩
theorem upNext {ps : List (Option Nat)} {i p : Nat} {up : List Nat} {q : Option Nat} (hp : Ps ps) (h : UpAt ps i up (some p)) (hq : ps[p]? = some q) : UpAt ps i (up ++ [p]) q := by
  obtain ⟨hl, e⟩ := h
  cases q with
  | none =>
    show road ps i = (up ++ [p]).reverse
    rw [e, road_none hq, List.reverse_append]; rfl
  | some r =>
    refine ⟨Nat.lt_trans (hp p r hq) hl, ?_⟩
    rw [e, road_some hp hq, List.reverse_append, List.append_assoc]; rfl
def meas : L2.St → Nat := fun σ => match σ[3]? with
  | some (some (V.int n)) => n.toNat + 1
  | _ => 0
theorem okWay (B : Defs K mg C) {f : Addr} {fd : FuncData} (F : Fun K "way" "way" sWay f fd) : FnOk P w K mg base CX0 4 f fd ["forest", "place"] (spWay C) := by
  obtain ⟨fB, fdB, GB, gB, kB, bB⟩ := dPlace (P := P) (w := w) (base := base) B
  refine F.ok scWay (fun vs H Q E h => ?_) (fun cdv A outer s H vs Q E hr h => ?_)
  · obtain ⟨a, f, i, rfl, _⟩ := h
    rfl
  · obtain ⟨a, fo, i, rfl, hF, hp, hl, hi, k⟩ := h
    refine ⟨_, pss_cons (ps_if (pt_not (pt_val (pe_call GB hr (by rfl) gB kB bB .nil pass0 (pa_cons (pv 0) (pa_cons (pv 1) pa_nil))))) (pss_one ps_never) pss_nil)
      (pss_cons (ps_set (i := 2) scWay.nd rfl (Or.inl rfl) (pe_lst (pa_cons (pv 1) pa_nil)))
      (pss_cons (ps_set (i := 3) scWay.nd rfl (Or.inl rfl) (pe_ix ix_tup (pe_fld (pv 0) rfl) (pv 1) (fun _ _ => rfl)))
      (pss_cons (ps_while PassesOwn.never (pt_cmpR op_notN (pv 3) pe_non (nomark _))
        (pss_cons (ps_expr (pe_bm PySem.F.plainAttrs_list PySem.F.slot_list_append PySem.F.type_list_append mt_append (pv 2) (pa_cons (pv 3) pa_nil)))
        (pss_one (ps_set (i := 3) scWay.nd rfl (Or.inl rfl) (pe_ix ix_tup (pe_fld (pv 0) rfl) (pv 3) (fun _ _ => rfl))))))
      (pss_one (ps_ret (pe_tupRevD rfl (by rfl) B.N.is.tup (by rfl) B.N.rev (pv 2))))))), ?_⟩
    refine ⟨_, rfl, _, rfl, a, fo, i, rfl, hF, hi, true, rfl, ?_⟩
    refine ifF (by decide) ?_
    obtain ⟨dx, ap, ab, aa, h0, h1, h2, h3⟩ := hF
    refine ⟨_, rfl, by show 1 ≤ sizeLine; decide, fun u nu => ?_⟩
    have S1 := smUpd (o := .lst [vn i]) nu
    obtain ⟨q, hq⟩ := ps_at hi
    refine ⟨_, rfl, a, C, dx, _, _, rfl, S1 _ _ h0, B.T.cl, B.T.nP, fP, _, rfl, ap, _, (i : Int), _, rfl, rfl, tpL (S1 _ _ h1), vp_ix hq, ?_⟩
    refine while_by (fun σ H' => ∃ (up : List Nat) (q : Option Nat), σ = [some (.ref a), some (vn i), some (.ref u), some (vp q)] ∧ Same H H' ∧ H' u = some (.lst (up.map vn)) ∧ UpAt fo.ps i up q ∧ up.length ≤ i + 1) (fun σ _ => meas σ) ⟨[i], q, rfl, S1, upd_same, upStart hp hq, by show 1 ≤ i + 1; omega⟩ ?_ ?_
    · rintro σ H' ⟨up, q, rfl, sm, hu, hup, hul⟩
      refine ⟨_, rfl, rfl, _, rfl, ?_⟩
      cases q with
      | none =>
        refine ifF (by decide) ?_
        refine ⟨_, rfl, u, _, rfl, .inl (.inl hu), fun r H2 s2 hr => ?_⟩
        rw [← List.map_reverse] at hr
        have e : road fo.ps i = up.reverse := hup
        refine k r _ (sm.trans s2) ?_
        rw [e]
        exact hr
      | some p =>
        refine ifT (by rw [vp_ne]; rfl) ?_
        obtain ⟨hpi, _⟩ := id hup
        have hpl : p < fo.ps.length := Nat.lt_trans hpi hi
        obtain ⟨r, hr⟩ := ps_at hpl
        refine ⟨_, rfl, .inl ⟨rfl, _, .inl (.inl hu)⟩, _, rfl, u, _, _, rfl, rfl, hu, ?_, ?_⟩
        · rw [List.length_map]; exact small1000 (by omega)
        have nub : ∀ b o, H b = some o → b ≠ u := fun b o e z => by rw [z, nu] at e; cases e
        have sm2 : Same H (upd H' u (.lst (up.map vn ++ [vp (some p)]))) := fun b o e => by rw [upd_ne (nub b o e)]; exact sm b o e
        refine ⟨_, rfl, a, C, dx, _, _, rfl, sm2 _ _ h0, B.T.cl, B.T.nP, fP, _, rfl, ap, _, (p : Int), _, rfl, rfl, tpL (sm2 _ _ h1), vp_ix hr, ?_⟩
        refine ⟨⟨up ++ [p], r, rfl, sm2, ?_, upNext hp hup hr, ?_⟩, ?_⟩
        · rw [upd_same, List.map_append]; rfl
        · have e := road_len hp i hi
          obtain ⟨_, e2⟩ := hup
          have := List.length_pos_iff.mpr (road_ne hp hpl)
          rw [e2, List.length_append, List.length_reverse] at e
          rw [List.length_append, List.length_singleton]
          omega
        · cases r with
          | none => show 0 < (p : Int).toNat + 1; omega
          | some r =>
            have := hp p r hr
            show (r : Int).toNat + 1 < (p : Int).toNat + 1
            omega
    · rintro σ H' Q1 Q2 hq12 ⟨v, hv, e, kk, hk, qq⟩
      exact ⟨v, hv, e, kk, hk, hq12 _ _ qq⟩
theorem dWay (B : Defs K mg C) : Def P w K mg base "way" 4 ["forest", "place"] (spWay C) := def_of B.W fun f fd F => okWay B F
end
end Cn
namespace Cn
open PySem PySem.Spec PyProof.Rows L2 Ck
/-! way, as a plain new tuple -/
section
variable {P : Program} {w : World} {K : PySem.W.Frag} {mg : Str → Option Value} {base : Heap} {C : Addr}
def spWayN (C : Addr) : Sp := fun vs H Q _ => ∃ (a : Addr) (f : Fo) (i : Nat), vs = [.ref a, vn i] ∧ FoAt C H a f ∧ Ps f.ps ∧ f.ps.length ≤ 60 ∧ i < f.ps.length ∧ ∀ b H', Same H H' → TN H' b (road f.ps i) → Q (.ref b) H'
theorem dWayN (B : Defs K mg C) : Def P w K mg base "way" 4 ["forest", "place"] (spWayN C) := by
  obtain ⟨fB, fdB, GB, gB, kB, bB⟩ := dPlace (P := P) (w := w) (base := base) B
  refine def_of B.W fun f fd F => ?_
  refine F.ok scWay (fun vs H Q E h => ?_) (fun cdv A outer s H vs Q E hr h => ?_)
  · obtain ⟨a, f, i, rfl, _⟩ := h
    rfl
  · obtain ⟨a, fo, i, rfl, hF, hp, hl, hi, k⟩ := h
    refine ⟨_, pss_cons (ps_if (pt_not (pt_val (pe_call GB hr (by rfl) gB kB bB .nil pass0 (pa_cons (pv 0) (pa_cons (pv 1) pa_nil))))) (pss_one ps_never) pss_nil)
      (pss_cons (ps_set (i := 2) scWay.nd rfl (Or.inl rfl) (pe_lst (pa_cons (pv 1) pa_nil)))
      (pss_cons (ps_set (i := 3) scWay.nd rfl (Or.inl rfl) (pe_ix ix_tup (pe_fld (pv 0) rfl) (pv 1) (fun _ _ => rfl)))
      (pss_cons (ps_while PassesOwn.never (pt_cmpR op_notN (pv 3) pe_non (nomark _))
        (pss_cons (ps_expr (pe_bm PySem.F.plainAttrs_list PySem.F.slot_list_append PySem.F.type_list_append mt_append (pv 2) (pa_cons (pv 3) pa_nil)))
        (pss_one (ps_set (i := 3) scWay.nd rfl (Or.inl rfl) (pe_ix ix_tup (pe_fld (pv 0) rfl) (pv 3) (fun _ _ => rfl))))))
      (pss_one (ps_ret (RT.pe_tupRev rfl (by rfl) B.N.is.tup (by rfl) B.N.rev (pv 2))))))), ?_⟩
    refine ⟨_, rfl, _, rfl, a, fo, i, rfl, hF, hi, true, rfl, ?_⟩
    refine ifF (by decide) ?_
    obtain ⟨dx, ap, ab, aa, h0, h1, h2, h3⟩ := hF
    refine ⟨_, rfl, by show 1 ≤ sizeLine; decide, fun u nu => ?_⟩
    have S1 := smUpd (o := .lst [vn i]) nu
    obtain ⟨q, hq⟩ := ps_at hi
    refine ⟨_, rfl, a, C, dx, _, _, rfl, S1 _ _ h0, B.T.cl, B.T.nP, fP, _, rfl, ap, _, (i : Int), _, rfl, rfl, tpL (S1 _ _ h1), vp_ix hq, ?_⟩
    refine while_by (fun σ H' => ∃ (up : List Nat) (q : Option Nat), σ = [some (.ref a), some (vn i), some (.ref u), some (vp q)] ∧ Same H H' ∧ H' u = some (.lst (up.map vn)) ∧ UpAt fo.ps i up q ∧ up.length ≤ i + 1) (fun σ _ => meas σ) ⟨[i], q, rfl, S1, upd_same, upStart hp hq, by show 1 ≤ i + 1; omega⟩ ?_ ?_
    · rintro σ H' ⟨up, q, rfl, sm, hu, hup, hul⟩
      refine ⟨_, rfl, rfl, _, rfl, ?_⟩
      cases q with
      | none =>
        refine ifF (by decide) ?_
        refine ⟨_, rfl, u, _, rfl, .inl (.inl hu), fun r nr => ?_⟩
        rw [← List.map_reverse]
        have e : road fo.ps i = up.reverse := hup
        refine k r _ (sm.trans (smUpd nr)) ?_
        rw [e]
        exact upd_same
      | some p =>
        refine ifT (by rw [vp_ne]; rfl) ?_
        obtain ⟨hpi, _⟩ := id hup
        have hpl : p < fo.ps.length := Nat.lt_trans hpi hi
        obtain ⟨r, hr⟩ := ps_at hpl
        refine ⟨_, rfl, .inl ⟨rfl, _, .inl (.inl hu)⟩, _, rfl, u, _, _, rfl, rfl, hu, ?_, ?_⟩
        · rw [List.length_map]; exact small1000 (by omega)
        have nub : ∀ b o, H b = some o → b ≠ u := fun b o e z => by rw [z, nu] at e; cases e
        have sm2 : Same H (upd H' u (.lst (up.map vn ++ [vp (some p)]))) := fun b o e => by rw [upd_ne (nub b o e)]; exact sm b o e
        refine ⟨_, rfl, a, C, dx, _, _, rfl, sm2 _ _ h0, B.T.cl, B.T.nP, fP, _, rfl, ap, _, (p : Int), _, rfl, rfl, tpL (sm2 _ _ h1), vp_ix hr, ?_⟩
        refine ⟨⟨up ++ [p], r, rfl, sm2, ?_, upNext hp hup hr, ?_⟩, ?_⟩
        · rw [upd_same, List.map_append]; rfl
        · have e := road_len hp i hi
          obtain ⟨_, e2⟩ := hup
          have := List.length_pos_iff.mpr (road_ne hp hpl)
          rw [e2, List.length_append, List.length_reverse] at e
          rw [List.length_append, List.length_singleton]
          omega
        · cases r with
          | none => show 0 < (p : Int).toNat + 1; omega
          | some r =>
            have := hp p r hr
            show (r : Int).toNat + 1 < (p : Int).toNat + 1
            omega
    · rintro σ H' Q1 Q2 hq12 ⟨v, hv, e, kk, hk, qq⟩
      exact ⟨v, hv, e, kk, hk, hq12 _ _ qq⟩
end
end Cn
namespace Cn
open PySem PySem.Spec PyProof.Rows L2 Ck
/-! data of whole numbers -/
def dn (ns : List Nat) : List PyData := ns.map fun n => PyData.int ((n : Nat) : Int)
theorem dpN {K : PySem.W.Frag} {H : Hp} : ∀ ns : List Nat, DpAll K H (ns.map vn) (dn ns)
  | [] => .nil
  | n :: ns => .cons (.int _) (dpN ns)
theorem dnLay : ∀ ns : List Nat, PyData.canLayAll0 (dn ns) = true
  | [] => rfl
  | n :: ns => by
    show (PyData.canLay0 (.int _) && PyData.canLayAll0 (dn ns)) = true
    rw [dnLay ns]; rfl
theorem dnDepth : ∀ ns : List Nat, PyData.depthAll (dn ns) = 0
  | [] => rfl
  | n :: ns => by
    show max (PyData.depth (.int _)) (PyData.depthAll (dn ns)) = 0
    rw [dnDepth ns]; rfl
theorem dnShL (ns : List Nat) : SeqAt.shaped (.list (dn ns)) = true := by
  show (PyData.canLayAll0 (dn ns) && decide (PyData.depthAll (dn ns) + 1 ≤ 64)) = true
  rw [dnLay, dnDepth]; rfl
theorem dnShT (ns : List Nat) : SeqAt.shaped (.tuple (dn ns)) = true := by
  show (PyData.canLayAll0 (dn ns) && decide (PyData.depthAll (dn ns) + 1 ≤ 64)) = true
  rw [dnLay, dnDepth]; rfl
theorem dnEqL (ns : List Nat) : PyData.eqv (.list (dn ns)) (.list (dn ns)) = true := SeqAt.eqv_refl (.list (dn ns)) (dnLay ns)
theorem dnEqT (ns : List Nat) : PyData.eqv (.tuple (dn ns)) (.tuple (dn ns)) = true := SeqAt.eqv_refl (.tuple (dn ns)) (dnLay ns)
/-- what is sorted and has just the numbers below n, each once -/
theorem sortedRange {ns : List Nat} {n : Nat} {zs : List Int} (nd : ns.Nodup) (hm : ∀ x, x ∈ ns ↔ x < n) (hp : zs.Perm (ns.map fun k => ((k : Nat) : Int))) (hs : zs.Pairwise (· ≤ ·)) : zs = (List.range n).map fun k => ((k : Nat) : Int) := by
  have h1 : ns.Perm (List.range n) := (List.perm_ext_iff_of_nodup nd List.nodup_range).mpr fun x => by rw [hm, List.mem_range]
  refine List.Perm.eq_of_pairwise (le := (· ≤ ·)) (fun a b _ _ p q => Int.le_antisymm p q) hs ?_ (hp.trans (h1.map _))
  rw [List.pairwise_map]
  exact List.pairwise_lt_range.imp fun h => by omega
theorem rgN (n : Nat) : rgV 0 (n : Int) = (List.range n).map vn := by
  unfold rgV
  rw [Int.sub_zero, Int.toNat_natCast]
  refine List.map_congr_left fun i _ => ?_
  show V.int (0 + (i : Int)) = V.int (i : Int)
  rw [Int.zero_add]
theorem mapIV (ns : List Nat) : (ns.map fun k => ((k : Nat) : Int)).map V.int = ns.map vn := by rw [List.map_map]; rfl
/-- cuts: all places, each once -/
structure CutsOk (n : Nat) (cs : List Nat) : Prop where
  len : cs.length = n
  nd : cs.Nodup
  mem : ∀ x, x ∈ cs ↔ x < n
section
variable {P : Program} {w : World} {K : PySem.W.Frag} {mg : Str → Option Value} {base : Heap} {C : Addr}
theorem dInt (B : Defs K mg C) : Def P w K mg base "is_integer" 1 ["thing"] spIsInt := def_of B.I fun f fd F => ok_isInt F B.N
end
end Cn
namespace Cn
open PySem PySem.Spec PyProof.Rows L2 Ck
theorem smOver {H1 H4 : Hp} {D : Addr} {o : HO} (nD : H1 D = none) (sm : Same H1 H4) : Same H1 (upd H4 D o) := fun b u e => by
  have nb : b ≠ D := fun z => by rw [z, nD] at e; cases e
  rw [upd_ne nb]
  exact sm b u e
end Cn
namespace Cn
open PySem PySem.Spec PyProof.Rows L2 Ck
def dPar (ps : List (Option Nat)) : List PyData := ps.map fun q => match q with | none => PyData.none | some n => PyData.int ((n : Nat) : Int)
theorem dpPar {K : PySem.W.Frag} {H : Hp} : ∀ ps : List (Option Nat), DpAll K H (ps.map vp) (dPar ps)
  | [] => .nil
  | none :: ps => .cons .non (dpPar ps)
  | some n :: ps => .cons (.int _) (dpPar ps)
theorem dParLay : ∀ ps : List (Option Nat), PyData.canLayAll0 (dPar ps) = true
  | [] => rfl
  | none :: ps => by
    show (PyData.canLay0 .none && PyData.canLayAll0 (dPar ps)) = true
    rw [dParLay ps]; rfl
  | some n :: ps => by
    show (PyData.canLay0 (.int _) && PyData.canLayAll0 (dPar ps)) = true
    rw [dParLay ps]; rfl
theorem dParDepth : ∀ ps : List (Option Nat), PyData.depthAll (dPar ps) = 0
  | [] => rfl
  | none :: ps => by
    show max (PyData.depth .none) (PyData.depthAll (dPar ps)) = 0
    rw [dParDepth ps]; rfl
  | some n :: ps => by
    show max (PyData.depth (.int _)) (PyData.depthAll (dPar ps)) = 0
    rw [dParDepth ps]; rfl
theorem dParSh (ps : List (Option Nat)) : SeqAt.shaped (.tuple (dPar ps)) = true := by
  show (PyData.canLayAll0 (dPar ps) && decide (PyData.depthAll (dPar ps) + 1 ≤ 64)) = true
  rw [dParLay, dParDepth]; rfl
theorem dParEq : ∀ {ps qs : List (Option Nat)}, PyData.eqvAll (dPar ps) (dPar qs) = true → ps = qs
  | [], [], _ => rfl
  | [], q :: qs, h => by cases q <;> simp [dPar, PyData.eqvAll] at h
  | p :: ps, [], h => by cases p <;> simp [dPar, PyData.eqvAll] at h
  | none :: ps, none :: qs, h => by
    have h2 : PyData.eqvAll (dPar ps) (dPar qs) = true := by
      have h1 : PyData.eqvAll (PyData.none :: dPar ps) (PyData.none :: dPar qs) = true := h
      simp only [PyData.eqvAll, Bool.and_eq_true] at h1
      exact h1.2
    rw [dParEq h2]
  | some p :: ps, some q :: qs, h => by
    have h1 : PyData.eqvAll (PyData.int ((p : Nat) : Int) :: dPar ps) (PyData.int ((q : Nat) : Int) :: dPar qs) = true := h
    simp only [PyData.eqvAll, PyData.eqv, Bool.and_eq_true, beq_iff_eq] at h1
    rw [dParEq h1.2, show p = q from by omega]
  | none :: ps, some q :: qs, h => by
    have h1 : PyData.eqvAll (PyData.none :: dPar ps) (PyData.int ((q : Nat) : Int) :: dPar qs) = true := h
    simp [PyData.eqvAll, PyData.eqv] at h1
  | some p :: ps, none :: qs, h => by
    have h1 : PyData.eqvAll (PyData.int ((p : Nat) : Int) :: dPar ps) (PyData.none :: dPar qs) = true := h
    simp [PyData.eqvAll, PyData.eqv] at h1
theorem dParEqT {ps qs : List (Option Nat)} (h : PyData.eqv (.tuple (dPar ps)) (.tuple (dPar qs)) = true) : ps = qs := dParEq (by simpa only [PyData.eqv] using h)
end Cn
namespace Cn
open PySem PySem.Spec PyProof.Rows L2 Ck
def rLenQ (K : PySem.W.Frag) : List V → Hp → VK → Prop := fun xs H Q => ∃ p ys, xs = [.ref p] ∧ (SqL K H p ys ∨ SqT K H p ys) ∧ Q (.int ys.length) H
theorem len_q {X : Cx} : CallR X (.builtin "len") (rLenQ X.K) := call_len_seq
/-- either a list or a tuple, in slot i -/
def iSeq (K : PySem.W.Frag) (i : Nat) : TI := fun σ H R => iList K (tVar i) σ H R ∨ iTup K (tVar i) σ H R
theorem lenZero {n : Nat} : decide (V.int (n : Int) = V.int 0) = decide (n = 0) := by
  rw [Bool.eq_iff_iff, decide_eq_true_iff, decide_eq_true_iff]
  exact ⟨fun z => by have := V.int.inj z; omega, fun z => by rw [z]; rfl⟩
end Cn
namespace Cn
open PySem PySem.Spec PyProof.Rows L2 Ck
/-! the hand, turned -/
def Kept (p : Addr) (H H' : Hp) : Prop := ∀ b o, b ≠ p → H b = some o → H' b = some o
theorem kept_same {p : Addr} {H H' : Hp} (h : Same H H') : Kept p H H' := fun b o _ e => h b o e
theorem kept_trans {p : Addr} {H H1 H2 : Hp} (h : Kept p H H1) (k : Kept p H1 H2) : Kept p H H2 := fun b o ne e => k b o ne (h b o ne e)
theorem kept_hand {p : Addr} {H : Hp} {o : HO} : Kept p H (upd H p o) := fun b u ne e => by rw [upd_ne ne]; exact e
theorem kept_over {p D : Addr} {H1 H4 : Hp} {o : HO} (nD : H1 D = none) (k : Kept p H1 H4) : Kept p H1 (upd H4 D o) := fun b u ne e => by
  have nb : b ≠ D := fun z => by rw [z, nD] at e; cases e
  rw [upd_ne nb]
  exact k b u ne e
theorem handIn_upd {H : Hp} {p c : Addr} {cells : List Int} (h : HandIn H p c cells) {i g m t : Int} (hi : 0 ≤ i) : HandIn (upd H p (handL c i g m t)) p c cells :=
  ⟨⟨i, g, m, t, upd_same, hi⟩, by rw [upd_ne h.ne.symm]; exact h.ce, h.ne⟩
theorem handIn_keep {H H' : Hp} {p c : Addr} {cells : List Int} (h : HandIn H p c cells) (k : Same H H') : HandIn H' p c cells := by
  obtain ⟨⟨i, g, m, t, hp, hi⟩, hc, ne⟩ := h
  exact ⟨⟨i, g, m, t, k _ _ hp, hi⟩, k _ _ hc, ne⟩
/-- written at D, which is neither the hand nor its cells -/
theorem handIn_write {H0 H : Hp} {p c D : Addr} {cells cells0 : List Int} {o : HO} (h0 : HandIn H0 p c cells0) (nD : H0 D = none) (h : HandIn H p c cells) : HandIn (upd H D o) p c cells := by
  obtain ⟨⟨i, g, m, t, hp, hi⟩, hc, ne⟩ := h
  have n1 : p ≠ D := fun z => by
    obtain ⟨_, _, _, _, e, _⟩ := h0.ob
    rw [z, nD] at e; cases e
  have n2 : c ≠ D := fun z => by
    have e := h0.ce
    rw [z, nD] at e; cases e
  exact ⟨⟨i, g, m, t, by rw [upd_ne n1]; exact hp, hi⟩, by rw [upd_ne n2]; exact hc, ne⟩
theorem hand_ne {H : Hp} {p c a : Addr} {cells : List Int} (h : HandIn H p c cells) (na : H a = none) : a ≠ p := fun z => by
  obtain ⟨_, _, _, _, e, _⟩ := h.ob
  rw [← z, na] at e; cases e
/-- what is no list is not the hand -/
theorem tup_ne {H : Hp} {p c a : Addr} {cells : List Int} {xs : List V} (h : HandIn H p c cells) (ha : H a = some (.tup xs)) : a ≠ p := fun z => by
  obtain ⟨_, _, _, _, e, _⟩ := h.ob
  rw [← z, ha] at e; cases e
theorem atMem {xs : List V} {d : Int} (h0 : 0 ≤ d) (h1 : d < (xs.length : Int)) : ∃ v, atI xs d = some v ∧ v ∈ xs := by
  obtain ⟨n, rfl⟩ := Int.eq_ofNat_of_zero_le h0
  have hn : n < xs.length := by omega
  exact ⟨xs[n], atI_nat (List.getElem?_eq_getElem hn), List.getElem_mem hn⟩
theorem glCons {R : V → Prop} {x : V} {xs : List V} (h : R x) (t : ∀ v ∈ xs, R v) : ∀ v ∈ x :: xs, R v := fun v hm => by
  rcases List.mem_cons.mp hm with e | hm
  · rw [e]; exact h
  · exact t v hm
theorem glNil {R : V → Prop} : ∀ v ∈ ([] : List V), R v := fun v hm => by cases hm
section
variable {P : Program} {w : World} {K : PySem.W.Frag} {mg : Str → Option Value} {base : Heap} {C : Addr}
theorem nOf (B : Defs K mg C) : NamT mg := B.N
theorem dDraw (B : Defs K mg C) : Def P w K mg base "_law_draw" 1 ["_law_hand_here", "_law_many"] spDraw := def_of B.dr fun f fd F => ok_draw F (nOf B).int (nOf B).is.len
end
end Cn
namespace Cn
open PySem PySem.Spec PyProof.Rows L2 Ck
section
variable {P : Program} {w : World} {K : PySem.W.Frag} {mg : Str → Option Value} {base : Heap} {C : Addr}
/-- a parent that may stand at place n -/
def ParOk (n : Nat) (v : V) : Prop := ∃ q, v = vp q ∧ ∀ m, q = some m → m < n
def spParents : Sp := fun vs H Q _ => ∃ (p c : Addr) (cells : List Int) (n : Nat), vs = [.ref p, vn n] ∧ HandIn H p c cells ∧ 1 ≤ n ∧ n ≤ 61 ∧
  ∀ r ps H', Ps ps → ps.length = n → HandIn H' p c cells → Kept p H H' → TP H' r ps → Q (.ref r) H'
def nParents : List Str := ["_law_hand_here", "_law_places", "_law_found", "_law_place", "_law_some_here"]
theorem scParents : FnScope nParents ["_law_hand_here", "_law_places"] (defScope sParents) := ⟨rfl, rfl, rfl, by decide +kernel, rfl, by decide +kernel, by decide +kernel⟩
theorem psSnoc {ps : List (Option Nat)} {q : Option Nat} (hp : Ps ps) (hq : ∀ m, q = some m → m < ps.length) : Ps (ps ++ [q]) := fun i m h => by
  by_cases c : i < ps.length
  · rw [List.getElem?_append_left c] at h
    exact hp i m h
  · rw [List.getElem?_append_right (by omega)] at h
    have e : i = ps.length := by
      have := (List.getElem?_eq_some_iff.mp h).1
      simp at this
      omega
    subst e
    rw [Nat.sub_self] at h
    exact hq m (Option.some.inj h)
theorem dParents (B : Defs K mg C) : Def P w K mg base "_law_parents" 2 ["_law_hand_here", "_law_places"] spParents := by
  obtain ⟨fD, fdD, GD, gD, kD, bD⟩ := dDraw (P := P) (w := w) (base := base) B
  have N := nOf B
  refine def_of B.pa fun f fd F => ?_
  refine F.ok scParents (fun vs H Q E h => ?_) (fun cdv A outer s H vs Q E hr h => ?_)
  · obtain ⟨p, c, cells, n, rfl, _⟩ := h
    rfl
  · obtain ⟨p, c, cells, n, rfl, hI, h1, h60, k⟩ := h
    refine ⟨_, pss_cons (ps_set (i := 2) scParents.nd rfl (Or.inl rfl) (pe_lst (pa_cons pe_non pa_nil)))
      (pss_cons (ps_for PassesOwn.never rfl (pi_range2 (by rfl) N.range (pa_cons pe_int (pa_cons (pv 1) pa_nil))) (pg_name (i := 3) scParents.nd rfl (Or.inl rfl))
        (pss_cons (ps_set (i := 4) scParents.nd rfl (Or.inl rfl) (pe_lst (pa_cons pe_non (pa_cons (pe_op op_sub (pv 3) pe_int) (pa_cons (pe_op op_sub (pv 3) pe_int) (pa_cons (pe_op op_sub (pv 3) pe_int)
            (pa_cons (pe_call GD hr (by rfl) gD kD bD .nil pass0 (pa_cons (pv 0) (pa_cons (pv 3) pa_nil))) (pa_cons (pe_call GD hr (by rfl) gD kD bD .nil pass0 (pa_cons (pv 0) (pa_cons (pv 3) pa_nil))) pa_nil))))))))
        (pss_one (ps_expr (pe_bm PySem.F.plainAttrs_list PySem.F.slot_list_append PySem.F.type_list_append mt_append (pv 2) (pa_cons (pe_ix ix_list (pv 4) (pe_call GD hr (by rfl) gD kD bD .nil pass0 (pa_cons (pv 0) (pa_cons pe_int pa_nil))) (fun _ _ => rfl)) pa_nil))))))
      (pss_one (ps_ret (pe_callTy call_tuple_of (by rfl) N.is.tup (by decide +kernel) (pa_cons (pv 2) pa_nil))))), ?_⟩
    refine ⟨by show 1 ≤ sizeLine; decide, fun D nD => ?_⟩
    have nDp := hand_ne hI nD
    refine ⟨_, rfl, 1, (n : Int), rfl, ⟨by decide, by decide, by omega, by omega⟩, ?_⟩
    refine for_range (lo := 1) (n := ((n : Int) - 1).toNat) (fun i σ H' => ∃ (ps : List (Option Nat)) (t3 t4 : Option V), σ = [some (.ref p), some (vn n), some (.ref D), t3, t4] ∧ HandIn H' p c cells ∧ Kept p H H' ∧ H' D = some (.lst (ps.map vp)) ∧ ps.length = i + 1 ∧ Ps ps) ?_ ?_ ?_
    · refine ⟨[none], none, none, rfl, handIn_keep hI (smUpd nD), kept_same (smUpd nD), upd_same, rfl, fun i m h => ?_⟩
      cases i with
      | zero => cases h
      | succ i => cases h
    · rintro i σ H1 hi ⟨ps, t3, t4, rfl, hI1, k1, hD1, hl, hp⟩
      have e1 : (1 : Int) + (i : Int) = ((i + 1 : Nat) : Int) := by omega
      rw [e1]
      have e2 : (((i + 1 : Nat) : Int)) - 1 = ((i : Nat) : Int) := by omega
      refine ⟨_, rfl, _, _, rfl, rfl, _, rfl, _, _, rfl, rfl, _, rfl, _, _, rfl, rfl, ?_⟩
      refine ⟨_, rfl, _, rfl, p, c, cells, ((i + 1 : Nat) : Int), rfl, hI1, by omega, by omega, fun d1 a1 a2 a3 a4 d10 d11 a10 => ?_⟩
      refine ⟨_, rfl, _, rfl, p, c, cells, ((i + 1 : Nat) : Int), rfl, handIn_upd hI1 a10, by omega, by omega, fun d2 b1 b2 b3 b4 d20 d21 b10 => ?_⟩
      have hI3 := handIn_upd (i := b1) (g := b2) (m := b3) (t := b4) (handIn_upd (i := a1) (g := a2) (m := a3) (t := a4) hI1 a10) b10
      have k3 : Kept p H1 (upd (upd H1 p (handL c a1 a2 a3 a4)) p (handL c b1 b2 b3 b4)) := kept_trans kept_hand kept_hand
      have hD3 : (upd (upd H1 p (handL c a1 a2 a3 a4)) p (handL c b1 b2 b3 b4)) D = some (.lst (ps.map vp)) := k3 _ _ nDp hD1
      generalize upd (upd H1 p (handL c a1 a2 a3 a4)) p (handL c b1 b2 b3 b4) = H3 at hI3 k3 hD3 ⊢
      refine ⟨by show 6 ≤ sizeLine; decide, fun l nl => ?_⟩
      have S4 := smUpd (o := .lst [.non, .int (((i + 1 : Nat) : Int) - 1), .int (((i + 1 : Nat) : Int) - 1), .int (((i + 1 : Nat) : Int) - 1), .int d1, .int d2]) nl
      have nlp := hand_ne hI3 nl
      have hI4 := handIn_keep hI3 S4
      have hD4 := S4 _ _ hD3
      have hl4 : upd H3 l (.lst [.non, .int (((i + 1 : Nat) : Int) - 1), .int (((i + 1 : Nat) : Int) - 1), .int (((i + 1 : Nat) : Int) - 1), .int d1, .int d2]) l = some (.lst [.non, .int (((i + 1 : Nat) : Int) - 1), .int (((i + 1 : Nat) : Int) - 1), .int (((i + 1 : Nat) : Int) - 1), .int d1, .int d2]) := upd_same
      have k4 := kept_trans k3 (kept_same (p := p) S4)
      have okAll : ∀ v ∈ [V.non, .int (((i + 1 : Nat) : Int) - 1), .int (((i + 1 : Nat) : Int) - 1), .int (((i + 1 : Nat) : Int) - 1), .int d1, .int d2], ParOk (i + 1) v := by
        have a : ParOk (i + 1) (.int (((i + 1 : Nat) : Int) - 1)) := ⟨some i, by rw [e2]; rfl, fun m e => by cases e; omega⟩
        have b : ∀ d : Int, 0 ≤ d → d < ((i + 1 : Nat) : Int) → ParOk (i + 1) (.int d) := fun d h0 h1 => by
          obtain ⟨m, rfl⟩ := Int.eq_ofNat_of_zero_le h0
          exact ⟨some m, rfl, fun m' e => by cases e; omega⟩
        exact glCons ⟨none, rfl, fun m e => by cases e⟩ (glCons a (glCons a (glCons a (glCons (b d1 d10 d11) (glCons (b d2 d20 d21) glNil)))))
      generalize upd H3 l (.lst [.non, .int (((i + 1 : Nat) : Int) - 1), .int (((i + 1 : Nat) : Int) - 1), .int (((i + 1 : Nat) : Int) - 1), .int d1, .int d2]) = H4 at S4 hI4 hD4 hl4 k4 ⊢
      refine ⟨_, rfl, .inl ⟨rfl, _, .inl (.inl hD4)⟩, _, rfl, _, rfl, p, c, cells, 6, rfl, hI4, by decide, by decide, fun d3 c1 c2 c3 c4 d30 d31 c10 => ?_⟩
      have hI5 := handIn_upd (i := c1) (g := c2) (m := c3) (t := c4) hI4 c10
      have hD5 : (upd H4 p (handL c c1 c2 c3 c4)) D = some (.lst (ps.map vp)) := by rw [upd_ne nDp]; exact hD4
      have hl5 := (show upd H4 p (handL c c1 c2 c3 c4) l = H4 l from upd_ne nlp).trans hl4
      have k5 := kept_trans k4 (kept_hand (p := p) (o := handL c c1 c2 c3 c4))
      generalize upd H4 p (handL c c1 c2 c3 c4) = H5 at hI5 hD5 hl5 k5 ⊢
      obtain ⟨v, hv, hm⟩ := atMem (xs := [V.non, .int (((i + 1 : Nat) : Int) - 1), .int (((i + 1 : Nat) : Int) - 1), .int (((i + 1 : Nat) : Int) - 1), .int d1, .int d2]) d30 d31
      obtain ⟨q, rfl, hq⟩ := okAll v hm
      refine ⟨l, _, d3, _, rfl, rfl, .inl (.inl hl5), hv, D, _, _, rfl, rfl, hD5, small1000 (by rw [List.length_map]; omega), ?_⟩
      refine ⟨ps ++ [q], _, _, rfl, handIn_write hI nD hI5, kept_over nD (kept_trans k1 k5), ?_, by rw [List.length_append, hl]; rfl, psSnoc hp (fun m e => by rw [hl]; exact hq m e)⟩
      rw [upd_same, List.map_append]
      rfl
    · rintro σ H1 ⟨ps, t3, t4, rfl, hI1, k1, hD1, hl, hp⟩
      refine ⟨_, rfl, D, _, rfl, .inl ⟨.inl (.inl hD1), fun r nr => ?_⟩⟩
      exact k r ps _ hp (by omega) (handIn_keep hI1 (smUpd nr)) (kept_trans k1 (kept_same (smUpd nr))) upd_same
/-! a drawn lot -/
def spLawLot : Sp := fun vs H Q _ => ∃ (p c : Addr) (cells : List Int) (n sh : Nat), vs = [.ref p, vn n, vn sh] ∧ HandIn H p c cells ∧ n ≤ 61 ∧
  ∀ r ns H', ns.Pairwise (· < ·) → (∀ x ∈ ns, x < n) → HandIn H' p c cells → Kept p H H' → TN H' r ns → Q (.ref r) H'
def nLawLot : List Str := ["_law_hand_here", "_law_places", "_law_share", "_law_place"]
theorem scLawLot : FnScope nLawLot ["_law_hand_here", "_law_places", "_law_share"] (defScope sLawLot) := ⟨rfl, rfl, rfl, by decide +kernel, rfl, by decide +kernel, by decide +kernel⟩
theorem dLawLot (B : Defs K mg C) : Def P w K mg base "_law_lot" 2 ["_law_hand_here", "_law_places", "_law_share"] spLawLot := by
  obtain ⟨fD, fdD, GD, gD, kD, bD⟩ := dDraw (P := P) (w := w) (base := base) B
  have N := nOf B
  refine def_of B.lo fun f fd F => ?_
  refine F.ok scLawLot (fun vs H Q E h => ?_) (fun cdv A outer s H vs Q E hr h => ?_)
  · obtain ⟨p, c, cells, n, sh, rfl, _⟩ := h
    rfl
  · obtain ⟨p, c, cells, n, sh, rfl, hI, h60, k⟩ := h
    refine ⟨_, pss_one (ps_ret (pe_callTy call_tuple_of (by rfl) N.is.tup (by decide +kernel) (pa_cons (pe_lc (own := [("_law_place", 3)]) (g := gName 3) rfl scLawLot.nd (pi_range1 (by rfl) N.range (pa_cons (pv 1) pa_nil))
        (blkOk_by (N := nLawLot) (sc := defScope sLawLot) (by decide +kernel)) (fun _ _ _ _ _ => pg_name (i := 3) scLawLot.nd rfl (Or.inl rfl)) (fun _ _ _ _ _ => pts_one (pt_cmpR op_lt (pe_call GD hr (by rfl) gD kD bD .nil pass0 (pa_cons (pv 0) (pa_cons pe_int pa_nil))) (pv 2) (nomark _))) (fun _ _ _ _ _ => pv 3)) pa_nil))), ?_⟩
    refine ⟨_, rfl, (n : Int), rfl, by omega, by omega, fun D nD => ?_⟩
    rw [Int.toNat_natCast]
    have nDp := hand_ne hI nD
    refine lc_range (lo := 0) (n := n) (fun i H' => HandIn H' p c cells ∧ Kept p H H' ∧ ∃ ns : List Nat, H' D = some (.lst (ns.map vn)) ∧ ns.length ≤ i ∧ ns.Pairwise (· < ·) ∧ ∀ x ∈ ns, x < i) ⟨handIn_keep hI (smUpd nD), kept_same (smUpd nD), [], upd_same, Nat.zero_le _, .nil, fun x hx => by cases hx⟩ ?_ ?_
    · rintro i H1 hi ⟨hI1, k1, ns, hD, hl, hp, hx⟩
      refine ⟨rfl, _, rfl, p, c, cells, 6, rfl, hI1, by decide, by decide, fun d a1 a2 a3 a4 d0 d1 a10 => ?_⟩
      have hI2 := handIn_upd (i := a1) (g := a2) (m := a3) (t := a4) hI1 a10
      have k2 := kept_trans k1 (kept_hand (p := p) (o := handL c a1 a2 a3 a4))
      have hD2 : (upd H1 p (handL c a1 a2 a3 a4)) D = some (.lst (ns.map vn)) := by rw [upd_ne nDp]; exact hD
      generalize upd H1 p (handL c a1 a2 a3 a4) = H2 at hI2 k2 hD2 ⊢
      refine ⟨_, rfl, _, _, rfl, rfl, _, rfl, ?_⟩
      refine ite2 (fun _ => ?_) (fun _ => ⟨hI2, k2, ns, hD2, by omega, hp, fun x h => Nat.lt_succ_of_lt (hx x h)⟩)
      refine ⟨_, rfl, _, hD2, small1000 (by rw [List.length_map]; omega), handIn_write hI nD hI2, kept_over nD k2, ns ++ [i], ?_, by rw [List.length_append]; show ns.length + 1 ≤ i + 1; omega, ?_, fun x h => ?_⟩
      · rw [upd_same, List.map_append]
        show some (HO.lst (ns.map vn ++ [V.int (0 + (i : Int))])) = some (HO.lst (ns.map vn ++ [V.int (i : Int)]))
        rw [Int.zero_add]
      · rw [List.pairwise_append]
        exact ⟨hp, List.pairwise_singleton _ _, fun x h y hy => by rw [List.mem_singleton.mp hy]; exact hx x h⟩
      · rcases List.mem_append.mp h with h | h
        · exact Nat.lt_succ_of_lt (hx x h)
        · rw [List.mem_singleton.mp h]; exact Nat.lt_succ_self _
    · rintro H1 ⟨hI1, k1, ns, hD, hl, hp, hx⟩
      refine ⟨D, _, rfl, .inl ⟨.inl (.inl hD), fun r nr => ?_⟩⟩
      exact k r ns _ hp hx (handIn_keep hI1 (smUpd nr)) (kept_trans k1 (kept_same (smUpd nr))) upd_same
end
end Cn
namespace Cn
open PySem PySem.Spec PyProof.Rows L2 Ck
/-! drawn levels -/
def LvTo (ps : List (Option Nat)) (lv : List Nat) : Prop := ∀ (j l : Nat) (q : Option Nat), lv[j]? = some l → ps[j]? = some q → 1 ≤ l ∧ l ≤ mostLv lv q
theorem lvTo_le {ps : List (Option Nat)} {lv : List Nat} (hp : Ps ps) (hv : LvTo ps lv) (hl : lv.length ≤ ps.length) : ∀ i l, lv[i]? = some l → l ≤ i + 1 := by
  intro i
  induction i using Nat.strongRecOn with
  | ind i ih =>
    intro l hl2
    have hi : i < lv.length := (List.getElem?_eq_some_iff.mp hl2).1
    rcases opt_cases (ps := ps) (i := i) (by omega) with h | ⟨p, h⟩
    · have h2 := hv i l _ hl2 h
      have e : mostLv lv none = 1 := rfl
      omega
    · have h2 := hv i l _ hl2 h
      have e : mostLv lv (some p) = lv.getD p 0 + 1 := rfl
      have hpi := hp i p h
      have := ih p hpi _ (getD_at (Nat.lt_trans hpi hi))
      omega
theorem mostSnoc {lv : List Nat} {l : Nat} {q : Option Nat} (hq : ∀ m, q = some m → m < lv.length) : mostLv (lv ++ [l]) q = mostLv lv q := by
  cases q with
  | none => rfl
  | some m =>
    show (lv ++ [l]).getD m 0 + 1 = lv.getD m 0 + 1
    rw [List.getD_eq_getElem?_getD, List.getD_eq_getElem?_getD, List.getElem?_append_left (hq m rfl)]
theorem lvSnoc {ps : List (Option Nat)} {lv : List Nat} {l : Nat} {q : Option Nat} (hp : Ps ps) (hv : LvTo ps lv) (hq : ps[lv.length]? = some q) (h1 : 1 ≤ l) (h2 : l ≤ mostLv lv q) : LvTo ps (lv ++ [l]) := fun j m r hm hr => by
  by_cases c : j < lv.length
  · rw [List.getElem?_append_left c] at hm
    rw [mostSnoc fun x e => Nat.lt_trans (hp j x (by rw [hr, e])) c]
    exact hv j m r hm hr
  · rw [List.getElem?_append_right (by omega)] at hm
    have e : j = lv.length := by
      have := (List.getElem?_eq_some_iff.mp hm).1
      simp at this
      omega
    subst e
    rw [Nat.sub_self] at hm
    cases (Option.some.inj hm)
    rw [hq] at hr
    cases (Option.some.inj hr)
    rw [mostSnoc fun x e => hp lv.length x (by rw [hq, e])]
    exact ⟨h1, h2⟩
end Cn
namespace Cn
open PySem PySem.Spec PyProof.Rows L2 Ck
def TolR (H : Hp) (r : Addr) (f : Fo) : Prop := ∃ ap ab aa, H r = some (.tup [.ref ap, .ref ab, .ref aa]) ∧ TP H ap f.ps ∧ TN H ab f.be ∧ TN H aa f.as
theorem tolSame {H H' : Hp} {r : Addr} {f : Fo} (s : Same H H') (h : TolR H r f) : TolR H' r f := by
  obtain ⟨ap, ab, aa, h1, h2, h3, h4⟩ := h
  exact ⟨ap, ab, aa, s _ _ h1, s _ _ h2, s _ _ h3, s _ _ h4⟩
theorem tolKept {H H' : Hp} {p c r : Addr} {cells : List Int} {f : Fo} (hI : HandIn H p c cells) (k : Kept p H H') (h : TolR H r f) : TolR H' r f := by
  obtain ⟨ap, ab, aa, h1, h2, h3, h4⟩ := h
  exact ⟨ap, ab, aa, k _ _ (tup_ne hI h1) h1, k _ _ (tup_ne hI h2) h2, k _ _ (tup_ne hI h3) h3, k _ _ (tup_ne hI h4) h4⟩
end Cn
namespace Cn
open PySem PySem.Spec PyProof.Rows L2 Ck
section
variable {P : Program} {w : World} {K : PySem.W.Frag} {mg : Str → Option Value} {base : Heap} {C : Addr}
def spTold : Sp := fun vs H Q _ => ∃ (p c : Addr) (cells : List Int) (n : Nat), vs = [.ref p, vn n] ∧ HandIn H p c cells ∧ 1 ≤ n ∧ n ≤ 60 ∧
  ∀ r f H', FoOk f → f.ps.length ≤ n → HandIn H' p c cells → Kept p H H' → TolR H' r f → Q (.ref r) H'
def nTold : List Str := ["_law_hand_here", "_law_most", "_law_many", "_law_parents_here", "_law_shares"]
theorem scTold : FnScope nTold ["_law_hand_here", "_law_most"] (defScope sTold) := ⟨rfl, rfl, rfl, by decide +kernel, rfl, by decide +kernel, by decide +kernel⟩
def isSh (v : V) : Prop := ∃ s : Nat, v = vn s
theorem dTold (B : Defs K mg C) : Def P w K mg base "_law_told" 3 ["_law_hand_here", "_law_most"] spTold := by
  obtain ⟨fD, fdD, GD, gD, kD, bD⟩ := dDraw (P := P) (w := w) (base := base) B
  obtain ⟨fP, fdP, GP, gP, kP, bP⟩ := dParents (P := P) (w := w) (base := base) B
  obtain ⟨fL, fdL, GL, gL, kL, bL⟩ := dLawLot (P := P) (w := w) (base := base) B
  have N := nOf B
  refine def_of B.to fun f fd F => ?_
  refine F.ok scTold (fun vs H Q E h => ?_) (fun cdv A outer s H vs Q E hr h => ?_)
  · obtain ⟨p, c, cells, n, rfl, _⟩ := h
    rfl
  · obtain ⟨p, c, cells, n, rfl, hI, h1, h60, k⟩ := h
    have hr1 : Room 1 (A.deeper (envOfC "_law_told" (defScope sTold) s.heap.objs.size f cdv)) := Room.mono hr (by decide)
    refine ⟨_, pss_cons (ps_set (i := 2) scTold.nd rfl (Or.inl rfl) (pe_op op_add pe_int (pe_call GD hr1 (by rfl) gD kD bD .nil pass0 (pa_cons (pv 0) (pa_cons (pv 1) pa_nil)))))
      (pss_cons (ps_set (i := 3) scTold.nd rfl (Or.inl rfl) (pe_call GP hr (by rfl) gP kP bP .nil pass0 (pa_cons (pv 0) (pa_cons (pv 2) pa_nil))))
      (pss_cons (ps_set (i := 4) scTold.nd rfl (Or.inl rfl) (pe_tup (pa_cons (pe_ix ix_list (pe_lst (pa_cons pe_int (pa_cons pe_int (pa_cons pe_int (pa_cons pe_int pa_nil))))) (pe_call GD hr1 (by rfl) gD kD bD .nil pass0 (pa_cons (pv 0) (pa_cons pe_int pa_nil))) (fun _ _ => rfl))
        (pa_cons (pe_ix ix_list (pe_lst (pa_cons pe_int (pa_cons pe_int (pa_cons pe_int (pa_cons pe_int pa_nil))))) (pe_call GD hr1 (by rfl) gD kD bD .nil pass0 (pa_cons (pv 0) (pa_cons pe_int pa_nil))) (fun _ _ => rfl)) pa_nil))))
      (pss_one (ps_ret (pe_tup (pa_cons (pv 3) (pa_cons (pe_call GL hr (by rfl) gL kL bL .nil pass0 (pa_cons (pv 0) (pa_cons (pv 2) (pa_cons (pe_ix ix_tup (pv 4) pe_int (fun _ _ => rfl)) pa_nil))))
        (pa_cons (pe_call GL hr (by rfl) gL kL bL .nil pass0 (pa_cons (pv 0) (pa_cons (pv 2) (pa_cons (pe_ix ix_tup (pv 4) pe_int (fun _ _ => rfl)) pa_nil)))) pa_nil)))))))), ?_⟩
    refine ⟨_, rfl, _, rfl, p, c, cells, (n : Int), rfl, hI, by omega, by omega, fun d a1 a2 a3 a4 d0 d1 a10 => ?_⟩
    obtain ⟨m, rfl⟩ := Int.eq_ofNat_of_zero_le d0
    have hI1 := handIn_upd (i := a1) (g := a2) (m := a3) (t := a4) hI a10
    have k1 : Kept p H (upd H p (handL c a1 a2 a3 a4)) := kept_hand
    generalize upd H p (handL c a1 a2 a3 a4) = H1 at hI1 k1 ⊢
    have em : (1 : Int) + (m : Int) = ((m + 1 : Nat) : Int) := by omega
    have emV : V.int (1 + (m : Int)) = vn (m + 1) := congrArg V.int em
    refine ⟨_, _, rfl, rfl, _, rfl, _, rfl, p, c, cells, m + 1, congrArg (fun z => [V.ref p, z]) emV, hI1, by omega, by omega, fun r ps H2 hp hpl hI2 k2 hr2 => ?_⟩
    -- shares
    have share : ∀ {H : Hp}, HandIn H p c cells → ∀ (Q : VK), (∀ (s : Nat) H', HandIn H' p c cells → Kept p H H' → Q (vn s) H') →
        tOp (rIxL K) (tLst (tCons (tC (.int 6)) (tCons (tC (.int 6)) (tCons (tC (.int 4)) (tCons (tC (.int 3)) tNil))))) (tCall spDraw [] (fun _ _ _ => False) (tCons (tVar 0) (tCons (tC (.int 4)) tNil))) [some (.ref p), some (vn n), some (.int (1 + (m : Int))), some (.ref r), none] H Q := by
      intro H hI Q k
      refine ⟨by show 4 ≤ sizeLine; decide, fun l nl => ?_⟩
      have S := smUpd (o := .lst [.int 6, .int 6, .int 4, .int 3]) nl
      have nlp := hand_ne hI nl
      have hI' := handIn_keep hI S
      have hl : upd H l (.lst [.int 6, .int 6, .int 4, .int 3]) l = some (.lst [.int 6, .int 6, .int 4, .int 3]) := upd_same
      generalize upd H l (.lst [.int 6, .int 6, .int 4, .int 3]) = H' at S hI' hl ⊢
      refine ⟨_, rfl, p, c, cells, 4, rfl, hI', by decide, by decide, fun e b1 b2 b3 b4 e0 e1 b10 => ?_⟩
      obtain ⟨v, hv, hm⟩ := atMem (xs := [.int 6, .int 6, .int 4, .int 3]) e0 e1
      have hl2 : (upd H' p (handL c b1 b2 b3 b4)) l = some (.lst [.int 6, .int 6, .int 4, .int 3]) := by rw [upd_ne nlp]; exact hl
      have sv : ∃ s : Nat, v = vn s := by
        have : ∀ v ∈ [V.int 6, .int 6, .int 4, .int 3], ∃ s : Nat, v = vn s := glCons ⟨6, rfl⟩ (glCons ⟨6, rfl⟩ (glCons ⟨4, rfl⟩ (glCons ⟨3, rfl⟩ glNil)))
        exact this v hm
      obtain ⟨s, rfl⟩ := sv
      exact ⟨l, _, e, _, rfl, rfl, .inl (.inl hl2), hv, k s _ (handIn_upd hI' b10) (kept_trans (kept_same S) kept_hand)⟩
    refine share hI2 _ fun sh1 H3 hI3 k3 => ?_
    refine share hI3 _ fun sh2 H4 hI4 k4 => ?_
    refine ⟨by show 2 ≤ sizeLine; decide, fun t nt => ?_⟩
    have S5 := smUpd (o := .tup [vn sh1, vn sh2]) nt
    have ht5 : upd H4 t (.tup [vn sh1, vn sh2]) t = some (.tup [vn sh1, vn sh2]) := upd_same
    have hI5 := handIn_keep hI4 S5
    have k5 := kept_trans k4 (kept_same (p := p) S5)
    generalize upd H4 t (.tup [vn sh1, vn sh2]) = H5 at ht5 hI5 k5 ⊢
    have hp5 := kept_trans k3 k5 _ _ (tup_ne hI2 hr2) hr2
    refine ⟨_, rfl, _, rfl, _, rfl, _, rfl, t, _, (0 : Int), _, rfl, rfl, .inl (.inl ht5), rfl, p, c, cells, m + 1, sh1, congrArg (fun z => [V.ref p, z, vn sh1]) emV, hI5, by omega, fun q1 be H6 hb1 hb2 hI6 k6 hq1 => ?_⟩
    have ht6 := k6 _ _ (tup_ne hI5 ht5) ht5
    refine ⟨_, rfl, _, rfl, _, rfl, t, _, (1 : Int), _, rfl, rfl, .inl (.inl ht6), rfl, p, c, cells, m + 1, sh2, congrArg (fun z => [V.ref p, z, vn sh2]) emV, hI6, by omega, fun q2 as H7 ha1 ha2 hI7 k7 hq2 => ?_⟩
    refine ⟨by show 3 ≤ sizeLine; decide, fun u nu => ?_⟩
    have S8 := smUpd (o := .tup [.ref r, .ref q1, .ref q2]) nu
    have kk := kept_trans k6 (kept_trans k7 (kept_same (p := p) S8))
    have hp8 := kk _ _ (tup_ne hI5 hp5) hp5
    have hq8 := kept_trans k7 (kept_same (p := p) S8) _ _ (tup_ne hI6 hq1) hq1
    exact k u ⟨ps, be, as⟩ _ ⟨hp, by show 1 ≤ ps.length; omega, by show ps.length ≤ 60; omega, hb1, by rw [hpl]; exact hb2, ha1, by rw [hpl]; exact ha2⟩ (by show ps.length ≤ n; omega) (handIn_keep hI7 S8)
      (kept_trans k1 (kept_trans k2 (kept_trans k3 (kept_trans k5 kk)))) ⟨r, q1, q2, upd_same, hp8, hq8, S8 _ _ hq2⟩
/-! the forest made -/
def spMade (C : Addr) : Sp := fun vs H Q _ => ∃ (r : Addr) (f : Fo), vs = [.ref r] ∧ TolR H r f ∧ FoOk f ∧ ∀ a H', Same H H' → FoAt C H' a f → Q (.ref a) H'
theorem scMade : FnScope ["_law_told_here"] ["_law_told_here"] (defScope sMade) := ⟨rfl, rfl, rfl, by decide +kernel, rfl, by decide +kernel, by decide +kernel⟩
theorem dMade (B : Defs K mg C) : Def P w K mg base "_law_made" 6 ["_law_told_here"] (spMade C) := by
  obtain ⟨fN, fdN, FN, MN, bN⟩ := B.ini
  obtain ⟨tm, mM⟩ := B.mM
  obtain ⟨fI, fdI, DI⟩ := B.I
  obtain ⟨fL, fdL, DL⟩ := B.L
  obtain ⟨fB, fdB, DB⟩ := B.B
  obtain ⟨fO, fdO, DO⟩ := B.O
  have GN : FnOk P w K mg base CX0 4 fN fdN ["self", "parents", "bearing", "asking"] (spInit C) := ok_init FN B.N B.T mM DI DL DB DO
  refine def_of B.ma fun f fd F => ?_
  refine F.ok scMade (fun vs H Q E h => ?_) (fun cdv A outer s H vs Q E hr h => ?_)
  · obtain ⟨r, fo, rfl, _⟩ := h
    rfl
  · obtain ⟨r, fo, rfl, ⟨ap, ab, aa, h0, h1, h2, h3⟩, ok, k⟩ := h
    refine ⟨_, pss_one (ps_ret (pe_make MN GN hr (by rfl) B.T.mgC bN .nil pass0 (pa_cons (pe_ix ix_tup (pv 0) pe_int (fun _ _ => rfl)) (pa_cons (pe_ix ix_tup (pv 0) pe_int (fun _ _ => rfl)) (pa_cons (pe_ix ix_tup (pv 0) pe_int (fun _ _ => rfl)) pa_nil))))), ?_⟩
    refine ⟨_, rfl, r, _, (0 : Int), _, rfl, rfl, .inl (.inl h0), rfl, _, rfl, r, _, (1 : Int), _, rfl, rfl, .inl (.inl h0), rfl, _, rfl, r, _, (2 : Int), _, rfl, rfl, .inl (.inl h0), rfl, fun x dx nx ndx ne => ?_⟩
    have S1 := smUpd (o := .own x) ndx
    have nx1 : (upd H dx (.own x)) x = none := by rw [upd_ne (Ne.symm ne)]; exact nx
    have S2 := S1.trans (smUpd (o := .ins C dx []) nx1)
    refine ⟨x, dx, ap, ab, aa, fo, rfl, upd_same, S2 _ _ h1, S2 _ _ h2, S2 _ _ h3, ok, fun H' hF kp => ⟨rfl, k x H' (fun b o e => kp b o (fun z => by rw [z, nx] at e; cases e) (S2 _ _ e)) hF⟩⟩
end
end Cn
namespace Cn
open PySem PySem.Spec PyProof.Rows L2 Ck
/-! what is under a place -/
def dwn (ps : List (Option Nat)) (i n : Nat) : List Nat := (List.range n).filter fun j => decide (i ∈ road ps j)
theorem dwn_mem {ps : List (Option Nat)} {i n j : Nat} : j ∈ dwn ps i n ↔ j < n ∧ i ∈ road ps j := by
  unfold dwn
  rw [List.mem_filter, List.mem_range, decide_eq_true_iff]
theorem dwn_len {ps : List (Option Nat)} {i n : Nat} : (dwn ps i n).length ≤ n := by
  have := List.length_filter_le (fun j => decide (i ∈ road ps j)) (List.range n)
  rw [List.length_range] at this
  exact this
theorem dwn_succ {ps : List (Option Nat)} {i j : Nat} : dwn ps i (j + 1) = dwn ps i j ++ if i ∈ road ps j then [j] else [] := by
  unfold dwn
  rw [List.range_succ, List.filter_append]
  by_cases c : i ∈ road ps j
  · rw [if_pos c, List.filter_cons_of_pos (by simpa using c)]; rfl
  · rw [if_neg c, List.filter_cons_of_neg (by simpa using c)]; rfl
theorem dwn_before {ps : List (Option Nat)} {i : Nat} (hp : Ps ps) (hi : i < ps.length) : ∀ j, j ≤ i → dwn ps i j = [] := by
  intro j
  induction j with
  | zero => intro _; rfl
  | succ j ih =>
    intro h
    rw [dwn_succ, ih (by omega), if_neg (fun z => by have := road_le hp j (by omega) i z; omega)]
    rfl
theorem dwn_start {ps : List (Option Nat)} {i : Nat} (hp : Ps ps) (hi : i < ps.length) : dwn ps i (i + 1) = [i] := by
  rw [dwn_succ, dwn_before hp hi i (Nat.le_refl _), if_pos (road_self hp hi)]
  rfl
theorem dwn_step {ps : List (Option Nat)} {i j : Nat} {q : Option Nat} (hp : Ps ps) (hij : i < j) (hj : j < ps.length) (h : ps[j]? = some q) : (i ∈ road ps j) ↔ ∃ p, q = some p ∧ p ∈ dwn ps i j := by
  cases q with
  | none =>
    rw [road_none h]
    constructor
    · intro z; have := List.mem_singleton.mp z; omega
    · rintro ⟨p, z, _⟩; cases z
  | some p =>
    rw [road_some hp h, List.mem_append, List.mem_singleton]
    constructor
    · rintro (z | z)
      · exact ⟨p, rfl, dwn_mem.mpr ⟨hp j p h, z⟩⟩
      · omega
    · rintro ⟨p', z, m⟩
      cases z
      exact .inl (dwn_mem.mp m).2
theorem inV_vp {ns : List Nat} {q : Option Nat} : inV (vp q) (ns.map vn) = decide (∃ p, q = some p ∧ p ∈ ns) := by
  cases q with
  | some p =>
    show inV (vn p) (ns.map vn) = _
    rw [inV_vn]
    by_cases c : p ∈ ns
    · rw [decide_eq_true c, decide_eq_true ⟨p, rfl, c⟩]
    · rw [decide_eq_false c, decide_eq_false (fun ⟨p', z, m⟩ => by cases z; exact c m)]
  | none =>
    rw [decide_eq_false (fun ⟨p', z, m⟩ => by cases z)]
    induction ns with
    | nil => rfl
    | cons n ns ih => exact ih
theorem vp_flat (q : Option Nat) : flatV (vp q) = true := by cases q <;> rfl
/-! the pairs -/
def pairsOf (ps : List (Option Nat)) (be as : List Nat) : List (Nat × Nat) := be.flatMap fun i => (as.filter fun j => decide (i ∈ road ps j)).map (Prod.mk i)
def PairR (H : Hp) (v : V) (p : Nat × Nat) : Prop := ∃ t, v = .ref t ∧ H t = some (.tup [vn p.1, vn p.2])
def PairsR (H : Hp) (us : List V) (ps : List (Nat × Nat)) : Prop := Paired (PairR H) us ps
theorem pairSame {H H' : Hp} (s : Same H H') {v : V} {p : Nat × Nat} (h : PairR H v p) : PairR H' v p := by
  obtain ⟨t, e, h1⟩ := h
  exact ⟨t, e, s _ _ h1⟩
theorem pairsSame {H H' : Hp} (s : Same H H') {us : List V} {ps : List (Nat × Nat)} (h : PairsR H us ps) : PairsR H' us ps := Paired.mapP h fun _ _ z => pairSame s z
theorem pairsUpd {H' : Hp} {D : Addr} {o : HO} {xs us : List V} {ps : List (Nat × Nat)} (hD : H' D = some (.lst xs)) (h : PairsR H' us ps) : PairsR (upd H' D o) us ps := Paired.mapP h fun v p z => by
  obtain ⟨t, e, h1⟩ := z
  have q : t ≠ D := fun z => by rw [z, hD] at h1; cases h1
  exact ⟨t, e, by rw [upd_ne q]; exact h1⟩
theorem pairedSnoc {α β : Type} {F : α → β → Prop} : ∀ {xs : List α} {ys : List β} {x : α} {y : β}, Paired F xs ys → F x y → Paired F (xs ++ [x]) (ys ++ [y])
  | _, _, _, _, .nil, h => .cons h .nil
  | _, _, _, _, .cons a t, h => .cons a (pairedSnoc t h)
theorem pairedApp {α β : Type} {F : α → β → Prop} : ∀ {xs xs' : List α} {ys ys' : List β}, Paired F xs ys → Paired F xs' ys' → Paired F (xs ++ xs') (ys ++ ys')
  | _, _, _, _, .nil, h => h
  | _, _, _, _, .cons a t, h => .cons a (pairedApp t h)
theorem pairsOf_len {ps : List (Option Nat)} {as : List Nat} : ∀ {be : List Nat}, (pairsOf ps be as).length ≤ be.length * as.length
  | [] => Nat.zero_le _
  | i :: be => by
    have h := pairsOf_len (ps := ps) (as := as) (be := be)
    show (((as.filter fun j => decide (i ∈ road ps j)).map (Prod.mk i)) ++ pairsOf ps be as).length ≤ (be.length + 1) * as.length
    rw [List.length_append, List.length_map, Nat.add_mul, Nat.one_mul]
    have := List.length_filter_le (fun j => decide (i ∈ road ps j)) as
    omega
theorem pairsOf_snoc {ps : List (Option Nat)} {be as : List Nat} {i : Nat} : pairsOf ps (be ++ [i]) as = pairsOf ps be as ++ (as.filter fun j => decide (i ∈ road ps j)).map (Prod.mk i) := by
  unfold pairsOf
  rw [List.flatMap_append, List.flatMap_singleton]
theorem pairs3600 {f : Fo} (ok : FoOk f) : (pairsOf f.ps f.be f.as).length ≤ 3600 := by
  have h := pairsOf_len (ps := f.ps) (as := f.as) (be := f.be)
  have h1 := lotLen ok.be ok.bl
  have h2 := lotLen ok.as ok.al
  have h3 := ok.l1
  exact Nat.le_trans h (Nat.mul_le_mul (Nat.le_trans h1 h3) (Nat.le_trans h2 h3))
section
variable {P : Program} {w : World} {K : PySem.W.Frag} {mg : Str → Option Value} {base : Heap} {C : Addr}
def spUnder (C : Addr) : Sp := fun vs H Q _ => ∃ (a : Addr) (f : Fo) (i : Nat), vs = [.ref a, vn i] ∧ FoAt C H a f ∧ Ps f.ps ∧ f.ps.length ≤ 60 ∧ i < f.ps.length ∧ ∀ r H', Same H H' → TN H' r (dwn f.ps i f.ps.length) → Q (.ref r) H'
def nUnder : List Str := ["forest", "place", "found", "later"]
theorem scUnder : FnScope nUnder ["forest", "place"] (defScope sUnder) := ⟨rfl, rfl, rfl, by decide +kernel, rfl, by decide +kernel, by decide +kernel⟩
theorem okUnder (B : Defs K mg C) {f : Addr} {fd : FuncData} (F : Fun K "under" "under" sUnder f fd) : FnOk P w K mg base CX0 4 f fd ["forest", "place"] (spUnder C) := by
  obtain ⟨fB, fdB, GB, gB, kB, bB⟩ := dPlace (P := P) (w := w) (base := base) B
  have N := B.N
  have T := B.T
  refine F.ok scUnder (fun vs H Q E h => ?_) (fun cdv A outer s H vs Q E hr h => ?_)
  · obtain ⟨a, f, i, rfl, _⟩ := h
    rfl
  · obtain ⟨a, fo, i, rfl, hF, hp, hl, hi, k⟩ := h
    refine ⟨_, pss_cons (ps_if (pt_not (pt_val (pe_call GB hr (by rfl) gB kB bB .nil pass0 (pa_cons (pv 0) (pa_cons (pv 1) pa_nil))))) (pss_one ps_never) pss_nil)
      (pss_cons (ps_set (i := 2) scUnder.nd rfl (Or.inl rfl) (pe_lst (pa_cons (pv 1) pa_nil)))
      (pss_cons (ps_for PassesOwn.never rfl (pi_range2 (by rfl) N.range (pa_cons (pe_op op_add (pv 1) pe_int) (pa_cons (pe_callB call_len_seq (by rfl) N.is.len PySem.boot_len (pa_cons (pe_fld (pv 0) rfl) pa_nil)) pa_nil))) (pg_name (i := 3) scUnder.nd rfl (Or.inl rfl))
        (pss_one (ps_if (pt_cmpR op_in_seq (pe_ix ix_tup (pe_fld (pv 0) rfl) (pv 3) (fun _ _ => rfl)) (pv 2) (by rfl))
          (pss_one (ps_expr (pe_bm PySem.F.plainAttrs_list PySem.F.slot_list_append PySem.F.type_list_append mt_append (pv 2) (pa_cons (pv 3) pa_nil)))) pss_nil)))
      (pss_one (ps_ret (pe_callTy call_tuple_of (by rfl) N.is.tup (by decide +kernel) (pa_cons (pv 2) pa_nil)))))), ?_⟩
    refine ⟨_, rfl, _, rfl, a, fo, i, rfl, hF, hi, true, rfl, ?_⟩
    refine ifF (by decide) ?_
    obtain ⟨dx, ap, ab, aa, h0, h1, h2, h3⟩ := hF
    refine ⟨_, rfl, by show 1 ≤ sizeLine; decide, fun D nD => ?_⟩
    have S1 := smUpd (o := .lst [vn i]) nD
    refine ⟨_, rfl, _, _, rfl, rfl, _, rfl, a, C, dx, _, _, rfl, S1 _ _ h0, T.cl, T.nP, fP, ap, _, rfl, .inr (tpL (S1 _ _ h1)), ((i : Int) + 1), ((fo.ps.map vp).length : Int), rfl, ⟨by omega, by omega, by omega, by rw [List.length_map]; omega⟩, ?_⟩
    rw [List.length_map]
    refine for_range (lo := (i : Int) + 1) (n := ((fo.ps.length : Int) - ((i : Int) + 1)).toNat) (fun k σ H' => ∃ t3, σ = [some (.ref a), some (vn i), some (.ref D), t3] ∧ Same H H' ∧ H' D = some (.lst ((dwn fo.ps i (i + 1 + k)).map vn))) ⟨none, rfl, S1, by rw [Nat.add_zero, dwn_start hp hi]; exact upd_same⟩ ?_ ?_
    · rintro m σ H1 hm ⟨t3, rfl, sm, hD⟩
      have hj : i + 1 + m < fo.ps.length := by omega
      have ej : (i : Int) + 1 + (m : Int) = ((i + 1 + m : Nat) : Int) := by omega
      rw [ej]
      obtain ⟨q, hq⟩ := ps_at hj
      refine ⟨_, rfl, a, C, dx, _, _, rfl, sm _ _ h0, T.cl, T.nP, fP, _, rfl, ap, _, ((i + 1 + m : Nat) : Int), _, rfl, rfl, tpL (sm _ _ h1), vp_ix hq, _, rfl, D, _, rfl, .inl (.inl (.inl hD)), vp_flat q, vn_flat _, _, rfl, ?_⟩
      have st := dwn_step hp (by omega : i < i + 1 + m) hj hq
      have ed : dwn fo.ps i (i + 1 + (m + 1)) = dwn fo.ps i (i + 1 + m) ++ if i ∈ road fo.ps (i + 1 + m) then [i + 1 + m] else [] := dwn_succ
      by_cases c : i ∈ road fo.ps (i + 1 + m)
      · refine ifT (by show inV (vp q) _ = true; rw [inV_vp]; exact decide_eq_true (st.mp c)) ?_
        refine ⟨_, rfl, .inl ⟨rfl, _, .inl (.inl hD)⟩, _, rfl, D, _, _, rfl, rfl, hD, small1000 (by rw [List.length_map]; have := dwn_len (ps := fo.ps) (i := i) (n := i + 1 + m); omega), ?_⟩
        refine ⟨_, rfl, smOver nD sm, ?_⟩
        rw [upd_same, ed, if_pos c, List.map_append]
        rfl
      · refine ifF (by show ¬ inV (vp q) _ = true; rw [inV_vp]; simpa using fun p e m => c (st.mpr ⟨p, e, m⟩)) ?_
        refine ⟨_, rfl, sm, ?_⟩
        rw [ed, if_neg c, List.append_nil]
        exact hD
    · rintro σ H1 ⟨t3, rfl, sm, hD⟩
      have en : i + 1 + ((fo.ps.length : Int) - ((i : Int) + 1)).toNat = fo.ps.length := by omega
      rw [en] at hD
      refine ⟨_, rfl, D, _, rfl, .inl ⟨.inl (.inl hD), fun r nr => ?_⟩⟩
      exact k r _ (sm.trans (smUpd nr)) upd_same
theorem dUnder (B : Defs K mg C) : Def P w K mg base "under" 4 ["forest", "place"] (spUnder C) := def_of B.un fun f fd F => okUnder B F
end
end Cn
namespace Cn
open PySem PySem.Spec PyProof.Rows L2 Ck
/-! two tuples of numbers side by side -/
theorem small6063 {m : Nat} (h : m ≤ 6100) : m < sizeLine := Nat.lt_of_le_of_lt h (by decide)
/-- budgets of so many places -/
def BuAt (H : Hp) (b : Addr) (T R : List Nat) : Prop := ∃ t r, H b = some (.tup [.ref t, .ref r]) ∧ TN H t T ∧ TN H r R
theorem buSame {H H' : Hp} {b : Addr} {T R : List Nat} (s : Same H H') (h : BuAt H b T R) : BuAt H' b T R := by
  obtain ⟨t, r, h1, h2, h3⟩ := h
  exact ⟨t, r, s _ _ h1, s _ _ h2, s _ _ h3⟩
/-- own look: at no place greater -/
def leB (n : Nat) (X Y : List Nat) : Bool := ((List.range n).map fun j => decide (X.getD j 0 ≤ Y.getD j 0)).all id
theorem leB_iff {n : Nat} {X Y : List Nat} : leB n X Y = true ↔ ∀ j, j < n → X.getD j 0 ≤ Y.getD j 0 := by
  unfold leB
  rw [List.all_eq_true]
  constructor
  · intro h j hj
    exact of_decide_eq_true (h _ (List.mem_map.mpr ⟨j, List.mem_range.mpr hj, rfl⟩))
  · intro h x hx
    obtain ⟨j, hj, rfl⟩ := List.mem_map.mp hx
    exact decide_eq_true (h j (List.mem_range.mp hj))
theorem pairedUnsnoc {α β : Type} {F : α → β → Prop} {y : β} : ∀ {us : List α} {ws : List β}, Paired F us (ws ++ [y]) → ∃ us' x, us = us' ++ [x] ∧ Paired F us' ws ∧ F x y
  | _, [], .cons a .nil => ⟨[], _, rfl, .nil, a⟩
  | _, z :: ws, .cons a t => by
    obtain ⟨us', x, rfl, h1, h2⟩ := pairedUnsnoc t
    exact ⟨_ :: us', x, rfl, .cons a h1, h2⟩
theorem lastG {us : List V} {v : V} : (us ++ [v])[(us ++ [v]).length - 1]? = some v := by
  rw [List.length_append]
  show (us ++ [v])[us.length + 1 - 1]? = some v
  rw [Nat.add_sub_cancel, List.getElem?_append_right (Nat.le_refl _), Nat.sub_self]
  rfl
end Cn
namespace Cn
open PySem PySem.Spec PyProof.Rows L2 Ck
section
variable {P : Program} {w : World} {K : PySem.W.Frag} {mg : Str → Option Value} {base : Heap} {C : Addr}
def spLawFlag : Sp := fun vs H Q _ => ∃ b : Bool, vs = [.bl b, .bl b] ∧ Q (.bl true) H
theorem scFlag : FnScope ["_law_told_here", "_law_due_here"] ["_law_told_here", "_law_due_here"] (defScope sFlag) := ⟨rfl, rfl, rfl, by decide +kernel, rfl, by decide +kernel, by decide +kernel⟩
theorem dFlag (B : Defs K mg C) : Def P w K mg base "_law_flag" 1 ["_law_told_here", "_law_due_here"] spLawFlag := by
  have N := B.N
  refine def_of B.fg fun f fd F => ?_
  refine F.ok scFlag (fun vs H Q E h => ?_) (fun cdv A outer s H vs Q E hr h => ?_)
  · obtain ⟨b, rfl, _⟩ := h
    rfl
  · obtain ⟨b, rfl, k⟩ := h
    refine ⟨_, pss_one (ps_ret (pe_and (pe_callB call_isi (by rfl) N.is.inst (by decide +kernel) (pa_cons (pv 0) (pa_cons (pe_bltn (v := .ty "bool") (by rfl) N.is.bool (by decide +kernel) rfl) pa_nil))) (pe_one (pe_cmpR op_eq (pv 0) (pv 1) (nomark _))))), ?_⟩
    refine ⟨_, rfl, _, .ty "bool", _, _, true, rfl, .ty _, .base (.bl b), kit_ty (by decide +kernel), true, rfl, ?_⟩
    refine ifT rfl ?_
    refine ⟨_, rfl, _, rfl, rfl, ?_⟩
    show Q (.bl (decide (V.bl b = V.bl b))) H
    rw [decide_eq_true rfl]
    exact k
end
end Cn
namespace Cn
open PySem PySem.Spec PyProof.Rows L2 Ck
/-! things of any kind -/
def OddI (H : Hp) (x : V) : Prop := x = .non ∨ (∃ s, x = .str s) ∨ ∃ a, x = .ref a ∧ ((∃ xs, H a = some (.lst xs)) ∨ (∃ xs, H a = some (.tup xs)) ∨ ∃ kvs, H a = some (.dK kvs))
def El (H : Hp) (x : V) : Prop := (∃ i, x = .int i) ∨ (∃ b, x = .bl b) ∨ OddI H x
def elI : V → Bool
  | .int _ => true
  | .bl _ => true
  | _ => false
def elB : V → Bool
  | .bl _ => true
  | _ => false
/-- an integer that is no flag -/
def elN : V → Bool
  | .int _ => true
  | _ => false
def elBtw (a b : Int) : V → Bool
  | .int n => decide (a ≤ n ∧ n ≤ b)
  | _ => false
theorem El.same {H H' : Hp} {x : V} (s : Same H H') (h : El H x) : El H' x := by
  rcases h with h | h | h | h | ⟨a, e, h⟩
  · exact .inl h
  · exact .inr (.inl h)
  · exact .inr (.inr (.inl h))
  · exact .inr (.inr (.inr (.inl h)))
  · exact .inr (.inr (.inr (.inr ⟨a, e, h.imp (fun ⟨xs, q⟩ => ⟨xs, s _ _ q⟩) (fun h => h.imp (fun ⟨xs, q⟩ => ⟨xs, s _ _ q⟩) (fun ⟨xs, q⟩ => ⟨xs, s _ _ q⟩))⟩)))
theorem El.ty {K : PySem.W.Frag} {H : Hp} {x : V} (h : El H x) : ∃ t, TyX K H x (.type t) ∧ PySem.W.kitOne K (.type t) (.type "int") = some (elI x) ∧ PySem.W.kitOne K (.type t) (.type "bool") = some (elB x) := by
  rcases h with ⟨i, rfl⟩ | ⟨b, rfl⟩ | rfl | ⟨s, rfl⟩ | ⟨a, rfl, ⟨xs, h⟩ | ⟨xs, h⟩ | ⟨kvs, h⟩⟩
  · exact ⟨_, .base (.int i), kit_ty (show kitB "int" "int" = some true by decide +kernel), kit_ty (show kitB "int" "bool" = some false by decide +kernel)⟩
  · exact ⟨_, .base (.bl b), kit_ty (show kitB "bool" "int" = some true by decide +kernel), kit_ty (show kitB "bool" "bool" = some true by decide +kernel)⟩
  · exact ⟨_, .base .non, kit_ty (show kitB "NoneType" "int" = some false by decide +kernel), kit_ty (show kitB "NoneType" "bool" = some false by decide +kernel)⟩
  · exact ⟨_, .base (.str s), kit_ty (show kitB "str" "int" = some false by decide +kernel), kit_ty (show kitB "str" "bool" = some false by decide +kernel)⟩
  · exact ⟨_, .base (.lst h), kit_ty (show kitB "list" "int" = some false by decide +kernel), kit_ty (show kitB "list" "bool" = some false by decide +kernel)⟩
  · exact ⟨_, .base (.tup h), kit_ty (show kitB "tuple" "int" = some false by decide +kernel), kit_ty (show kitB "tuple" "bool" = some false by decide +kernel)⟩
  · exact ⟨_, .base (.dK h), kit_ty (show kitB "dict" "int" = some false by decide +kernel), kit_ty (show kitB "dict" "bool" = some false by decide +kernel)⟩
/-- a tuple of things, or no tuple -/
def TupT (H : Hp) (v : V) : Prop := ∃ a xs, v = .ref a ∧ H a = some (.tup xs) ∧ ∀ x ∈ xs, El H x
def NoTup (H : Hp) (v : V) : Prop := (∃ i, v = .int i) ∨ (∃ b, v = .bl b) ∨ v = .non ∨ (∃ s, v = .str s) ∨ ∃ a, v = .ref a ∧ ((∃ xs, H a = some (.lst xs)) ∨ ∃ kvs, H a = some (.dK kvs))
def Th (H : Hp) (v : V) : Prop := TupT H v ∨ NoTup H v
theorem Th.el {H : Hp} {v : V} (h : Th H v) : El H v := by
  rcases h with ⟨a, xs, e, h, _⟩ | h | h | h | h | ⟨a, e, h | h⟩
  · exact .inr (.inr (.inr (.inr ⟨a, e, .inr (.inl ⟨xs, h⟩)⟩)))
  · exact .inl h
  · exact .inr (.inl h)
  · exact .inr (.inr (.inl h))
  · exact .inr (.inr (.inr (.inl h)))
  · exact .inr (.inr (.inr (.inr ⟨a, e, .inl h⟩)))
  · exact .inr (.inr (.inr (.inr ⟨a, e, .inr (.inr h)⟩)))
theorem Th.same {H H' : Hp} {v : V} (s : Same H H') (h : Th H v) : Th H' v := by
  rcases h with ⟨a, xs, e, h, k⟩ | h | h | h | h | ⟨a, e, ⟨xs, h⟩ | ⟨kvs, h⟩⟩
  · exact .inl ⟨a, xs, e, s _ _ h, fun x hx => (k x hx).same s⟩
  · exact .inr (.inl h)
  · exact .inr (.inr (.inl h))
  · exact .inr (.inr (.inr (.inl h)))
  · exact .inr (.inr (.inr (.inr (.inl h))))
  · exact .inr (.inr (.inr (.inr (.inr ⟨a, e, .inl ⟨xs, s _ _ h⟩⟩))))
  · exact .inr (.inr (.inr (.inr (.inr ⟨a, e, .inr ⟨kvs, s _ _ h⟩⟩))))
theorem NoTup.ty {K : PySem.W.Frag} {H : Hp} {v : V} (h : NoTup H v) : ∃ t, TyX K H v (.type t) ∧ PySem.W.kitOne K (.type t) (.type "tuple") = some false := by
  rcases h with ⟨i, rfl⟩ | ⟨b, rfl⟩ | rfl | ⟨s, rfl⟩ | ⟨a, rfl, ⟨xs, h⟩ | ⟨kvs, h⟩⟩
  · exact ⟨_, .base (.int i), kit_ty (by decide +kernel)⟩
  · exact ⟨_, .base (.bl b), kit_ty (by decide +kernel)⟩
  · exact ⟨_, .base .non, kit_ty (by decide +kernel)⟩
  · exact ⟨_, .base (.str s), kit_ty (by decide +kernel)⟩
  · exact ⟨_, .base (.lst h), kit_ty (by decide +kernel)⟩
  · exact ⟨_, .base (.dK h), kit_ty (by decide +kernel)⟩
theorem tupTyV {K : PySem.W.Frag} {H : Hp} {a : Addr} {xs : List V} (h : H a = some (.tup xs)) : TyX K H (.ref a) (.type "tuple") := .base (.tup h)
/-- a plan -/
def IsPl (H : Hp) (ps : List (Option Nat)) (v : V) : Prop := ∃ a lv, v = .ref a ∧ TN H a lv ∧ Lv ps lv
/-- as far as the first levels are right -/
structure PlTo (ps : List (Option Nat)) (xs : List V) (i : Nat) (lv : List Nat) : Prop where
  len : lv.length = i
  eq : xs.take i = lv.map vn
  ok : ∀ (j l : Nat) (q : Option Nat), lv[j]? = some l → ps[j]? = some q → 1 ≤ l ∧ l ≤ mostLv lv q
theorem mostPre {lv : List Nat} {l : Nat} {q : Option Nat} (h : ∀ p, q = some p → p < lv.length) : mostLv (lv ++ [l]) q = mostLv lv q := by
  cases q with
  | none => rfl
  | some p =>
    show (lv ++ [l]).getD p 0 + 1 = lv.getD p 0 + 1
    have := h p rfl
    rw [List.getD_eq_getElem?_getD, List.getD_eq_getElem?_getD, List.getElem?_append_left this]
theorem plStep {ps : List (Option Nat)} {xs : List V} {i l : Nat} {q : Option Nat} {lv : List Nat} (hp : Ps ps) (h : PlTo ps xs i lv) (hx : xs[i]? = some (vn l)) (hq : ps[i]? = some q) (h1 : 1 ≤ l) (h2 : l ≤ mostLv lv q) : PlTo ps xs (i + 1) (lv ++ [l]) := by
  have kids : ∀ {j : Nat} {q' : Option Nat}, ps[j]? = some q' → j ≤ i → ∀ p, q' = some p → p < lv.length := fun hj hji p e => by
    subst e
    have := hp _ p hj
    rw [h.len]; omega
  refine ⟨by rw [List.length_append, h.len]; rfl, by rw [List.take_add_one, hx, h.eq, List.map_append]; rfl, fun j l' q' hj hq' => ?_⟩
  rcases Nat.lt_or_ge j lv.length with d | d
  · rw [List.getElem?_append_left d] at hj
    rw [mostPre (kids hq' (by rw [h.len] at d; omega))]
    exact h.ok j l' q' hj hq'
  · rw [List.getElem?_append_right d] at hj
    have e0 : j - lv.length = 0 := by
      cases hh : j - lv.length with
      | zero => rfl
      | succ n => rw [hh, List.getElem?_cons_succ, List.getElem?_nil] at hj; cases hj
    rw [e0] at hj
    cases hj
    have ej : j = i := by rw [h.len] at d e0; omega
    subst ej
    rw [hq] at hq'
    cases hq'
    rw [mostPre (kids hq (Nat.le_refl _))]
    exact ⟨h1, h2⟩
theorem plEnd {ps : List (Option Nat)} {xs : List V} {lv : List Nat} (h : PlTo ps xs ps.length lv) (hl : xs.length = ps.length) : xs = lv.map vn ∧ Lv ps lv := by
  refine ⟨?_, h.len, fun i l q hi hq => h.ok i l q hi hq⟩
  rw [← h.eq, List.take_of_length_le (by omega)]
theorem plNot {H : Hp} {ps : List (Option Nat)} {xs : List V} {i : Nat} {q : Option Nat} {lv : List Nat} {a : Addr} {x : V} (hp : Ps ps) (h : PlTo ps xs i lv) (ha : H a = some (.tup xs)) (hx : xs[i]? = some x) (hq : ps[i]? = some q) (hb : elBtw 1 ((mostLv lv q : Nat) : Int) x = false) : ¬ IsPl H ps (.ref a) := by
  rintro ⟨b, lv', e, hb', hv⟩
  cases e
  have hb' : H a = _ := hb'
  rw [ha] at hb'
  have e2 : xs = lv'.map vn := by injection hb' with z; injection z
  subst e2
  obtain ⟨l, hl, rfl⟩ := vn_get hx
  obtain ⟨c1, c2⟩ := hv.2 i l q hl hq
  have et : lv'.take i = lv := by
    have := h.eq
    rw [← List.map_take] at this
    exact (List.map_inj_right (fun x y q => by injection q with q; omega)).mp this
  have em : mostLv lv q = mostLv lv' q := by
    cases q with
    | none => rfl
    | some p =>
      show lv.getD p 0 + 1 = lv'.getD p 0 + 1
      have hpi := hp i p hq
      rw [← et, List.getD_eq_getElem?_getD, List.getD_eq_getElem?_getD, List.getElem?_take, if_pos hpi]
  rw [em] at hb
  have hb : decide ((1 : Int) ≤ ((l : Nat) : Int) ∧ ((l : Nat) : Int) ≤ ((mostLv lv' q : Nat) : Int)) = false := hb
  have := of_decide_eq_false hb
  omega
theorem plNotLen {H : Hp} {ps : List (Option Nat)} {xs : List V} {a : Addr} (ha : H a = some (.tup xs)) (hl : xs.length ≠ ps.length) : ¬ IsPl H ps (.ref a) := by
  rintro ⟨b, lv, e, hb, hv⟩
  cases e
  have hb : H a = _ := hb
  rw [ha] at hb
  have e2 : xs = lv.map vn := by injection hb with z; injection z
  exact hl (by rw [e2, List.length_map]; exact hv.1)
theorem plNotTup {H : Hp} {ps : List (Option Nat)} {v : V} (h : NoTup H v) : ¬ IsPl H ps v := by
  rintro ⟨b, lv, rfl, hb, hv⟩
  have hb : H b = _ := hb
  rcases h with ⟨i, e⟩ | ⟨b', e⟩ | e | ⟨s, e⟩ | ⟨a, e, ⟨xs, h⟩ | ⟨kvs, h⟩⟩
  all_goals cases e
  · rw [hb] at h; cases h
  · rw [hb] at h; cases h
theorem IsPl.same {H H' : Hp} {ps : List (Option Nat)} {v : V} (s : Same H H') (h : IsPl H ps v) : IsPl H' ps v := by
  obtain ⟨a, lv, e, ht, hv⟩ := h
  exact ⟨a, lv, e, s _ _ ht, hv⟩
section
variable {P : Program} {w : World} {K : PySem.W.Frag} {mg : Str → Option Value} {base : Heap} {C : Addr}
def spIsIntX : Sp := fun vs H Q _ => ∃ x : V, vs = [x] ∧ El H x ∧ Q (.bl (elN x)) H
theorem dIntX (B : Defs K mg C) : Def P w K mg base "is_integer" 1 ["thing"] spIsIntX := by
  have N := B.N
  refine def_of B.I fun f fd F => ?_
  refine F.ok scIsInt (fun vs H Q E h => ?_) (fun cdv A outer s H vs Q E hr h => ?_)
  · obtain ⟨x, rfl, _⟩ := h
    rfl
  · obtain ⟨x, rfl, hx, k⟩ := h
    refine ⟨_, pss_one (ps_ret (pe_and (pe_callB call_isi (by rfl) N.is.inst (by decide +kernel) (pa_cons (pv 0) (pa_cons (pe_bltn (v := .ty "int") (by rfl) N.int (by decide +kernel) rfl) pa_nil))) (pe_one (pe_not (pe_callB call_isi (by rfl) N.is.inst (by decide +kernel) (pa_cons (pv 0) (pa_cons (pe_bltn (v := .ty "bool") (by rfl) N.is.bool (by decide +kernel) rfl) pa_nil))))))), ?_⟩
    obtain ⟨t, ty, k1, k2⟩ := hx.ty (K := K)
    refine ⟨_, rfl, _, .ty "int", _, _, elI x, rfl, .ty _, ty, k1, elI x, rfl, ?_⟩
    rcases hx with ⟨i, rfl⟩ | ⟨b, rfl⟩ | hx
    · refine ifT rfl ?_
      exact ⟨_, rfl, _, .ty "bool", _, _, _, rfl, .ty _, ty, k2, _, rfl, k⟩
    · refine ifT rfl ?_
      exact ⟨_, rfl, _, .ty "bool", _, _, _, rfl, .ty _, ty, k2, _, rfl, k⟩
    · have e1 : elI x = false := by
        rcases hx with rfl | ⟨s, rfl⟩ | ⟨a, rfl, _⟩ <;> rfl
      have e2 : elN x = false := by
        rcases hx with rfl | ⟨s, rfl⟩ | ⟨a, rfl, _⟩ <;> rfl
      rw [e1]
      rw [e2] at k
      exact ifF (by decide) k
def spIsBtwX : Sp := fun vs H Q _ => ∃ (x : V) (a b : Int), vs = [x, .int a, .int b] ∧ El H x ∧ Q (.bl (elBtw a b x)) H
theorem dBtwX (B : Defs K mg C) : Def P w K mg base "is_between" 2 ["thing", "least", "most"] spIsBtwX := by
  obtain ⟨fI, fdI, GI, gI, kI, bI⟩ := dIntX (P := P) (w := w) (base := base) B
  refine def_of B.B fun f fd F => ?_
  refine F.ok scIsBtw (fun vs H Q E h => ?_) (fun cdv A outer s H vs Q E hr h => ?_)
  · obtain ⟨n, a, b, rfl, _⟩ := h
    rfl
  · obtain ⟨x, a, b, rfl, hx, k⟩ := h
    refine ⟨_, pss_one (ps_ret (pe_and (pe_call GI hr (by rfl) gI kI bI .nil pass0 (pa_cons (pv 0) pa_nil)) (pe_one (pe_chain op_le op_le (pv 1) (pv 0) (pv 2))))), ?_⟩
    refine ⟨_, rfl, x, rfl, hx, elN x, rfl, ?_⟩
    cases x with
    | int n =>
      refine ifT rfl ?_
      refine ⟨_, rfl, _, rfl, _, _, rfl, rfl, _, rfl, ?_⟩
      by_cases h1 : a ≤ n
      · refine ifT (decide_eq_true h1) ?_
        refine ⟨_, rfl, _, _, rfl, rfl, ?_⟩
        rw [show elBtw a b (.int n) = decide (n ≤ b) from by show decide (a ≤ n ∧ n ≤ b) = _; simp [h1]] at k
        exact k
      · refine ifF (by rw [decide_eq_false h1]; exact Bool.false_ne_true) ?_
        rw [show elBtw a b (.int n) = false from by show decide (a ≤ n ∧ n ≤ b) = _; simp [h1]] at k
        exact k
    | _ => exact ifF (fun z => Bool.noConfusion z) k
end
end Cn
namespace Cn
open PySem PySem.Spec PyProof.Rows L2 Ck
/-! is_lot of things of any kind -/
def LotI (H : Hp) (v : V) : Prop := ∃ (a : Addr) (zs : List Int), v = .ref a ∧ H a = some (.tup (zs.map V.int)) ∧ zs.Pairwise (· < ·)
theorem LotI.same {H H' : Hp} {v : V} (s : Same H H') (h : LotI H v) : LotI H' v := by
  obtain ⟨a, zs, e, h, p⟩ := h
  exact ⟨a, zs, e, s _ _ h, p⟩
theorem elNs : ∀ {xs : List V}, (∀ x ∈ xs, elN x = true) → ∃ zs : List Int, xs = zs.map V.int
  | [], _ => ⟨[], rfl⟩
  | x :: xs, h => by
    obtain ⟨zs, e⟩ := elNs (xs := xs) fun y hy => h y (List.mem_cons_of_mem _ hy)
    have hx := h x List.mem_cons_self
    cases x with
    | int i => exact ⟨i :: zs, by rw [e]; rfl⟩
    | _ => cases hx
theorem adjPw : ∀ {zs : List Int}, (∀ (j : Nat) (x y : Int), zs[j]? = some x → zs[j + 1]? = some y → x < y) → zs.Pairwise (· < ·)
  | [], _ => .nil
  | [a], _ => List.pairwise_singleton ..
  | a :: b :: t, h => by
    have ih := adjPw (zs := b :: t) (fun j x y h1 h2 => h (j + 1) x y (by rw [List.getElem?_cons_succ]; exact h1) (by rw [List.getElem?_cons_succ]; exact h2))
    have ab := h 0 a b rfl rfl
    refine List.pairwise_cons.mpr ⟨fun c hc => ?_, ih⟩
    rcases List.mem_cons.mp hc with rfl | hc
    · exact ab
    · have := (List.pairwise_cons.mp ih).1 c hc
      omega
theorem mapIntInj {zs ys : List Int} (h : zs.map V.int = ys.map V.int) : zs = ys := (List.map_inj_right (fun x y q => by injection q)).mp h
theorem int_get {zs : List Int} {i : Nat} {v : V} (h : (zs.map V.int)[i]? = some v) : ∃ z, zs[i]? = some z ∧ v = .int z := by
  rw [List.getElem?_map] at h
  obtain ⟨z, h1, h2⟩ := Option.map_eq_some_iff.mp h
  exact ⟨z, h1, h2.symm⟩
section
variable {P : Program} {w : World} {K : PySem.W.Frag} {mg : Str → Option Value} {base : Heap} {C : Addr}
def spIsLotX : Sp := fun vs H Q _ => ∃ v : V, vs = [v] ∧ Th H v ∧ ∀ H', Same H H' → (LotI H v → Q (.bl true) H') ∧ (¬ LotI H v → Q (.bl false) H')
theorem dLotX (B : Defs K mg C) : Def P w K mg base "is_lot" 2 ["thing"] spIsLotX := by
  obtain ⟨fI, fdI, GI, gI, kI, bI⟩ := dIntX (P := P) (w := w) (base := base) B
  have N := B.N
  refine def_of B.L fun f fd F => ?_
  refine F.ok scIsLot (fun vs H Q E h => ?_) (fun cdv A outer s H vs Q E hr h => ?_)
  · obtain ⟨v, rfl, _⟩ := h
    rfl
  · obtain ⟨v, rfl, hv, k⟩ := h
    refine ⟨_, pss_cons (ps_if (pt_not (pt_val (pe_callB call_isi (by rfl) N.is.inst (by decide +kernel) (pa_cons (pv 0) (pa_cons (pe_bltn (v := .ty "tuple") (by rfl) N.is.tup (by decide +kernel) rfl) pa_nil))))) (pss_one (ps_ret pe_bl)) pss_nil)
      (pss_cons (ps_for PassesOwn.never rfl (pi_tup (pv 0)) (pg_name (i := 1) scIsLot.nd rfl (Or.inl rfl)) (pss_one (ps_if (pt_not (pt_val (pe_call GI hr (by rfl) gI kI bI .nil pass0 (pa_cons (pv 1) pa_nil)))) (pss_one (ps_ret pe_bl)) pss_nil)))
      (pss_cons (ps_for PassesOwn.never rfl (RZ.pi_zipA (by rfl) N.is.zip (pa_cons (pv 0) (pa_cons (pe_slice sl_tupA (pv 0) (po_some pe_int) po_none) pa_nil))) (pg_tup rfl (pgs_cons (pg_name (i := 2) scIsLot.nd rfl (Or.inl rfl)) (pgs_cons (pg_name (i := 3) scIsLot.nd rfl (Or.inl rfl)) pgs_nil)))
        (pss_one (ps_if (pt_cmpR op_ge (pv 2) (pv 3) (nomark _)) (pss_one (ps_ret pe_bl)) pss_nil)))
      (pss_one (ps_ret pe_bl)))), ?_⟩
    rcases hv with ⟨a, xs, rfl, ha, hx⟩ | hv
    rotate_left
    · obtain ⟨t, ty, k1⟩ := hv.ty (K := K)
      refine ⟨_, rfl, _, .ty "tuple", _, _, false, rfl, .ty _, ty, k1, false, rfl, ?_⟩
      refine ifT (by decide) ?_
      refine (k _ (Same.refl _)).2 ?_
      rintro ⟨b, zs, rfl, hb, _⟩
      rcases hv with ⟨i, e⟩ | ⟨b', e⟩ | e | ⟨s, e⟩ | ⟨a, e, ⟨xs, h⟩ | ⟨kvs, h⟩⟩
      all_goals cases e
      · rw [hb] at h; cases h
      · rw [hb] at h; cases h
    refine ⟨_, rfl, _, .ty "tuple", _, _, true, rfl, .ty _, tupTyV ha, kit_ty (by decide +kernel), true, rfl, ?_⟩
    refine ifF (by decide) ?_
    refine ⟨_, rfl, a, rfl, ⟨_, .inl (.inl ha)⟩, ?_⟩
    refine for_it (walk_tup (xs := xs)) (fun m σ H' => H' = H ∧ (∀ x ∈ xs.take m, elN x = true) ∧ ∃ t1, σ = [some (.ref a), t1, none, none]) ⟨rfl, fun x hx => (by cases hx), _, rfl⟩ (fun i σ H' _ z => by rw [z.1]; exact .inl (.inl ha)) ?_ ?_
    · rintro i x σ H' H2 hi ⟨rfl, hto, t1, rfl⟩ ⟨rfl, hxi⟩
      refine ⟨_, rfl, x, rfl, hx _ (List.mem_of_getElem? hxi), elN x, rfl, ?_⟩
      cases hc : elN x with
      | true =>
        refine ifF (by decide) ⟨rfl, fun y hy => ?_, _, rfl⟩
        rw [List.take_add_one, hxi] at hy
        rcases List.mem_append.mp hy with hy | hy
        · exact hto y hy
        · rw [List.mem_singleton.mp hy]; exact hc
      | false =>
        refine ifT (by decide) ((k _ (Same.refl _)).2 ?_)
        rintro ⟨b, zs, e, hb, _⟩
        cases e
        rw [ha] at hb
        have e2 : xs = zs.map V.int := by injection hb with z; injection z
        rw [e2] at hxi
        obtain ⟨z, _, rfl⟩ := int_get hxi
        cases hc
    · rintro σ H' ⟨rfl, hto, t1, rfl⟩
      rw [List.take_length] at hto
      obtain ⟨zs, rfl⟩ := elNs hto
      refine ⟨_, rfl, _, rfl, 1, rfl, ?_⟩
      refine slN ha fun b H1 s1 hb => ?_
      rw [show (some (1 : Int)) = some ((1 : Nat) : Int) from rfl, cutDrop] at hb
      have ha1 := s1 _ _ ha
      refine ⟨a, b, zs.map V.int, (zs.map V.int).drop 1, rfl, .inr ⟨.inl (.inl ha1), .inl (.inl hb), ?_⟩⟩
      refine for_it (walk_zipT (xs := zs.map V.int) (ys := (zs.map V.int).drop 1) rfl) (fun m σ H' => Same H1 H' ∧ (∀ (j : Nat) (x y : Int), j < m → zs[j]? = some x → zs[j + 1]? = some y → x < y) ∧ ∃ t1 t2 t3, σ = [some (.ref a), t1, t2, t3]) ⟨Same.refl _, fun j x y hj => (by omega), _, _, _, rfl⟩ (fun i σ H' _ z => ⟨.inl (.inl (z.1 _ _ ha1)), .inl (.inl (z.1 _ _ hb))⟩) ?_ ?_
      · rintro i x σ H' H2 hi ⟨sm, hto2, t1, t2, t3, rfl⟩ ⟨T, x1, y1, rfl, nT, rfl, e1, e2⟩
        obtain ⟨n, hn, rfl⟩ := int_get (i := i) e1
        have e2 : ((zs.map V.int).drop 1)[i]? = some y1 := e2
        rw [List.getElem?_drop] at e2
        obtain ⟨m, hm, rfl⟩ := int_get e2
        rw [Nat.add_comm] at hm
        refine ⟨T, _, rfl, .inl (.inl upd_same), rfl, _, _, rfl, _, _, rfl, rfl, ?_⟩
        refine ⟨_, rfl, _, rfl, _, _, rfl, rfl, _, rfl, ?_⟩
        by_cases c : m ≤ n
        · refine ifT (decide_eq_true c) ((k _ ((s1.trans sm).trans (smUpd nT))).2 ?_)
          rintro ⟨b, ys, e, hb, hp⟩
          cases e
          rw [ha] at hb
          have e2 : zs.map V.int = ys.map V.int := by injection hb with z; injection z
          have e3 := mapIntInj e2
          subst e3
          obtain ⟨q1, q2⟩ := List.getElem?_eq_some_iff.mp hn
          obtain ⟨q3, q4⟩ := List.getElem?_eq_some_iff.mp hm
          have := List.pairwise_iff_getElem.mp hp i (i + 1) q1 q3 (by omega)
          omega
        · refine ifF (by rw [decide_eq_true_iff]; exact c) ⟨sm.trans (smUpd nT), fun j x y hj h1 h2 => ?_, _, _, _, rfl⟩
          by_cases e : j = i
          · subst e
            rw [hn] at h1; rw [hm] at h2
            cases h1; cases h2
            omega
          · exact hto2 j x y (by omega) h1 h2
      · rintro σ H' ⟨sm, hto2, _⟩
        refine (k _ (s1.trans sm)).1 ⟨a, zs, rfl, ha, adjPw fun j x y h1 h2 => hto2 j x y ?_ h1 h2⟩
        have h3 := (List.getElem?_eq_some_iff.mp h2).1
        rw [List.length_map, List.length_drop, List.length_map]
        omega
end
end Cn
/-! an error class over an own base over ValueError, whose __init__ says super().__init__(text) and stores its fields -/
namespace Cx0
open PySem PySem.W PySem.Calls PyProof.Rows PySem.HandSPX
/-- what the top has written of the class at C and of its __init__ at fI -/
structure EInit (prog : Program) (K : Frag) (C cc cda : Addr) : Prop where
  oex : L2.OexC K C
  cell : ∃ a b d, K.lookup cc = some ⟨a, b, .cell (some (.ref C)), d⟩
  code : ∃ (a : Value) (b : Option Addr) (vs : Array Value) (d : Array (Option Value)) (file : Str) (tf : Tok), K.lookup cda = some ⟨a, b, .fields vs, d⟩ ∧ vs[2]? = some (.str file tf) ∧ ((prog.main.file : Str) == file) = true
  sub : mroIn K C (.ref C) = some true
  sup : ks_superIn K C C "__init__" = some (some (.builtin "ValueError.__init__"))
  sVE : subIn K (.ref C) (.type "ValueError") = some true
  opq : nsIn K cStatics "thirdparty.any" = some none
/-- how the call of super().__init__(text) is read, its lines being one -/
def SupForm (env : Env) (msg : Str) (kk : Nat) (p0 p1 p2 p3 p4 : Pos) : Prop := ∃ pl : Sem Bool,
  eval (.Call (.Attribute (.Call (.Name "super" p0) [] [] p1) "__init__" p2) [.Constant (.str msg) kk p3] [] p4) env = (do
      let ov ← attributeBase (.Call (.Name "super" p0) [] [] p1) "__init__" env (eval (.Call (.Name "super" p0) [] [] p1) env)
      standAt p2.atName
      let (f, first) ← holding [ov] (getMethod ov "__init__" pl)
      callWith p4 f first (backTo p4 (starEach [.Constant (.str msg) kk p3] env)) [])
section
variable {prog : Program} {w : World} {A : Around} {E : Value → Shared → Prop} {K : Frag} {C cc cda fI x L : Addr} {mg m : Str → Option Value}
theorem clsD {K : Frag} (T : L2.OexC K C) : ∃ cd, clsIn K C = some cd ∧ refsVE cd.mro = true ∧ cd.hasDict = true := by
  obtain ⟨nm, q, N, bs, bm, sn, sub, ab, col, dd, k0, k1, k2, k3, k5, hC, hbm⟩ := T.cls
  refine ⟨{ name := nm, bases := bs, mro := .ref C :: bm, ns := N, qualname := q, hasDict := true, slotNames := sn, subclasses := sub, abstract := ab, collection := col, hasDel := false }, ?_, hbm, rfl⟩
  unfold clsIn
  rw [hC] <;> rfl
/-- the wrapper of ValueError.__init__ is called: the arguments are laid anew -/
theorem wrapCall {h : Heap} {g : Array GenState} {d : Drawn} {t : Nat} {os : OsState} {u t0 : Addr} {rest : List Value} {Q : Value → Shared → Prop} (T : L2.OexC K C) (X : K.In h) (hx : h.get? x = some (excO C t0)) (hu : h.get? u = some (kxs_mw "ValueError.__init__" x))
    (hz : rest.length ≤ sizeLine) (hq : ∀ h' t1, (∀ b o, b ≠ x → h.get? b = some o → h'.get? b = some o) → h'.get? x = some (excO C t1) → Q .none ⟨h', g, d, t, os⟩) :
    wpAny (model prog w) A (call (.ref u) rest) Q E ⟨h, g, d, t, os⟩ := by
  obtain ⟨nm, q, N, bs, bm, sn, sub, ab, col, dd, k0, k1, k2, k3, k5, hC, hbm⟩ := T.cls
  have hC' := X _ _ hC
  refine wpAny_call (codeAny_of_tree ?_)
  show wpAny _ A.in1 (callAny (.ref u) ⟨rest, []⟩) _ _ _
  simp only [callAny]
  refine wpAny_bind (wpAny_load hu ?_)
  simp only [kxs_mw, show (Value.type "method-wrapper" == Value.type "method" || Value.type "method-wrapper" == Value.type "builtin_function_or_method" || Value.type "method-wrapper" == Value.type "method-wrapper") = true by decide, if_true]
  refine KFB.if_so (by decide) ?_
  refine wpAny_bind (check_bound_init F.excBase_ValueError.toExcCallFacts hC' hx rfl ?_)
  refine wpAny_bind (wpAny_pure (wpAny_pure ?_))
  refine ⟨plainId_quiet F.excBase_ValueError.init.plain _, codeAny_builtin F.excBase_ValueError.initEntry ?_⟩
  exact exc_init_tree (cls := .ref C) (t0 := t0) (dv := none) (c2 := .none) (c3 := .none) (b4 := .bool false) hx hz fun h' k1 k2 _ => hq h' _ k1 k2
/-- super().__init__(text) -/
theorem superStmt {s : Shared} {body : List Stmt} {q : Str} {scope : Scope} {p0 p1 p2 p3 p4 p5 : Pos} {msg : Str} {kk : Nat} {fd : FuncData} {ar : Arg} {t0 : Addr} {mb : Str → Option Value} {oc : Value} {od : Option Addr} {osl : Array (Option Value)} {Q : Flow → Shared → Prop}
    (T : EInit prog K C cc cda) (X : K.In s.heap) (hG : s.heap.Ns mainGlobals mg) (hB : s.heap.Ns builtinsNs mb) (mS : mg "super" = none) (bS : mb "super" = some (.type "super"))
    (hn : s.heap.Ns L m) (hf : K.lookup fI = some ⟨oc, od, .func fd, osl⟩) (hp : (fd.params.posonlyargs ++ fd.params.args).head? = some ar) (hv : m ar.arg = some (.ref x))
    (hx : s.heap.get? x = some (excO C t0)) (hks : scope.names.lookup ("super" : Str) = some .globalImplicit) (hkc : scope.names.lookup ("__class__" : Str) = some .free) (hka : scope.names.lookup ar.arg = some .local) (hk : scope.kind = .function)
    (htop : (prog.main.scope.names.lookup ("super" : Str)).isSome = false)
    (he : SupForm (ksEnv q scope L fI (.ref cda) cc) msg kk p0 p1 p2 p3 p4)
    (hQ : ∀ h' tk t1, (∀ b o, b ≠ x → s.heap.get? b = some o → h'.get? b = some o) → h'.get? x = some (excO C t1) → Q .next { s with heap := h', toks := tk }) :
    _root_.PySem.wpAt (model prog w) A (.func body (ksEnv q scope L fI (.ref cda) cc)) (exec (.Expr (.Call (.Attribute (.Call (.Name "super" p0) [] [] p1) "__init__" p2) [.Constant (.str msg) kk p3] [] p4) p5) (ksEnv q scope L fI (.ref cda) cc)) Q E s := by
  obtain ⟨a1, b1, d1, hcell⟩ := T.cell
  obtain ⟨a2, b2, vs, d2, file, tf, hcode, hvs, hfile⟩ := T.code
  obtain ⟨cdD, hD, hm, hh⟩ := clsD T.oex
  obtain ⟨pl, he⟩ := he
  obtain ⟨hp0, g, d, t, os⟩ := s
  have I : InstAt hp0 x (excO C t0) C none := ⟨hx, rfl, rfl, trivial⟩
  obtain ⟨oD, hD1, hD2⟩ : ∃ oD, hp0.get? C = some oD ∧ oD.data = .cls cdD := by
    unfold clsIn at hD
    split at hD
    · rename_i c d cd' sl ho
      cases hD
      exact ⟨_, X _ _ ho, rfl⟩
    · cases hD
  refine ks_wpAt_Expr_any ?_ (by first | rfl | (simp [interactive, hk]; done)) (by first | rfl | (simp [swapsWith, hk]; done))
  refine ks_wpAt_MethodCall (pl := pl) ?_ he
  refine ks_wpAt_super_base (env := ksEnv q scope L fI (.ref cda) cc) hks hkc (by decide) rfl (X _ _ hf) rfl hp rfl (X _ _ hcode) rfl hvs hfile htop ?_
  refine ks_loadName_global hk hks (loadGlobal_builtin (env := ksEnv q scope L fI (.ref cda) cc) hG mS hB bS ⟨rfl, ?_⟩)
  refine wpAny_loadName_free hk hkc rfl ⟨_, X _ _ hcell, rfl⟩ ?_
  refine wpAny_loadName_local hk hka hn hv ?_
  refine ks_wpAny_isType_cls hD1 hD2 ⟨rfl, ?_⟩
  refine ks_wpAny_call_super hD1 hD2 I.at_ I.cls (fun c e => by cases e) (looks_mroIn X T.sub) (fun h1 e1 k1 => ?_)
  have X1 : K.In h1 := X.keeps k1
  have hx1 := k1 _ _ hx
  have I1 : InstAt h1 x (excO C t0) C none := ⟨hx1, rfl, rfl, trivial⟩
  have hsup := T.sup
  unfold ks_superIn at hsup
  rw [hD, Option.bind_some] at hsup
  refine kxs_getMethod kxs_ValueError e1 (looks_opaque X1 T.opq) (l₀ := cdD.mro) (fun A Q E s k q => wpAny_bind ((looks_clsIn X1 hD) A _ E s k (wpAny_pure q))) rfl X1 hsup (I1.type.andThen (looks_subIn X1 T.sVE)) (ks_ne X1 I1 hD) (by decide) ?_
  have k2 : ∀ b o, h1.get? b = some o → (h1.push (kxs_mw "ValueError.__init__" x)).get? b = some o := fun b o e => Heap.get?_push_of_some _ e
  have hu := Heap.get?_push_size h1 (o := kxs_mw "ValueError.__init__" x) rfl
  refine kxs_callWith (i := "ValueError.__init__") (x := x) (by rfl) (evalArgs_plain ?_)
  show wpAny _ _ (spliced ((false, eval (.Constant (.str msg) kk p3) (ksEnv q scope L fI (.ref cda) cc)) :: backTo p4 (starEach [] (ksEnv q scope L fI (.ref cda) cc)))) _ _ _
  refine Calls.spliced_cons (Calls.Constant_str (k := kk) (pos := p3) (Calls.spliced_nil ⟨hu, ?_⟩))
  refine wrapCall T.oex (X1.keeps k2) (k2 _ _ hx1) hu (by show 1 ≤ sizeLine; decide) fun h' t1 k3 hx3 => ?_
  exact hQ h' _ t1 (fun b o hb e => k3 b o hb (k2 _ _ (k1 _ _ e))) hx3

theorem ldV {M : Model} {s : Shared} {env : Env} {m : Str → Option Value} {y : Str} {pos : Pos} {v : Value} {Q : Value → Shared → Prop} (hn : s.heap.Ns env.locals m) (hv : m y = some v) (hk : env.scope.kind = .function) (hl : env.kindOf y = some .local) (hd : (y == ("__debug__" : Str)) = false) (h : Q v s) :
    wpAny M A (eval (.Name y pos) env) Q E s := wpAny_Name (wpAny_loadName_local hk hl hn hv h) hd
/-- the arguments of such an __init__ -/
def eArgs (l : List (Str × Pos)) : Arguments := { posonlyargs := [], args := l.map fun p => { arg := p.1, annotation := none, pos := p.2 }, vararg := none, kwonlyargs := [], kw_defaults := [], kwarg := none, defaults := [] }
abbrev eSup (msg : Str) (kk : Nat) (p0 p1 p2 p3 p4 p5 : Pos) : Stmt := .Expr (.Call (.Attribute (.Call (.Name "super" p0) [] [] p1) "__init__" p2) [.Constant (.str msg) kk p3] [] p4) p5
abbrev eSt (f : Str) (q1 q2 q3 q4 : Pos) : Stmt := .Assign [.Attribute (.Name "self" q1) f q2] (.Name f q3) q4
abbrev eScope (l : List Str) : Scope := { kind := .function, names := l.map (fun y => (y, NameKind.local)) ++ [(("__class__" : Str), NameKind.free), (("super" : Str), NameKind.globalImplicit)], isGenerator := false, isCoroutine := false, more := [] }
/-- behind the __init__ of a fresh exception at x: no field -/
theorem init0 {s : Shared} {R : Result → Shared → Prop} {q : Str} {sf p0 p1 p2 p3 p4 p5 : Pos} {msg : Str} {kk : Nat} {t0 : Addr} {mb : Str → Option Value} {oc kV doc pm ct : Value} {an od : Option Addr} {osl : Array (Option Value)}
    (T : EInit prog K C cc cda) (X : K.In s.heap) (hlim : s.heap.NoLimit) (hG : s.heap.Ns mainGlobals mg) (hB : s.heap.Ns builtinsNs mb) (mS : mg "super" = none) (bS : mb "super" = some (.type "super"))
    (hf : K.lookup fI = some ⟨oc, od, .func (ksFn "__init__" q (eArgs [("self", sf)]) [eSup msg kk p0 p1 p2 p3 p4 p5] (eScope ["self"]) .none kV doc pm an (.ref cda) ct cc), osl⟩) (hcd : codeIn K (.ref cda) q = true)
    (hx : s.heap.get? x = some (excO C t0)) (hroom : A.depth < recursionLimit) (htop : (prog.main.scope.names.lookup ("super" : Str)).isSome = false) (he : ∀ L, SupForm (ksEnv q (eScope ["self"]) L fI (.ref cda) cc) msg kk p0 p1 p2 p3 p4)
    (hq : ∀ h' tk t1, (∀ b o, b ≠ x → s.heap.get? b = some o → h'.get? b = some o) → h'.get? x = some (excO C t1) → R (.ok (.ret .none)) { s with heap := h', toks := tk }) :
    codeAny (model prog w) A (.call (.ref fI) ⟨[.ref x], []⟩) R s := by
  refine ks_codeAny_call_defAt (binds := [("self", .ref x)]) hroom (X _ _ hf) rfl hlim (codeRec_of X hcd) rfl (BindsTo.of_eq (by first | rfl | with_unfolding_all rfl)) (by show ∀ y ∈ (eScope ["self"]).names, y.2 ≠ .cell; decide) (fun y hy => by rcases List.mem_singleton.mp hy with rfl; rfl) (fun h1 hn k1 => ?_)
  refine ks_wpAt_execs_cons (superStmt (m := fun y => [(("self" : Str), Value.ref x)].reverse.lookup y) T (X.keeps k1) (hG.keeps k1) (hB.keeps k1) mS bS hn hf rfl rfl (k1 _ _ hx) rfl rfl rfl rfl htop (he _) fun h2 tk t1 k2 hx2 => ?_)
  refine wpAt_of_wpAny (wpAny_execs_nil ?_)
  exact hq h2 _ t1 (fun b o hb e => k2 b o hb (k1 _ _ e)) hx2

theorem keepIn' {h h' : Heap} (X : K.In h) (hx : K.lookup x = none) (k : ∀ b o, b ≠ x → h.get? b = some o → h'.get? b = some o) : K.In h' := fun a o e =>
  k a o (fun z => by rw [z, hx] at e; cases e) (X a o e)
abbrev excD (C t : Addr) (d : Option Addr) : Obj := { cls := .ref C, dict := d, data := .fields #[.ref t, .none, .none, .none, .bool false, .none] }
/-- self.f = f, the first field -/
theorem setF {s : Shared} {env : Env} {f : Str} {q1 q2 q3 q4 : Pos} {v : Value} {t1 : Addr} {Q : Flow → Shared → Prop} (T : L2.OexC K C) (X : K.In s.heap) (hn : s.heap.Ns env.locals m) (hv : m f = some v) (hs : m "self" = some (.ref x)) (hk : env.scope.kind = .function)
    (lf : env.kindOf f = some .local) (ls : env.kindOf "self" = some .local) (df : (f == ("__debug__" : Str)) = false) (hno : findIn K (.ref C) f = some none) (hx : s.heap.get? x = some (excO C t1))
    (hQ : ∀ h' tk dx, (∀ b o, b ≠ x → s.heap.get? b = some o → h'.get? b = some o) → s.heap.objs.size ≤ dx → dx ≠ x → h'.get? x = some (excD C t1 (some dx)) → h'.Ns1 dx (fun y => if y = f then some v else none) → Q .next { s with heap := h', toks := tk }) :
    wpAny (model prog w) A (exec (eSt f q1 q2 q3 q4) env) Q E s := by
  obtain ⟨cd, hc, hm, hh⟩ := clsD T
  refine plainObj_wpAny_Assign_Attribute (ldV hn hv hk lf df (ldV hn hs hk ls (by decide) ?_))
  refine set_plain X (ox := excO C t1) (od := none) ⟨hx, rfl, rfl, trivial⟩ T.sa ?_
  exact exc_osa X hx hc hm hh hno fun h3 tk3 dx k3 dn dne hx3 hn3 => hQ h3 tk3 dx k3 dn dne hx3 hn3
/-- .. a further one -/
theorem setG {s : Shared} {env : Env} {f : Str} {q1 q2 q3 q4 : Pos} {v : Value} {t1 dx : Addr} {m0 : Str → Option Value} {nl : List Str} {Q : Flow → Shared → Prop} (T : L2.OexC K C) (X : K.In s.heap) (hn : s.heap.Ns env.locals m) (hv : m f = some v) (hs : m "self" = some (.ref x)) (hk : env.scope.kind = .function)
    (lf : env.kindOf f = some .local) (ls : env.kindOf "self" = some .local) (df : (f == ("__debug__" : Str)) = false) (hno : findIn K (.ref C) f = some none) (hx : s.heap.get? x = some (excD C t1 (some dx))) (hns : s.heap.Ns1 dx m0) (hw : Within m0 nl) (hz : nl.length ≤ 1000)
    (hQ : ∀ h' tk, (∀ b o, b ≠ dx → s.heap.get? b = some o → h'.get? b = some o) → h'.Ns1 dx (fun y => if y = f then some v else m0 y) → Q .next { s with heap := h', toks := tk }) :
    wpAny (model prog w) A (exec (eSt f q1 q2 q3 q4) env) Q E s := by
  obtain ⟨cd, hc, hm, hh⟩ := clsD T
  obtain ⟨oD, _, _, hoD, _, _⟩ := hns.count hw
  refine plainObj_wpAny_Assign_Attribute (ldV hn hv hk lf df (ldV hn hs hk ls (by decide) ?_))
  refine set_plain X (ox := excD C t1 (some dx)) (od := some oD) ⟨hx, rfl, rfl, hoD⟩ T.sa ?_
  exact PySem.OEX.osa_old X hx hns hw hz hc hm hh hno fun h3 tk3 k3 hn3 => hQ h3 tk3 k3 hn3
theorem init1 {s : Shared} {R : Result → Shared → Prop} {q f : Str} {sf sg p0 p1 p2 p3 p4 p5 q1 q2 q3 q4 : Pos} {msg : Str} {kk : Nat} {t0 : Addr} {v : Value} {mb : Str → Option Value} {oc kV doc pm ct : Value} {an od : Option Addr} {osl : Array (Option Value)}
    (T : EInit prog K C cc cda) (X : K.In s.heap) (hlim : s.heap.NoLimit) (hG : s.heap.Ns mainGlobals mg) (hB : s.heap.Ns builtinsNs mb) (mS : mg "super" = none) (bS : mb "super" = some (.type "super"))
    (hf : K.lookup fI = some ⟨oc, od, .func (ksFn "__init__" q (eArgs [("self", sf), (f, sg)]) [eSup msg kk p0 p1 p2 p3 p4 p5, eSt f q1 q2 q3 q4] (eScope ["self", f]) .none kV doc pm an (.ref cda) ct cc), osl⟩) (hcd : codeIn K (.ref cda) q = true)
    (hx : s.heap.get? x = some (excO C t0)) (hnx : K.lookup x = none) (hroom : A.depth < recursionLimit) (htop : (prog.main.scope.names.lookup ("super" : Str)).isSome = false) (he : ∀ L, SupForm (ksEnv q (eScope ["self", f]) L fI (.ref cda) cc) msg kk p0 p1 p2 p3 p4)
    (hno : findIn K (.ref C) f = some none) (hb : ∀ s : Shared, BindsTo s (ksFn "__init__" q (eArgs [("self", sf), (f, sg)]) [eSup msg kk p0 p1 p2 p3 p4 p5, eSt f q1 q2 q3 q4] (eScope ["self", f]) .none kV doc pm an (.ref cda) ct cc) ⟨[.ref x, v], []⟩ [("self", .ref x), (f, v)])
    (l1 : (eScope ["self", f]).names.lookup f = some .local) (l2 : (eScope ["self", f]).names.lookup ("super" : Str) = some .globalImplicit) (l3 : (eScope ["self", f]).names.lookup ("__class__" : Str) = some .free) (l4 : (f == ("__debug__" : Str)) = false) (l5 : (("self" : Str) == f) = false)
    (hq : ∀ h' tk t1 dx, (∀ b o, b ≠ x → s.heap.get? b = some o → h'.get? b = some o) → s.heap.objs.size ≤ dx → dx ≠ x → h'.get? x = some (excD C t1 (some dx)) → h'.Ns1 dx (fun y => if y = f then some v else none) → R (.ok (.ret .none)) { s with heap := h', toks := tk }) :
    codeAny (model prog w) A (.call (.ref fI) ⟨[.ref x, v], []⟩) R s := by
  refine ks_codeAny_call_defAt (binds := [("self", .ref x), (f, v)]) hroom (X _ _ hf) rfl hlim (codeRec_of X hcd) rfl (hb s) (fun y hy => ?_) (fun y hy => ?_) (fun h1 hn k1 => ?_)
  · have hy' : y = (("self" : Str), NameKind.local) ∨ y = (f, NameKind.local) ∨ y = (("__class__" : Str), NameKind.free) ∨ y = (("super" : Str), NameKind.globalImplicit) := by simpa using hy
    rcases hy' with rfl | rfl | rfl | rfl <;> exact fun z => nomatch z
  · have hy' : y = (("self" : Str), Value.ref x) ∨ y = (f, v) := by simpa using hy
    rcases hy' with rfl | rfl
    · rfl
    · exact l1
  · have hsz : s.heap.objs.size ≠ x := Nat.ne_of_gt (Heap.lt_size hx)
    have ms : [(("self" : Str), Value.ref x), (f, v)].reverse.lookup ("self" : Str) = some (.ref x) := by
      show List.lookup ("self" : Str) [(f, v), (("self" : Str), Value.ref x)] = _
      rw [List.lookup_cons, l5]
      rfl
    have mf : [(("self" : Str), Value.ref x), (f, v)].reverse.lookup f = some v := by
      show List.lookup f [(f, v), (("self" : Str), Value.ref x)] = _
      rw [List.lookup_cons, beq_self_eq_true]
    refine ks_wpAt_execs_cons (superStmt (m := fun y => [(("self" : Str), Value.ref x), (f, v)].reverse.lookup y) T (X.keeps k1) (hG.keeps k1) (hB.keeps k1) mS bS hn hf rfl ms (k1 _ _ hx) l2 l3 rfl rfl htop (he _) fun h2 tk t1 k2 hx2 => ?_)
    have hn2 : h2.Ns s.heap.objs.size (fun y => [(("self" : Str), Value.ref x), (f, v)].reverse.lookup y) := hn.at fun o q => k2 _ o hsz q
    have X2 : K.In h2 := keepIn' (X.keeps k1) hnx k2
    refine wpAt_of_wpAny (wpAny_execs_cons (setF (x := x) (v := v) T.oex X2 hn2 mf ms rfl l1 rfl l4 hno hx2 fun h3 tk3 dx k3 dn dne hx3 hn3 => wpAny_execs_nil ?_))
    refine hq h3 _ t1 dx (fun b o hb e => k3 b o hb (k2 b o hb (k1 _ _ e))) ?_ dne hx3 hn3
    have z : s.heap.objs.size < h2.objs.size := hn2.lt
    exact Nat.le_of_lt (Nat.lt_of_lt_of_le z dn)

theorem init2 {s : Shared} {R : Result → Shared → Prop} {q : Str} {sf sg sh p0 p1 p2 p3 p4 p5 q1 q2 q3 q4 r1 r2 r3 r4 : Pos} {msg : Str} {kk : Nat} {t0 : Addr} {v u : Value} {mb : Str → Option Value} {oc kV doc pm ct : Value} {an od : Option Addr} {osl : Array (Option Value)}
    (T : EInit prog K C cc cda) (X : K.In s.heap) (hlim : s.heap.NoLimit) (hG : s.heap.Ns mainGlobals mg) (hB : s.heap.Ns builtinsNs mb) (mS : mg "super" = none) (bS : mb "super" = some (.type "super"))
    (hf : K.lookup fI = some ⟨oc, od, .func (ksFn "__init__" q (eArgs [("self", sf), ("part", sg), ("at", sh)]) [eSup msg kk p0 p1 p2 p3 p4 p5, eSt "part" q1 q2 q3 q4, eSt "at" r1 r2 r3 r4] (eScope ["self", "part", "at"]) .none kV doc pm an (.ref cda) ct cc), osl⟩) (hcd : codeIn K (.ref cda) q = true)
    (hx : s.heap.get? x = some (excO C t0)) (hnx : K.lookup x = none) (hroom : A.depth < recursionLimit) (htop : (prog.main.scope.names.lookup ("super" : Str)).isSome = false) (he : ∀ L, SupForm (ksEnv q (eScope ["self", "part", "at"]) L fI (.ref cda) cc) msg kk p0 p1 p2 p3 p4)
    (hno : findIn K (.ref C) "part" = some none) (hno2 : findIn K (.ref C) "at" = some none)
    (hq : ∀ h' tk t1 dx, (∀ b o, b ≠ x → s.heap.get? b = some o → h'.get? b = some o) → s.heap.objs.size ≤ dx → dx ≠ x → h'.get? x = some (excD C t1 (some dx)) → h'.Ns1 dx (fun y => if y = "at" then some u else if y = "part" then some v else none) → R (.ok (.ret .none)) { s with heap := h', toks := tk }) :
    codeAny (model prog w) A (.call (.ref fI) ⟨[.ref x, v, u], []⟩) R s := by
  refine ks_codeAny_call_defAt (binds := [("self", .ref x), ("part", v), ("at", u)]) hroom (X _ _ hf) rfl hlim (codeRec_of X hcd) rfl (BindsTo.of_eq (by first | rfl | with_unfolding_all rfl)) (fun y hy => ?_) (fun y hy => ?_) (fun h1 hn k1 => ?_)
  · have hy' : y = (("self" : Str), NameKind.local) ∨ y = (("part" : Str), NameKind.local) ∨ y = (("at" : Str), NameKind.local) ∨ y = (("__class__" : Str), NameKind.free) ∨ y = (("super" : Str), NameKind.globalImplicit) := by simpa using hy
    rcases hy' with rfl | rfl | rfl | rfl | rfl <;> exact fun z => nomatch z
  · have hy' : y = (("self" : Str), Value.ref x) ∨ y = (("part" : Str), v) ∨ y = (("at" : Str), u) := by simpa using hy
    rcases hy' with rfl | rfl | rfl <;> rfl
  · have hsz : s.heap.objs.size ≠ x := Nat.ne_of_gt (Heap.lt_size hx)
    refine ks_wpAt_execs_cons (superStmt (m := fun y => [(("self" : Str), Value.ref x), ("part", v), ("at", u)].reverse.lookup y) T (X.keeps k1) (hG.keeps k1) (hB.keeps k1) mS bS hn hf rfl rfl (k1 _ _ hx) rfl rfl rfl rfl htop (he _) fun h2 tk t1 k2 hx2 => ?_)
    have hn2 : h2.Ns s.heap.objs.size (fun y => [(("self" : Str), Value.ref x), ("part", v), ("at", u)].reverse.lookup y) := hn.at fun o q => k2 _ o hsz q
    have X2 : K.In h2 := keepIn' (X.keeps k1) hnx k2
    refine wpAt_of_wpAny (wpAny_execs_cons (setF (x := x) (v := v) T.oex X2 hn2 rfl rfl rfl rfl rfl (by decide) hno hx2 fun h3 tk3 dx k3 dn dne hx3 hn3 => ?_))
    have z : s.heap.objs.size < h2.objs.size := hn2.lt
    have hn3' : h3.Ns s.heap.objs.size (fun y => [(("self" : Str), Value.ref x), ("part", v), ("at", u)].reverse.lookup y) := hn2.at fun o q => k3 _ o hsz q
    have hdL : s.heap.objs.size ≠ dx := Nat.ne_of_lt (Nat.lt_of_lt_of_le z dn)
    refine wpAny_execs_cons (setG (x := x) (v := u) (nl := ["part"]) T.oex (keepIn' X2 hnx k3) hn3' rfl rfl rfl rfl rfl (by decide) hno2 hx3 hn3 (fun y hy => ?_) (by decide) fun h4 tk4 k4 hn4 => wpAny_execs_nil ?_)
    · by_cases e : y = "part"
      · rw [e]; exact List.mem_cons_self ..
      · rw [if_neg e] at hy
        exact absurd rfl hy
    · refine hq h4 _ t1 dx (fun b o hb e => ?_) (Nat.le_of_lt (Nat.lt_of_lt_of_le z dn)) dne (k4 x _ (Ne.symm dne) hx3) hn4
      have e2 := k2 b o hb (k1 _ _ e)
      exact k4 b o (Nat.ne_of_lt (Nat.lt_of_lt_of_le (Heap.lt_size e2) dn)) (k3 b o hb e2)
end
end Cx0
namespace Cx0
open PySem PySem.W PySem.Calls PyProof.Rows PySem.HandSPX
/-- the class at C, called: a new exception at e, its dict (fields by name) -/
structure MkE (prog : Program) (w : World) (K : Frag) (mg : Str → Option Value) (C : Addr) (fs : List Str) : Prop where
  oex : L2.OexC K C
  run : ∀ (A : Around) (R : Result → Shared → Prop) (s : Shared) (vs : List Value) (mb : Str → Option Value), K.In s.heap → s.heap.NoLimit → s.heap.Ns mainGlobals mg → s.heap.Ns builtinsNs mb → mb "super" = some (.type "super") → vs.length = fs.length → A.depth + 1 < recursionLimit →
    (∀ h' tk e t1 d, (∀ b o, s.heap.get? b = some o → h'.get? b = some o) → s.heap.objs.size ≤ e → h'.get? e = some (excD C t1 d) →
      ((fs = [] ∧ d = none) ∨ (fs ≠ [] ∧ ∃ dx, d = some dx ∧ s.heap.objs.size ≤ dx ∧ dx ≠ e ∧ h'.Ns1 dx (fun y => (fs.zip vs).lookup y))) → R (.ok (.ret (.ref e))) { s with heap := h', toks := tk }) →
    codeAny (model prog w) A (.call (.ref C) ⟨vs, []⟩) R s
section
variable {prog : Program} {w : World} {K : Frag} {C cc cda fI : Addr} {mg : Str → Option Value}
theorem mkCore {A : Around} {R : Result → Shared → Prop} {s : Shared} {vs : List Value} (T : L2.OexC K C) (iC : findIn K (.ref C) "__init__" = some (some (.ref fI))) (tI : typeIn K (.ref fI) = some (.type "function")) (X : K.In s.heap) (hz : vs.length ≤ 10)
    (h : ∀ (A' : Around) (s1 : Shared) (x t0 : Addr) (R' : Result → Shared → Prop), A'.depth = A.depth + 1 → (∀ b o, s.heap.get? b = some o → s1.heap.get? b = some o) → s.heap.objs.size ≤ x → s1.heap.get? x = some (excO C t0) → K.lookup x = none → s1.gens = s.gens → s1.drawn = s.drawn → s1.os = s.os →
      (∀ h' tk t1 d, (∀ b o, b ≠ x → s1.heap.get? b = some o → h'.get? b = some o) → h'.get? x = some (excD C t1 d) → (∀ dx, d = some dx → s1.heap.objs.size ≤ dx) →
        R (.ok (.ret (.ref x))) { s with heap := h', toks := tk } → R' (.ok (.ret .none)) { s1 with heap := h', toks := tk }) → codeAny (model prog w) A' (.call (.ref fI) ⟨.ref x :: vs, []⟩) R' s1) :
    codeAny (model prog w) A (.call (.ref C) ⟨vs, []⟩) R s := by
  obtain ⟨nm, q, N, bs, bm, sn, sub, ab, col, dd, k0, k1, k2, k3, k5, hC, hbm⟩ := T.cls
  obtain ⟨hp, g, dr, tk, os⟩ := s
  have hget : ((hp.push (kdv_tup vs)).push (excO C hp.objs.size)).get? (hp.objs.size + 1) = some (excO C hp.objs.size) := by heap_get
  refine call_own F.excBase_ValueError (fun Y => refsVE_contains Y bm hbm) (X _ _ hC) (looks_findIn X iC) (fun self => bind_fn X self tI) (Nat.le_trans hz (by decide)) ?_
  refine h _ ⟨(hp.push (kdv_tup vs)).push (excO C hp.objs.size), g, dr, tk, os⟩ (hp.objs.size + 1) hp.objs.size _ L2.make_depth (fun b o e => Heap.get?_push_of_some _ (Heap.get?_push_of_some _ e)) (Nat.le_succ _) hget ?_ rfl rfl rfl fun h' tk' t1 d _ _ _ hr => ?_
  · cases e : K.lookup (hp.objs.size + 1) with
    | none => rfl
    | some o =>
      exact absurd (Nat.lt_of_succ_lt (Heap.lt_size (X _ _ e))) (Nat.lt_irrefl _)
  · exact ⟨rfl, hr⟩

theorem mkE0 {q : Str} {sf p0 p1 p2 p3 p4 p5 : Pos} {msg : Str} {kk : Nat} {oc kV doc pm ct : Value} {an od : Option Addr} {osl : Array (Option Value)}
    (T : EInit prog K C cc cda) (iC : findIn K (.ref C) "__init__" = some (some (.ref fI))) (tI : typeIn K (.ref fI) = some (.type "function")) (mS : mg "super" = none)
    (hf : K.lookup fI = some ⟨oc, od, .func (ksFn "__init__" q (eArgs [("self", sf)]) [eSup msg kk p0 p1 p2 p3 p4 p5] (eScope ["self"]) .none kV doc pm an (.ref cda) ct cc), osl⟩) (hcd : codeIn K (.ref cda) q = true)
    (htop : (prog.main.scope.names.lookup ("super" : Str)).isSome = false) (he : ∀ L, SupForm (ksEnv q (eScope ["self"]) L fI (.ref cda) cc) msg kk p0 p1 p2 p3 p4) : MkE prog w K mg C [] := by
  refine ⟨T.oex, fun A R s vs mb X hlim hG hB bS hl hd hQ => ?_⟩
  have ev : vs = [] := List.length_eq_zero_iff.mp hl
  subst ev
  refine mkCore T.oex iC tI X (Nat.le_of_ble_eq_true rfl) fun A' s1 x t0 R' hA k hs hx hnx e1 e2 e3 hr => ?_
  refine init0 T (X.keeps k) (hlim.keeps k) (hG.keeps k) (hB.keeps k) mS bS hf hcd hx (by rw [hA]; exact hd) htop he fun h' tk t1 k' hx' => ?_
  refine hr h' tk t1 none k' hx' (fun dx z => nomatch z) (hQ h' tk x t1 none (fun b o e => k' b o (Nat.ne_of_lt (Nat.lt_of_lt_of_le (Heap.lt_size e) hs)) (k b o e)) hs hx' (.inl ⟨rfl, rfl⟩))
theorem mkE1 {q f : Str} {sf sg p0 p1 p2 p3 p4 p5 q1 q2 q3 q4 : Pos} {msg : Str} {kk : Nat} {oc kV doc pm ct : Value} {an od : Option Addr} {osl : Array (Option Value)}
    (T : EInit prog K C cc cda) (iC : findIn K (.ref C) "__init__" = some (some (.ref fI))) (tI : typeIn K (.ref fI) = some (.type "function")) (mS : mg "super" = none)
    (hf : K.lookup fI = some ⟨oc, od, .func (ksFn "__init__" q (eArgs [("self", sf), (f, sg)]) [eSup msg kk p0 p1 p2 p3 p4 p5, eSt f q1 q2 q3 q4] (eScope ["self", f]) .none kV doc pm an (.ref cda) ct cc), osl⟩) (hcd : codeIn K (.ref cda) q = true)
    (htop : (prog.main.scope.names.lookup ("super" : Str)).isSome = false) (he : ∀ L, SupForm (ksEnv q (eScope ["self", f]) L fI (.ref cda) cc) msg kk p0 p1 p2 p3 p4)
    (hno : findIn K (.ref C) f = some none)
    (hb : ∀ (x v : Value), bindArgs (ksFn "__init__" q (eArgs [("self", sf), (f, sg)]) [eSup msg kk p0 p1 p2 p3 p4 p5, eSt f q1 q2 q3 q4] (eScope ["self", f]) .none kV doc pm an (.ref cda) ct cc) ⟨[x, v], []⟩ = pure [(("self" : Str), x), (f, v)])
    (l1 : (eScope ["self", f]).names.lookup f = some .local) (l2 : (eScope ["self", f]).names.lookup ("super" : Str) = some .globalImplicit) (l3 : (eScope ["self", f]).names.lookup ("__class__" : Str) = some .free) (l4 : (f == ("__debug__" : Str)) = false) (l5 : (("self" : Str) == f) = false) : MkE prog w K mg C [f] := by
  refine ⟨T.oex, fun A R s vs mb X hlim hG hB bS hl hd hQ => ?_⟩
  obtain ⟨v, rfl⟩ : ∃ v, vs = [v] := by
    match vs, hl with
    | [v], _ => exact ⟨v, rfl⟩
  refine mkCore T.oex iC tI X (Nat.le_of_ble_eq_true rfl) fun A' s1 x t0 R' hA k hs hx hnx e1 e2 e3 hr => ?_
  refine init1 T (X.keeps k) (hlim.keeps k) (hG.keeps k) (hB.keeps k) mS bS hf hcd hx hnx (by rw [hA]; exact hd) htop he hno (fun _ => .of_eq (hb _ _)) l1 l2 l3 l4 l5 fun h' tk t1 dx k' hs' hne hx' hns => ?_
  have hle : s.heap.objs.size ≤ s1.heap.objs.size := by
    rcases Nat.lt_or_ge s1.heap.objs.size s.heap.objs.size with z | z
    · exact Nat.le_of_lt (Nat.lt_of_le_of_lt hs (Heap.lt_size hx))
    · exact z
  refine hr h' tk t1 (some dx) k' hx' (fun d z => by cases z; exact hs') (hQ h' tk x t1 (some dx) (fun b o e => k' b o (Nat.ne_of_lt (Nat.lt_of_lt_of_le (Heap.lt_size e) hs)) (k b o e)) hs hx' (.inr ⟨(by intro z; cases z), dx, rfl, Nat.le_trans hle hs', hne, ?_⟩))
  have em : (fun (y : Str) => ([f].zip [v]).lookup y) = fun (y : Str) => if y = f then some v else none := by
    funext y
    show List.lookup y [(f, v)] = _
    by_cases e : y = f
    · rw [if_pos e, e, List.lookup_cons, beq_self_eq_true]
    · have e' : (y == f) = false := by simpa using e
      rw [if_neg e, List.lookup_cons, e']
      rfl
  rw [em]
  exact hns
theorem mkE2 {q : Str} {sf sg sh p0 p1 p2 p3 p4 p5 q1 q2 q3 q4 r1 r2 r3 r4 : Pos} {msg : Str} {kk : Nat} {oc kV doc pm ct : Value} {an od : Option Addr} {osl : Array (Option Value)}
    (T : EInit prog K C cc cda) (iC : findIn K (.ref C) "__init__" = some (some (.ref fI))) (tI : typeIn K (.ref fI) = some (.type "function")) (mS : mg "super" = none)
    (hf : K.lookup fI = some ⟨oc, od, .func (ksFn "__init__" q (eArgs [("self", sf), ("part", sg), ("at", sh)]) [eSup msg kk p0 p1 p2 p3 p4 p5, eSt "part" q1 q2 q3 q4, eSt "at" r1 r2 r3 r4] (eScope ["self", "part", "at"]) .none kV doc pm an (.ref cda) ct cc), osl⟩) (hcd : codeIn K (.ref cda) q = true)
    (htop : (prog.main.scope.names.lookup ("super" : Str)).isSome = false) (he : ∀ L, SupForm (ksEnv q (eScope ["self", "part", "at"]) L fI (.ref cda) cc) msg kk p0 p1 p2 p3 p4)
    (hno : findIn K (.ref C) "part" = some none) (hno2 : findIn K (.ref C) "at" = some none) : MkE prog w K mg C ["part", "at"] := by
  refine ⟨T.oex, fun A R s vs mb X hlim hG hB bS hl hd hQ => ?_⟩
  obtain ⟨v, u, rfl⟩ : ∃ v u, vs = [v, u] := by
    match vs, hl with
    | [v, u], _ => exact ⟨v, u, rfl⟩
  refine mkCore T.oex iC tI X (Nat.le_of_ble_eq_true rfl) fun A' s1 x t0 R' hA k hs hx hnx e1 e2 e3 hr => ?_
  refine init2 T (X.keeps k) (hlim.keeps k) (hG.keeps k) (hB.keeps k) mS bS hf hcd hx hnx (by rw [hA]; exact hd) htop he hno hno2 fun h' tk t1 dx k' hs' hne hx' hns => ?_
  have hle : s.heap.objs.size ≤ s1.heap.objs.size := by
    rcases Nat.lt_or_ge s1.heap.objs.size s.heap.objs.size with z | z
    · exact Nat.le_of_lt (Nat.lt_of_le_of_lt hs (Heap.lt_size hx))
    · exact z
  refine hr h' tk t1 (some dx) k' hx' (fun d z => by cases z; exact hs') (hQ h' tk x t1 (some dx) (fun b o e => k' b o (Nat.ne_of_lt (Nat.lt_of_lt_of_le (Heap.lt_size e) hs)) (k b o e)) hs hx' (.inr ⟨(by intro z; cases z), dx, rfl, Nat.le_trans hle hs', hne, ?_⟩))
  have em : (fun (y : Str) => ([("part" : Str), "at"].zip [v, u]).lookup y) = fun (y : Str) => if y = "at" then some u else if y = "part" then some v else none := by
    funext y
    show List.lookup y [(("part" : Str), v), ("at", u)] = _
    by_cases e : y = "part"
    · have ne : ¬ y = "at" := by rw [e]; decide
      rw [if_neg ne, if_pos e, e, List.lookup_cons, beq_self_eq_true]
    · have e' : (y == ("part" : Str)) = false := by simpa using e
      rw [if_neg e, List.lookup_cons, e']
      by_cases e2 : y = "at"
      · rw [if_pos e2, e2, List.lookup_cons, beq_self_eq_true]
      · have e3 : (y == ("at" : Str)) = false := by simpa using e2
        rw [if_neg e2, List.lookup_cons, e3]
        rfl
  rw [em]
  exact hns
end
end Cx0
namespace Cn
open PySem PySem.Spec PyProof.Rows L2
section
variable {X : Cx} {C : Addr} {fs : List Str} {x : Str} {p pos : Pos} {e : Expr} {es : List Expr} {ta : TA}
theorem mgB (I : Mod X.K X.mg X.base) : ∃ mb, X.base.Ns builtinsNs mb ∧ mb "super" = some (.type "super") := by
  obtain ⟨mb, h1, h2⟩ := I.blt
  exact ⟨mb, h1, (h2 "super" (by decide)).trans (by first | rfl | decide +kernel | kernel_rfl)⟩
theorem relZip {fs : List Str} {vs : List V} {us : List Value} (r : Vals vs us) : ∀ g, RelO ((fs.zip vs).lookup g) ((fs.zip us).lookup g) := by
  induction r generalizing fs with
  | nil =>
    intro g
    rw [List.zip_nil_right, List.zip_nil_right]
    trivial
  | @cons v u vs us rv r ih =>
    intro g
    cases fs with
    | nil => trivial
    | cons f fs =>
      rw [List.zip_cons_cons, List.zip_cons_cons, List.lookup_cons, List.lookup_cons]
      cases h : (g == f) with
      | true => exact rv
      | false => exact ih g
/-- the class at C is called -/
theorem callE (M : Cx0.MkE X.prog X.w X.K X.mg C fs) {k : Nat} (hr : Room k X.A) {pins : List (Addr × Obj)} {s : Shared} {σ : L2.St} {H : Hp} {vs : List V} {us : List Value} {Q : Value → Shared → Prop} (I : Inv X pins σ H s) (r : Vals vs us) (hl : vs.length = fs.length)
    (h : ∀ h' tk e t1 d, (∀ b o, s.heap.get? b = some o → h'.get? b = some o) → s.heap.objs.size ≤ e → h'.get? e = some (Cx0.excD C t1 d) →
      ((fs = [] ∧ d = none) ∨ (fs ≠ [] ∧ ∃ dx, d = some dx ∧ s.heap.objs.size ≤ dx ∧ dx ≠ e ∧ h'.Ns1 dx (fun y => (fs.zip us).lookup y))) → Q (.ref e) { s with heap := h', toks := tk }) :
    wpAny (model X.prog X.w) X.A (call (.ref C) us) Q X.xe s := by
  obtain ⟨mb, hB, bS⟩ := mgB I.mod
  refine wpAny_call (M.run X.A _ s us mb I.kIn I.nolimit (I.mod.glob.keeps I.bk) (hB.keeps I.bk) bS (by rw [← r.length]; exact hl) (by have := hr.dp; omega) fun h' tk e t1 d a1 a2 a3 a4 => ?_)
  exact h h' tk e t1 d a1 a2 a3 a4
/-- X(), a new exception as a value -/
def tMk0 (C : Addr) : TE := fun _ H Q => ∀ a, H a = none → Q (.ref a) (upd H a (exo a C none))
theorem pe_mk0 (M : Cx0.MkE X.prog X.w X.K X.mg C []) {k : Nat} (hr : Room k X.A) (gC : X.mg x = some (.ref C)) (hg : Gl X x := by rfl) (hdb : (x == ("__debug__" : Str)) = false := by decide) : PE X (.Call (.Name x p) [] [] pos) (tMk0 C) := by
  refine ⟨fun pins s σ H Q I h => ?_⟩
  refine wpAny_Call_Name_kw (ld_glob I hg gC ?_ hdb)
  refine PySem.W.callWith_K0 I.kIn M.oex.kC (callE M hr I .nil rfl fun h' tk e t1 d a1 a2 a3 a4 => ?_)
  rcases a4 with ⟨_, rfl⟩ | ⟨z, _⟩
  · exact ⟨.ref e, _, I.laid (t' := tk) a1 a2 (exo_ok a3), rfl, h e (I.hok.fresh a2)⟩
  · exact absurd rfl z
/-- X(..), with fields -/
def tMkN (C : Addr) (fs : List Str) (ta : TA) : TE := fun σ H Q => ta σ H fun vs H1 => vs.length = fs.length ∧ ∀ a d, H1 a = none → H1 d = none → d ≠ a → Q (.ref a) (upd (upd H1 d (.xd (fs.zip vs))) a (exo a C (some d)))
theorem pe_mkN (M : Cx0.MkE X.prog X.w X.K X.mg C fs) {k : Nat} (hr : Room k X.A) (hf : fs ≠ []) (gC : X.mg x = some (.ref C)) (ha : PA X (e :: es) ta) (hg : Gl X x := by rfl) (hdb : (x == ("__debug__" : Str)) = false := by decide)
    (he : starEach (e :: es) X.env = (false, eval e X.env) :: starEach es X.env := by rfl) (hpl : (backTo pos (starEach es X.env)).any (·.1) = false := by rfl) : PE X (.Call (.Name x p) (e :: es) [] pos) (tMkN C fs ta) := by
  refine ⟨fun pins s σ H Q I h => ?_⟩
  refine wpAny_Call_Name_kw (ld_glob I hg gC ?_ hdb)
  refine PySem.W.callWith_K (h₀ := X.base) I.ok.mod.kin M.oex.kC (thn (ha.run pos pins s σ H _ I h) fun us s1 ⟨vs, H1, I1, r1, hl, q⟩ => ⟨I1.kIn, ?_⟩) he hpl
  refine callE M hr I1 r1 hl fun h' tk e t1 d a1 a2 a3 a4 => ?_
  rcases a4 with ⟨z, _⟩ | ⟨_, dx, rfl, a5, a6, a7⟩
  · exact absurd z hf
  · obtain ⟨G, g1, g2⟩ := restrict h' fun b => decide (b ≠ e)
    have gk : ∀ b, b ≠ e → G.get? b = h'.get? b := fun b hb => g1 b (decide_eq_true hb)
    have ge : G.get? e = none := g2 e (by simp)
    have old : ∀ b o, s1.heap.get? b = some o → G.get? b = some o := fun b o z => (gk b (Nat.ne_of_lt (Nat.lt_of_lt_of_le (Heap.lt_size z) a2))).trans (a1 b o z)
    have J1 : Inv X pins σ (upd H1 dx (.xd (fs.zip vs))) { s1 with heap := G, toks := tk } := I1.laid (t' := tk) old a5 ⟨_, a7.at fun o z => (gk dx a6).trans z, relZip r1⟩
    have nd : H1 dx = none := I1.hok.fresh a5
    have ne : H1 e = none := I1.hok.fresh a2
    have J2 := J1.laidN (t' := tk) (h' := h') (a := e) (o := exo e C (some dx)) (fun b o z => by
      by_cases hb : b = e
      · have z' : G.get? b = some o := z
        rw [hb, ge] at z'; cases z'
      · exact (gk b hb).symm.trans z) ge (by rw [upd_ne (Ne.symm a6)]; exact ne) (exo_ok a3)
    exact ⟨.ref e, _, J2, rfl, q e dx ne nd a6⟩

/-- X(..) to be raised -/
def tRaiseN (C : Addr) (fs : List Str) (ta : TA) : L2.St → Hp → XK → Prop := fun σ H Q => ta σ H fun vs H1 => vs.length = fs.length ∧ ∀ d, H1 d = none → Q (.ref C) (some d) (upd H1 d (.xd (fs.zip vs)))
theorem pm_N (M : Cx0.MkE X.prog X.w X.K X.mg C fs) {k : Nat} (hr : Room k X.A) (hf : fs ≠ []) (gC : X.mg x = some (.ref C)) (ha : PA X (e :: es) ta) (hg : Gl X x := by rfl) (hdb : (x == ("__debug__" : Str)) = false := by decide)
    (he : starEach (e :: es) X.env = (false, eval e X.env) :: starEach es X.env := by rfl) (hpl : (backTo pos (starEach es X.env)).any (·.1) = false := by rfl) : L2N.PMk X (.Call (.Name x p) (e :: es) [] pos) (tRaiseN C fs ta) := by
  intro pins s σ H Q I h
  refine wpAny_Call_Name_kw (ld_glob I hg gC ?_ hdb)
  refine PySem.W.callWith_K (h₀ := X.base) I.ok.mod.kin M.oex.kC (thn (ha.run pos pins s σ H _ I h) fun us s1 hh => ?_) he hpl
  obtain ⟨vs, H1, I1, r1, hl, q⟩ := hh
  refine ⟨I1.kIn, ?_⟩
  refine callE M hr I1 r1 hl fun h' tk e t1 d a1 a2 a3 a4 => ?_
  rcases a4 with ⟨z, _⟩ | ⟨_, dx, rfl, a5, a6, a7⟩
  · exact absurd z hf
  · obtain ⟨G, g1, g2⟩ := restrict h' fun b => decide (b ≠ e)
    have gk : ∀ b, b ≠ e → G.get? b = h'.get? b := fun b hb => g1 b (decide_eq_true hb)
    have ge : G.get? e = none := g2 e (by simp)
    have old : ∀ b o, s1.heap.get? b = some o → G.get? b = some o := fun b o z => (gk b (Nat.ne_of_lt (Nat.lt_of_lt_of_le (Heap.lt_size z) a2))).trans (a1 b o z)
    have J1 : Inv X pins σ (upd H1 dx (.xd (fs.zip vs))) { s1 with heap := G, toks := tk } := I1.laid (t' := tk) old a5 ⟨_, a7.at fun o z => (gk dx a6).trans z, relZip r1⟩
    refine ⟨e, _, _, { s1 with heap := G, toks := tk }, _, .ref C, some dx, rfl, J1, fun b o z => ?_, ge, a3, ⟨rfl, rfl, fun vs z => by cases z; rfl⟩, rfl, rfl, ?_, rfl, I1.bare, raises_own M.oex.exC M.oex.tyC, q dx (I1.hok.fresh a5)⟩
    · have hb : b ≠ e := fun w => by
        have z' : G.get? b = some o := z
        rw [w, ge] at z'; cases z'
      exact (gk b hb).symm.trans z
    · rw [upd_ne (Ne.symm a6)]
      exact I1.hok.fresh a2
/-! isinstance(e, c), e an exception of the class at D -/
def XdAt (H : Hp) (d : Option Addr) : Prop := d = none ∨ ∃ dx fs, d = some dx ∧ H dx = some (.xd fs)
theorem instX {pins : List (Addr × Obj)} {s : Shared} {σ : L2.St} {H : Hp} {a D : Addr} {d : Option Addr} {oe : Obj} (I : Inv X pins σ H s) (hd : XdAt H d) (ho : s.heap.get? a = some oe) (hz : Zc (.ref D) d oe) (hf : ∃ vs, oe.data = .fields vs) :
    ∃ od, PySem.W.InstAt s.heap a oe D od := by
  obtain ⟨vs, hv⟩ := hf
  have hn : PySem.W.notCls oe = true := by unfold PySem.W.notCls; rw [hv] <;> rfl
  rcases hd with rfl | ⟨dx, fs, rfl, hx⟩
  · exact ⟨none, ho, hz.1, hn, by rw [hz.2]; trivial⟩
  · obtain ⟨mA, hns, _⟩ := (show ObjOk X.prog X.w H s.heap dx (.xd fs) from I.hok dx _ hx)
    obtain ⟨od, hod, _⟩ := lookIn_ns hns
    exact ⟨some od, ho, hz.1, hn, by rw [hz.2]; exact hod⟩
theorem isX {pins : List (Addr × Obj)} {s : Shared} {σ : L2.St} {H : Hp} {a D : Addr} {d : Option Addr} {oe : Obj} {cv : Value} {b : Bool} {Q : Value → Shared → Prop} {E : Value → Shared → Prop} (T : ExcC X.K D) (I : Inv X pins σ H s) (hd : XdAt H d) (ho : s.heap.get? a = some oe) (hz : Zc (.ref D) d oe) (hf : ∃ vs, oe.data = .fields vs)
    (e : PySem.W.kitOne X.K (.ref D) cv = some b) (h : ∀ tk, Q (.bool b) { s with toks := tk }) : wpAny (model X.prog X.w) X.A (call (.builtin "isinstance") [.ref a, cv]) Q E s := by
  obtain ⟨od, J⟩ := instX I hd ho hz hf
  obtain ⟨cd, hc, _⟩ := PySem.W.any_some T.hd
  exact PySem.W.kia_one (PySem.W.kitx_exc (by rw [hc]; rfl) T.hg T.hk T.hs T.ha T.hn T.ht T.hm) I.kIn J e (fun z => nomatch z) h
/-- the tracked one -/
def rIsX (K : PySem.W.Frag) : List V → Hp → VK → Prop := fun xs H Q => ∃ (a D : Addr) (d : Option Addr) (c : V) (cv : Value) (b : Bool), xs = [.ref a, c] ∧ ExcC K D ∧ H a = some (exo a D d) ∧ XdAt H d ∧ (∀ u, RelV c u → u = cv) ∧ PySem.W.kitOne K (.ref D) cv = some b ∧ Q (.bl b) H
theorem call_isX : CallR X (.builtin "isinstance") (rIsX X.K) := by
  intro pins s σ H xs us Q I r h
  obtain ⟨a, D, d, c, cv, b, rfl, T, ha, hd, hcv, e, q⟩ := h
  obtain ⟨u1, u2, rfl, r1, r2⟩ := vals2 r
  cases (show u1 = Value.ref a from r1)
  cases hcv _ r2
  obtain ⟨t1, ho⟩ := exo_at I.hok ha
  exact isX T I hd ho ⟨rfl, rfl⟩ ⟨_, rfl⟩ e fun tk => ⟨.bl b, H, I.tok tk, rfl, q⟩
/-- the pinned one -/
def rIsP (K : PySem.W.Frag) (a D : Addr) (d : Option Addr) : List V → Hp → VK → Prop := fun xs H Q => ∃ (c : V) (cv : Value) (b : Bool), xs = [.ref a, c] ∧ XdAt H d ∧ (∀ u, RelV c u → u = cv) ∧ PySem.W.kitOne K (.ref D) cv = some b ∧ Q (.bl b) H
theorem call_isP {a D : Addr} {d : Option Addr} {oe : Obj} (T : ExcC X.K D) (hp : (a, oe) ∈ X.pn) (hz : Zc (.ref D) d oe) (hf : ∃ vs, oe.data = .fields vs) : CallR X (.builtin "isinstance") (rIsP X.K a D d) := by
  intro pins s σ H xs us Q I r h
  obtain ⟨c, cv, b, rfl, hd, hcv, e, q⟩ := h
  obtain ⟨u1, u2, rfl, r1, r2⟩ := vals2 r
  cases (show u1 = Value.ref a from r1)
  cases hcv _ r2
  exact isX T I hd (I.pin (a, oe) (List.mem_append_left _ hp)).1 hz hf e fun tk => ⟨.bl b, H, I.tok tk, rfl, q⟩
/-! e.f, a field of an exception -/
theorem fldX {pins : List (Addr × Obj)} {s : Shared} {σ : L2.St} {H : Hp} {a D dx : Addr} {oe : Obj} {fs : List (Str × V)} {f : Str} {v : V} {Q : VK} {E : Value → Shared → Prop} (T : ExcC X.K D) (I : Inv X pins σ H s) (hx : H dx = some (.xd fs)) (ho : s.heap.get? a = some oe) (hz : Zc (.ref D) (some dx) oe) (hf : ∃ vs, oe.data = .fields vs)
    (hno : PySem.W.findIn X.K (.ref D) f = some none) (hl : fs.lookup f = some v) (q : Q v H) : wpAny (model X.prog X.w) X.A (getAttr (.ref a) f true) (EP X pins σ Q) E s := by
  obtain ⟨mA, hns, hr⟩ := (show ObjOk X.prog X.w H s.heap dx (.xd fs) from I.hok dx _ hx)
  obtain ⟨od, hod, hlk⟩ := lookIn_ns hns
  obtain ⟨vs, hv⟩ := hf
  have hn : PySem.W.notCls oe = true := by unfold PySem.W.notCls; rw [hv] <;> rfl
  have J : PySem.W.InstAt s.heap a oe D (some od) := ⟨ho, hz.1, hn, by rw [hz.2]; exact hod⟩
  obtain ⟨u, hu, ru⟩ := RelO.some_of (v := v) (o := mA f) (by rw [← hl]; exact hr f)
  exact HandSPX.exc_get I.kIn J T.hg T.hk T.hs (PySem.W.findObj_own T.hd hno rfl (by rw [hlk, hu])) (handed_of ru) ⟨v, H, I.tok _, ru, q⟩
def tFldX (K : PySem.W.Frag) (f : Str) (te : TE) : TE := fun σ H Q => te σ H fun y H1 => ∃ (a D dx : Addr) (fs : List (Str × V)) (v : V), y = .ref a ∧ ExcC K D ∧ H1 a = some (exo a D (some dx)) ∧ H1 dx = some (.xd fs) ∧ PySem.W.findIn K (.ref D) f = some none ∧ fs.lookup f = some v ∧ Q v H1
theorem pe_fldX {f : Str} {te : TE} (he : PE X e te) (hb : attributeBase e f X.env (eval e X.env) = eval e X.env := by rfl) : PE X (.Attribute e f pos) (tFldX X.K f te) := by
  refine ⟨fun pins s σ H Q I h => ?_⟩
  refine attr_of hb (thn (he.run pins s σ H _ I h) fun u s1 ⟨y, H1, I1, r1, a, D, dx, fs, v, ey, T, ha, hx, hno, hl, q⟩ => ?_)
  subst ey
  cases (show u = Value.ref a from r1)
  obtain ⟨t1, ho⟩ := exo_at I1.hok ha
  exact fldX T I1 hx ho ⟨rfl, rfl⟩ ⟨_, rfl⟩ hno hl q
def tFldP (a dx : Addr) (f : Str) (te : TE) : TE := fun σ H Q => te σ H fun y H1 => ∃ (fs : List (Str × V)) (v : V), y = .ref a ∧ H1 dx = some (.xd fs) ∧ fs.lookup f = some v ∧ Q v H1
theorem pe_fldP {f : Str} {te : TE} {a D dx : Addr} {oe : Obj} (T : ExcC X.K D) (hp : (a, oe) ∈ X.pn) (hz : Zc (.ref D) (some dx) oe) (hf : ∃ vs, oe.data = .fields vs) (hno : PySem.W.findIn X.K (.ref D) f = some none) (he : PE X e te) (hb : attributeBase e f X.env (eval e X.env) = eval e X.env := by rfl) :
    PE X (.Attribute e f pos) (tFldP a dx f te) := by
  refine ⟨fun pins s σ H Q I h => ?_⟩
  refine attr_of hb (thn (he.run pins s σ H _ I h) fun u s1 ⟨y, H1, I1, r1, fs, v, ey, hx, hl, q⟩ => ?_)
  subst ey
  cases (show u = Value.ref a from r1)
  exact fldX T I1 hx (I1.pin (a, oe) (List.mem_append_left _ hp)).1 hz hf hno hl q
end
end Cn
namespace Cn
open PySem PySem.Spec PyProof.Rows L2 Cx0
/-- what all the classes share -/
structure ShT (prog : Program) (K : PySem.W.Frag) (mg : Str → Option Value) : Prop where
  hn : PySem.W.specialIn K (.builtin "object.__class__") "__get__" = some (some (.builtin "getset_descriptor.__get__"))
  ht : PySem.W.takesIn K (.builtin "object.__class__") = some true
  opq : PySem.W.nsIn K cStatics "thirdparty.any" = some none
  mS : mg "super" = none
  htop : (prog.main.scope.names.lookup ("super" : Str)).isSome = false
abbrev bmOf (NE : Addr) : List Value := [.ref NE, .type "ValueError", .type "Exception", .type "BaseException", .type "object"]
structure ClsRes (P : Program) (w : World) (K : PySem.W.Frag) (mg : Str → Option Value) (nm : Str) (C NE : Addr) (fs : List Str) : Prop where
  g : mg nm = some (.ref C)
  mkE : Cx0.MkE P w K mg C fs
  ex : ExcC K C
  cd : ∃ cd, PySem.W.clsIn K C = some cd ∧ cd.mro = .ref C :: bmOf NE
  ty : PySem.W.typeIn K (.ref C) = some (.type "type")
  no : ∀ f ∈ fs, PySem.W.findIn K (.ref C) f = some none
/-- the facts of one class that are found in the written part -/
structure ClsTxt (K : PySem.W.Frag) (nm : Str) (C NE fI : Addr) : Prop where
  aC : PySem.W.nsIn K mainGlobals nm = some (some (.ref C))
  xL : ∃ nm q N bs sn sub ab col dd k0 k1 k2 k3 k5, K.lookup C = some (excClassObj nm q C N bs (bmOf NE) true sn sub ab col dd k0 k1 k2 k3 k5 "ValueError.__new__")
  sa : PySem.W.findIn K (.ref C) "__setattr__" = some (some (.builtin "object.__setattr__"))
  ga : PySem.W.findIn K (.ref C) "__getattribute__" = some (some (.builtin "BaseException.__getattribute__"))
  gg : PySem.W.findIn K (.ref C) "__getattr__" = some none
  ha : PySem.W.findIn K (.ref C) "__class__" = some (some (.builtin "object.__class__"))
  iC : PySem.W.findIn K (.ref C) "__init__" = some (some (.ref fI))
  tI : PySem.W.typeIn K (.ref fI) = some (.type "function")
  kC : PySem.W.keepIn K (.ref C) = true
  su : PySem.W.ks_superIn K C C "__init__" = some (some (.builtin "ValueError.__init__"))
section
variable {P : Program} {w : World} {K : PySem.W.Frag} {mg : Str → Option Value} {h : Heap} {nm : Str} {C NE fI cc cda : Addr}
theorem cd_of (T : ClsTxt K nm C NE fI) : ∃ cd, PySem.W.clsIn K C = some cd ∧ cd.mro = .ref C :: bmOf NE ∧ cd.hasDict = true := by
  obtain ⟨nm, q, N, bs, sn, sub, ab, col, dd, k0, k1, k2, k3, k5, hC⟩ := T.xL
  refine ⟨{ name := nm, bases := bs, mro := .ref C :: bmOf NE, ns := N, qualname := q, hasDict := true, slotNames := sn, subclasses := sub, abstract := ab, collection := col, hasDel := false }, ?_, rfl, rfl⟩
  unfold PySem.W.clsIn
  rw [hC] <;> rfl
theorem mro_of {cd : ClassData} {v : Value} {b : Bool} (h1 : PySem.W.clsIn K C = some cd) (h2 : cd.mro = .ref C :: bmOf NE) (h3 : (Value.ref C :: bmOf NE).contains v = b) : PySem.W.mroIn K C v = some b := by
  unfold PySem.W.mroIn
  rw [h1, Option.bind_some, h2, h3]
  rfl
theorem memT {v : Value} (hv : v ∈ Value.ref C :: bmOf NE) : (Value.ref C :: bmOf NE).contains v = true := List.contains_iff_mem.mpr hv
theorem ty_of (T : ClsTxt K nm C NE fI) : PySem.W.typeIn K (.ref C) = some (.type "type") := by
  obtain ⟨nm, q, N, bs, sn, sub, ab, col, dd, k0, k1, k2, k3, k5, hC⟩ := T.xL
  show (K.lookup C).map _ = _
  rw [hC] <;> rfl
theorem res_of {fs : List Str} (X : K.In h) (G : h.Ns mainGlobals mg) (S : ShT P K mg) (T : ClsTxt K nm C NE fI) (cell : ∃ a b d, K.lookup cc = some ⟨a, b, .cell (some (.ref C)), d⟩)
    (code : ∃ (a : Value) (b : Option Addr) (vs : Array Value) (d : Array (Option Value)) (file : Str) (tf : Tok), K.lookup cda = some ⟨a, b, .fields vs, d⟩ ∧ vs[2]? = some (.str file tf) ∧ ((P.main.file : Str) == file) = true)
    (no : ∀ f ∈ fs, PySem.W.findIn K (.ref C) f = some none) (mk : Cx0.EInit P K C cc cda → Cx0.MkE P w K mg C fs) : ClsRes P w K mg nm C NE fs := by
  obtain ⟨cd, h1, h2, h3⟩ := cd_of T
  have mB : PySem.W.subIn K (.ref C) (.type "BaseException") = some true := mro_of h1 h2 (memT (by simp))
  have O : L2.OexC K C := by
    obtain ⟨nm, q, N, bs, sn, sub, ab, col, dd, k0, k1, k2, k3, k5, hC⟩ := T.xL
    exact ⟨⟨nm, q, N, bs, _, sn, sub, ab, col, dd, k0, k1, k2, k3, k5, hC, (by show PySem.HandSPX.refsVE [.type "ValueError", .type "Exception", .type "BaseException", .type "object"] = true; decide +kernel)⟩, T.sa, mB, ty_of T, T.kC⟩
  have EI : Cx0.EInit P K C cc cda := ⟨O, cell, code, mro_of h1 h2 (memT (by simp)), T.su, mro_of h1 h2 (memT (by simp)), S.opq⟩
  exact ⟨PySem.W.mg_of X G T.aC, mk EI, ⟨T.ga, T.gg, mB, by unfold PySem.W.hasDictIn; rw [h1]; exact h3, T.ha, S.hn, S.ht, mro_of h1 h2 (memT (by simp))⟩, ⟨cd, h1, h2⟩, ty_of T, no⟩
end
end Cn
namespace Cn
open PySem PySem.Spec PyProof.Rows L2 Cx0
section
variable {P : Program} {w : World} {K : PySem.W.Frag} {mg : Str → Option Value} {h : Heap} {nm : Str} {C NE fI cc cda : Addr}
theorem cls0 {nm0 q0 : Str} {N : Addr} {bs : List Value} {sn : List Str} {sub : List Value} {ab : Bool} {col : Option Bool} {dd : Option Addr} {m0 m1 m2 m3 m5 : Option Value}
    {q : Str} {sf p0 p1 p2 p3 p4 p5 : Pos} {msg : Str} {kk : Nat} {oc kV doc pm ct : Value} {an od : Option Addr} {osl : Array (Option Value)}
    {a1 : Value} {b1 : Option Addr} {d1 : Array (Option Value)} {a2 : Value} {b2 : Option Addr} {vs2 : Array Value} {d2 : Array (Option Value)} {file : Str} {tf : Tok}
    (X : K.In h) (G : h.Ns mainGlobals mg) (S : ShT P K mg) (aC : PySem.W.nsIn K mainGlobals nm = some (some (.ref C)))
    (xL : K.lookup C = some (excClassObj nm0 q0 C N bs (bmOf NE) true sn sub ab col dd m0 m1 m2 m3 m5 "ValueError.__new__"))
    (sa : PySem.W.findIn K (.ref C) "__setattr__" = some (some (.builtin "object.__setattr__"))) (ga : PySem.W.findIn K (.ref C) "__getattribute__" = some (some (.builtin "BaseException.__getattribute__"))) (gg : PySem.W.findIn K (.ref C) "__getattr__" = some none)
    (ha : PySem.W.findIn K (.ref C) "__class__" = some (some (.builtin "object.__class__"))) (iC : PySem.W.findIn K (.ref C) "__init__" = some (some (.ref fI))) (tI : PySem.W.typeIn K (.ref fI) = some (.type "function")) (kC : PySem.W.keepIn K (.ref C) = true)
    (su : PySem.W.ks_superIn K C C "__init__" = some (some (.builtin "ValueError.__init__")))
    (hf : K.lookup fI = some ⟨oc, od, .func (PySem.W.ksFn "__init__" q (eArgs [("self", sf)]) [eSup msg kk p0 p1 p2 p3 p4 p5] (eScope ["self"]) .none kV doc pm an (.ref cda) ct cc), osl⟩)
    (hcd : PySem.W.codeIn K (.ref cda) q = true) (cell : K.lookup cc = some ⟨a1, b1, .cell (some (.ref C)), d1⟩)
    (code : K.lookup cda = some ⟨a2, b2, .fields vs2, d2⟩) (vf : vs2[2]? = some (.str file tf)) (fl : ((P.main.file : Str) == file) = true)
    (he : ∀ L, SupForm (PySem.W.ksEnv q (eScope ["self"]) L fI (.ref cda) cc) msg kk p0 p1 p2 p3 p4) : ClsRes P w K mg nm C NE [] :=
  res_of X G S ⟨aC, ⟨_, _, _, _, _, _, _, _, _, _, _, _, _, _, xL⟩, sa, ga, gg, ha, iC, tI, kC, su⟩ ⟨_, _, _, cell⟩ ⟨_, _, _, _, _, _, code, vf, fl⟩ (fun f z => by cases z) fun EI => mkE0 EI iC tI S.mS hf hcd S.htop he
theorem cls1 {f : Str} {sg q1 q2 q3 q4 : Pos} {nm0 q0 : Str} {N : Addr} {bs : List Value} {sn : List Str} {sub : List Value} {ab : Bool} {col : Option Bool} {dd : Option Addr} {m0 m1 m2 m3 m5 : Option Value}
    {q : Str} {sf p0 p1 p2 p3 p4 p5 : Pos} {msg : Str} {kk : Nat} {oc kV doc pm ct : Value} {an od : Option Addr} {osl : Array (Option Value)}
    {a1 : Value} {b1 : Option Addr} {d1 : Array (Option Value)} {a2 : Value} {b2 : Option Addr} {vs2 : Array Value} {d2 : Array (Option Value)} {file : Str} {tf : Tok}
    (X : K.In h) (G : h.Ns mainGlobals mg) (S : ShT P K mg) (aC : PySem.W.nsIn K mainGlobals nm = some (some (.ref C)))
    (xL : K.lookup C = some (excClassObj nm0 q0 C N bs (bmOf NE) true sn sub ab col dd m0 m1 m2 m3 m5 "ValueError.__new__"))
    (sa : PySem.W.findIn K (.ref C) "__setattr__" = some (some (.builtin "object.__setattr__"))) (ga : PySem.W.findIn K (.ref C) "__getattribute__" = some (some (.builtin "BaseException.__getattribute__"))) (gg : PySem.W.findIn K (.ref C) "__getattr__" = some none)
    (ha : PySem.W.findIn K (.ref C) "__class__" = some (some (.builtin "object.__class__"))) (iC : PySem.W.findIn K (.ref C) "__init__" = some (some (.ref fI))) (tI : PySem.W.typeIn K (.ref fI) = some (.type "function")) (kC : PySem.W.keepIn K (.ref C) = true)
    (su : PySem.W.ks_superIn K C C "__init__" = some (some (.builtin "ValueError.__init__")))
    (hf : K.lookup fI = some ⟨oc, od, .func (PySem.W.ksFn "__init__" q (eArgs [("self", sf), (f, sg)]) [eSup msg kk p0 p1 p2 p3 p4 p5, eSt f q1 q2 q3 q4] (eScope ["self", f]) .none kV doc pm an (.ref cda) ct cc), osl⟩)
    (hcd : PySem.W.codeIn K (.ref cda) q = true) (cell : K.lookup cc = some ⟨a1, b1, .cell (some (.ref C)), d1⟩)
    (code : K.lookup cda = some ⟨a2, b2, .fields vs2, d2⟩) (vf : vs2[2]? = some (.str file tf)) (fl : ((P.main.file : Str) == file) = true)
    (he : ∀ L, SupForm (PySem.W.ksEnv q (eScope ["self", f]) L fI (.ref cda) cc) msg kk p0 p1 p2 p3 p4) (no : PySem.W.findIn K (.ref C) f = some none)
    (hb : ∀ (x v : Value), bindArgs (PySem.W.ksFn "__init__" q (eArgs [("self", sf), (f, sg)]) [eSup msg kk p0 p1 p2 p3 p4 p5, eSt f q1 q2 q3 q4] (eScope ["self", f]) .none kV doc pm an (.ref cda) ct cc) ⟨[x, v], []⟩ = pure [(("self" : Str), x), (f, v)])
    (l1 : (eScope ["self", f]).names.lookup f = some .local) (l2 : (eScope ["self", f]).names.lookup ("super" : Str) = some .globalImplicit) (l3 : (eScope ["self", f]).names.lookup ("__class__" : Str) = some .free) (l4 : (f == ("__debug__" : Str)) = false) (l5 : (("self" : Str) == f) = false) : ClsRes P w K mg nm C NE [f] :=
  res_of X G S ⟨aC, ⟨_, _, _, _, _, _, _, _, _, _, _, _, _, _, xL⟩, sa, ga, gg, ha, iC, tI, kC, su⟩ ⟨_, _, _, cell⟩ ⟨_, _, _, _, _, _, code, vf, fl⟩ (fun g z => by rw [List.mem_singleton.mp z]; exact no) fun EI => mkE1 EI iC tI S.mS hf hcd S.htop he no hb l1 l2 l3 l4 l5
theorem cls2 {sg sh q1 q2 q3 q4 r1 r2 r3 r4 : Pos} {nm0 q0 : Str} {N : Addr} {bs : List Value} {sn : List Str} {sub : List Value} {ab : Bool} {col : Option Bool} {dd : Option Addr} {m0 m1 m2 m3 m5 : Option Value}
    {q : Str} {sf p0 p1 p2 p3 p4 p5 : Pos} {msg : Str} {kk : Nat} {oc kV doc pm ct : Value} {an od : Option Addr} {osl : Array (Option Value)}
    {a1 : Value} {b1 : Option Addr} {d1 : Array (Option Value)} {a2 : Value} {b2 : Option Addr} {vs2 : Array Value} {d2 : Array (Option Value)} {file : Str} {tf : Tok}
    (X : K.In h) (G : h.Ns mainGlobals mg) (S : ShT P K mg) (aC : PySem.W.nsIn K mainGlobals nm = some (some (.ref C)))
    (xL : K.lookup C = some (excClassObj nm0 q0 C N bs (bmOf NE) true sn sub ab col dd m0 m1 m2 m3 m5 "ValueError.__new__"))
    (sa : PySem.W.findIn K (.ref C) "__setattr__" = some (some (.builtin "object.__setattr__"))) (ga : PySem.W.findIn K (.ref C) "__getattribute__" = some (some (.builtin "BaseException.__getattribute__"))) (gg : PySem.W.findIn K (.ref C) "__getattr__" = some none)
    (ha : PySem.W.findIn K (.ref C) "__class__" = some (some (.builtin "object.__class__"))) (iC : PySem.W.findIn K (.ref C) "__init__" = some (some (.ref fI))) (tI : PySem.W.typeIn K (.ref fI) = some (.type "function")) (kC : PySem.W.keepIn K (.ref C) = true)
    (su : PySem.W.ks_superIn K C C "__init__" = some (some (.builtin "ValueError.__init__")))
    (hf : K.lookup fI = some ⟨oc, od, .func (PySem.W.ksFn "__init__" q (eArgs [("self", sf), ("part", sg), ("at", sh)]) [eSup msg kk p0 p1 p2 p3 p4 p5, eSt "part" q1 q2 q3 q4, eSt "at" r1 r2 r3 r4] (eScope ["self", "part", "at"]) .none kV doc pm an (.ref cda) ct cc), osl⟩)
    (hcd : PySem.W.codeIn K (.ref cda) q = true) (cell : K.lookup cc = some ⟨a1, b1, .cell (some (.ref C)), d1⟩)
    (code : K.lookup cda = some ⟨a2, b2, .fields vs2, d2⟩) (vf : vs2[2]? = some (.str file tf)) (fl : ((P.main.file : Str) == file) = true)
    (he : ∀ L, SupForm (PySem.W.ksEnv q (eScope ["self", "part", "at"]) L fI (.ref cda) cc) msg kk p0 p1 p2 p3 p4) (no : PySem.W.findIn K (.ref C) "part" = some none) (no2 : PySem.W.findIn K (.ref C) "at" = some none) : ClsRes P w K mg nm C NE ["part", "at"] :=
  res_of X G S ⟨aC, ⟨_, _, _, _, _, _, _, _, _, _, _, _, _, _, xL⟩, sa, ga, gg, ha, iC, tI, kC, su⟩ ⟨_, _, _, cell⟩ ⟨_, _, _, _, _, _, code, vf, fl⟩ (fun g z => by
    rcases List.mem_cons.mp z with e | z
    · rw [e]; exact no
    · rw [List.mem_singleton.mp z]; exact no2) fun EI => mkE2 EI iC tI S.mS hf hcd S.htop he no no2
/-! of two classes -/
theorem valNe {a b : Addr} (h : a ≠ b) : (Value.ref a == Value.ref b) = false := by
  rw [beq_eq_false_iff_ne]
  intro z
  cases z
  exact h rfl
theorem isCls {cd : ClassData} (h : PySem.W.clsIn K C = some cd) (t : PySem.W.typeIn K (.ref C) = some (.type "type")) : ((PySem.W.clsIn K C).isSome && PySem.W.typeIn K (.ref C) == some (.type "type")) = true := by
  rw [h, t] <;> rfl
theorem kitRef {a b : Addr} {d : Bool} (ne : a ≠ b) (t : ((PySem.W.clsIn K b).isSome && PySem.W.typeIn K (.ref b) == some (.type "type")) = true) (m : PySem.W.mroIn K a (.ref b) = some d) : PySem.W.kitOne K (.ref a) (.ref b) = some d := by
  unfold PySem.W.kitOne
  rw [if_neg (by rw [valNe ne]; exact Bool.false_ne_true)]
  show (if _ then _ else _) = _
  rw [if_pos t]
  exact m
theorem mroNo {a b NE : Addr} (h1 : b ≠ a) (h2 : b ≠ NE) : (Value.ref a :: bmOf NE).contains (Value.ref b) = false := by
  rw [Bool.eq_false_iff]
  intro z
  have z := List.contains_iff_mem.mp z
  rcases List.mem_cons.mp z with e | z
  · cases e; exact h1 rfl
  rcases List.mem_cons.mp z with e | z
  · cases e; exact h2 rfl
  · simp at z
theorem kitTy {a NE : Addr} {cd : ClassData} (h1 : PySem.W.clsIn K a = some cd) (h2 : cd.mro = .ref a :: bmOf NE) : PySem.W.kitOne K (.ref a) (.type "ValueError") = some true := by
  unfold PySem.W.kitOne
  have nb : (Value.ref a == Value.type "ValueError") = false := by
    rw [beq_eq_false_iff_ne]
    intro z
    cases z
  rw [if_neg (by rw [nb]; exact Bool.false_ne_true)]
  unfold PySem.W.kitCls
  have km : PySem.W.kitMeta "ValueError" = true := by decide +kernel
  dsimp only
  rw [if_pos km]
  exact mro_of h1 h2 (memT (by simp))
/-- the fields of an error class -/
def fsOf (x : Str) : List Str := if x = "BadForest" then ["part", "at"] else if x = "TooMany" then ["most"] else if x = "NoRow" then ["place"] else if x = "BadText" then ["line"] else []
/-- the error classes of a text -/
structure ErrL (P : Program) (w : World) (K : PySem.W.Frag) (mg : Str → Option Value) (NE : Addr) (l : List (Str × Addr)) : Prop where
  e : ∀ p ∈ l, ClsRes P w K mg p.1 p.2 NE (fsOf p.1)
  inj : ∀ p ∈ l, ∀ q ∈ l, p.2 = q.2 → p = q
  ne : ∀ p ∈ l, p.2 ≠ NE
  gNE : mg "NoteError" = some (.ref NE)
  iNE : PySem.W.isClsIn K NE = true
  tNE : PySem.W.typeIn K (.ref NE) = some (.type "type")
  sNE : PySem.W.subIn K (.ref NE) (.type "BaseException") = some true
theorem ErrL.tE {l : List (Str × Addr)} (T : ErrL P w K mg NE l) : ((PySem.W.clsIn K NE).isSome && PySem.W.typeIn K (.ref NE) == some (.type "type")) = true := by
  have i2 : (PySem.W.clsIn K NE).isSome = true := T.iNE
  rw [i2, T.tNE] <;> rfl
theorem ErrL.kNE {l : List (Str × Addr)} (T : ErrL P w K mg NE l) {p : Str × Addr} (hp : p ∈ l) : PySem.W.kitOne K (.ref p.2) (.ref NE) = some true := by
  obtain ⟨cd, h1, h2⟩ := (T.e p hp).cd
  exact kitRef (T.ne p hp) T.tE (mro_of h1 h2 (memT (by simp)))
theorem ErrL.kVE {l : List (Str × Addr)} (T : ErrL P w K mg NE l) {p : Str × Addr} (hp : p ∈ l) : PySem.W.kitOne K (.ref p.2) (.type "ValueError") = some true := by
  obtain ⟨cd, h1, h2⟩ := (T.e p hp).cd
  exact kitTy h1 h2
theorem ErrL.kit {l : List (Str × Addr)} (T : ErrL P w K mg NE l) {p q : Str × Addr} (hp : p ∈ l) (hq : q ∈ l) : PySem.W.kitOne K (.ref p.2) (.ref q.2) = some (decide (p = q)) := by
  by_cases h : p = q
  · subst h
    rw [decide_eq_true rfl]
    exact kitSelf
  · rw [decide_eq_false h]
    have n : p.2 ≠ q.2 := fun z => h (T.inj p hp q hq z)
    obtain ⟨cj, j1, j2⟩ := (T.e q hq).cd
    obtain ⟨cd, h1, h2⟩ := (T.e p hp).cd
    exact kitRef n (isCls j1 (T.e q hq).ty) (mro_of h1 h2 (mroNo n.symm (T.ne q hq)))
theorem ErrL.exm {l : List (Str × Addr)} (T : ErrL P w K mg NE l) {p : Str × Addr} (hp : p ∈ l) : PySem.W.exmOne K (.ref p.2) (.ref NE) = some true := by
  obtain ⟨cd, h1, h2⟩ := (T.e p hp).cd
  unfold PySem.W.exmOne
  have hb : (PySem.W.subIn K (.ref NE) (.type "BaseException") == some true) = true := by rw [T.sNE] <;> rfl
  rw [if_pos hb]
  show (if _ then _ else _) = _
  rw [if_pos T.tE]
  exact mro_of h1 h2 (memT (by simp))
theorem injOf : ∀ {l : List (Str × Addr)}, (l.map (·.2)).Nodup → ∀ p ∈ l, ∀ q ∈ l, p.2 = q.2 → p = q
  | [], _, p, hp, _, _, _ => by cases hp
  | a :: l, nd, p, hp, q, hq, e => by
    rw [List.map_cons, List.nodup_cons] at nd
    rcases List.mem_cons.mp hp with hp1 | hp1
    · rcases List.mem_cons.mp hq with hq1 | hq1
      · rw [hp1, hq1]
      · exact absurd (List.mem_map.mpr ⟨q, hq1, by rw [← e, hp1]⟩) nd.1
    · rcases List.mem_cons.mp hq with hq1 | hq1
      · exact absurd (List.mem_map.mpr ⟨p, hp1, by rw [e, hq1]⟩) nd.1
      · exact injOf nd.2 p hp1 q hq1 e
end
theorem withS {R : Prop} (P : Program) {K : PySem.W.Frag} {h : Heap} {mg : Str → Option Value} (X : K.In h) (G : h.Ns mainGlobals mg) (hn : PySem.W.specialIn K (.builtin "object.__class__") "__get__" = some (some (.builtin "getset_descriptor.__get__"))) (ht : PySem.W.takesIn K (.builtin "object.__class__") = some true)
    (opq : PySem.W.nsIn K cStatics "thirdparty.any" = some none) (zs : PySem.W.nsIn K mainGlobals "super" = some none) (htop : (P.main.scope.names.lookup ("super" : Str)).isSome = false) (k : ShT P K mg → R) : R := k ⟨hn, ht, opq, PySem.W.mg_none_of X G zs, htop⟩
section
variable {X : Cx} {C : Addr} {x : Str} {p pos : Pos}
/-- X(), to be raised -/
theorem pm_0 (M : Cx0.MkE X.prog X.w X.K X.mg C []) {k : Nat} (hr : Room k X.A) (gC : X.mg x = some (.ref C)) (hg : Gl X x := by rfl) (hdb : (x == ("__debug__" : Str)) = false := by decide) : L2N.PMk X (.Call (.Name x p) [] [] pos) (fun _ H Q => Q (.ref C) none H) := by
  intro pins s σ H Q I h
  refine wpAny_Call_Name_kw (ld_glob I hg gC ?_ hdb)
  refine PySem.W.callWith_K0 I.kIn M.oex.kC (callE M hr I .nil rfl fun h' tk e t1 d a1 a2 a3 a4 => ?_)
  rcases a4 with ⟨_, rfl⟩ | ⟨z, _⟩
  · refine ⟨e, _, _, s, H, .ref C, none, rfl, I, fun b o q => a1 b o q, ?_, a3, ⟨rfl, rfl, fun vs z => by cases z; rfl⟩, rfl, rfl, I.hok.fresh a2, rfl, I.bare, raises_own M.oex.exC M.oex.tyC, h⟩
    cases q : s.heap.get? e with
    | none => rfl
    | some o => exact absurd (Nat.lt_of_lt_of_le (Heap.lt_size q) a2) (Nat.lt_irrefl _)
  · exact absurd rfl z
end
open Ck
section
variable {P : Program} {w : World} {K : PySem.W.Frag} {mg : Str → Option Value} {base : Heap}
/-- as Fun.ok, for a def that may raise -/
theorem okXN {x qual : Str} {st : Stmt} {f : Addr} {fd : FuncData} {N ps : List Str} {k : Nat} {sp : Sp} (F : Fun K x qual st f fd) (S : FnScope N ps (defScope st)) (len : ∀ vs H Q E, sp vs H Q E → vs.length = ps.length)
    (hbody : ∀ (cdv : Value) (A : Around) (outer : List Env) (s : Shared) (H : Hp) (vs : List V) (Q : VK) (E : XK), Room k (A.deeper (envOfC qual (defScope st) s.heap.objs.size f cdv)) → sp vs H Q E →
      ∃ t, PSs (cxOf (L2N.CX P w) P w K mg base N qual (defScope st) f cdv A outer s H E) (defBody st) t ∧ t { nx := fun _ H' => Q .non H', rt := Q } (start N vs) H) : FnOk P w K mg base (L2N.CX P w) (k + 1) f fd ps sp := by
  obtain ⟨oc, od, kV, doc, pm, an, cdv, ct, osl, rfl, lk, hcd⟩ := F.ex
  exact fn_of lk hcd S len fun A outer s H vs Q E hr hsp => hbody cdv A outer s H vs Q E hr hsp
def DefX (P : Program) (w : World) (K : PySem.W.Frag) (mg : Str → Option Value) (base : Heap) (x : Str) (k : Nat) (ps : List Str) (sp : Sp) : Prop :=
  ∃ (f : Addr) (fd : FuncData), FnOk P w K mg base (L2N.CX P w) k f fd ps sp ∧ mg x = some (.ref f) ∧ PySem.W.keepIn K (.ref f) = true ∧ Binds K fd ps []
theorem defx_of {x : Str} {st : Stmt} {ps : List Str} {k : Nat} {sp : Sp} (h : ∃ f fd, DefAt K mg x st ps f fd) (g : ∀ f fd, Fun K x x st f fd → FnOk P w K mg base (L2N.CX P w) k f fd ps sp) : DefX P w K mg base x k ps sp := by
  obtain ⟨f, fd, D⟩ := h
  exact ⟨f, fd, g f fd D.F, D.g, D.F.kp, D.b⟩
/-- a def that may raise, called where nothing is let out -/
theorem passN {X : Cx} : Passes (L2N.CX X.prog X.w) X E0 := fun _ _ _ _ _ _ _ h => by
  obtain ⟨_, _, _, _, _, _, _, _, _, _, _, _, z⟩ := h
  exact z.elim
theorem takesN0 {X : Cx} : L2N.Takes X (fun _ _ _ _ => False) := fun u s' ⟨_, _, _, _, _, _, _, _, _, _, _, _, _, _, _, _, z⟩ => z.elim
end
end Cn
namespace Cn
open PySem PySem.Spec PyProof.Rows L2 Ck
/-! the parents of a row -/
def rowP (n : Nat) : List (Option Nat) := none :: (List.range (n - 1)).map some
theorem rowP_len {n : Nat} (h : 1 ≤ n) : (rowP n).length = n := by
  unfold rowP
  rw [List.length_cons, List.length_map, List.length_range]
  omega
theorem rowP_at {n q : Nat} (h : q + 1 < n) : (rowP n)[q + 1]? = some (some q) := by
  unfold rowP
  rw [List.getElem?_cons_succ, List.getElem?_map, List.getElem?_range (by omega)]; rfl
theorem rowP_ps {n : Nat} : Ps (rowP n) := fun i p h => by
  cases i with
  | zero => cases h
  | succ i =>
    unfold rowP at h
    rw [List.getElem?_cons_succ, List.getElem?_map] at h
    obtain ⟨x, hx, e⟩ := Option.map_eq_some_iff.mp h
    have := (List.getElem?_eq_some_iff.mp hx)
    obtain ⟨h1, h2⟩ := this
    rw [List.getElem_range] at h2
    cases e
    omega
end Cn
namespace HT
open PySem PySem.Spec PyProof.Rows
/-! a tuple[::-1] -/
section
variable {prog : Program} {w : World} {A : Around} {E : Value → Shared → Prop} {s : Shared}
theorem sliceApplied_rev {sl : Addr} {u : Tok} {n : Nat} {Q : Int × Int × Nat → Shared → Prop} (hs : s.heap.IsSliceOf sl .none .none (.int (-1) u))
    (h : Q ((n : Int) - 1, -1, n) s) : wpAny (model prog w) A (Builtin.Slice.sliceApplied (.ref sl) (pure (n : Int))) Q E s := by
  obtain ⟨os, hos, hcs, hds⟩ := id hs
  unfold Builtin.Slice.sliceApplied Builtin.Slice.sliceFields
  refine wpAny_bind (wpAny_bind (wpAny_field hos hds (x := .none) rfl (wpAny_bind (wpAny_field hos hds (x := .none) rfl (wpAny_bind (wpAny_field hos hds (x := .int (-1) u) rfl (wpAny_pure ?_)))))))
  refine wpAny_bind (slicePart_int ?_)
  show wpAny _ _ (if ((-1 : Int) == 0) = true then _ else _) _ _ s
  rw [if_neg (by decide)]
  refine wpAny_bind (slicePart_none (wpAny_bind (slicePart_none (wpAny_bind (wpAny_pure ?_)))))
  show wpAny _ _ (match Builtin.Slice.sliceAdjust none none (-1) (n : Int) with | (lo, hi) => pure (lo, (-1 : Int), Builtin.Slice.slicePlaces lo hi (-1))) _ _ s
  have e1 : Builtin.Slice.sliceAdjust none none (-1) (n : Int) = ((n : Int) - 1, -1) := rfl
  rw [e1]
  show wpAny _ _ (pure ((n : Int) - 1, (-1 : Int), Builtin.Slice.slicePlaces ((n : Int) - 1) (-1) (-1))) _ _ s
  have e2 : Builtin.Slice.slicePlaces ((n : Int) - 1) (-1) (-1) = n := by
    unfold Builtin.Slice.slicePlaces
    have h1 : ¬ ((-1 : Int) > 0) := by decide
    rw [if_neg h1]
    by_cases c : (n : Int) - 1 > -1
    · rw [if_pos c, show (- -1 : Int) = 1 by decide, Int.ediv_one]; omega
    · rw [if_neg c]; omega
  rw [e2]
  exact wpAny_pure h
theorem fmCongr {α β : Type} {f g : α → Option β} : ∀ {l : List α}, (∀ x ∈ l, f x = g x) → l.filterMap f = l.filterMap g
  | [], _ => rfl
  | x :: l, h => by
    rw [List.filterMap_cons, List.filterMap_cons, h x List.mem_cons_self, fmCongr fun y hy => h y (List.mem_cons_of_mem _ hy)]
theorem pick_rev (xs : Array Value) : ((List.range xs.size).filterMap fun (m : Nat) => xs[((xs.size : Int) - 1 + (m : Int) * -1).toNat]?).toArray = xs.toList.reverse.toArray := by
  congr 1
  have e : ((List.range xs.size).filterMap fun (m : Nat) => xs[((xs.size : Int) - 1 + (m : Int) * -1).toNat]?) = ((List.range xs.size).map fun k => xs.size - 1 - k).filterMap (xs[·]?) := by
    rw [List.filterMap_map]
    refine fmCongr fun m hm => ?_
    have := List.mem_range.mp hm
    show xs[((xs.size : Int) - 1 + (m : Int) * -1).toNat]? = xs[xs.size - 1 - m]?
    rw [show ((xs.size : Int) - 1 + (m : Int) * -1).toNat = xs.size - 1 - m from by omega]
  rw [e, PySem.W.krv_range, List.filterMap_reverse, PySem.W.krv_all]
theorem getItem_tuple_rev {t sl : Addr} {items : Array Value} {u : Tok} {Q : Value → Shared → Prop} (ht : IsTup s.heap t items) (hs : s.heap.IsSliceOf sl .none .none (.int (-1) u))
    (h : Q (.ref s.heap.objs.size) { s with heap := s.heap.push { cls := .type "tuple", data := .seq items.toList.reverse.toArray } })
    (hsz : items.size ≤ sizeLine) : wpAny (model prog w) A (getItem (.ref t) (.ref sl)) Q E s := by
  have htake : sizeOk (.seq items.toList.reverse.toArray) := by
    show items.toList.reverse.toArray.size ≤ sizeLine
    rw [List.size_toArray, List.length_reverse, Array.length_toList]
    exact hsz
  obtain ⟨os, hos, hcs, hds⟩ := id hs
  have hTs : s.TypeIs (.ref sl) "slice" := ⟨os, hos, hcs⟩
  unfold getItem
  try with_reducible refine wpAny_holding ?_
  first | refine wpAny_bind (wpAny_pure ?_) | skip
  refine wpAny_bind (wpAny_sequenceKey ht.typeIs (by decide) ?_)
  refine wpAny_bind (wpAny_callSpecial?_slot (name := Str.ofString "__getitem__") ht.typeIs PyProof.Rows.slot_tuple_getitem
    (wpAny_call_entry PyProof.Rows.slot_tuple_getitem ht.typeIs entry_tuple_getitem ?_ (args_tuple_getitem _ _)))
  show wpAny _ _ (Builtin.Tuple.tupleItemsOf (.ref t) >>= _) _ _ s
  refine wpAny_bind (tupleItemsOf_ ht ?_)
  refine wpAny_bind (wpAny_typeOf hTs ?_)
  rw [if_pos (by decide)]
  refine wpAny_bind (sliceApplied_rev hs ?_)
  have hno : ¬ (((items.size : Int) - 1 == 0 && (-1 : Int) == 1 && items.size == items.size) = true) := by
    rw [show ((-1 : Int) == 1) = false by decide, Bool.and_false, Bool.false_and]; exact Bool.false_ne_true
  show wpAny _ _ (if ((items.size : Int) - 1 == 0 && (-1 : Int) == 1 && items.size == items.size) = true then _ else _) _ _ s
  rw [if_neg hno, pick_rev]
  first
    | exact wpAny_bind (m := Builtin.Tuple.tupleExact _) (wpAny_newObj_type (wpAny_pure ⟨_, rfl, wpAny_pure h⟩) htake)
    | exact wpAny_bind (m := Builtin.Tuple.tupleExact _) (wpAny_newObj_type (wpAny_bind (wpAny_pure (wpAny_pure ⟨_, rfl, wpAny_pure h⟩))) htake)
    | exact wpAny_bind (wpAny_bind (m := Builtin.Tuple.tupleExact _) (wpAny_newObj_type (wpAny_pure (wpAny_pure ⟨_, rfl, wpAny_pure h⟩)) htake))
    | exact wpAny_bind (wpAny_bind (m := Builtin.Tuple.tupleExact _) (wpAny_newObj_type (wpAny_pure ⟨_, rfl, wpAny_pure h⟩) htake))
end
end HT
namespace L2
open PySem PySem.Spec PyProof.Rows
section
variable {X : Cx}
def tRevT (K : PySem.W.Frag) (te : TE) : TE := fun σ H Q => te σ H fun x H1 => ∃ a xs, x = .ref a ∧ SqT K H1 a xs ∧ ∀ p, H1 p = none → Q (.ref p) (upd H1 p (.tup xs.reverse))
theorem pe_revT {e : Expr} {te : TE} {k : Nat} {p1 p2 p3 pos : Pos} (he : PE X e te) : PE X (.Subscript e (.Slice none none (some (.UnaryOp .USub (.Constant (.int 1) k p1) p2)) p3) pos) (tRevT X.K te) := by
  refine ⟨fun pins s σ H Q I h => ?_⟩
  refine Subscript_ (thn (he.run pins s σ H _ I h) fun v s1 ⟨x, H1, I1, r1, q1⟩ => ?_)
  obtain ⟨a, xs, ex, hx, q⟩ := q1
  subst ex
  cases r1
  have hst : PO X (some (.UnaryOp .USub (.Constant (.int 1) k p1) p2)) (tPart (tUn (rU fun i => .int (-i)) (tC (.int 1)))) := po_some (pe_un un_neg pe_int)
  refine wpAny_Slice (thn (po_none.run pins s1 σ H1 (fun o H2 => o = none ∧ H2 = H1) I1 ⟨rfl, rfl⟩) fun vl s2 ⟨l, H2, I2, pl, el, e2⟩ => ?_)
  subst el e2
  refine thn (po_none.run pins s2 σ H2 (fun o H3 => o = none ∧ H3 = H2) I2 ⟨rfl, rfl⟩) fun vu s3 ⟨u, H3, I3, pu, eu, e3⟩ => ?_
  subst eu e3
  refine thn (hst.run pins s3 σ H3 (fun o H4 => o = some (-1) ∧ H4 = H3) I3 ⟨1, rfl, -1, rfl, rfl, rfl⟩) fun vs s4 ⟨o, H4, I4, ps, eo, e4⟩ => ?_
  subst eo e4
  have I5 : Inv X pins σ H4 { s4 with heap := s4.heap.push { cls := .type "slice", data := .fields #[vl, vu, vs] } } := I4.kept (t' := s4.toks) fun b ob q => Heap.get?_push_of_some _ q
  obtain ⟨its, r, ht, hz⟩ := I5.tuple hx
  have hlen := r.length
  have hT : ({ s4 with heap := s4.heap.push { cls := .type "slice", data := .fields #[vl, vu, vs] } } : Shared).TypeIs (.ref a) "tuple" := by
    obtain ⟨o, ho, hc, _⟩ := ht
    exact ⟨o, ho, hc⟩
  show wpAny (model X.prog X.w) X.A (subscriptTail e (.Slice none none (some (.UnaryOp .USub (.Constant (.int 1) k p1) p2)) p3) (.ref a) (.ref s4.heap.objs.size)) (EP X pins σ Q) X.xe { s4 with heap := s4.heap.push { cls := .type "slice", data := .fields #[vl, vu, vs] } }
  refine tail_any (ops := [.ref a, .ref s4.heap.objs.size]) hT (PyProof.Rows.slot_tuple_getitem.lookup) ?_ (by with_unfolding_all rfl)
  cases pl
  cases pu
  cases ps with
  | int i tk =>
  refine HT.getItem_tuple_rev ht (Heap.IsSliceOf.new _ .none .none (.int (-1) tk)) ?_ (by rw [List.size_toArray]; omega)
  refine ⟨.ref _, _, I5.laid (t' := s4.toks) (o := .tup xs.reverse) (fun b ob q => Heap.get?_push_of_some _ q) (Nat.le_refl _) ?_, rfl, q _ (I5.hok.fresh (Nat.le_refl _))⟩
  exact ⟨by rw [List.length_reverse]; exact hz, _, r.reverse, IsTup.new _ _⟩
end
end L2
namespace L2
open PySem PySem.Spec PyProof.Rows
/-! own == that may tell no -/
def spEqC (R : Addr → Addr → Bool → Hp → Prop) : Sp := fun vs H Q _ => ∃ a b c, vs = [.ref a, .ref b] ∧ R a b c H ∧ ∀ H', Ext H H' → Q (.bl c) H'
def rEqC (C : Addr) (R : Addr → Addr → Bool → Hp → Prop) : R2 := fun x y H Q => ∃ a b c dx dy fs gs, x = .ref a ∧ y = .ref b ∧ H a = some (.ins C dx fs) ∧ H b = some (.ins C dy gs) ∧ R a b c H ∧ ∀ H', Ext H H' → Q (.bl c) H'
section
variable {X : Cx} {n : Nat}
theorem op_eqC {CX : CXT} {C f : Addr} {fd : FuncData} {ps : List Str} {R : Addr → Addr → Bool → Hp → Prop} {E : XK} (F : FnOk X.prog X.w X.K X.mg X.base CX n f fd ps (spEqC R))
    (hs : PySem.W.findIn X.K (.ref C) "__eq__" = some (some (.ref f))) (hf : PySem.W.isFn X.K (.ref f) = true) (hb : Binds X.K fd ps []) (hx : Passes CX X E) (hr : Room n X.A) : OpR X (compareOp .Eq) (rEqC C R) := by
  intro pins s σ H x y v u Q I rx ry hq
  obtain ⟨a, b, c, dx, dy, fs, gs, rfl, rfl, ha, hb', hR, q⟩ := hq
  cases rx
  cases ry
  show wpAny (model X.prog X.w) X.A (richCompare .Eq (.ref a) (.ref b)) (EP X pins σ Q) X.xe s
  obtain ⟨mA, J, _⟩ := ins_get I.hok ha
  obtain ⟨mB, J', _⟩ := ins_get I.hok hb'
  obtain ⟨od, J, _⟩ := J.look
  obtain ⟨od', J', _⟩ := J'.look
  obtain ⟨m, hF⟩ := I.fr
  refine PySem.W.cmp_K (op := .Eq) (tb := .ref C) hr.units0 hF I.ok.mod.kin J J'.type (by simp [PySem.W.notFirst]) hs hf ?_
  have hsp : spEqC R [.ref a, .ref b] H (fun v H' => v = .bl c ∧ Ext H H') E := ⟨a, b, c, rfl, hR, fun H' e => ⟨rfl, e⟩⟩
  have hl := F.len _ _ _ _ hsp
  have r2 : Vals [V.ref a, V.ref b] [Value.ref a, Value.ref b] := .cons rfl (.cons rfl .nil)
  refine wpAny_call (codeAny_mono (F.run X.A X.stack s H ⟨[.ref a, .ref b], []⟩ [.ref a, .ref b] [.ref a, .ref b] _ E hr I.env0 (by
    have := hb s [.ref a, .ref b] I.kIn (by simpa using hl)
    simpa using this) r2 hsp) fun r s' hq => ?_)
  cases r with
  | error e => exact hx pins σ H s e s' I hq
  | ok fl =>
    cases fl with
    | ret w =>
      obtain ⟨z, H', I', rz, ez, ex⟩ := I.after hq
      subst ez
      cases rz
      exact ⟨.bl c, H', I', rfl, q H' ex⟩
    | next => exact False.elim hq
    | brk => exact False.elim hq
    | cont => exact False.elim hq
end
end L2
namespace Cn
open PySem PySem.Spec PyProof.Rows L2 Ck
theorem dnEqvB : ∀ {a b : List Nat}, PyData.eqvAll (dn a) (dn b) = true → a = b
  | [], [], _ => rfl
  | [], y :: b, h => by
    have : PyData.eqvAll (dn []) (dn (y :: b)) = false := by simp [dn, PyData.eqvAll]
    rw [this] at h; cases h
  | x :: a, [], h => by
    have : PyData.eqvAll (dn (x :: a)) (dn []) = false := by simp [dn, PyData.eqvAll]
    rw [this] at h; cases h
  | x :: a, y :: b, h => by
    have e : PyData.eqvAll (dn (x :: a)) (dn (y :: b)) = (PyData.eqv (.int ((x : Nat) : Int)) (.int ((y : Nat) : Int)) && PyData.eqvAll (dn a) (dn b)) := by
      show PyData.eqvAll (PyData.int _ :: dn a) (PyData.int _ :: dn b) = _
      rw [PyData.eqvAll]
    rw [e, Bool.and_eq_true] at h
    have e2 : PyData.eqv (.int ((x : Nat) : Int)) (.int ((y : Nat) : Int)) = (((x : Nat) : Int) == ((y : Nat) : Int)) := by rw [PyData.eqv]
    rw [e2, beq_iff_eq] at h
    rw [dnEqvB h.2, show x = y by omega]
theorem dnEqD (a b : List Nat) : PyData.eqv (.tuple (dn a)) (.tuple (dn b)) = decide (a = b) := by
  by_cases c : a = b
  · subst c
    rw [dnEqT, decide_eq_true rfl]
  · rw [decide_eq_false c]
    cases h : PyData.eqv (.tuple (dn a)) (.tuple (dn b)) with
    | false => rfl
    | true => exact absurd (dnEqvB (by simpa only [PyData.eqv] using h)) c
theorem dParEqD (a b : List (Option Nat)) : PyData.eqv (.tuple (dPar a)) (.tuple (dPar b)) = decide (a = b) := by
  by_cases c : a = b
  · subst c
    rw [show PyData.eqv (.tuple (dPar a)) (.tuple (dPar a)) = true from SeqAt.eqv_refl (.tuple (dPar a)) (dParLay _), decide_eq_true rfl]
  · rw [decide_eq_false c]
    cases h : PyData.eqv (.tuple (dPar a)) (.tuple (dPar b)) with
    | false => rfl
    | true => exact absurd (dParEqT h) c
def nEqM : List Str := ["self", "other"]
theorem scEqM : FnScope nEqM ["self", "other"] (defScope sEqM) := ⟨rfl, rfl, rfl, by decide +kernel, rfl, by decide +kernel, by decide +kernel⟩
def foB (f g : Fo) : Bool := decide (f.ps = g.ps) && (decide (f.be = g.be) && decide (f.as = g.as))
def FoCmp (C : Addr) (a b : Addr) (c : Bool) (H : Hp) : Prop := ∃ f g, FoAt C H a f ∧ FoAt C H b g ∧ c = foB f g
section
variable {P : Program} {w : World} {K : PySem.W.Frag} {mg : Str → Option Value} {base : Heap} {C : Addr}
theorem ok_eqC (B : Defs K mg C) {f : Addr} {fd : FuncData} (F : Fun K "__eq__" "Forest.__eq__" sEqM f fd) : FnOk P w K mg base CX0 1 f fd ["self", "other"] (spEqC (FoCmp C)) := by
  have N := B.N
  have T := B.T
  refine F.ok scEqM (fun vs H Q E h => ?_) (fun cdv A outer s H vs Q E hr h => ?_)
  · obtain ⟨a, b, c, rfl, _⟩ := h
    rfl
  · obtain ⟨a, b, c, rfl, ⟨fo, go, ⟨dx, ap, ab, aa, h0, h1, h2, h3⟩, ⟨dy, bp, bb, ba, g0, g1, g2, g3⟩, rfl⟩, k⟩ := h
    refine ⟨_, pss_one (ps_ret (pe_and (pe_callB call_isi (by rfl) N.is.inst (by decide +kernel) (pa_cons (pv 1) (pa_cons (pe_glob (v := .ref C) (by rfl) T.mgC rfl) pa_nil)))
      (pe_and (pe_cmpR (op_eqD hr.units) (pe_fld (pv 0) rfl) (pe_fld (pv 1) rfl) (nomark _))
      (pe_and (pe_cmpR (op_eqD hr.units) (pe_fld (pv 0) rfl) (pe_fld (pv 1) rfl) (nomark _))
      (pe_one (pe_cmpR (op_eqD hr.units) (pe_fld (pv 0) rfl) (pe_fld (pv 1) rfl) (nomark _))))))), ?_⟩
    refine ⟨_, rfl, _, .ref C, _, _, true, rfl, .own C, .base (.ins g0 T.cl B.ty5.1 B.ty5.2.1 B.ty5.2.2.1 B.ty5.2.2.2), kitSelf, true, rfl, ?_⟩
    refine ifT rfl ?_
    refine ⟨_, rfl, a, C, dx, _, _, rfl, h0, T.cl, T.nP, fP, _, rfl, b, C, dy, _, _, rfl, g0, T.cl, T.nP, fP, _, _, .tup (tpL h1) (dpPar _), .tup (tpL g1) (dpPar _), dParSh _, dParSh _, ?_⟩
    rw [dParEqD]
    refine ⟨_, rfl, ?_⟩
    by_cases c1 : fo.ps = go.ps
    · refine ifT (decide_eq_true c1) ?_
      refine ⟨_, rfl, a, C, dx, _, _, rfl, h0, T.cl, T.nB, fB, _, rfl, b, C, dy, _, _, rfl, g0, T.cl, T.nB, fB, _, _, .tup (tnL h2) (dpN _), .tup (tnL g2) (dpN _), dnShT _, dnShT _, ?_⟩
      rw [dnEqD]
      refine ⟨_, rfl, ?_⟩
      by_cases c2 : fo.be = go.be
      · refine ifT (decide_eq_true c2) ?_
        refine ⟨_, rfl, a, C, dx, _, _, rfl, h0, T.cl, T.nA, fA, _, rfl, b, C, dy, _, _, rfl, g0, T.cl, T.nA, fA, _, _, .tup (tnL h3) (dpN _), .tup (tnL g3) (dpN _), dnShT _, dnShT _, ?_⟩
        rw [dnEqD]
        have := k H Ext.rfl'
        unfold foB at this
        rw [decide_eq_true c1, decide_eq_true c2, Bool.true_and, Bool.true_and] at this
        exact this
      · refine ifF (by rw [decide_eq_false c2]; decide) ?_
        have := k H Ext.rfl'
        unfold foB at this
        rw [decide_eq_true c1, decide_eq_false c2, Bool.true_and, Bool.false_and] at this
        exact this
    · refine ifF (by rw [decide_eq_false c1]; decide) ?_
      have := k H Ext.rfl'
      unfold foB at this
      rw [decide_eq_false c1, Bool.false_and] at this
      exact this
end
end Cn
namespace Cn
open PySem PySem.Spec PyProof.Rows L2 Ck
theorem cutInit2 (xs : List V) (x : V) : cutV (xs ++ [x]) none (some (-1)) = xs := by
  unfold cutV
  rw [HT.sIx_none, List.drop_zero, Nat.sub_zero]
  have e : HT.sIx (xs ++ [x]).length (xs ++ [x]).length (some (-1)) = xs.length := by
    show (if (-1 : Int) < 0 then ((-1 : Int) + ((xs ++ [x]).length : Int)).toNat else min (-1 : Int).toNat (xs ++ [x]).length) = _
    rw [if_pos (by decide), List.length_append]
    show ((-1 : Int) + ((xs.length + 1 : Nat) : Int)).toNat = xs.length
    omega
  rw [e, List.take_append_of_le_length (Nat.le_refl _), List.take_length]
def rowF (n : Nat) : Fo := ⟨rowP n, List.range n, List.range n⟩
theorem rowF_ok {n : Nat} (h1 : 1 ≤ n) (h2 : n ≤ 60) : FoOk (rowF n) := by
  have e : (rowP n).length = n := rowP_len h1
  exact ⟨rowP_ps, by show 1 ≤ (rowP n).length; omega, by show (rowP n).length ≤ 60; omega, List.pairwise_lt_range, fun x hx => by have := List.mem_range.mp hx; show x < (rowP n).length; omega, List.pairwise_lt_range, fun x hx => by have := List.mem_range.mp hx; show x < (rowP n).length; omega⟩
section
variable {P : Program} {w : World} {K : PySem.W.Frag} {mg : Str → Option Value} {base : Heap} {C : Addr}
def spRow (C : Addr) : Sp := fun vs H Q _ => ∃ (n : Nat), vs = [vn n] ∧ 1 ≤ n ∧ n ≤ 60 ∧ ∀ a H', Same H H' → FoAt C H' a (rowF n) → Q (.ref a) H'
def nRow : List Str := ["places", "everywhere"]
theorem scRow : FnScope nRow ["places"] (defScope sRow) := ⟨rfl, rfl, rfl, by decide +kernel, rfl, by decide +kernel, by decide +kernel⟩
theorem dRow (B : Defs K mg C) : Def P w K mg base "row" 6 ["places"] (spRow C) := by
  obtain ⟨fN, fdN, FN, MN, bN⟩ := B.ini
  obtain ⟨tm, mM⟩ := B.mM
  obtain ⟨fI, fdI, DI⟩ := B.I
  obtain ⟨fL, fdL, DL⟩ := B.L
  obtain ⟨fB, fdB, DB⟩ := B.B
  obtain ⟨fO, fdO, DO⟩ := B.O
  have GN : FnOk P w K mg base CX0 4 fN fdN ["self", "parents", "bearing", "asking"] (spInit C) := ok_init FN B.N B.T mM DI DL DB DO
  obtain ⟨fT, fdT, GT, gT, kT, bT⟩ := dBtw (P := P) (w := w) (base := base) B
  have N := B.N
  have nd := scRow.nd
  refine def_of B.rw fun f fd F => ?_
  refine F.ok scRow (fun vs H Q E h => ?_) (fun cdv A outer s H vs Q E hr h => ?_)
  · obtain ⟨n, rfl, _⟩ := h
    rfl
  · obtain ⟨n, rfl, n1, n60, k⟩ := h
    have h2 : Room 2 (A.deeper (envOfC "row" (defScope sRow) s.heap.objs.size f cdv)) := Room.mono hr (by decide)
    refine ⟨_, pss_cons (ps_if (pt_not (pt_val (pe_call GT h2 (by rfl) gT kT bT .nil pass0 (pa_cons (pv 0) (pa_cons pe_int (pa_cons (pe_glob (v := .int 60) (by rfl) mM ⟨_, rfl⟩) pa_nil)))))) (pss_one ps_never) pss_nil)
      (pss_cons (ps_set (i := 1) nd rfl (Or.inl rfl) (pe_tupRg rfl (by rfl) N.is.tup (prg_1 (by rfl) N.range (pv 0))))
      (pss_one (ps_ret (pe_make MN GN hr (by rfl) B.T.mgC bN .nil pass0 (pa_cons (pe_op op_catA (pe_tup (pa_cons pe_non pa_nil)) (pe_slice sl_tupA (pv 1) po_none (po_some (pe_un un_neg pe_int)))) (pa_cons (pv 1) (pa_cons (pv 1) pa_nil))))))), ?_⟩
    refine ⟨_, rfl, _, _, _, rfl, true, ?_, ?_⟩
    · rw [decide_eq_true (by omega)]
    refine ifF (by decide) ?_
    refine ⟨_, rfl, _, rfl, RgOk.of_le (by omega) (by omega) (by omega) (by omega), fun e ne => ?_⟩
    rw [rgN]
    have S1 := smUpd (o := .tup ((List.range n).map vn)) ne
    have he : upd H e (.tup ((List.range n).map vn)) e = some (.tup ((List.range n).map vn)) := upd_same
    generalize upd H e (.tup ((List.range n).map vn)) = H1 at S1 he ⊢
    refine ⟨by show 1 ≤ sizeLine; decide, fun t nt => ?_⟩
    have S2 := smUpd (o := .tup [V.non]) nt
    have ht : upd H1 t (.tup [V.non]) t = some (.tup [V.non]) := upd_same
    have he2 := S2 _ _ he
    generalize upd H1 t (.tup [V.non]) = H2 at S2 ht he2 ⊢
    refine ⟨_, rfl, _, rfl, _, rfl, ?_⟩
    refine slA he2 fun u H3 s3 hu => ?_
    have eu : cutV ((List.range n).map vn) none (some (-1)) = (List.range (n - 1)).map vn := by
      obtain ⟨m, rfl⟩ : ∃ m, n = m + 1 := ⟨n - 1, by omega⟩
      rw [List.range_succ, List.map_append]
      exact cutInit2 _ _
    rw [eu] at hu
    refine catA (s3 _ _ ht) hu (by rw [List.length_map, List.length_range]; show 1 + _ ≤ 1000; omega) fun r H4 s4 hr4 => ?_
    have s24 := s3.trans s4
    have he4 := s24 _ _ he2
    refine ⟨_, rfl, _, rfl, fun x dx nx ndx nex => ?_⟩
    have S5 := smUpd (o := .own x) ndx
    have nx1 : (upd H4 dx (.own x)) x = none := by rw [upd_ne (Ne.symm nex)]; exact nx
    have S6 := S5.trans (smUpd (o := .ins C dx []) nx1)
    have hp4 : TP H4 r (rowP n) := by
      show H4 r = _
      rw [hr4]
      unfold rowP
      rw [List.map_cons, List.map_map]; rfl
    refine ⟨x, dx, r, e, e, rowF n, rfl, upd_same, S6 _ _ hp4, S6 _ _ he4, S6 _ _ he4, rowF_ok n1 n60, fun H7 hF kp => ⟨rfl, ?_⟩⟩
    exact k x H7 (S1.trans (S2.trans (s24.trans fun b o z => kp b o (fun y => by rw [y, nx] at z; cases z) (S6 _ _ z)))) hF
/-! == of forests -/
def SameFo (C : Addr) : Addr → Addr → Hp → Prop := fun a b H => ∃ f, FoAt C H a f ∧ FoAt C H b f
theorem ok_eqm (B : Defs K mg C) {f : Addr} {fd : FuncData} (F : Fun K "__eq__" "Forest.__eq__" sEqM f fd) : FnOk P w K mg base CX0 1 f fd ["self", "other"] (spEq (SameFo C)) := by
  have N := B.N
  have T := B.T
  refine F.ok scEqM (fun vs H Q E h => ?_) (fun cdv A outer s H vs Q E hr h => ?_)
  · obtain ⟨a, b, rfl, _⟩ := h
    rfl
  · obtain ⟨a, b, rfl, ⟨fo, ⟨dx, ap, ab, aa, h0, h1, h2, h3⟩, ⟨dy, bp, bb, ba, g0, g1, g2, g3⟩⟩, k⟩ := h
    refine ⟨_, pss_one (ps_ret (pe_and (pe_callB call_isi (by rfl) N.is.inst (by decide +kernel) (pa_cons (pv 1) (pa_cons (pe_glob (v := .ref C) (by rfl) T.mgC rfl) pa_nil)))
      (pe_and (pe_cmpR (op_eqD hr.units) (pe_fld (pv 0) rfl) (pe_fld (pv 1) rfl) (nomark _))
      (pe_and (pe_cmpR (op_eqD hr.units) (pe_fld (pv 0) rfl) (pe_fld (pv 1) rfl) (nomark _))
      (pe_one (pe_cmpR (op_eqD hr.units) (pe_fld (pv 0) rfl) (pe_fld (pv 1) rfl) (nomark _))))))), ?_⟩
    refine ⟨_, rfl, _, .ref C, _, _, true, rfl, .own C, .base (.ins g0 T.cl B.ty5.1 B.ty5.2.1 B.ty5.2.2.1 B.ty5.2.2.2), kitSelf, true, rfl, ?_⟩
    refine ifT rfl ?_
    refine ⟨_, rfl, a, C, dx, _, _, rfl, h0, T.cl, T.nP, fP, _, rfl, b, C, dy, _, _, rfl, g0, T.cl, T.nP, fP, _, _, .tup (tpL h1) (dpPar _), .tup (tpL g1) (dpPar _), dParSh _, dParSh _, ?_⟩
    rw [show PyData.eqv (.tuple (dPar fo.ps)) (.tuple (dPar fo.ps)) = true from SeqAt.eqv_refl (.tuple (dPar fo.ps)) (dParLay _)]
    refine ⟨true, rfl, ?_⟩
    refine ifT rfl ?_
    refine ⟨_, rfl, a, C, dx, _, _, rfl, h0, T.cl, T.nB, fB, _, rfl, b, C, dy, _, _, rfl, g0, T.cl, T.nB, fB, _, _, .tup (tnL h2) (dpN _), .tup (tnL g2) (dpN _), dnShT _, dnShT _, ?_⟩
    rw [dnEqT]
    refine ⟨true, rfl, ?_⟩
    refine ifT rfl ?_
    refine ⟨_, rfl, a, C, dx, _, _, rfl, h0, T.cl, T.nA, fA, _, rfl, b, C, dy, _, _, rfl, g0, T.cl, T.nA, fA, _, _, .tup (tnL h3) (dpN _), .tup (tnL g3) (dpN _), dnShT _, dnShT _, ?_⟩
    rw [dnEqT]
    exact k _ Ext.rfl'
def spIsRow (C : Addr) : Sp := fun vs H Q _ => ∃ (a : Addr) (n : Nat), vs = [.ref a] ∧ FoAt C H a (rowF n) ∧ 1 ≤ n ∧ n ≤ 60 ∧ ∀ H', Same H H' → Q (.bl true) H'
def nIsRow : List Str := ["thing"]
theorem scIsRow : FnScope nIsRow ["thing"] (defScope sIsRow) := ⟨rfl, rfl, rfl, by decide +kernel, rfl, by decide +kernel, by decide +kernel⟩
theorem dIsRow (B : Defs K mg C) : Def P w K mg base "is_row" 7 ["thing"] (spIsRow C) := by
  obtain ⟨fR, fdR, GR, gR, kR, bR⟩ := dRow (P := P) (w := w) (base := base) B
  obtain ⟨fe, fde, Fe, he1, he2, be⟩ := B.eqm
  have Ge : FnOk P w K mg base CX0 1 fe fde ["self", "other"] (spEq (SameFo C)) := ok_eqm B Fe
  have N := B.N
  have T := B.T
  refine def_of B.isr fun f fd F => ?_
  refine F.ok scIsRow (fun vs H Q E h => ?_) (fun cdv A outer s H vs Q E hr h => ?_)
  · obtain ⟨a, n, rfl, _⟩ := h
    rfl
  · obtain ⟨a, n, rfl, hF, n1, n60, k⟩ := h
    have h1 : Room 1 (A.deeper (envOfC "is_row" (defScope sIsRow) s.heap.objs.size f cdv)) := Room.mono hr (by decide)
    refine ⟨_, pss_one (ps_ret (pe_and (pe_callB call_isi (by rfl) N.is.inst (by decide +kernel) (pa_cons (pv 0) (pa_cons (pe_glob (v := .ref C) (by rfl) T.mgC rfl) pa_nil)))
      (pe_one (pe_cmpR (op_eqG (rcG_ins (C := C) (R := SameFo C) Ge he1 he2 be pass0) h1) (pv 0) (pe_call GR hr (by rfl) gR kR bR .nil pass0 (pa_cons (pe_callB call_len_seq (by rfl) N.is.len PySem.boot_len (pa_cons (pe_fld (pv 0) rfl) pa_nil)) pa_nil)) (nomark _))))), ?_⟩
    obtain ⟨dx, ap, ab, aa, h0, h1', h2, h3⟩ := id hF
    refine ⟨_, rfl, _, .ref C, _, _, true, rfl, .own C, .base (.ins h0 T.cl B.ty5.1 B.ty5.2.1 B.ty5.2.2.1 B.ty5.2.2.2), kitSelf, true, rfl, ?_⟩
    refine ifT rfl ?_
    refine ⟨_, rfl, _, rfl, a, C, dx, _, _, rfl, h0, T.cl, T.nP, fP, ap, _, rfl, .inr (tpL h1'), n, ?_, n1, n60, fun b H1 s1 hb => ?_⟩
    · exact congrArg (fun z : Nat => [vn z]) ((List.length_map _).trans (rowP_len n1))
    have ha1 := foAt_same s1 hF
    obtain ⟨dx1, _, _, _, a0, _, _, _⟩ := id ha1
    obtain ⟨dy, _, _, _, b0, _, _, _⟩ := id hb
    exact ⟨⟨a, b, dx1, dy, _, _, rfl, rfl, a0, b0, rowF n, ha1, hb⟩, fun H2 e2 => k H2 (s1.trans e2)⟩
end
end Cn
namespace Cn
open PySem PySem.Spec PyProof.Rows L2 Ck
theorem upd_updY {H : Hp} {a : Addr} {o o2 : HO} : upd (upd H a o) a o2 = upd H a o2 := by
  funext b
  by_cases h : b = a
  · rw [h, upd_same, upd_same]
  · rw [upd_ne h, upd_ne h, upd_ne h]
theorem ne_of_noneY {H : Hp} {p q : Addr} {o : HO} (hp : H p = some o) (nq : H q = none) : p ≠ q := fun z => by rw [z, nq] at hp; cases hp
/-- no longer than n, if a tuple -/
def LenB (n : Nat) (H : Hp) (v : V) : Prop := ∀ a xs, v = .ref a → H a = some (.tup xs) → xs.length ≤ n
theorem lenB1 {H : Hp} {a : Addr} {v : V} (h : H a = some (.tup [v])) : LenB 1 H (.ref a) := fun b xs e hb => by
  cases e
  rw [h] at hb
  injection hb with z
  injection z with z
  rw [← z]; exact Nat.le_refl _
theorem lenBo {H : Hp} {a : Addr} {o : HO} (h : H a = some o) (ne : ∀ xs, o ≠ .tup xs) : LenB 1 H (.ref a) := fun b xs e hb => by
  cases e
  rw [h] at hb
  injection hb with z
  exact absurd z (ne xs)
/-! things that stay while the hand turns -/
def ElP (p : Addr) (H : Hp) (x : V) : Prop := El H x ∧ ∀ a, x = .ref a → a ≠ p
theorem ElP.kept {p : Addr} {H H' : Hp} {x : V} (k : Kept p H H') (h : ElP p H x) : ElP p H' x := by
  obtain ⟨h, ne⟩ := h
  refine ⟨?_, ne⟩
  rcases h with h | h | h | h | ⟨a, rfl, h⟩
  · exact .inl h
  · exact .inr (.inl h)
  · exact .inr (.inr (.inl h))
  · exact .inr (.inr (.inr (.inl h)))
  · have na := ne a rfl
    exact .inr (.inr (.inr (.inr ⟨a, rfl, h.imp (fun ⟨xs, q⟩ => ⟨xs, k _ _ na q⟩) (fun h => h.imp (fun ⟨xs, q⟩ => ⟨xs, k _ _ na q⟩) (fun ⟨xs, q⟩ => ⟨xs, k _ _ na q⟩))⟩)))
def ThK (p : Addr) (H : Hp) (v : V) : Prop := (∃ a xs, v = .ref a ∧ a ≠ p ∧ H a = some (.tup xs) ∧ ∀ x ∈ xs, ElP p H x) ∨ (NoTup H v ∧ ∀ a, v = .ref a → a ≠ p)
theorem ThK.th {p : Addr} {H : Hp} {v : V} (h : ThK p H v) : Th H v := by
  rcases h with ⟨a, xs, e, _, h, k⟩ | ⟨h, _⟩
  · exact .inl ⟨a, xs, e, h, fun x hx => (k x hx).1⟩
  · exact .inr h
theorem ThK.el {p : Addr} {H : Hp} {v : V} (h : ThK p H v) : ElP p H v := by
  refine ⟨h.th.el, fun a e => ?_⟩
  rcases h with ⟨b, xs, e2, ne, _⟩ | ⟨_, ne⟩
  · rw [e2] at e; cases e; exact ne
  · exact ne a e
theorem ThK.kept {p : Addr} {H H' : Hp} {v : V} (k : Kept p H H') (h : ThK p H v) : ThK p H' v := by
  rcases h with ⟨a, xs, e, ne, h, q⟩ | ⟨h, ne⟩
  · exact .inl ⟨a, xs, e, ne, k _ _ ne h, fun x hx => (q x hx).kept k⟩
  · refine .inr ⟨?_, ne⟩
    rcases h with h | h | h | h | ⟨a, e, ⟨xs, h⟩ | ⟨kvs, h⟩⟩
    · exact .inl h
    · exact .inr (.inl h)
    · exact .inr (.inr (.inl h))
    · exact .inr (.inr (.inr (.inl h)))
    · exact .inr (.inr (.inr (.inr ⟨a, e, .inl ⟨xs, k _ _ (ne a e) h⟩⟩)))
    · exact .inr (.inr (.inr (.inr ⟨a, e, .inr ⟨kvs, k _ _ (ne a e) h⟩⟩)))
section
variable {P : Program} {w : World} {K : PySem.W.Frag} {mg : Str → Option Value} {base : Heap} {C : Addr}
def spDeep : Sp := fun vs H Q _ => ∃ (p c : Addr) (cells : List Int), vs = [.ref p] ∧ HandIn H p c cells ∧ ∀ (v : V) (H' : Hp), ThK p H' v → (LenB 1 H' v ∧ ∃ a, v = .ref a) → HandIn H' p c cells → Kept p H H' → Q v H'
def nDeep : List Str := ["_law_hand_here", "_law_found", "_law_turn"]
theorem scDeep : FnScope nDeep ["_law_hand_here"] (defScope sDeep) := ⟨rfl, rfl, rfl, by decide +kernel, rfl, by decide +kernel, by decide +kernel⟩
theorem dDeep (B : Defs K mg C) : Def P w K mg base "_law_deep" 2 ["_law_hand_here"] spDeep := by
  obtain ⟨fD, fdD, GD, gD, kD, bD⟩ := dDraw (P := P) (w := w) (base := base) B
  have N := B.N
  refine def_of B.ldeep fun f fd F => ?_
  refine F.ok scDeep (fun vs H Q E h => ?_) (fun cdv A outer s H vs Q E hr h => ?_)
  · obtain ⟨p, c, cells, rfl, _⟩ := h
    rfl
  · obtain ⟨p, c, cells, rfl, hI, k⟩ := h
    refine ⟨_, pss_cons (ps_set (i := 1) scDeep.nd rfl (Or.inl rfl) (pe_ix ix_list (pe_lst (pa_cons pe_non (pa_cons pe_str (pa_cons (pe_un un_neg pe_int) (pa_cons pe_dnewK pa_nil))))) (pe_call GD hr (by rfl) gD kD bD .nil pass0 (pa_cons (pv 0) (pa_cons pe_int pa_nil))) (fun _ _ => rfl)))
      (pss_cons (ps_for PassesOwn.never rfl (pi_range1 (by rfl) N.range (pa_cons (pe_op op_add pe_int (pe_call GD hr (by rfl) gD kD bD .nil pass0 (pa_cons (pv 0) (pa_cons pe_int pa_nil)))) pa_nil)) (pg_name (i := 2) scDeep.nd rfl (Or.inl rfl))
        (pss_one (ps_set (i := 1) scDeep.nd rfl (Or.inl rfl) (pe_ix ix_list (pe_lst (pa_cons (pe_tup (pa_cons (pv 1) pa_nil)) (pa_cons (pe_lst (pa_cons (pv 1) pa_nil)) (pa_cons (pe_slice sl_tup (pe_tup (pa_cons (pv 1) (pa_cons (pv 1) pa_nil))) po_none (po_some pe_int)) (pa_cons (pe_disp (pps_cons pe_int (pv 1) pps_nil) (by rfl) (by rfl) (fun z => by cases z) (by decide)) pa_nil)))))
          (pe_call GD hr (by rfl) gD kD bD .nil pass0 (pa_cons (pv 0) (pa_cons pe_int pa_nil))) (fun _ _ => rfl)))))
      (pss_one (ps_ret (pv 1)))), ?_⟩
    refine ⟨_, rfl, fun d nd => ⟨by show 4 ≤ sizeLine; decide, fun l nl => ?_⟩⟩
    have nld : l ≠ d := fun e => by rw [e, upd_same] at nl; cases nl
    have s1 : Same H (upd (upd H d (.dK [])) l (.lst [.non, .str "a", .int (-1), .ref d])) := (smUpd nd).trans (smUpd nl)
    have hI1 := handIn_keep hI s1
    obtain ⟨⟨_, _, _, _, hp0, _⟩, _⟩ := id hI1
    have nlp : l ≠ p := fun e => by
      rw [e, upd_same] at hp0; cases hp0
    have ndp : d ≠ p := fun e => by
      rw [← e, upd_ne nld.symm, upd_same] at hp0; cases hp0
    refine ⟨_, rfl, p, c, cells, 4, rfl, hI1, by decide, by decide, fun z i g m t z0 z1 i0 => ?_⟩
    generalize hH1 : upd (upd H d (.dK [])) l (.lst [.non, .str "a", .int (-1), .ref d]) = H1 at s1 hI1 hp0 ⊢
    have hl1 : H1 l = some (.lst [.non, .str "a", .int (-1), .ref d]) := by rw [← hH1, upd_same]
    have hd1 : H1 d = some (.dK []) := by rw [← hH1, upd_ne nld.symm, upd_same]
    have hI2 := handIn_upd (i := i) (g := g) (m := m) (t := t) hI1 i0
    have k1 : Kept p H (upd H1 p (handL c i g m t)) := kept_trans (kept_same s1) kept_hand
    have hl2 : (upd H1 p (handL c i g m t)) l = some (.lst [.non, .str "a", .int (-1), .ref d]) := by rw [upd_ne nlp]; exact hl1
    have hd2 : (upd H1 p (handL c i g m t)) d = some (.dK []) := by rw [upd_ne ndp]; exact hd1
    generalize upd H1 p (handL c i g m t) = H2 at hI2 k1 hl2 hd2 ⊢
    obtain ⟨v, hv, hm⟩ := atMem (xs := [.non, .str "a", .int (-1), .ref d]) z0 z1
    refine ⟨l, _, z, v, rfl, rfl, .inl (.inl hl2), hv, ?_⟩
    have gv : ElP p H2 v := by
      rcases List.mem_cons.mp hm with rfl | hm
      · exact ⟨.inr (.inr (.inl rfl)), fun a e => by cases e⟩
      rcases List.mem_cons.mp hm with rfl | hm
      · exact ⟨.inr (.inr (.inr (.inl ⟨_, rfl⟩))), fun a e => by cases e⟩
      rcases List.mem_cons.mp hm with rfl | hm
      · exact ⟨.inl ⟨_, rfl⟩, fun a e => by cases e⟩
      rcases List.mem_cons.mp hm with rfl | hm
      · exact ⟨.inr (.inr (.inr (.inr ⟨d, rfl, .inr (.inr ⟨_, hd2⟩)⟩))), fun a e => by cases e; exact ndp⟩
      cases hm
    refine ⟨_, rfl, p, c, cells, 30, rfl, hI2, by decide, by decide, fun z2 i2 g2 m2 t2 a0 a1 i20 => ⟨1, z2, rfl, rfl, 1 + z2, rfl, by omega, by omega, ?_⟩⟩
    refine for_range (lo := 0) (n := (1 + z2).toNat) (fun j σ H' => ∃ v tv, σ = [some (.ref p), some v, tv] ∧ ElP p H' v ∧ (1 ≤ j → ThK p H' v ∧ LenB 1 H' v ∧ ∃ a, v = .ref a) ∧ HandIn H' p c cells ∧ Kept p H H') ?_ ?_ ?_
    · exact ⟨v, none, rfl, gv.kept (fun b o ne e => by rw [upd_ne ne]; exact e), fun z => absurd z (by decide), handIn_upd hI2 i20, kept_trans k1 kept_hand⟩
    · rintro j σ H' hj ⟨v, tv, rfl, gv, _, hI', k'⟩
      -- the four things
      refine ⟨_, rfl, by show 1 ≤ sizeLine; decide, fun x1 n1 => ⟨_, rfl, by show 1 ≤ sizeLine; decide, fun x2 n2 => ⟨_, rfl, _, rfl, by show 2 ≤ sizeLine; decide, fun x3 n3 => ⟨1, rfl, x3, _, rfl, .inl (.inl upd_same), ?_, fun x4 n4 => ?_⟩⟩⟩⟩
      · rintro ⟨_, z⟩
        exact absurd z (by show ¬ (HT.sIx 2 2 (some ((1 : Nat) : Int)) = 2); rw [HT.sIx_nat]; decide)
      rw [show cutV [v, v] none (some 1) = [v] from (cutTake [v, v] 1)]
      refine fun x5 n5 => ⟨_, rfl, upd_same, [(.inl 0, v)], rfl, by show 1 ≤ 15; decide, ?_⟩
      rw [upd_updY]
      refine ⟨by show 4 ≤ sizeLine; decide, fun x6 n6 => ?_⟩
      have S1 := smUpd (o := .tup [v]) n1
      have S2 := smUpd (o := .lst [v]) n2
      have S3 := smUpd (o := .tup [v, v]) n3
      have S4 := smUpd (o := .tup [v]) n4
      have S5 := smUpd (o := .dK (mergeK [] [(Sum.inl 0, v)])) n5
      have S6 := smUpd (o := .lst [.ref x1, .ref x2, .ref x4, .ref x5]) n6
      have e1 := (S2.trans (S3.trans (S4.trans (S5.trans S6)))) _ _ upd_same
      have e2 := (S3.trans (S4.trans (S5.trans S6))) _ _ upd_same
      have e4 := (S5.trans S6) _ _ upd_same
      have e5 := S6 _ _ upd_same
      have sB := S1.trans (S2.trans (S3.trans (S4.trans (S5.trans S6))))
      obtain ⟨⟨_, _, _, _, hp', _⟩, _⟩ := id hI'
      have q1 := ne_of_noneY hp' n1
      have q2 := ne_of_noneY (S1 _ _ hp') n2
      have q4 := ne_of_noneY ((S1.trans (S2.trans S3)) _ _ hp') n4
      have q5 := ne_of_noneY ((S1.trans (S2.trans (S3.trans S4))) _ _ hp') n5
      have q6 := ne_of_noneY ((S1.trans (S2.trans (S3.trans (S4.trans S5)))) _ _ hp') n6
      have hI6 := handIn_keep hI' sB
      refine ⟨_, rfl, p, c, cells, 4, rfl, hI6, by decide, by decide, fun y i g m t y0 y1 i0 => ?_⟩
      have e6 : upd (upd (upd (upd (upd (upd H' x1 (.tup [v])) x2 (.lst [v])) x3 (.tup [v, v])) x4 (.tup [v])) x5 (.dK (mergeK [] [(Sum.inl 0, v)]))) x6 (.lst [.ref x1, .ref x2, .ref x4, .ref x5]) x6 = some (.lst [.ref x1, .ref x2, .ref x4, .ref x5]) := upd_same
      generalize upd (upd (upd (upd (upd (upd H' x1 (.tup [v])) x2 (.lst [v])) x3 (.tup [v, v])) x4 (.tup [v])) x5 (.dK (mergeK [] [(Sum.inl 0, v)]))) x6 (.lst [.ref x1, .ref x2, .ref x4, .ref x5]) = H6 at *
      obtain ⟨u, hu, hm⟩ := atMem (xs := [.ref x1, .ref x2, .ref x4, .ref x5]) y0 y1
      refine ⟨x6, _, y, u, rfl, rfl, .inl (.inl (by rw [upd_ne q6.symm]; exact e6)), hu, ?_⟩
      have kk : Kept p H6 (upd H6 p (handL c i g m t)) := kept_hand
      have gv7 : ElP p (upd H6 p (handL c i g m t)) v := (gv.kept (kept_same sB)).kept kk
      have gu : ThK p (upd H6 p (handL c i g m t)) u := by
        rcases List.mem_cons.mp hm with rfl | hm
        · exact .inl ⟨x1, [v], rfl, q1.symm, kk _ _ q1.symm e1, fun z hz => by rw [List.mem_singleton.mp hz]; exact gv7⟩
        rcases List.mem_cons.mp hm with rfl | hm
        · exact .inr ⟨.inr (.inr (.inr (.inr ⟨x2, rfl, .inl ⟨_, kk _ _ q2.symm e2⟩⟩))), fun a e => by cases e; exact q2.symm⟩
        rcases List.mem_cons.mp hm with rfl | hm
        · exact .inl ⟨x4, [v], rfl, q4.symm, kk _ _ q4.symm e4, fun z hz => by rw [List.mem_singleton.mp hz]; exact gv7⟩
        rcases List.mem_cons.mp hm with rfl | hm
        · exact .inr ⟨.inr (.inr (.inr (.inr ⟨x5, rfl, .inr ⟨_, kk _ _ q5.symm e5⟩⟩))), fun a e => by cases e; exact q5.symm⟩
        cases hm
      have gl : LenB 1 (upd H6 p (handL c i g m t)) u ∧ ∃ a, u = .ref a := by
        rcases List.mem_cons.mp hm with rfl | hm
        · exact ⟨lenB1 (kk _ _ q1.symm e1), _, rfl⟩
        rcases List.mem_cons.mp hm with rfl | hm
        · exact ⟨lenBo (kk _ _ q2.symm e2) fun xs z => (by cases z), _, rfl⟩
        rcases List.mem_cons.mp hm with rfl | hm
        · exact ⟨lenB1 (kk _ _ q4.symm e4), _, rfl⟩
        rcases List.mem_cons.mp hm with rfl | hm
        · exact ⟨lenBo (kk _ _ q5.symm e5) fun xs z => (by cases z), _, rfl⟩
        cases hm
      exact ⟨u, _, rfl, gu.el, fun _ => ⟨gu, gl⟩, handIn_upd hI6 i0, kept_trans k' (kept_trans (kept_same sB) kk)⟩
    · rintro σ H' ⟨v, tv, rfl, gv, gt, hI', k'⟩
      exact ⟨_, rfl, k v H' (gt (by omega)).1 (gt (by omega)).2 hI' k'⟩
end
end Cn
namespace Cn
open PySem PySem.Spec PyProof.Rows L2 Ck
section
variable {P : Program} {w : World} {K : PySem.W.Frag} {mg : Str → Option Value} {base : Heap} {C : Addr}
/-- one thing of a list, drawn -/
def spSome (K : PySem.W.Frag) : Sp := fun vs H Q _ => ∃ (p c b : Addr) (cells : List Int) (xs : List V), vs = [.ref p, .ref b] ∧ HandIn H p c cells ∧ b ≠ p ∧ H b = some (.lst xs) ∧ 0 < xs.length ∧ xs.length ≤ 1000000 ∧
  ∀ (i : Nat) (v : V) H', xs[i]? = some v → HandIn H' p c cells → Kept p H H' → H' b = some (.lst xs) → Q v H'
def nSome : List Str := ["_law_hand_here", "_law_things"]
theorem scSome : FnScope nSome ["_law_hand_here", "_law_things"] (defScope sSome) := ⟨rfl, rfl, rfl, by decide +kernel, rfl, by decide +kernel, by decide +kernel⟩
theorem dSome (B : Defs K mg C) : Def P w K mg base "_law_some" 2 ["_law_hand_here", "_law_things"] (spSome K) := by
  obtain ⟨fD, fdD, GD, gD, kD, bD⟩ := dDraw (P := P) (w := w) (base := base) B
  have N := B.N
  refine def_of B.som fun f fd F => ?_
  refine F.ok scSome (fun vs H Q E h => ?_) (fun cdv A outer s H vs Q E hr h => ?_)
  · obtain ⟨p, c, b, cells, xs, rfl, _⟩ := h
    rfl
  · obtain ⟨p, c, b, cells, xs, rfl, hI, hbp, hb, h0, hl, k⟩ := h
    refine ⟨_, pss_one (ps_ret (pe_ix ix_list (pv 1) (pe_call GD hr (by rfl) gD kD bD .nil pass0 (pa_cons (pv 0) (pa_cons (pe_callB call_len_seq (by rfl) N.is.len PySem.boot_len (pa_cons (pv 1) pa_nil)) pa_nil))) (fun _ _ => rfl))), ?_⟩
    refine ⟨_, rfl, _, rfl, _, rfl, b, xs, rfl, .inl (.inl (.inl hb)), p, c, cells, (xs.length : Int), rfl, hI, by omega, by omega, fun d a1 a2 a3 a4 hd0 hd1 a0 => ?_⟩
    have hI1 := handIn_upd (i := a1) (g := a2) (m := a3) (t := a4) hI a0
    have k1 : Kept p H (upd H p (handL c a1 a2 a3 a4)) := kept_hand
    generalize upd H p (handL c a1 a2 a3 a4) = H1 at hI1 k1 ⊢
    have hb1 : H1 b = some (.lst xs) := k1 _ _ hbp hb
    obtain ⟨i, rfl⟩ : ∃ i : Nat, d = (i : Int) := ⟨d.toNat, by omega⟩
    have hi : i < xs.length := by omega
    exact ⟨b, xs, (i : Int), xs[i], rfl, rfl, .inl (.inl hb1), atI_nat (List.getElem?_eq_getElem hi), k i _ H1 (List.getElem?_eq_getElem hi) hI1 k1 hb1⟩
/-- the parts of a row -/
def spLRow : Sp := fun vs H Q _ => ∃ (n : Nat), vs = [vn n] ∧ 1 ≤ n ∧ n ≤ 60 ∧ ∀ t a b H', Same H H' → H' t = some (.tup [.ref a, .ref b, .ref b]) → TP H' a (rowP n) → TN H' b (List.range n) → Q (.ref t) H'
def nLRow : List Str := ["_law_places", "_law_whole"]
theorem scLRow : FnScope nLRow ["_law_places"] (defScope sLRow) := ⟨rfl, rfl, rfl, by decide +kernel, rfl, by decide +kernel, by decide +kernel⟩
theorem dLRow (B : Defs K mg C) : Def P w K mg base "_law_row" 1 ["_law_places"] spLRow := by
  have N := B.N
  have nd := scLRow.nd
  refine def_of B.lrw fun f fd F => ?_
  refine F.ok scLRow (fun vs H Q E h => ?_) (fun cdv A outer s H vs Q E hr h => ?_)
  · obtain ⟨n, rfl, _⟩ := h
    rfl
  · obtain ⟨n, rfl, n1, n60, k⟩ := h
    refine ⟨_, pss_cons (ps_set (i := 1) nd rfl (Or.inl rfl) (pe_tupRg rfl (by rfl) N.is.tup (prg_1 (by rfl) N.range (pv 0))))
      (pss_one (ps_ret (pe_tup (pa_cons (pe_op op_catA (pe_tup (pa_cons pe_non pa_nil)) (pe_slice sl_tupA (pv 1) po_none (po_some (pe_un un_neg pe_int)))) (pa_cons (pv 1) (pa_cons (pv 1) pa_nil)))))), ?_⟩
    refine ⟨_, rfl, _, rfl, RgOk.of_le (by omega) (by omega) (by omega) (by omega), fun e ne => ?_⟩
    rw [rgN]
    have S1 := smUpd (o := .tup ((List.range n).map vn)) ne
    have he : upd H e (.tup ((List.range n).map vn)) e = some (.tup ((List.range n).map vn)) := upd_same
    generalize upd H e (.tup ((List.range n).map vn)) = H1 at S1 he ⊢
    refine ⟨by show 1 ≤ sizeLine; decide, fun t nt => ?_⟩
    have S2 := smUpd (o := .tup [V.non]) nt
    have ht : upd H1 t (.tup [V.non]) t = some (.tup [V.non]) := upd_same
    have he2 := S2 _ _ he
    generalize upd H1 t (.tup [V.non]) = H2 at S2 ht he2 ⊢
    refine ⟨_, rfl, _, rfl, _, rfl, ?_⟩
    refine slA he2 fun u H3 s3 hu => ?_
    have eu : cutV ((List.range n).map vn) none (some (-1)) = (List.range (n - 1)).map vn := by
      obtain ⟨m, rfl⟩ : ∃ m, n = m + 1 := ⟨n - 1, by omega⟩
      rw [List.range_succ, List.map_append]
      exact cutInit2 _ _
    rw [eu] at hu
    refine catA (s3 _ _ ht) hu (by rw [List.length_map, List.length_range]; show 1 + _ ≤ 1000; omega) fun r H4 s4 hr4 => ?_
    have s24 := s3.trans s4
    have he4 := s24 _ _ he2
    refine ⟨_, rfl, _, rfl, by show 3 ≤ sizeLine; decide, fun q nq => ?_⟩
    have S5 := smUpd (o := .tup [.ref r, .ref e, .ref e]) nq
    have hp4 : TP H4 r (rowP n) := by
      show H4 r = _
      rw [hr4]
      unfold rowP
      rw [List.map_cons, List.map_map]; rfl
    exact k q r e _ (S1.trans (S2.trans (s24.trans S5))) upd_same (S5 _ _ hp4) (S5 _ _ he4)
end
end Cn
namespace L2
open PySem PySem.Spec PyProof.Rows
/-! own != of a class that has an == of its own, and no __ne__ -/
theorem slot_objne : PySem.Slot "object" "__ne__" "object.__ne__" :=
  PySem.Slot.of (owner := "object") (n := "__ne__") (by rw [typeLookup_type, builtinLookup_eq_fast]; kernel_rfl) (by decide +kernel) (by decide +kernel) (by decide +kernel) (.inl (by decide +kernel)) (by rw [isSubtype_type]; kernel_rfl)
section
variable {P : Program} {w : World} {A : Around} {E : Value → Shared → Prop} {s : Shared} {K : PySem.W.Frag} {a C f : Addr} {ox : Obj} {od : Option Obj} {b : Value}
theorem ifBound_ne {M : Model} {args : List Value} {Q : Option Value → Shared → Prop} (X : K.In s.heap) (I : PySem.W.InstAt s.heap a ox C od) (hs : PySem.W.findIn K (.ref C) "__ne__" = some (some (.builtin "object.__ne__")))
    (h : wpAny M A (call (.builtin "object.__ne__") (.ref a :: args)) (fun v => Q (some v)) E s) : wpAny M A (callSpecialIfBound? (.ref a) "__ne__" args) Q E s := by
  simp only [callSpecialIfBound?, bindSpecialIfBound?]
  refine wpAny_holding (wpAny_bind (wpAny_bind (wpAny_bind (I.type.here ((PySem.W.looks_findIn X hs).here ?_)))))
  simp only [slot_objne.bind]
  refine wpAny_bind (wpAny_askSetting (wpAny_ite ?_))
  have fin : wpAny M A (call (.builtin "object.__ne__") ([.ref a] ++ args) >>= fun v => pure (some v)) Q E s := wpAny_bind (wpAny_mono h (fun v s' z => wpAny_pure z) fun _ _ z => z)
  split
  · exact wpAny_bind (wpAny_pure (wpAny_pure fin))
  · exact wpAny_tryCatch (wpAny_bind (wpAny_pure (wpAny_pure fin)))
theorem ne_K {Q : Value → Shared → Prop} (hu : A.units + 1 < cLine) (X : K.In s.heap) (I : PySem.W.InstAt s.heap a ox C od) {tb : Value} (hb : PySem.W.Looks (model P w) s.heap (typeOf b) tb) (hn : PySem.W.notFirst K C tb = true)
    (hs : PySem.W.findIn K (.ref C) "__eq__" = some (some (.ref f))) (hf : PySem.W.isFn K (.ref f) = true) (hne : PySem.W.findIn K (.ref C) "__ne__" = some (some (.builtin "object.__ne__"))) (hm : PySem.W.mroIn K C (.type "object") = some true)
    (h : wpAny (model P w) A.in1 (call (.ref f) [.ref a, b]) (fun v s' => ∃ c, v = .bool c ∧ Q (.bool (!c)) s') E s) : wpAny (model P w) A (richCompare .NotEq (.ref a) b) Q E s := by
  have body : wpAny (model P w) A.in1 (Builtin.«object.__ne__» ⟨[.ref a, b], []⟩) (fun fin s' => ∃ c, fin = .done (.ret (.bool (!c))) ∧ Q (.bool (!c)) s') E s := by
    have hu1 : A.in1.units < cLine := hu
    unfold Builtin.«object.__ne__»
    repeat (first
      | with_reducible refine wpAny_cRoomFor hu1 ?_
      | (refine wpAny_bind (m := callSpecialIfBound? (.ref a) (Str.ofString "__eq__") [b]) (PySem.W.ifBound_K X I hs hf (wpAny_mono h (fun r s' hr => by
          obtain ⟨c, rfl, hq⟩ := hr
          repeat (first | exact ⟨c, rfl, hq⟩ | exact wpAny_pure ⟨c, rfl, hq⟩ | exact wpAny_truthy_bool ⟨c, rfl, hq⟩ | (refine wpAny_bind (m := truthy (.bool _)) (wpAny_truthy_bool ?_)) | wp_step)) fun _ _ e => e)))
      | wp_step)
  have one : wpAny (model P w) A (tryCompare (.ref a) "__ne__" b) (fun r s' => ∃ c, r = some (.bool c) ∧ Q (.bool c) s') E s := by
    unfold tryCompare
    refine wpAny_bind (ifBound_ne X I hne (wpAny_call (codeAny_call_builtin slot_objne.plain F.cmpEntry_ne (PySem.W.check_slot F.cmpKind_ne F.cmpSplit_ne (I.type.andThen (PySem.W.looks_mroIn X hm)) (F.cmpArgs_ne _ _) (wpAny_mono body (fun fin s' hq => ?_) fun _ _ z => z)))))
    obtain ⟨c, rfl, hq⟩ := hq
    exact wpAny_pure ⟨_, rfl, hq⟩
  unfold richCompare
  simp only [oneThing_ref]
  refine wpAny_holding (wpAny_bind (wpAny_cRoomFor (by omega) ?_))
  refine wpAny_bind (I.type.here (wpAny_bind (hb.here ?_)))
  split
  · rename_i q
    have e : PySem.W.subIn K tb (.ref C) = some false := by
      rcases Bool.or_eq_true_iff.mp hn with e | e
      · rw [beq_iff_eq.mp e] at q; simp at q
      · exact beq_iff_eq.mp e
    refine wpAny_bind ((PySem.W.looks_subIn X e).here ?_)
    simp only [Bool.false_eq_true, if_false]
    refine wpAny_bind (wpAny_mono one (fun r s' z => ?_) fun _ _ e => e)
    obtain ⟨c, rfl, hq⟩ := z
    exact wpAny_pure hq
  · refine wpAny_bind (wpAny_pure ?_)
    simp only [Bool.false_eq_true, if_false]
    refine wpAny_bind (wpAny_mono one (fun r s' z => ?_) fun _ _ e => e)
    obtain ⟨c, rfl, hq⟩ := z
    exact wpAny_pure hq
end
def rNeC (C : Addr) (R : Addr → Addr → Bool → Hp → Prop) : R2 := fun x y H Q => ∃ a b c dx dy fs gs, x = .ref a ∧ y = .ref b ∧ H a = some (.ins C dx fs) ∧ H b = some (.ins C dy gs) ∧ R a b c H ∧ ∀ H', Ext H H' → Q (.bl (!c)) H'
section
variable {X : Cx} {n : Nat}
theorem op_neC {CX : CXT} {C f : Addr} {fd : FuncData} {ps : List Str} {R : Addr → Addr → Bool → Hp → Prop} {E : XK} (F : FnOk X.prog X.w X.K X.mg X.base CX n f fd ps (spEqC R))
    (hs : PySem.W.findIn X.K (.ref C) "__eq__" = some (some (.ref f))) (hf : PySem.W.isFn X.K (.ref f) = true) (hne : PySem.W.findIn X.K (.ref C) "__ne__" = some (some (.builtin "object.__ne__"))) (hm : PySem.W.mroIn X.K C (.type "object") = some true)
    (hb : Binds X.K fd ps []) (hx : Passes CX X E) (hr : Room (n + 1) X.A) : OpR X (compareOp .NotEq) (rNeC C R) := by
  intro pins s σ H x y v u Q I rx ry hq
  obtain ⟨a, b, c, dx, dy, fs, gs, rfl, rfl, ha, hb', hR, q⟩ := hq
  cases rx
  cases ry
  show wpAny (model X.prog X.w) X.A (richCompare .NotEq (.ref a) (.ref b)) (EP X pins σ Q) X.xe s
  obtain ⟨mA, J, _⟩ := ins_get I.hok ha
  obtain ⟨mB, J', _⟩ := ins_get I.hok hb'
  obtain ⟨od, J, _⟩ := J.look
  obtain ⟨od', J', _⟩ := J'.look
  refine ne_K (tb := .ref C) (by have := hr.units0; have := hr.un; omega) I.kIn J J'.type (by simp [PySem.W.notFirst]) hs hf hne hm ?_
  have hsp : spEqC R [.ref a, .ref b] H (fun v H' => v = .bl c ∧ Ext H H') E := ⟨a, b, c, rfl, hR, fun H' e => ⟨rfl, e⟩⟩
  have hl := F.len _ _ _ _ hsp
  have r2 : Vals [V.ref a, V.ref b] [Value.ref a, Value.ref b] := .cons rfl (.cons rfl .nil)
  refine wpAny_call (codeAny_mono (F.run X.A.in1 X.stack s H ⟨[.ref a, .ref b], []⟩ [.ref a, .ref b] [.ref a, .ref b] _ E hr.in1 I.env0.in1 (by
    have := hb s [.ref a, .ref b] I.kIn (by simpa using hl)
    simpa using this) r2 hsp) fun r s' hq => ?_)
  cases r with
  | error e => exact hx pins σ H s e s' I hq
  | ok fl =>
    cases fl with
    | ret w =>
      obtain ⟨z, H', I', rz, ez, ex⟩ := I.after hq
      subst ez
      cases rz
      exact ⟨c, rfl, .bl (!c), H', I', rfl, q H' ex⟩
    | next => exact False.elim hq
    | brk => exact False.elim hq
    | cont => exact False.elim hq
end
end L2
namespace Cn
open PySem PySem.Spec PyProof.Rows L2 Ck
/-! lambdas handed to a def; errors that a called def lets out, told with less -/
theorem cxC {P : Program} {w : World} {outer : List Env} {H : Hp} {s : Shared} {E : XK} {u : Value} {s' : Shared} (h : L2N.CX P w outer H s E u s') : L2.CX P w outer H s E u s' := by
  obtain ⟨a, B, H', cls, d, rfl, ⟨f1, f2, f3, oe, vs, T, oT, ts, t1, t2, t3⟩, r⟩ := h
  exact ⟨a, B, H', cls, d, rfl, ⟨f1, f2, f3, oe, vs, T, oT, ts, t1, t2.zc, t3⟩, r⟩
theorem fnC {P : Program} {w : World} {K : PySem.W.Frag} {mg : Str → Option Value} {base : Heap} {k : Nat} {f : Addr} {fd : FuncData} {ps : List Str} {sp : Sp} (F : FnOk P w K mg base (L2N.CX P w) k f fd ps sp) : FnOk P w K mg base (L2.CX P w) k f fd ps sp :=
  ⟨F.len, fun A outer s H args us vs Q E hr e0 hb r h => codeAny_mono (F.run A outer s H args us vs Q E hr e0 hb r h) fun r s' hq => by
    cases r with
    | error e => exact cxC hq
    | ok fl => cases fl <;> exact hq⟩
/-! tables of code objects -/
theorem tabsKept {T : List (Addr × Str)} {p : Addr} {H H' : Hp} (k : ∀ b o, b ≠ p → H b = some o → H' b = some o) (hp : ∃ xs, H p = some (.lst xs)) (t : LamX.Tabs T H) : LamX.Tabs T H' := by
  obtain ⟨xs, hp⟩ := hp
  intro q hq
  obtain ⟨ps, h1, h2, h3⟩ := t q hq
  refine ⟨ps, k _ _ (fun z => by rw [z, hp] at h1; cases h1) h1, h2, fun pos cv hc => ?_⟩
  obtain ⟨c, e1, e2⟩ := h3 pos cv hc
  refine ⟨c, e1, k _ _ (fun z => ?_) e2⟩
  rw [z, hp] at e2
  unfold LamX.CodeO at e2
  cases e2
/-- the code object of a def and its table -/
structure TabOf (K : PySem.W.Frag) (mg : Str → Option Value) (base : Heap) (x : Str) (c P : Addr) : Prop where
  code : ∀ (f : Addr) (oc : Value) (od : Option Addr) (fd : FuncData) (osl : Array (Option Value)), mg x = some (.ref f) → K.lookup f = some ⟨oc, od, .func fd, osl⟩ → fd.code = .ref c
  tab : LamX.TabB base mg c P
section
variable {P : Program} {w : World} {K : PySem.W.Frag} {mg : Str → Option Value} {base : Heap}
/-- a def that makes lambdas: its code object is known -/
theorem okTab {x : Str} {st : Stmt} {f c T : Addr} {fd : FuncData} {N ps : List Str} {k : Nat} {sp : Sp} (D : DefAt K mg x st ps f fd) (L : TabOf K mg base x c T) (S : FnScope N ps (defScope st)) (len : ∀ vs H Q E, sp vs H Q E → vs.length = ps.length)
    (hbody : ∀ (A : Around) (outer : List Env) (s : Shared) (H : Hp) (vs : List V) (Q : VK) (E : XK), Room k (A.deeper (envOfC x (defScope st) s.heap.objs.size f (.ref c))) → sp vs H Q E →
      ∃ t, PSs (cxOf CX0 P w K mg base N x (defScope st) f (.ref c) A outer s H E).nox (defBody st) t ∧ t { nx := fun _ H' => Q .non H', rt := Q } (start N vs) H) : FnOk P w K mg base CX0 (k + 1) f fd ps sp := by
  obtain ⟨oc, od, kV, doc, pm, an, cdv, ct, osl, rfl, lk, hcd⟩ := D.F.ex
  have e : cdv = .ref c := L.code f _ _ _ _ D.g lk
  subst e
  refine fn_of lk hcd S len fun A outer s H vs Q E hr hsp => ?_
  obtain ⟨t, h, q⟩ := hbody A outer s H vs Q E hr hsp
  exact ⟨t, h.nox, q⟩
end
end Cn
namespace Cn
open PySem PySem.Spec PyProof.Rows L2 Ck
/-! lots of places, and Forest(..), of things of any kind -/
def LotM (H : Hp) (m : Nat) (v : V) : Prop := ∃ (a : Addr) (ns : List Nat), v = .ref a ∧ TN H a ns ∧ ns.Pairwise (· < ·) ∧ ∀ x ∈ ns, x < m
theorem tupInjA {H : Hp} {a : Addr} {xs ys : List V} (h : H a = some (.tup xs)) (k : H a = some (.tup ys)) : xs = ys := by
  rw [h] at k
  injection k with z; injection z
theorem LotM.same {H H' : Hp} {m : Nat} {v : V} (s : Same H H') (h : LotM H m v) : LotM H' m v := by
  obtain ⟨a, ns, e, h, p⟩ := h
  exact ⟨a, ns, e, s _ _ h, p⟩
theorem lotBack {H H' : Hp} {m : Nat} {v : V} (s : Same H H') (tv : Th H v) (h : LotM H' m v) : LotM H m v := by
  obtain ⟨a, ns, rfl, h, p⟩ := h
  have h : H' a = some (.tup (ns.map vn)) := h
  rcases tv with ⟨b, xs, e, hb, _⟩ | hn
  · cases e
    refine ⟨a, ns, rfl, ?_, p⟩
    show H a = _
    rw [hb, tupInjA (s _ _ hb) h]
  · rcases hn with ⟨i, e2⟩ | ⟨b', e2⟩ | e2 | ⟨s', e2⟩ | ⟨b, e2, ⟨ys, hn⟩ | ⟨kvs, hn⟩⟩
    all_goals cases e2
    · have := s _ _ hn
      rw [h] at this; cases this
    · have := s _ _ hn
      rw [h] at this; cases this
theorem natsOf : ∀ {zs : List Int}, (∀ z ∈ zs, 0 ≤ z) → ∃ ns : List Nat, zs = ns.map fun n => ((n : Nat) : Int)
  | [], _ => ⟨[], rfl⟩
  | z :: zs, h => by
    obtain ⟨ns, e⟩ := natsOf (zs := zs) fun y hy => h y (List.mem_cons_of_mem _ hy)
    obtain ⟨n, rfl⟩ := Int.eq_ofNat_of_zero_le (h z List.mem_cons_self)
    exact ⟨n :: ns, by rw [e]; rfl⟩
theorem lotMI {H : Hp} {a : Addr} {zs : List Int} {m : Nat} (ha : H a = some (.tup (zs.map V.int))) (hp : zs.Pairwise (· < ·)) : LotM H m (.ref a) ↔ ∀ z ∈ zs, 0 ≤ z ∧ z < (m : Int) := by
  constructor
  · rintro ⟨b, ns, e, hb, _, hx⟩ z hz
    cases e
    have hb : H a = some (.tup (ns.map vn)) := hb
    have e := tupInjA ha hb
    have : V.int z ∈ ns.map vn := by rw [← e]; exact List.mem_map.mpr ⟨z, hz, rfl⟩
    obtain ⟨n, hn, en⟩ := List.mem_map.mp this
    have := hx n hn
    injection en with en
    omega
  · intro h
    obtain ⟨ns, rfl⟩ := natsOf fun z hz => (h z hz).1
    refine ⟨a, ns, rfl, ?_, ?_, fun x hx => ?_⟩
    · show H a = _
      rw [ha, List.map_map]; rfl
    · exact (List.pairwise_map.mp hp).imp fun {x y} q => by omega
    · have := (h _ (List.mem_map.mpr ⟨x, hx, rfl⟩)).2
      omega
theorem lotEnds {zs t t' : List Int} {z0 zl : Int} {m : Int} (hp : zs.Pairwise (· < ·)) (e1 : zs = z0 :: t) (e2 : zs = t' ++ [zl]) : (∀ z ∈ zs, 0 ≤ z ∧ z < m) ↔ 0 ≤ z0 ∧ zl < m := by
  constructor
  · intro h
    exact ⟨(h z0 (by rw [e1]; exact List.mem_cons_self)).1, (h zl (by rw [e2]; exact List.mem_append_right _ List.mem_cons_self)).2⟩
  · rintro ⟨h0, h1⟩ z hz
    constructor
    · have hz' := hz
      rw [e1] at hz' hp
      rcases List.mem_cons.mp hz' with rfl | hz'
      · exact h0
      · have := (List.pairwise_cons.mp hp).1 z hz'
        omega
    · have hz' := hz
      rw [e2] at hz' hp
      rcases List.mem_append.mp hz' with hz' | hz'
      · have := (List.pairwise_append.mp hp).2.2 z hz' zl List.mem_cons_self
        omega
      · rw [List.mem_singleton.mp hz']; exact h1
theorem lotNot {H : Hp} {m : Nat} {v : V} (h : ¬ LotI H v) : ¬ LotM H m v := by
  rintro ⟨a, ns, rfl, ha, hp, _⟩
  refine h ⟨a, ns.map fun n => ((n : Nat) : Int), rfl, ?_, List.pairwise_map.mpr (hp.imp fun z => by omega)⟩
  have ha : H a = some (.tup (ns.map vn)) := ha
  rw [ha, List.map_map]; rfl
/-- whether a parent may stand at a place -/
def parOk (i : Nat) : V → Bool
  | .non => true
  | .int n => decide (0 ≤ n ∧ n ≤ (i : Int) - 1)
  | _ => false
theorem parOk_btw {i : Nat} {x : V} (h : x ≠ .non) : parOk i x = elBtw 0 ((i : Int) - 1) x := by
  cases x <;> first | rfl | exact absurd rfl h
/-- what is due of three things -/
def DueR (H : Hp) (vp vb va : V) (r : Option (Str × Int)) : Prop :=
  (NoTup H vp ∧ r = some (("parents" : Str), (-1 : Int))) ∨ ∃ (a : Addr) (xs : List V), vp = .ref a ∧ H a = some (.tup xs) ∧ (∀ x ∈ xs, El H x) ∧
    ((¬ (1 ≤ xs.length ∧ xs.length ≤ 60) ∧ r = some (("parents" : Str), (-1 : Int))) ∨ ((1 ≤ xs.length ∧ xs.length ≤ 60) ∧
      ((∃ (i : Nat) (x : V), (∀ j y, j < i → xs[j]? = some y → parOk j y = true) ∧ xs[i]? = some x ∧ parOk i x = false ∧ r = some (("parents" : Str), (i : Int))) ∨
       ((∀ j y, xs[j]? = some y → parOk j y = true) ∧
         ((¬ LotM H xs.length vb ∧ r = some (("bearing" : Str), (-1 : Int))) ∨ (LotM H xs.length vb ∧ ((¬ LotM H xs.length va ∧ r = some (("asking" : Str), (-1 : Int))) ∨ (LotM H xs.length va ∧ r = none))))))))
theorem firstBad (p : Nat → V → Bool) : ∀ (xs : List V), (∃ (i : Nat) (x : V), (∀ j y, j < i → xs[j]? = some y → p j y = true) ∧ xs[i]? = some x ∧ p i x = false) ∨ ∀ j y, xs[j]? = some y → p j y = true := by
  intro xs
  induction xs generalizing p with
  | nil => exact .inr fun j y h => by rw [List.getElem?_nil] at h; cases h
  | cons x xs ih =>
    cases hp : p 0 x with
    | false => exact .inl ⟨0, x, fun j y h => by omega, rfl, hp⟩
    | true =>
      rcases ih (fun i v => p (i + 1) v) with ⟨i, y, h1, h2, h3⟩ | h
      · refine .inl ⟨i + 1, y, fun j z hj hz => ?_, by rw [List.getElem?_cons_succ]; exact h2, h3⟩
        cases j with
        | zero => cases hz; exact hp
        | succ j => exact h1 j z (by omega) (by rw [List.getElem?_cons_succ] at hz; exact hz)
      · refine .inr fun j z hz => ?_
        cases j with
        | zero => cases hz; exact hp
        | succ j => exact h j z (by rw [List.getElem?_cons_succ] at hz; exact hz)
theorem due_ex {H : Hp} {vp : V} (vb va : V) (h : Th H vp) : ∃ r, DueR H vp vb va r := by
  rcases h with ⟨a, xs, e, ha, hx⟩ | h
  · by_cases c : 1 ≤ xs.length ∧ xs.length ≤ 60
    · rcases firstBad parOk xs with ⟨i, x, h1, h2, h3⟩ | hall
      · exact ⟨_, .inr ⟨a, xs, e, ha, hx, .inr ⟨c, .inl ⟨i, x, h1, h2, h3, rfl⟩⟩⟩⟩
      · by_cases cb : LotM H xs.length vb
        · by_cases ca : LotM H xs.length va
          · exact ⟨_, .inr ⟨a, xs, e, ha, hx, .inr ⟨c, .inr ⟨hall, .inr ⟨cb, .inr ⟨ca, rfl⟩⟩⟩⟩⟩⟩
          · exact ⟨_, .inr ⟨a, xs, e, ha, hx, .inr ⟨c, .inr ⟨hall, .inr ⟨cb, .inl ⟨ca, rfl⟩⟩⟩⟩⟩⟩
        · exact ⟨_, .inr ⟨a, xs, e, ha, hx, .inr ⟨c, .inr ⟨hall, .inl ⟨cb, rfl⟩⟩⟩⟩⟩
    · exact ⟨_, .inr ⟨a, xs, e, ha, hx, .inl ⟨c, rfl⟩⟩⟩
  · exact ⟨_, .inl ⟨h, rfl⟩⟩
theorem NoTup.notA {H : Hp} {v : V} {a : Addr} {xs : List V} (h : NoTup H v) (e : v = .ref a) (ha : H a = some (.tup xs)) : False := by
  rcases h with ⟨i, e2⟩ | ⟨b', e2⟩ | e2 | ⟨s, e2⟩ | ⟨b, e2, ⟨ys, h⟩ | ⟨kvs, h⟩⟩
  all_goals (subst e; cases e2)
  · rw [ha] at h; cases h
  · rw [ha] at h; cases h
def toP : V → Option Nat
  | .int n => some n.toNat
  | _ => none
theorem parsOf {xs : List V} (h : ∀ j y, xs[j]? = some y → parOk j y = true) : xs = (xs.map toP).map vp ∧ Ps (xs.map toP) := by
  have one : ∀ {j : Nat} {y : V}, parOk j y = true → vp (toP y) = y ∧ ∀ p, toP y = some p → p < j := by
    intro j y hy
    cases y with
    | non => exact ⟨rfl, fun p z => by cases z⟩
    | int n =>
      have hy : decide (0 ≤ n ∧ n ≤ (j : Int) - 1) = true := hy
      have := of_decide_eq_true hy
      refine ⟨?_, fun p z => ?_⟩
      · show V.int ((n.toNat : Nat) : Int) = _
        rw [show ((n.toNat : Nat) : Int) = n by omega]
      · have z : some n.toNat = some p := z
        injection z with z
        omega
    | _ => cases hy
  constructor
  · apply List.ext_getElem?
    intro j
    rw [List.map_map, List.getElem?_map]
    cases hj : xs[j]? with
    | none => rfl
    | some y =>
      show some y = some (vp (toP y))
      rw [(one (h j y hj)).1]
  · intro i p hi
    rw [List.getElem?_map] at hi
    obtain ⟨y, h1, h2⟩ := Option.map_eq_some_iff.mp hi
    exact (one (h i y h1)).2 p h2
theorem due_none {H : Hp} {vp vb va : V} (h : DueR H vp vb va none) : ∃ (ap ab aa : Addr) (f : Fo), vp = .ref ap ∧ vb = .ref ab ∧ va = .ref aa ∧ TP H ap f.ps ∧ TN H ab f.be ∧ TN H aa f.as ∧ FoOk f := by
  rcases h with ⟨_, z⟩ | ⟨a, xs, rfl, ha, _, ⟨_, z⟩ | ⟨c, ⟨i, x, _, _, _, z⟩ | ⟨hall, ⟨_, z⟩ | ⟨hb, ⟨_, z⟩ | ⟨hc, _⟩⟩⟩⟩⟩
  · cases z
  · cases z
  · cases z
  · cases z
  · cases z
  · obtain ⟨e, hp⟩ := parsOf hall
    obtain ⟨ab, be, rfl, h1, h2, h3⟩ := hb
    obtain ⟨aa, as, rfl, k1, k2, k3⟩ := hc
    have l : (xs.map toP).length = xs.length := List.length_map _
    refine ⟨a, ab, aa, ⟨xs.map toP, be, as⟩, rfl, rfl, rfl, ?_, h1, k1, hp, ?_, ?_, h2, ?_, k2, ?_⟩
    · show H a = _
      rw [ha, ← e]
    · show 1 ≤ (xs.map toP).length
      rw [l]; exact c.1
    · show (xs.map toP).length ≤ 60
      rw [l]; exact c.2
    · show ∀ x ∈ be, x < (xs.map toP).length
      rw [l]; exact h3
    · show ∀ x ∈ as, x < (xs.map toP).length
      rw [l]; exact k3
section
variable {P : Program} {w : World} {K : PySem.W.Frag} {mg : Str → Option Value} {base : Heap} {C : Addr}
def spLotOfX : Sp := fun vs H Q _ => ∃ (v : V) (n : Nat), vs = [v, vn n] ∧ Th H v ∧ ∀ H', Same H H' → (LotM H n v → Q (.bl true) H') ∧ (¬ LotM H n v → Q (.bl false) H')
theorem dLotOfX (B : Defs K mg C) : Def P w K mg base "_is_lot_of_places" 3 ["thing", "many"] spLotOfX := by
  obtain ⟨fL, fdL, GL, gL, kL, bL⟩ := dLotX (P := P) (w := w) (base := base) B
  refine def_of B.O fun f fd F => ?_
  refine F.ok scLotOf (fun vs H Q E h => ?_) (fun cdv A outer s H vs Q E hr h => ?_)
  · obtain ⟨v, n, rfl, _⟩ := h
    rfl
  · obtain ⟨v, n, rfl, hv, k⟩ := h
    refine ⟨_, pss_one (ps_ret (pe_and (pe_call GL hr (by rfl) gL kL bL .nil pass0 (pa_cons (pv 0) pa_nil)) (pe_one (pe_or (pe_notT (pv 0)) (pe_one (pe_and (pe_cmpR op_le pe_int (pe_ix ix_tup (pv 0) pe_int (fun _ _ => rfl)) (nomark _)) (pe_one (pe_cmpR op_lt (pe_ix ix_tup (pv 0) (pe_un un_neg pe_int) (fun _ _ => rfl)) (pv 1) (nomark _))))))))), ?_⟩
    refine ⟨_, rfl, v, rfl, hv, fun H1 s1 => ⟨fun hL => ⟨true, rfl, ?_⟩, fun hN => ⟨false, rfl, ?_⟩⟩⟩
    · refine ifT rfl ?_
      obtain ⟨a, zs, rfl, ha, hp⟩ := hL
      have ha1 := s1 _ _ ha
      have iff := lotMI (m := n) ha hp
      refine ⟨_, rfl, _, .inr (.inl ⟨_, .inl (.inl ha1), rfl⟩), _, rfl, ?_⟩
      rcases List.eq_nil_or_concat zs with rfl | ⟨t', zl, e2⟩
      · refine ifT rfl ?_
        exact (k H1 s1).1 (iff.mpr fun z hz => by cases hz)
      · rw [List.concat_eq_append] at e2
        obtain ⟨z0, t, e1⟩ : ∃ z0 t, zs = z0 :: t := by
          cases zs with
          | nil => exact absurd e2 (by simp)
          | cons z0 t => exact ⟨z0, t, rfl⟩
        have ends := lotEnds (m := (n : Int)) hp e1 e2
        have hem : (zs.map V.int).isEmpty = false := by rw [e1]; rfl
        refine ifF (by rw [hem]; decide) ?_
        have h0 : atI (zs.map V.int) ((0 : Nat) : Int) = some (.int z0) := atI_nat (by rw [e1]; rfl)
        have hl : atI (zs.map V.int) (-1) = some (.int zl) := by rw [e2, List.map_append]; exact atI_last _ _
        refine ⟨_, rfl, a, _, (0 : Int), _, rfl, rfl, .inl (.inl ha1), h0, _, _, rfl, rfl, _, rfl, ?_⟩
        by_cases c0 : (0 : Int) ≤ z0
        · refine ifT (decide_eq_true c0) ?_
          refine ⟨_, rfl, _, rfl, a, _, _, _, rfl, rfl, .inl (.inl ha1), hl, _, rfl, _, _, rfl, rfl, ?_⟩
          by_cases c1 : zl < (n : Int)
          · show Q (V.bl (decide (zl < (n : Int)))) H1
            rw [decide_eq_true c1]
            exact (k H1 s1).1 (iff.mpr (ends.mpr ⟨c0, c1⟩))
          · show Q (V.bl (decide (zl < (n : Int)))) H1
            rw [decide_eq_false c1]
            exact (k H1 s1).2 fun z => c1 (ends.mp (iff.mp z)).2
        · refine ifF (by rw [decide_eq_false c0]; decide) ?_
          exact (k H1 s1).2 fun z => c0 (ends.mp (iff.mp z)).1
    · refine ifF (by decide) ?_
      exact (k H1 s1).2 (lotNot hN)
/-! Forest(parents, bearing, asking), or BadForest -/
def spInitX (C CB : Addr) : Sp := fun vs H Q E => ∃ (p dx : Addr) (vp vb va : V) (r : Option (Str × Int)), vs = [.ref p, vp, vb, va] ∧ H p = some (.ins C dx []) ∧ Th H vp ∧ Th H vb ∧ Th H va ∧ DueR H vp vb va r ∧
  (∀ (part : Str) (at_ : Int), r = some (part, at_) → ∀ d H', Same H H' → H' d = some (.xd [("part", .str part), ("at", .int at_)]) → E (.ref CB) (some d) H') ∧
  (r = none → ∀ (ap ab aa : Addr) (f : Fo), vp = .ref ap → vb = .ref ab → va = .ref aa → TP H ap f.ps → TN H ab f.be → TN H aa f.as → FoOk f → ∀ H', FoAt C H' p f → (∀ b o, b ≠ p → H b = some o → H' b = some o) → Q .non H')
theorem ok_initX (B : Defs K mg C) {NE CB : Addr} {l : List (Str × Addr)} (T : ErrL P w K mg NE l) (hB : (("BadForest" : Str), CB) ∈ l) {f : Addr} {fd : FuncData} (F : Fun K "__init__" "Forest.__init__" sInit f fd) : FnOk P w K mg base (L2N.CX P w) 4 f fd ["self", "parents", "bearing", "asking"] (spInitX C CB) := by
  obtain ⟨fT, fdT, GB, gB, kB, bB⟩ := dBtwX (P := P) (w := w) (base := base) B
  obtain ⟨fO, fdO, GO, gO, kO, bO⟩ := dLotOfX (P := P) (w := w) (base := base) B
  obtain ⟨tm, mM⟩ := B.mM
  have N := B.N
  have TF := B.T
  have nd := scInit.nd
  have MB : Cx0.MkE P w K mg CB [("part" : Str), ("at" : Str)] := by
    have := (T.e _ hB).mkE
    have e : fsOf ("BadForest" : Str) = [("part" : Str), ("at" : Str)] := by decide
    rw [show fsOf (("BadForest" : Str), CB).1 = [("part" : Str), ("at" : Str)] from e] at this
    exact this
  have gE := (T.e _ hB).g
  refine okXN F scInit (fun vs H Q E h => ?_) (fun cdv A outer s H vs Q E hr h => ?_)
  · obtain ⟨p, dx, vp, vb, va, r, rfl, _⟩ := h
    rfl
  · obtain ⟨p, dx, vp', vb, va, r, rfl, hp, tp, tb, ta, hD, kE, kQ⟩ := h
    have hr2 : Room 2 (A.deeper (envOfC "Forest.__init__" (defScope sInit) s.heap.objs.size f cdv)) := Room.mono hr (by decide)
    refine ⟨_, pss_cons (ps_if (PW.pt (pw_or (pt_not (pt_val (pe_callB call_isi (by rfl) N.is.inst (by decide +kernel) (pa_cons (pv 1) (pa_cons (pe_bltn (v := .ty "tuple") (by rfl) N.is.tup (by decide +kernel) rfl) pa_nil)))))
          (pw_or1 (pt_not (pt_chain op_le op_le pe_int (pe_callB call_len_seq (by rfl) N.is.len PySem.boot_len (pa_cons (pv 1) pa_nil)) (pe_glob (v := .int 60) (by rfl) mM ⟨_, rfl⟩)))))) (pss_one (L2N.ps_raise rfl (L2N.takes_of rfl rfl rfl rfl) (pm_N MB hr (by decide) gE (pa_cons pe_str (pa_cons (pe_un un_neg pe_int) pa_nil))))) pss_nil)
      (pss_cons (ps_for PassesOwn.leaving rfl (pi_enumT (by rfl) N.enum (pa_cons (pv 1) pa_nil)) (pg_tup rfl (pgs_cons (pg_name (i := 4) nd rfl (Or.inl rfl)) (pgs_cons (pg_name (i := 5) nd rfl (Or.inl rfl)) pgs_nil)))
        (pss_one (ps_if (PW.pt (pw_and (pt_cmpR op_notN (pv 5) pe_non (nomark _)) (pw_and1 (pt_not (pt_val (pe_call GB hr2 (by rfl) gB kB bB .nil pass0 (pa_cons (pv 5) (pa_cons pe_int (pa_cons (pe_op op_sub (pv 4) pe_int) pa_nil))))))))) (pss_one (L2N.ps_raise rfl (L2N.takes_of rfl rfl rfl rfl) (pm_N MB hr (by decide) gE (pa_cons pe_str (pa_cons (pv 4) pa_nil))))) pss_nil)))
      (pss_cons (ps_if (pt_not (pt_val (pe_call GO hr (by rfl) gO kO bO .nil pass0 (pa_cons (pv 2) (pa_cons (pe_callB call_len_seq (by rfl) N.is.len PySem.boot_len (pa_cons (pv 1) pa_nil)) pa_nil))))) (pss_one (L2N.ps_raise rfl (L2N.takes_of rfl rfl rfl rfl) (pm_N MB hr (by decide) gE (pa_cons pe_str (pa_cons (pe_un un_neg pe_int) pa_nil))))) pss_nil)
      (pss_cons (ps_if (pt_not (pt_val (pe_call GO hr (by rfl) gO kO bO .nil pass0 (pa_cons (pv 3) (pa_cons (pe_callB call_len_seq (by rfl) N.is.len PySem.boot_len (pa_cons (pv 1) pa_nil)) pa_nil))))) (pss_one (L2N.ps_raise rfl (L2N.takes_of rfl rfl rfl rfl) (pm_N MB hr (by decide) gE (pa_cons pe_str (pa_cons (pe_un un_neg pe_int) pa_nil))))) pss_nil)
      (pss_cons (ps_fld (pv 0) (pv 1) rfl) (pss_cons (ps_fld (pv 0) (pv 2) rfl) (pss_one (ps_fld (pv 0) (pv 3) rfl))))))), ?_⟩
    have bad : ∀ {part : Str} {at_ : Int} {H1 : Hp} (s1 : Same H H1), r = some (part, at_) → ∀ d, H1 d = none → E (.ref CB) (some d) (upd H1 d (.xd [("part", .str part), ("at", .int at_)])) := fun s1 e d nd => kE _ _ e d _ (s1.trans (smUpd nd)) upd_same
    rcases hD with ⟨hN, er⟩ | ⟨a, xs, rfl, ha, hx, hD⟩
    · obtain ⟨t, ty, k1⟩ := hN.ty (K := K)
      refine ⟨_, rfl, _, .ty "tuple", _, _, false, rfl, .ty _, ty, k1, false, rfl, ?_⟩
      refine ifT (by decide) ?_
      exact ⟨_, rfl, rfl, fun d nd => bad (Same.refl _) er d nd⟩
    refine ⟨_, rfl, _, .ty "tuple", _, _, true, rfl, .ty _, tupTyV ha, kit_ty (by decide +kernel), true, rfl, ?_⟩
    refine ifF (by decide) ?_
    refine ⟨_, rfl, a, _, rfl, .inr (.inl (.inl ha)), _, _, rfl, rfl, _, rfl, ?_⟩
    rcases hD with ⟨c, er⟩ | ⟨⟨c1, c2⟩, hD⟩
    · by_cases c1 : (1 : Int) ≤ (xs.length : Int)
      · refine ifT (decide_eq_true c1) ?_
        refine ⟨_, _, rfl, rfl, _, rfl, ?_⟩
        refine ifT (by rw [decide_eq_false (by omega)]; rfl) ?_
        exact ⟨_, rfl, rfl, fun d nd => bad (Same.refl _) er d nd⟩
      · refine ifF (by rw [decide_eq_false c1]; decide) ?_
        refine ⟨_, rfl, ?_⟩
        refine ifT (by first | rfl | (rw [decide_eq_false c1]; rfl)) ?_
        exact ⟨_, rfl, rfl, fun d nd => bad (Same.refl _) er d nd⟩
    refine ifT (decide_eq_true (by omega)) ?_
    refine ⟨_, _, rfl, rfl, _, rfl, ?_⟩
    refine ifF (by rw [decide_eq_true (by omega)]; decide) ?_
    refine ⟨_, rfl, a, _, rfl, .inl (.inl ha), ?_⟩
    rcases hD with ⟨i, x, hb, hxi, hbad, er⟩ | ⟨hall, hD⟩
    · refine for_it (walk_enumT (xs := xs)) (fun m σ H' => m ≤ i ∧ Same H H' ∧ ∃ t4 t5, σ = [some (.ref p), some (.ref a), some vb, some va, t4, t5]) ⟨Nat.zero_le _, Same.refl _, _, _, rfl⟩ (fun i σ H' _ z => .inl (.inl (z.2.1 _ _ ha))) ?_ ?_
      · rintro m y σ H' H2 hm ⟨hmi, sm, t4, t5, rfl⟩ ⟨T', x1, y1, rfl, nT, rfl, e1, e2⟩
        cases e1
        have e2 : xs[m]? = some y1 := e2
        have hel : El H' y1 := (hx _ (List.mem_of_getElem? e2)).same sm
        refine ⟨T', _, rfl, .inl (.inl upd_same), rfl, _, _, rfl, _, _, rfl, rfl, ?_⟩
        have sm2 := sm.trans (smUpd (o := .tup [V.int ((m : Nat) : Int), y1]) nT)
        have hel2 : El (upd H' T' (.tup [V.int ((m : Nat) : Int), y1])) y1 := hel.same (smUpd nT)
        by_cases cn : y1 = .non
        · subst cn
          refine ⟨_, rfl, rfl, _, rfl, ?_⟩
          refine ifF (by decide) ?_
          refine ⟨?_, sm2, _, _, rfl⟩
          rcases Nat.lt_or_eq_of_le hmi with h | h
          · omega
          · subst h
            rw [hxi] at e2; cases e2; cases hbad
        · refine ⟨_, rfl, rfl, _, rfl, ?_⟩
          refine ifT (by rw [decide_eq_false cn]; rfl) ?_
          refine ⟨_, rfl, _, rfl, _, _, rfl, rfl, y1, 0, (m : Int) - 1, rfl, hel2, _, rfl, ?_⟩
          rw [← parOk_btw (i := m) cn]
          rcases Nat.lt_or_eq_of_le hmi with h | h
          · rw [hb m y1 h e2]
            exact ifF (by decide) ⟨by omega, sm2, _, _, rfl⟩
          · subst h
            rw [hxi] at e2; cases e2
            rw [hbad]
            refine ifT (by decide) ?_
            exact ⟨_, rfl, rfl, fun d nd => bad sm2 er d nd⟩
      · rintro σ H' ⟨hm, _⟩
        have := (List.getElem?_eq_some_iff.mp hxi).1
        omega
    refine for_it (walk_enumT (xs := xs)) (fun m σ H' => Same H H' ∧ ∃ t4 t5, σ = [some (.ref p), some (.ref a), some vb, some va, t4, t5]) ⟨Same.refl _, _, _, rfl⟩ (fun i σ H' _ z => .inl (.inl (z.1 _ _ ha))) ?_ ?_
    · rintro m y σ H' H2 hm ⟨sm, t4, t5, rfl⟩ ⟨T', x1, y1, rfl, nT, rfl, e1, e2⟩
      cases e1
      have e2 : xs[m]? = some y1 := e2
      have hel : El H' y1 := (hx _ (List.mem_of_getElem? e2)).same sm
      refine ⟨T', _, rfl, .inl (.inl upd_same), rfl, _, _, rfl, _, _, rfl, rfl, ?_⟩
      have sm2 := sm.trans (smUpd (o := .tup [V.int ((m : Nat) : Int), y1]) nT)
      have hel2 : El (upd H' T' (.tup [V.int ((m : Nat) : Int), y1])) y1 := hel.same (smUpd nT)
      by_cases cn : y1 = .non
      · subst cn
        refine ⟨_, rfl, rfl, _, rfl, ?_⟩
        exact ifF (by decide) ⟨sm2, _, _, rfl⟩
      · refine ⟨_, rfl, rfl, _, rfl, ?_⟩
        refine ifT (by rw [decide_eq_false cn]; rfl) ?_
        refine ⟨_, rfl, _, rfl, _, _, rfl, rfl, y1, 0, (m : Int) - 1, rfl, hel2, _, rfl, ?_⟩
        rw [← parOk_btw (i := m) cn, hall m y1 e2]
        exact ifF (by decide) ⟨sm2, _, _, rfl⟩
    · rintro σ H' ⟨sm, t4, t5, rfl⟩
      refine ⟨_, rfl, _, rfl, a, _, rfl, .inr (.inl (.inl (sm _ _ ha))), vb, xs.length, rfl, tb.same sm, fun H1 s1 => ⟨fun hL => ⟨true, rfl, ?_⟩, fun hL => ⟨false, rfl, ?_⟩⟩⟩
      rotate_left
      · refine ifT (by decide) ?_
        rcases hD with ⟨_, er⟩ | ⟨hb, _⟩
        · exact ⟨_, rfl, rfl, fun d nd => bad (sm.trans s1) er d nd⟩
        · exact absurd (hb.same sm) hL
      refine ifF (by decide) ?_
      rcases hD with ⟨hb, _⟩ | ⟨hb, hD⟩
      · exact absurd (lotBack sm tb hL) hb
      refine ⟨_, rfl, _, rfl, a, _, rfl, .inr (.inl (.inl (s1 _ _ (sm _ _ ha)))), va, xs.length, rfl, ta.same (sm.trans s1), fun H3 s3 => ⟨fun hL2 => ⟨true, rfl, ?_⟩, fun hL2 => ⟨false, rfl, ?_⟩⟩⟩
      rotate_left
      · refine ifT (by decide) ?_
        rcases hD with ⟨_, er⟩ | ⟨hc, _⟩
        · exact ⟨_, rfl, rfl, fun d nd => bad ((sm.trans s1).trans s3) er d nd⟩
        · exact absurd (hc.same (sm.trans s1)) hL2
      refine ifF (by decide) ?_
      rcases hD with ⟨hc, _⟩ | ⟨hc, er⟩
      · exact absurd (lotBack (sm.trans s1) ta hL2) hc
      have hN : DueR H (.ref a) vb va none := .inr ⟨a, xs, rfl, ha, hx, .inr ⟨⟨c1, c2⟩, .inr ⟨hall, .inr ⟨hb, .inr ⟨hc, rfl⟩⟩⟩⟩⟩
      obtain ⟨ap, ab, aa, fo, ea, rfl, rfl, h1, h2, h3, ok⟩ := due_none hN
      cases ea
      have sm3 := (sm.trans s1).trans s3
      refine ⟨_, rfl, _, rfl, p, C, dx, [], rfl, sm3 _ _ hp, TF.cl, TF.nP, (by show 0 < 1000; decide), ?_⟩
      refine ⟨_, rfl, _, rfl, p, C, dx, _, rfl, upd_same, TF.cl, TF.nB, (by show 1 < 1000; decide), ?_⟩
      refine ⟨_, rfl, _, rfl, p, C, dx, _, rfl, upd_same, TF.cl, TF.nA, (by show 2 < 1000; decide), ?_⟩
      have kp : ∀ b o, b ≠ p → H b = some o → (upd (upd (upd H3 p (.ins C dx (putF "parents" (.ref a) []))) p (.ins C dx (putF "bearing" (.ref ab) (putF "parents" (.ref a) [])))) p (.ins C dx (fields3 a ab aa))) b = some o := fun b o ne e => by
        rw [upd_ne ne, upd_ne ne, upd_ne ne]
        exact sm3 _ _ e
      have nt : ∀ {a : Addr} {xs : List V}, H a = some (.tup xs) → a ≠ p := fun {a xs} e z => by rw [z, hp] at e; cases e
      exact kQ er a ab aa fo rfl rfl rfl h1 h2 h3 ok _ ⟨dx, a, ab, aa, upd_same, kp _ _ (nt h1) h1, kp _ _ (nt h2) h2, kp _ _ (nt h3) h3⟩ kp
end
end Cn
namespace L2
open PySem PySem.Spec PyProof.Rows
/-! own == and != beside a thing of a built-in class -/
def OddT (K : PySem.W.Frag) (C : Addr) (T : String) : Prop := PySem.W.subIn K (.type T) (.ref C) = some false ∧ PySem.W.kitOne K (.type T) (.ref C) = some false
def spEqO (K : PySem.W.Frag) (C : Addr) : Sp := fun vs H Q _ => ∃ a y T, vs = [.ref a, y] ∧ TyX K H y (.type T) ∧ OddT K C T ∧ ∀ H', Ext H H' → Q (.bl false) H'
def rEqO (K : PySem.W.Frag) (C : Addr) (c : Bool) : R2 := fun x y H Q => ∃ a dx fs T, x = .ref a ∧ H a = some (.ins C dx fs) ∧ TyX K H y (.type T) ∧ OddT K C T ∧ ∀ H', Ext H H' → Q (.bl c) H'
section
variable {X : Cx} {n : Nat}
theorem op_eqO {CX : CXT} {C f : Addr} {fd : FuncData} {ps : List Str} {E : XK} (F : FnOk X.prog X.w X.K X.mg X.base CX n f fd ps (spEqO X.K C))
    (hs : PySem.W.findIn X.K (.ref C) "__eq__" = some (some (.ref f))) (hf : PySem.W.isFn X.K (.ref f) = true) (hb : Binds X.K fd ps []) (hx : Passes CX X E) (hr : Room n X.A) : OpR X (compareOp .Eq) (rEqO X.K C false) := by
  intro pins s σ H x y v u Q I rx ry hq
  obtain ⟨a, dx, fs, T, rfl, ha, ty, hT, q⟩ := hq
  cases rx
  show wpAny (model X.prog X.w) X.A (richCompare .Eq (.ref a) u) (EP X pins σ Q) X.xe s
  obtain ⟨mA, J, _⟩ := ins_get I.hok ha
  obtain ⟨od, J, _⟩ := J.look
  obtain ⟨Pz, kx, pz, _⟩ := kit_of I ry ty
  obtain ⟨m, hF⟩ := I.fr
  refine PySem.W.cmp_K (op := .Eq) (tb := .type T) hr.units0 hF I.ok.mod.kin J (kx.ty _ _ I.kIn pz) (by simp [PySem.W.notFirst, hT.1]) hs hf ?_
  have hsp : spEqO X.K C [.ref a, y] H (fun v H' => v = .bl false ∧ Ext H H') E := ⟨a, y, T, rfl, ty, hT, fun H' e => ⟨rfl, e⟩⟩
  have hl := F.len _ _ _ _ hsp
  have r2 : Vals [V.ref a, y] [Value.ref a, u] := .cons rfl (.cons ry .nil)
  refine wpAny_call (codeAny_mono (F.run X.A X.stack s H ⟨[.ref a, u], []⟩ [.ref a, u] [.ref a, y] _ E hr I.env0 (by
    have := hb s [.ref a, u] I.kIn (by simpa using hl)
    simpa using this) r2 hsp) fun r s' hq => ?_)
  cases r with
  | error e => exact hx pins σ H s e s' I hq
  | ok fl =>
    cases fl with
    | ret w =>
      obtain ⟨z, H', I', rz, ez, ex⟩ := I.after hq
      subst ez
      cases rz
      exact ⟨.bl false, H', I', rfl, q H' ex⟩
    | next => exact False.elim hq
    | brk => exact False.elim hq
    | cont => exact False.elim hq
theorem op_neO {CX : CXT} {C f : Addr} {fd : FuncData} {ps : List Str} {E : XK} (F : FnOk X.prog X.w X.K X.mg X.base CX n f fd ps (spEqO X.K C))
    (hs : PySem.W.findIn X.K (.ref C) "__eq__" = some (some (.ref f))) (hf : PySem.W.isFn X.K (.ref f) = true) (hne : PySem.W.findIn X.K (.ref C) "__ne__" = some (some (.builtin "object.__ne__"))) (hm : PySem.W.mroIn X.K C (.type "object") = some true)
    (hb : Binds X.K fd ps []) (hx : Passes CX X E) (hr : Room (n + 1) X.A) : OpR X (compareOp .NotEq) (rEqO X.K C true) := by
  intro pins s σ H x y v u Q I rx ry hq
  obtain ⟨a, dx, fs, T, rfl, ha, ty, hT, q⟩ := hq
  cases rx
  show wpAny (model X.prog X.w) X.A (richCompare .NotEq (.ref a) u) (EP X pins σ Q) X.xe s
  obtain ⟨mA, J, _⟩ := ins_get I.hok ha
  obtain ⟨od, J, _⟩ := J.look
  obtain ⟨Pz, kx, pz, _⟩ := kit_of I ry ty
  refine ne_K (tb := .type T) (by have := hr.units0; have := hr.un; omega) I.kIn J (kx.ty _ _ I.kIn pz) (by simp [PySem.W.notFirst, hT.1]) hs hf hne hm ?_
  have hsp : spEqO X.K C [.ref a, y] H (fun v H' => v = .bl false ∧ Ext H H') E := ⟨a, y, T, rfl, ty, hT, fun H' e => ⟨rfl, e⟩⟩
  have hl := F.len _ _ _ _ hsp
  have r2 : Vals [V.ref a, y] [Value.ref a, u] := .cons rfl (.cons ry .nil)
  refine wpAny_call (codeAny_mono (F.run X.A.in1 X.stack s H ⟨[.ref a, u], []⟩ [.ref a, u] [.ref a, y] _ E hr.in1 I.env0.in1 (by
    have := hb s [.ref a, u] I.kIn (by simpa using hl)
    simpa using this) r2 hsp) fun r s' hq => ?_)
  cases r with
  | error e => exact hx pins σ H s e s' I hq
  | ok fl =>
    cases fl with
    | ret w =>
      obtain ⟨z, H', I', rz, ez, ex⟩ := I.after hq
      subst ez
      cases rz
      exact ⟨false, rfl, .bl true, H', I', rfl, q H' ex⟩
    | next => exact False.elim hq
    | brk => exact False.elim hq
    | cont => exact False.elim hq
end
/-- two promises of one def -/
theorem FnOk.or {P : Program} {w : World} {K : PySem.W.Frag} {mg : Str → Option Value} {base : Heap} {CX : CXT} {k : Nat} {f : Addr} {fd : FuncData} {ps : List Str} {sp sp' : Sp} (F : FnOk P w K mg base CX k f fd ps sp) (G : FnOk P w K mg base CX k f fd ps sp') :
    FnOk P w K mg base CX k f fd ps (fun vs H Q E => sp vs H Q E ∨ sp' vs H Q E) :=
  ⟨fun vs H Q E h => h.elim (F.len vs H Q E) (G.len vs H Q E), fun A outer s H args us vs Q E hr e0 hb r h => h.elim (F.run A outer s H args us vs Q E hr e0 hb r) (G.run A outer s H args us vs Q E hr e0 hb r)⟩
end L2
namespace Cn
open PySem PySem.Spec PyProof.Rows L2 Ck
theorem fn0X {P : Program} {w : World} {K : PySem.W.Frag} {mg : Str → Option Value} {base : Heap} {CX : CXT} {k : Nat} {f : Addr} {fd : FuncData} {ps : List Str} {sp : Sp} (F : FnOk P w K mg base CX0 k f fd ps sp) : FnOk P w K mg base CX k f fd ps sp :=
  ⟨F.len, fun A outer s H args us vs Q E hr e0 hb r h => codeAny_mono (F.run A outer s H args us vs Q E hr e0 hb r h) fun r s' hq => by
    cases r with
    | error e => exact False.elim hq
    | ok fl => cases fl <;> exact hq⟩
def isTyB : Value → Bool
  | .type _ => true
  | _ => false
section
variable {P : Program} {w : World} {K : PySem.W.Frag} {mg : Str → Option Value} {base : Heap} {C : Addr}
theorem oddT (B : Defs K mg C) {T : String} (h : (fastBuiltinMro T).map (·.all isTyB) = some true) : OddT K C T := by
  have hs : PySem.W.subIn K (.type T) (.ref C) = some false := by
    obtain ⟨l, h1, h2⟩ := Option.map_eq_some_iff.mp h
    show (fastBuiltinMro T).map (·.contains (.ref C)) = some false
    rw [h1]
    refine congrArg some ?_
    rw [Bool.eq_false_iff]
    intro z
    have z := List.contains_iff_mem.mp z
    exact Bool.noConfusion (show false = true from List.all_eq_true.mp h2 _ z)
  refine ⟨hs, ?_⟩
  obtain ⟨k1, k2, _⟩ := B.kF
  unfold PySem.W.kitOne
  rw [if_neg (by rw [show (Value.type T == Value.ref C) = false from beq_eq_false_iff_ne.mpr (fun z => by cases z)]; exact Bool.false_ne_true)]
  show (if _ then _ else _) = _
  have i2 : (PySem.W.clsIn K C).isSome = true := k1
  rw [if_pos (by rw [i2, k2]; rfl)]
  exact hs
theorem El.odd (B : Defs K mg C) {H : Hp} {x : V} (h : El H x) : ∃ T, TyX K H x (.type T) ∧ OddT K C T := by
  rcases h with ⟨i, rfl⟩ | ⟨b, rfl⟩ | rfl | ⟨s, rfl⟩ | ⟨a, rfl, ⟨xs, h⟩ | ⟨xs, h⟩ | ⟨kvs, h⟩⟩
  · exact ⟨_, .base (.int i), oddT B (by decide +kernel)⟩
  · exact ⟨_, .base (.bl b), oddT B (by decide +kernel)⟩
  · exact ⟨_, .base .non, oddT B (by decide +kernel)⟩
  · exact ⟨_, .base (.str s), oddT B (by decide +kernel)⟩
  · exact ⟨_, .base (.lst h), oddT B (by decide +kernel)⟩
  · exact ⟨_, .base (.tup h), oddT B (by decide +kernel)⟩
  · exact ⟨_, .base (.dK h), oddT B (by decide +kernel)⟩
theorem foTy (B : Defs K mg C) {H : Hp} {a : Addr} {f : Fo} (h : FoAt C H a f) : TyX K H (.ref a) (.ref C) := by
  obtain ⟨dx, ap, ab, aa, g0, _⟩ := h
  exact .base (.ins g0 B.T.cl B.ty5.1 B.ty5.2.1 B.ty5.2.2.1 B.ty5.2.2.2)
theorem foInt (B : Defs K mg C) : PySem.W.kitOne K (.ref C) (.type "int") = some false := by
  obtain ⟨_, _, k3⟩ := B.kF
  unfold PySem.W.kitOne
  rw [if_neg (by rw [show (Value.ref C == Value.type "int") = false from beq_eq_false_iff_ne.mpr (fun z => by cases z)]; exact Bool.false_ne_true)]
  unfold PySem.W.kitCls
  have km : PySem.W.kitMeta "int" = true := by decide +kernel
  dsimp only
  rw [if_pos km]
  exact k3
theorem ok_eqO (B : Defs K mg C) {f : Addr} {fd : FuncData} (F : Fun K "__eq__" "Forest.__eq__" sEqM f fd) : FnOk P w K mg base CX0 1 f fd ["self", "other"] (spEqO K C) := by
  have N := B.N
  have T := B.T
  refine F.ok scEqM (fun vs H Q E h => ?_) (fun cdv A outer s H vs Q E hr h => ?_)
  · obtain ⟨a, b, c, rfl, _⟩ := h
    rfl
  · obtain ⟨a, y, Ty, rfl, ty, hT, k⟩ := h
    refine ⟨_, pss_one (ps_ret (pe_and (pe_callB call_isi (by rfl) N.is.inst (by decide +kernel) (pa_cons (pv 1) (pa_cons (pe_glob (v := .ref C) (by rfl) T.mgC rfl) pa_nil)))
      (pe_and (pe_cmpR (op_eqD hr.units) (pe_fld (pv 0) rfl) (pe_fld (pv 1) rfl) (nomark _))
      (pe_and (pe_cmpR (op_eqD hr.units) (pe_fld (pv 0) rfl) (pe_fld (pv 1) rfl) (nomark _))
      (pe_one (pe_cmpR (op_eqD hr.units) (pe_fld (pv 0) rfl) (pe_fld (pv 1) rfl) (nomark _))))))), ?_⟩
    refine ⟨_, rfl, _, .ref C, _, _, false, rfl, .own C, ty, hT.2, false, rfl, ?_⟩
    exact ifF (by decide) (k H Ext.rfl')
/-! is_integer, is_between: of forests too -/
def spIntA (C : Addr) : Sp := fun vs H Q _ => ∃ x : V, vs = [x] ∧ ((El H x ∧ Q (.bl (elN x)) H) ∨ ((∃ a f, x = .ref a ∧ FoAt C H a f) ∧ Q (.bl false) H))
theorem dIntA (B : Defs K mg C) : Def P w K mg base "is_integer" 1 ["thing"] (spIntA C) := by
  have N := B.N
  refine def_of B.I fun f fd F => ?_
  refine F.ok scIsInt (fun vs H Q E h => ?_) (fun cdv A outer s H vs Q E hr h => ?_)
  · obtain ⟨x, rfl, _⟩ := h
    rfl
  · obtain ⟨x, rfl, h⟩ := h
    refine ⟨_, pss_one (ps_ret (pe_and (pe_callB call_isi (by rfl) N.is.inst (by decide +kernel) (pa_cons (pv 0) (pa_cons (pe_bltn (v := .ty "int") (by rfl) N.int (by decide +kernel) rfl) pa_nil))) (pe_one (pe_not (pe_callB call_isi (by rfl) N.is.inst (by decide +kernel) (pa_cons (pv 0) (pa_cons (pe_bltn (v := .ty "bool") (by rfl) N.is.bool (by decide +kernel) rfl) pa_nil))))))), ?_⟩
    rcases h with ⟨hx, k⟩ | ⟨⟨a, fo, rfl, hF⟩, k⟩
    · obtain ⟨t, ty, k1, k2⟩ := hx.ty (K := K)
      refine ⟨_, rfl, _, .ty "int", _, _, elI x, rfl, .ty _, ty, k1, elI x, rfl, ?_⟩
      rcases hx with ⟨i, rfl⟩ | ⟨b, rfl⟩ | hx
      · refine ifT rfl ?_
        exact ⟨_, rfl, _, .ty "bool", _, _, _, rfl, .ty _, ty, k2, _, rfl, k⟩
      · refine ifT rfl ?_
        exact ⟨_, rfl, _, .ty "bool", _, _, _, rfl, .ty _, ty, k2, _, rfl, k⟩
      · have e1 : elI x = false := by
          rcases hx with rfl | ⟨s, rfl⟩ | ⟨a, rfl, _⟩ <;> rfl
        have e2 : elN x = false := by
          rcases hx with rfl | ⟨s, rfl⟩ | ⟨a, rfl, _⟩ <;> rfl
        rw [e1]
        rw [e2] at k
        exact ifF (by decide) k
    · refine ⟨_, rfl, _, .ty "int", _, _, false, rfl, .ty _, foTy B hF, foInt B, false, rfl, ?_⟩
      exact ifF (by decide) k
def spBtwA (C : Addr) : Sp := fun vs H Q _ => ∃ (x : V) (a b : Int), vs = [x, .int a, .int b] ∧ ((El H x ∧ Q (.bl (elBtw a b x)) H) ∨ ((∃ a f, x = .ref a ∧ FoAt C H a f) ∧ Q (.bl false) H))
theorem dBtwA (B : Defs K mg C) : Def P w K mg base "is_between" 2 ["thing", "least", "most"] (spBtwA C) := by
  obtain ⟨fI, fdI, GI, gI, kI, bI⟩ := dIntA (P := P) (w := w) (base := base) B
  refine def_of B.B fun f fd F => ?_
  refine F.ok scIsBtw (fun vs H Q E h => ?_) (fun cdv A outer s H vs Q E hr h => ?_)
  · obtain ⟨n, a, b, rfl, _⟩ := h
    rfl
  · obtain ⟨x, a, b, rfl, h⟩ := h
    refine ⟨_, pss_one (ps_ret (pe_and (pe_call GI hr (by rfl) gI kI bI .nil pass0 (pa_cons (pv 0) pa_nil)) (pe_one (pe_chain op_le op_le (pv 1) (pv 0) (pv 2))))), ?_⟩
    rcases h with ⟨hx, k⟩ | ⟨hF, k⟩
    · refine ⟨_, rfl, x, rfl, .inl ⟨hx, elN x, rfl, ?_⟩⟩
      cases x with
      | int n =>
        refine ifT rfl ?_
        refine ⟨_, rfl, _, rfl, _, _, rfl, rfl, _, rfl, ?_⟩
        by_cases h1 : a ≤ n
        · refine ifT (decide_eq_true h1) ?_
          refine ⟨_, rfl, _, _, rfl, rfl, ?_⟩
          rw [show elBtw a b (.int n) = decide (n ≤ b) from by show decide (a ≤ n ∧ n ≤ b) = _; simp [h1]] at k
          exact k
        · refine ifF (by rw [decide_eq_false h1]; exact Bool.false_ne_true) ?_
          rw [show elBtw a b (.int n) = false from by show decide (a ≤ n ∧ n ≤ b) = _; simp [h1]] at k
          exact k
      | _ => exact ifF (fun z => Bool.noConfusion z) k
    · refine ⟨_, rfl, x, rfl, .inr ⟨hF, false, rfl, ?_⟩⟩
      exact ifF (by decide) k
/-! what is no place, what is no number of places -/
def spPlaceX (C : Addr) : Sp := fun vs H Q _ => ∃ (a : Addr) (f : Fo) (v : V), vs = [.ref a, v] ∧ FoAt C H a f ∧ El H v ∧ Q (.bl (elBtw 0 ((f.ps.length : Int) - 1) v)) H
theorem dPlaceX (B : Defs K mg C) : Def P w K mg base "is_place" 3 ["forest", "thing"] (spPlaceX C) := by
  obtain ⟨fB, fdB, GB, gB, kB, bB⟩ := dBtwX (P := P) (w := w) (base := base) B
  refine def_of B.Pl fun f fd F => ?_
  refine F.ok scIsPlace (fun vs H Q E h => ?_) (fun cdv A outer s H vs Q E hr h => ?_)
  · obtain ⟨a, f, i, rfl, _⟩ := h
    rfl
  · obtain ⟨a, fo, v, rfl, ⟨dx, ap, ab, aa, h0, h1, h2, h3⟩, hv, k⟩ := h
    refine ⟨_, pss_one (ps_ret (pe_call GB hr (by rfl) gB kB bB .nil pass0 (pa_cons (pv 1) (pa_cons pe_int (pa_cons (pe_op op_sub (pe_callB call_len_seq (by rfl) B.N.is.len PySem.boot_len (pa_cons (pe_fld (pv 0) rfl) pa_nil)) pe_int) pa_nil))))), ?_⟩
    refine ⟨_, rfl, _, rfl, a, C, dx, _, _, rfl, h0, B.T.cl, B.T.nP, fP, ap, _, rfl, .inr (tpL h1), _, _, rfl, rfl, v, 0, _, rfl, hv, ?_⟩
    rw [List.length_map]
    exact k
def spNoPlace (C CP : Addr) : Sp := fun vs H _ E => ∃ (a : Addr) (f : Fo) (v : V), vs = [.ref a, v] ∧ FoAt C H a f ∧ El H v ∧ elBtw 0 ((f.ps.length : Int) - 1) v = false ∧ ∀ H', Same H H' → E (.ref CP) none H'
variable {NE CP CN : Addr} {l : List (Str × Addr)}
theorem mkNo (T : ErrL P w K mg NE l) {x : Str} {D : Addr} (h : (x, D) ∈ l) (e : fsOf x = []) : Cx0.MkE P w K mg D [] := by
  have := (T.e _ h).mkE
  rw [show fsOf (x, D).1 = [] from e] at this
  exact this
theorem dWayX (B : Defs K mg C) (T : ErrL P w K mg NE l) (hP : (("NoPlace" : Str), CP) ∈ l) : DefX P w K mg base "way" 4 ["forest", "place"] (fun vs H Q E => spWay C vs H Q E ∨ spNoPlace C CP vs H Q E) := by
  obtain ⟨fB, fdB, GB, gB, kB, bB⟩ := dPlaceX (P := P) (w := w) (base := base) B
  have MP := mkNo T hP (by decide)
  have gE := (T.e _ hP).g
  refine defx_of B.W fun f fd F => FnOk.or (fn0X (okWay B F)) ?_
  refine okXN F scWay (fun vs H Q E h => ?_) (fun cdv A outer s H vs Q E hr h => ?_)
  · obtain ⟨a, f, i, rfl, _⟩ := h
    rfl
  · obtain ⟨a, fo, v, rfl, hF, hv, hb, k⟩ := h
    refine ⟨_, pss_cons (ps_if (pt_not (pt_val (pe_call GB hr (by rfl) gB kB bB .nil pass0 (pa_cons (pv 0) (pa_cons (pv 1) pa_nil))))) (pss_one (L2N.ps_raise rfl (L2N.takes_of rfl rfl rfl rfl) (pm_0 MP hr gE))) pss_nil)
      (pss_cons (ps_set (i := 2) scWay.nd rfl (Or.inl rfl) (pe_lst (pa_cons (pv 1) pa_nil)))
      (pss_cons (ps_set (i := 3) scWay.nd rfl (Or.inl rfl) (pe_ix ix_tup (pe_fld (pv 0) rfl) (pv 1) (fun _ _ => rfl)))
      (pss_cons (ps_while PassesOwn.leaving (pt_cmpR op_notN (pv 3) pe_non (nomark _))
        (pss_cons (ps_expr (pe_bm PySem.F.plainAttrs_list PySem.F.slot_list_append PySem.F.type_list_append mt_append (pv 2) (pa_cons (pv 3) pa_nil)))
        (pss_one (ps_set (i := 3) scWay.nd rfl (Or.inl rfl) (pe_ix ix_tup (pe_fld (pv 0) rfl) (pv 3) (fun _ _ => rfl))))))
      (pss_one (ps_ret (pe_tupRevD rfl (by rfl) B.N.is.tup (by rfl) B.N.rev (pv 2))))))), ?_⟩
    refine ⟨_, rfl, _, rfl, a, fo, v, rfl, hF, hv, _, rfl, ?_⟩
    rw [hb]
    exact ifT (by decide) (k H (Same.refl _))
theorem dUnderX (B : Defs K mg C) (T : ErrL P w K mg NE l) (hP : (("NoPlace" : Str), CP) ∈ l) : DefX P w K mg base "under" 4 ["forest", "place"] (fun vs H Q E => spUnder C vs H Q E ∨ spNoPlace C CP vs H Q E) := by
  obtain ⟨fB, fdB, GB, gB, kB, bB⟩ := dPlaceX (P := P) (w := w) (base := base) B
  have N := B.N
  have MP := mkNo T hP (by decide)
  have gE := (T.e _ hP).g
  refine defx_of B.un fun f fd F => FnOk.or (fn0X (okUnder B F)) ?_
  refine okXN F scUnder (fun vs H Q E h => ?_) (fun cdv A outer s H vs Q E hr h => ?_)
  · obtain ⟨a, f, i, rfl, _⟩ := h
    rfl
  · obtain ⟨a, fo, v, rfl, hF, hv, hb, k⟩ := h
    refine ⟨_, pss_cons (ps_if (pt_not (pt_val (pe_call GB hr (by rfl) gB kB bB .nil pass0 (pa_cons (pv 0) (pa_cons (pv 1) pa_nil))))) (pss_one (L2N.ps_raise rfl (L2N.takes_of rfl rfl rfl rfl) (pm_0 MP hr gE))) pss_nil)
      (pss_cons (ps_set (i := 2) scUnder.nd rfl (Or.inl rfl) (pe_lst (pa_cons (pv 1) pa_nil)))
      (pss_cons (ps_for PassesOwn.leaving rfl (pi_range2 (by rfl) N.range (pa_cons (pe_op op_add (pv 1) pe_int) (pa_cons (pe_callB call_len_seq (by rfl) N.is.len PySem.boot_len (pa_cons (pe_fld (pv 0) rfl) pa_nil)) pa_nil))) (pg_name (i := 3) scUnder.nd rfl (Or.inl rfl))
        (pss_one (ps_if (pt_cmpR op_in_seq (pe_ix ix_tup (pe_fld (pv 0) rfl) (pv 3) (fun _ _ => rfl)) (pv 2) (by rfl))
          (pss_one (ps_expr (pe_bm PySem.F.plainAttrs_list PySem.F.slot_list_append PySem.F.type_list_append mt_append (pv 2) (pa_cons (pv 3) pa_nil)))) pss_nil)))
      (pss_one (ps_ret (pe_callTy call_tuple_of (by rfl) N.is.tup (by decide +kernel) (pa_cons (pv 2) pa_nil)))))), ?_⟩
    refine ⟨_, rfl, _, rfl, a, fo, v, rfl, hF, hv, _, rfl, ?_⟩
    rw [hb]
    exact ifT (by decide) (k H (Same.refl _))
def spNoRow (C CN : Addr) : Sp := fun vs H _ E => ∃ v : V, vs = [v] ∧ ((El H v ∧ elBtw 1 60 v = false) ∨ ∃ a f, v = .ref a ∧ FoAt C H a f) ∧ ∀ H', Same H H' → E (.ref CN) none H'
theorem dRowX (B : Defs K mg C) (T : ErrL P w K mg NE l) (hN : (("NoNumber" : Str), CN) ∈ l) : DefX P w K mg base "row" 6 ["places"] (spNoRow C CN) := by
  obtain ⟨fN, fdN, FN, MN, bN⟩ := B.ini
  obtain ⟨tm, mM⟩ := B.mM
  obtain ⟨fI, fdI, DI⟩ := B.I
  obtain ⟨fL, fdL, DL⟩ := B.L
  obtain ⟨fB, fdB, DB⟩ := B.B
  obtain ⟨fO, fdO, DO⟩ := B.O
  have GN : FnOk P w K mg base CX0 4 fN fdN ["self", "parents", "bearing", "asking"] (spInit C) := ok_init FN B.N B.T mM DI DL DB DO
  obtain ⟨fT, fdT, GT, gT, kT, bT⟩ := dBtwA (P := P) (w := w) (base := base) B
  have N := B.N
  have nd := scRow.nd
  have MP := mkNo T hN (by decide)
  have gE := (T.e _ hN).g
  refine defx_of B.rw fun f fd F => ?_
  refine okXN F scRow (fun vs H Q E h => ?_) (fun cdv A outer s H vs Q E hr h => ?_)
  · obtain ⟨n, rfl, _⟩ := h
    rfl
  · obtain ⟨v, rfl, hv, k⟩ := h
    have h2 : Room 2 (A.deeper (envOfC "row" (defScope sRow) s.heap.objs.size f cdv)) := Room.mono hr (by decide)
    refine ⟨_, pss_cons (ps_if (pt_not (pt_val (pe_call GT h2 (by rfl) gT kT bT .nil pass0 (pa_cons (pv 0) (pa_cons pe_int (pa_cons (pe_glob (v := .int 60) (by rfl) mM ⟨_, rfl⟩) pa_nil)))))) (pss_one (L2N.ps_raise rfl (L2N.takes_of rfl rfl rfl rfl) (pm_0 MP hr gE))) pss_nil)
      (pss_cons (ps_set (i := 1) nd rfl (Or.inl rfl) (pe_tupRg rfl (by rfl) N.is.tup (prg_1 (by rfl) N.range (pv 0))))
      (pss_one (ps_ret (pe_make MN GN hr (by rfl) B.T.mgC bN .nil pass0 (pa_cons (pe_op op_catA (pe_tup (pa_cons pe_non pa_nil)) (pe_slice sl_tupA (pv 1) po_none (po_some (pe_un un_neg pe_int)))) (pa_cons (pv 1) (pa_cons (pv 1) pa_nil))))))), ?_⟩
    refine ⟨_, rfl, v, _, _, rfl, ?_⟩
    rcases hv with ⟨hv, hb⟩ | ⟨a, fo, rfl, hF⟩
    · refine .inl ⟨hv, _, rfl, ?_⟩
      rw [hb]
      exact ifT (by decide) (k H (Same.refl _))
    · exact .inr ⟨⟨a, fo, rfl, hF⟩, false, rfl, ifT (by decide) (k H (Same.refl _))⟩
def spIsRowX (C : Addr) : Sp := fun vs H Q _ => ∃ v : V, vs = [v] ∧ ((El H v ∧ ∀ H', Same H H' → Q (.bl false) H') ∨ ∃ a f, v = .ref a ∧ FoAt C H a f ∧ FoOk f ∧ ∀ H', Same H H' → Q (.bl (foB f (rowF f.ps.length))) H')
theorem dIsRowX (B : Defs K mg C) : Def P w K mg base "is_row" 7 ["thing"] (spIsRowX C) := by
  obtain ⟨fR, fdR, GR, gR, kR, bR⟩ := dRow (P := P) (w := w) (base := base) B
  obtain ⟨fe, fde, Fe, he1, he2, be⟩ := B.eqm
  have Ge : FnOk P w K mg base CX0 1 fe fde ["self", "other"] (spEqC (FoCmp C)) := ok_eqC B Fe
  have N := B.N
  have T := B.T
  refine def_of B.isr fun f fd F => ?_
  refine F.ok scIsRow (fun vs H Q E h => ?_) (fun cdv A outer s H vs Q E hr h => ?_)
  · obtain ⟨v, rfl, _⟩ := h
    rfl
  · obtain ⟨v, rfl, h⟩ := h
    have h1 : Room 1 (A.deeper (envOfC "is_row" (defScope sIsRow) s.heap.objs.size f cdv)) := Room.mono hr (by decide)
    refine ⟨_, pss_one (ps_ret (pe_and (pe_callB call_isi (by rfl) N.is.inst (by decide +kernel) (pa_cons (pv 0) (pa_cons (pe_glob (v := .ref C) (by rfl) T.mgC rfl) pa_nil)))
      (pe_one (pe_cmpR (op_eqC Ge he1 he2 be pass0 h1) (pv 0) (pe_call GR hr (by rfl) gR kR bR .nil pass0 (pa_cons (pe_callB call_len_seq (by rfl) N.is.len PySem.boot_len (pa_cons (pe_fld (pv 0) rfl) pa_nil)) pa_nil)) (nomark _))))), ?_⟩
    rcases h with ⟨hv, k⟩ | ⟨a, fo, rfl, hF, ok, k⟩
    · obtain ⟨Ty, ty, hT⟩ := hv.odd B
      refine ⟨_, rfl, _, .ref C, _, _, false, rfl, .own C, ty, hT.2, false, rfl, ?_⟩
      exact ifF (by decide) (k H (Same.refl _))
    · obtain ⟨dx, ap, ab, aa, h0, h1', h2, h3⟩ := id hF
      refine ⟨_, rfl, _, .ref C, _, _, true, rfl, .own C, foTy B hF, kitSelf, true, rfl, ?_⟩
      refine ifT rfl ?_
      refine ⟨_, rfl, _, rfl, a, C, dx, _, _, rfl, h0, T.cl, T.nP, fP, ap, _, rfl, .inr (tpL h1'), fo.ps.length, ?_, ok.l0, ok.l1, fun b H1 s1 hb => ?_⟩
      · exact congrArg (fun z : Nat => [vn z]) (List.length_map _)
      have ha1 := foAt_same s1 hF
      obtain ⟨dx1, _, _, _, a0, _, _, _⟩ := id ha1
      obtain ⟨dy, _, _, _, b0, _, _, _⟩ := id hb
      exact ⟨a, b, _, dx1, dy, _, _, rfl, rfl, a0, b0, ⟨fo, _, ha1, hb, rfl⟩, fun H2 e2 => k H2 (s1.trans e2)⟩
end
end Cn
namespace Cn
open PySem PySem.Spec PyProof.Rows L2 Ck
/-! the law's own look at three things of any kind -/
/-- a walk of any kind, whatever its body -/
theorem anyWalk {J : It} {n : Nat} {G : Hp → Prop} {Y : Nat → Hp → V → Hp → Prop} (w : Walk J n G Y) {H0 : Hp} {Qd : Hp → Prop} {Body : (Hp → Prop) → V → Hp → Prop} (Pv : Nat → Hp → Prop) (start : Pv 0 H0) (still : ∀ i H, i ≤ n → Pv i H → G H)
    (turn : ∀ i x H H', i < n → Pv i H → Y i H x H' → Body (Pv (i + 1)) x H') (over : ∀ H, Pv n H → Qd H) :
    ∃ W : Nat → Nat → Hp → Prop, (∃ m, W 0 m H0) ∧ ∀ i m H, W i m H → (J.stop i H ∧ Qd H) ∨ (J.go i H ∧ ∃ Nx : Hp → Prop, (∀ H', Nx H' → ∃ m', m' < m ∧ W (i + 1) m' H') ∧ ∀ x H', J.yld i H x H' → Body Nx x H') := by
  refine ⟨fun i m H => m + i = n ∧ Pv i H, ⟨n, Nat.add_zero n, start⟩, fun i m H hW => ?_⟩
  obtain ⟨sum, here⟩ := hW
  have st := still i H (by omega) here
  cases m with
  | zero =>
    have ei : i = n := by omega
    subst ei
    exact .inl ⟨w.stops H st, over H here⟩
  | succ m => exact .inr ⟨w.goes i H (by omega) st, Pv (i + 1), fun H' later => ⟨m, Nat.lt_succ_self m, by omega, later⟩, fun x H' y => turn i x H H' (by omega) here (w.yields i H x H' (by omega) st y)⟩
theorem noTupSame {H H' : Hp} {v : V} (s : Same H H') (h : NoTup H v) : NoTup H' v := by
  rcases h with h | h | h | h | ⟨a, e, ⟨xs, h⟩ | ⟨kvs, h⟩⟩
  · exact .inl h
  · exact .inr (.inl h)
  · exact .inr (.inr (.inl h))
  · exact .inr (.inr (.inr (.inl h)))
  · exact .inr (.inr (.inr (.inr ⟨a, e, .inl ⟨xs, s _ _ h⟩⟩)))
  · exact .inr (.inr (.inr (.inr ⟨a, e, .inr ⟨kvs, s _ _ h⟩⟩)))
theorem lotOne {n : Nat} {xs : List V} {zs : List Int} (e : xs = zs.map V.int) (h : ∀ x ∈ xs, elBtw 0 ((n : Int) - 1) x = true) : ∀ z ∈ zs, 0 ≤ z ∧ z < (n : Int) := fun z hz => by
  have h := h (.int z) (by rw [e]; exact List.mem_map.mpr ⟨z, hz, rfl⟩)
  have := of_decide_eq_true (show decide (0 ≤ z ∧ z ≤ (n : Int) - 1) = true from h)
  omega
theorem btwInt {a b : Int} {x : V} (h : elBtw a b x = true) : elN x = true := by
  cases x <;> first | rfl | cases h
section
variable {P : Program} {w : World} {K : PySem.W.Frag} {mg : Str → Option Value} {base : Heap} {C : Addr}
def spLIsIntX : Sp := fun vs H Q _ => ∃ (x : V) (a b : Int), vs = [x, .int a, .int b] ∧ El H x ∧ Q (.bl (elBtw a b x)) H
def nLIsInt : List Str := ["_law_thing", "_law_least", "_law_most"]
theorem scLIsInt : FnScope nLIsInt ["_law_thing", "_law_least", "_law_most"] (defScope sLIsInt) := ⟨rfl, rfl, rfl, by decide +kernel, rfl, by decide +kernel, by decide +kernel⟩
theorem dLIsIntX (B : Defs K mg C) : Def P w K mg base "_law_is_int" 1 ["_law_thing", "_law_least", "_law_most"] spLIsIntX := by
  have N := B.N
  refine def_of B.lint fun f fd F => ?_
  refine F.ok scLIsInt (fun vs H Q E h => ?_) (fun cdv A outer s H vs Q E hr h => ?_)
  · obtain ⟨n, a, b, rfl, _⟩ := h
    rfl
  · obtain ⟨x, a, b, rfl, hx, k⟩ := h
    refine ⟨_, pss_one (ps_ret (pe_and (pe_callB call_isi (by rfl) N.is.inst (by decide +kernel) (pa_cons (pv 0) (pa_cons (pe_bltn (v := .ty "int") (by rfl) N.int (by decide +kernel) rfl) pa_nil)))
      (pe_and (pe_not (pe_callB call_isi (by rfl) N.is.inst (by decide +kernel) (pa_cons (pv 0) (pa_cons (pe_bltn (v := .ty "bool") (by rfl) N.is.bool (by decide +kernel) rfl) pa_nil)))) (pe_one (pe_chain op_le op_le (pv 1) (pv 0) (pv 2)))))), ?_⟩
    obtain ⟨t, ty, k1, k2⟩ := hx.ty (K := K)
    refine ⟨_, rfl, _, .ty "int", _, _, elI x, rfl, .ty _, ty, k1, elI x, rfl, ?_⟩
    rcases hx with ⟨n, rfl⟩ | ⟨bb, rfl⟩ | hx
    · refine ifT rfl ?_
      refine ⟨_, rfl, _, .ty "bool", _, _, false, rfl, .ty _, ty, k2, _, rfl, _, rfl, ?_⟩
      refine ifT rfl ?_
      refine ⟨_, rfl, _, rfl, _, _, rfl, rfl, _, rfl, ?_⟩
      by_cases c : a ≤ n
      · refine ifT (decide_eq_true c) ?_
        refine ⟨_, rfl, _, _, rfl, rfl, ?_⟩
        rw [show elBtw a b (.int n) = decide (n ≤ b) from by show decide (a ≤ n ∧ n ≤ b) = _; simp [c]] at k
        exact k
      · refine ifF (by rw [decide_eq_false c]; decide) ?_
        rw [show elBtw a b (.int n) = false from by show decide (a ≤ n ∧ n ≤ b) = _; simp [c]] at k
        exact k
    · refine ifT rfl ?_
      refine ⟨_, rfl, _, .ty "bool", _, _, true, rfl, .ty _, ty, k2, _, rfl, _, rfl, ?_⟩
      exact ifF (by decide) k
    · have e1 : elI x = false := by
        rcases hx with rfl | ⟨s, rfl⟩ | ⟨a, rfl, _⟩ <;> rfl
      have e2 : elBtw a b x = false := by
        rcases hx with rfl | ⟨s, rfl⟩ | ⟨a, rfl, _⟩ <;> rfl
      rw [e1]
      rw [e2] at k
      exact ifF (by decide) k
def spLIsLot : Sp := fun vs H Q _ => ∃ (v : V) (n : Nat), vs = [v, .int 0, .int ((n : Int) - 1)] ∧ Th H v ∧ LenB 1000 H v ∧ ∀ H', Same H H' → (LotM H n v → Q (.bl true) H') ∧ (¬ LotM H n v → Q (.bl false) H')
def nLIsLot : List Str := ["_law_thing", "_law_least", "_law_most", "_law_one", "_law_at"]
theorem scLIsLot : FnScope nLIsLot ["_law_thing", "_law_least", "_law_most"] (defScope sLIsLot) := ⟨rfl, rfl, rfl, by decide +kernel, rfl, by decide +kernel, by decide +kernel⟩
theorem dLIsLot (B : Defs K mg C) : Def P w K mg base "_law_is_lot" 2 ["_law_thing", "_law_least", "_law_most"] spLIsLot := by
  obtain ⟨fI, fdI, GI, gI, kI, bI⟩ := dLIsIntX (P := P) (w := w) (base := base) B
  have N := B.N
  have nd := scLIsLot.nd
  refine def_of B.lil fun f fd F => ?_
  refine F.ok scLIsLot (fun vs H Q E h => ?_) (fun cdv A outer s H vs Q E hr h => ?_)
  · obtain ⟨v, n, rfl, _⟩ := h
    rfl
  · obtain ⟨v, n, rfl, hv, hl, k⟩ := h
    refine ⟨_, pss_cons (ps_if (PW.pt (pw_or (pt_not (pt_val (pe_callB call_isi (by rfl) N.is.inst (by decide +kernel) (pa_cons (pv 0) (pa_cons (pe_bltn (v := .ty "tuple") (by rfl) N.is.tup (by decide +kernel) rfl) pa_nil)))))
          (pw_or1 (pt_not (pt_val (pe_callB (r := rAll K) (cr_all rfl) (by rfl) N.is.all (by decide +kernel) (pa_cons (pe_lc (own := [("_law_one", 3)]) (g := gName 3) (tt := tYes) rfl nd (pi_tup (pv 0))
            (blkOk_by (N := nLIsLot) (sc := defScope sLIsLot) (by decide +kernel)) (fun _ _ _ _ _ => pg_name (i := 3) nd rfl (Or.inl rfl)) (fun _ _ _ _ _ => pts_nil) (fun _ _ _ _ _ => pe_call GI hr (by rfl) gI kI bI .nil pass0 (pa_cons (pv 3) (pa_cons (pv 1) (pa_cons (pv 2) pa_nil))))) pa_nil))))))) (pss_one (ps_ret pe_bl)) pss_nil)
      (pss_one (ps_ret (pe_callB (r := rAll K) (cr_all rfl) (by rfl) N.is.all (by decide +kernel) (pa_cons (pe_lc (own := [("_law_at", 4)]) (g := gName 4) (tt := tYes) (te := tOp (rI0 fun i j => .bl (decide (i < j))) (tOp (rIxT K) (tVar 0) (tOp (rI0 fun i j => .int (i - j)) (tVar 4) (tC (.int 1)))) (tOp (rIxT K) (tVar 0) (tVar 4))) rfl nd (pi_range2 (by rfl) N.range (pa_cons pe_int (pa_cons (pe_callB call_len_seq (by rfl) N.is.len PySem.boot_len (pa_cons (pv 0) pa_nil)) pa_nil)))
          (blkOk_by (N := nLIsLot) (sc := defScope sLIsLot) (by decide +kernel)) (fun _ _ _ _ _ => pg_name (i := 4) nd rfl (Or.inl rfl)) (fun _ _ _ _ _ => pts_nil) (fun _ _ _ _ _ => pe_cmpR op_lt (pe_ix ix_tup (pv 0) (pe_op op_sub (pv 4) pe_int) (fun _ _ => rfl)) (pe_ix ix_tup (pv 0) (pv 4) (fun _ _ => rfl)) (nomark _))) pa_nil)))), ?_⟩
    rcases hv with ⟨a, xs, rfl, ha, hx⟩ | hv
    rotate_left
    · obtain ⟨t, ty, k1⟩ := hv.ty (K := K)
      refine ⟨_, rfl, _, .ty "tuple", _, _, false, rfl, .ty _, ty, k1, false, rfl, ?_⟩
      refine ifT (by decide) ?_
      refine (k _ (Same.refl _)).2 ?_
      rintro ⟨b, ns, e, hb, _⟩
      exact hv.notA e hb
    have l1 := hl a xs rfl ha
    refine ⟨_, rfl, _, .ty "tuple", _, _, true, rfl, .ty _, tupTyV ha, kit_ty (by decide +kernel), true, rfl, ?_⟩
    refine ifF (by decide) ?_
    refine ⟨_, rfl, a, rfl, ⟨_, .inl (.inl ha)⟩, fun D nD => ?_⟩
    refine anyWalk (walk_tup (xs := xs)) (fun i G => Same H G ∧ G D = some (.lst (((xs.take i).map (elBtw 0 ((n : Int) - 1))).map V.bl))) ⟨smUpd nD, upd_same⟩ (fun i G _ z => .inl (.inl (z.1 _ _ ha))) ?_ ?_
    · rintro i x G G2 hi ⟨sm, hD⟩ ⟨rfl, hxi⟩
      refine ⟨rfl, _, rfl, _, rfl, _, rfl, x, 0, (n : Int) - 1, rfl, (hx _ (List.mem_of_getElem? hxi)).same sm, ?_⟩
      refine ⟨_, hD, small1000 (by rw [List.length_map, List.length_map, List.length_take]; omega), smOver nD sm, ?_⟩
      rw [upd_same, List.take_add_one, hxi, List.map_append, List.map_append]; rfl
    · rintro G ⟨sm, hD⟩
      rw [List.take_length] at hD
      refine ⟨D, _, rfl, .inl (.inl hD), ?_⟩
      cases hall : ((xs.map (elBtw 0 ((n : Int) - 1))).all id) with
      | false =>
        refine ⟨false, rfl, ?_⟩
        refine ifT (by decide) ((k _ sm).2 ?_)
        rintro ⟨b, ns, e, hb, _, hlt⟩
        cases e
        have e := tupInjA ha hb
        rw [e] at hall
        rw [Bool.eq_false_iff] at hall
        refine hall (List.all_eq_true.mpr fun y hy => ?_)
        obtain ⟨z, hz, rfl⟩ := List.mem_map.mp hy
        obtain ⟨m, hm, rfl⟩ := List.mem_map.mp hz
        have := hlt m hm
        show decide ((0 : Int) ≤ (m : Int) ∧ (m : Int) ≤ (n : Int) - 1) = true
        exact decide_eq_true (by omega)
      | true =>
        refine ⟨true, rfl, ?_⟩
        refine ifF (by decide) ?_
        have hb : ∀ x ∈ xs, elBtw 0 ((n : Int) - 1) x = true := fun x hx' => List.all_eq_true.mp hall _ (List.mem_map.mpr ⟨x, hx', rfl⟩)
        obtain ⟨zs, rfl⟩ := elNs fun x hx' => btwInt (hb x hx')
        have zin := lotOne rfl hb
        have ha1 := sm _ _ ha
        refine ⟨_, rfl, a, _, rfl, .inr (.inl (.inl ha1)), 1, ((zs.map V.int).length : Int), rfl, ⟨by omega, by omega, by omega, by omega⟩, fun D2 nD2 => ?_⟩
        rw [List.length_map] at l1
        rw [List.length_map]
        refine anyWalk walk_range (fun i J => Same G J ∧ J D2 = some (.lst (((List.range i).map fun i => decide (zs.getD i 0 < zs.getD (i + 1) 0)).map V.bl))) ⟨smUpd nD2, upd_same⟩ (fun _ _ _ _ => trivial) ?_ ?_
        · rintro i x J J2 hi ⟨sj, hD2⟩ ⟨rfl, hx2⟩
          subst hx2
          have hi0 : i < zs.length := by omega
          have hi1 : i + 1 < zs.length := by omega
          have e0 : zs[i]? = some (zs.getD i 0) := by rw [List.getD_eq_getElem?_getD, List.getElem?_eq_getElem hi0]; rfl
          have e1 : zs[i + 1]? = some (zs.getD (i + 1) 0) := by rw [List.getD_eq_getElem?_getD, List.getElem?_eq_getElem hi1]; rfl
          have haJ := sj _ _ ha1
          refine ⟨rfl, _, rfl, _, rfl, _, _, rfl, rfl, a, _, ((1 : Int) + (i : Int)) - 1, .int (zs.getD i 0), rfl, rfl, .inl (.inl haJ), ?_, _, rfl, _, rfl, a, _, (1 : Int) + (i : Int), .int (zs.getD (i + 1) 0), rfl, rfl, .inl (.inl haJ), ?_, _, _, rfl, rfl, ?_⟩
          · rw [show ((1 : Int) + (i : Int)) - 1 = ((i : Nat) : Int) by omega]
            exact atI_nat (by rw [List.getElem?_map, e0]; rfl)
          · rw [show (1 : Int) + (i : Int) = ((i + 1 : Nat) : Int) by omega]
            exact atI_nat (by rw [List.getElem?_map, e1]; rfl)
          · refine ⟨_, hD2, small1000 (by rw [List.length_map, List.length_map, List.length_range]; omega), smOver nD2 sj, ?_⟩
            rw [upd_same, List.range_succ, List.map_append, List.map_append]; rfl
        · rintro J ⟨sj, hD2⟩
          refine ⟨D2, _, rfl, .inl (.inl hD2), ?_⟩
          cases ha2 : (((List.range ((zs.length : Int) - 1).toNat).map fun i => decide (zs.getD i 0 < zs.getD (i + 1) 0)).all id) with
          | true =>
            refine (k _ (sm.trans sj)).1 ?_
            have hp : zs.Pairwise (· < ·) := adjPw fun j x y h1 h2 => by
              have hj := (List.getElem?_eq_some_iff.mp h2).1
              have := List.all_eq_true.mp ha2 _ (List.mem_map.mpr ⟨j, List.mem_range.mpr (by omega), rfl⟩)
              have := of_decide_eq_true this
              rw [List.getD_eq_getElem?_getD, List.getD_eq_getElem?_getD, h1, h2] at this
              exact this
            exact (lotMI ha hp).mpr zin
          | false =>
            refine (k _ (sm.trans sj)).2 ?_
            rintro ⟨b, ns, e, hb2, hp, _⟩
            cases e
            have e := tupInjA ha hb2
            rw [Bool.eq_false_iff] at ha2
            refine ha2 (List.all_eq_true.mpr fun y hy => ?_)
            obtain ⟨j, hj, rfl⟩ := List.mem_map.mp hy
            have hj := List.mem_range.mp hj
            have ez : zs = ns.map fun n => ((n : Nat) : Int) := mapIntInj (by rw [e, List.map_map]; rfl)
            have hl2 : zs.length = ns.length := by rw [ez, List.length_map]
            refine decide_eq_true ?_
            have q1 : j < ns.length := by omega
            have q2 : j + 1 < ns.length := by omega
            have := List.pairwise_iff_getElem.mp hp j (j + 1) q1 q2 (by omega)
            rw [ez, List.getD_eq_getElem?_getD, List.getD_eq_getElem?_getD, List.getElem?_map, List.getElem?_map, List.getElem?_eq_getElem q1, List.getElem?_eq_getElem q2]
            show ((ns[j] : Nat) : Int) < ((ns[j + 1] : Nat) : Int)
            omega
/-- the law's own look -/
def spLDue : Sp := fun vs H Q _ => ∃ (vp vb va : V) (r : Option (Str × Int)), vs = [vp, vb, va] ∧ Th H vp ∧ Th H vb ∧ Th H va ∧ LenB 1000 H vb ∧ LenB 1000 H va ∧ DueR H vp vb va r ∧
  (r = none → ∀ H', Same H H' → Q .non H') ∧ (∀ (part : Str) (at_ : Int), r = some (part, at_) → ∀ t H', Same H H' → H' t = some (.tup [.str part, .int at_]) → Q (.ref t) H')
def nLDue : List Str := ["_law_parents_here", "_law_bearing", "_law_asking", "_law_place", "_law_parent"]
theorem scLDue : FnScope nLDue ["_law_parents_here", "_law_bearing", "_law_asking"] (defScope sLDue) := ⟨rfl, rfl, rfl, by decide +kernel, rfl, by decide +kernel, by decide +kernel⟩
theorem LenB.back {n : Nat} {H H' : Hp} {v : V} (s : Same H H') (tv : Th H v) (h : LenB n H v) : LenB n H' v := by
  intro a xs e hb
  rcases tv with ⟨b, ys, e2, hb2, _⟩ | hn
  · rw [e2] at e; cases e
    rw [tupInjA hb (s _ _ hb2)]
    exact h _ _ e2 hb2
  · exact ((noTupSame s hn).notA e hb).elim
theorem dLDue (B : Defs K mg C) : Def P w K mg base "_law_due" 3 ["_law_parents_here", "_law_bearing", "_law_asking"] spLDue := by
  obtain ⟨fI, fdI, GB, gB, kB, bB⟩ := dLIsIntX (P := P) (w := w) (base := base) B
  obtain ⟨fO, fdO, GO, gO, kO, bO⟩ := dLIsLot (P := P) (w := w) (base := base) B
  have N := B.N
  have nd := scLDue.nd
  refine def_of B.ldu fun f fd F => ?_
  refine F.ok scLDue (fun vs H Q E h => ?_) (fun cdv A outer s H vs Q E hr h => ?_)
  · obtain ⟨vp, vb, va, r, rfl, _⟩ := h
    rfl
  · obtain ⟨vp', vb, va, r, rfl, tp, tb, ta, lb, la, hD, kN, kT⟩ := h
    have hr1 : Room 1 (A.deeper (envOfC "_law_due" (defScope sLDue) s.heap.objs.size f cdv)) := Room.mono hr (by decide)
    refine ⟨_, pss_cons (ps_if (PW.pt (pw_or (pt_not (pt_val (pe_callB call_isi (by rfl) N.is.inst (by decide +kernel) (pa_cons (pv 0) (pa_cons (pe_bltn (v := .ty "tuple") (by rfl) N.is.tup (by decide +kernel) rfl) pa_nil)))))
          (pw_or1 (pt_not (pt_chain op_le op_le pe_int (pe_callB call_len_seq (by rfl) N.is.len PySem.boot_len (pa_cons (pv 0) pa_nil)) pe_int))))) (pss_one (ps_ret (pe_tup (pa_cons pe_str (pa_cons (pe_un un_neg pe_int) pa_nil))))) pss_nil)
      (pss_cons (ps_for PassesOwn.never rfl (pi_enumT (by rfl) N.enum (pa_cons (pv 0) pa_nil)) (pg_tup rfl (pgs_cons (pg_name (i := 3) nd rfl (Or.inl rfl)) (pgs_cons (pg_name (i := 4) nd rfl (Or.inl rfl)) pgs_nil)))
        (pss_one (ps_if (PW.pt (pw_and (pt_cmpR op_notN (pv 4) pe_non (nomark _)) (pw_and1 (pt_not (pt_val (pe_call GB hr1 (by rfl) gB kB bB .nil pass0 (pa_cons (pv 4) (pa_cons pe_int (pa_cons (pe_op op_sub (pv 3) pe_int) pa_nil))))))))) (pss_one (ps_ret (pe_tup (pa_cons pe_str (pa_cons (pv 3) pa_nil))))) pss_nil)))
      (pss_cons (ps_if (pt_not (pt_val (pe_call GO hr (by rfl) gO kO bO .nil pass0 (pa_cons (pv 1) (pa_cons pe_int (pa_cons (pe_op op_sub (pe_callB call_len_seq (by rfl) N.is.len PySem.boot_len (pa_cons (pv 0) pa_nil)) pe_int) pa_nil)))))) (pss_one (ps_ret (pe_tup (pa_cons pe_str (pa_cons (pe_un un_neg pe_int) pa_nil))))) pss_nil)
      (pss_one (ps_ret (pe_ifExp (pt_val (pe_call GO hr (by rfl) gO kO bO .nil pass0 (pa_cons (pv 2) (pa_cons pe_int (pa_cons (pe_op op_sub (pe_callB call_len_seq (by rfl) N.is.len PySem.boot_len (pa_cons (pv 0) pa_nil)) pe_int) pa_nil))))) pe_non (pe_tup (pa_cons pe_str (pa_cons (pe_un un_neg pe_int) pa_nil)))))))), ?_⟩
    have bad : ∀ {part : Str} {at_ : Int} {H1 : Hp} (s1 : Same H H1), r = some (part, at_) → ∀ t, H1 t = none → Q (.ref t) (upd H1 t (.tup [.str part, .int at_])) := fun s1 e t nt => kT _ _ e t _ (s1.trans (smUpd nt)) upd_same
    rcases hD with ⟨hN, er⟩ | ⟨a, xs, rfl, ha, hx, hD⟩
    · obtain ⟨t, ty, k1⟩ := hN.ty (K := K)
      refine ⟨_, rfl, _, .ty "tuple", _, _, false, rfl, .ty _, ty, k1, false, rfl, ?_⟩
      refine ifT (by decide) ?_
      exact ⟨_, rfl, by show 2 ≤ sizeLine; decide, fun t nt => bad (Same.refl _) er t nt⟩
    refine ⟨_, rfl, _, .ty "tuple", _, _, true, rfl, .ty _, tupTyV ha, kit_ty (by decide +kernel), true, rfl, ?_⟩
    refine ifF (by decide) ?_
    refine ⟨_, rfl, a, _, rfl, .inr (.inl (.inl ha)), _, _, rfl, rfl, _, rfl, ?_⟩
    rcases hD with ⟨c, er⟩ | ⟨⟨c1, c2⟩, hD⟩
    · by_cases c1 : (1 : Int) ≤ (xs.length : Int)
      · refine ifT (decide_eq_true c1) ?_
        refine ⟨_, _, rfl, rfl, _, rfl, ?_⟩
        refine ifT (by rw [decide_eq_false (by omega)]; rfl) ?_
        exact ⟨_, rfl, by show 2 ≤ sizeLine; decide, fun t nt => bad (Same.refl _) er t nt⟩
      · refine ifF (by rw [decide_eq_false c1]; decide) ?_
        refine ⟨_, rfl, ?_⟩
        refine ifT (by first | rfl | (rw [decide_eq_false c1]; rfl)) ?_
        exact ⟨_, rfl, by show 2 ≤ sizeLine; decide, fun t nt => bad (Same.refl _) er t nt⟩
    refine ifT (decide_eq_true (by omega)) ?_
    refine ⟨_, _, rfl, rfl, _, rfl, ?_⟩
    refine ifF (by rw [decide_eq_true (by omega)]; decide) ?_
    refine ⟨_, rfl, a, _, rfl, .inl (.inl ha), ?_⟩
    rcases hD with ⟨i, x, hb, hxi, hbad, er⟩ | ⟨hall, hD⟩
    · refine for_it (walk_enumT (xs := xs)) (fun m σ H' => m ≤ i ∧ Same H H' ∧ ∃ t4 t5, σ = [some (.ref a), some vb, some va, t4, t5]) ⟨Nat.zero_le _, Same.refl _, _, _, rfl⟩ (fun i σ H' _ z => .inl (.inl (z.2.1 _ _ ha))) ?_ ?_
      · rintro m y σ H' H2 hm ⟨hmi, sm, t4, t5, rfl⟩ ⟨T', x1, y1, rfl, nT, rfl, e1, e2⟩
        cases e1
        have e2 : xs[m]? = some y1 := e2
        have hel : El H' y1 := (hx _ (List.mem_of_getElem? e2)).same sm
        refine ⟨T', _, rfl, .inl (.inl upd_same), rfl, _, _, rfl, _, _, rfl, rfl, ?_⟩
        have sm2 := sm.trans (smUpd (o := .tup [V.int ((m : Nat) : Int), y1]) nT)
        have hel2 : El (upd H' T' (.tup [V.int ((m : Nat) : Int), y1])) y1 := hel.same (smUpd nT)
        by_cases cn : y1 = .non
        · subst cn
          refine ⟨_, rfl, rfl, _, rfl, ?_⟩
          refine ifF (by decide) ?_
          refine ⟨?_, sm2, _, _, rfl⟩
          rcases Nat.lt_or_eq_of_le hmi with h | h
          · omega
          · subst h
            rw [hxi] at e2; cases e2; cases hbad
        · refine ⟨_, rfl, rfl, _, rfl, ?_⟩
          refine ifT (by rw [decide_eq_false cn]; rfl) ?_
          refine ⟨_, rfl, _, rfl, _, _, rfl, rfl, y1, 0, (m : Int) - 1, rfl, hel2, _, rfl, ?_⟩
          rw [← parOk_btw (i := m) cn]
          rcases Nat.lt_or_eq_of_le hmi with h | h
          · rw [hb m y1 h e2]
            exact ifF (by decide) ⟨by omega, sm2, _, _, rfl⟩
          · subst h
            rw [hxi] at e2; cases e2
            rw [hbad]
            refine ifT (by decide) ?_
            exact ⟨_, rfl, by show 2 ≤ sizeLine; decide, fun t nt => bad sm2 er t nt⟩
      · rintro σ H' ⟨hm, _⟩
        have := (List.getElem?_eq_some_iff.mp hxi).1
        omega
    refine for_it (walk_enumT (xs := xs)) (fun m σ H' => Same H H' ∧ ∃ t4 t5, σ = [some (.ref a), some vb, some va, t4, t5]) ⟨Same.refl _, _, _, rfl⟩ (fun i σ H' _ z => .inl (.inl (z.1 _ _ ha))) ?_ ?_
    · rintro m y σ H' H2 hm ⟨sm, t4, t5, rfl⟩ ⟨T', x1, y1, rfl, nT, rfl, e1, e2⟩
      cases e1
      have e2 : xs[m]? = some y1 := e2
      have hel : El H' y1 := (hx _ (List.mem_of_getElem? e2)).same sm
      refine ⟨T', _, rfl, .inl (.inl upd_same), rfl, _, _, rfl, _, _, rfl, rfl, ?_⟩
      have sm2 := sm.trans (smUpd (o := .tup [V.int ((m : Nat) : Int), y1]) nT)
      have hel2 : El (upd H' T' (.tup [V.int ((m : Nat) : Int), y1])) y1 := hel.same (smUpd nT)
      by_cases cn : y1 = .non
      · subst cn
        refine ⟨_, rfl, rfl, _, rfl, ?_⟩
        exact ifF (by decide) ⟨sm2, _, _, rfl⟩
      · refine ⟨_, rfl, rfl, _, rfl, ?_⟩
        refine ifT (by rw [decide_eq_false cn]; rfl) ?_
        refine ⟨_, rfl, _, rfl, _, _, rfl, rfl, y1, 0, (m : Int) - 1, rfl, hel2, _, rfl, ?_⟩
        rw [← parOk_btw (i := m) cn, hall m y1 e2]
        exact ifF (by decide) ⟨sm2, _, _, rfl⟩
    · rintro σ H' ⟨sm, t4, t5, rfl⟩
      refine ⟨_, rfl, _, rfl, a, _, rfl, .inr (.inl (.inl (sm _ _ ha))), _, _, rfl, rfl, vb, xs.length, rfl, tb.same sm, lb.back sm tb, fun H1 s1 => ⟨fun hL => ⟨true, rfl, ?_⟩, fun hL => ⟨false, rfl, ?_⟩⟩⟩
      rotate_left
      · refine ifT (by decide) ?_
        rcases hD with ⟨_, er⟩ | ⟨hb, _⟩
        · exact ⟨_, rfl, by show 2 ≤ sizeLine; decide, fun t nt => bad (sm.trans s1) er t nt⟩
        · exact absurd (hb.same sm) hL
      refine ifF (by decide) ?_
      rcases hD with ⟨hb, _⟩ | ⟨hb, hD⟩
      · exact absurd (lotBack sm tb hL) hb
      have S1 := sm.trans s1
      refine ⟨_, rfl, _, rfl, a, _, rfl, .inr (.inl (.inl (S1 _ _ ha))), _, _, rfl, rfl, va, xs.length, rfl, ta.same S1, la.back S1 ta, fun H3 s3 => ⟨fun hL2 => ⟨true, rfl, ?_⟩, fun hL2 => ⟨false, rfl, ?_⟩⟩⟩
      rotate_left
      · refine ifF (by decide) ?_
        rcases hD with ⟨_, er⟩ | ⟨hc, _⟩
        · exact ⟨_, rfl, by show 2 ≤ sizeLine; decide, fun t nt => bad (S1.trans s3) er t nt⟩
        · exact absurd (hc.same S1) hL2
      refine ifT (by decide) ?_
      rcases hD with ⟨hc, _⟩ | ⟨hc, er⟩
      · exact absurd (lotBack S1 ta hL2) hc
      exact kN er _ (S1.trans s3)
end
end Cn
namespace Cn
open PySem PySem.Spec PyProof.Rows L2 Ck
/-! odd things, and three things bent -/
/-- a thing of any kind, not the hand, no longer than n if a tuple -/
def ThL (p : Addr) (n : Nat) (H : Hp) (v : V) : Prop := (∃ a xs, v = .ref a ∧ a ≠ p ∧ H a = some (.tup xs) ∧ xs.length ≤ n ∧ ∀ x ∈ xs, ElP p H x) ∨ (NoTup H v ∧ ∀ a, v = .ref a → a ≠ p)
section
variable {p a : Addr} {n m : Nat} {H H' : Hp} {v : V} {xs : List V}
theorem ThL.thk (h : ThL p n H v) : ThK p H v := h.imp (fun ⟨a, xs, e, ne, h, _, k⟩ => ⟨a, xs, e, ne, h, k⟩) id
theorem ThL.th (h : ThL p n H v) : Th H v := h.thk.th
theorem ThL.el (h : ThL p n H v) : ElP p H v := h.thk.el
theorem ThL.mono (h : ThL p n H v) (l : n ≤ m) : ThL p m H v := h.imp (fun ⟨a, xs, e, ne, h, q, k⟩ => ⟨a, xs, e, ne, h, Nat.le_trans q l, k⟩) id
theorem ThL.kept (k : Kept p H H') (h : ThL p n H v) : ThL p n H' v := by
  rcases h with ⟨a, xs, e, ne, h, l, q⟩ | h
  · exact .inl ⟨a, xs, e, ne, k _ _ ne h, l, fun x hx => (q x hx).kept k⟩
  · rcases ThK.kept k (.inr h : ThK p H v) with ⟨a, xs, e, ne, h', q⟩ | h'
    · rcases h.1 with ⟨i, e2⟩ | ⟨b', e2⟩ | e2 | ⟨s, e2⟩ | ⟨b, e2, ⟨ys, g⟩ | ⟨kvs, g⟩⟩
      all_goals (subst e; cases e2)
      · rw [k _ _ ne g] at h'; cases h'
      · rw [k _ _ ne g] at h'; cases h'
    · exact .inr h'
theorem ThL.lenB (h : ThL p n H v) : LenB n H v := by
  intro a xs e ha
  rcases h with ⟨b, ys, e2, _, hb, l, _⟩ | h
  · rw [e2] at e; cases e
    rw [tupInjA ha hb]; exact l
  · exact (h.1.notA e ha).elim
theorem tlOf (h : ThK p H v) (l : LenB n H v) : ThL p n H v := by
  rcases h with ⟨a, xs, e, ne, h, k⟩ | h
  · exact .inl ⟨a, xs, e, ne, h, l a xs e h, k⟩
  · exact .inr h
theorem tlI (i : Int) : ThL p n H (.int i) := .inr ⟨.inl ⟨_, rfl⟩, fun a e => by cases e⟩
theorem tlB (b : Bool) : ThL p n H (.bl b) := .inr ⟨.inr (.inl ⟨_, rfl⟩), fun a e => by cases e⟩
theorem tlN : ThL p n H .non := .inr ⟨.inr (.inr (.inl rfl)), fun a e => by cases e⟩
theorem tlS (s : Str) : ThL p n H (.str s) := .inr ⟨.inr (.inr (.inr (.inl ⟨_, rfl⟩))), fun a e => by cases e⟩
theorem tlL (ne : a ≠ p) (h : H a = some (.lst xs)) : ThL p n H (.ref a) := .inr ⟨.inr (.inr (.inr (.inr ⟨a, rfl, .inl ⟨_, h⟩⟩))), fun b e => by cases e; exact ne⟩
theorem tlD {kvs : List (Key × V)} (ne : a ≠ p) (h : H a = some (.dK kvs)) : ThL p n H (.ref a) := .inr ⟨.inr (.inr (.inr (.inr ⟨a, rfl, .inr ⟨_, h⟩⟩))), fun b e => by cases e; exact ne⟩
theorem tlT (ne : a ≠ p) (h : H a = some (.tup xs)) (l : xs.length ≤ n) (k : ∀ x ∈ xs, ElP p H x) : ThL p n H (.ref a) := .inl ⟨a, xs, rfl, ne, h, l, k⟩
theorem elpI (i : Int) : ElP p H (.int i) := (tlI (n := 0) i).el
theorem elpB (b : Bool) : ElP p H (.bl b) := (tlB (n := 0) b).el
theorem cutV_mem {lo hi : Option Int} {x : V} (h : x ∈ cutV xs lo hi) : x ∈ xs := List.mem_of_mem_drop (List.mem_of_mem_take h)
end
section
variable {xs : List V} {v : V} {n : Nat} {a b c d : Option Int}
theorem bl1 (l : xs.length ≤ n) (h : n ≤ 130) : (cutV xs a b).length + [v].length ≤ 1000 := by
  have := cutV_length xs a b
  show _ + 1 ≤ 1000
  omega
theorem bl2 (l : xs.length ≤ n) (h : n ≤ 130) : (cutV xs a b ++ [v]).length + (cutV xs c d).length ≤ 1000 := by
  have h1 := cutV_length xs a b
  have h2 := cutV_length xs c d
  rw [List.length_append]
  show _ + 1 + _ ≤ 1000
  omega
theorem bl3 (l : xs.length ≤ n) : (cutV xs a b ++ [v] ++ cutV xs c d).length ≤ 2 * n + 2 := by
  have h1 := cutV_length xs a b
  have h2 := cutV_length xs c d
  rw [List.length_append, List.length_append]
  show _ + 1 + _ ≤ 2 * n + 2
  omega
end
/-- three things -/
def TolL (p : Addr) (n : Nat) (H : Hp) (t : Addr) (vp vb va : V) : Prop := H t = some (.tup [vp, vb, va]) ∧ t ≠ p ∧ ThL p n H vp ∧ ThL p n H vb ∧ ThL p n H va
theorem TolL.kept {p t : Addr} {n : Nat} {H H' : Hp} {vp vb va : V} (k : Kept p H H') (h : TolL p n H t vp vb va) : TolL p n H' t vp vb va := ⟨k _ _ h.2.1 h.1, h.2.1, h.2.2.1.kept k, h.2.2.2.1.kept k, h.2.2.2.2.kept k⟩
theorem TolL.mono {p t : Addr} {n m : Nat} {H : Hp} {vp vb va : V} (l : n ≤ m) (h : TolL p n H t vp vb va) : TolL p m H t vp vb va := ⟨h.1, h.2.1, h.2.2.1.mono l, h.2.2.2.1.mono l, h.2.2.2.2.mono l⟩
section
variable {P : Program} {w : World} {K : PySem.W.Frag} {mg : Str → Option Value} {base : Heap} {C : Addr}
def spOddX : Sp := fun vs H Q _ => ∃ (p c : Addr) (cells : List Int), vs = [.ref p] ∧ HandIn H p c cells ∧ ∀ (v : V) (H' : Hp), ThL p 1 H' v → HandIn H' p c cells → Kept p H H' → Q v H'
def nLOdd : List Str := ["_law_hand_here"]
theorem scLOdd : FnScope nLOdd ["_law_hand_here"] (defScope sLOdd) := ⟨rfl, rfl, rfl, by decide +kernel, rfl, by decide +kernel, by decide +kernel⟩
theorem dLOdd (B : Defs K mg C) : Def P w K mg base "_law_odd" 3 ["_law_hand_here"] spOddX := by
  obtain ⟨fS, fdS, GS, gS, kS, bS⟩ := dSome (P := P) (w := w) (base := base) B
  obtain ⟨fE, fdE, GE, gE, kE, bE⟩ := dDeep (P := P) (w := w) (base := base) B
  have N := B.N
  refine def_of B.lod fun f fd F => ?_
  refine F.ok scLOdd (fun vs H Q E h => ?_) (fun cdv A outer s H vs Q E hr h => ?_)
  · obtain ⟨p, c, cells, rfl, _⟩ := h
    rfl
  · obtain ⟨p, c, cells, rfl, hI, k⟩ := h
    refine ⟨_, pss_one (ps_ret (pe_call GS hr (by rfl) gS kS bS .nil pass0 (pa_cons (pv 0) (pa_cons (pe_lst (pa_cons pe_non (pa_cons pe_bl (pa_cons pe_bl (pa_cons (pe_un un_neg pe_int) (pa_cons (pe_op op_pow pe_int pe_int) (pa_cons pe_str (pa_cons (pe_tup pa_nil) (pa_cons (pe_lst pa_nil) (pa_cons pe_dnewK
      (pa_cons (pe_tup (pa_cons pe_int pa_nil)) (pa_cons (pe_lst (pa_cons pe_int pa_nil)) (pa_cons (pe_tup (pa_cons pe_bl pa_nil)) (pa_cons pe_str (pa_cons (pe_call GE hr (by rfl) gE kE bE .nil pass0 (pa_cons (pv 0) pa_nil)) pa_nil))))))))))))))) pa_nil)))), ?_⟩
    refine ⟨_, rfl, _, rfl, _, _, rfl, rfl, ⟨by decide, by decide, by decide⟩, by show 0 ≤ sizeLine; decide, fun u1 n1 => ?_⟩
    have S1 := smUpd (o := .tup []) n1
    have t1 : ThL p 1 (upd H u1 (.tup [])) (.ref u1) := tlT (hand_ne hI n1) upd_same (by decide) (fun x hx => by cases hx)
    generalize upd H u1 (.tup []) = H1 at S1 t1 ⊢
    have hI1 := handIn_keep hI S1
    refine ⟨by show 0 ≤ sizeLine; decide, fun u2 n2 => ?_⟩
    have S2 := smUpd (o := .lst []) n2
    have t2 : ThL p 1 (upd H1 u2 (.lst [])) (.ref u2) := tlL (hand_ne hI1 n2) upd_same
    generalize upd H1 u2 (.lst []) = H2 at S2 t2 ⊢
    have hI2 := handIn_keep hI1 S2
    refine fun u3 n3 => ?_
    have S3 := smUpd (o := .dK []) n3
    have t3 : ThL p 1 (upd H2 u3 (.dK [])) (.ref u3) := tlD (hand_ne hI2 n3) upd_same
    generalize upd H2 u3 (.dK []) = H3 at S3 t3 ⊢
    have hI3 := handIn_keep hI2 S3
    refine ⟨by show 1 ≤ sizeLine; decide, fun u4 n4 => ?_⟩
    have S4 := smUpd (o := .tup [.int 0]) n4
    have t4 : ThL p 1 (upd H3 u4 (.tup [.int 0])) (.ref u4) := tlT (hand_ne hI3 n4) upd_same (by decide) (fun x hx => by rw [List.mem_singleton.mp hx]; exact elpI _)
    generalize upd H3 u4 (.tup [.int 0]) = H4 at S4 t4 ⊢
    have hI4 := handIn_keep hI3 S4
    refine ⟨by show 1 ≤ sizeLine; decide, fun u5 n5 => ?_⟩
    have S5 := smUpd (o := .lst [.int 0]) n5
    have t5 : ThL p 1 (upd H4 u5 (.lst [.int 0])) (.ref u5) := tlL (hand_ne hI4 n5) upd_same
    generalize upd H4 u5 (.lst [.int 0]) = H5 at S5 t5 ⊢
    have hI5 := handIn_keep hI4 S5
    refine ⟨by show 1 ≤ sizeLine; decide, fun u6 n6 => ?_⟩
    have S6 := smUpd (o := .tup [.bl true]) n6
    have t6 : ThL p 1 (upd H5 u6 (.tup [.bl true])) (.ref u6) := tlT (hand_ne hI5 n6) upd_same (by decide) (fun x hx => by rw [List.mem_singleton.mp hx]; exact elpB _)
    generalize upd H5 u6 (.tup [.bl true]) = H6 at S6 t6 ⊢
    have hI6 := handIn_keep hI5 S6
    refine ⟨_, rfl, p, c, cells, rfl, hI6, fun dv H7 tdv ldv hI7 k7 => ?_⟩
    refine ⟨by show 14 ≤ sizeLine; decide, fun L nL => ?_⟩
    have all : ∀ x ∈ [V.non, .bl true, .bl false, .int (-1), .int (10 ^ (30 : Int).toNat), .str "0", .ref u1, .ref u2, .ref u3, .ref u4, .ref u5, .ref u6, .str "b a", dv], ThL p 1 H7 x := by
      intro x hx
      simp only [List.mem_cons, List.not_mem_nil, or_false] at hx
      rcases hx with rfl | rfl | rfl | rfl | rfl | rfl | rfl | rfl | rfl | rfl | rfl | rfl | rfl | rfl
      · exact tlN
      · exact tlB _
      · exact tlB _
      · exact tlI _
      · exact tlI _
      · exact tlS _
      · exact t1.kept (kept_trans (kept_same (S2.trans (S3.trans (S4.trans (S5.trans S6))))) k7)
      · exact t2.kept (kept_trans (kept_same (S3.trans (S4.trans (S5.trans S6)))) k7)
      · exact t3.kept (kept_trans (kept_same (S4.trans (S5.trans S6))) k7)
      · exact t4.kept (kept_trans (kept_same (S5.trans S6)) k7)
      · exact t5.kept (kept_trans (kept_same S6) k7)
      · exact t6.kept k7
      · exact tlS _
      · exact tlOf tdv ldv.1
    refine ⟨p, c, L, cells, _, rfl, handIn_keep hI7 (smUpd nL), hand_ne hI7 nL, upd_same, (by show 0 < 14; decide), (by show 14 ≤ 1000000; decide), fun i v H' hv hI' k' _ => ?_⟩
    have k8 := kept_trans (kept_same (p := p) (smUpd nL)) k'
    exact k v H' ((all v (List.mem_of_getElem? hv)).kept k8) hI' (kept_trans (kept_same (S1.trans (S2.trans (S3.trans (S4.trans (S5.trans S6)))))) (kept_trans k7 k8))
/-- three things, one of them bent -/
def spBentL : Sp := fun vs H Q _ => ∃ (p c t : Addr) (cells : List Int) (n : Nat) (vp vb va : V), vs = [.ref p, .ref t] ∧ HandIn H p c cells ∧ TolL p n H t vp vb va ∧ n ≤ 130 ∧
  ∀ (t' : Addr) (vp' vb' va' : V) (H' : Hp), TolL p (2 * n + 2) H' t' vp' vb' va' → HandIn H' p c cells → Kept p H H' → Q (.ref t') H'
def nBentL : List Str := ["_law_hand_here", "_law_told_here", "_law_parents_here", "_law_bearing", "_law_asking", "_law_which", "_law_at", "_law_odd_here", "_law_things", "_law_lot_here"]
theorem scBentL : FnScope nBentL ["_law_hand_here", "_law_told_here"] (defScope sBent) := ⟨rfl, rfl, rfl, by decide +kernel, rfl, by decide +kernel, by decide +kernel⟩
theorem dBentL (B : Defs K mg C) : Def P w K mg base "_law_bent" 4 ["_law_hand_here", "_law_told_here"] spBentL := by
  obtain ⟨fD, fdD, GD, gD, kD, bD⟩ := dDraw (P := P) (w := w) (base := base) B
  obtain ⟨fS, fdS, GS, gS, kS, bS⟩ := dSome (P := P) (w := w) (base := base) B
  obtain ⟨fE, fdE, GE, gE, kE, bE⟩ := dLOdd (P := P) (w := w) (base := base) B
  have N := B.N
  have nd := scBentL.nd
  refine def_of B.lbent fun f fd F => ?_
  refine F.ok scBentL (fun vs H Q E h => ?_) (fun cdv A outer s H vs Q E hr h => ?_)
  · obtain ⟨p, c, t, cells, n, vp, vb, va, rfl, _⟩ := h
    rfl
  · obtain ⟨p, c, t, cells, n, vp, vb, va, rfl, hI, hT, n63, k⟩ := h
    have h1 : Room 1 (A.deeper (envOfC "_law_bent" (defScope sBent) s.heap.objs.size f cdv)) := Room.mono hr (by decide)
    have h2 : Room 2 (A.deeper (envOfC "_law_bent" (defScope sBent) s.heap.objs.size f cdv)) := Room.mono hr (by decide)
    refine ⟨_, pss_cons (ps_asg (pv 1) (pg_tup rfl (pgs_cons (pg_name (i := 2) nd rfl (Or.inl rfl)) (pgs_cons (pg_name (i := 3) nd rfl (Or.inl rfl)) (pgs_cons (pg_name (i := 4) nd rfl (Or.inl rfl)) pgs_nil)))))
      (pss_cons (ps_set (i := 5) nd rfl (Or.inl rfl) (pe_call GD h1 (by rfl) gD kD bD .nil pass0 (pa_cons (pv 0) (pa_cons pe_int pa_nil))))
      (pss_cons (ps_if (pt_cmpR op_eq (pv 5) pe_int (nomark _))
        (pss_cons (ps_set (i := 6) nd rfl (Or.inl rfl) (pe_ifExp (PW.pt (pw_and (pt_val (pe_callB call_isi (by rfl) N.is.inst (by decide +kernel) (pa_cons (pv 2) (pa_cons (pe_bltn (v := .ty "tuple") (by rfl) N.is.tup (by decide +kernel) rfl) pa_nil)))) (pw_and1 (pt_cmpR op_gt (pe_callB call_len_seq (by rfl) N.is.len PySem.boot_len (pa_cons (pv 2) pa_nil)) pe_int (nomark _)))))
            (pe_call GD h1 (by rfl) gD kD bD .nil pass0 (pa_cons (pv 0) (pa_cons (pe_callB call_len_seq (by rfl) N.is.len PySem.boot_len (pa_cons (pv 2) pa_nil)) pa_nil))) pe_int))
        (pss_cons (ps_set (i := 7) nd rfl (Or.inl rfl) (pe_call GS h2 (by rfl) gS kS bS .nil pass0 (pa_cons (pv 0) (pa_cons (pe_lst (pa_cons (pv 6) (pa_cons (pe_op op_add (pv 6) pe_int) (pa_cons (pe_un un_neg pe_int) (pa_cons pe_bl (pa_cons pe_bl (pa_cons pe_str (pa_cons (pe_tup (pa_cons pe_int pa_nil)) (pa_cons pe_non (pa_cons (pe_op op_pow pe_int pe_int) (pa_cons pe_int (pa_cons (pe_call GE hr (by rfl) gE kE bE .nil pass0 (pa_cons (pv 0) pa_nil)) pa_nil)))))))))))) pa_nil))))
        (pss_cons (ps_if (pt_not (pt_val (pe_callB call_isi (by rfl) N.is.inst (by decide +kernel) (pa_cons (pv 2) (pa_cons (pe_bltn (v := .ty "tuple") (by rfl) N.is.tup (by decide +kernel) rfl) pa_nil))))) (pss_one (ps_ret (pv 1))) pss_nil)
        (pss_cons (ps_set (i := 8) nd rfl (Or.inl rfl) (pe_op op_cat (pe_op op_rep (pe_lst (pa_cons (pe_op op_catA (pe_op op_catA (pe_slice sl_tupA (pv 2) po_none (po_some (pv 6))) (pe_tup (pa_cons (pv 7) pa_nil))) (pe_slice sl_tupA (pv 2) (po_some (pe_op op_add (pv 6) pe_int)) po_none)) pa_nil)) pe_int)
            (pe_lst (pa_cons (pe_callTy call_list_of (by rfl) N.is.lst (by decide +kernel) (pa_cons (pv 2) pa_nil)) (pa_cons (pe_tup pa_nil) (pa_cons (pe_op op_catA (pv 2) (pe_tup (pa_cons pe_int pa_nil))) (pa_cons (pe_call GE hr (by rfl) gE kE bE .nil pass0 (pa_cons (pv 0) pa_nil)) pa_nil)))))))
        (pss_one (ps_ret (pe_tup (pa_cons (pe_call GS h2 (by rfl) gS kS bS .nil pass0 (pa_cons (pv 0) (pa_cons (pv 8) pa_nil))) (pa_cons (pv 3) (pa_cons (pv 4) pa_nil))))))))))
        pss_nil)
      (pss_cons (ps_set (i := 9) nd rfl (Or.inl rfl) (pe_ix ix_tup (pv 1) (pv 5) (fun _ _ => rfl)))
      (pss_cons (ps_if (pt_not (pt_val (pe_callB call_isi (by rfl) N.is.inst (by decide +kernel) (pa_cons (pv 9) (pa_cons (pe_bltn (v := .ty "tuple") (by rfl) N.is.tup (by decide +kernel) rfl) pa_nil))))) (pss_one (ps_ret (pv 1))) pss_nil)
      (pss_cons (ps_set (i := 6) nd rfl (Or.inl rfl) (pe_call GD h1 (by rfl) gD kD bD .nil pass0 (pa_cons (pv 0) (pa_cons (pe_op op_add (pe_callB call_len_seq (by rfl) N.is.len PySem.boot_len (pa_cons (pv 9) pa_nil)) pe_int) pa_nil))))
      (pss_cons (ps_set (i := 7) nd rfl (Or.inl rfl) (pe_call GS h2 (by rfl) gS kS bS .nil pass0 (pa_cons (pv 0) (pa_cons (pe_lst (pa_cons pe_int (pa_cons (pe_un un_neg pe_int) (pa_cons pe_bl (pa_cons pe_non (pa_cons pe_str (pa_cons pe_int (pa_cons (pe_callB call_len_seq (by rfl) N.is.len PySem.boot_len (pa_cons (pv 9) pa_nil)) (pa_cons (pe_op op_pow pe_int pe_int) (pa_cons (pe_call GE hr (by rfl) gE kE bE .nil pass0 (pa_cons (pv 0) pa_nil)) pa_nil)))))))))) pa_nil))))
      (pss_cons (ps_set (i := 8) nd rfl (Or.inl rfl) (pe_op op_cat (pe_op op_rep (pe_lst (pa_cons (pe_op op_catA (pe_op op_catA (pe_slice sl_tupA (pv 9) po_none (po_some (pv 6))) (pe_tup (pa_cons (pv 7) pa_nil))) (pe_slice sl_tupA (pv 9) (po_some (pe_op op_add (pv 6) pe_int)) po_none)) pa_nil)) pe_int)
          (pe_lst (pa_cons (pe_op op_catA (pe_op op_catA (pe_slice sl_tupA (pv 9) po_none (po_some (pv 6))) (pe_tup (pa_cons (pv 7) pa_nil))) (pe_slice sl_tupA (pv 9) (po_some (pv 6)) po_none)) (pa_cons (pe_callTy call_list_of (by rfl) N.is.lst (by decide +kernel) (pa_cons (pv 9) pa_nil)) (pa_cons (pe_revT (pv 9)) pa_nil))))))
      (pss_cons (ps_set (i := 9) nd rfl (Or.inl rfl) (pe_call GS h2 (by rfl) gS kS bS .nil pass0 (pa_cons (pv 0) (pa_cons (pe_op op_cat (pv 8) (pe_lst (pa_cons (pe_op op_catA (pv 9) (pe_slice sl_tupA (pv 9) (po_some (pe_un un_neg pe_int)) po_none)) (pa_cons (pe_call GE hr (by rfl) gE kE bE .nil pass0 (pa_cons (pv 0) pa_nil)) (pa_cons (pe_tup pa_nil) pa_nil))))) pa_nil))))
      (pss_one (ps_ret (pe_ifExp (pt_cmpR op_eq (pv 5) pe_int (nomark _)) (pe_tup (pa_cons (pv 2) (pa_cons (pv 9) (pa_cons (pv 4) pa_nil)))) (pe_tup (pa_cons (pv 2) (pa_cons (pv 3) (pa_cons (pv 9) pa_nil))))))))))))))), ?_⟩
    refine ⟨_, rfl, t, _, rfl, .inl (.inl hT.1), rfl, _, _, rfl, _, _, rfl, _, _, rfl, rfl, ?_⟩
    refine ⟨_, rfl, p, c, cells, 3, rfl, hI, by decide, by decide, fun w a1 a2 a3 a4 w0 w1 a10 => ?_⟩
    have k1 := kept_hand (p := p) (H := H) (o := handL c a1 a2 a3 a4)
    have hI1 := handIn_upd (i := a1) (g := a2) (m := a3) (t := a4) hI a10
    have hT1 := hT.kept k1
    generalize upd H p (handL c a1 a2 a3 a4) = H1 at k1 hI1 hT1 ⊢
    refine ⟨_, rfl, rfl, _, rfl, ?_⟩
    by_cases cw : w = 0
    · subst cw
      refine ifT (by decide) ?_
      rcases id hT1.2.2.1.th with ⟨ap, xs, rfl, hap, hxs⟩ | hN
      rotate_left
      · obtain ⟨ty, hty, kty⟩ := hN.ty (K := K)
        refine ⟨_, rfl, _, .ty "tuple", _, _, false, rfl, .ty _, hty, kty, false, rfl, ?_⟩
        refine ifF (by decide) ?_
        refine ifF (by decide) ?_
        refine ⟨_, rfl, _, rfl, _, rfl, _, _, rfl, rfl, _, rfl, by show 1 ≤ sizeLine; decide, fun u nu => ?_⟩
        have S2 := smUpd (o := .tup [.int 0]) nu
        generalize upd H1 u (.tup [.int 0]) = H2 at S2 ⊢
        have hI2 := handIn_keep hI1 S2
        have k2 := kept_trans k1 (kept_same S2)
        refine ⟨_, _, rfl, rfl, ⟨by decide, by decide, by decide⟩, _, rfl, p, c, cells, rfl, hI2, fun ov H3 tov hI3 k3 => ?_⟩
        refine ⟨by show 11 ≤ sizeLine; decide, fun L nL => ?_⟩
        refine ⟨p, c, L, cells, _, rfl, handIn_keep hI3 (smUpd nL), hand_ne hI3 nL, upd_same, (by show 0 < 11; decide), (by show 11 ≤ 1000000; decide), fun i v H4 hv hI4 k4 _ => ?_⟩
        have k13 := kept_trans (kept_trans (kept_same (p := p) S2) k3) (kept_trans (kept_same (smUpd nL)) k4)
        have hT4 := hT1.kept k13
        obtain ⟨ty, hty, kty⟩ := (show NoTup H4 vp from by
          rcases hT4.2.2.1.th with ⟨b, ys, e, hb, _⟩ | h
          · rcases hN with ⟨i, e2⟩ | ⟨b', e2⟩ | e2 | ⟨s, e2⟩ | ⟨b2, e2, ⟨zs, g⟩ | ⟨kvs, g⟩⟩
            all_goals (subst e; cases e2)
            · rw [k13 _ _ (hT4.2.2.1.el.2 _ rfl) g] at hb; cases hb
            · rw [k13 _ _ (hT4.2.2.1.el.2 _ rfl) g] at hb; cases hb
          · exact h).ty (K := K)
        refine ⟨_, rfl, _, .ty "tuple", _, _, false, rfl, .ty _, hty, kty, false, rfl, ?_⟩
        refine ifT (by decide) ?_
        exact ⟨_, rfl, k t vp vb va _ (hT4.mono (by omega)) hI4 (kept_trans k1 k13)⟩
      have nap : ap ≠ p := hT1.2.2.1.el.2 _ rfl
      have hel : ∀ x ∈ xs, ElP p H1 x := by
        rcases hT1.2.2.1 with ⟨b, ys, e, _, hb, _, hy⟩ | h
        · cases e
          rw [tupInjA hap hb]; exact hy
        · exact (h.1.notA rfl hap).elim
      have lxs : xs.length ≤ n := hT1.2.2.1.lenB _ _ rfl hap
      refine ⟨_, rfl, _, .ty "tuple", _, _, true, rfl, .ty _, tupTyV hap, kit_ty (by decide +kernel), true, rfl, ?_⟩
      refine ifT rfl ?_
      refine ⟨_, rfl, ap, _, rfl, .inr (.inl (.inl hap)), _, _, rfl, rfl, _, rfl, ?_⟩
      by_cases cl : (0 : Int) < (xs.length : Int)
      · refine ifT (decide_eq_true cl) ?_
        refine ⟨_, rfl, _, rfl, ap, _, rfl, .inr (.inl (.inl hap)), p, c, cells, _, rfl, hI1, cl, by omega, fun d b1 b2 b3 b4 d0 d1 b10 => ?_⟩
        have kk := kept_hand (p := p) (H := H1) (o := handL c b1 b2 b3 b4)
        have hI2 := handIn_upd (i := b1) (g := b2) (m := b3) (t := b4) hI1 b10
        have k2 := kept_trans k1 kk
        have hT2 := hT1.kept kk
        have hap2 := kk _ _ nap hap
        have hel2 : ∀ x ∈ xs, ElP p _ x := fun x hx => (hel x hx).kept kk
        generalize upd H1 p (handL c b1 b2 b3 b4) = H2 at k2 hI2 hT2 hap2 hel2 ⊢
        clear kk
        refine ⟨_, rfl, _, rfl, _, rfl, _, _, rfl, rfl, _, rfl, by show 1 ≤ sizeLine; decide, fun u nu => ?_⟩
        have S3 := smUpd (o := .tup [.int 0]) nu
        have tu : ThL p 1 (upd H2 u (.tup [.int 0])) (.ref u) := tlT (hand_ne hI2 nu) upd_same (by decide) (fun x hx => by rw [List.mem_singleton.mp hx]; exact elpI _)
        generalize upd H2 u (.tup [.int 0]) = H3 at S3 tu ⊢
        have hI3 := handIn_keep hI2 S3
        refine ⟨_, _, rfl, rfl, ⟨by decide, by decide, by decide⟩, _, rfl, p, c, cells, rfl, hI3, fun ov H4 tov hI4 k34 => ?_⟩
        refine ⟨by show 11 ≤ sizeLine; decide, fun L nL => ?_⟩
        refine ⟨p, c, L, cells, _, rfl, handIn_keep hI4 (smUpd nL), hand_ne hI4 nL, upd_same, (by show 0 < 11; decide), (by show 11 ≤ 1000000; decide), fun i v H5 hv hI5 k45 _ => ?_⟩
        have k45' := kept_trans (kept_same (p := p) (smUpd nL)) k45
        have tv : ElP p H5 v := by
          refine ElP.kept k45' ?_
          have hm := List.mem_of_getElem? hv
          simp only [List.mem_cons, List.not_mem_nil, or_false] at hm
          rcases hm with rfl | rfl | rfl | rfl | rfl | rfl | rfl | rfl | rfl | rfl | rfl
          · exact elpI _
          · exact elpI _
          · exact elpI _
          · exact elpB _
          · exact elpB _
          · exact (tlS (n := 0) _).el
          · exact (tu.kept k34).el
          · exact (tlN (n := 0)).el
          · exact elpI _
          · exact elpI _
          · exact tov.el
        have k25 := kept_trans (kept_trans (kept_same (p := p) S3) k34) k45'
        have hT5 := hT2.kept k25
        have hap5 := k25 _ _ nap hap2
        have hel5 : ∀ x ∈ xs, ElP p H5 x := fun x hx => (hel2 x hx).kept k25
        have k5 := kept_trans k2 k25
        refine ⟨_, rfl, _, .ty "tuple", _, _, true, rfl, .ty _, tupTyV hap5, kit_ty (by decide +kernel), true, rfl, ?_⟩
        refine ifF (by decide) ?_
        -- the things
        refine ⟨_, rfl, _, rfl, _, rfl, ?_⟩
        refine slA hap5 fun f1 H6 s6 hf1 => ?_
        refine ⟨_, rfl, by show 1 ≤ sizeLine; decide, fun f2 nf2 => ?_⟩
        have s7 := smUpd (o := .tup [v]) nf2
        have hf27 : upd H6 f2 (.tup [v]) f2 = some (.tup [v]) := upd_same
        generalize upd H6 f2 (.tup [v]) = H7 at s7 hf27 ⊢
        refine catA (s7 _ _ hf1) hf27 (bl1 lxs n63) fun f3 H8 s8 hf3 => ?_
        have s58 := s6.trans (s7.trans s8)
        refine ⟨_, rfl, _, rfl, _, _, rfl, rfl, _, rfl, ?_⟩
        refine slN (s58 _ _ hap5) fun f4 H9 s9 hf4 => ?_
        refine catA (s9 _ _ hf3) hf4 (bl2 lxs n63) fun T H10 s10 hTt => ?_
        have s5t := s58.trans (s9.trans s10)
        have hI10 := handIn_keep hI5 s5t
        have tT : ThL p (2 * n + 2) H10 (.ref T) := tlT (tup_ne hI10 hTt) hTt (bl3 lxs) fun x hx => by
          rcases List.mem_append.mp hx with hx | hx
          · rcases List.mem_append.mp hx with hx | hx
            · exact (hel5 x (cutV_mem hx)).kept (kept_same s5t)
            · rw [List.mem_singleton.mp hx]; exact tv.kept (kept_same s5t)
          · exact (hel5 x (cutV_mem hx)).kept (kept_same s5t)
        refine ⟨by show 1 ≤ sizeLine; decide, fun g1 ng1 => ?_⟩
        have s11 := smUpd (o := .lst [.ref T]) ng1
        have hg1 : upd H10 g1 (.lst [.ref T]) g1 = some (.lst [.ref T]) := upd_same
        generalize upd H10 g1 (.lst [.ref T]) = H11 at s11 hg1 ⊢
        refine ⟨g1, 4, _, rfl, rfl, hg1, by decide, by decide, by show 1 * 4 ≤ sizeLine; decide, fun g2 ng2 => ?_⟩
        rw [show (List.replicate (4 : Int).toNat [V.ref T]).flatten = List.replicate 4 (V.ref T) from by rw [show (4 : Int).toNat = 4 from rfl, List.flatten_replicate_singleton]]
        have s12 := smUpd (o := .lst (List.replicate 4 (V.ref T))) ng2
        have hg2 : upd H11 g2 (.lst (List.replicate 4 (V.ref T))) g2 = some (.lst (List.replicate 4 (V.ref T))) := upd_same
        have ng2p : g2 ≠ p := hand_ne (handIn_keep hI10 s11) ng2
        generalize upd H11 g2 (.lst (List.replicate 4 (V.ref T))) = H12 at s12 hg2 ⊢
        have hI12 := handIn_keep hI10 (s11.trans s12)
        have tT12 := tT.kept (kept_same (s11.trans s12))
        have s512 := s5t.trans (s11.trans s12)
        have hap12 := s512 _ _ hap5
        have hel12 : ∀ x ∈ xs, ElP p H12 x := fun x hx => (hel5 x hx).kept (kept_same s512)
        have k512 := kept_trans k5 (kept_same s512)
        have hT12 := hT5.kept (kept_same s512)
        clear tT hTt hf4 hf3 hf1 hf27 s58 s10 s9 s8 s7 s6 hg1 s12 s11 s5t hI10
        refine ⟨_, rfl, ap, _, rfl, .inr (.inl (.inl hap12)), fun O nO => ?_⟩
        have s13 := smUpd (o := .lst xs) nO
        have tO : ThL p (2 * n + 2) (upd H12 O (.lst xs)) (.ref O) := tlL (hand_ne hI12 nO) upd_same
        generalize upd H12 O (.lst xs) = H13 at s13 tO ⊢
        have hI13 := handIn_keep hI12 s13
        refine ⟨by show 0 ≤ sizeLine; decide, fun e0 ne0 => ?_⟩
        have s14 := smUpd (o := .tup []) ne0
        have te : ThL p (2 * n + 2) (upd H13 e0 (.tup [])) (.ref e0) := tlT (hand_ne hI13 ne0) upd_same (Nat.zero_le _) (fun x hx => by cases hx)
        generalize upd H13 e0 (.tup []) = H14 at s14 te ⊢
        have hI14 := handIn_keep hI13 s14
        refine ⟨_, rfl, by show 1 ≤ sizeLine; decide, fun u1 nu1 => ?_⟩
        have s15 := smUpd (o := .tup [.int 0]) nu1
        have hu1 : upd H14 u1 (.tup [.int 0]) u1 = some (.tup [.int 0]) := upd_same
        generalize upd H14 u1 (.tup [.int 0]) = H15 at s15 hu1 ⊢
        have s1215 := s13.trans (s14.trans s15)
        refine catA (s1215 _ _ hap12) hu1 (by show xs.length + 1 ≤ 1000; omega) fun c1 H16 s16 hc1 => ?_
        have s1216 := s1215.trans s16
        have hI16 := handIn_keep hI12 s1216
        have tc : ThL p (2 * n + 2) H16 (.ref c1) := tlT (tup_ne hI16 hc1) hc1 (by rw [List.length_append]; show xs.length + 1 ≤ 2 * n + 2; omega) fun x hx => by
          rcases List.mem_append.mp hx with hx | hx
          · exact (hel12 x hx).kept (kept_same s1216)
          · rw [List.mem_singleton.mp hx]; exact elpI _
        refine ⟨_, rfl, p, c, cells, rfl, hI16, fun ov2 H17 tov2 hI17 k17 => ?_⟩
        have k1217 := kept_trans (kept_same (p := p) s1216) k17
        have hg217 := k1217 _ _ ng2p hg2
        refine ⟨by show 4 ≤ sizeLine; decide, fun Y nY => ?_⟩
        have s18 := smUpd (o := .lst [.ref O, .ref e0, .ref c1, ov2]) nY
        have hY : upd H17 Y (.lst [.ref O, .ref e0, .ref c1, ov2]) Y = some (.lst [.ref O, .ref e0, .ref c1, ov2]) := upd_same
        have all : ∀ x ∈ List.replicate 4 (V.ref T) ++ [V.ref O, .ref e0, .ref c1, ov2], ThL p (2 * n + 2) H17 x := by
          intro x hx
          rcases List.mem_append.mp hx with hx | hx
          · rw [List.eq_of_mem_replicate hx]
            exact tT12.kept k1217
          · simp only [List.mem_cons, List.not_mem_nil, or_false] at hx
            rcases hx with rfl | rfl | rfl | rfl
            · exact tO.kept (kept_trans (kept_same (s14.trans (s15.trans s16))) k17)
            · exact te.kept (kept_trans (kept_same (s15.trans s16)) k17)
            · exact tc.kept k17
            · exact tov2.mono (by omega)
        generalize upd H17 Y (.lst [.ref O, .ref e0, .ref c1, ov2]) = H18 at s18 hY ⊢
        have hI18 := handIn_keep hI17 s18
        refine ⟨g2, Y, _, _, rfl, rfl, s18 _ _ hg217, hY, Nat.le_of_lt (small1000 (by rw [List.length_replicate]; show 4 + 4 ≤ 1000; decide)), fun Z nZ => ?_⟩
        refine ⟨_, rfl, _, rfl, p, c, Z, cells, _, rfl, handIn_keep hI18 (smUpd nZ), hand_ne hI18 nZ, upd_same, (by rw [List.length_append, List.length_replicate]; show 0 < 4 + 4; decide), (by rw [List.length_append, List.length_replicate]; show 4 + 4 ≤ 1000000; decide), fun j r H19 hr19 hI19 k19 _ => ?_⟩
        have k1719 := kept_trans (kept_same (p := p) (s18.trans (smUpd nZ))) k19
        have tr := (all r (List.mem_of_getElem? hr19)).kept k1719
        have hT19 := hT12.kept (kept_trans k1217 k1719)
        refine ⟨_, rfl, _, rfl, by show 3 ≤ sizeLine; decide, fun t' nt' => ?_⟩
        have s20 := smUpd (o := .tup [r, vb, va]) nt'
        exact k t' r vb va _ ⟨upd_same, hand_ne hI19 nt', tr.kept (kept_same s20), (hT19.2.2.2.1.kept (kept_same s20)).mono (by omega), (hT19.2.2.2.2.kept (kept_same s20)).mono (by omega)⟩ (handIn_keep hI19 s20) (kept_trans k512 (kept_trans k1217 (kept_trans k1719 (kept_same s20))))
      · refine ifF (by rw [decide_eq_false cl]; decide) ?_
        have hI2 := hI1
        have k2 := k1
        have hT2 := hT1
        have hap2 := hap
        have hel2 := hel
        obtain ⟨H2, rfl⟩ : ∃ H2, H2 = H1 := ⟨_, rfl⟩
        refine ⟨_, rfl, _, rfl, _, rfl, _, _, rfl, rfl, _, rfl, by show 1 ≤ sizeLine; decide, fun u nu => ?_⟩
        have S3 := smUpd (o := .tup [.int 0]) nu
        have tu : ThL p 1 (upd H2 u (.tup [.int 0])) (.ref u) := tlT (hand_ne hI2 nu) upd_same (by decide) (fun x hx => by rw [List.mem_singleton.mp hx]; exact elpI _)
        generalize upd H2 u (.tup [.int 0]) = H3 at S3 tu ⊢
        have hI3 := handIn_keep hI2 S3
        refine ⟨_, _, rfl, rfl, ⟨by decide, by decide, by decide⟩, _, rfl, p, c, cells, rfl, hI3, fun ov H4 tov hI4 k34 => ?_⟩
        refine ⟨by show 11 ≤ sizeLine; decide, fun L nL => ?_⟩
        refine ⟨p, c, L, cells, _, rfl, handIn_keep hI4 (smUpd nL), hand_ne hI4 nL, upd_same, (by show 0 < 11; decide), (by show 11 ≤ 1000000; decide), fun i v H5 hv hI5 k45 _ => ?_⟩
        have k45' := kept_trans (kept_same (p := p) (smUpd nL)) k45
        have tv : ElP p H5 v := by
          refine ElP.kept k45' ?_
          have hm := List.mem_of_getElem? hv
          simp only [List.mem_cons, List.not_mem_nil, or_false] at hm
          rcases hm with rfl | rfl | rfl | rfl | rfl | rfl | rfl | rfl | rfl | rfl | rfl
          · exact elpI _
          · exact elpI _
          · exact elpI _
          · exact elpB _
          · exact elpB _
          · exact (tlS (n := 0) _).el
          · exact (tu.kept k34).el
          · exact (tlN (n := 0)).el
          · exact elpI _
          · exact elpI _
          · exact tov.el
        have k25 := kept_trans (kept_trans (kept_same (p := p) S3) k34) k45'
        have hT5 := hT2.kept k25
        have hap5 := k25 _ _ nap hap2
        have hel5 : ∀ x ∈ xs, ElP p H5 x := fun x hx => (hel2 x hx).kept k25
        have k5 := kept_trans k2 k25
        refine ⟨_, rfl, _, .ty "tuple", _, _, true, rfl, .ty _, tupTyV hap5, kit_ty (by decide +kernel), true, rfl, ?_⟩
        refine ifF (by decide) ?_
        -- the things
        refine ⟨_, rfl, _, rfl, _, rfl, ?_⟩
        refine slA hap5 fun f1 H6 s6 hf1 => ?_
        refine ⟨_, rfl, by show 1 ≤ sizeLine; decide, fun f2 nf2 => ?_⟩
        have s7 := smUpd (o := .tup [v]) nf2
        have hf27 : upd H6 f2 (.tup [v]) f2 = some (.tup [v]) := upd_same
        generalize upd H6 f2 (.tup [v]) = H7 at s7 hf27 ⊢
        refine catA (s7 _ _ hf1) hf27 (bl1 lxs n63) fun f3 H8 s8 hf3 => ?_
        have s58 := s6.trans (s7.trans s8)
        refine ⟨_, rfl, _, rfl, _, _, rfl, rfl, _, rfl, ?_⟩
        refine slN (s58 _ _ hap5) fun f4 H9 s9 hf4 => ?_
        refine catA (s9 _ _ hf3) hf4 (bl2 lxs n63) fun T H10 s10 hTt => ?_
        have s5t := s58.trans (s9.trans s10)
        have hI10 := handIn_keep hI5 s5t
        have tT : ThL p (2 * n + 2) H10 (.ref T) := tlT (tup_ne hI10 hTt) hTt (bl3 lxs) fun x hx => by
          rcases List.mem_append.mp hx with hx | hx
          · rcases List.mem_append.mp hx with hx | hx
            · exact (hel5 x (cutV_mem hx)).kept (kept_same s5t)
            · rw [List.mem_singleton.mp hx]; exact tv.kept (kept_same s5t)
          · exact (hel5 x (cutV_mem hx)).kept (kept_same s5t)
        refine ⟨by show 1 ≤ sizeLine; decide, fun g1 ng1 => ?_⟩
        have s11 := smUpd (o := .lst [.ref T]) ng1
        have hg1 : upd H10 g1 (.lst [.ref T]) g1 = some (.lst [.ref T]) := upd_same
        generalize upd H10 g1 (.lst [.ref T]) = H11 at s11 hg1 ⊢
        refine ⟨g1, 4, _, rfl, rfl, hg1, by decide, by decide, by show 1 * 4 ≤ sizeLine; decide, fun g2 ng2 => ?_⟩
        rw [show (List.replicate (4 : Int).toNat [V.ref T]).flatten = List.replicate 4 (V.ref T) from by rw [show (4 : Int).toNat = 4 from rfl, List.flatten_replicate_singleton]]
        have s12 := smUpd (o := .lst (List.replicate 4 (V.ref T))) ng2
        have hg2 : upd H11 g2 (.lst (List.replicate 4 (V.ref T))) g2 = some (.lst (List.replicate 4 (V.ref T))) := upd_same
        have ng2p : g2 ≠ p := hand_ne (handIn_keep hI10 s11) ng2
        generalize upd H11 g2 (.lst (List.replicate 4 (V.ref T))) = H12 at s12 hg2 ⊢
        have hI12 := handIn_keep hI10 (s11.trans s12)
        have tT12 := tT.kept (kept_same (s11.trans s12))
        have s512 := s5t.trans (s11.trans s12)
        have hap12 := s512 _ _ hap5
        have hel12 : ∀ x ∈ xs, ElP p H12 x := fun x hx => (hel5 x hx).kept (kept_same s512)
        have k512 := kept_trans k5 (kept_same s512)
        have hT12 := hT5.kept (kept_same s512)
        clear tT hTt hf4 hf3 hf1 hf27 s58 s10 s9 s8 s7 s6 hg1 s12 s11 s5t hI10
        refine ⟨_, rfl, ap, _, rfl, .inr (.inl (.inl hap12)), fun O nO => ?_⟩
        have s13 := smUpd (o := .lst xs) nO
        have tO : ThL p (2 * n + 2) (upd H12 O (.lst xs)) (.ref O) := tlL (hand_ne hI12 nO) upd_same
        generalize upd H12 O (.lst xs) = H13 at s13 tO ⊢
        have hI13 := handIn_keep hI12 s13
        refine ⟨by show 0 ≤ sizeLine; decide, fun e0 ne0 => ?_⟩
        have s14 := smUpd (o := .tup []) ne0
        have te : ThL p (2 * n + 2) (upd H13 e0 (.tup [])) (.ref e0) := tlT (hand_ne hI13 ne0) upd_same (Nat.zero_le _) (fun x hx => by cases hx)
        generalize upd H13 e0 (.tup []) = H14 at s14 te ⊢
        have hI14 := handIn_keep hI13 s14
        refine ⟨_, rfl, by show 1 ≤ sizeLine; decide, fun u1 nu1 => ?_⟩
        have s15 := smUpd (o := .tup [.int 0]) nu1
        have hu1 : upd H14 u1 (.tup [.int 0]) u1 = some (.tup [.int 0]) := upd_same
        generalize upd H14 u1 (.tup [.int 0]) = H15 at s15 hu1 ⊢
        have s1215 := s13.trans (s14.trans s15)
        refine catA (s1215 _ _ hap12) hu1 (by show xs.length + 1 ≤ 1000; omega) fun c1 H16 s16 hc1 => ?_
        have s1216 := s1215.trans s16
        have hI16 := handIn_keep hI12 s1216
        have tc : ThL p (2 * n + 2) H16 (.ref c1) := tlT (tup_ne hI16 hc1) hc1 (by rw [List.length_append]; show xs.length + 1 ≤ 2 * n + 2; omega) fun x hx => by
          rcases List.mem_append.mp hx with hx | hx
          · exact (hel12 x hx).kept (kept_same s1216)
          · rw [List.mem_singleton.mp hx]; exact elpI _
        refine ⟨_, rfl, p, c, cells, rfl, hI16, fun ov2 H17 tov2 hI17 k17 => ?_⟩
        have k1217 := kept_trans (kept_same (p := p) s1216) k17
        have hg217 := k1217 _ _ ng2p hg2
        refine ⟨by show 4 ≤ sizeLine; decide, fun Y nY => ?_⟩
        have s18 := smUpd (o := .lst [.ref O, .ref e0, .ref c1, ov2]) nY
        have hY : upd H17 Y (.lst [.ref O, .ref e0, .ref c1, ov2]) Y = some (.lst [.ref O, .ref e0, .ref c1, ov2]) := upd_same
        have all : ∀ x ∈ List.replicate 4 (V.ref T) ++ [V.ref O, .ref e0, .ref c1, ov2], ThL p (2 * n + 2) H17 x := by
          intro x hx
          rcases List.mem_append.mp hx with hx | hx
          · rw [List.eq_of_mem_replicate hx]
            exact tT12.kept k1217
          · simp only [List.mem_cons, List.not_mem_nil, or_false] at hx
            rcases hx with rfl | rfl | rfl | rfl
            · exact tO.kept (kept_trans (kept_same (s14.trans (s15.trans s16))) k17)
            · exact te.kept (kept_trans (kept_same (s15.trans s16)) k17)
            · exact tc.kept k17
            · exact tov2.mono (by omega)
        generalize upd H17 Y (.lst [.ref O, .ref e0, .ref c1, ov2]) = H18 at s18 hY ⊢
        have hI18 := handIn_keep hI17 s18
        refine ⟨g2, Y, _, _, rfl, rfl, s18 _ _ hg217, hY, Nat.le_of_lt (small1000 (by rw [List.length_replicate]; show 4 + 4 ≤ 1000; decide)), fun Z nZ => ?_⟩
        refine ⟨_, rfl, _, rfl, p, c, Z, cells, _, rfl, handIn_keep hI18 (smUpd nZ), hand_ne hI18 nZ, upd_same, (by rw [List.length_append, List.length_replicate]; show 0 < 4 + 4; decide), (by rw [List.length_append, List.length_replicate]; show 4 + 4 ≤ 1000000; decide), fun j r H19 hr19 hI19 k19 _ => ?_⟩
        have k1719 := kept_trans (kept_same (p := p) (s18.trans (smUpd nZ))) k19
        have tr := (all r (List.mem_of_getElem? hr19)).kept k1719
        have hT19 := hT12.kept (kept_trans k1217 k1719)
        refine ⟨_, rfl, _, rfl, by show 3 ≤ sizeLine; decide, fun t' nt' => ?_⟩
        have s20 := smUpd (o := .tup [r, vb, va]) nt'
        exact k t' r vb va _ ⟨upd_same, hand_ne hI19 nt', tr.kept (kept_same s20), (hT19.2.2.2.1.kept (kept_same s20)).mono (by omega), (hT19.2.2.2.2.kept (kept_same s20)).mono (by omega)⟩ (handIn_keep hI19 s20) (kept_trans k512 (kept_trans k1217 (kept_trans k1719 (kept_same s20))))
    · refine ifF (by rw [decide_eq_false (fun z => cw (V.int.inj z))]; decide) ?_
      have w12 : w = 1 ∨ w = 2 := by omega
      obtain ⟨lv, hix, hlv⟩ : ∃ lv, atI [vp, vb, va] w = some lv ∧ ThL p n H1 lv := by
        rcases w12 with rfl | rfl
        · exact ⟨vb, rfl, hT1.2.2.2.1⟩
        · exact ⟨va, rfl, hT1.2.2.2.2⟩
      refine ⟨_, rfl, _, rfl, t, _, w, lv, rfl, rfl, .inl (.inl hT1.1), hix, ?_⟩
      rcases id hlv.th with ⟨ap, xs, rfl, hap, hxs⟩ | hN
      rotate_left
      · obtain ⟨ty, hty, kty⟩ := hN.ty (K := K)
        refine ⟨_, rfl, _, .ty "tuple", _, _, false, rfl, .ty _, hty, kty, false, rfl, ?_⟩
        refine ifT (by decide) ?_
        exact ⟨_, rfl, k t vp vb va _ (hT1.mono (by omega)) hI1 k1⟩
      have nap : ap ≠ p := hlv.el.2 _ rfl
      have hel : ∀ x ∈ xs, ElP p H1 x := by
        rcases hlv with ⟨b, ys, e, _, hb, _, hy⟩ | h
        · cases e
          rw [tupInjA hap hb]; exact hy
        · exact (h.1.notA rfl hap).elim
      have lxs : xs.length ≤ n := hlv.lenB _ _ rfl hap
      refine ⟨_, rfl, _, .ty "tuple", _, _, true, rfl, .ty _, tupTyV hap, kit_ty (by decide +kernel), true, rfl, ?_⟩
      refine ifF (by decide) ?_
      refine ⟨_, rfl, _, rfl, ap, _, rfl, .inr (.inl (.inl hap)), _, _, rfl, rfl, p, c, cells, _, rfl, hI1, by omega, by omega, fun d b1 b2 b3 b4 d0 d1 b10 => ?_⟩
      have kk := kept_hand (p := p) (H := H1) (o := handL c b1 b2 b3 b4)
      have hI2 := handIn_upd (i := b1) (g := b2) (m := b3) (t := b4) hI1 b10
      have k2 := kept_trans k1 kk
      have hT2 := hT1.kept kk
      have hap2 := kk _ _ nap hap
      have hel2 : ∀ x ∈ xs, ElP p _ x := fun x hx => (hel x hx).kept kk
      generalize upd H1 p (handL c b1 b2 b3 b4) = H2 at k2 hI2 hT2 hap2 hel2 ⊢
      clear kk
      refine ⟨_, rfl, _, rfl, _, rfl, ap, _, rfl, .inr (.inl (.inl hap2)), _, _, rfl, rfl, ⟨by decide, by decide, by decide⟩, _, rfl, p, c, cells, rfl, hI2, fun ov H4 tov hI4 k24 => ?_⟩
      refine ⟨by show 9 ≤ sizeLine; decide, fun L nL => ?_⟩
      refine ⟨p, c, L, cells, _, rfl, handIn_keep hI4 (smUpd nL), hand_ne hI4 nL, upd_same, (by show 0 < 9; decide), (by show 9 ≤ 1000000; decide), fun i v H5 hv hI5 k45 _ => ?_⟩
      have k45' := kept_trans (kept_same (p := p) (smUpd nL)) k45
      have tv : ElP p H5 v := by
        refine ElP.kept k45' ?_
        have hm := List.mem_of_getElem? hv
        simp only [List.mem_cons, List.not_mem_nil, or_false] at hm
        rcases hm with rfl | rfl | rfl | rfl | rfl | rfl | rfl | rfl | rfl
        · exact elpI _
        · exact elpI _
        · exact elpB _
        · exact (tlN (n := 0)).el
        · exact (tlS (n := 0) _).el
        · exact elpI _
        · exact elpI _
        · exact elpI _
        · exact tov.el
      have k25 := kept_trans k24 k45'
      have hT5 := hT2.kept k25
      have hap5 := k25 _ _ nap hap2
      have hel5 : ∀ x ∈ xs, ElP p H5 x := fun x hx => (hel2 x hx).kept k25
      have k5 := kept_trans k2 k25
      refine ⟨_, rfl, _, rfl, _, rfl, ?_⟩
      refine slA hap5 fun f1 H6 s6 hf1 => ?_
      refine ⟨_, rfl, by show 1 ≤ sizeLine; decide, fun f2 nf2 => ?_⟩
      have s7 := smUpd (o := .tup [v]) nf2
      have hf27 : upd H6 f2 (.tup [v]) f2 = some (.tup [v]) := upd_same
      generalize upd H6 f2 (.tup [v]) = H7 at s7 hf27 ⊢
      refine catA (s7 _ _ hf1) hf27 (bl1 lxs n63) fun f3 H8 s8 hf3 => ?_
      have s58 := s6.trans (s7.trans s8)
      refine ⟨_, rfl, _, rfl, _, _, rfl, rfl, _, rfl, ?_⟩
      refine slN (s58 _ _ hap5) fun f4 H9 s9 hf4 => ?_
      refine catA (s9 _ _ hf3) hf4 (bl2 lxs n63) fun T H10 s10 hTt => ?_
      have s5t := s58.trans (s9.trans s10)
      have hI10 := handIn_keep hI5 s5t
      have tT : ThL p (2 * n + 2) H10 (.ref T) := tlT (tup_ne hI10 hTt) hTt (bl3 lxs) fun x hx => by
        rcases List.mem_append.mp hx with hx | hx
        · rcases List.mem_append.mp hx with hx | hx
          · exact (hel5 x (cutV_mem hx)).kept (kept_same s5t)
          · rw [List.mem_singleton.mp hx]; exact tv.kept (kept_same s5t)
        · exact (hel5 x (cutV_mem hx)).kept (kept_same s5t)
      refine ⟨by show 1 ≤ sizeLine; decide, fun g1 ng1 => ?_⟩
      have s11 := smUpd (o := .lst [.ref T]) ng1
      have hg1 : upd H10 g1 (.lst [.ref T]) g1 = some (.lst [.ref T]) := upd_same
      generalize upd H10 g1 (.lst [.ref T]) = H11 at s11 hg1 ⊢
      refine ⟨g1, 3, _, rfl, rfl, hg1, by decide, by decide, by show 1 * 3 ≤ sizeLine; decide, fun g2 ng2 => ?_⟩
      rw [show (List.replicate (3 : Int).toNat [V.ref T]).flatten = List.replicate 3 (V.ref T) from by rw [show (3 : Int).toNat = 3 from rfl, List.flatten_replicate_singleton]]
      have s12 := smUpd (o := .lst (List.replicate 3 (V.ref T))) ng2
      have hg2 : upd H11 g2 (.lst (List.replicate 3 (V.ref T))) g2 = some (.lst (List.replicate 3 (V.ref T))) := upd_same
      have ng2p : g2 ≠ p := hand_ne (handIn_keep hI10 s11) ng2
      generalize upd H11 g2 (.lst (List.replicate 3 (V.ref T))) = H12 at s12 hg2 ⊢
      have hI12 := handIn_keep hI10 (s11.trans s12)
      have tT12 := tT.kept (kept_same (s11.trans s12))
      have s512 := s5t.trans (s11.trans s12)
      have hap12 := s512 _ _ hap5
      have hel12 : ∀ x ∈ xs, ElP p H12 x := fun x hx => (hel5 x hx).kept (kept_same s512)
      have k512 := kept_trans k5 (kept_same s512)
      have hT12 := hT5.kept (kept_same s512)
      have tv12 := tv.kept (kept_same s512)
      clear tT hTt hf4 hf3 hf1 hf27 s58 s10 s9 s8 s7 s6 hg1 s12 s11 s5t hI10
      -- the thing put in
      refine ⟨_, rfl, _, rfl, _, rfl, ?_⟩
      refine slA hap12 fun f1 H6 s6 hf1 => ?_
      refine ⟨_, rfl, by show 1 ≤ sizeLine; decide, fun f2 nf2 => ?_⟩
      have s7 := smUpd (o := .tup [v]) nf2
      have hf27 : upd H6 f2 (.tup [v]) f2 = some (.tup [v]) := upd_same
      generalize upd H6 f2 (.tup [v]) = H7 at s7 hf27 ⊢
      refine catA (s7 _ _ hf1) hf27 (bl1 lxs n63) fun f3 H8 s8 hf3 => ?_
      have s58 := s6.trans (s7.trans s8)
      refine ⟨_, rfl, _, rfl, _, rfl, ?_⟩
      refine slN (s58 _ _ hap12) fun f4 H9 s9 hf4 => ?_
      refine catA (s9 _ _ hf3) hf4 (bl2 lxs n63) fun T2 H13 s10 hTt => ?_
      have s1213 := s58.trans (s9.trans s10)
      have hI13 := handIn_keep hI12 s1213
      have tT2 : ThL p (2 * n + 2) H13 (.ref T2) := tlT (tup_ne hI13 hTt) hTt (bl3 lxs) fun x hx => by
        rcases List.mem_append.mp hx with hx | hx
        · rcases List.mem_append.mp hx with hx | hx
          · exact (hel12 x (cutV_mem hx)).kept (kept_same s1213)
          · rw [List.mem_singleton.mp hx]; exact tv12.kept (kept_same s1213)
        · exact (hel12 x (cutV_mem hx)).kept (kept_same s1213)
      clear hTt hf4 hf3 hf1 hf27 s58 s10 s9 s8 s7 s6
      refine ⟨_, rfl, ap, _, rfl, .inr (.inl (.inl (s1213 _ _ hap12))), fun O nO => ?_⟩
      have s14 := smUpd (o := .lst xs) nO
      have tO : ThL p (2 * n + 2) (upd H13 O (.lst xs)) (.ref O) := tlL (hand_ne hI13 nO) upd_same
      generalize upd H13 O (.lst xs) = H14 at s14 tO ⊢
      have hI14 := handIn_keep hI13 s14
      have s1214 := s1213.trans s14
      refine ⟨_, rfl, ap, xs, rfl, .inl (.inl (s1214 _ _ hap12)), fun rv nrv => ?_⟩
      have s15 := smUpd (o := .tup xs.reverse) nrv
      have trv : ThL p (2 * n + 2) (upd H14 rv (.tup xs.reverse)) (.ref rv) := tlT (hand_ne hI14 nrv) upd_same (by rw [List.length_reverse]; omega) fun x hx => (hel12 x (List.mem_reverse.mp hx)).kept (kept_same (s1214.trans s15))
      generalize upd H14 rv (.tup xs.reverse) = H15 at s15 trv ⊢
      have hI15 := handIn_keep hI14 s15
      have s1215 := s1214.trans s15
      refine ⟨by show 3 ≤ sizeLine; decide, fun Y nY => ?_⟩
      have s16 := smUpd (o := .lst [.ref T2, .ref O, .ref rv]) nY
      have hY : upd H15 Y (.lst [.ref T2, .ref O, .ref rv]) Y = some (.lst [.ref T2, .ref O, .ref rv]) := upd_same
      have all : ∀ x ∈ List.replicate 3 (V.ref T) ++ [V.ref T2, .ref O, .ref rv], ThL p (2 * n + 2) H15 x := by
        intro x hx
        rcases List.mem_append.mp hx with hx | hx
        · rw [List.eq_of_mem_replicate hx]
          exact tT12.kept (kept_same s1215)
        · simp only [List.mem_cons, List.not_mem_nil, or_false] at hx
          rcases hx with rfl | rfl | rfl
          · exact tT2.kept (kept_same (s14.trans s15))
          · exact tO.kept (kept_same s15)
          · exact trv
      generalize upd H15 Y (.lst [.ref T2, .ref O, .ref rv]) = H16 at s16 hY ⊢
      have hg216 := (s1215.trans s16) _ _ hg2
      have hI16 := handIn_keep hI15 s16
      refine ⟨g2, Y, _, _, rfl, rfl, hg216, hY, Nat.le_of_lt (small1000 (by rw [List.length_replicate]; show 3 + 3 ≤ 1000; decide)), fun Z nZ => ?_⟩
      have s17 := smUpd (o := .lst (List.replicate 3 (V.ref T) ++ [V.ref T2, .ref O, .ref rv])) nZ
      have hZ : upd H16 Z (.lst (List.replicate 3 (V.ref T) ++ [V.ref T2, .ref O, .ref rv])) Z = some (.lst (List.replicate 3 (V.ref T) ++ [V.ref T2, .ref O, .ref rv])) := upd_same
      have nZp := hand_ne hI16 nZ
      have all17 : ∀ x ∈ List.replicate 3 (V.ref T) ++ [V.ref T2, .ref O, .ref rv], ThL p (2 * n + 2) (upd H16 Z (.lst (List.replicate 3 (V.ref T) ++ [V.ref T2, .ref O, .ref rv]))) x := fun x hx => (all x hx).kept (kept_same (s16.trans s17))
      have lZ : (List.replicate 3 (V.ref T) ++ [V.ref T2, .ref O, .ref rv]).length = 6 := by rw [List.length_append, List.length_replicate]; rfl
      generalize List.replicate 3 (V.ref T) ++ [V.ref T2, .ref O, .ref rv] = zs at s17 hZ all17 lZ ⊢
      generalize upd H16 Z (.lst zs) = H17 at s17 hZ all17 ⊢
      have hI17 := handIn_keep hI16 s17
      have s1217 := s1215.trans (s16.trans s17)
      have hap17 := s1217 _ _ hap12
      clear all hY hg216
      -- one of them
      refine ⟨_, rfl, _, rfl, _, rfl, _, rfl, _, rfl, _, rfl, ?_⟩
      refine slN hap17 fun f5 H18 s18 hf5 => ?_
      refine catA (s18 _ _ hap17) hf5 (by have := cutV_length xs (some (-1)) none; omega) fun f6 H19 s19 hf6 => ?_
      have s1719 := s18.trans s19
      have hI19 := handIn_keep hI17 s1719
      have tf6 : ThL p (2 * n + 2) H19 (.ref f6) := tlT (tup_ne hI19 hf6) hf6 (by have := cutV_length xs (some (-1)) none; rw [List.length_append]; omega) fun x hx => by
        rcases List.mem_append.mp hx with hx | hx
        · exact (hel12 x hx).kept (kept_same (s1217.trans s1719))
        · exact (hel12 x (cutV_mem hx)).kept (kept_same (s1217.trans s1719))
      refine ⟨_, rfl, p, c, cells, rfl, hI19, fun ov2 H20 tov2 hI20 k20 => ?_⟩
      refine ⟨by show 0 ≤ sizeLine; decide, fun e0 ne0 => ?_⟩
      have s21 := smUpd (o := .tup []) ne0
      have te : ThL p (2 * n + 2) (upd H20 e0 (.tup [])) (.ref e0) := tlT (hand_ne hI20 ne0) upd_same (Nat.zero_le _) (fun x hx => by cases hx)
      generalize upd H20 e0 (.tup []) = H21 at s21 te ⊢
      have hI21 := handIn_keep hI20 s21
      refine ⟨by show 3 ≤ sizeLine; decide, fun Y2 nY2 => ?_⟩
      have s22 := smUpd (o := .lst [.ref f6, ov2, .ref e0]) nY2
      have hY2 : upd H21 Y2 (.lst [.ref f6, ov2, .ref e0]) Y2 = some (.lst [.ref f6, ov2, .ref e0]) := upd_same
      have k1721 := kept_trans (kept_same (p := p) s1719) (kept_trans k20 (kept_same s21))
      have all : ∀ x ∈ zs ++ [V.ref f6, ov2, .ref e0], ThL p (2 * n + 2) H21 x := by
        intro x hx
        rcases List.mem_append.mp hx with hx | hx
        · exact (all17 x hx).kept k1721
        · simp only [List.mem_cons, List.not_mem_nil, or_false] at hx
          rcases hx with rfl | rfl | rfl
          · exact tf6.kept (kept_trans k20 (kept_same s21))
          · exact (tov2.kept (kept_same s21)).mono (by omega)
          · exact te
      have hZ21 := k1721 _ _ nZp hZ
      generalize upd H21 Y2 (.lst [.ref f6, ov2, .ref e0]) = H22 at s22 hY2 ⊢
      have hI22 := handIn_keep hI21 s22
      refine ⟨Z, Y2, _, _, rfl, rfl, s22 _ _ hZ21, hY2, Nat.le_of_lt (small1000 (by rw [lZ]; show 6 + 3 ≤ 1000; decide)), fun W nW => ?_⟩
      refine ⟨p, c, W, cells, _, rfl, handIn_keep hI22 (smUpd nW), hand_ne hI22 nW, upd_same, (by rw [List.length_append, lZ]; show 0 < 6 + 3; decide), (by rw [List.length_append, lZ]; show 6 + 3 ≤ 1000000; decide), fun j r H23 hr23 hI23 k23 _ => ?_⟩
      have k2123 := kept_trans (kept_same (p := p) (s22.trans (smUpd nW))) k23
      have tr := (all r (List.mem_of_getElem? hr23)).kept k2123
      have k1223 := kept_trans (kept_same (p := p) s1217) (kept_trans k1721 k2123)
      have hT23 := hT12.kept k1223
      have kend := kept_trans k512 k1223
      refine ⟨_, rfl, rfl, _, rfl, ?_⟩
      by_cases c1 : w = 1
      · refine ifT (by rw [c1]; rfl) ?_
        refine ⟨_, rfl, _, rfl, _, rfl, by show 3 ≤ sizeLine; decide, fun t' nt' => ?_⟩
        have s20 := smUpd (o := .tup [vp, r, va]) nt'
        exact k t' vp r va _ ⟨upd_same, hand_ne hI23 nt', (hT23.2.2.1.kept (kept_same s20)).mono (by omega), tr.kept (kept_same s20), (hT23.2.2.2.2.kept (kept_same s20)).mono (by omega)⟩ (handIn_keep hI23 s20) (kept_trans kend (kept_same s20))
      · refine ifF (by rw [decide_eq_false (fun z => c1 (V.int.inj z))]; decide) ?_
        refine ⟨_, rfl, _, rfl, _, rfl, by show 3 ≤ sizeLine; decide, fun t' nt' => ?_⟩
        have s20 := smUpd (o := .tup [vp, vb, r]) nt'
        exact k t' vp vb r _ ⟨upd_same, hand_ne hI23 nt', (hT23.2.2.1.kept (kept_same s20)).mono (by omega), (hT23.2.2.2.1.kept (kept_same s20)).mono (by omega), tr.kept (kept_same s20)⟩ (handIn_keep hI23 s20) (kept_trans kend (kept_same s20))
end
end Cn
namespace Cn
open PySem PySem.Spec PyProof.Rows L2 Ck
/-! what Forest keeps of three things, or how it refuses them -/
theorem psExZ {X : Cx} {α : Type} {st : List Stmt} {Pz : α → Prop} {t : α → TS} (h : ∀ z, Pz z → PSs X st (t z)) : PSs X st (fun D σ H => ∃ z, Pz z ∧ t z D σ H) := ⟨fun pins s σ H D I ⟨z, pz, q⟩ => (h z pz).run pins s σ H D I q⟩
/-- an exception in the air finds as many slots as there are names -/
theorem takesLenN {X : Cx} {W : WX} (t : L2N.Takes X W) : L2N.Takes X (fun c d σ H => σ.length = X.N.length → W c d σ H) := fun u s' ⟨a, B, sI, pins, σ, H, cls, d, e, I, nb, up, sky, na, os, ag, w⟩ =>
  t u s' ⟨a, B, sI, pins, σ, H, cls, d, e, I, nb, up, sky, na, os, ag, w I.len⟩
theorem takesLen {X : Cx} {W : WX} (t : L2.Takes X W) : L2.Takes X (fun c d σ H => σ.length = X.N.length → W c d σ H) := fun u s' ⟨a, B, sI, pins, σ, H, cls, d, e, I, nb, up, sky, na, os, ag, w⟩ =>
  t u s' ⟨a, B, sI, pins, σ, H, cls, d, e, I, nb, up, sky, na, os, ag, w I.len⟩
def tIsP (K : PySem.W.Frag) (a D : Addr) (d : Option Addr) (i : Nat) (c : V) : TT := tB (tCB (rIsP K a D d) (tCons (tVar i) (tCons (tC c) tNil)))
def tSeenS (K : PySem.W.Frag) (a CB NE dx : Addr) : TS := tSeq (tAsg (tTup (tCons (tC (.str "bad")) (tCons (tTup (tCons (tFldP a dx "part" (tVar 3)) (tCons (tFldP a dx "at" (tVar 3)) tNil))) tNil))) (gName 2))
  (tIfS (tOr (tNot (tIsP K a CB (some dx) 3 (.ref NE))) (tNot (tIsP K a CB (some dx) 3 (.ty "ValueError")))) (tAsg (tTup (tCons (tC (.str "other")) (tCons (tC .non) tNil))) (gName 2)) tNext)
def tsSeen (K : PySem.W.Frag) (CB NE : Addr) : Addr → Value → Option Addr → TS := fun a cls d D σ H => ∃ dx : Addr, (cls = .ref CB ∧ d = some dx) ∧ tSeenS K a CB NE dx D σ H
def tBodySeen (K : PySem.W.Frag) (C CB : Addr) (W : WX) : TS := fun D σ H => ∃ E : XK, (∀ cls d σ' H', E cls d H' → σ'.length = 4 → W cls d σ' H') ∧
  tSeq (tAsg (tMake C (spInitX C CB) [] E (tCons (tOp (rIxT K) (tVar 0) (tC (.int 0))) (tCons (tOp (rIxT K) (tVar 0) (tC (.int 1))) (tCons (tOp (rIxT K) (tVar 0) (tC (.int 2))) tNil)))) (gName 1))
    (tAsg (tTup (tCons (tC (.str "made")) (tCons (tTup (tCons (tFld K (tVar 1) "parents") (tCons (tFld K (tVar 1) "bearing") (tCons (tFld K (tVar 1) "asking") tNil)))) tNil))) (gName 2)) D σ H
theorem tupBack {H H' : Hp} {a : Addr} {xs : List V} (s : Same H H') (tv : Th H (.ref a)) (h : H' a = some (.tup xs)) : H a = some (.tup xs) := by
  rcases tv with ⟨b, ys, e, hb, _⟩ | hn
  · cases e
    rw [hb, tupInjA (s _ _ hb) h]
  · exact ((noTupSame s hn).notA rfl h).elim
theorem dueSame {H H' : Hp} {vp vb va : V} {r : Option (Str × Int)} (s : Same H H') (tb : Th H vb) (ta : Th H va) (h : DueR H vp vb va r) : DueR H' vp vb va r := by
  rcases h with ⟨h, e⟩ | ⟨a, xs, e, ha, hx, h⟩
  · exact .inl ⟨noTupSame s h, e⟩
  · refine .inr ⟨a, xs, e, s _ _ ha, fun x hx' => (hx x hx').same s, ?_⟩
    rcases h with h | ⟨c, h⟩
    · exact .inl h
    · refine .inr ⟨c, ?_⟩
      rcases h with h | ⟨hall, h⟩
      · exact .inl h
      · refine .inr ⟨hall, ?_⟩
        rcases h with ⟨h, e⟩ | ⟨hb, h⟩
        · exact .inl ⟨fun z => h (lotBack s tb z), e⟩
        · refine .inr ⟨hb.same s, ?_⟩
          rcases h with ⟨h, e⟩ | ⟨hc, e⟩
          · exact .inl ⟨fun z => h (lotBack s ta z), e⟩
          · exact .inr ⟨hc.same s, e⟩
section
variable {P : Program} {w : World} {K : PySem.W.Frag} {mg : Str → Option Value} {base : Heap} {C NE CB : Addr} {l : List (Str × Addr)}
theorem exmSelf (T : ErrL P w K mg NE l) {x : Str} {D : Addr} (h : (x, D) ∈ l) : PySem.W.exmOne K (.ref D) (.ref D) = some true := by
  obtain ⟨cd, h1, h2⟩ := (T.e _ h).cd
  unfold PySem.W.exmOne
  have hb : (PySem.W.subIn K (.ref D) (.type "BaseException") == some true) = true := by rw [(T.e _ h).ex.hs]; rfl
  rw [if_pos hb]
  show (if _ then _ else _) = _
  rw [if_pos (isCls h1 (T.e _ h).ty)]
  exact mro_of h1 h2 (memT (by simp))
def spSeen : Sp := fun vs H Q _ => ∃ (t : Addr) (vp vb va : V) (r : Option (Str × Int)), vs = [.ref t] ∧ H t = some (.tup [vp, vb, va]) ∧ Th H vp ∧ Th H vb ∧ Th H va ∧ DueR H vp vb va r ∧
  (r = none → ∀ (f : Fo) (ap0 ab0 aa0 : Addr), vp = .ref ap0 → vb = .ref ab0 → va = .ref aa0 → TP H ap0 f.ps → TN H ab0 f.be → TN H aa0 f.as → FoOk f → ∀ (a q ap ab aa : Addr) H', Same H H' → H' a = some (.tup [.str "made", .ref q]) → H' q = some (.tup [.ref ap, .ref ab, .ref aa]) → TP H' ap f.ps → TN H' ab f.be → TN H' aa f.as → Q (.ref a) H') ∧
  (∀ (part : Str) (at_ : Int), r = some (part, at_) → ∀ (a q : Addr) H', Same H H' → H' a = some (.tup [.str "bad", .ref q]) → H' q = some (.tup [.str part, .int at_]) → Q (.ref a) H')
def nSeenOf : List Str := ["_law_given", "_law_made_here", "_law_found", "error"]
theorem scSeenOf : FnScope nSeenOf ["_law_given"] (defScope sSeenOf) := ⟨rfl, rfl, rfl, by decide +kernel, rfl, by decide +kernel, by decide +kernel⟩
theorem dSeenOf (B : Defs K mg C) (T : ErrL P w K mg NE l) (hB : (("BadForest" : Str), CB) ∈ l) : Def P w K mg base "_law_seen_of" 6 ["_law_given"] spSeen := by
  obtain ⟨fN, fdN, FN, MN, bN⟩ := B.ini
  have GN : FnOk P w K mg base (L2N.CX P w) 4 fN fdN ["self", "parents", "bearing", "asking"] (spInitX C CB) := ok_initX B T hB FN
  have N := B.N
  have TF := B.T
  have mV := B.zValueerror
  have nd := scSeenOf.nd
  have ex := (T.e _ hB).ex
  have gB := (T.e _ hB).g
  have no1 : PySem.W.findIn K (.ref CB) "part" = some none := (T.e _ hB).no _ (show ("part" : Str) ∈ fsOf ("BadForest" : Str) from by decide)
  have no2 : PySem.W.findIn K (.ref CB) "at" = some none := (T.e _ hB).no _ (show ("at" : Str) ∈ fsOf ("BadForest" : Str) from by decide)
  refine def_of B.lso fun f fd F => ?_
  refine F.ok scSeenOf (fun vs H Q E h => ?_) (fun cdv A outer s H vs Q E hr h => ?_)
  · obtain ⟨t, vp, vb, va, r, rfl, _⟩ := h
    rfl
  · obtain ⟨t, vp, vb, va, r, rfl, ht, tp, tb, ta, hD, kN, kB⟩ := h
    refine ⟨_, pss_cons (L2N.ps_try_as (i := 3) (tb := tBodySeen K C CB) (ts := tsSeen K CB NE) (Wout := fun _ _ _ _ => False) rfl rfl nd rfl rfl ⟨rfl, by decide, Or.inl gB⟩ takesN0
        (fun W pn xe tk _ => psExZ fun E hE => pss_cons (ps_set (i := 1) nd rfl (Or.inl rfl) (pe_make MN GN hr (by rfl) TF.mgC bN .nil (L2N.passes_call (takesLenN tk) fun cls d σ H h l => hE cls d σ H h l) (pa_cons (pe_ix ix_tup (pv 0) pe_int (fun _ _ => rfl)) (pa_cons (pe_ix ix_tup (pv 0) pe_int (fun _ _ => rfl)) (pa_cons (pe_ix ix_tup (pv 0) pe_int (fun _ _ => rfl)) pa_nil)))))
          (pss_one (ps_set (i := 2) nd rfl (Or.inl rfl) (pe_tup (pa_cons pe_str (pa_cons (pe_tup (pa_cons (pe_fld (pv 1) rfl) (pa_cons (pe_fld (pv 1) rfl) (pa_cons (pe_fld (pv 1) rfl) pa_nil)))) pa_nil))))))
        (fun a oe cls d pn hz hf => psExZ fun dx hz2 => ?suite))
      (pss_one (ps_ret (pv 2))), ?_⟩
    case suite =>
      obtain ⟨rfl, rfl⟩ := hz2
      have hzc : Zc (.ref CB) (some dx) oe := hz.zc
      exact pss_cons (ps_set (i := 2) nd rfl (Or.inl rfl) (pe_tup (pa_cons pe_str (pa_cons (pe_tup (pa_cons (pe_fldP ex List.mem_cons_self hzc hf no1 (pv 3)) (pa_cons (pe_fldP ex List.mem_cons_self hzc hf no2 (pv 3)) pa_nil))) pa_nil))))
        (pss_one (ps_if (PW.pt (pw_or (pt_not (pt_val (pe_callB (call_isP ex List.mem_cons_self hzc hf) (by rfl) N.is.inst (by decide +kernel) (pa_cons (pv 3) (pa_cons (pe_glob (v := .ref NE) (by rfl) T.gNE rfl) pa_nil)))))
            (pw_or1 (pt_not (pt_val (pe_callB (call_isP ex List.mem_cons_self hzc hf) (by rfl) N.is.inst (by decide +kernel) (pa_cons (pv 3) (pa_cons (pe_bltn (v := .ty "ValueError") (by rfl) mV (by decide +kernel) rfl) pa_nil)))))))) (pss_one (ps_set (i := 2) nd rfl (Or.inl rfl) (pe_tup (pa_cons pe_str (pa_cons pe_non pa_nil))))) pss_nil))
    refine ⟨fun cls d H' => ∃ (part : Str) (at_ : Int) (dx : Addr), r = some (part, at_) ∧ cls = .ref CB ∧ d = some dx ∧ Same H H' ∧ H' dx = some (.xd [("part", .str part), ("at", .int at_)]), ?_, ?_⟩
    · rintro cls d σ' H' ⟨part, at_, dx, er, rfl, rfl, s1, hx⟩ hl
      match σ', hl with
      | [x0, x1, x2, x3], _ =>
        refine ⟨true, exmSelf T hB, fun _ a na => ⟨dx, ⟨rfl, rfl⟩, ?_⟩, fun z => by cases z⟩
        refine ⟨_, rfl, _, _, rfl, hx, rfl, _, rfl, _, _, rfl, hx, rfl, by show 2 ≤ sizeLine; decide, fun q nq => ⟨by show 2 ≤ sizeLine; decide, fun fa nfa => ?_⟩⟩
        have S2 := smUpd (o := .tup [.str part, .int at_]) nq
        have hq : upd H' q (.tup [.str part, .int at_]) q = some (.tup [.str part, .int at_]) := upd_same
        generalize upd H' q (.tup [.str part, .int at_]) = H2 at S2 hq nfa ⊢
        have S3 := smUpd (o := .tup [.str "bad", .ref q]) nfa
        have hfa : upd H2 fa (.tup [.str "bad", .ref q]) fa = some (.tup [.str "bad", .ref q]) := upd_same
        generalize upd H2 fa (.tup [.str "bad", .ref q]) = H3 at S3 hfa ⊢
        have hx3 := (S2.trans S3) _ _ hx
        refine ⟨_, rfl, _, _, true, rfl, .inr ⟨dx, _, rfl, hx3⟩, fun u z => z, T.kNE hB, true, rfl, ?_⟩
        refine ifF (by decide) ?_
        refine ⟨_, rfl, _, _, true, rfl, .inr ⟨dx, _, rfl, hx3⟩, fun u z => z, T.kVE hB, true, rfl, ?_⟩
        refine ifF (by decide) ?_
        exact ⟨_, rfl, kB part at_ er fa q _ (s1.trans (S2.trans S3)) hfa (S3 _ _ hq)⟩
    · refine ⟨_, rfl, t, _, (0 : Int), _, rfl, rfl, .inl (.inl ht), rfl, _, rfl, t, _, (1 : Int), _, rfl, rfl, .inl (.inl ht), rfl, _, rfl, t, _, (2 : Int), _, rfl, rfl, .inl (.inl ht), rfl, fun x dx nx ndx ne => ?_⟩
      have S1 := smUpd (o := .own x) ndx
      have nx1 : (upd H dx (.own x)) x = none := by rw [upd_ne (Ne.symm ne)]; exact nx
      have S2 := S1.trans (smUpd (o := .ins C dx []) nx1)
      refine ⟨x, dx, vp, vb, va, r, rfl, upd_same, tp.same S2, tb.same S2, ta.same S2, dueSame S2 tb ta hD, fun part at_ er d H3 s3 hd => ⟨part, at_, d, er, rfl, rfl, S2.trans s3, hd⟩, fun er ap ab aa fo e1 e2 e3 h1 h2 h3 ok H3 hF kp => ⟨rfl, ?_⟩⟩
      subst e1 e2 e3
      obtain ⟨dx', ap', ab', aa', g0, g1, g2, g3⟩ := hF
      have s3 : Same H H3 := fun b o e => kp b o (fun z => by rw [z, nx] at e; cases e) (S2 _ _ e)
      refine ⟨_, rfl, x, C, dx', _, _, rfl, g0, TF.cl, TF.nP, fP, _, rfl, x, C, dx', _, _, rfl, g0, TF.cl, TF.nB, fB, _, rfl, x, C, dx', _, _, rfl, g0, TF.cl, TF.nA, fA, by show 3 ≤ sizeLine; decide, fun q nq => ⟨by show 2 ≤ sizeLine; decide, fun fa nfa => ?_⟩⟩
      have S4 := smUpd (o := .tup [.ref ap', .ref ab', .ref aa']) nq
      have hq : upd H3 q (.tup [.ref ap', .ref ab', .ref aa']) q = some (.tup [.ref ap', .ref ab', .ref aa']) := upd_same
      generalize upd H3 q (.tup [.ref ap', .ref ab', .ref aa']) = H4 at S4 hq nfa ⊢
      have S5 := smUpd (o := .tup [.str "made", .ref q]) nfa
      refine ⟨_, rfl, ?_⟩
      exact kN er fo ap ab aa rfl rfl rfl (tupBack S2 tp h1) (tupBack S2 tb h2) (tupBack S2 ta h3) ok fa q ap' ab' aa' _ (s3.trans (S4.trans S5)) upd_same (S5 _ _ hq) ((S4.trans S5) _ _ g1) ((S4.trans S5) _ _ g2) ((S4.trans S5) _ _ g3)
end
end Cn
namespace L2
open PySem PySem.Spec PyProof.Rows
/-! list.count of flat things -/
theorem eqU_count {y : V} : ∀ {xs : List V} {us : List Value}, Vals xs us → xs.all flatV = true → us.countP (eqU y) = xs.countP fun z => eqV z y
  | _, _, .nil, _ => rfl
  | x :: xs, u :: us, .cons r t, f => by
    rw [List.all_cons, Bool.and_eq_true] at f
    rw [List.countP_cons, List.countP_cons, eqU_count t f.2, eqU_of r f.1]
def rCntV (K : PySem.W.Frag) : V → List V → Hp → VK → Prop := fun x xs H Q => ∃ (p : Addr) (ys : List V) (y : V), x = .ref p ∧ xs = [y] ∧ SqL K H p ys ∧ flatV y = true ∧ ys.all flatV = true ∧ Q (.int ((ys.countP fun z => eqV z y) : Nat)) H
theorem mt_lcountV {X : Cx} : MtR X "list.count" (rCntV X.K) := by
  intro pins s σ H x xs v us Q I rx rxs h
  obtain ⟨p, ys, y, rfl, rfl, hs, fy, fys, q⟩ := h
  cases rx
  obtain ⟨uy, rfl, ry⟩ := rxs.one
  obtain ⟨its, rv, ⟨⟨cls, dd, data, sl⟩, n, ho, hc, hdn, hd⟩, hlen⟩ := I.list hs
  simp only at hc hd
  subst hc hd
  refine call_meets PySem.F.slot_list_count ⟨_, ho, rfl⟩ PySem.F.entry_list_count (PySem.F.args_list_count_2 _ _)
    (SeqAt.list_countAt p its.toArray n dd sl uy (eqU y)) ⟨ho, fun u' hu' => mem_eqAt ry fy rv fys u' (by simpa using hu'), ?_⟩
  have ec : its.toArray.toList.countP (eqU y) = ys.countP fun z => eqV z y := eqU_count rv fys
  refine ⟨.int ((ys.countP fun z => eqV z y) : Nat), H, I.tok _, ⟨s.toks, ?_⟩, q⟩
  show Value.int ((its.toArray.toList.countP (eqU y) : Nat) : Int) s.toks = Value.int (((ys.countP fun z => eqV z y) : Nat) : Int) s.toks
  rw [ec]
end L2
namespace Cn
open PySem PySem.Spec PyProof.Rows L2 Ck
/-! how a call is refused -/
def tIsE (K : PySem.W.Frag) (a D : Addr) (c : V) : TE := tCB (rIsP K a D none) (tCons (tVar 2) (tCons (tC c) tNil))
def tWordS (K : PySem.W.Frag) (a D CN CP : Addr) : TS := tSeq (tAsg (tLst (tCons (tIsE K a D (.ref CN)) (tCons (tIsE K a D (.ref CP)) tNil))) (gName 3)) (tSeq (tAsg (tC (.str "other")) (gName 1))
  (tIfS (tAnd (tTest (tOp rEq (tBM K "list" (rCntV K) (tVar 3) (tCons (tC (.bl true)) tNil)) (tC (.int 1)))) (tIsP K a D none 2 (.ty "ValueError")))
    (tAsg (tOp (rIxL K) (tLst (tCons (tC (.str "number")) (tCons (tC (.str "place")) tNil))) (tBM K "list" (rIndex K) (tVar 3) (tCons (tC (.bl true)) tNil))) (gName 1)) tNext))
def tsWord (K : PySem.W.Frag) (CN CP : Addr) : Addr → Value → Option Addr → TS := fun a cls d D σ H => ∃ z : Addr, ((z = CN ∨ z = CP) ∧ cls = .ref z ∧ d = none) ∧ tWordS K a z CN CP D σ H
def tBodyWord (f c' : Addr) (q : Str) (tl : XK → Hp → VK → Prop) (W : WX) : TS := fun D σ H => ∃ E : XK, (∀ cls d σ' H', E cls d H' → σ'.length = 4 → W cls d σ' H') ∧ σ[0]? = some (some (.ref f)) ∧ H c' = some (LamX.CodeO c' q) ∧ tl E H (fun _ H' => D.nx σ H')
/-- the word that a call's end makes -/
def TTw (CN CP : Addr) : (XK → Hp → VK → Prop) → Hp → VK → Prop := fun tl H Q =>
  tl (fun cls d H' => d = none ∧ ((cls = .ref CN ∧ ∀ H2, Same H' H2 → Q (.str "number") H2) ∨ (cls = .ref CP ∧ ∀ H2, Same H' H2 → Q (.str "place") H2))) H fun _ H' => ∃ v, (some (some (V.str "let")) : Option (Option V)) = some (some v) ∧ Q v H'
def nLWord : List Str := ["_law_call", "_law_word_here", "error", "_law_flags"]
theorem scLWord : FnScope nLWord ["_law_call"] (defScope sLWord) := ⟨rfl, rfl, rfl, by decide +kernel, rfl, by decide +kernel, by decide +kernel⟩
theorem kitNo {P : Program} {w : World} {K : PySem.W.Frag} {mg : Str → Option Value} {NE : Addr} {l : List (Str × Addr)} (T : ErrL P w K mg NE l) {x y : Str} {D D' : Addr} (h : (x, D) ∈ l) (h' : (y, D') ∈ l) (ne : x ≠ y) : PySem.W.kitOne K (.ref D) (.ref D') = some false := by
  have := T.kit h h'
  rw [decide_eq_false (fun e => ne (congrArg Prod.fst e))] at this
  exact this
theorem word_gives {X : Cx} {NE CN CP g : Addr} {cdg : Value} {l : List (Str × Addr)} {q : Str} (N : NamT X.mg) (mV : X.mg "ValueError" = none) (T : ErrL X.prog X.w X.K X.mg NE l) (hN : (("NoNumber" : Str), CN) ∈ l) (hP : (("NoPlace" : Str), CP) ∈ l) :
    LamX.GivesTo X nLWord "_law_word" (defScope sLWord) g cdg (defBody sLWord) "_law_call" q (TTw CN CP) := by
  intro f c' s H Q tl act hc h
  have nd := scLWord.nd
  have gN := (T.e _ hN).g
  have gP := (T.e _ hP).g
  refine ⟨_, pss_cons (ps_set (i := 1) nd rfl (Or.inl rfl) pe_str)
    (pss_cons (ps_try_as (i := 2) (tb := tBodyWord f c' q tl) (ts := tsWord X.K CN CP) (Wout := fun _ _ _ _ => False) rfl rfl nd rfl rfl ⟨rfl, by decide, Or.inl T.gNE⟩ LamX.takes0
      (fun W pn xe tk _ => psExZ fun E hE => pss_one (ps_expr (act _ pn xe E _ _ (takesLen tk) fun cls d σ' H' h l => hE cls d σ' H' h l)))
      (fun a oe cls d pn hz hf => psExZ fun z hz2 => ?suite))
    (pss_one (ps_ret (pv 1)))), ?_⟩
  case suite =>
    obtain ⟨hz1, rfl, rfl⟩ := hz2
    have ex : ExcC X.K z := by
      rcases hz1 with rfl | rfl
      · exact (T.e _ hN).ex
      · exact (T.e _ hP).ex
    exact pss_cons (ps_set (i := 3) nd rfl (Or.inl rfl) (pe_lst (pa_cons (pe_callB (call_isP ex List.mem_cons_self hz hf) (by rfl) N.is.inst (by decide +kernel) (pa_cons (pv 2) (pa_cons (pe_glob (v := .ref CN) (by rfl) gN rfl) pa_nil))) (pa_cons (pe_callB (call_isP ex List.mem_cons_self hz hf) (by rfl) N.is.inst (by decide +kernel) (pa_cons (pv 2) (pa_cons (pe_glob (v := .ref CP) (by rfl) gP rfl) pa_nil))) pa_nil))))
      (pss_cons (ps_set (i := 1) nd rfl (Or.inl rfl) pe_str)
      (pss_one (ps_if (PW.pt (pw_and (pt_cmpR op_eq (pe_bm PySem.F.plainAttrs_list PySem.F.slot_list_count PySem.F.type_list_count mt_lcountV (pv 3) (pa_cons pe_bl pa_nil)) pe_int (nomark _))
          (pw_and1 (pt_val (pe_callB (call_isP ex List.mem_cons_self hz hf) (by rfl) N.is.inst (by decide +kernel) (pa_cons (pv 2) (pa_cons (pe_bltn (v := .ty "ValueError") (by rfl) mV (by decide +kernel) rfl) pa_nil)))))))
        (pss_one (ps_set (i := 1) nd rfl (Or.inl rfl) (pe_ix ix_list (pe_lst (pa_cons pe_str (pa_cons pe_str pa_nil))) (pe_bm PySem.F.plainAttrs_list PySem.F.slot_list_index PySem.F.type_list_index mt_index (pv 3) (pa_cons pe_bl pa_nil)) (fun _ _ => rfl)))) pss_nil)))
  refine ⟨_, ?_, rfl, hc, h⟩
  rintro cls d σ' H' ⟨rfl, h⟩ hl
  match σ', hl with
  | [x0, x1, x2, x3], _ =>
    rcases h with ⟨rfl, k⟩ | ⟨rfl, k⟩
    · refine ⟨true, T.exm hN, fun _ a na => ⟨CN, ⟨.inl rfl, rfl, rfl⟩, ?_⟩, fun z => by cases z⟩
      refine ⟨_, rfl, _, _, true, rfl, .inl rfl, fun u z => z, kitSelf, _, rfl, _, _, false, rfl, .inl rfl, fun u z => z, kitNo T hN hP (by decide), by show 2 ≤ sizeLine; decide, fun L nL => ?_⟩
      have S1 := smUpd (o := .lst [.bl true, .bl false]) nL
      have hL : upd H' L (.lst [.bl true, .bl false]) L = some (.lst [.bl true, .bl false]) := upd_same
      generalize upd H' L (.lst [.bl true, .bl false]) = H2 at S1 hL ⊢
      refine ⟨_, rfl, .inl ⟨rfl, _, .inl (.inl hL)⟩, L, _, _, rfl, rfl, .inl (.inl hL), rfl, rfl, rfl, _, rfl, ?_⟩
      refine ifT rfl ?_
      refine ⟨_, rfl, _, _, true, rfl, .inl rfl, fun u z => z, T.kVE hN, true, rfl, ?_⟩
      refine ifT rfl ?_
      refine ⟨by show 2 ≤ sizeLine; decide, fun M nM => ?_⟩
      have S2 := smUpd (o := .lst [.str "number", .str "place"]) nM
      have hM : upd H2 M (.lst [.str "number", .str "place"]) M = some (.lst [.str "number", .str "place"]) := upd_same
      have hL2 := S2 _ _ hL
      generalize upd H2 M (.lst [.str "number", .str "place"]) = H3 at S2 hM hL2 ⊢
      refine ⟨_, rfl, .inl ⟨rfl, _, .inl (.inl hL2)⟩, L, _, _, 0, .bl true, rfl, rfl, .inl (.inl hL2), rfl, rfl, rfl, rfl, fun m z hm => absurd hm (Nat.not_lt_zero _), M, _, ((0 : Nat) : Int), .str "number", rfl, rfl, .inl (.inl hM), rfl, ?_⟩
      exact ⟨_, rfl, k _ (S1.trans S2)⟩
    · refine ⟨true, T.exm hP, fun _ a na => ⟨CP, ⟨.inr rfl, rfl, rfl⟩, ?_⟩, fun z => by cases z⟩
      refine ⟨_, rfl, _, _, false, rfl, .inl rfl, fun u z => z, kitNo T hP hN (by decide), _, rfl, _, _, true, rfl, .inl rfl, fun u z => z, kitSelf, by show 2 ≤ sizeLine; decide, fun L nL => ?_⟩
      have S1 := smUpd (o := .lst [.bl false, .bl true]) nL
      have hL : upd H' L (.lst [.bl false, .bl true]) L = some (.lst [.bl false, .bl true]) := upd_same
      generalize upd H' L (.lst [.bl false, .bl true]) = H2 at S1 hL ⊢
      refine ⟨_, rfl, .inl ⟨rfl, _, .inl (.inl hL)⟩, L, _, _, rfl, rfl, .inl (.inl hL), rfl, rfl, rfl, _, rfl, ?_⟩
      refine ifT rfl ?_
      refine ⟨_, rfl, _, _, true, rfl, .inl rfl, fun u z => z, T.kVE hP, true, rfl, ?_⟩
      refine ifT rfl ?_
      refine ⟨by show 2 ≤ sizeLine; decide, fun M nM => ?_⟩
      have S2 := smUpd (o := .lst [.str "number", .str "place"]) nM
      have hM : upd H2 M (.lst [.str "number", .str "place"]) M = some (.lst [.str "number", .str "place"]) := upd_same
      have hL2 := S2 _ _ hL
      generalize upd H2 M (.lst [.str "number", .str "place"]) = H3 at S2 hM hL2 ⊢
      refine ⟨_, rfl, .inl ⟨rfl, _, .inl (.inl hL2)⟩, L, _, _, 1, .bl true, rfl, rfl, .inl (.inl hL2), rfl, rfl, rfl, rfl, fun m z hm hz => ?_, M, _, ((1 : Nat) : Int), .str "place", rfl, rfl, .inl (.inl hM), rfl, ?_⟩
      · have em : m = 0 := by omega
        subst em
        cases hz; rfl
      exact ⟨_, rfl, k _ (S1.trans S2)⟩
end Cn
namespace Cn
open PySem PySem.Spec PyProof.Rows L2 Ck
/-! rows told and judged, and what is no number or place refused -/
theorem eqN {H : Hp} {a b : Addr} {ns : List Nat} (ha : TN H a ns) (hb : TN H b ns) (hl : ns.length ≤ 1000) : EqG H 1 (.ref a) (.ref b) :=
  .inr ⟨a, b, _, _, rfl, rfl, .inr ⟨ha, hb⟩, by rw [List.length_map]; omega, pairedSelf fun x hx => by
    obtain ⟨n, _, rfl⟩ := List.mem_map.mp hx
    exact ⟨rfl, .inl rfl⟩⟩
theorem eqP {H : Hp} {a b : Addr} {ps : List (Option Nat)} (ha : TP H a ps) (hb : TP H b ps) (hl : ps.length ≤ 1000) : EqG H 1 (.ref a) (.ref b) :=
  .inr ⟨a, b, _, _, rfl, rfl, .inr ⟨ha, hb⟩, by rw [List.length_map]; omega, pairedSelf fun x hx => by
    obtain ⟨n, _, rfl⟩ := List.mem_map.mp hx
    exact ⟨rfl, .inl (vp_flat n)⟩⟩
theorem eqTol {H : Hp} {t u : Addr} {f : Fo} (ok : FoOk f) (h : TolR H t f) (k : TolR H u f) : EqG H 2 (.ref t) (.ref u) := by
  obtain ⟨ap, ab, aa, h0, h1, h2, h3⟩ := h
  obtain ⟨bp, bb, ba, k0, k1, k2, k3⟩ := k
  have l1 := ok.l1
  have l2 := lotLen ok.be ok.bl
  have l3 := lotLen ok.as ok.al
  exact .inr ⟨t, u, _, _, rfl, rfl, .inr ⟨h0, k0⟩, by show 3 ≤ 4000; decide, .cons (eqP h1 k1 (by omega)) (.cons (eqN h2 k2 (by omega)) (.cons (eqN h3 k3 (by omega)) .nil))⟩
/-- three things as data -/
def dTol (f : Fo) : PyData := .tuple [.tuple (dPar f.ps), .tuple (dn f.be), .tuple (dn f.as)]
theorem dpTol {K : PySem.W.Frag} {H : Hp} {t : Addr} {f : Fo} (h : TolR H t f) : L2.Dp K H (.ref t) (dTol f) := by
  obtain ⟨ap, ab, aa, h0, h1, h2, h3⟩ := h
  exact .tup (.inl (.inl h0)) (.cons (.tup (tpL h1) (dpPar _)) (.cons (.tup (tnL h2) (dpN _)) (.cons (.tup (tnL h3) (dpN _)) .nil)))
theorem dTolSh (f : Fo) : SeqAt.shaped (dTol f) = true := by
  show ((PyData.canLayAll0 (dPar f.ps) && (PyData.canLayAll0 (dn f.be) && (PyData.canLayAll0 (dn f.as) && true))) && decide (max (PyData.depthAll (dPar f.ps) + 1) (max (PyData.depthAll (dn f.be) + 1) (max (PyData.depthAll (dn f.as) + 1) 0)) + 1 ≤ 64)) = true
  rw [dParLay, dParDepth, dnLay, dnDepth, dnLay, dnDepth]; rfl
theorem dTolEq (f g : Fo) : PyData.eqv (dTol f) (dTol g) = foB f g := by
  have e : PyData.eqv (dTol f) (dTol g) = (PyData.eqv (.tuple (dPar f.ps)) (.tuple (dPar g.ps)) && (PyData.eqv (.tuple (dn f.be)) (.tuple (dn g.be)) && (PyData.eqv (.tuple (dn f.as)) (.tuple (dn g.as)) && true))) := by
    unfold dTol
    rw [PyData.eqv, PyData.eqvAll, PyData.eqvAll, PyData.eqvAll, PyData.eqvAll]
  rw [e, dParEqD, dnEqD, dnEqD, Bool.and_true]; rfl
theorem foKept {C : Addr} {H H' : Hp} {p c a : Addr} {cells : List Int} {f : Fo} (hI : HandIn H p c cells) (k : Kept p H H') (h : FoAt C H a f) : FoAt C H' a f := by
  obtain ⟨dx, ap, ab, aa, h0, h1, h2, h3⟩ := h
  obtain ⟨_, _, _, _, hp, _⟩ := hI.ob
  exact ⟨dx, ap, ab, aa, k _ _ (fun z => by rw [z, hp] at h0; cases h0) h0, k _ _ (tup_ne hI h1) h1, k _ _ (tup_ne hI h2) h2, k _ _ (tup_ne hI h3) h3⟩
/-! all but the tables stays -/
theorem handExt {H H' : Hp} {p c : Addr} {cells : List Int} (h : HandIn H p c cells) (k : LamX.ExtN H H') : HandIn H' p c cells := by
  obtain ⟨⟨i, g, m, t, hp, hi⟩, hc, ne⟩ := h
  exact ⟨⟨i, g, m, t, k _ _ hp (fun ps z => by cases z), hi⟩, k _ _ hc (fun ps z => by cases z), ne⟩
theorem foExt {C : Addr} {H H' : Hp} {a : Addr} {f : Fo} (k : LamX.ExtN H H') (h : FoAt C H a f) : FoAt C H' a f := by
  obtain ⟨dx, ap, ab, aa, h0, h1, h2, h3⟩ := h
  exact ⟨dx, ap, ab, aa, k _ _ h0 (fun ps z => by cases z), k _ _ h1 (fun ps z => by cases z), k _ _ h2 (fun ps z => by cases z), k _ _ h3 (fun ps z => by cases z)⟩
theorem elExt {H H' : Hp} {x : V} (k : LamX.ExtN H H') (h : El H x) : El H' x := by
  rcases h with h | h | h | h | ⟨a, e, ⟨xs, h⟩ | ⟨xs, h⟩ | ⟨kvs, h⟩⟩
  · exact .inl h
  · exact .inr (.inl h)
  · exact .inr (.inr (.inl h))
  · exact .inr (.inr (.inr (.inl h)))
  · exact .inr (.inr (.inr (.inr ⟨a, e, .inl ⟨xs, k _ _ h (fun ps z => by cases z)⟩⟩)))
  · exact .inr (.inr (.inr (.inr ⟨a, e, .inr (.inl ⟨xs, k _ _ h (fun ps z => by cases z)⟩)⟩)))
  · exact .inr (.inr (.inr (.inr ⟨a, e, .inr (.inr ⟨kvs, k _ _ h (fun ps z => by cases z)⟩)⟩)))
theorem tabsHand {T : List (Addr × Str)} {H H' : Hp} {p c : Addr} {cells : List Int} (hI : HandIn H p c cells) (k : Kept p H H') (t : LamX.Tabs T H) : LamX.Tabs T H' := by
  obtain ⟨_, _, _, _, hp, _⟩ := hI.ob
  exact tabsKept k ⟨_, hp⟩ t
section
variable {P : Program} {w : World} {K : PySem.W.Frag} {mg : Str → Option Value} {base : Heap} {C NE CN CP : Addr} {l : List (Str × Addr)}
/-- the code objects of the def's lambdas -/
def lamQ : Str := ("_law_rows_right" : Str) ++ ".<locals>." ++ "<lambda>"
def spRowsR (T : List (Addr × Str)) : Sp := fun vs H Q _ => ∃ (p c : Addr) (cells : List Int), vs = [.ref p] ∧ HandIn H p c cells ∧ LamX.Tabs T H ∧ ∀ H', Q (.bl true) H'
def nRowsR : List Str := ["_law_hand_here", "_law_many", "_law_told_here", "_law_made_here", "_law_other", "_law_odd_here", "_law_wrong", "_law_place", "_law_due_here"]
theorem scRowsR : FnScope nRowsR ["_law_hand_here"] (defScope sRowsR) := ⟨rfl, rfl, rfl, by decide +kernel, rfl, by decide +kernel, by decide +kernel⟩
theorem dRowsR (B : Defs K mg C) (T : ErrL P w K mg NE l) (hN : (("NoNumber" : Str), CN) ∈ l) (hP : (("NoPlace" : Str), CP) ∈ l) {cR PR : Addr} (L : TabOf K mg base "_law_rows_right" cR PR) : ∃ f fd, FnOk P w K mg base CX0 9 f fd ["_law_hand_here"] (spRowsR [(PR, lamQ)]) ∧ mg "_law_rows_right" = some (.ref f) ∧ PySem.W.keepIn K (.ref f) = true ∧ Binds K fd ["_law_hand_here"] [] := by
  obtain ⟨fD, fdD, GD, gD, kD, bD⟩ := dDraw (P := P) (w := w) (base := base) B
  obtain ⟨fLR, fdLR, GLR, gLR, kLR, bLR⟩ := dLRow (P := P) (w := w) (base := base) B
  obtain ⟨fR, fdR, GR, gR, kR, bR⟩ := dRow (P := P) (w := w) (base := base) B
  obtain ⟨fIR, fdIR, GIR, gIR, kIR, bIR⟩ := dIsRowX (P := P) (w := w) (base := base) B
  obtain ⟨fM, fdM, GM, gM, kM, bM⟩ := dMade (P := P) (w := w) (base := base) B
  obtain ⟨fTo, fdTo, GTo, gTo, kTo, bTo⟩ := dTold (P := P) (w := w) (base := base) B
  obtain ⟨fFl, fdFl, GFl, gFl, kFl, bFl⟩ := dFlag (P := P) (w := w) (base := base) B
  obtain ⟨fSo, fdSo, GSo, gSo, kSo, bSo⟩ := dSome (P := P) (w := w) (base := base) B
  obtain ⟨fO, fdO, GO, gO, kO, bO⟩ := dLOdd (P := P) (w := w) (base := base) B
  obtain ⟨fDe, fdDe, GDe, gDe, kDe, bDe⟩ := dDeep (P := P) (w := w) (base := base) B
  obtain ⟨fII, fdII, GII, gII, kII, bII⟩ := dLIsIntX (P := P) (w := w) (base := base) B
  obtain ⟨fRX, fdRX, GRX, gRX, kRX, bRX⟩ := dRowX (P := P) (w := w) (base := base) B T hN
  obtain ⟨fWX, fdWX, GWX, gWX, kWX, bWX⟩ := dWayX (P := P) (w := w) (base := base) B T hP
  obtain ⟨fUX, fdUX, GUX, gUX, kUX, bUX⟩ := dUnderX (P := P) (w := w) (base := base) B T hP
  obtain ⟨fI, fdI, DI⟩ := B.is
  have GI := ok_is (P := P) (w := w) (base := base) DI.F B.N.is DI.g DI.b 3
  obtain ⟨fW, fdW, DW⟩ := B.lwd
  obtain ⟨ocW, odW, kVW, docW, pmW, anW, cdW, ctW, oslW, rfl, lkW, hcW⟩ := DW.F.ex
  have N := B.N
  have TF := B.T
  have mV := B.zValueerror
  have nd := scRowsR.nd
  obtain ⟨f, fd, D⟩ := B.rrt
  refine ⟨f, fd, okTab D L scRowsR (fun vs H Q E h => ?_) (fun A outer s H vs Q E hr h => ?_), D.g, D.F.kp, D.b⟩
  · obtain ⟨p, c, cells, rfl, _⟩ := h
    rfl
  · obtain ⟨p, c, cells, rfl, hI, hT, k⟩ := h
    have r1 : Room 1 (A.deeper (envOfC "_law_rows_right" (defScope sRowsR) s.heap.objs.size f (.ref cR))) := Room.mono hr (by decide)
    have r2 : Room 2 (A.deeper (envOfC "_law_rows_right" (defScope sRowsR) s.heap.objs.size f (.ref cR))) := Room.mono hr (by decide)
    have r3 : Room 3 (A.deeper (envOfC "_law_rows_right" (defScope sRowsR) s.heap.objs.size f (.ref cR))) := Room.mono hr (by decide)
    have r5 : Room 5 (A.deeper (envOfC "_law_rows_right" (defScope sRowsR) s.heap.objs.size f (.ref cR))) := Room.mono hr (by decide)
    have r6 : Room 6 (A.deeper (envOfC "_law_rows_right" (defScope sRowsR) s.heap.objs.size f (.ref cR))) := Room.mono hr (by decide)
    have r7 : Room 7 (A.deeper (envOfC "_law_rows_right" (defScope sRowsR) s.heap.objs.size f (.ref cR))) := Room.mono hr (by decide)
    refine ⟨_, pss_cons (ps_set (i := 1) nd rfl (Or.inl rfl) (pe_ix ix_list (pe_lst (pa_cons (pe_op op_add pe_int (pe_call GD r1 (by rfl) gD kD bD .nil pass0 (pa_cons (pv 0) (pa_cons pe_int pa_nil)))) (pa_cons pe_int pa_nil))) (pe_callTy call_int1 (by rfl) N.int (by decide +kernel) (pa_cons (pe_cmpR op_eq (pe_call GD r1 (by rfl) gD kD bD .nil pass0 (pa_cons (pv 0) (pa_cons pe_int pa_nil))) pe_int (nomark _)) pa_nil)) (fun _ _ => rfl)))
      (pss_cons (ps_set (i := 2) nd rfl (Or.inl rfl) (pe_call GLR r1 (by rfl) gLR kLR bLR .nil pass0 (pa_cons (pv 1) pa_nil)))
      (pss_cons (ps_set (i := 3) nd rfl (Or.inr rfl) (pe_call GR r6 (by rfl) gR kR bR .nil pass0 (pa_cons (pv 1) pa_nil)))
      (pss_cons (ps_if (PW.pt (pw_or (pt_not (pt_val (pe_call GI r5 (by rfl) DI.g DI.F.kp DI.b .nil pass0 (pa_cons (pe_tup (pa_cons (pe_fld (pv 3) rfl) (pa_cons (pe_fld (pv 3) rfl) (pa_cons (pe_fld (pv 3) rfl) pa_nil)))) (pa_cons (pv 2) pa_nil)))))
          (pw_or1 (pt_cmpR op_isnot_bl (pe_call GIR r7 (by rfl) gIR kIR bIR .nil pass0 (pa_cons (pe_call GM r6 (by rfl) gM kM bM .nil pass0 (pa_cons (pv 2) pa_nil)) pa_nil)) pe_bl (nomark _))))) (pss_one ps_never) pss_nil)
      (psMid (ps_set (i := 4) nd rfl (Or.inl rfl) (pe_ifExp (pt_cmpR op_eq (pe_call GD r1 (by rfl) gD kD bD .nil pass0 (pa_cons (pv 0) (pa_cons pe_int pa_nil))) pe_int (nomark _)) (pe_tup (pa_cons (pe_ix ix_tup (pv 2) pe_int (fun _ _ => rfl)) (pa_cons (pe_slice sl_tupA (pe_ix ix_tup (pv 2) pe_int (fun _ _ => rfl)) po_none (po_some (pe_un un_neg pe_int))) (pa_cons (pe_ix ix_tup (pv 2) pe_int (fun _ _ => rfl)) pa_nil))))
          (pe_call GTo r3 (by rfl) gTo kTo bTo .nil pass0 (pa_cons (pv 0) (pa_cons pe_int pa_nil)))))
      (pss_cons (ps_if (pt_not (pt_val (pe_call GFl r1 (by rfl) gFl kFl bFl .nil pass0 (pa_cons (pe_call GIR r7 (by rfl) gIR kIR bIR .nil pass0 (pa_cons (pe_call GM r6 (by rfl) gM kM bM .nil pass0 (pa_cons (pv 4) pa_nil)) pa_nil)) (pa_cons (pe_cmpR (op_eqD hr.units) (pv 4) (pe_call GLR r1 (by rfl) gLR kLR bLR .nil pass0 (pa_cons (pe_callB call_len_seq (by rfl) N.is.len PySem.boot_len (pa_cons (pe_ix ix_tup (pv 4) pe_int (fun _ _ => rfl)) pa_nil)) pa_nil)) (nomark _)) pa_nil))))) (pss_one ps_never) pss_nil)
      (pss_cons (ps_set (i := 5) nd rfl (Or.inl rfl) (pe_call GSo r2 (by rfl) gSo kSo bSo .nil pass0 (pa_cons (pv 0) (pa_cons (pe_lst (pa_cons (pv 3) (pa_cons (pv 2) (pa_cons pe_non (pa_cons (pv 1) (pa_cons pe_str (pa_cons (pe_call GO r3 (by rfl) gO kO bO .nil pass0 (pa_cons (pv 0) pa_nil)) pa_nil))))))) pa_nil))))
      (psMid (ps_if (pt_not (pt_val (pe_call GFl r1 (by rfl) gFl kFl bFl .nil pass0 (pa_cons (pe_call GIR r7 (by rfl) gIR kIR bIR .nil pass0 (pa_cons (pv 5) pa_nil)) (pa_cons (pe_callB call_isi (by rfl) N.is.inst (by decide +kernel) (pa_cons (pv 5) (pa_cons (pe_glob (v := .ref C) (by rfl) TF.mgC rfl) pa_nil))) pa_nil))))) (pss_one ps_never) pss_nil)
      (pss_cons (ps_set (i := 6) nd rfl (Or.inr rfl) (pe_call GSo r2 (by rfl) gSo kSo bSo .nil pass0 (pa_cons (pv 0) (pa_cons (pe_lst (pa_cons pe_int (pa_cons pe_int (pa_cons (pe_un un_neg pe_int) (pa_cons pe_bl (pa_cons pe_non (pa_cons pe_str (pa_cons (pe_tup (pa_cons pe_int pa_nil)) (pa_cons (pe_op op_pow pe_int pe_int) (pa_cons (pe_call GDe r2 (by rfl) gDe kDe bDe .nil pass0 (pa_cons (pv 0) pa_nil)) (pa_cons (pv 3) pa_nil))))))))))) pa_nil))))
      (pss_cons (ps_if (pt_cmpR op_ne (LamX.pe_lamcall (T := [(PR, lamQ)]) (k := 6) (by rfl) DW.g DW.F.kp lkW hcW DW.b scLWord rfl (Or.inl rfl) (word_gives N mV T hN hP) L.tab rfl List.mem_cons_self (fun p hp _ => by rw [List.mem_singleton.mp hp]; rfl) hr (LamX.lamS_by (by rfl)) rfl (fun _ _ _ _ _ => by rfl)
          (fun A' outer' s' H' E' f' c' hr' => pe_call (fnC GRX) hr' (by rfl) gRX kRX bRX .nil (L2.passes_call (L2.takes_of rfl rfl rfl rfl) fun _ _ _ _ h => h) (pa_cons (pv 6) pa_nil))) pe_str (nomark _)) (pss_one ps_never) pss_nil)
      (pss_cons (ps_set (i := 7) nd rfl (Or.inr rfl) (pe_call GSo r2 (by rfl) gSo kSo bSo .nil pass0 (pa_cons (pv 0) (pa_cons (pe_lst (pa_cons (pv 1) (pa_cons (pe_un un_neg pe_int) (pa_cons pe_bl (pa_cons pe_non (pa_cons pe_str (pa_cons (pe_tup (pa_cons pe_int pa_nil)) (pa_cons (pe_op op_pow pe_int pe_int) (pa_cons (pe_call GDe r2 (by rfl) gDe kDe bDe .nil pass0 (pa_cons (pv 0) pa_nil)) (pa_cons pe_int (pa_cons (pe_op op_sub (pv 1) pe_int) pa_nil))))))))))) pa_nil))))
      (pss_cons (ps_set (i := 8) nd rfl (Or.inl rfl) (pe_ifExp (pt_val (pe_call GII r1 (by rfl) gII kII bII .nil pass0 (pa_cons (pv 7) (pa_cons pe_int (pa_cons (pe_op op_sub (pv 1) pe_int) pa_nil))))) pe_str pe_str))
      (pss_cons (ps_if (pt_cmpR op_ne (LamX.pe_lamcall (T := [(PR, lamQ)]) (k := 6) (by rfl) DW.g DW.F.kp lkW hcW DW.b scLWord rfl (Or.inl rfl) (word_gives N mV T hN hP) L.tab rfl List.mem_cons_self (fun p hp _ => by rw [List.mem_singleton.mp hp]; rfl) hr (LamX.lamS_by (by rfl)) rfl (fun _ _ _ _ _ => by rfl)
          (fun A' outer' s' H' E' f' c' hr' => pe_call (fnC GWX) (hr'.mono (by decide)) (by rfl) gWX kWX bWX .nil (L2.passes_call (L2.takes_of rfl rfl rfl rfl) fun _ _ _ _ h => h) (pa_cons (pv 3) (pa_cons (pv 7) pa_nil)))) (pv 8) (nomark _)) (pss_one ps_never) pss_nil)
      (pss_one (ps_ret (pe_cmpR op_eq (LamX.pe_lamcall (T := [(PR, lamQ)]) (k := 6) (by rfl) DW.g DW.F.kp lkW hcW DW.b scLWord rfl (Or.inl rfl) (word_gives N mV T hN hP) L.tab rfl List.mem_cons_self (fun p hp _ => by rw [List.mem_singleton.mp hp]; rfl) hr (LamX.lamS_by (by rfl)) rfl (fun _ _ _ _ _ => by rfl)
          (fun A' outer' s' H' E' f' c' hr' => pe_call (fnC GUX) (hr'.mono (by decide)) (by rfl) gUX kUX bUX .nil (L2.passes_call (L2.takes_of rfl rfl rfl rfl) fun _ _ _ _ h => h) (pa_cons (pv 3) (pa_cons (pv 7) pa_nil)))) (pv 8) (nomark _)))))))))))))))), ?_⟩
    refine ⟨_, rfl, p, c, cells, 8, rfl, hI, by decide, by decide, fun d a1 a2 a3 a4 d0 d1 a10 => ⟨_, _, rfl, rfl, by show 2 ≤ sizeLine; decide, fun M nM => ?_⟩⟩
    obtain ⟨m, rfl⟩ := Int.eq_ofNat_of_zero_le d0
    have k1 := kept_hand (p := p) (H := H) (o := handL c a1 a2 a3 a4)
    have hI1 := handIn_upd (i := a1) (g := a2) (m := a3) (t := a4) hI a10
    have hT1 := tabsHand hI k1 hT
    generalize upd H p (handL c a1 a2 a3 a4) = H1 at k1 hI1 hT1 nM ⊢
    have S2 := smUpd (o := .lst [.int (1 + (m : Int)), .int 60]) nM
    have hM2 : upd H1 M (.lst [.int (1 + (m : Int)), .int 60]) M = some (.lst [.int (1 + (m : Int)), .int 60]) := upd_same
    have nMp := hand_ne hI1 nM
    have hI2 := handIn_keep hI1 S2
    have hT2 := hT1.ext S2
    generalize upd H1 M (.lst [.int (1 + (m : Int)), .int 60]) = H2 at hI2 hT2 hM2 ⊢
    refine ⟨_, rfl, p, c, cells, 8, rfl, hI2, by decide, by decide, fun e b1 b2 b3 b4 e0 e1 b10 => ⟨rfl, .inr ⟨_, rfl, ?_⟩⟩⟩
    have k3 := kept_hand (p := p) (H := H2) (o := handL c b1 b2 b3 b4)
    have hI3 := handIn_upd (i := b1) (g := b2) (m := b3) (t := b4) hI2 b10
    have hT3 := tabsHand hI2 k3 hT2
    have hM3 := k3 _ _ nMp hM2
    generalize upd H2 p (handL c b1 b2 b3 b4) = H3 at hI3 hT3 hM3 ⊢
    obtain ⟨n, hn, n1, n60⟩ : ∃ n : Nat, atI [V.int (1 + (m : Int)), V.int 60] (if decide (V.int e = V.int 0) = true then 1 else 0) = some (vn n) ∧ 1 ≤ n ∧ n ≤ 60 := by
      by_cases c0 : decide (V.int e = V.int 0) = true
      · rw [if_pos c0]; exact ⟨60, rfl, by decide, by decide⟩
      · rw [if_neg c0]
        refine ⟨1 + m, ?_, by omega, by omega⟩
        show some (V.int (1 + (m : Int))) = some (V.int ((1 + m : Nat) : Int))
        rw [show (1 + (m : Int)) = ((1 + m : Nat) : Int) by omega]
    refine ⟨M, _, _, _, rfl, rfl, .inl (.inl hM3), hn, ?_⟩
    clear hM3 hM2 nMp k3 k1
    have okR := rowF_ok n1 n60
    have eR : foB (rowF n) (rowF (rowF n).ps.length) = true := by
      rw [show (rowF n).ps.length = n from rowP_len n1]
      unfold foB
      rw [decide_eq_true rfl, decide_eq_true rfl, decide_eq_true rfl]; rfl
    refine ⟨_, rfl, n, rfl, n1, n60, fun t ta tb H4 s4 ht hta htb => ?_⟩
    refine ⟨_, rfl, n, rfl, n1, n60, fun mA H5 s5 hm => ?_⟩
    have tol5 : TolR H5 t (rowF n) := tolSame s5 ⟨ta, tb, tb, ht, hta, htb, htb⟩
    have hI5 := handIn_keep hI3 (s4.trans s5)
    have hT5 := hT3.ext (s4.trans s5)
    clear hI3 hT3 ht hta htb s4 s5
    obtain ⟨dx, ap, ab, aa, g0, g1, g2, g3⟩ := id hm
    refine ⟨_, rfl, mA, C, dx, _, _, rfl, g0, TF.cl, TF.nP, fP, _, rfl, mA, C, dx, _, _, rfl, g0, TF.cl, TF.nB, fB, _, rfl, mA, C, dx, _, _, rfl, g0, TF.cl, TF.nA, fA, by show 3 ≤ sizeLine; decide, fun u nu => ?_⟩
    have s6 := smUpd (o := .tup [.ref ap, .ref ab, .ref aa]) nu
    refine ⟨_, rfl, .ref u, .ref t, rfl, eqTol okR ⟨ap, ab, aa, upd_same, s6 _ _ g1, s6 _ _ g2, s6 _ _ g3⟩ (tolSame s6 tol5), fun H7 s7 => ⟨true, rfl, ?_⟩⟩
    refine ifF (by decide) ?_
    have s57 := s6.trans s7
    refine ⟨_, rfl, t, rowF n, rfl, tolSame s57 tol5, okR, fun q H8 s8 hq => ?_⟩
    refine ⟨.ref q, rfl, .inr ⟨q, rowF n, rfl, hq, okR, fun H9 s9 => ?_⟩⟩
    rw [eR]
    refine ⟨_, _, rfl, rfl, _, rfl, ?_⟩
    refine ifF (by decide) ?_
    have s59 := s57.trans (s8.trans s9)
    have hI9 := handIn_keep hI5 s59
    have hT9 := hT5.ext s59
    have tol9 := tolSame s59 tol5
    have hm9 := foAt_same s59 hm
    clear hI5 hT5 s59 s57 s9 s8 s7 s6 hq g0 g1 g2 g3 tol5 hm
    refine ⟨fun σ' G => ∃ (o : Addr) (fo : Fo), σ' = [some (.ref p), some (vn n), some (.ref t), some (.ref mA), some (.ref o), none, none, none, none] ∧ FoOk fo ∧ TolR G o fo ∧ HandIn G p c cells ∧ LamX.Tabs [(PR, lamQ)] G ∧ FoAt C G mA (rowF n) ∧ TolR G t (rowF n), ?_, ?_⟩
    · refine ⟨_, rfl, p, c, cells, 2, rfl, hI9, by decide, by decide, fun e b1 b2 b3 b4 e0 e1 b10 => ⟨rfl, _, rfl, ?_⟩⟩
      have k10 := kept_hand (p := p) (H := H9) (o := handL c b1 b2 b3 b4)
      have hI10 := handIn_upd (i := b1) (g := b2) (m := b3) (t := b4) hI9 b10
      have hT10 := tabsHand hI9 k10 hT9
      have tol10 := tolKept hI9 k10 tol9
      have hm10 := foKept hI9 k10 hm9
      generalize upd H9 p (handL c b1 b2 b3 b4) = H10 at hI10 hT10 tol10 hm10 ⊢
      by_cases c0 : decide (V.int e = V.int 0) = true
      · refine ifT c0 ?_
        obtain ⟨ap, ab, aa, h0, h1, h2, h3⟩ := id tol10
        refine ⟨_, rfl, t, _, (0 : Int), _, rfl, rfl, .inl (.inl h0), rfl, _, rfl, t, _, (1 : Int), _, rfl, rfl, .inl (.inl h0), rfl, _, rfl, _, rfl, ?_⟩
        refine slA h2 fun r H11 s11 hr11 => ?_
        have eu : cutV ((List.range n).map vn) none (some (-1)) = (List.range (n - 1)).map vn := by
          obtain ⟨m, rfl⟩ : ∃ m, n = m + 1 := ⟨n - 1, by omega⟩
          rw [List.range_succ, List.map_append]
          exact cutInit2 _ _
        have hr2 : H11 r = some (.tup ((List.range (n - 1)).map vn)) := by rw [← eu]; exact hr11
        refine ⟨_, rfl, t, _, (2 : Int), _, rfl, rfl, .inl (.inl (s11 _ _ h0)), rfl, by show 3 ≤ sizeLine; decide, fun o no => ?_⟩
        have s12 := smUpd (o := .tup [.ref ap, .ref r, .ref aa]) no
        have s1 := s11.trans s12
        refine ⟨o, ⟨rowP n, List.range (n - 1), List.range n⟩, rfl, ⟨okR.ps, okR.l0, okR.l1, List.pairwise_lt_range, fun x hx => ?_, okR.as, okR.al⟩, ⟨ap, r, aa, upd_same, s1 _ _ h1, s12 _ _ hr2, s1 _ _ h3⟩, handIn_keep hI10 s1, hT10.ext s1, foAt_same s1 hm10, tolSame s1 tol10⟩
        have := List.mem_range.mp hx
        show x < (rowP n).length
        rw [rowP_len n1]; omega
      · refine ifF c0 ?_
        refine ⟨_, rfl, p, c, cells, 4, rfl, hI10, by decide, by decide, fun o fo H11 ok _ hI11 k11 tol11 => ?_⟩
        exact ⟨o, fo, rfl, ok, tol11, hI11, tabsHand hI10 k11 hT10, foKept hI10 k11 hm10, tolKept hI10 k11 tol10⟩
    rintro σ2 H2' ⟨o, fo, rfl, ok, tolo, hI10, hT10, hm10, tol10⟩
    clear hI9 hT9 tol9 hm9
    obtain ⟨ap, ab, aa, h0, h1, h2, h3⟩ := id tolo
    refine ⟨_, rfl, o, fo, rfl, tolo, ok, fun q H1 s1 hq => ⟨.ref q, rfl, .inr ⟨q, fo, rfl, hq, ok, fun H2 s2 => ?_⟩⟩⟩
    have s12 := s1.trans s2
    refine ⟨_, rfl, _, rfl, o, _, (0 : Int), _, rfl, rfl, .inl (.inl (s12 _ _ h0)), rfl, ap, _, rfl, .inr (tpL (s12 _ _ h1)), fo.ps.length, congrArg (fun z : Nat => [vn z]) (List.length_map _), ok.l0, ok.l1, fun t2 ta tb H3 s3 ht2 hta htb => ?_⟩
    have s13 := s12.trans s3
    refine ⟨_, _, dpTol (tolSame s13 tolo), dpTol (f := rowF fo.ps.length) ⟨ta, tb, tb, ht2, hta, htb, htb⟩, dTolSh _, dTolSh _, ?_⟩
    rw [dTolEq]
    refine ⟨_, rfl, true, rfl, ?_⟩
    refine ifF (by decide) ?_
    have hI11 := handIn_keep hI10 s13
    have hT11 := hT10.ext s13
    have hm11 := foAt_same s13 hm10
    have tol11 := tolSame s13 tol10
    clear hI10 hT10 hm10 tol10 s13 s12 s1 s2 s3 hq h0 h1 h2 h3 tolo ht2 hta htb
    -- an odd thing
    refine ⟨_, rfl, _, rfl, _, rfl, _, rfl, _, rfl, p, c, cells, rfl, hI11, fun ov H12 tov hI12 k12 => ⟨by show 6 ≤ sizeLine; decide, fun L nL => ?_⟩⟩
    refine ⟨p, c, L, cells, _, rfl, handIn_keep hI12 (smUpd nL), hand_ne hI12 nL, upd_same, (by show 0 < 6; decide), (by show 6 ≤ 1000000; decide), fun i v H13 hv hI13 k13 _ => ?_⟩
    have k1113 := kept_trans k12 (kept_trans (kept_same (p := p) (smUpd nL)) k13)
    have hT13 := tabsHand hI11 k1113 hT11
    have hm13 := foKept hI11 k1113 hm11
    have tol13 := tolKept hI11 k1113 tol11
    have hvc : El H13 v ∨ v = .ref mA := by
      have hmm := List.mem_of_getElem? hv
      simp only [List.mem_cons, List.not_mem_nil, or_false] at hmm
      rcases hmm with rfl | rfl | rfl | rfl | rfl | rfl
      · exact .inr rfl
      · obtain ⟨ap, ab, aa, h0, _⟩ := tol13
        exact .inl (.inr (.inr (.inr (.inr ⟨_, rfl, .inr (.inl ⟨_, h0⟩)⟩))))
      · exact .inl (.inr (.inr (.inl rfl)))
      · exact .inl (.inl ⟨_, rfl⟩)
      · exact .inl (.inr (.inr (.inr (.inl ⟨_, rfl⟩))))
      · exact .inl (tov.kept (kept_trans (kept_same (smUpd nL)) k13)).el.1
    clear k1113 k13 k12 hI12 hI11 hT11 hm11 tol11 tov hv
    refine ⟨fun σ' G => ∃ (x4 x5 : V), σ' = [some (.ref p), some (vn n), some (.ref t), some (.ref mA), some x4, some x5, none, none, none] ∧ HandIn G p c cells ∧ LamX.Tabs [(PR, lamQ)] G ∧ FoAt C G mA (rowF n), ?_, ?_⟩
    · rcases hvc with hel | rfl
      · refine ⟨_, rfl, v, rfl, .inl ⟨hel, fun H2 s2 => ?_⟩⟩
        obtain ⟨Ty, ty, hTy⟩ := (hel.same s2).odd B
        refine ⟨_, rfl, _, .ref C, _, _, false, rfl, .own C, ty, hTy.2, false, rfl, true, rfl, ?_⟩
        refine ifF (by decide) ?_
        exact ⟨_, _, rfl, handIn_keep hI13 s2, hT13.ext s2, foAt_same s2 hm13⟩
      · refine ⟨_, rfl, .ref mA, rfl, .inr ⟨mA, rowF n, rfl, hm13, okR, fun H2 s2 => ?_⟩⟩
        rw [eR]
        refine ⟨_, rfl, _, .ref C, _, _, true, rfl, .own C, foTy B (foAt_same s2 hm13), kitSelf, true, rfl, true, rfl, ?_⟩
        refine ifF (by decide) ?_
        exact ⟨_, _, rfl, handIn_keep hI13 s2, hT13.ext s2, foAt_same s2 hm13⟩
    rintro σ3 H3' ⟨x4, x5, rfl, hI1, hT1, hm1⟩
    clear hI13 hT13 hm13 tol13 hvc
    -- what is no number of places
    refine ⟨_, rfl, _, rfl, by show 1 ≤ sizeLine; decide, fun u nu => ?_⟩
    have s2 := smUpd (o := .tup [.int 3]) nu
    have hu : upd H3' u (.tup [.int 3]) u = some (.tup [.int 3]) := upd_same
    have nup := hand_ne hI1 nu
    generalize upd H3' u (.tup [.int 3]) = H2 at s2 hu ⊢
    have hI2 := handIn_keep hI1 s2
    have hT2 := hT1.ext s2
    have hm2 := foAt_same s2 hm1
    refine ⟨_, _, rfl, rfl, ⟨by decide, by decide, by decide⟩, _, rfl, p, c, cells, rfl, hI2, fun dv H4 tdv ldv hI4 k4 => ⟨_, rfl, by show 10 ≤ sizeLine; decide, fun L nL => ?_⟩⟩
    refine ⟨p, c, L, cells, _, rfl, handIn_keep hI4 (smUpd nL), hand_ne hI4 nL, upd_same, (by show 0 < 10; decide), (by show 10 ≤ 1000000; decide), fun i v H5 hv hI5 k5 _ => ?_⟩
    have k25 := kept_trans k4 (kept_trans (kept_same (p := p) (smUpd nL)) k5)
    have hT5 := tabsHand hI2 k25 hT2
    have hm5 := foKept hI2 k25 hm2
    have hu5 := k25 _ _ nup hu
    have hvc : (El H5 v ∧ elBtw 1 60 v = false) ∨ ∃ a f, v = .ref a ∧ FoAt C H5 a f := by
      have hmm := List.mem_of_getElem? hv
      simp only [List.mem_cons, List.not_mem_nil, or_false] at hmm
      rcases hmm with rfl | rfl | rfl | rfl | rfl | rfl | rfl | rfl | rfl | rfl
      · exact .inl ⟨.inl ⟨_, rfl⟩, by decide⟩
      · exact .inl ⟨.inl ⟨_, rfl⟩, by decide⟩
      · exact .inl ⟨.inl ⟨_, rfl⟩, by decide⟩
      · exact .inl ⟨.inr (.inl ⟨_, rfl⟩), rfl⟩
      · exact .inl ⟨.inr (.inr (.inl rfl)), rfl⟩
      · exact .inl ⟨.inr (.inr (.inr (.inl ⟨_, rfl⟩))), rfl⟩
      · exact .inl ⟨.inr (.inr (.inr (.inr ⟨u, rfl, .inr (.inl ⟨_, hu5⟩)⟩))), rfl⟩
      · exact .inl ⟨.inl ⟨_, rfl⟩, by decide⟩
      · obtain ⟨_, a, rfl⟩ := ldv
        exact .inl ⟨(ElP.kept (kept_trans (kept_same (smUpd nL)) k5) tdv.el).1, rfl⟩
      · exact .inr ⟨mA, _, rfl, hm5⟩
    clear k25 k5 k4 hI4 hI2 hT2 hm2 tdv ldv hv hu hu5 s2 hI1 hT1 hm1
    refine ⟨hT5, fun G1 e1 T1 => ?_⟩
    refine ⟨_, rfl, v, rfl, hvc.imp (fun ⟨h, e⟩ => ⟨elExt e1 h, e⟩) (fun ⟨a, f, e, h⟩ => ⟨a, f, e, foExt e1 h⟩), fun G2 t2 => ⟨rfl, .inl ⟨rfl, fun G3 t3 => ?_⟩⟩⟩
    refine ⟨rfl, _, rfl, ?_⟩
    refine ifF (by decide) ?_
    have t23 := t2.trans t3
    have hI6 := handIn_keep (handExt hI5 e1) t23
    have hT6 := T1.ext t23
    have hm6 := foAt_same t23 (foExt e1 hm5)
    clear hI5 hT5 hm5 t23 t2 t3 T1 e1 hvc
    -- a place, or none
    refine ⟨_, rfl, _, rfl, _, rfl, by show 1 ≤ sizeLine; decide, fun u nu => ?_⟩
    have s2 := smUpd (o := .tup [.int 0]) nu
    have hu : upd G3 u (.tup [.int 0]) u = some (.tup [.int 0]) := upd_same
    have nup := hand_ne hI6 nu
    generalize upd G3 u (.tup [.int 0]) = H2 at s2 hu ⊢
    have hI2 := handIn_keep hI6 s2
    have hT2 := hT6.ext s2
    have hm2 := foAt_same s2 hm6
    refine ⟨_, _, rfl, rfl, ⟨by decide, by decide, by decide⟩, _, rfl, p, c, cells, rfl, hI2, fun dv H4 tdv ldv hI4 k4 => ⟨_, rfl, _, _, rfl, rfl, by show 10 ≤ sizeLine; decide, fun L nL => ?_⟩⟩
    refine ⟨p, c, L, cells, _, rfl, handIn_keep hI4 (smUpd nL), hand_ne hI4 nL, upd_same, (by show 0 < 10; decide), (by show 10 ≤ 1000000; decide), fun i pl H5 hv hI5 k5 _ => ?_⟩
    have k25 := kept_trans k4 (kept_trans (kept_same (p := p) (smUpd nL)) k5)
    have hT5 := tabsHand hI2 k25 hT2
    have hm5 := foKept hI2 k25 hm2
    have hu5 := k25 _ _ nup hu
    have hel : El H5 pl := by
      have hmm := List.mem_of_getElem? hv
      simp only [List.mem_cons, List.not_mem_nil, or_false] at hmm
      rcases hmm with rfl | rfl | rfl | rfl | rfl | rfl | rfl | rfl | rfl | rfl
      · exact .inl ⟨_, rfl⟩
      · exact .inl ⟨_, rfl⟩
      · exact .inr (.inl ⟨_, rfl⟩)
      · exact .inr (.inr (.inl rfl))
      · exact .inr (.inr (.inr (.inl ⟨_, rfl⟩)))
      · exact .inr (.inr (.inr (.inr ⟨u, rfl, .inr (.inl ⟨_, hu5⟩)⟩)))
      · exact .inl ⟨_, rfl⟩
      · exact (ElP.kept (kept_trans (kept_same (smUpd nL)) k5) tdv.el).1
      · exact .inl ⟨_, rfl⟩
      · exact .inl ⟨_, rfl⟩
    clear k25 k5 k4 hI4 hI2 hT2 hm2 tdv ldv hv hu hu5 s2 hI6 hT6 hm6
    refine ⟨_, rfl, _, rfl, _, _, rfl, rfl, pl, 0, (n : Int) - 1, rfl, hel, _, rfl, ?_⟩
    have ln : (rowF n).ps.length = n := rowP_len n1
    cases hb : elBtw 0 ((n : Int) - 1) pl with
    | false =>
      refine ifF (by decide) ?_
      refine ⟨hT5, fun G1 e1 T1 => ?_⟩
      refine ⟨_, rfl, _, rfl, .inr ⟨mA, rowF n, pl, rfl, foExt e1 hm5, elExt e1 hel, by rw [ln]; exact hb, fun G2 t2 => ⟨rfl, .inr ⟨rfl, fun G3 t3 => ?_⟩⟩⟩⟩
      refine ⟨_, rfl, rfl, _, rfl, ?_⟩
      refine ifF (by decide) ?_
      have t23 := t2.trans t3
      refine ⟨T1.ext t23, fun G4 e4 T4 => ?_⟩
      refine ⟨_, rfl, _, rfl, .inr ⟨mA, rowF n, pl, rfl, foExt e4 (foAt_same t23 (foExt e1 hm5)), elExt e4 ((elExt e1 hel).same t23), by rw [ln]; exact hb, fun G5 t5 => ⟨rfl, .inr ⟨rfl, fun G6 t6 => ?_⟩⟩⟩⟩
      refine ⟨_, rfl, rfl, ?_⟩
      show Q (.bl (decide (V.str "place" = V.str "place"))) G6
      rw [decide_eq_true rfl]
      exact k _
    | true =>
      refine ifT rfl ?_
      obtain ⟨j, rfl, hj⟩ : ∃ j : Nat, pl = vn j ∧ j < n := by
        cases pl with
        | int z =>
          have := of_decide_eq_true (show decide ((0 : Int) ≤ z ∧ z ≤ (n : Int) - 1) = true from hb)
          obtain ⟨j, rfl⟩ := Int.eq_ofNat_of_zero_le this.1
          exact ⟨j, rfl, by omega⟩
        | _ => cases hb
      refine ⟨hT5, fun G1 e1 T1 => ?_⟩
      refine ⟨_, rfl, _, rfl, .inl ⟨mA, rowF n, j, rfl, foExt e1 hm5, okR.ps, okR.l1, by rw [ln]; exact hj, fun b G2 t2 _ => ⟨_, rfl, ?_⟩⟩⟩
      refine ⟨_, rfl, rfl, _, rfl, ?_⟩
      refine ifF (by decide) ?_
      refine ⟨T1.ext t2, fun G4 e4 T4 => ?_⟩
      refine ⟨_, rfl, _, rfl, .inl ⟨mA, rowF n, j, rfl, foExt e4 (foAt_same t2 (foExt e1 hm5)), okR.ps, okR.l1, by rw [ln]; exact hj, fun b G5 t5 _ => ⟨_, rfl, ?_⟩⟩⟩
      refine ⟨_, rfl, rfl, ?_⟩
      show Q (.bl (decide (V.str "let" = V.str "let"))) G5
      rw [decide_eq_true rfl]
      exact k _
end
end Cn
namespace Cn
open PySem PySem.Spec PyProof.Rows L2 Ck
/-! the law -/
/-- three things that are right, but for their number -/
def TolB (H : Hp) (t : Addr) (f : Fo) : Prop := TolR H t f ∧ Ps f.ps ∧ 1 ≤ f.ps.length ∧ f.ps.length ≤ 61 ∧ f.be.Pairwise (· < ·) ∧ (∀ x ∈ f.be, x < f.ps.length) ∧ f.as.Pairwise (· < ·) ∧ ∀ x ∈ f.as, x < f.ps.length
theorem tolBOf {H : Hp} {t : Addr} {f : Fo} (h : TolR H t f) (ok : FoOk f) : TolB H t f := ⟨h, ok.ps, ok.l0, by have := ok.l1; omega, ok.be, ok.bl, ok.as, ok.al⟩
theorem TolB.ok {H : Hp} {t : Addr} {f : Fo} (h : TolB H t f) (l : f.ps.length < 61) : FoOk f := ⟨h.2.1, h.2.2.1, by omega, h.2.2.2.2.1, h.2.2.2.2.2.1, h.2.2.2.2.2.2.1, h.2.2.2.2.2.2.2⟩
theorem TolB.kept {H H' : Hp} {p c t : Addr} {cells : List Int} {f : Fo} (hI : HandIn H p c cells) (k : Kept p H H') (h : TolB H t f) : TolB H' t f := ⟨tolKept hI k h.1, h.2⟩
theorem TolB.same {H H' : Hp} {t : Addr} {f : Fo} (s : Same H H') (h : TolB H t f) : TolB H' t f := ⟨tolSame s h.1, h.2⟩
theorem TolB.loose {H : Hp} {p c t : Addr} {cells : List Int} {f : Fo} (hI : HandIn H p c cells) (h : TolB H t f) : ∃ vp vb va, TolL p 61 H t vp vb va := by
  obtain ⟨⟨ap, ab, aa, h0, h1, h2, h3⟩, hp, l0, l1, b1, b2, a1, a2⟩ := h
  have lb := lotLen b1 b2
  have la := lotLen a1 a2
  refine ⟨.ref ap, .ref ab, .ref aa, h0, tup_ne hI h0, tlT (tup_ne hI h1) h1 (by rw [List.length_map]; exact l1) fun x hx => ?_, tlT (tup_ne hI h2) h2 (by rw [List.length_map]; omega) fun x hx => ?_, tlT (tup_ne hI h3) h3 (by rw [List.length_map]; omega) fun x hx => ?_⟩
  · obtain ⟨q, _, rfl⟩ := List.mem_map.mp hx
    cases q with
    | none => exact (tlN (n := 0)).el
    | some m => exact elpI _
  · obtain ⟨q, _, rfl⟩ := List.mem_map.mp hx
    exact elpI _
  · obtain ⟨q, _, rfl⟩ := List.mem_map.mp hx
    exact elpI _
theorem LenB.mono {n m : Nat} {H : Hp} {v : V} (h : LenB n H v) (l : n ≤ m) : LenB m H v := fun a xs e ha => Nat.le_trans (h a xs e ha) l
def szB : Nat → Nat
  | 0 => 61
  | 1 => 124
  | _ + 2 => 250
theorem szB_le (j : Nat) : szB j ≤ 250 := by
  match j with
  | 0 => decide
  | 1 => decide
  | j + 2 => exact Nat.le_refl _
section
variable {P : Program} {w : World} {K : PySem.W.Frag} {mg : Str → Option Value} {base : Heap} {C NE CB CN CP : Addr} {l : List (Str × Addr)}
def spLaw (K : PySem.W.Frag) (T : List (Addr × Str)) : Sp := fun vs H Q _ => ∃ (a : Addr) (ns : List Int), vs = [.ref a] ∧ SqL K H a (ns.map V.int) ∧ ns.length ≤ 63 ∧ LamX.Tabs T H ∧ ∀ H', Q (.bl true) H'
theorem dHand (B : Defs K mg C) : Def P w K mg base "_law_hand" 1 ["_law_script"] (spHand K) := def_of B.ha fun f fd F => ok_hand F B.N.abs B.N.int B.N.is.len
def nLaw : List Str := ["_law_script", "_law_hand_here", "_law_turn", "_law_told_here", "_law_many", "_law_given", "_law_change", "_law_due_here", "_law_one", "_law_other"]
theorem scLaw : FnScope nLaw ["_law_script"] (defScope sLaw) := ⟨rfl, rfl, rfl, by decide +kernel, rfl, by decide +kernel, by decide +kernel⟩
theorem ok_law {f : Addr} {fd : FuncData} (F : Fun K "law" "law" sLaw f fd) (B : Defs K mg C) (T : ErrL P w K mg NE l) (hB : (("BadForest" : Str), CB) ∈ l) (hN : (("NoNumber" : Str), CN) ∈ l) (hP : (("NoPlace" : Str), CP) ∈ l) {cR PR : Addr} (L : TabOf K mg base "_law_rows_right" cR PR) :
    FnOk P w K mg base CX0 11 f fd ["_law_script"] (spLaw K [(PR, lamQ)]) := by
  obtain ⟨fH, fdH, GH, gH, kH, bH⟩ := dHand (P := P) (w := w) (base := base) B
  obtain ⟨fD, fdD, GD, gD, kD, bD⟩ := dDraw (P := P) (w := w) (base := base) B
  obtain ⟨fTo, fdTo, GTo, gTo, kTo, bTo⟩ := dTold (P := P) (w := w) (base := base) B
  obtain ⟨fPa, fdPa, GPa, gPa, kPa, bPa⟩ := dParents (P := P) (w := w) (base := base) B
  obtain ⟨fLo, fdLo, GLo, gLo, kLo, bLo⟩ := dLawLot (P := P) (w := w) (base := base) B
  obtain ⟨fBe, fdBe, GBe, gBe, kBe, bBe⟩ := dBentL (P := P) (w := w) (base := base) B
  obtain ⟨fDu, fdDu, GDu, gDu, kDu, bDu⟩ := dLDue (P := P) (w := w) (base := base) B
  obtain ⟨fSe, fdSe, GSe, gSe, kSe, bSe⟩ := dSeenOf (P := P) (w := w) (base := base) B T hB
  obtain ⟨fM, fdM, GM, gM, kM, bM⟩ := dMade (P := P) (w := w) (base := base) B
  obtain ⟨fRR, fdRR, GRR, gRR, kRR, bRR⟩ := dRowsR (P := P) (w := w) (base := base) B T hN hP L
  obtain ⟨fI, fdI, DI⟩ := B.is
  have GI := ok_is (P := P) (w := w) (base := base) DI.F B.N.is DI.g DI.b 4
  obtain ⟨fe, fde, Fe, he1, he2, be⟩ := B.eqm
  have Ge : FnOk P w K mg base CX0 1 fe fde ["self", "other"] (spEqC (FoCmp C)) := ok_eqC B Fe
  have Go : FnOk P w K mg base CX0 1 fe fde ["self", "other"] (spEqO K C) := ok_eqO B Fe
  have ne := B.neF
  have mo := B.ty5.2.2.2
  have N := B.N
  have nd := scLaw.nd
  refine F.ok scLaw (fun vs H Q E h => ?_) (fun cdv A outer s H vs Q E hr h => ?_)
  · obtain ⟨a, ns, rfl, _⟩ := h
    rfl
  · obtain ⟨a, ns, rfl, hs, hl, hT, k⟩ := h
    have r1 : Room 1 (A.deeper (envOfC "law" (defScope sLaw) s.heap.objs.size f cdv)) := Room.mono hr (by decide)
    have r2 : Room 2 (A.deeper (envOfC "law" (defScope sLaw) s.heap.objs.size f cdv)) := Room.mono hr (by decide)
    have r3 : Room 3 (A.deeper (envOfC "law" (defScope sLaw) s.heap.objs.size f cdv)) := Room.mono hr (by decide)
    have r4 : Room 4 (A.deeper (envOfC "law" (defScope sLaw) s.heap.objs.size f cdv)) := Room.mono hr (by decide)
    have r6 : Room 6 (A.deeper (envOfC "law" (defScope sLaw) s.heap.objs.size f cdv)) := Room.mono hr (by decide)
    have r9 : Room 9 (A.deeper (envOfC "law" (defScope sLaw) s.heap.objs.size f cdv)) := Room.mono hr (by decide)
    refine ⟨_, pss_cons (ps_set (i := 1) nd rfl (Or.inl rfl) (pe_call GH r1 (by rfl) gH kH bH .nil pass0 (pa_cons (pv 0) pa_nil)))
      (pss_cons (ps_for PassesOwn.never rfl (pi_range1 (by rfl) N.range (pa_cons pe_int pa_nil)) (pg_name (i := 2) nd rfl (Or.inl rfl))
        (pss_cons (ps_set (i := 3) nd rfl (Or.inl rfl) (pe_call GTo r3 (by rfl) gTo kTo bTo .nil pass0 (pa_cons (pv 1) (pa_cons pe_int pa_nil))))
        (psMid (ps_if (pt_cmpR op_eq (pe_call GD r1 (by rfl) gD kD bD .nil pass0 (pa_cons (pv 1) (pa_cons pe_int pa_nil))) pe_int (nomark _))
          (pss_cons (ps_set (i := 4) nd rfl (Or.inl rfl) (pe_op op_add pe_int (pe_call GD r1 (by rfl) gD kD bD .nil pass0 (pa_cons (pv 1) (pa_cons pe_int pa_nil)))))
          (pss_one (ps_set (i := 3) nd rfl (Or.inl rfl) (pe_tup (pa_cons (pe_call GPa r2 (by rfl) gPa kPa bPa .nil pass0 (pa_cons (pv 1) (pa_cons (pv 4) pa_nil))) (pa_cons (pe_call GLo r2 (by rfl) gLo kLo bLo .nil pass0 (pa_cons (pv 1) (pa_cons (pv 4) (pa_cons pe_int pa_nil)))) (pa_cons (pe_call GLo r2 (by rfl) gLo kLo bLo .nil pass0 (pa_cons (pv 1) (pa_cons (pv 4) (pa_cons pe_int pa_nil)))) pa_nil))))))) pss_nil)
        (pss_cons (ps_set (i := 5) nd rfl (Or.inl rfl) (pv 3))
        (pss_cons (ps_for PassesOwn.never rfl (pi_range1 (by rfl) N.range (pa_cons (pe_call GD r1 (by rfl) gD kD bD .nil pass0 (pa_cons (pv 1) (pa_cons pe_int pa_nil))) pa_nil)) (pg_name (i := 6) nd rfl (Or.inl rfl))
          (pss_one (ps_set (i := 5) nd rfl (Or.inl rfl) (pe_call GBe r4 (by rfl) gBe kBe bBe .nil pass0 (pa_cons (pv 1) (pa_cons (pv 5) pa_nil))))))
        (pss_cons (ps_set (i := 7) nd rfl (Or.inl rfl) (pe_call GDu r3 (by rfl) gDu kDu bDu .nil pass0 (pa_cons (pe_ix ix_tup (pv 5) pe_int (fun _ _ => rfl)) (pa_cons (pe_ix ix_tup (pv 5) pe_int (fun _ _ => rfl)) (pa_cons (pe_ix ix_tup (pv 5) pe_int (fun _ _ => rfl)) pa_nil)))))
        (pss_cons (ps_if (pt_not (pt_val (pe_call GI r6 (by rfl) DI.g DI.F.kp DI.b .nil pass0 (pa_cons (pe_call GSe r6 (by rfl) gSe kSe bSe .nil pass0 (pa_cons (pv 5) pa_nil)) (pa_cons (pe_ifExp (pt_cmpR op_isN (pv 7) pe_non (nomark _)) (pe_tup (pa_cons pe_str (pa_cons (pv 5) pa_nil))) (pe_tup (pa_cons pe_str (pa_cons (pv 7) pa_nil)))) pa_nil))))) (pss_one ps_never) pss_nil)
        (pss_one (ps_if (PW.pt (pw_and (pt_cmpR op_isN (pv 7) pe_non (nomark _)) (pw_and1 (pt_cmpR op_lt (pe_callB call_len_seq (by rfl) N.is.len PySem.boot_len (pa_cons (pe_ix ix_tup (pv 3) pe_int (fun _ _ => rfl)) pa_nil)) pe_int (nomark _)))))
          (pss_cons (ps_par (i := 8) (j := 9) rfl nd rfl rfl (by decide) rfl rfl (pa_cons (pe_call GM r6 (by rfl) gM kM bM .nil pass0 (pa_cons (pv 3) pa_nil)) (pa_cons (pe_call GM r6 (by rfl) gM kM bM .nil pass0 (pa_cons (pv 5) pa_nil)) pa_nil)) rfl)
          (pss_cons (ps_if (PW.pt (pw_or (pt_cmpR op_ne (pe_cmpR (op_eqC Ge he1 he2 be pass0 r1) (pv 8) (pv 9) (nomark _)) (pe_cmpR (op_eqD hr.units) (pv 3) (pv 5) (nomark _)) (nomark _))
              (pw_or (pt_cmpR op_eq (pe_cmpR (op_neC Ge he1 he2 ne mo be pass0 r2) (pv 8) (pv 9) (nomark _)) (pe_cmpR (op_eqD hr.units) (pv 3) (pv 5) (nomark _)) (nomark _))
              (pw_or1 (pt_cmpR (op_neC Ge he1 he2 ne mo be pass0 r2) (pv 8) (pe_call GM r6 (by rfl) gM kM bM .nil pass0 (pa_cons (pv 3) pa_nil)) (nomark _)))))) (pss_one ps_never) pss_nil)
          (pss_one (ps_if (PW.pt (pw_or (pt_cmpR (op_eqO Go he1 he2 be pass0 r1) (pv 8) (pv 5) (nomark _)) (pw_or (pt_cmpR (op_eqO Go he1 he2 be pass0 r1) (pv 8) pe_non (nomark _)) (pw_or1 (pt_not (pt_cmpR (op_neO Go he1 he2 ne mo be pass0 r2) (pv 8) (pv 3) (nomark _))))))) (pss_one ps_never) pss_nil)))) pss_nil)))))))))
      (pss_one (ps_ret (pe_call GRR r9 (by rfl) gRR kRR bRR .nil pass0 (pa_cons (pv 1) pa_nil))))), ?_⟩
    refine ⟨_, rfl, a, ns, rfl, hs, hl, fun H1 p c cells s1 np nc hI => ?_⟩
    have hT1 := hT.ext s1
    refine ⟨(3 : Int), rfl, by decide, by decide, ?_⟩
    refine for_range (lo := 0) (n := 3) (fun _ σ' G => (∃ x2 x3 x4 x5 x6 x7 x8 x9 : Option V, σ' = [some (.ref a), some (.ref p), x2, x3, x4, x5, x6, x7, x8, x9]) ∧ HandIn G p c cells ∧ LamX.Tabs [(PR, lamQ)] G) ⟨⟨_, _, _, _, _, _, _, _, rfl⟩, hI, hT1⟩ ?_ ?_
    rotate_left
    · rintro σ' G ⟨⟨x2, x3, x4, x5, x6, x7, x8, x9, rfl⟩, hI2, hT2⟩
      exact ⟨_, rfl, p, c, cells, rfl, hI2, hT2, k⟩
    rintro i σ' G hi ⟨⟨x2, x3, x4, x5, x6, x7, x8, x9, rfl⟩, hI1, hT1'⟩
    clear hT1 hI s1
    refine ⟨_, rfl, p, c, cells, 12, rfl, hI1, by decide, by decide, fun o f0 H2 ok0 _ hI2 k2 tol2 => ?_⟩
    have hT2 := tabsHand hI1 k2 hT1'
    refine ⟨fun σ' G => ∃ (o : Addr) (f0 : Fo) (x2 x4 : Option V), σ' = [some (.ref a), some (.ref p), x2, some (.ref o), x4, x5, x6, x7, x8, x9] ∧ TolB G o f0 ∧ HandIn G p c cells ∧ LamX.Tabs [(PR, lamQ)] G, ?_, ?_⟩
    · refine ⟨_, rfl, p, c, cells, 12, rfl, hI2, by decide, by decide, fun e b1 b2 b3 b4 e0 e1 b10 => ⟨rfl, _, rfl, ?_⟩⟩
      have k3 := kept_hand (p := p) (H := H2) (o := handL c b1 b2 b3 b4)
      have hI3 := handIn_upd (i := b1) (g := b2) (m := b3) (t := b4) hI2 b10
      have hT3 := tabsHand hI2 k3 hT2
      have tb3 := (tolBOf tol2 ok0).kept hI2 k3
      generalize upd H2 p (handL c b1 b2 b3 b4) = H3 at hI3 hT3 tb3 ⊢
      by_cases c0 : decide (V.int e = V.int 0) = true
      · refine ifT c0 ?_
        refine ⟨_, rfl, p, c, cells, 2, rfl, hI3, by decide, by decide, fun d a1 a2 a3 a4 d0 d1 a10 => ⟨_, _, rfl, rfl, ?_⟩⟩
        obtain ⟨m, rfl⟩ := Int.eq_ofNat_of_zero_le d0
        have k4 := kept_hand (p := p) (H := H3) (o := handL c a1 a2 a3 a4)
        have hI4 := handIn_upd (i := a1) (g := a2) (m := a3) (t := a4) hI3 a10
        have hT4 := tabsHand hI3 k4 hT3
        generalize upd H3 p (handL c a1 a2 a3 a4) = H4 at hI4 hT4 ⊢
        have ev : V.int (60 + (m : Int)) = vn (60 + m) := by
          show _ = V.int ((60 + m : Nat) : Int)
          rw [show ((60 + m : Nat) : Int) = 60 + (m : Int) by omega]
        refine ⟨_, rfl, _, rfl, p, c, cells, 60 + m, congrArg (fun z => [V.ref p, z]) ev, hI4, by omega, by omega, fun r ps H5 hps hlen hI5 k5 hr5 => ?_⟩
        refine ⟨_, rfl, _, rfl, p, c, cells, 60 + m, 3, congrArg (fun z => [V.ref p, z, V.int 3]) ev, hI5, by omega, fun q1 be H6 hb1 hb2 hI6 k6 hq1 => ?_⟩
        refine ⟨_, rfl, _, rfl, p, c, cells, 60 + m, 3, congrArg (fun z => [V.ref p, z, V.int 3]) ev, hI6, by omega, fun q2 as H7 ha1 ha2 hI7 k7 hq2 => ?_⟩
        refine ⟨by show 3 ≤ sizeLine; decide, fun u nu => ?_⟩
        have s8 := smUpd (o := .tup [.ref r, .ref q1, .ref q2]) nu
        have hr7 := kept_trans k6 k7 _ _ (tup_ne hI5 hr5) hr5
        have hq7 := k7 _ _ (tup_ne hI6 hq1) hq1
        have k47 := kept_trans k5 (kept_trans k6 (kept_trans k7 (kept_same (p := p) s8)))
        refine ⟨u, ⟨ps, be, as⟩, _, _, rfl, ⟨⟨r, q1, q2, upd_same, s8 _ _ hr7, s8 _ _ hq7, s8 _ _ hq2⟩, hps, ?_, ?_, hb1, ?_, ha1, ?_⟩, handIn_keep hI7 s8, tabsHand hI4 k47 hT4⟩
        · show 1 ≤ ps.length
          omega
        · show ps.length ≤ 61
          omega
        · show ∀ x ∈ be, x < ps.length
          rw [hlen]; exact hb2
        · show ∀ x ∈ as, x < ps.length
          rw [hlen]; exact ha2
      · refine ifF c0 ?_
        exact ⟨o, f0, _, _, rfl, tb3, hI3, hT3⟩
    rintro σ2 G2 ⟨o, f0, x2, x4, rfl, tb3, hI3, hT3⟩
    clear hI2 hT2 tol2 k2 hI1 hT1'
    refine ⟨_, rfl, ?_⟩
    refine ⟨_, rfl, p, c, cells, 3, rfl, hI3, by decide, by decide, fun d a1 a2 a3 a4 d0 d1 a10 => ⟨d, rfl, by omega, by omega, ?_⟩⟩
    obtain ⟨m, rfl⟩ := Int.eq_ofNat_of_zero_le d0
    have k4 := kept_hand (p := p) (H := G2) (o := handL c a1 a2 a3 a4)
    have hI4 := handIn_upd (i := a1) (g := a2) (m := a3) (t := a4) hI3 a10
    have hT4 := tabsHand hI3 k4 hT3
    have tb4 := tb3.kept hI3 k4
    generalize upd G2 p (handL c a1 a2 a3 a4) = H4 at hI4 hT4 tb4 ⊢
    obtain ⟨vp1, vb1, va1, tl1⟩ := tb4.loose hI4
    rw [Int.toNat_natCast]
    refine for_range (lo := 0) (n := m) (fun j σ' G => ∃ (t : Addr) (vp vb va : V) (x6 : Option V), σ' = [some (.ref a), some (.ref p), x2, some (.ref o), x4, some (.ref t), x6, x7, x8, x9] ∧ TolL p (szB j) G t vp vb va ∧ HandIn G p c cells ∧ LamX.Tabs [(PR, lamQ)] G ∧ TolB G o f0) ⟨o, vp1, vb1, va1, _, rfl, tl1, hI4, hT4, tb4⟩ ?_ ?_
    · rintro j σ' G hj ⟨t, vp, vb, va, x6', rfl, tl, hIg, hTg, tbg⟩
      refine ⟨_, rfl, _, rfl, p, c, t, cells, szB j, vp, vb, va, rfl, hIg, tl, ?_, fun t' vp' vb' va' G3 tl' hI' k' => ⟨t', vp', vb', va', _, rfl, ?_, hI', tabsHand hIg k' hTg, tbg.kept hIg k'⟩⟩
      · match j, hj with
        | 0, _ => decide
        | 1, _ => decide
        | j + 2, hj => omega
      · match j, hj, tl' with
        | 0, _, tl' => exact tl'
        | 1, _, tl' => exact tl'
        | j + 2, hj, _ => omega
    rintro σ' G ⟨t, vp, vb, va, x6', rfl, tl, hI5, hT5, tb5⟩
    clear hI4 hT4 tb4 tl1 hI3 hT3 tb3 k4
    have tp := tl.2.2.1.th
    have tb := tl.2.2.2.1.th
    have ta := tl.2.2.2.2.th
    have lb := tl.2.2.2.1.lenB.mono (Nat.le_trans (szB_le m) (by decide : 250 ≤ 1000))
    have la := tl.2.2.2.2.lenB.mono (Nat.le_trans (szB_le m) (by decide : 250 ≤ 1000))
    obtain ⟨r, hD⟩ := due_ex vb va tp
    cases r with
    | some q0 =>
      obtain ⟨part, at_⟩ := q0
      refine ⟨_, rfl, t, _, (0 : Int), _, rfl, rfl, .inl (.inl tl.1), rfl, _, rfl, t, _, (1 : Int), _, rfl, rfl, .inl (.inl tl.1), rfl, _, rfl, t, _, (2 : Int), _, rfl, rfl, .inl (.inl tl.1), rfl, vp, vb, va, some (part, at_), rfl, tp, tb, ta, lb, la, hD, fun z => (by cases z), fun part' at' e td H6 s6 htd => ?_⟩
      cases e
      refine ⟨_, rfl, t, vp, vb, va, some (part, at_), rfl, s6 _ _ tl.1, tp.same s6, tb.same s6, ta.same s6, dueSame s6 tb ta hD, fun z => (by cases z), fun part' at' e fa q H7 s7 hfa hq => ?_⟩
      cases e
      refine ⟨_, rfl, rfl, _, rfl, ?_⟩
      refine ifF (by rw [decide_eq_false (fun z => by cases z)]; decide) ?_
      refine ⟨_, rfl, by show 2 ≤ sizeLine; decide, fun u nu => ?_⟩
      have s8 := smUpd (o := .tup [.str "bad", .ref td]) nu
      refine ⟨.ref fa, .ref u, rfl, ?_, fun H9 s9 => ⟨true, rfl, ?_⟩⟩
      · refine .inr ⟨fa, u, _, _, rfl, rfl, .inr ⟨s8 _ _ hfa, upd_same⟩, by show 2 ≤ 4000; decide, .cons (eqG_up (n := 0) ⟨rfl, .inl rfl⟩ (Nat.zero_le _)) (.cons (.inr ⟨q, td, _, _, rfl, rfl, .inr ⟨s8 _ _ hq, (s7.trans s8) _ _ htd⟩, by show 2 ≤ 4000; decide, .cons (eqG_up (n := 0) ⟨rfl, .inl rfl⟩ (Nat.zero_le _)) (.cons (eqG_up (n := 0) ⟨rfl, .inl rfl⟩ (Nat.zero_le _)) .nil)⟩) .nil)⟩
      refine ifF (by decide) ?_
      refine ⟨_, rfl, rfl, _, rfl, ?_⟩
      refine ifF (by rw [decide_eq_false (fun z => by cases z)]; decide) ?_
      refine ifF (by decide) ?_
      have s59 := s6.trans (s7.trans (s8.trans s9))
      exact ⟨⟨_, _, _, _, _, _, _, _, rfl⟩, handIn_keep hI5 s59, hT5.ext s59⟩
    | none =>
      refine ⟨_, rfl, t, _, (0 : Int), _, rfl, rfl, .inl (.inl tl.1), rfl, _, rfl, t, _, (1 : Int), _, rfl, rfl, .inl (.inl tl.1), rfl, _, rfl, t, _, (2 : Int), _, rfl, rfl, .inl (.inl tl.1), rfl, vp, vb, va, none, rfl, tp, tb, ta, lb, la, hD, fun _ H6 s6 => ?_, fun _ _ z => (by cases z)⟩
      refine ⟨_, rfl, t, vp, vb, va, none, rfl, s6 _ _ tl.1, tp.same s6, tb.same s6, ta.same s6, dueSame s6 tb ta hD, fun _ f1 ap0 ab0 aa0 e1 e2 e3 h1 h2 h3 ok1 fa q ap ab aa H7 s7 hfa hq g1 g2 g3 => ?_, fun _ _ z => (by cases z)⟩
      subst e1 e2 e3
      refine ⟨_, rfl, rfl, _, rfl, ?_⟩
      refine ifT (by decide) ?_
      refine ⟨_, rfl, by show 2 ≤ sizeLine; decide, fun u nu => ?_⟩
      have s8 := smUpd (o := .tup [.str "made", .ref t]) nu
      have tol7 : TolR H7 t f1 := tolSame s7 ⟨ap0, ab0, aa0, s6 _ _ tl.1, h1, h2, h3⟩
      refine ⟨.ref fa, .ref u, rfl, ?_, fun H9 s9 => ⟨true, rfl, ?_⟩⟩
      · exact .inr ⟨fa, u, _, _, rfl, rfl, .inr ⟨s8 _ _ hfa, upd_same⟩, by show 2 ≤ 4000; decide, .cons (eqG_up (n := 0) ⟨rfl, .inl rfl⟩ (Nat.zero_le _)) (.cons (eqTol ok1 (tolSame s8 ⟨ap, ab, aa, hq, g1, g2, g3⟩) (tolSame s8 tol7)) .nil)⟩
      refine ifF (by decide) ?_
      have s59 := s6.trans (s7.trans (s8.trans s9))
      have hI9 := handIn_keep hI5 s59
      have hT9 := hT5.ext s59
      have tb9 := tb5.same s59
      have tol9 := tolSame (s8.trans s9) tol7
      clear hI5 hT5 tb5 s59 hfa hq g1 g2 g3 h1 h2 h3 s9 s8 tol7
      obtain ⟨bp, bb, ba, k0, k1, k2, k3⟩ := id tb9.1
      refine ⟨_, rfl, rfl, _, rfl, ?_⟩
      refine ifT (by decide) ?_
      refine ⟨_, rfl, o, _, (0 : Int), _, rfl, rfl, .inl (.inl k0), rfl, bp, _, rfl, .inr (tpL k1), _, _, rfl, rfl, _, rfl, ?_⟩
      by_cases cl : f0.ps.length < 61
      rotate_left
      · refine ifF (by rw [List.length_map, decide_eq_false (by omega)]; decide) ?_
        exact ⟨⟨_, _, _, _, _, _, _, _, rfl⟩, hI9, hT9⟩
      refine ifT (by rw [List.length_map]; exact decide_eq_true (by omega)) ?_
      have ok0 := tb9.ok cl
      refine ⟨_, rfl, o, f0, rfl, tb9.1, ok0, fun m1 H10 s10 hm1 => ⟨_, rfl, t, f1, rfl, tolSame s10 tol9, ok1, fun m2 H11 s11 hm2 => ⟨_, _, rfl, ?_⟩⟩⟩
      have hm11 := foAt_same s11 hm1
      have to11 := tolSame (s10.trans s11) tb9.1
      have tt11 := tolSame (s10.trans s11) tol9
      have hI11 := handIn_keep hI9 (s10.trans s11)
      have hT11 := hT9.ext (s10.trans s11)
      clear hI9 hT9 tb9 tol9 k0 k1 k2 k3 s10 hm1
      obtain ⟨dx1, _, _, _, a0, _, _, _⟩ := id hm11
      obtain ⟨dx2, _, _, _, b0, _, _, _⟩ := id hm2
      refine ⟨_, rfl, _, rfl, m1, m2, _, dx1, dx2, _, _, rfl, rfl, a0, b0, ⟨f0, f1, hm11, hm2, rfl⟩, fun H12 e12 => ?_⟩
      refine ⟨_, rfl, _, rfl, _, _, dpTol (tolSame e12 to11), dpTol (tolSame e12 tt11), dTolSh _, dTolSh _, ?_⟩
      rw [dTolEq]
      refine ⟨rfl, _, rfl, ?_⟩
      refine ifF (by rw [decide_eq_true rfl]; decide) ?_
      have hm12 := foAt_same e12 hm11
      have hn12 := foAt_same e12 hm2
      obtain ⟨dx3, _, _, _, a0, _, _, _⟩ := id hm12
      obtain ⟨dx4, _, _, _, b0, _, _, _⟩ := id hn12
      refine ⟨_, rfl, _, rfl, m1, m2, _, dx3, dx4, _, _, rfl, rfl, a0, b0, ⟨f0, f1, hm12, hn12, rfl⟩, fun H13 e13 => ?_⟩
      have e23 := e12.trans e13
      refine ⟨_, rfl, _, rfl, _, _, dpTol (tolSame e23 to11), dpTol (tolSame e23 tt11), dTolSh _, dTolSh _, ?_⟩
      rw [dTolEq]
      refine ⟨rfl, _, rfl, ?_⟩
      refine ifF (by rw [decide_eq_false (fun z => by have z := V.bl.inj z; revert z; cases foB f0 f1 <;> decide)]; decide) ?_
      refine ⟨_, rfl, _, rfl, o, f0, rfl, tolSame e23 to11, ok0, fun m3 H14 s14 hm3 => ?_⟩
      have s114 := e23.trans s14
      have hm14 := foAt_same s114 hm11
      obtain ⟨dx5, _, _, _, a0, _, _, _⟩ := id hm14
      obtain ⟨dx6, _, _, _, b0, _, _, _⟩ := id hm3
      refine ⟨m1, m3, _, dx5, dx6, _, _, rfl, rfl, a0, b0, ⟨f0, f0, hm14, hm3, rfl⟩, fun H15 e15 => ?_⟩
      have es : foB f0 f0 = true := by
        unfold foB
        rw [decide_eq_true rfl, decide_eq_true rfl, decide_eq_true rfl]; rfl
      rw [es]
      refine ⟨_, rfl, ?_⟩
      refine ifF (by decide) ?_
      have s115 := s114.trans e15
      have hm15 := foAt_same s115 hm11
      obtain ⟨ap1, ab1, aa1, q0, _⟩ := tolSame s115 tt11
      obtain ⟨bp1, bb1, ba1, q1, _⟩ := tolSame s115 to11
      obtain ⟨dx7, _, _, _, a0, _, _, _⟩ := id hm15
      obtain ⟨T1, ty1, o1⟩ := El.odd B (x := .ref t) (H := H15) (.inr (.inr (.inr (.inr ⟨t, rfl, .inr (.inl ⟨_, q0⟩)⟩))))
      refine ⟨_, rfl, _, rfl, m1, dx7, _, T1, rfl, a0, ty1, o1, fun H16 e16 => ?_⟩
      refine ⟨_, rfl, ?_⟩
      refine ifF (by decide) ?_
      obtain ⟨T2, ty2, o2⟩ := El.odd B (x := .non) (H := H16) (.inr (.inr (.inl rfl)))
      refine ⟨_, rfl, m1, dx7, _, T2, rfl, e16 _ _ a0, ty2, o2, fun H17 e17 => ?_⟩
      refine ⟨_, rfl, ?_⟩
      refine ifF (by decide) ?_
      have e57 := e16.trans e17
      obtain ⟨T3, ty3, o3⟩ := El.odd B (x := .ref o) (H := H17) (.inr (.inr (.inr (.inr ⟨o, rfl, .inr (.inl ⟨_, e57 _ _ q1⟩)⟩))))
      refine ⟨_, rfl, _, rfl, m1, dx7, _, T3, rfl, e57 _ _ a0, ty3, o3, fun H18 e18 => ?_⟩
      refine ⟨_, rfl, ?_⟩
      refine ifF (by decide) ?_
      have sEnd := s115.trans (e57.trans e18)
      exact ⟨⟨_, _, _, _, _, _, _, _, rfl⟩, handIn_keep hI11 sEnd, hT11.ext sEnd⟩
end
end Cn
namespace Cn
open PySem PySem.Spec PyProof.Rows L2 Ck
/-- all the facts of the top, and the law's own promise -/
theorem all_mk {P : Program} {w : World} {K : PySem.W.Frag} {h : Heap} {mg : Str → Option Value} {fa C : Addr} {tm : Tok} (X : K.In h) (G : h.Ns mainGlobals mg) (hfa : mg "law" = some (.ref fa))
    {fd0 : Addr} {ocd0 kVd0 dcd0 pmd0 cdd0 ctd0 : Value} {odd0 and0 : Option Addr} {sld0 : Array (Option Value)}
    {fd1 : Addr} {ocd1 kVd1 dcd1 pmd1 cdd1 ctd1 : Value} {odd1 and1 : Option Addr} {sld1 : Array (Option Value)}
    {fd2 : Addr} {ocd2 kVd2 dcd2 pmd2 cdd2 ctd2 : Value} {odd2 and2 : Option Addr} {sld2 : Array (Option Value)}
    {fd3 : Addr} {ocd3 kVd3 dcd3 pmd3 cdd3 ctd3 : Value} {odd3 and3 : Option Addr} {sld3 : Array (Option Value)}
    {fd4 : Addr} {ocd4 kVd4 dcd4 pmd4 cdd4 ctd4 : Value} {odd4 and4 : Option Addr} {sld4 : Array (Option Value)}
    {fd5 : Addr} {ocd5 kVd5 dcd5 pmd5 cdd5 ctd5 : Value} {odd5 and5 : Option Addr} {sld5 : Array (Option Value)}
    {fd6 : Addr} {ocd6 kVd6 dcd6 pmd6 cdd6 ctd6 : Value} {odd6 and6 : Option Addr} {sld6 : Array (Option Value)}
    {fd7 : Addr} {ocd7 kVd7 dcd7 pmd7 cdd7 ctd7 : Value} {odd7 and7 : Option Addr} {sld7 : Array (Option Value)}
    {fd8 : Addr} {ocd8 kVd8 dcd8 pmd8 cdd8 ctd8 : Value} {odd8 and8 : Option Addr} {sld8 : Array (Option Value)}
    {fd9 : Addr} {ocd9 kVd9 dcd9 pmd9 cdd9 ctd9 : Value} {odd9 and9 : Option Addr} {sld9 : Array (Option Value)}
    {fd10 : Addr} {ocd10 kVd10 dcd10 pmd10 cdd10 ctd10 : Value} {odd10 and10 : Option Addr} {sld10 : Array (Option Value)}
    {fd11 : Addr} {ocd11 kVd11 dcd11 pmd11 cdd11 ctd11 : Value} {odd11 and11 : Option Addr} {sld11 : Array (Option Value)}
    {fd12 : Addr} {ocd12 kVd12 dcd12 pmd12 cdd12 ctd12 : Value} {odd12 and12 : Option Addr} {sld12 : Array (Option Value)}
    {fd13 : Addr} {ocd13 kVd13 dcd13 pmd13 cdd13 ctd13 : Value} {odd13 and13 : Option Addr} {sld13 : Array (Option Value)}
    {fd14 : Addr} {ocd14 kVd14 dcd14 pmd14 cdd14 ctd14 : Value} {odd14 and14 : Option Addr} {sld14 : Array (Option Value)}
    {fd15 : Addr} {ocd15 kVd15 dcd15 pmd15 cdd15 ctd15 : Value} {odd15 and15 : Option Addr} {sld15 : Array (Option Value)}
    {fd16 : Addr} {ocd16 kVd16 dcd16 pmd16 cdd16 ctd16 : Value} {odd16 and16 : Option Addr} {sld16 : Array (Option Value)}
    {fd17 : Addr} {ocd17 kVd17 dcd17 pmd17 cdd17 ctd17 : Value} {odd17 and17 : Option Addr} {sld17 : Array (Option Value)}
    {fd18 : Addr} {ocd18 kVd18 dcd18 pmd18 cdd18 ctd18 : Value} {odd18 and18 : Option Addr} {sld18 : Array (Option Value)}
    {fd19 : Addr} {ocd19 kVd19 dcd19 pmd19 cdd19 ctd19 : Value} {odd19 and19 : Option Addr} {sld19 : Array (Option Value)}
    {fd20 : Addr} {ocd20 kVd20 dcd20 pmd20 cdd20 ctd20 : Value} {odd20 and20 : Option Addr} {sld20 : Array (Option Value)}
    {fd21 : Addr} {ocd21 kVd21 dcd21 pmd21 cdd21 ctd21 : Value} {odd21 and21 : Option Addr} {sld21 : Array (Option Value)}
    {fd22 : Addr} {ocd22 kVd22 dcd22 pmd22 cdd22 ctd22 : Value} {odd22 and22 : Option Addr} {sld22 : Array (Option Value)}
    {fd23 : Addr} {ocd23 kVd23 dcd23 pmd23 cdd23 ctd23 : Value} {odd23 and23 : Option Addr} {sld23 : Array (Option Value)}
    {fd24 : Addr} {ocd24 kVd24 dcd24 pmd24 cdd24 ctd24 : Value} {odd24 and24 : Option Addr} {sld24 : Array (Option Value)}
    {fd25 : Addr} {ocd25 kVd25 dcd25 pmd25 cdd25 ctd25 : Value} {odd25 and25 : Option Addr} {sld25 : Array (Option Value)}
    {fd26 : Addr} {ocd26 kVd26 dcd26 pmd26 cdd26 ctd26 : Value} {odd26 and26 : Option Addr} {sld26 : Array (Option Value)}
    {fd27 : Addr} {ocd27 kVd27 dcd27 pmd27 cdd27 ctd27 : Value} {odd27 and27 : Option Addr} {sld27 : Array (Option Value)}
    {fW : Addr} {ocW kVW dcW pmW cdW ctW : Value} {odW anW : Option Addr} {slW : Array (Option Value)}
    {fN : Addr} {ocN kVN dcN pmN cdN ctN : Value} {odN anN : Option Addr} {slN : Array (Option Value)}
    {fE : Addr} {ocE kVE dcE pmE cdE ctE : Value} {odE anE : Option Addr} {slE : Array (Option Value)}
    (aC : PySem.W.nsIn K mainGlobals "Forest" = some (some (.ref C))) (pg : PySem.W.plainGet K C Str.empty = true) (hd : PySem.W.hasDictIn K C = true) (po : PySem.W.plainOver K C = true) (sa : PySem.W.findIn K (.ref C) "__setattr__" = some (some (.builtin "object.__setattr__")))
    (mk : PySem.W.makesIn K C = true) (kc : PySem.W.keepIn K (.ref C) = true) (nP : PySem.W.findIn K (.ref C) "parents" = some none) (nB : PySem.W.findIn K (.ref C) "bearing" = some none) (nA : PySem.W.findIn K (.ref C) "asking" = some none)
    (mM : PySem.W.nsIn K mainGlobals "MOST_PLACES" = some (some (.int 60 tm)))
    (aN : PySem.W.findIn K (.ref C) "__init__" = some (some (.ref fN))) (iN : PySem.W.isFn K (.ref fN) = true) (lN : K.lookup fN = some ⟨ocN, odN, .func (PySem.W.fnOf "__init__" "Forest.__init__" (defArgs sInit) (defBody sInit) (defScope sInit) .none kVN dcN pmN anN cdN ctN), slN⟩) (oN : PySem.W.codeIn K cdN "Forest.__init__" = true) (kN : PySem.W.keepIn K (.ref fN) = true)
    (aE : PySem.W.findIn K (.ref C) "__eq__" = some (some (.ref fE))) (iE : PySem.W.isFn K (.ref fE) = true) (lE : K.lookup fE = some ⟨ocE, odE, .func (PySem.W.fnOf "__eq__" "Forest.__eq__" (defArgs sEqM) (defBody sEqM) (defScope sEqM) .none kVE dcE pmE anE cdE ctE), slE⟩) (oE : PySem.W.codeIn K cdE "Forest.__eq__" = true) (kE : PySem.W.keepIn K (.ref fE) = true)
    (y1 : PySem.W.findIn K (.ref C) "__class__" = some (some (.builtin "object.__class__"))) (y2 : PySem.W.specialIn K (.builtin "object.__class__") "__get__" = some (some (.builtin "getset_descriptor.__get__"))) (y3 : PySem.W.takesIn K (.builtin "object.__class__") = some true) (y4 : PySem.W.mroIn K C (.type "object") = some true)
    (neF : PySem.W.findIn K (.ref C) "__ne__" = some (some (.builtin "object.__ne__")))
    (ad0 : PySem.W.nsIn K mainGlobals "_law_deep" = some (some (.ref fd0))) (ld0 : K.lookup fd0 = some ⟨ocd0, odd0, .func (PySem.W.fnOf "_law_deep" "_law_deep" (defArgs sDeep) (defBody sDeep) (defScope sDeep) .none kVd0 dcd0 pmd0 and0 cdd0 ctd0), sld0⟩) (od0 : PySem.W.codeIn K cdd0 "_law_deep" = true) (kd0 : PySem.W.keepIn K (.ref fd0) = true)
    (ad1 : PySem.W.nsIn K mainGlobals "_law_bent" = some (some (.ref fd1))) (ld1 : K.lookup fd1 = some ⟨ocd1, odd1, .func (PySem.W.fnOf "_law_bent" "_law_bent" (defArgs sBent) (defBody sBent) (defScope sBent) .none kVd1 dcd1 pmd1 and1 cdd1 ctd1), sld1⟩) (od1 : PySem.W.codeIn K cdd1 "_law_bent" = true) (kd1 : PySem.W.keepIn K (.ref fd1) = true)
    (ad2 : PySem.W.nsIn K mainGlobals "_law_word" = some (some (.ref fd2))) (ld2 : K.lookup fd2 = some ⟨ocd2, odd2, .func (PySem.W.fnOf "_law_word" "_law_word" (defArgs sLWord) (defBody sLWord) (defScope sLWord) .none kVd2 dcd2 pmd2 and2 cdd2 ctd2), sld2⟩) (od2 : PySem.W.codeIn K cdd2 "_law_word" = true) (kd2 : PySem.W.keepIn K (.ref fd2) = true)
    (ad3 : PySem.W.nsIn K mainGlobals "_law_some" = some (some (.ref fd3))) (ld3 : K.lookup fd3 = some ⟨ocd3, odd3, .func (PySem.W.fnOf "_law_some" "_law_some" (defArgs sSome) (defBody sSome) (defScope sSome) .none kVd3 dcd3 pmd3 and3 cdd3 ctd3), sld3⟩) (od3 : PySem.W.codeIn K cdd3 "_law_some" = true) (kd3 : PySem.W.keepIn K (.ref fd3) = true)
    (ad4 : PySem.W.nsIn K mainGlobals "_law_row" = some (some (.ref fd4))) (ld4 : K.lookup fd4 = some ⟨ocd4, odd4, .func (PySem.W.fnOf "_law_row" "_law_row" (defArgs sLRow) (defBody sLRow) (defScope sLRow) .none kVd4 dcd4 pmd4 and4 cdd4 ctd4), sld4⟩) (od4 : PySem.W.codeIn K cdd4 "_law_row" = true) (kd4 : PySem.W.keepIn K (.ref fd4) = true)
    (ad5 : PySem.W.nsIn K mainGlobals "_law_rows_right" = some (some (.ref fd5))) (ld5 : K.lookup fd5 = some ⟨ocd5, odd5, .func (PySem.W.fnOf "_law_rows_right" "_law_rows_right" (defArgs sRowsR) (defBody sRowsR) (defScope sRowsR) .none kVd5 dcd5 pmd5 and5 cdd5 ctd5), sld5⟩) (od5 : PySem.W.codeIn K cdd5 "_law_rows_right" = true) (kd5 : PySem.W.keepIn K (.ref fd5) = true)
    (ad6 : PySem.W.nsIn K mainGlobals "is_integer" = some (some (.ref fd6))) (ld6 : K.lookup fd6 = some ⟨ocd6, odd6, .func (PySem.W.fnOf "is_integer" "is_integer" (defArgs sIsInt) (defBody sIsInt) (defScope sIsInt) .none kVd6 dcd6 pmd6 and6 cdd6 ctd6), sld6⟩) (od6 : PySem.W.codeIn K cdd6 "is_integer" = true) (kd6 : PySem.W.keepIn K (.ref fd6) = true)
    (ad7 : PySem.W.nsIn K mainGlobals "is_between" = some (some (.ref fd7))) (ld7 : K.lookup fd7 = some ⟨ocd7, odd7, .func (PySem.W.fnOf "is_between" "is_between" (defArgs sIsBtw) (defBody sIsBtw) (defScope sIsBtw) .none kVd7 dcd7 pmd7 and7 cdd7 ctd7), sld7⟩) (od7 : PySem.W.codeIn K cdd7 "is_between" = true) (kd7 : PySem.W.keepIn K (.ref fd7) = true)
    (ad8 : PySem.W.nsIn K mainGlobals "is_lot" = some (some (.ref fd8))) (ld8 : K.lookup fd8 = some ⟨ocd8, odd8, .func (PySem.W.fnOf "is_lot" "is_lot" (defArgs sIsLot) (defBody sIsLot) (defScope sIsLot) .none kVd8 dcd8 pmd8 and8 cdd8 ctd8), sld8⟩) (od8 : PySem.W.codeIn K cdd8 "is_lot" = true) (kd8 : PySem.W.keepIn K (.ref fd8) = true)
    (ad9 : PySem.W.nsIn K mainGlobals "_is_lot_of_places" = some (some (.ref fd9))) (ld9 : K.lookup fd9 = some ⟨ocd9, odd9, .func (PySem.W.fnOf "_is_lot_of_places" "_is_lot_of_places" (defArgs sLotOf) (defBody sLotOf) (defScope sLotOf) .none kVd9 dcd9 pmd9 and9 cdd9 ctd9), sld9⟩) (od9 : PySem.W.codeIn K cdd9 "_is_lot_of_places" = true) (kd9 : PySem.W.keepIn K (.ref fd9) = true)
    (ad10 : PySem.W.nsIn K mainGlobals "is_place" = some (some (.ref fd10))) (ld10 : K.lookup fd10 = some ⟨ocd10, odd10, .func (PySem.W.fnOf "is_place" "is_place" (defArgs sIsPlace) (defBody sIsPlace) (defScope sIsPlace) .none kVd10 dcd10 pmd10 and10 cdd10 ctd10), sld10⟩) (od10 : PySem.W.codeIn K cdd10 "is_place" = true) (kd10 : PySem.W.keepIn K (.ref fd10) = true)
    (ad11 : PySem.W.nsIn K mainGlobals "way" = some (some (.ref fd11))) (ld11 : K.lookup fd11 = some ⟨ocd11, odd11, .func (PySem.W.fnOf "way" "way" (defArgs sWay) (defBody sWay) (defScope sWay) .none kVd11 dcd11 pmd11 and11 cdd11 ctd11), sld11⟩) (od11 : PySem.W.codeIn K cdd11 "way" = true) (kd11 : PySem.W.keepIn K (.ref fd11) = true)
    (ad12 : PySem.W.nsIn K mainGlobals "_law_hand" = some (some (.ref fd12))) (ld12 : K.lookup fd12 = some ⟨ocd12, odd12, .func (PySem.W.fnOf "_law_hand" "_law_hand" (defArgs sHand) (defBody sHand) (defScope sHand) .none kVd12 dcd12 pmd12 and12 cdd12 ctd12), sld12⟩) (od12 : PySem.W.codeIn K cdd12 "_law_hand" = true) (kd12 : PySem.W.keepIn K (.ref fd12) = true)
    (ad13 : PySem.W.nsIn K mainGlobals "_law_draw" = some (some (.ref fd13))) (ld13 : K.lookup fd13 = some ⟨ocd13, odd13, .func (PySem.W.fnOf "_law_draw" "_law_draw" (defArgs sDraw) (defBody sDraw) (defScope sDraw) .none kVd13 dcd13 pmd13 and13 cdd13 ctd13), sld13⟩) (od13 : PySem.W.codeIn K cdd13 "_law_draw" = true) (kd13 : PySem.W.keepIn K (.ref fd13) = true)
    (ad14 : PySem.W.nsIn K mainGlobals "_law_is" = some (some (.ref fd14))) (ld14 : K.lookup fd14 = some ⟨ocd14, odd14, .func (PySem.W.fnOf "_law_is" "_law_is" (defArgs sIs) (defBody sIs) (defScope sIs) .none kVd14 dcd14 pmd14 and14 cdd14 ctd14), sld14⟩) (od14 : PySem.W.codeIn K cdd14 "_law_is" = true) (kd14 : PySem.W.keepIn K (.ref fd14) = true)
    (ad15 : PySem.W.nsIn K mainGlobals "_law_parents" = some (some (.ref fd15))) (ld15 : K.lookup fd15 = some ⟨ocd15, odd15, .func (PySem.W.fnOf "_law_parents" "_law_parents" (defArgs sParents) (defBody sParents) (defScope sParents) .none kVd15 dcd15 pmd15 and15 cdd15 ctd15), sld15⟩) (od15 : PySem.W.codeIn K cdd15 "_law_parents" = true) (kd15 : PySem.W.keepIn K (.ref fd15) = true)
    (ad16 : PySem.W.nsIn K mainGlobals "_law_lot" = some (some (.ref fd16))) (ld16 : K.lookup fd16 = some ⟨ocd16, odd16, .func (PySem.W.fnOf "_law_lot" "_law_lot" (defArgs sLawLot) (defBody sLawLot) (defScope sLawLot) .none kVd16 dcd16 pmd16 and16 cdd16 ctd16), sld16⟩) (od16 : PySem.W.codeIn K cdd16 "_law_lot" = true) (kd16 : PySem.W.keepIn K (.ref fd16) = true)
    (ad17 : PySem.W.nsIn K mainGlobals "_law_told" = some (some (.ref fd17))) (ld17 : K.lookup fd17 = some ⟨ocd17, odd17, .func (PySem.W.fnOf "_law_told" "_law_told" (defArgs sTold) (defBody sTold) (defScope sTold) .none kVd17 dcd17 pmd17 and17 cdd17 ctd17), sld17⟩) (od17 : PySem.W.codeIn K cdd17 "_law_told" = true) (kd17 : PySem.W.keepIn K (.ref fd17) = true)
    (ad18 : PySem.W.nsIn K mainGlobals "_law_made" = some (some (.ref fd18))) (ld18 : K.lookup fd18 = some ⟨ocd18, odd18, .func (PySem.W.fnOf "_law_made" "_law_made" (defArgs sMade) (defBody sMade) (defScope sMade) .none kVd18 dcd18 pmd18 and18 cdd18 ctd18), sld18⟩) (od18 : PySem.W.codeIn K cdd18 "_law_made" = true) (kd18 : PySem.W.keepIn K (.ref fd18) = true)
    (ad19 : PySem.W.nsIn K mainGlobals "under" = some (some (.ref fd19))) (ld19 : K.lookup fd19 = some ⟨ocd19, odd19, .func (PySem.W.fnOf "under" "under" (defArgs sUnder) (defBody sUnder) (defScope sUnder) .none kVd19 dcd19 pmd19 and19 cdd19 ctd19), sld19⟩) (od19 : PySem.W.codeIn K cdd19 "under" = true) (kd19 : PySem.W.keepIn K (.ref fd19) = true)
    (ad20 : PySem.W.nsIn K mainGlobals "_law_flag" = some (some (.ref fd20))) (ld20 : K.lookup fd20 = some ⟨ocd20, odd20, .func (PySem.W.fnOf "_law_flag" "_law_flag" (defArgs sFlag) (defBody sFlag) (defScope sFlag) .none kVd20 dcd20 pmd20 and20 cdd20 ctd20), sld20⟩) (od20 : PySem.W.codeIn K cdd20 "_law_flag" = true) (kd20 : PySem.W.keepIn K (.ref fd20) = true)
    (ad21 : PySem.W.nsIn K mainGlobals "row" = some (some (.ref fd21))) (ld21 : K.lookup fd21 = some ⟨ocd21, odd21, .func (PySem.W.fnOf "row" "row" (defArgs sRow) (defBody sRow) (defScope sRow) .none kVd21 dcd21 pmd21 and21 cdd21 ctd21), sld21⟩) (od21 : PySem.W.codeIn K cdd21 "row" = true) (kd21 : PySem.W.keepIn K (.ref fd21) = true)
    (ad22 : PySem.W.nsIn K mainGlobals "is_row" = some (some (.ref fd22))) (ld22 : K.lookup fd22 = some ⟨ocd22, odd22, .func (PySem.W.fnOf "is_row" "is_row" (defArgs sIsRow) (defBody sIsRow) (defScope sIsRow) .none kVd22 dcd22 pmd22 and22 cdd22 ctd22), sld22⟩) (od22 : PySem.W.codeIn K cdd22 "is_row" = true) (kd22 : PySem.W.keepIn K (.ref fd22) = true)
    (ad23 : PySem.W.nsIn K mainGlobals "_law_is_int" = some (some (.ref fd23))) (ld23 : K.lookup fd23 = some ⟨ocd23, odd23, .func (PySem.W.fnOf "_law_is_int" "_law_is_int" (defArgs sLIsInt) (defBody sLIsInt) (defScope sLIsInt) .none kVd23 dcd23 pmd23 and23 cdd23 ctd23), sld23⟩) (od23 : PySem.W.codeIn K cdd23 "_law_is_int" = true) (kd23 : PySem.W.keepIn K (.ref fd23) = true)
    (ad24 : PySem.W.nsIn K mainGlobals "_law_is_lot" = some (some (.ref fd24))) (ld24 : K.lookup fd24 = some ⟨ocd24, odd24, .func (PySem.W.fnOf "_law_is_lot" "_law_is_lot" (defArgs sLIsLot) (defBody sLIsLot) (defScope sLIsLot) .none kVd24 dcd24 pmd24 and24 cdd24 ctd24), sld24⟩) (od24 : PySem.W.codeIn K cdd24 "_law_is_lot" = true) (kd24 : PySem.W.keepIn K (.ref fd24) = true)
    (ad25 : PySem.W.nsIn K mainGlobals "_law_odd" = some (some (.ref fd25))) (ld25 : K.lookup fd25 = some ⟨ocd25, odd25, .func (PySem.W.fnOf "_law_odd" "_law_odd" (defArgs sLOdd) (defBody sLOdd) (defScope sLOdd) .none kVd25 dcd25 pmd25 and25 cdd25 ctd25), sld25⟩) (od25 : PySem.W.codeIn K cdd25 "_law_odd" = true) (kd25 : PySem.W.keepIn K (.ref fd25) = true)
    (ad26 : PySem.W.nsIn K mainGlobals "_law_due" = some (some (.ref fd26))) (ld26 : K.lookup fd26 = some ⟨ocd26, odd26, .func (PySem.W.fnOf "_law_due" "_law_due" (defArgs sLDue) (defBody sLDue) (defScope sLDue) .none kVd26 dcd26 pmd26 and26 cdd26 ctd26), sld26⟩) (od26 : PySem.W.codeIn K cdd26 "_law_due" = true) (kd26 : PySem.W.keepIn K (.ref fd26) = true)
    (ad27 : PySem.W.nsIn K mainGlobals "_law_seen_of" = some (some (.ref fd27))) (ld27 : K.lookup fd27 = some ⟨ocd27, odd27, .func (PySem.W.fnOf "_law_seen_of" "_law_seen_of" (defArgs sSeenOf) (defBody sSeenOf) (defScope sSeenOf) .none kVd27 dcd27 pmd27 and27 cdd27 ctd27), sld27⟩) (od27 : PySem.W.codeIn K cdd27 "_law_seen_of" = true) (kd27 : PySem.W.keepIn K (.ref fd27) = true)
    (aW : PySem.W.nsIn K mainGlobals "law" = some (some (.ref fW))) (lW : K.lookup fW = some ⟨ocW, odW, .func (PySem.W.fnOf "law" "law" (defArgs sLaw) (defBody sLaw) (defScope sLaw) .none kVW dcW pmW anW cdW ctW), slW⟩) (oW : PySem.W.codeIn K cdW "law" = true) (kW : PySem.W.keepIn K (.ref fW) = true)
    (zisinstance : PySem.W.nsIn K mainGlobals "isinstance" = some none) (ztuple : PySem.W.nsIn K mainGlobals "tuple" = some none) (zlist : PySem.W.nsIn K mainGlobals "list" = some none) (zbool : PySem.W.nsIn K mainGlobals "bool" = some none) (zlen : PySem.W.nsIn K mainGlobals "len" = some none) (zall : PySem.W.nsIn K mainGlobals "all" = some none) (zzip : PySem.W.nsIn K mainGlobals "zip" = some none) (zint : PySem.W.nsIn K mainGlobals "int" = some none) (zabs : PySem.W.nsIn K mainGlobals "abs" = some none) (zrange : PySem.W.nsIn K mainGlobals "range" = some none) (zenumerate : PySem.W.nsIn K mainGlobals "enumerate" = some none) (zreversed : PySem.W.nsIn K mainGlobals "reversed" = some none) (zsorted : PySem.W.nsIn K mainGlobals "sorted" = some none) (zmin : PySem.W.nsIn K mainGlobals "min" = some none) (zValueError : PySem.W.nsIn K mainGlobals "ValueError" = some none)
    {NE x0 x1 x2 : Addr}
    (ex0 : ClsRes P w K mg "BadForest" x0 NE ["part", "at"])
    (ex1 : ClsRes P w K mg "NoNumber" x1 NE [])
    (ex2 : ClsRes P w K mg "NoPlace" x2 NE [])
    (aNE : PySem.W.nsIn K mainGlobals "NoteError" = some (some (.ref NE))) (iNE : PySem.W.isClsIn K NE = true) (tNE : PySem.W.typeIn K (.ref NE) = some (.type "type")) (sNE : PySem.W.subIn K (.ref NE) (.type "BaseException") = some true) (ndE : ([x0, x1, x2] : List Addr).Nodup) (neE : ∀ a ∈ ([x0, x1, x2] : List Addr), a ≠ NE)
    (kF1 : PySem.W.isClsIn K C = true) (kF2 : PySem.W.typeIn K (.ref C) = some (.type "type")) (kF3 : PySem.W.mroIn K C (.type "int") = some false)
    {cR PR : Addr} {acR : Value} {bcR : Option Addr} {vsR : Array Value} {dcR : Array (Option Value)} (hcR : cdd5 = .ref cR) (lcR : K.lookup cR = some ⟨acR, bcR, .fields vsR, dcR⟩) (v11 : vsR[11]? = some (.ref PR)) (nR : K.lookup PR = none)
    : ∃ cR PR : Addr, ∃ fd : FuncData, PySem.W.tabIn K "_law_rows_right" = some (cR, PR) ∧ K.lookup PR = none ∧ (∀ (s : Shared) (v : Value), BindsTo s fd ⟨[v], []⟩ [("_law_script", v)]) ∧ ∀ base : Heap, K.In base → base.Ns mainGlobals mg → LamX.TabB base mg cR PR → FnOk P w K mg base CX0 11 fa fd ["_law_script"] (spLaw K [(PR, lamQ)]) := by
  have e := hfa.symm.trans (PySem.W.mg_of X G aW)
  cases e
  have IT : IsTxt mg := ⟨PySem.W.mg_none_of X G zisinstance, PySem.W.mg_none_of X G ztuple, PySem.W.mg_none_of X G zlist, PySem.W.mg_none_of X G zbool, PySem.W.mg_none_of X G zlen, PySem.W.mg_none_of X G zall, PySem.W.mg_none_of X G zzip⟩
  have NT : NamT mg := ⟨IT, PySem.W.mg_none_of X G zint, PySem.W.mg_none_of X G zabs, PySem.W.mg_none_of X G zrange, PySem.W.mg_none_of X G zenumerate, PySem.W.mg_none_of X G zreversed, PySem.W.mg_none_of X G zsorted, PySem.W.mg_none_of X G zmin⟩
  have Fd0 := fun_mk (st := sDeep) ld0 od0 kd0
  have Dd0 : ∃ f fd, DefAt K mg "_law_deep" sDeep ["_law_hand_here"] f fd := ⟨_, _, ⟨Fd0, Fd0.binds (ps := ["_law_hand_here"]) fun _ _ _ _ _ _ us hl => match us, hl with | [_], _ => rfl, PySem.W.mg_of X G ad0⟩⟩
  have Fd1 := fun_mk (st := sBent) ld1 od1 kd1
  have Dd1 : ∃ f fd, DefAt K mg "_law_bent" sBent ["_law_hand_here", "_law_told_here"] f fd := ⟨_, _, ⟨Fd1, Fd1.binds (ps := ["_law_hand_here", "_law_told_here"]) fun _ _ _ _ _ _ us hl => match us, hl with | [_, _], _ => rfl, PySem.W.mg_of X G ad1⟩⟩
  have Fd2 := fun_mk (st := sLWord) ld2 od2 kd2
  have Dd2 : ∃ f fd, DefAt K mg "_law_word" sLWord ["_law_call"] f fd := ⟨_, _, ⟨Fd2, Fd2.binds (ps := ["_law_call"]) fun _ _ _ _ _ _ us hl => match us, hl with | [_], _ => rfl, PySem.W.mg_of X G ad2⟩⟩
  have Fd3 := fun_mk (st := sSome) ld3 od3 kd3
  have Dd3 : ∃ f fd, DefAt K mg "_law_some" sSome ["_law_hand_here", "_law_things"] f fd := ⟨_, _, ⟨Fd3, Fd3.binds (ps := ["_law_hand_here", "_law_things"]) fun _ _ _ _ _ _ us hl => match us, hl with | [_, _], _ => rfl, PySem.W.mg_of X G ad3⟩⟩
  have Fd4 := fun_mk (st := sLRow) ld4 od4 kd4
  have Dd4 : ∃ f fd, DefAt K mg "_law_row" sLRow ["_law_places"] f fd := ⟨_, _, ⟨Fd4, Fd4.binds (ps := ["_law_places"]) fun _ _ _ _ _ _ us hl => match us, hl with | [_], _ => rfl, PySem.W.mg_of X G ad4⟩⟩
  have Fd5 := fun_mk (st := sRowsR) ld5 od5 kd5
  have Dd5 : ∃ f fd, DefAt K mg "_law_rows_right" sRowsR ["_law_hand_here"] f fd := ⟨_, _, ⟨Fd5, Fd5.binds (ps := ["_law_hand_here"]) fun _ _ _ _ _ _ us hl => match us, hl with | [_], _ => rfl, PySem.W.mg_of X G ad5⟩⟩
  have Fd6 := fun_mk (st := sIsInt) ld6 od6 kd6
  have Dd6 : ∃ f fd, DefAt K mg "is_integer" sIsInt ["thing"] f fd := ⟨_, _, ⟨Fd6, Fd6.binds (ps := ["thing"]) fun _ _ _ _ _ _ us hl => match us, hl with | [_], _ => rfl, PySem.W.mg_of X G ad6⟩⟩
  have Fd7 := fun_mk (st := sIsBtw) ld7 od7 kd7
  have Dd7 : ∃ f fd, DefAt K mg "is_between" sIsBtw ["thing", "least", "most"] f fd := ⟨_, _, ⟨Fd7, Fd7.binds (ps := ["thing", "least", "most"]) fun _ _ _ _ _ _ us hl => match us, hl with | [_, _, _], _ => rfl, PySem.W.mg_of X G ad7⟩⟩
  have Fd8 := fun_mk (st := sIsLot) ld8 od8 kd8
  have Dd8 : ∃ f fd, DefAt K mg "is_lot" sIsLot ["thing"] f fd := ⟨_, _, ⟨Fd8, Fd8.binds (ps := ["thing"]) fun _ _ _ _ _ _ us hl => match us, hl with | [_], _ => rfl, PySem.W.mg_of X G ad8⟩⟩
  have Fd9 := fun_mk (st := sLotOf) ld9 od9 kd9
  have Dd9 : ∃ f fd, DefAt K mg "_is_lot_of_places" sLotOf ["thing", "many"] f fd := ⟨_, _, ⟨Fd9, Fd9.binds (ps := ["thing", "many"]) fun _ _ _ _ _ _ us hl => match us, hl with | [_, _], _ => rfl, PySem.W.mg_of X G ad9⟩⟩
  have Fd10 := fun_mk (st := sIsPlace) ld10 od10 kd10
  have Dd10 : ∃ f fd, DefAt K mg "is_place" sIsPlace ["forest", "thing"] f fd := ⟨_, _, ⟨Fd10, Fd10.binds (ps := ["forest", "thing"]) fun _ _ _ _ _ _ us hl => match us, hl with | [_, _], _ => rfl, PySem.W.mg_of X G ad10⟩⟩
  have Fd11 := fun_mk (st := sWay) ld11 od11 kd11
  have Dd11 : ∃ f fd, DefAt K mg "way" sWay ["forest", "place"] f fd := ⟨_, _, ⟨Fd11, Fd11.binds (ps := ["forest", "place"]) fun _ _ _ _ _ _ us hl => match us, hl with | [_, _], _ => rfl, PySem.W.mg_of X G ad11⟩⟩
  have Fd12 := fun_mk (st := sHand) ld12 od12 kd12
  have Dd12 : ∃ f fd, DefAt K mg "_law_hand" sHand ["_law_script"] f fd := ⟨_, _, ⟨Fd12, Fd12.binds (ps := ["_law_script"]) fun _ _ _ _ _ _ us hl => match us, hl with | [_], _ => rfl, PySem.W.mg_of X G ad12⟩⟩
  have Fd13 := fun_mk (st := sDraw) ld13 od13 kd13
  have Dd13 : ∃ f fd, DefAt K mg "_law_draw" sDraw ["_law_hand_here", "_law_many"] f fd := ⟨_, _, ⟨Fd13, Fd13.binds (ps := ["_law_hand_here", "_law_many"]) fun _ _ _ _ _ _ us hl => match us, hl with | [_, _], _ => rfl, PySem.W.mg_of X G ad13⟩⟩
  have Fd14 := fun_mk (st := sIs) ld14 od14 kd14
  have Dd14 : ∃ f fd, DefAt K mg "_law_is" sIs ["_law_told_here", "_law_due_here"] f fd := ⟨_, _, ⟨Fd14, Fd14.binds (ps := ["_law_told_here", "_law_due_here"]) fun _ _ _ _ _ _ us hl => match us, hl with | [_, _], _ => rfl, PySem.W.mg_of X G ad14⟩⟩
  have Fd15 := fun_mk (st := sParents) ld15 od15 kd15
  have Dd15 : ∃ f fd, DefAt K mg "_law_parents" sParents ["_law_hand_here", "_law_places"] f fd := ⟨_, _, ⟨Fd15, Fd15.binds (ps := ["_law_hand_here", "_law_places"]) fun _ _ _ _ _ _ us hl => match us, hl with | [_, _], _ => rfl, PySem.W.mg_of X G ad15⟩⟩
  have Fd16 := fun_mk (st := sLawLot) ld16 od16 kd16
  have Dd16 : ∃ f fd, DefAt K mg "_law_lot" sLawLot ["_law_hand_here", "_law_places", "_law_share"] f fd := ⟨_, _, ⟨Fd16, Fd16.binds (ps := ["_law_hand_here", "_law_places", "_law_share"]) fun _ _ _ _ _ _ us hl => match us, hl with | [_, _, _], _ => rfl, PySem.W.mg_of X G ad16⟩⟩
  have Fd17 := fun_mk (st := sTold) ld17 od17 kd17
  have Dd17 : ∃ f fd, DefAt K mg "_law_told" sTold ["_law_hand_here", "_law_most"] f fd := ⟨_, _, ⟨Fd17, Fd17.binds (ps := ["_law_hand_here", "_law_most"]) fun _ _ _ _ _ _ us hl => match us, hl with | [_, _], _ => rfl, PySem.W.mg_of X G ad17⟩⟩
  have Fd18 := fun_mk (st := sMade) ld18 od18 kd18
  have Dd18 : ∃ f fd, DefAt K mg "_law_made" sMade ["_law_told_here"] f fd := ⟨_, _, ⟨Fd18, Fd18.binds (ps := ["_law_told_here"]) fun _ _ _ _ _ _ us hl => match us, hl with | [_], _ => rfl, PySem.W.mg_of X G ad18⟩⟩
  have Fd19 := fun_mk (st := sUnder) ld19 od19 kd19
  have Dd19 : ∃ f fd, DefAt K mg "under" sUnder ["forest", "place"] f fd := ⟨_, _, ⟨Fd19, Fd19.binds (ps := ["forest", "place"]) fun _ _ _ _ _ _ us hl => match us, hl with | [_, _], _ => rfl, PySem.W.mg_of X G ad19⟩⟩
  have Fd20 := fun_mk (st := sFlag) ld20 od20 kd20
  have Dd20 : ∃ f fd, DefAt K mg "_law_flag" sFlag ["_law_told_here", "_law_due_here"] f fd := ⟨_, _, ⟨Fd20, Fd20.binds (ps := ["_law_told_here", "_law_due_here"]) fun _ _ _ _ _ _ us hl => match us, hl with | [_, _], _ => rfl, PySem.W.mg_of X G ad20⟩⟩
  have Fd21 := fun_mk (st := sRow) ld21 od21 kd21
  have Dd21 : ∃ f fd, DefAt K mg "row" sRow ["places"] f fd := ⟨_, _, ⟨Fd21, Fd21.binds (ps := ["places"]) fun _ _ _ _ _ _ us hl => match us, hl with | [_], _ => rfl, PySem.W.mg_of X G ad21⟩⟩
  have Fd22 := fun_mk (st := sIsRow) ld22 od22 kd22
  have Dd22 : ∃ f fd, DefAt K mg "is_row" sIsRow ["thing"] f fd := ⟨_, _, ⟨Fd22, Fd22.binds (ps := ["thing"]) fun _ _ _ _ _ _ us hl => match us, hl with | [_], _ => rfl, PySem.W.mg_of X G ad22⟩⟩
  have Fd23 := fun_mk (st := sLIsInt) ld23 od23 kd23
  have Dd23 : ∃ f fd, DefAt K mg "_law_is_int" sLIsInt ["_law_thing", "_law_least", "_law_most"] f fd := ⟨_, _, ⟨Fd23, Fd23.binds (ps := ["_law_thing", "_law_least", "_law_most"]) fun _ _ _ _ _ _ us hl => match us, hl with | [_, _, _], _ => rfl, PySem.W.mg_of X G ad23⟩⟩
  have Fd24 := fun_mk (st := sLIsLot) ld24 od24 kd24
  have Dd24 : ∃ f fd, DefAt K mg "_law_is_lot" sLIsLot ["_law_thing", "_law_least", "_law_most"] f fd := ⟨_, _, ⟨Fd24, Fd24.binds (ps := ["_law_thing", "_law_least", "_law_most"]) fun _ _ _ _ _ _ us hl => match us, hl with | [_, _, _], _ => rfl, PySem.W.mg_of X G ad24⟩⟩
  have Fd25 := fun_mk (st := sLOdd) ld25 od25 kd25
  have Dd25 : ∃ f fd, DefAt K mg "_law_odd" sLOdd ["_law_hand_here"] f fd := ⟨_, _, ⟨Fd25, Fd25.binds (ps := ["_law_hand_here"]) fun _ _ _ _ _ _ us hl => match us, hl with | [_], _ => rfl, PySem.W.mg_of X G ad25⟩⟩
  have Fd26 := fun_mk (st := sLDue) ld26 od26 kd26
  have Dd26 : ∃ f fd, DefAt K mg "_law_due" sLDue ["_law_parents_here", "_law_bearing", "_law_asking"] f fd := ⟨_, _, ⟨Fd26, Fd26.binds (ps := ["_law_parents_here", "_law_bearing", "_law_asking"]) fun _ _ _ _ _ _ us hl => match us, hl with | [_, _, _], _ => rfl, PySem.W.mg_of X G ad26⟩⟩
  have Fd27 := fun_mk (st := sSeenOf) ld27 od27 kd27
  have Dd27 : ∃ f fd, DefAt K mg "_law_seen_of" sSeenOf ["_law_given"] f fd := ⟨_, _, ⟨Fd27, Fd27.binds (ps := ["_law_given"]) fun _ _ _ _ _ _ us hl => match us, hl with | [_], _ => rfl, PySem.W.mg_of X G ad27⟩⟩
  have FW := fun_mk (st := sLaw) lW oW kW
  have FN := fun_mk (st := sInit) lN oN kN
  have bN := FN.binds (ps := ["self", "parents", "bearing", "asking"]) fun _ _ _ _ _ _ us hl => match us, hl with | [_, _, _, _], _ => rfl
  have FE := fun_mk (st := sEqM) lE oE kE
  have bE := FE.binds (ps := ["self", "other"]) fun _ _ _ _ _ _ us hl => match us, hl with | [_, _], _ => rfl
  have T : FoT K mg C := ⟨⟨pg, hd, po, sa⟩, nP, nB, nA, PySem.W.mg_of X G aC⟩
  have T7 : ErrL P w K mg NE [(("BadForest" : Str), x0), (("NoNumber" : Str), x1), (("NoPlace" : Str), x2)] := by
    refine ⟨fun p hp => ?_, injOf ndE, fun p hp => neE p.2 (List.mem_map.mpr ⟨p, hp, rfl⟩), PySem.W.mg_of X G aNE, iNE, tNE, sNE⟩
    rcases List.mem_cons.mp hp with rfl | hp
    · show ClsRes P w K mg "BadForest" x0 NE (fsOf "BadForest")
      rw [show fsOf "BadForest" = [("part" : Str), ("at" : Str)] from by decide]
      exact ex0
    rcases List.mem_cons.mp hp with rfl | hp
    · show ClsRes P w K mg "NoNumber" x1 NE (fsOf "NoNumber")
      rw [show fsOf "NoNumber" = [] from by decide]
      exact ex1
    rcases List.mem_cons.mp hp with rfl | hp
    · show ClsRes P w K mg "NoPlace" x2 NE (fsOf "NoPlace")
      rw [show fsOf "NoPlace" = [] from by decide]
      exact ex2
    cases hp
  subst hcR
  have tR : PySem.W.tabIn K "_law_rows_right" = some (cR, PR) := by
    unfold PySem.W.tabIn
    rw [ad5]
    dsimp only
    rw [ld5]
    dsimp only [PySem.W.fnOf]
    rw [lcR]
    dsimp only
    rw [v11]
  have B : Defs K mg C := ⟨NT, T, ⟨tm, PySem.W.mg_of X G mM⟩, PySem.W.mg_none_of X G zValueError, ⟨_, _, FN, ⟨mk, aN, iN, kc⟩, bN⟩, ⟨_, _, FE, aE, iE, bE⟩, ⟨y1, y2, y3, y4⟩, neF, ⟨kF1, kF2, kF3⟩, Dd0, Dd1, Dd2, Dd3, Dd4, Dd5, Dd6, Dd7, Dd8, Dd9, Dd10, Dd11, Dd12, Dd13, Dd14, Dd15, Dd16, Dd17, Dd18, Dd19, Dd20, Dd21, Dd22, Dd23, Dd24, Dd25, Dd26, Dd27⟩
  exact ⟨cR, PR, PySem.W.fnOf "law" "law" (defArgs sLaw) (defBody sLaw) (defScope sLaw) .none kVW dcW pmW anW cdW ctW, tR, nR, fun s v => .of_eq rfl, fun base _ _ TB => ok_law FW B T7 List.mem_cons_self (List.mem_cons_of_mem _ List.mem_cons_self) (List.mem_cons_of_mem _ (List.mem_cons_of_mem _ List.mem_cons_self)) ⟨fun f oc od fd osl hm lk => PySem.W.law_code X G tR hm (X _ _ lk) rfl, TB⟩⟩
theorem walk {l : PySem.W.OpenLaw} {q : Program} {loose : List Str} {XP : (Str → Option Value) → Heap → Prop} {YP : World → Heap → Prop} {d : DefRec} {K : Params → PySem.W.Frag} (hn : l.most = some 63) (hdf : d.params.defaults = [])
    (hrec : ((recsOf q).find? (fun e => e.name == ("_law_rows_right" : Str))).isSome = true) (hY : ∀ (w : World) (h : Heap), YP w h → (K w.params).In h)
    (F : ∀ (w : World) (mg : Str → Option Value) (fa : Addr) (h : Heap), (K w.params).In h → h.Ns mainGlobals mg → mg d.name = some (.ref fa) →
      ∃ cR PR : Addr, ∃ fd : FuncData, PySem.W.tabIn (K w.params) "_law_rows_right" = some (cR, PR) ∧ (K w.params).lookup PR = none ∧ (∀ (s : Shared) (u : Value), BindsTo s fd ⟨[u], []⟩ [("_law_script", u)]) ∧ ∀ base : Heap, (K w.params).In base → base.Ns mainGlobals mg → LamX.TabB base mg cR PR → FnOk l.prog w (K w.params) mg base CX0 11 fa fd ["_law_script"] (spLaw (K w.params) [(PR, lamQ)])) :
    PySem.W.WalkO q loose XP YP l.row.toRowW d [] (fun f vs => PySem.call f vs) := by
  obtain ⟨dR, hR⟩ := Option.isSome_iff_exists.mp hrec
  refine Att.attach_callB (n := 63) hn hdf fun w s₀ s₁ mg mb fa o pm cd doc a vs ns G Y ho hd hcd hmg hobj hints hlen hbits hg => ?_
  have KX := hY w _ Y
  obtain ⟨cR, PR, fd, ht, nP, hb, hF⟩ := F w mg fa _ KX G.T.g hmg
  obtain ⟨hC, hP⟩ := PySem.W.tab_of G.T KX hR ht
  refine LamX.law_callTs (k := 11) (cs := [(cR, PR)]) KX G.T.g G.T.b G.T.builtins G.T.nolimit hg (fun p hp => by rw [List.mem_singleton.mp hp]; exact hP) (fun p hp => by rw [List.mem_singleton.mp hp]; exact nP) (fun p hp => by rw [List.mem_singleton.mp hp]; exact hC) G.T.bmain hobj hints (Nat.le_trans hlen (by decide)) ⟨rfl, by decide, by decide⟩ (fun base h1 h2 h3 => hF base h1 h2 (h3 (cR, PR) List.mem_cons_self)) hb (fun H hH hS => ⟨a, ns, rfl, hS, hlen, fun p hp => ?_, fun _ => rfl⟩) fun H e s' z => z
  rw [List.mem_singleton.mp hp]
  exact LamX.TabS.nil (hH (cR, PR) List.mem_cons_self)
end Cn
open PySem PySem.W PyProof.Rows
set_option maxRecDepth 100000 in
set_option maxHeartbeats 0 in
theorem PySem.Challenge.cw_cutnotes_k01_forests_and_rows_judged_holds : PySem.Challenge.rw_cutnotes_k01_forests_and_rows_judged.Holds := by
  w_on; o_law; k_head; (case hw => w_witness2)
  k_fill
  refine Cn.walk (l := PySem.Challenge.rw_cutnotes_k01_forests_and_rows_judged) rfl rfl ?hrec (fun w h Y => PySem.W.km_in_of Y) ?F
  case hrec => first | rfl | decide +kernel
  case F =>
    intro w mg fa h KX G hmg
    refine' Cn.withS PySem.Challenge.rw_cutnotes_k01_forests_and_rows_judged.prog KX G ?hn ?ht ?opq ?zsuper ?htop ?_
    (case hn => k_is); (case ht => k_is); (case opq => k_is); (case zsuper => k_is); (case htop => first | rfl | decide +kernel)
    intro S
    refine' Cn.all_mk KX G hmg ?aC ?pg ?hd ?po ?sa ?mk ?kc ?nP ?nB ?nA ?mM ?aN ?iN ?lN ?oN ?kN ?aE ?iE ?lE ?oE ?kE ?y1 ?y2 ?y3 ?y4 ?neF ?a_d0 ?l_d0 ?o_d0 ?k_d0 ?a_d1 ?l_d1 ?o_d1 ?k_d1 ?a_d2 ?l_d2 ?o_d2 ?k_d2 ?a_d3 ?l_d3 ?o_d3 ?k_d3 ?a_d4 ?l_d4 ?o_d4 ?k_d4 ?a_d5 ?l_d5 ?o_d5 ?k_d5 ?a_d6 ?l_d6 ?o_d6 ?k_d6 ?a_d7 ?l_d7 ?o_d7 ?k_d7 ?a_d8 ?l_d8 ?o_d8 ?k_d8 ?a_d9 ?l_d9 ?o_d9 ?k_d9 ?a_d10 ?l_d10 ?o_d10 ?k_d10 ?a_d11 ?l_d11 ?o_d11 ?k_d11 ?a_d12 ?l_d12 ?o_d12 ?k_d12 ?a_d13 ?l_d13 ?o_d13 ?k_d13 ?a_d14 ?l_d14 ?o_d14 ?k_d14 ?a_d15 ?l_d15 ?o_d15 ?k_d15 ?a_d16 ?l_d16 ?o_d16 ?k_d16 ?a_d17 ?l_d17 ?o_d17 ?k_d17 ?a_d18 ?l_d18 ?o_d18 ?k_d18 ?a_d19 ?l_d19 ?o_d19 ?k_d19 ?a_d20 ?l_d20 ?o_d20 ?k_d20 ?a_d21 ?l_d21 ?o_d21 ?k_d21 ?a_d22 ?l_d22 ?o_d22 ?k_d22 ?a_d23 ?l_d23 ?o_d23 ?k_d23 ?a_d24 ?l_d24 ?o_d24 ?k_d24 ?a_d25 ?l_d25 ?o_d25 ?k_d25 ?a_d26 ?l_d26 ?o_d26 ?k_d26 ?a_d27 ?l_d27 ?o_d27 ?k_d27 ?a_W ?l_W ?o_W ?k_W ?z_isinstance ?z_tuple ?z_list ?z_bool ?z_len ?z_all ?z_zip ?z_int ?z_abs ?z_range ?z_enumerate ?z_reversed ?z_sorted ?z_min ?z_ValueError ?ex0 ?ex1 ?ex2 ?aNE ?iNE ?tNE ?sNE ?ndE ?neE ?kF1 ?kF2 ?kF3 ?hcR ?lcR ?v11 ?nR
    (case ex0 => refine' Cn.cls2 KX G S ?aC_x0 ?xL_x0 ?sa_x0 ?ga_x0 ?gg_x0 ?ha_x0 ?iC_x0 ?tI_x0 ?kC_x0 ?su_x0 ?hf_x0 ?hcd_x0 ?cell_x0 ?code_x0 ?vf_x0 ?fl_x0 ?he_x0 ?no_x0 ?no2_x0; (case aC_x0 => k_is); (case xL_x0 => k_is); (case sa_x0 => k_is); (case ga_x0 => k_is); (case gg_x0 => k_is); (case ha_x0 => k_is); (case iC_x0 => k_is); (case tI_x0 => k_is); (case kC_x0 => k_is); (case su_x0 => ks_is); (case hf_x0 => k_is); (case hcd_x0 => k_is); (case cell_x0 => k_is); (case code_x0 => k_is); (case vf_x0 => rfl); (case fl_x0 => first | rfl | decide +kernel); (case he_x0 => exact fun L => ⟨_, rfl⟩); (case no_x0 => k_is); (case no2_x0 => k_is))
    (case ex1 => refine' Cn.cls0 KX G S ?aC_x1 ?xL_x1 ?sa_x1 ?ga_x1 ?gg_x1 ?ha_x1 ?iC_x1 ?tI_x1 ?kC_x1 ?su_x1 ?hf_x1 ?hcd_x1 ?cell_x1 ?code_x1 ?vf_x1 ?fl_x1 ?he_x1; (case aC_x1 => k_is); (case xL_x1 => k_is); (case sa_x1 => k_is); (case ga_x1 => k_is); (case gg_x1 => k_is); (case ha_x1 => k_is); (case iC_x1 => k_is); (case tI_x1 => k_is); (case kC_x1 => k_is); (case su_x1 => ks_is); (case hf_x1 => k_is); (case hcd_x1 => k_is); (case cell_x1 => k_is); (case code_x1 => k_is); (case vf_x1 => rfl); (case fl_x1 => first | rfl | decide +kernel); (case he_x1 => exact fun L => ⟨_, rfl⟩))
    (case ex2 => refine' Cn.cls0 KX G S ?aC_x2 ?xL_x2 ?sa_x2 ?ga_x2 ?gg_x2 ?ha_x2 ?iC_x2 ?tI_x2 ?kC_x2 ?su_x2 ?hf_x2 ?hcd_x2 ?cell_x2 ?code_x2 ?vf_x2 ?fl_x2 ?he_x2; (case aC_x2 => k_is); (case xL_x2 => k_is); (case sa_x2 => k_is); (case ga_x2 => k_is); (case gg_x2 => k_is); (case ha_x2 => k_is); (case iC_x2 => k_is); (case tI_x2 => k_is); (case kC_x2 => k_is); (case su_x2 => ks_is); (case hf_x2 => k_is); (case hcd_x2 => k_is); (case cell_x2 => k_is); (case code_x2 => k_is); (case vf_x2 => rfl); (case fl_x2 => first | rfl | decide +kernel); (case he_x2 => exact fun L => ⟨_, rfl⟩))
    (case aC => k_is); (case pg => k_is); (case hd => k_is); (case po => k_is); (case sa => k_is); (case mk => k_is); (case kc => k_is); (case nP => k_is)
    (case nB => k_is); (case nA => k_is); (case mM => k_is); (case aN => k_is); (case iN => k_is); (case lN => k_is); (case oN => k_is); (case kN => k_is)
    (case aE => k_is); (case iE => k_is); (case lE => k_is); (case oE => k_is); (case kE => k_is); (case y1 => k_is); (case y2 => k_is); (case y3 => k_is)
    (case y4 => k_is); (case neF => k_is); (case a_d0 => k_is); (case l_d0 => k_is); (case o_d0 => k_is); (case k_d0 => k_is); (case a_d1 => k_is); (case l_d1 => k_is)
    (case o_d1 => k_is); (case k_d1 => k_is); (case a_d2 => k_is); (case l_d2 => k_is); (case o_d2 => k_is); (case k_d2 => k_is); (case a_d3 => k_is); (case l_d3 => k_is)
    (case o_d3 => k_is); (case k_d3 => k_is); (case a_d4 => k_is); (case l_d4 => k_is); (case o_d4 => k_is); (case k_d4 => k_is); (case a_d5 => k_is); (case l_d5 => k_is)
    (case o_d5 => k_is); (case k_d5 => k_is); (case a_d6 => k_is); (case l_d6 => k_is); (case o_d6 => k_is); (case k_d6 => k_is); (case a_d7 => k_is); (case l_d7 => k_is)
    (case o_d7 => k_is); (case k_d7 => k_is); (case a_d8 => k_is); (case l_d8 => k_is); (case o_d8 => k_is); (case k_d8 => k_is); (case a_d9 => k_is); (case l_d9 => k_is)
    (case o_d9 => k_is); (case k_d9 => k_is); (case a_d10 => k_is); (case l_d10 => k_is); (case o_d10 => k_is); (case k_d10 => k_is); (case a_d11 => k_is); (case l_d11 => k_is)
    (case o_d11 => k_is); (case k_d11 => k_is); (case a_d12 => k_is); (case l_d12 => k_is); (case o_d12 => k_is); (case k_d12 => k_is); (case a_d13 => k_is); (case l_d13 => k_is)
    (case o_d13 => k_is); (case k_d13 => k_is); (case a_d14 => k_is); (case l_d14 => k_is); (case o_d14 => k_is); (case k_d14 => k_is); (case a_d15 => k_is); (case l_d15 => k_is)
    (case o_d15 => k_is); (case k_d15 => k_is); (case a_d16 => k_is); (case l_d16 => k_is); (case o_d16 => k_is); (case k_d16 => k_is); (case a_d17 => k_is); (case l_d17 => k_is)
    (case o_d17 => k_is); (case k_d17 => k_is); (case a_d18 => k_is); (case l_d18 => k_is); (case o_d18 => k_is); (case k_d18 => k_is); (case a_d19 => k_is); (case l_d19 => k_is)
    (case o_d19 => k_is); (case k_d19 => k_is); (case a_d20 => k_is); (case l_d20 => k_is); (case o_d20 => k_is); (case k_d20 => k_is); (case a_d21 => k_is); (case l_d21 => k_is)
    (case o_d21 => k_is); (case k_d21 => k_is); (case a_d22 => k_is); (case l_d22 => k_is); (case o_d22 => k_is); (case k_d22 => k_is); (case a_d23 => k_is); (case l_d23 => k_is)
    (case o_d23 => k_is); (case k_d23 => k_is); (case a_d24 => k_is); (case l_d24 => k_is); (case o_d24 => k_is); (case k_d24 => k_is); (case a_d25 => k_is); (case l_d25 => k_is)
    (case o_d25 => k_is); (case k_d25 => k_is); (case a_d26 => k_is); (case l_d26 => k_is); (case o_d26 => k_is); (case k_d26 => k_is); (case a_d27 => k_is); (case l_d27 => k_is)
    (case o_d27 => k_is); (case k_d27 => k_is); (case a_W => k_is); (case l_W => k_is); (case o_W => k_is); (case k_W => k_is); (case z_isinstance => k_is); (case z_tuple => k_is)
    (case z_list => k_is); (case z_bool => k_is); (case z_len => k_is); (case z_all => k_is); (case z_zip => k_is); (case z_int => k_is); (case z_abs => k_is); (case z_range => k_is)
    (case z_enumerate => k_is); (case z_reversed => k_is); (case z_sorted => k_is); (case z_min => k_is); (case z_ValueError => k_is); (case aNE => k_is); (case iNE => k_is); (case tNE => k_is)
    (case sNE => k_is); (case kF1 => k_is); (case kF2 => k_is); (case kF3 => k_is); (case hcR => rfl); (case lcR => k_is); (case v11 => rfl); (case nR => first | kernel_rfl | rfl)
    (case ndE => decide +kernel); (case neE => decide +kernel)
#print axioms PySem.Challenge.cw_cutnotes_k01_forests_and_rows_judged_holds
