import PyProof.Rows.All
import Wide.All
import OpenK.AllK
import Wide.FinOn
import HandS.Base
import HandS.Call
import HandS.List
import HandS.Comp
import HandS.Ends
import HandS.Dict
import HandS.Iter
import HandS.Words
import HandS.WordsList
import PySem.Challenge.RW_cutnotes_k00_errors_and_their_fields
import HandS.Codes
import HandS.Zip
import HandS.IsInst
import HandS.DeepEq
import KE.KExcSuper
import KE.KSuper
import HandS.Exc
import HandS.ExcInit
import HandS.ExcCtx
import HandS.ExcIs
import HandS.ExcValue
import KE.KExcIs
import HandS.Hot
import HandS.HotCalls
import HandS.Walk
import KE.RegKSuper
import HandS.ForMost
set_option Elab.async false
set_option linter.all false
set_option maxRecDepth 100000
set_option maxHeartbeats 4000000
namespace Cn
open PySem PySem.Spec PyProof.Rows L2
def topS (i : Nat) : Stmt := PySem.Challenge.pw_cutnotes_k00_errors_and_their_fields.main.body.getD i (.Pass ⟨0, 0, 0, 0⟩)
abbrev sHand : Stmt := topS 30
abbrev sDraw : Stmt := topS 31
/-! heaps -/
theorem smUpd {H : Hp} {p : Addr} {o : HO} (h : H p = none) : Same H (upd H p o) := fun b x e => by
  rw [upd_ne (ne_of_none e h)]
  exact e
theorem cutTake (xs : List V) (n : Nat) : cutV xs none (some (n : Int)) = xs.take n := by
  unfold cutV
  rw [HT.sIx_none, HT.sIx_nat]
  show (xs.drop 0).take (min n xs.length - 0) = xs.take n
  rw [List.drop_zero, Nat.sub_zero]
  by_cases h : n ≤ xs.length
  · rw [Nat.min_eq_left h]
  · rw [Nat.min_eq_right (by omega), List.take_length, List.take_of_length_le (by omega)]
theorem getMap {xs : List Int} {i : Nat} {v : V} (h : (xs.map V.int)[i]? = some v) : ∃ z, xs[i]? = some z ∧ v = .int z := by
  rw [List.getElem?_map] at h
  cases e : xs[i]? with
  | none => rw [e] at h; cases h
  | some z => rw [e] at h; exact ⟨z, rfl, (Option.some.inj h).symm⟩
/-! the hand that deals -/
abbrev handL (c : Addr) (i g m t : Int) : HO := .lst [.ref c, .int i, .int g, .int m, .int t]
structure HandIn (H : Hp) (p c : Addr) (cells : List Int) : Prop where
  ob : ∃ i g m t : Int, H p = some (handL c i g m t) ∧ 0 ≤ i
  ce : H c = some (.lst (cells.map V.int))
  ne : p ≠ c
def spHand (K : PySem.W.Frag) : Sp := fun vs H Q _ => ∃ (a : Addr) (ns : List Int), vs = [.ref a] ∧ SqL K H a (ns.map V.int) ∧ ns.length ≤ 63 ∧
  ∀ (H' : Hp) (p c : Addr) (cells : List Int), Same H H' → H p = none → H c = none → HandIn H' p c cells → Q (.ref p) H'
def nHand : List Str := ["_law_script", "_law_cells", "_law_cell"]
theorem scHand : FnScope nHand ["_law_script"] (defScope sHand) := ⟨rfl, rfl, rfl, by decide +kernel, rfl, by decide +kernel, by decide +kernel⟩
section
variable {P : Program} {w : World} {K : PySem.W.Frag} {mg : Str → Option Value} {base : Heap}
theorem ok_hand {f : Addr} {fd : FuncData} (F : Fun K "_law_hand" "_law_hand" sHand f fd) (mAbs : mg "abs" = none) (mInt : mg "int" = none) (mLen : mg "len" = none) : FnOk P w K mg base CX0 1 f fd ["_law_script"] (spHand K) := by
  refine F.ok scHand (fun vs H Q E h => ?_) (fun cdv A outer s H vs Q E hr h => ?_)
  · obtain ⟨a, ns, rfl, _⟩ := h
    rfl
  · obtain ⟨a, ns, rfl, hS, hlen, k⟩ := h
    refine ⟨_, pss_cons (ps_setLc (i := 1) (own := [("_law_cell", 2)]) (g := gName 2) (tt := tYes) rfl scHand.nd rfl rfl (sw_true rfl rfl rfl (by decide +kernel))
        (pi_list (pe_slice sl_list (pv 0) po_none (po_some pe_int))) (blkOk_by (N := nHand) (sc := defScope sHand) (by decide +kernel))
        (fun _ _ _ _ _ => pg_name (i := 2) scHand.nd rfl (Or.inl rfl)) (fun _ _ _ _ _ => pts_nil)
        (fun _ _ _ _ _ => pe_callB call_abs (by rfl) mAbs (by decide +kernel) (pa_cons (pe_callTy call_int1 (by rfl) mInt (by decide +kernel) (pa_cons (pv 2) pa_nil)) pa_nil)))
      (pss_one (ps_ret (pe_lst (pa_cons (pv 1) (pa_cons pe_int (pa_cons pe_int (pa_cons (pe_op op_add pe_int (pe_callB call_len_seq (by rfl) mLen PySem.boot_len (pa_cons (pv 1) pa_nil))) (pa_cons pe_int pa_nil)))))))), ?_⟩
    refine ⟨.ref a, rfl, 63, rfl, a, ns.map V.int, rfl, hS, fun q nq => ?_⟩
    have ex : cutV (ns.map V.int) none (some 63) = (ns.take 63).map V.int := by
      rw [show (some (63 : Int)) = some ((63 : Nat) : Int) from rfl, cutTake, List.map_take]
    rw [ex]
    have s1 : Same H (upd H q (.lst ((ns.take 63).map V.int))) := smUpd nq
    refine ⟨_, rfl, ⟨_, .inl (.inl upd_same)⟩, fun D nD => ?_⟩
    have nDq : D ≠ q := fun e => by rw [e, upd_same] at nD; cases nD
    refine lc_list (K := K) (a := q) (xs := (ns.take 63).map V.int) (fun i H' => Same (upd H q (.lst ((ns.take 63).map V.int))) H' ∧ ∃ cs : List Int, H' D = some (.lst (cs.map V.int)) ∧ cs.length = i) ?_ ?_ ?_ ?_
    · exact ⟨smUpd nD, [], upd_same, rfl⟩
    · rintro i H' _ ⟨sm, _⟩
      exact .inl (.inl (sm _ _ upd_same))
    · rintro i x H' hx ⟨sm, cs, hD, hl⟩
      obtain ⟨z, hz, rfl⟩ := getMap hx
      have hi : i < 63 := by
        have e := (List.getElem?_eq_some_iff.mp hz).1
        rw [List.length_take] at e
        omega
      refine ⟨rfl, ⟨_, rfl, .inl ⟨z, rfl, z, rfl, cs.map V.int, hD, ?_, fun b o e => ?_, cs ++ [if z < 0 then -z else z], ?_, ?_⟩⟩⟩
      · rw [List.length_map]; exact small1000 (by omega)
      · have nb : b ≠ D := fun e' => by rw [e', nD] at e; cases e
        rw [upd_ne nb]
        exact sm b o e
      · rw [upd_same, List.map_append]; rfl
      · rw [List.length_append, hl]; rfl
    · rintro H' ⟨sm, cs, hD, hl⟩
      refine ⟨_, rfl, .ref D, rfl, D, cs.map V.int, rfl, .inl (.inl (.inl hD)), 1, _, rfl, rfl, by show 5 ≤ sizeLine; decide, fun p np => ?_⟩
      have npD : p ≠ D := fun e => by rw [e, hD] at np; cases np
      refine k _ p D cs (fun b o e => ?_) ?_ ?_ ⟨⟨0, 0, _, 0, upd_same, by decide⟩, by rw [upd_ne npD.symm]; exact hD, npD⟩
      · have e1 := sm b o (s1 b o e)
        rw [upd_ne (ne_of_none e1 np)]
        exact e1
      · cases e : H p with
        | none => rfl
        | some o => rw [sm p o (s1 p o e)] at np; cases np
      · cases e : H D with
        | none => rfl
        | some o => rw [s1 D o e] at nD; cases nD
end
end Cn
namespace Cn
open PySem PySem.Spec PyProof.Rows L2
/-! a statement, then the rest, by a word of what stands between -/
def tMid (t u : TS) : TS := fun D σ H => ∃ R : L2.St → Hp → Prop, t { nx := R, rt := D.rt, bk := D.bk, ct := D.ct } σ H ∧ ∀ σ2 H2, R σ2 H2 → u D σ2 H2
theorem psMid {X : Cx} {st : Stmt} {rest : List Stmt} {t u : TS} (a : PS X st t) (b : PSs X rest u) : PSs X (st :: rest) (tMid t u) := by
  constructor
  intro pins s σ H D I h
  obtain ⟨R, h1, h2⟩ := h
  refine wpAny_execs_cons (thn (a.run pins s σ H _ I h1) fun fl s1 q => ?_)
  cases fl with
  | next =>
    obtain ⟨σ2, H2, I2, q2⟩ := q
    exact b.run pins s1 σ2 H2 D I2 (h2 σ2 H2 q2)
  | brk => exact q
  | cont => exact q
  | ret u => exact q
def spDraw : Sp := fun vs H Q _ => ∃ (p c : Addr) (cells : List Int) (k : Int), vs = [.ref p, .int k] ∧ HandIn H p c cells ∧ 0 < k ∧ k < 1000000 ∧
  ∀ (d i g m t : Int), 0 ≤ d → d < k → 0 ≤ i → Q (.int d) (upd H p (handL c i g m t))
def nDraw : List Str := ["_law_hand_here", "_law_many", "_law_cell", "_law_digit", "_law_number"]
theorem scDraw : FnScope nDraw ["_law_hand_here", "_law_many"] (defScope sDraw) := ⟨rfl, rfl, rfl, by decide +kernel, rfl, by decide +kernel, by decide +kernel⟩
theorem fmB {a k : Int} (h : 0 < k) : 0 ≤ a.fmod k ∧ a.fmod k < k := ⟨Int.fmod_nonneg_of_pos a h, Int.fmod_lt_of_pos a h⟩
theorem atNat {cs : List Int} {i : Int} (h0 : 0 ≤ i) (h1 : i < ((cs.map V.int).length : Int)) : ∃ z, atI (cs.map V.int) i = some (.int z) := by
  obtain ⟨n, rfl⟩ := Int.eq_ofNat_of_zero_le h0
  rw [List.length_map] at h1
  have hn : n < cs.length := by omega
  refine ⟨cs[n], ?_⟩
  unfold atI ixN
  rw [if_pos (by omega), List.length_map, if_pos (by omega)]
  show (cs.map V.int)[((n : Nat) : Int).toNat]? = _
  rw [Int.toNat_natCast, List.getElem?_map, List.getElem?_eq_getElem hn]
  rfl
section
variable {P : Program} {w : World} {K : PySem.W.Frag} {mg : Str → Option Value} {base : Heap}
theorem ok_draw {f : Addr} {fd : FuncData} (F : Fun K "_law_draw" "_law_draw" sDraw f fd) (mInt : mg "int" = none) (mLen : mg "len" = none) : FnOk P w K mg base CX0 1 f fd ["_law_hand_here", "_law_many"] spDraw := by
  refine F.ok scDraw (fun vs H Q E h => ?_) (fun cdv A outer s H vs Q E hr h => ?_)
  · obtain ⟨p, c, cells, k, rfl, _⟩ := h
    rfl
  · obtain ⟨p, c, cells, k, rfl, hI, k0, k1, q⟩ := h
    refine ⟨_, psMid (ps_if (PW.pt (pw_and (pt_cmpR op_eq (pe_ix ix_list (pv 0) pe_int (fun _ _ => rfl)) pe_int (nomark _))
            (pw_and1 (pt_cmpR op_lt (pe_ix ix_list (pv 0) pe_int (fun _ _ => rfl)) (pe_callB call_len_seq (by rfl) mLen PySem.boot_len (pa_cons (pe_ix ix_list (pv 0) pe_int (fun _ _ => rfl)) pa_nil)) (nomark _)))))
        (pss_cons (ps_set (i := 2) scDraw.nd rfl (Or.inl rfl) (pe_ix ix_list (pe_ix ix_list (pv 0) pe_int (fun _ _ => rfl)) (pe_ix ix_list (pv 0) pe_int (fun _ _ => rfl)) (fun _ _ => rfl)))
        (pss_cons (ps_asg (pe_op op_add (pe_ix ix_list (pv 0) pe_int (fun _ _ => rfl)) pe_int) (pg_sub (pv 0) pe_int set_list))
        (pss_cons (ps_asg (pe_op op_modN (pe_callTy call_int1 (by rfl) mInt (by decide +kernel) (pa_cons (pe_op op_add (pe_op op_add (pe_op op_mul (pe_ix ix_list (pv 0) pe_int (fun _ _ => rfl)) pe_int) (pv 2)) pe_int) pa_nil)) pe_int) (pg_sub (pv 0) pe_int set_list))
        (pss_one (ps_if (pt_cmpR op_ge (pv 2) (pe_op op_pow pe_int pe_int) (nomark _)) (pss_one (ps_asg (pv 2) (pg_sub (pv 0) pe_int set_list))) pss_nil)))))
        pss_nil)
      (pss_cons (ps_if (pt_cmpR op_gt (pe_ix ix_list (pv 0) pe_int (fun _ _ => rfl)) pe_int (nomark _))
        (pss_cons (ps_set (i := 3) scDraw.nd rfl (Or.inl rfl) (pe_op op_modN (pe_callTy call_int1 (by rfl) mInt (by decide +kernel) (pa_cons (pe_ix ix_list (pv 0) pe_int (fun _ _ => rfl)) pa_nil)) (pv 1)))
        (pss_cons (ps_asg (pe_op op_fdivN (pe_ix ix_list (pv 0) pe_int (fun _ _ => rfl)) (pv 1)) (pg_sub (pv 0) pe_int set_list))
        (pss_one (ps_ret (pv 3))))) pss_nil)
      (pss_cons (ps_asg (pe_op op_add (pe_ix ix_list (pv 0) pe_int (fun _ _ => rfl)) pe_int) (pg_sub (pv 0) pe_int set_list))
      (pss_cons (ps_set (i := 4) scDraw.nd rfl (Or.inl rfl) (pe_op op_modN (pe_callTy call_int1 (by rfl) mInt (by decide +kernel) (pa_cons (pe_op op_mul (pe_callTy call_int1 (by rfl) mInt (by decide +kernel) (pa_cons (pe_op op_add (pe_ix ix_list (pv 0) pe_int (fun _ _ => rfl)) (pe_op op_mul pe_int (pe_ix ix_list (pv 0) pe_int (fun _ _ => rfl)))) pa_nil)) pe_int) pa_nil)) pe_int))
      (pss_cons (ps_set (i := 4) scDraw.nd rfl (Or.inl rfl) (pe_op op_modN (pe_callTy call_int1 (by rfl) mInt (by decide +kernel) (pa_cons (pe_op op_mul (pv 4) (pe_op op_add (pe_op op_fdivN (pv 4) pe_int) pe_int)) pa_nil)) pe_int))
      (pss_cons (ps_set (i := 4) scDraw.nd rfl (Or.inl rfl) (pe_op op_modN (pe_callTy call_int1 (by rfl) mInt (by decide +kernel) (pa_cons (pe_op op_mul (pv 4) (pe_op op_add (pe_op op_fdivN (pv 4) pe_int) pe_int)) pa_nil)) pe_int))
      (pss_one (ps_ret (pe_op op_modN (pe_callTy call_int1 (by rfl) mInt (by decide +kernel) (pa_cons (pe_op op_fdivN (pv 4) pe_int) pa_nil)) (pv 1))))))))), ?_⟩
    obtain ⟨⟨i, g, m, t, hp, hi⟩, hc, ne⟩ := hI
    have sq : ∀ {H' : Hp} {a : Addr} {xs : List V}, H' a = some (.lst xs) → SqL K H' a xs := fun h => .inl (.inl h)
    have kn : k ≠ 0 := by omega
    have kb : k.natAbs < 1073741824 := by omega
    refine ⟨fun σ2 H2 => ∃ (cl : Option V) (i g m t : Int), 0 ≤ i ∧ σ2 = [some (.ref p), some (.int k), cl, none, none] ∧ H2 = upd H p (handL c i g m t), ?_, ?_⟩
    · have same : upd H p (handL c i g m t) = H := by
        funext b
        by_cases e : b = p
        · rw [e, upd_same, hp]
        · rw [upd_ne e]
      refine ⟨_, rfl, p, _, 2, _, rfl, rfl, sq hp, rfl, rfl, _, rfl, ?_⟩
      refine ite2 (fun _ => ?_) (fun _ => ⟨none, i, g, m, t, hi, rfl, same.symm⟩)
      refine ⟨_, rfl, p, _, 1, _, rfl, rfl, sq hp, rfl, _, rfl, p, _, 0, _, rfl, rfl, sq hp, rfl, c, _, rfl, .inl (sq hc), i, _, rfl, rfl, _, rfl, ?_⟩
      refine ite2 (fun hlt => ?_) (fun _ => ⟨none, i, g, m, t, hi, rfl, same.symm⟩)
      obtain ⟨z, hz⟩ := atNat hi (of_decide_eq_true hlt)
      refine ⟨_, rfl, p, _, 0, _, rfl, rfl, sq hp, rfl, _, rfl, p, _, 1, _, rfl, rfl, sq hp, rfl, c, _, i, _, rfl, rfl, sq hc, hz, ?_⟩
      refine ⟨_, rfl, p, _, 1, _, rfl, rfl, sq hp, rfl, _, _, rfl, rfl, _, rfl, p, _, 1, 1, rfl, rfl, hp, rfl, ?_⟩
      have st : ∀ (j : Nat) (v : V) (i g m t : Int), upd (upd H p (handL c i g m t)) p (.lst (List.set [.ref c, .int i, .int g, .int m, .int t] j v)) = upd H p (.lst (List.set [.ref c, .int i, .int g, .int m, .int t] j v)) := fun _ _ _ _ _ _ => upd_upd
      have s1 : upd H p (.lst (List.set [.ref c, .int i, .int g, .int m, .int t] 1 (.int (i + 1)))) = upd H p (handL c (i + 1) g m t) := rfl
      rw [s1]
      refine ⟨_, rfl, p, _, 3, _, rfl, rfl, sq upd_same, rfl, _, _, rfl, rfl, .inr (by decide), _, rfl, _, _, rfl, rfl, _, _, rfl, rfl, .inl ⟨_, rfl, _, _, rfl, rfl, (show (2147483629 : Int) ≠ 0 by decide), _, rfl, p, _, 3, 3, rfl, rfl, upd_same, rfl, ?_⟩⟩
      rw [st]
      refine ⟨_, rfl, _, _, rfl, rfl, ⟨by decide, by decide, by decide⟩, _, _, rfl, rfl, _, rfl, ?_⟩
      refine ite2 (fun _ => ?_) (fun _ => ⟨_, i + 1, g, _, t, by omega, rfl, rfl⟩)
      refine ⟨_, rfl, _, rfl, p, _, 2, 2, rfl, rfl, upd_same, rfl, ?_⟩
      exact ⟨_, i + 1, z, _, t, by omega, rfl, upd_upd⟩
    · rintro σ2 H2 ⟨cl, i, g, m, t, hi, rfl, rfl⟩
      have hp : upd H p (handL c i g m t) p = some (handL c i g m t) := upd_same
      refine ⟨_, rfl, p, _, 2, _, rfl, rfl, sq hp, rfl, _, _, rfl, rfl, _, rfl, ?_⟩
      refine ite2 (fun _ => ?_) (fun _ => ?_)
      · refine ⟨_, rfl, p, _, 2, _, rfl, rfl, sq hp, rfl, .inl ⟨_, rfl, _, rfl, _, _, rfl, rfl, kn, ?_⟩⟩
        refine ⟨_, rfl, p, _, 2, _, rfl, rfl, sq hp, rfl, _, rfl, _, _, rfl, rfl, ⟨kn, kb⟩, _, rfl, p, _, 2, 2, rfl, rfl, hp, rfl, _, rfl, ?_⟩
        rw [upd_upd]
        exact q _ i _ m t (fmB k0).1 (fmB k0).2 hi
      · refine ⟨_, rfl, p, _, 4, _, rfl, rfl, sq hp, rfl, _, _, rfl, rfl, _, rfl, p, _, 4, 4, rfl, rfl, hp, rfl, ?_⟩
        rw [upd_upd]
        refine ⟨_, rfl, p, _, 3, _, rfl, rfl, sq upd_same, rfl, _, rfl, p, _, 4, _, rfl, rfl, sq upd_same, rfl, _, _, rfl, rfl, .inl (by decide), _, _, rfl, rfl, .inl ⟨_, rfl, _, _, rfl, rfl, .inr (by decide), .inl ⟨_, rfl, _, _, rfl, rfl, (show (2147483647 : Int) ≠ 0 by decide), ?_⟩⟩⟩
        have b1 := fmB (a := (m + 7919 * (t + 1)) * 48271) (k := 2147483647) (by decide)
        refine ⟨_, rfl, _, rfl, _, _, rfl, rfl, ⟨by decide, by decide⟩, _, _, rfl, rfl, _, _, rfl, rfl, .inl ⟨by omega, by omega⟩, .inl ⟨_, rfl, _, _, rfl, rfl, (show (2147483647 : Int) ≠ 0 by decide), ?_⟩⟩
        have b2 := fmB (a := ((m + 7919 * (t + 1)) * 48271).fmod 2147483647 * ((((m + 7919 * (t + 1)) * 48271).fmod 2147483647).fdiv 1009 + 69621)) (k := 2147483647) (by decide)
        refine ⟨_, rfl, _, rfl, _, _, rfl, rfl, ⟨by decide, by decide⟩, _, _, rfl, rfl, _, _, rfl, rfl, .inl ⟨by omega, by omega⟩, .inl ⟨_, rfl, _, _, rfl, rfl, (show (2147483399 : Int) ≠ 0 by decide), ?_⟩⟩
        refine ⟨_, rfl, _, _, rfl, rfl, ⟨by decide, by decide⟩, .inl ⟨_, rfl, _, rfl, _, _, rfl, rfl, kn, ?_⟩⟩
        exact q _ i g m (t + 1) (fmB k0).1 (fmB k0).2 hi
end
end Cn
namespace Cn
open PySem PySem.Spec PyProof.Rows L2
/-! list.count of flat things -/
theorem cntEq {x : V} : ∀ {ys : List V} {us : List Value}, Vals ys us → ys.all flatV = true → us.countP (eqU x) = ys.countP (fun y => eqV y x)
  | _, _, .nil, _ => rfl
  | y :: ys, u :: us, .cons r t, f => by
    rw [List.all_cons, Bool.and_eq_true] at f
    rw [List.countP_cons, List.countP_cons, cntEq t f.2, eqU_of r f.1]
def rCntF (K : PySem.W.Frag) : V → List V → Hp → VK → Prop := fun x xs H Q => ∃ (a : Addr) (ys : List V) (y : V), x = .ref a ∧ xs = [y] ∧ SqL K H a ys ∧ flatV y = true ∧ ys.all flatV = true ∧ Q (.int (ys.countP (fun z => eqV z y) : Nat)) H
theorem mt_cntF {X : Cx} : MtR X "list.count" (rCntF X.K) := by
  intro pins s σ H x xs v us Q I rx rxs h
  obtain ⟨a, ys, y, rfl, rfl, hs, fy, fys, q⟩ := h
  cases rx
  obtain ⟨u, rfl, ru⟩ := rxs.one
  obtain ⟨its, rv, ⟨⟨cls, dd, data, sl⟩, n, ho, hc, hdn, hd⟩, hlen⟩ := I.list hs
  simp only at hc hd
  subst hc hd
  refine call_meets PySem.F.slot_list_count ⟨_, ho, rfl⟩ PySem.F.entry_list_count (PySem.F.args_list_count_2 _ _) (SeqAt.list_countAt a its.toArray n dd sl u (eqU y)) ⟨ho, fun z hz => mem_eqAt ru fy rv fys z (by simpa using hz), ?_⟩
  refine ⟨.int (ys.countP (fun z => eqV z y) : Nat), H, I.tok _, ⟨s.toks, ?_⟩, q⟩
  have e : its.toArray.toList.countP (eqU y) = ys.countP (fun z => eqV z y) := cntEq rv fys
  show Value.int ((its.toArray.toList.countP (eqU y) : Nat) : Int) s.toks = _
  rw [e]
abbrev sDeep : Stmt := topS 33
abbrev sSome : Stmt := topS 34
/-! nested things, none of them at p -/
def Good (p : Addr) (H : Hp) : Nat → V → Prop
  | 0 => fun v => flatV v = true ∨ ∃ a kvs, v = .ref a ∧ a ≠ p ∧ H a = some (.dK kvs) ∧ (kvs = [] ∨ ∃ k u, kvs = [(k, u)] ∧ (flatV u = true ∨ ∃ b, u = .ref b))
  | n + 1 => fun v => Good p H n v ∨ ∃ a xs, v = .ref a ∧ a ≠ p ∧ (H a = some (.tup xs) ∨ H a = some (.lst xs)) ∧ xs.length ≤ 5 ∧ ∀ x ∈ xs, Good p H n x
theorem good_up {p : Addr} {H : Hp} {n m : Nat} {v : V} (h : Good p H n v) (hm : n ≤ m) : Good p H m v := by
  induction m with
  | zero =>
    have e : n = 0 := by omega
    rw [← e]; exact h
  | succ m ih =>
    by_cases e : n = m + 1
    · rw [← e]; exact h
    · exact .inl (ih (by omega))
theorem good_keep {p : Addr} {H H' : Hp} (k : ∀ b o, b ≠ p → H b = some o → H' b = some o) : ∀ {n : Nat} {v : V}, Good p H n v → Good p H' n v
  | 0, v, h => by
    rcases h with h | ⟨a, kvs, e, ne, ha, hk⟩
    · exact .inl h
    · exact .inr ⟨a, kvs, e, ne, k _ _ ne ha, hk⟩
  | n + 1, v, h => by
    rcases h with h | ⟨a, xs, e, ne, ha, hl, hx⟩
    · exact .inl (good_keep k h)
    · exact .inr ⟨a, xs, e, ne, ha.imp (k _ _ ne) (k _ _ ne), hl, fun x hm => good_keep k (hx x hm)⟩
theorem good_plain {p : Addr} {H : Hp} : ∀ {n : Nat} {v : V}, Good p H n v → flatV v = true ∨ ∃ b, v = .ref b
  | 0, v, h => by
    rcases h with h | ⟨a, kvs, e, _⟩
    · exact .inl h
    · exact .inr ⟨a, e⟩
  | n + 1, v, h => by
    rcases h with h | ⟨a, xs, e, _⟩
    · exact good_plain h
    · exact .inr ⟨a, e⟩
def spSome : Sp := fun vs H Q _ => ∃ (p c q : Addr) (cells : List Int) (xs : List V), vs = [.ref p, .ref q] ∧ HandIn H p c cells ∧ H q = some (.lst xs) ∧ q ≠ p ∧ 0 < xs.length ∧ xs.length < 1000 ∧
  ∀ (v : V) (i g m t : Int), v ∈ xs → 0 ≤ i → Q v (upd H p (handL c i g m t))
theorem scSome : FnScope ["_law_hand_here", "_law_things"] ["_law_hand_here", "_law_things"] (defScope sSome) := ⟨rfl, rfl, rfl, by decide +kernel, rfl, by decide +kernel, by decide +kernel⟩
theorem atMem {xs : List V} {d : Int} (h0 : 0 ≤ d) (h1 : d < (xs.length : Int)) : ∃ v, atI xs d = some v ∧ v ∈ xs := by
  obtain ⟨n, rfl⟩ := Int.eq_ofNat_of_zero_le h0
  have hn : n < xs.length := by omega
  refine ⟨xs[n], ?_, List.getElem_mem hn⟩
  unfold atI ixN
  rw [if_pos (by omega), if_pos (by omega)]
  show xs[((n : Nat) : Int).toNat]? = _
  rw [Int.toNat_natCast, List.getElem?_eq_getElem hn]
theorem handIn_upd {H : Hp} {p c : Addr} {cells : List Int} (h : HandIn H p c cells) {i g m t : Int} (hi : 0 ≤ i) : HandIn (upd H p (handL c i g m t)) p c cells :=
  ⟨⟨i, g, m, t, upd_same, hi⟩, by rw [upd_ne h.ne.symm]; exact h.ce, h.ne⟩
theorem handIn_keep {H H' : Hp} {p c : Addr} {cells : List Int} (h : HandIn H p c cells) (k : Same H H') : HandIn H' p c cells := by
  obtain ⟨⟨i, g, m, t, hp, hi⟩, hc, ne⟩ := h
  exact ⟨⟨i, g, m, t, k _ _ hp, hi⟩, k _ _ hc, ne⟩
section
variable {P : Program} {w : World} {K : PySem.W.Frag} {mg : Str → Option Value} {base : Heap}
theorem ok_some {f fD : Addr} {fd fdD : FuncData} (F : Fun K "_law_some" "_law_some" sSome f fd) (FD : Fun K "_law_draw" "_law_draw" sDraw fD fdD) (bD : Binds K fdD ["_law_hand_here", "_law_many"] []) (gD : mg "_law_draw" = some (.ref fD)) (mInt : mg "int" = none) (mLen : mg "len" = none) :
    FnOk P w K mg base CX0 2 f fd ["_law_hand_here", "_law_things"] spSome := by
  have GD : FnOk P w K mg base CX0 1 fD fdD ["_law_hand_here", "_law_many"] spDraw := ok_draw FD mInt mLen
  refine F.ok scSome (fun vs H Q E h => ?_) (fun cdv A outer s H vs Q E hr h => ?_)
  · obtain ⟨p, c, q, cells, xs, rfl, _⟩ := h
    rfl
  · obtain ⟨p, c, q, cells, xs, rfl, hI, hq, ne, l0, l1, k⟩ := h
    refine ⟨_, pss_one (ps_ret (pe_ix ix_list (pv 1) (pe_call GD hr (by rfl) gD FD.kp bD .nil pass0 (pa_cons (pv 0) (pa_cons (pe_callB call_len_seq (by rfl) mLen PySem.boot_len (pa_cons (pv 1) pa_nil)) pa_nil))) (fun _ _ => rfl))), ?_⟩
    refine ⟨_, rfl, _, rfl, _, rfl, q, xs, rfl, .inl (.inl (.inl hq)), p, c, cells, _, rfl, hI, by omega, by omega, fun d i g m t d0 d1 i0 => ?_⟩
    obtain ⟨v, hv, hm⟩ := atMem d0 d1
    exact ⟨q, xs, d, v, rfl, rfl, .inl (.inl (by rw [upd_ne ne]; exact hq)), hv, k v i g m t hm i0⟩
end
end Cn
namespace Cn
open PySem PySem.Spec PyProof.Rows L2
/-- what a deep thing's making leaves: new things, the hand turned -/
def Kept (p : Addr) (H H' : Hp) : Prop := ∀ b o, b ≠ p → H b = some o → H' b = some o
theorem kept_same {p : Addr} {H H' : Hp} (h : Same H H') : Kept p H H' := fun b o _ e => h b o e
theorem kept_trans {p : Addr} {H H1 H2 : Hp} (h : Kept p H H1) (k : Kept p H1 H2) : Kept p H H2 := fun b o ne e => k b o ne (h b o ne e)
theorem kept_hand {p : Addr} {H : Hp} {o : HO} : Kept p H (upd H p o) := fun b u ne e => by rw [upd_ne ne]; exact e
theorem kept_new {p q : Addr} {H : Hp} {o : HO} (n : H q = none) : Kept p H (upd H q o) := kept_same (smUpd n)
def spDeep : Sp := fun vs H Q _ => ∃ (p c : Addr) (cells : List Int), vs = [.ref p] ∧ HandIn H p c cells ∧ ∀ (v : V) (H' : Hp), Good p H' 31 v → HandIn H' p c cells → Kept p H H' → Q v H'
def nDeep : List Str := ["_law_hand_here", "_law_found", "_law_turn"]
theorem scDeep : FnScope nDeep ["_law_hand_here"] (defScope sDeep) := ⟨rfl, rfl, rfl, by decide +kernel, rfl, by decide +kernel, by decide +kernel⟩
section
variable {P : Program} {w : World} {K : PySem.W.Frag} {mg : Str → Option Value} {base : Heap}
theorem ok_deep {f fD : Addr} {fd fdD : FuncData} (F : Fun K "_law_deep" "_law_deep" sDeep f fd) (FD : Fun K "_law_draw" "_law_draw" sDraw fD fdD) (bD : Binds K fdD ["_law_hand_here", "_law_many"] []) (gD : mg "_law_draw" = some (.ref fD)) (mInt : mg "int" = none) (mLen : mg "len" = none) (mRange : mg "range" = none) :
    FnOk P w K mg base CX0 2 f fd ["_law_hand_here"] spDeep := by
  have GD : FnOk P w K mg base CX0 1 fD fdD ["_law_hand_here", "_law_many"] spDraw := ok_draw FD mInt mLen
  refine F.ok scDeep (fun vs H Q E h => ?_) (fun cdv A outer s H vs Q E hr h => ?_)
  · obtain ⟨p, c, cells, rfl, _⟩ := h
    rfl
  · obtain ⟨p, c, cells, rfl, hI, k⟩ := h
    refine ⟨_, pss_cons (ps_set (i := 1) scDeep.nd rfl (Or.inl rfl) (pe_ix ix_list (pe_lst (pa_cons pe_non (pa_cons pe_str (pa_cons (pe_un un_neg pe_int) (pa_cons pe_dnewK pa_nil))))) (pe_call GD hr (by rfl) gD FD.kp bD .nil pass0 (pa_cons (pv 0) (pa_cons pe_int pa_nil))) (fun _ _ => rfl)))
      (pss_cons (ps_for PassesOwn.never rfl (pi_range1 rfl mRange (pa_cons (pe_op op_add pe_int (pe_call GD hr (by rfl) gD FD.kp bD .nil pass0 (pa_cons (pv 0) (pa_cons pe_int pa_nil)))) pa_nil)) (pg_name (i := 2) scDeep.nd rfl (Or.inl rfl))
        (pss_one (ps_set (i := 1) scDeep.nd rfl (Or.inl rfl) (pe_ix ix_list (pe_lst (pa_cons (pe_tup (pa_cons (pv 1) pa_nil)) (pa_cons (pe_lst (pa_cons (pv 1) pa_nil)) (pa_cons (pe_slice sl_tup (pe_tup (pa_cons (pv 1) (pa_cons (pv 1) pa_nil))) po_none (po_some pe_int)) (pa_cons (pe_disp (pps_cons pe_int (pv 1) pps_nil) (by rfl) (by rfl) (fun z => by cases z) (by decide)) pa_nil)))))
          (pe_call GD hr (by rfl) gD FD.kp bD .nil pass0 (pa_cons (pv 0) (pa_cons pe_int pa_nil))) (fun _ _ => rfl)))))
      (pss_one (ps_ret (pv 1)))), ?_⟩
    refine ⟨_, rfl, fun d nd => ⟨by show 4 ≤ sizeLine; decide, fun l nl => ?_⟩⟩
    have nld : l ≠ d := fun e => by rw [e, upd_same] at nl; cases nl
    have s1 : Same H (upd (upd H d (.dK [])) l (.lst [.non, .str "a", .int (-1), .ref d])) := (smUpd nd).trans (smUpd nl)
    have hI1 := handIn_keep hI s1
    obtain ⟨⟨_, _, _, _, hp0, _⟩, _⟩ := id hI1
    have nlp : l ≠ p := fun e => by
      rw [e, upd_same] at hp0; cases hp0
    have ndp : d ≠ p := fun e => by
      rw [← e, upd_ne nld.symm, upd_same] at hp0; cases hp0
    refine ⟨_, rfl, p, c, cells, 4, rfl, hI1, by decide, by decide, fun z i g m t z0 z1 i0 => ?_⟩
    generalize hH1 : upd (upd H d (.dK [])) l (.lst [.non, .str "a", .int (-1), .ref d]) = H1 at s1 hI1 hp0 ⊢
    have hl1 : H1 l = some (.lst [.non, .str "a", .int (-1), .ref d]) := by rw [← hH1, upd_same]
    have hd1 : H1 d = some (.dK []) := by rw [← hH1, upd_ne nld.symm, upd_same]
    have hI2 := handIn_upd (i := i) (g := g) (m := m) (t := t) hI1 i0
    have k1 : Kept p H (upd H1 p (handL c i g m t)) := kept_trans (kept_same s1) kept_hand
    have hl2 : (upd H1 p (handL c i g m t)) l = some (.lst [.non, .str "a", .int (-1), .ref d]) := by rw [upd_ne nlp]; exact hl1
    have hd2 : (upd H1 p (handL c i g m t)) d = some (.dK []) := by rw [upd_ne ndp]; exact hd1
    generalize upd H1 p (handL c i g m t) = H2 at hI2 k1 hl2 hd2 ⊢
    obtain ⟨v, hv, hm⟩ := atMem (xs := [.non, .str "a", .int (-1), .ref d]) z0 z1
    refine ⟨l, _, z, v, rfl, rfl, .inl (.inl hl2), hv, ?_⟩
    have gv : Good p H2 0 v := by
      rcases List.mem_cons.mp hm with rfl | hm
      · exact .inl rfl
      rcases List.mem_cons.mp hm with rfl | hm
      · exact .inl rfl
      rcases List.mem_cons.mp hm with rfl | hm
      · exact .inl rfl
      rcases List.mem_cons.mp hm with rfl | hm
      · exact .inr ⟨d, [], rfl, ndp, hd2, .inl rfl⟩
      cases hm
    refine ⟨_, rfl, p, c, cells, 30, rfl, hI2, by decide, by decide, fun z2 i2 g2 m2 t2 a0 a1 i20 => ⟨1, z2, rfl, rfl, 1 + z2, rfl, by omega, by omega, ?_⟩⟩
    refine for_range (lo := 0) (n := (1 + z2).toNat) (fun j σ H' => ∃ v tv, σ = [some (.ref p), some v, tv] ∧ Good p H' j v ∧ HandIn H' p c cells ∧ Kept p H H') ?_ ?_ ?_
    · exact ⟨v, none, rfl, good_keep (fun b o ne e => by rw [upd_ne ne]; exact e) gv, handIn_upd hI2 i20, kept_trans k1 kept_hand⟩
    · rintro j σ H' hj ⟨v, tv, rfl, gv, hI', k'⟩
      -- the four things
      refine ⟨_, rfl, by show 1 ≤ sizeLine; decide, fun x1 n1 => ⟨_, rfl, by show 1 ≤ sizeLine; decide, fun x2 n2 => ⟨_, rfl, _, rfl, by show 2 ≤ sizeLine; decide, fun x3 n3 => ⟨1, rfl, x3, _, rfl, .inl (.inl upd_same), ?_, fun x4 n4 => ?_⟩⟩⟩⟩
      · rintro ⟨_, z⟩
        exact absurd z (by show ¬ (HT.sIx 2 2 (some ((1 : Nat) : Int)) = 2); rw [HT.sIx_nat]; decide)
      rw [show cutV [v, v] none (some 1) = [v] from (cutTake [v, v] 1)]
      refine fun x5 n5 => ⟨_, rfl, upd_same, [(.inl 0, v)], rfl, by show 1 ≤ 15; decide, ?_⟩
      rw [upd_upd]
      refine ⟨by show 4 ≤ sizeLine; decide, fun x6 n6 => ?_⟩
      have S1 := smUpd (o := .tup [v]) n1
      have S2 := smUpd (o := .lst [v]) n2
      have S3 := smUpd (o := .tup [v, v]) n3
      have S4 := smUpd (o := .tup [v]) n4
      have S5 := smUpd (o := .dK (mergeK [] [(Sum.inl 0, v)])) n5
      have S6 := smUpd (o := .lst [.ref x1, .ref x2, .ref x4, .ref x5]) n6
      have e1 := (S2.trans (S3.trans (S4.trans (S5.trans S6)))) _ _ upd_same
      have e2 := (S3.trans (S4.trans (S5.trans S6))) _ _ upd_same
      have e4 := (S5.trans S6) _ _ upd_same
      have e5 := S6 _ _ upd_same
      have sB := S1.trans (S2.trans (S3.trans (S4.trans (S5.trans S6))))
      obtain ⟨⟨_, _, _, _, hp', _⟩, _⟩ := id hI'
      have q1 := ne_of_none hp' n1
      have q2 := ne_of_none (S1 _ _ hp') n2
      have q4 := ne_of_none ((S1.trans (S2.trans S3)) _ _ hp') n4
      have q5 := ne_of_none ((S1.trans (S2.trans (S3.trans S4))) _ _ hp') n5
      have q6 := ne_of_none ((S1.trans (S2.trans (S3.trans (S4.trans S5)))) _ _ hp') n6
      have hI6 := handIn_keep hI' sB
      refine ⟨_, rfl, p, c, cells, 4, rfl, hI6, by decide, by decide, fun y i g m t y0 y1 i0 => ?_⟩
      have e6 : upd (upd (upd (upd (upd (upd H' x1 (.tup [v])) x2 (.lst [v])) x3 (.tup [v, v])) x4 (.tup [v])) x5 (.dK (mergeK [] [(Sum.inl 0, v)]))) x6 (.lst [.ref x1, .ref x2, .ref x4, .ref x5]) x6 = some (.lst [.ref x1, .ref x2, .ref x4, .ref x5]) := upd_same
      generalize upd (upd (upd (upd (upd (upd H' x1 (.tup [v])) x2 (.lst [v])) x3 (.tup [v, v])) x4 (.tup [v])) x5 (.dK (mergeK [] [(Sum.inl 0, v)]))) x6 (.lst [.ref x1, .ref x2, .ref x4, .ref x5]) = H6 at *
      obtain ⟨u, hu, hm⟩ := atMem (xs := [.ref x1, .ref x2, .ref x4, .ref x5]) y0 y1
      refine ⟨x6, _, y, u, rfl, rfl, .inl (.inl (by rw [upd_ne q6.symm]; exact e6)), hu, ?_⟩
      have kk : Kept p H6 (upd H6 p (handL c i g m t)) := kept_hand
      have gv7 : Good p (upd H6 p (handL c i g m t)) j v := good_keep kk (good_keep (kept_same sB) gv)
      have gu : Good p (upd H6 p (handL c i g m t)) (j + 1) u := by
        rcases List.mem_cons.mp hm with rfl | hm
        · exact .inr ⟨x1, [v], rfl, q1.symm, .inl (kk _ _ q1.symm e1), by show 1 ≤ 5; decide, fun z hz => by rw [List.mem_singleton.mp hz]; exact gv7⟩
        rcases List.mem_cons.mp hm with rfl | hm
        · exact .inr ⟨x2, [v], rfl, q2.symm, .inr (kk _ _ q2.symm e2), by show 1 ≤ 5; decide, fun z hz => by rw [List.mem_singleton.mp hz]; exact gv7⟩
        rcases List.mem_cons.mp hm with rfl | hm
        · exact .inr ⟨x4, [v], rfl, q4.symm, .inl (kk _ _ q4.symm e4), by show 1 ≤ 5; decide, fun z hz => by rw [List.mem_singleton.mp hz]; exact gv7⟩
        rcases List.mem_cons.mp hm with rfl | hm
        · exact good_up (n := 0) (.inr ⟨x5, _, rfl, q5.symm, kk _ _ q5.symm e5, .inr ⟨_, v, rfl, good_plain gv⟩⟩) (Nat.zero_le _)
        cases hm
      exact ⟨u, _, rfl, gu, handIn_upd hI6 i0, kept_trans k' (kept_trans (kept_same sB) kk)⟩
    · rintro σ H' ⟨v, tv, rfl, gv, hI', k'⟩
      exact ⟨_, rfl, k v H' (good_up gv (by omega)) hI' k'⟩
end
end Cn
namespace Cn
open PySem PySem.Spec PyProof.Rows L2
abbrev sIs : Stmt := topS 32
theorem OpR.orr {X : Cx} {f : Value → Value → Sem Value} {r r2 : R2} (h : OpR X f r) (k : OpR X f r2) : OpR X f (fun x y H Q => r x y H Q ∨ r2 x y H Q) := by
  intro pins s σ H x y v u Q I rx ry q
  rcases q with q | q
  · exact h pins s σ H x y v u Q I rx ry q
  · exact k pins s σ H x y v u Q I rx ry q
/-! two things that are alike, of nesting at most n: flat ones and dicts are the same -/
def DictOk (H : Hp) (x : V) : Prop := ∃ a kvs, x = .ref a ∧ H a = some (.dK kvs) ∧ (kvs = [] ∨ ∃ k u, kvs = [(k, u)] ∧ (flatV u = true ∨ ∃ b, u = .ref b))
def EqG (H : Hp) : Nat → V → V → Prop
  | 0 => fun x y => x = y ∧ (flatV x = true ∨ DictOk H x)
  | n + 1 => fun x y => EqG H n x y ∨ ∃ a b xs ys, x = .ref a ∧ y = .ref b ∧ ((H a = some (.lst xs) ∧ H b = some (.lst ys)) ∨ (H a = some (.tup xs) ∧ H b = some (.tup ys))) ∧ xs.length ≤ 5 ∧ Paired (EqG H n) xs ys
theorem pairedSelf {F : V → V → Prop} : ∀ {xs : List V}, (∀ x ∈ xs, F x x) → Paired F xs xs
  | [], _ => .nil
  | x :: xs, h => .cons (h x List.mem_cons_self) (pairedSelf fun y hy => h y (List.mem_cons_of_mem _ hy))
theorem eqG_good {p : Addr} {H : Hp} : ∀ {n : Nat} {v : V}, Good p H n v → EqG H n v v
  | 0, v, h => by
    rcases h with h | ⟨a, kvs, e, _, ha, hk⟩
    · exact ⟨rfl, .inl h⟩
    · exact ⟨rfl, .inr ⟨a, kvs, e, ha, hk⟩⟩
  | n + 1, v, h => by
    rcases h with h | ⟨a, xs, e, _, ha, hl, hx⟩
    · exact .inl (eqG_good h)
    · exact .inr ⟨a, a, xs, xs, e, e, ha.elim (fun z => .inr ⟨z, z⟩) (fun z => .inl ⟨z, z⟩), hl, pairedSelf fun x hm => eqG_good (hx x hm)⟩
theorem eqG_same {H H' : Hp} (s : Same H H') : ∀ {n : Nat} {x y : V}, EqG H n x y → EqG H' n x y
  | 0, x, y, h => by
    obtain ⟨e, h | ⟨a, kvs, e2, ha, hk⟩⟩ := h
    · exact ⟨e, .inl h⟩
    · exact ⟨e, .inr ⟨a, kvs, e2, s _ _ ha, hk⟩⟩
  | n + 1, x, y, h => by
    rcases h with h | ⟨a, b, xs, ys, e1, e2, h, hl, hp⟩
    · exact .inl (eqG_same s h)
    · exact .inr ⟨a, b, xs, ys, e1, e2, h.imp (fun z => ⟨s _ _ z.1, s _ _ z.2⟩) (fun z => ⟨s _ _ z.1, s _ _ z.2⟩), hl, Paired.mapP hp fun _ _ z => eqG_same s z⟩
/-- told and due, alike: True comes out, new things apart nothing is changed -/
def spIs (n : Nat) : Sp := fun vs H Q _ => ∃ (x y : V), vs = [x, y] ∧ EqG H n x y ∧ ∀ H', Same H H' → Q (.bl true) H'
def nIs : List Str := ["_law_told", "_law_due", "_law_one", "_law_two"]
theorem scIs : FnScope nIs ["_law_told", "_law_due"] (defScope sIs) := ⟨rfl, rfl, rfl, by decide +kernel, rfl, by decide +kernel, by decide +kernel⟩
/-- all([..]) over two lists, or two tuples, of things alike -/
def tAllIs (n : Nat) : TE := fun σ H Q => ∃ a b xs ys, σ[0]? = some (some (.ref a)) ∧ σ[1]? = some (some (.ref b)) ∧ ((H a = some (.lst xs) ∧ H b = some (.lst ys)) ∨ (H a = some (.tup xs) ∧ H b = some (.tup ys))) ∧ xs.length ≤ 5 ∧ Paired (EqG H n) xs ys ∧ ∀ H', Same H H' → Q (.bl true) H'
/-! types -/
theorem kit2 {K : PySem.W.Frag} {T : String} {b : Bool} (h : ((kitB T "tuple").bind fun a => if a then some true else kitB T "list") = some b) : PySem.W.kitAny K (.type T) [.type "tuple", .type "list"] = some b := by
  cases e : kitB T "tuple" with
  | none => rw [e] at h; cases h
  | some a =>
    rw [e] at h
    cases a with
    | true =>
      have hb : b = true := (Option.some.inj h).symm
      subst hb
      exact kitAny_cons (kit_ty e) (fun z => nomatch z) fun _ => rfl
    | false =>
      have h : kitB T "list" = some b := h
      refine kitAny_cons (kit_ty e) (fun _ => kitAny_cons (kit_ty h) (fun z => ?_) (fun z => z)) (fun z => nomatch z)
      rw [z]; exact kitAny_nil
/-- a thing that is no list and no tuple -/
theorem leafTy {K : PySem.W.Frag} {H : Hp} {x : V} (h : flatV x = true ∨ DictOk H x) : ∃ T b, TyX K H x (.type T) ∧ PySem.W.kitAny K (.type T) [.type "tuple", .type "list"] = some false ∧ PySem.W.kitOne K (.type T) (.type "bool") = some b := by
  rcases h with h | ⟨a, kvs, rfl, ha, _⟩
  · cases x with
    | non => exact ⟨"NoneType", false, .base .non, kit2 (by decide +kernel), kit_ty (by decide +kernel)⟩
    | bl b => exact ⟨"bool", true, .base (.bl b), kit2 (by decide +kernel), kit_ty (by decide +kernel)⟩
    | int i => exact ⟨"int", false, .base (.int i), kit2 (by decide +kernel), kit_ty (by decide +kernel)⟩
    | str z => exact ⟨"str", false, .base (.str z), kit2 (by decide +kernel), kit_ty (by decide +kernel)⟩
    | _ => cases h
  · exact ⟨"dict", false, .base (.dK ha), kit2 (by decide +kernel), kit_ty (by decide +kernel)⟩
theorem seqTy {K : PySem.W.Frag} {H : Hp} {a : Addr} {xs : List V} {tu : Bool} (h : if tu = true then H a = some (.tup xs) else H a = some (.lst xs)) : ∃ T, TyX K H (.ref a) (.type T) ∧ PySem.W.kitAny K (.type T) [.type "tuple", .type "list"] = some true ∧ PySem.W.kitOne K (.type T) (.type "tuple") = some tu := by
  cases tu with
  | true => exact ⟨"tuple", .base (.tup (by simpa using h)), kit2 (by decide +kernel), kit_ty (by decide +kernel)⟩
  | false => exact ⟨"list", .base (.lst (by simpa using h)), kit2 (by decide +kernel), kit_ty (by decide +kernel)⟩
end Cn
namespace Cn
open PySem PySem.Spec PyProof.Rows L2
/-! comprehensions over zip -/
section
variable {K : PySem.W.Frag} {a b D : Addr} {xs ys : List V} {g : TG} {tt : TT} {te : TE} {vs : List Nat} {σ : L2.St} {H1 : Hp} {Qd : Hp → Prop}
def ZipTurn (Pv : Nat → Hp → Prop) (D : Addr) (g : TG) (tt : TT) (te : TE) (vs : List Nat) (σ : L2.St) (i : Nat) (x y : V) : Prop := ∀ (T : Addr) (H : Hp), Pv i H → H T = none → g (.ref T) (wipe σ vs) (upd H T (.tup [x, y])) fun σ2 H2 => wipe σ2 vs = wipe σ vs ∧ tt σ2 H2 fun k H3 =>
  if k = true then te σ2 H3 fun z H4 => ∃ acc, H4 D = some (.lst acc) ∧ acc.length < sizeLine ∧ Pv (i + 1) (upd H4 D (.lst (acc ++ [z]))) else Pv (i + 1) H3
theorem lcZipL (hl : xs.length = ys.length) (Pv : Nat → Hp → Prop) (h0 : Pv 0 (upd H1 D (.lst []))) (hq : ∀ i H, Pv i H → SqL K H a xs ∧ SqL K H b ys) (hs : ∀ i x y, xs[i]? = some x → ys[i]? = some y → ZipTurn Pv D g tt te vs σ i x y) (hd : ∀ H, Pv xs.length H → Qd H) :
    ∃ W : Nat → Nat → Hp → Prop, (∃ m, W 0 m (upd H1 D (.lst []))) ∧ ∀ i m H, W i m H → ((Itz K a b).stop i H ∧ Qd H) ∨ ((Itz K a b).go i H ∧ ∃ Nx : Hp → Prop, (∀ H', Nx H' → ∃ m', m' < m ∧ W (i + 1) m' H') ∧ ∀ x H', (Itz K a b).yld i H x H' → g x (wipe σ vs) H' fun σ2 H2 => wipe σ2 vs = wipe σ vs ∧ tt σ2 H2 fun k H3 =>
      if k = true then te σ2 H3 fun z H4 => ∃ acc, H4 D = some (.lst acc) ∧ acc.length < sizeLine ∧ Nx (upd H4 D (.lst (acc ++ [z]))) else Nx H3) := by
  refine ⟨fun i m H => m = xs.length - i ∧ i ≤ xs.length ∧ Pv i H, ⟨_, rfl, Nat.zero_le _, h0⟩, ?_⟩
  rintro i m H ⟨rfl, hi, p⟩
  obtain ⟨qa, qb⟩ := hq i H p
  rcases Nat.lt_or_ge i xs.length with lt | ge
  · have ea : xs[i]? = some xs[i] := List.getElem?_eq_getElem lt
    have lt2 : i < ys.length := by omega
    have eb : ys[i]? = some ys[i] := List.getElem?_eq_getElem lt2
    refine .inr ⟨⟨xs, ys, _, _, qa, qb, ea, eb⟩, Pv (i + 1), fun H' p' => ⟨xs.length - (i + 1), by omega, rfl, lt, p'⟩, ?_⟩
    rintro v H' ⟨T, u, z, rfl, nT, rfl, k1, k2⟩
    exact hs i u z (k1 xs qa) (k2 ys qb) T H p nT
  · have e : i = xs.length := by omega
    subst e
    exact .inl ⟨⟨xs, ys, qa, qb, .inl (Nat.le_refl _)⟩, hd H p⟩
theorem lcZipT (hl : xs.length = ys.length) (Pv : Nat → Hp → Prop) (h0 : Pv 0 (upd H1 D (.lst []))) (hq : ∀ i H, Pv i H → SqT K H a xs ∧ SqT K H b ys) (hs : ∀ i x y, xs[i]? = some x → ys[i]? = some y → ZipTurn Pv D g tt te vs σ i x y) (hd : ∀ H, Pv xs.length H → Qd H) :
    ∃ W : Nat → Nat → Hp → Prop, (∃ m, W 0 m (upd H1 D (.lst []))) ∧ ∀ i m H, W i m H → ((RZ.ItzT K a b).stop i H ∧ Qd H) ∨ ((RZ.ItzT K a b).go i H ∧ ∃ Nx : Hp → Prop, (∀ H', Nx H' → ∃ m', m' < m ∧ W (i + 1) m' H') ∧ ∀ x H', (RZ.ItzT K a b).yld i H x H' → g x (wipe σ vs) H' fun σ2 H2 => wipe σ2 vs = wipe σ vs ∧ tt σ2 H2 fun k H3 =>
      if k = true then te σ2 H3 fun z H4 => ∃ acc, H4 D = some (.lst acc) ∧ acc.length < sizeLine ∧ Nx (upd H4 D (.lst (acc ++ [z]))) else Nx H3) := by
  refine ⟨fun i m H => m = xs.length - i ∧ i ≤ xs.length ∧ Pv i H, ⟨_, rfl, Nat.zero_le _, h0⟩, ?_⟩
  rintro i m H ⟨rfl, hi, p⟩
  obtain ⟨qa, qb⟩ := hq i H p
  rcases Nat.lt_or_ge i xs.length with lt | ge
  · have ea : xs[i]? = some xs[i] := List.getElem?_eq_getElem lt
    have lt2 : i < ys.length := by omega
    have eb : ys[i]? = some ys[i] := List.getElem?_eq_getElem lt2
    refine .inr ⟨⟨xs, ys, _, _, qa, qb, ea, eb⟩, Pv (i + 1), fun H' p' => ⟨xs.length - (i + 1), by omega, rfl, lt, p'⟩, ?_⟩
    rintro v H' ⟨T, u, z, rfl, nT, rfl, k1, k2⟩
    exact hs i u z (k1 xs qa) (k2 ys qb) T H p nT
  · have e : i = xs.length := by omega
    subst e
    exact .inl ⟨⟨xs, ys, qa, qb, .inl (Nat.le_refl _)⟩, hd H p⟩
end
theorem pairedAt {F : V → V → Prop} : ∀ {xs ys : List V}, Paired F xs ys → ∀ {i : Nat} {x y : V}, xs[i]? = some x → ys[i]? = some y → F x y
  | _, _, .nil, i, x, y, h, _ => by simp at h
  | _, _, .cons h t, 0, x, y, h1, h2 => by
    cases (Option.some.inj h1)
    cases (Option.some.inj h2)
    exact h
  | _, _, .cons _ t, i + 1, x, y, h1, h2 => pairedAt t (i := i) (by simpa using h1) (by simpa using h2)
section
variable {P : Program} {w : World} {K : PySem.W.Frag} {mg : Str → Option Value} {base : Heap}
structure IsTxt (mg : Str → Option Value) : Prop where
  inst : mg "isinstance" = none
  tup : mg "tuple" = none
  lst : mg "list" = none
  bool : mg "bool" = none
  len : mg "len" = none
  all : mg "all" = none
  zip : mg "zip" = none
/-- the turn of the comprehension, by the promise of the next depth -/
theorem isTurn {n : Nat} {K' : PySem.W.Frag} {D : Addr} {xs ys : List V} {H0 : Hp} {u0 u1 z2 z3 : Option V} (hp : Paired (EqG H0 n) xs ys) (hx : xs.length ≤ 5) (nD : H0 D = none) (i : Nat) (x y : V) (h1 : xs[i]? = some x) (h2 : ys[i]? = some y) :
    ZipTurn (fun i H' => Same H0 H' ∧ H' D = some (.lst ((List.replicate i true).map V.bl))) D (gTup K' 2 (gCons (gName 2) (gCons (gName 3) gNil))) tYes (tCall (spIs n) [] (fun _ _ _ => False) (tCons (tVar 2) (tCons (tVar 3) tNil))) [2, 3] [u0, u1, z2, z3] i x y := by
  rintro T H ⟨sm, hD⟩ nT
  have hi : i < 5 := Nat.lt_of_lt_of_le (List.getElem?_eq_some_iff.mp h1).1 hx
  have sT : Same H (upd H T (.tup [x, y])) := smUpd nT
  refine ⟨T, [x, y], rfl, .inl (.inl upd_same), rfl, x, [y], rfl, y, [], rfl, rfl, rfl, x, rfl, y, rfl, x, y, rfl, eqG_same (sm.trans sT) (pairedAt hp h1 h2), fun H' s' => ?_⟩
  have hD' : H' D = some (.lst ((List.replicate i true).map V.bl)) := s' _ _ (sT _ _ hD)
  refine ⟨_, hD', by rw [List.length_map, List.length_replicate]; exact small1000 (by omega), fun b o e => ?_, ?_⟩
  · have nb : b ≠ D := fun z => by rw [z, nD] at e; cases e
    rw [upd_ne nb]
    exact s' _ _ (sT _ _ (sm _ _ e))
  · rw [upd_same, show List.replicate (i + 1) true = List.replicate i true ++ [true] from List.replicate_succ', List.map_append]
    rfl
theorem allRep (n : Nat) : (List.replicate n true).all id = true := by
  induction n with
  | zero => rfl
  | succ n ih => rw [List.replicate_succ, List.all_cons, ih]; rfl
theorem sameT {K : PySem.W.Frag} {H H' : Hp} {a : Addr} {xs : List V} (s : Same H H') (h : SqT K H a xs) : SqT K H' a xs := h.imp (fun r => r.imp (s _ _) (fun ⟨o, e⟩ => ⟨o, s _ _ e⟩)) (fun z => z)
theorem eqG_up {H : Hp} {n m : Nat} {x y : V} (h : EqG H n x y) (hm : n ≤ m) : EqG H m x y := by
  induction m with
  | zero =>
    have e : n = 0 := by omega
    rw [← e]; exact h
  | succ m ih =>
    by_cases e : n = m + 1
    · rw [← e]; exact h
    · exact .inl (ih (by omega))
theorem eqG_cases {H : Hp} : ∀ {n : Nat} {x y : V}, EqG H n x y → (x = y ∧ (flatV x = true ∨ DictOk H x)) ∨ ∃ m, n = m + 1 ∧ ∃ a b xs ys, x = .ref a ∧ y = .ref b ∧ ((H a = some (.lst xs) ∧ H b = some (.lst ys)) ∨ (H a = some (.tup xs) ∧ H b = some (.tup ys))) ∧ xs.length ≤ 5 ∧ Paired (EqG H m) xs ys
  | 0, x, y, h => .inl h
  | n + 1, x, y, h => by
    rcases h with h | ⟨a, b, xs, ys, h⟩
    · rcases eqG_cases h with z | ⟨m, e, a, b, xs, ys, e1, e2, e3, e4, e5⟩
      · exact .inl z
      · exact .inr ⟨n, rfl, a, b, xs, ys, e1, e2, e3, e4, Paired.mapP e5 fun _ _ q => eqG_up q (by omega)⟩
    · exact .inr ⟨n, rfl, a, b, xs, ys, h⟩
/-- by the depth: nothing at 0 -/
def spJ : Nat → Sp
  | 0 => fun _ _ _ _ => False
  | n + 1 => spIs n
/-- the same flat thing, the same dict, compared -/
theorem leafEq {K : PySem.W.Frag} {H : Hp} {x : V} {Q : VK} (h : flatV x = true ∨ DictOk H x) (k : Q (.bl true) H) : rEq x x H Q ∨ rEqV K x x H Q := by
  rcases h with h | ⟨a, kvs, rfl, ha, hk⟩
  · left
    refine ⟨?_, ?_⟩
    · cases x <;> first | rfl | cases h
    · rw [decide_eq_true rfl]; exact k
  · right
    refine ⟨1, by decide, .inr ⟨a, a, kvs, kvs, rfl, rfl, ha, ha, rfl, fun q hq => ?_⟩, k⟩
    rcases hk with rfl | ⟨kk, u, rfl, hu⟩
    · cases hq
    · obtain rfl := List.mem_singleton.mp hq
      refine ⟨u, ?_, ?_⟩
      · show valV [(kk, u)] kk = some u
        unfold valV
        simp
      · rcases hu with hu | ⟨b, rfl⟩
        · refine .inl ⟨rfl, ?_⟩
          cases u <;> first | rfl | cases hu
        · exact .inr (.inl ⟨b, rfl, rfl⟩)
theorem ok_is {f : Addr} {fd : FuncData} (F : Fun K "_law_is" "_law_is" sIs f fd) (T : IsTxt mg) (g : mg "_law_is" = some (.ref f)) (bI : Binds K fd ["_law_told", "_law_due"] []) : ∀ n : Nat, FnOk P w K mg base CX0 (n + 2) f fd ["_law_told", "_law_due"] (spJ n) := by
  intro n
  induction n with
  | zero => exact ⟨fun _ _ _ _ z => z.elim, fun _ _ _ _ _ _ _ _ _ _ _ _ _ z => z.elim⟩
  | succ n ih =>
    refine F.ok scIs (fun vs H Q E h => ?_) (fun cdv A outer s H vs Q E hr h => ?_)
    · obtain ⟨x, y, rfl, _⟩ := h
      rfl
    · obtain ⟨x, y, rfl, hE, k⟩ := h
      refine ⟨_, pss_cons (ps_if (pt_val (pe_callB call_isiT (by rfl) T.inst (by decide +kernel) (pa_cons (pv 1) (pa_cons (pe_tup (pa_cons (pe_bltn (v := .ty "tuple") (by rfl) T.tup (by decide +kernel) rfl) (pa_cons (pe_bltn (v := .ty "list") (by rfl) T.lst (by decide +kernel) rfl) pa_nil))) pa_nil))))
          (pss_cons (ps_if (PW.pt (pw_or (pt_cmpR op_ne (pe_callB call_isi (by rfl) T.inst (by decide +kernel) (pa_cons (pv 0) (pa_cons (pe_bltn (v := .ty "tuple") (by rfl) T.tup (by decide +kernel) rfl) pa_nil))) (pe_callB call_isi (by rfl) T.inst (by decide +kernel) (pa_cons (pv 1) (pa_cons (pe_bltn (v := .ty "tuple") (by rfl) T.tup (by decide +kernel) rfl) pa_nil))) (nomark _))
              (pw_or1 (pt_not (pt_val (pe_callB call_isiT (by rfl) T.inst (by decide +kernel) (pa_cons (pv 0) (pa_cons (pe_tup (pa_cons (pe_bltn (v := .ty "tuple") (by rfl) T.tup (by decide +kernel) rfl) (pa_cons (pe_bltn (v := .ty "list") (by rfl) T.lst (by decide +kernel) rfl) pa_nil))) pa_nil))))))))
            (pss_one (ps_ret pe_bl)) pss_nil)
          (pss_one (ps_ret (pe_and (pe_cmpR op_eq (pe_callB call_len_seq (by rfl) T.len PySem.boot_len (pa_cons (pv 0) pa_nil)) (pe_callB call_len_seq (by rfl) T.len PySem.boot_len (pa_cons (pv 1) pa_nil)) (nomark _)) (pe_one
            (pe_callB (cr_all rfl) (by rfl) T.all (by decide +kernel) (pa_cons (pe_lc (own := [("_law_one", 2), ("_law_two", 3)]) (g := gTup K 2 (gCons (gName 2) (gCons (gName 3) gNil))) (tt := tYes) rfl scIs.nd (RZ.pi_zipA (by rfl) T.zip (pa_cons (pv 0) (pa_cons (pv 1) pa_nil)))
              (blkOk_by (N := nIs) (sc := defScope sIs) (by decide +kernel)) (fun _ _ _ _ _ => pg_tup rfl (pgs_cons (pg_name (i := 2) scIs.nd rfl (Or.inl rfl)) (pgs_cons (pg_name (i := 3) scIs.nd rfl (Or.inl rfl)) pgs_nil))) (fun _ _ _ _ _ => pts_nil)
              (fun _ _ _ _ _ => pe_call ih hr (by rfl) g F.kp bI .nil pass0 (pa_cons (pv 2) (pa_cons (pv 3) pa_nil)))) pa_nil)))))))
          pss_nil)
        (pss_one (ps_ret (pe_and (pe_cmpR op_eq (pe_callB call_isi (by rfl) T.inst (by decide +kernel) (pa_cons (pv 0) (pa_cons (pe_bltn (v := .ty "bool") (by rfl) T.bool (by decide +kernel) rfl) pa_nil))) (pe_callB call_isi (by rfl) T.inst (by decide +kernel) (pa_cons (pv 1) (pa_cons (pe_bltn (v := .ty "bool") (by rfl) T.bool (by decide +kernel) rfl) pa_nil))) (nomark _))
          (pe_one (pe_cmpR (Cn.OpR.orr op_eq (op_eqV hr.units)) (pv 0) (pv 1) (nomark _)))))), ?_⟩
      have cls2 : Paired ClsV [.ty "tuple", .ty "list"] [.type "tuple", .type "list"] := .cons (.ty _) (.cons (.ty _) .nil)
      refine ⟨_, rfl, by show 2 ≤ sizeLine; decide, fun t1 m1 => ?_⟩
      have S1 := smUpd (o := .tup [.ty "tuple", .ty "list"]) m1
      rcases eqG_cases hE with ⟨rfl, hL⟩ | ⟨m, rfl, a, b, xs, ys, rfl, rfl, hk, hx, hp⟩
      · have hL1 : flatV x = true ∨ DictOk (upd H t1 (.tup [.ty "tuple", .ty "list"])) x := hL.imp (fun z => z) fun ⟨a, kvs, e, ha, q⟩ => ⟨a, kvs, e, S1 _ _ ha, q⟩
        obtain ⟨Ty, bb, ty, k2, k3⟩ := leafTy (K := K) hL1
        refine ⟨x, t1, _, _, _, false, rfl, upd_same, cls2, ty, k2, false, rfl, ?_⟩
        refine iteF ?_
        refine ⟨_, rfl, x, .ty "bool", _, _, bb, rfl, .ty _, ty, k3, _, rfl, x, .ty "bool", _, _, bb, rfl, .ty _, ty, k3, rfl, _, rfl, ?_⟩
        rw [if_pos (decide_eq_true rfl)]
        exact ⟨_, rfl, _, rfl, leafEq hL1 (k _ S1)⟩
      · obtain ⟨tu, ha, hb⟩ : ∃ tu : Bool, (if tu = true then H a = some (.tup xs) else H a = some (.lst xs)) ∧ (if tu = true then H b = some (.tup ys) else H b = some (.lst ys)) := by
          rcases hk with ⟨z1, z2⟩ | ⟨z1, z2⟩
          · exact ⟨false, by simpa using z1, by simpa using z2⟩
          · exact ⟨true, by simpa using z1, by simpa using z2⟩
        have keep : ∀ {H1 : Hp} {c : Addr} {zs : List V}, Same H H1 → (if tu = true then H c = some (.tup zs) else H c = some (.lst zs)) → (if tu = true then H1 c = some (.tup zs) else H1 c = some (.lst zs)) := fun {H1 c zs} sm z => by
          cases tu with
          | true => rw [if_pos rfl] at z ⊢; exact sm _ _ z
          | false => rw [if_neg Bool.false_ne_true] at z ⊢; exact sm _ _ z
        obtain ⟨Tb, ty, k2, k3⟩ := seqTy (K := K) (keep S1 hb)
        refine ⟨_, t1, _, _, _, true, rfl, upd_same, cls2, ty, k2, true, rfl, ?_⟩
        refine iteT ?_
        obtain ⟨Ta, ty2, k4, k5⟩ := seqTy (K := K) (keep S1 ha)
        refine ⟨_, rfl, _, .ty "tuple", _, _, tu, rfl, .ty _, ty2, k5, _, rfl, _, .ty "tuple", _, _, tu, rfl, .ty _, ty, k3, rfl, _, rfl, ?_⟩
        rw [show (!decide (V.bl tu = V.bl tu)) = false from by rw [decide_eq_true rfl]; rfl]
        refine iteF ?_
        refine ⟨_, rfl, by show 2 ≤ sizeLine; decide, fun t2 m2 => ?_⟩
        have S2 := S1.trans (smUpd (o := .tup [.ty "tuple", .ty "list"]) m2)
        obtain ⟨Tc, ty3, k6, k7⟩ := seqTy (K := K) (keep S2 ha)
        refine ⟨_, t2, _, _, _, true, rfl, upd_same, cls2, ty3, k6, true, rfl, ?_⟩
        refine iteF ?_
        have hl : xs.length = ys.length := Paired.length hp
        generalize upd (upd H t1 (.tup [.ty "tuple", .ty "list"])) t2 (.tup [.ty "tuple", .ty "list"]) = H2 at *
        have hk2 : (SqL K H2 a xs ∧ SqL K H2 b ys) ∨ (SqT K H2 a xs ∧ SqT K H2 b ys) := by
          rcases hk with ⟨z1, z2⟩ | ⟨z1, z2⟩
          · exact .inl ⟨.inl (.inl (S2 _ _ z1)), .inl (.inl (S2 _ _ z2))⟩
          · exact .inr ⟨.inl (.inl (S2 _ _ z1)), .inl (.inl (S2 _ _ z2))⟩
        have la : SqL K H2 a xs ∨ SqT K H2 a xs := hk2.imp And.left And.left
        have lb : SqL K H2 b ys ∨ SqT K H2 b ys := hk2.imp And.right And.right
        refine ⟨_, rfl, a, xs, rfl, la, _, rfl, b, ys, rfl, lb, rfl, _, rfl, ?_⟩
        rw [if_pos (decide_eq_true (by rw [hl]))]
        have hp2 : Paired (EqG H2 m) xs ys := Paired.mapP hp fun _ _ z => eqG_same S2 z
        refine ⟨_, rfl, _, rfl, a, b, xs, ys, rfl, ?_⟩
        have fin : ∀ {D : Addr} {H3 : Hp}, Same H2 H3 → H3 D = some (.lst ((List.replicate xs.length true).map V.bl)) → rAll K [.ref D] H3 Q := fun {D H3} s3 hD =>
          ⟨D, List.replicate xs.length true, rfl, .inl (.inl hD), by rw [allRep]; exact k _ (S2.trans s3)⟩
        rcases hk2 with ⟨qa, qb⟩ | ⟨qa, qb⟩
        · refine .inl ⟨qa, qb, fun D nD => ?_⟩
          refine lcZipL hl (fun i H' => Same H2 H' ∧ H' D = some (.lst ((List.replicate i true).map V.bl))) ⟨smUpd nD, upd_same⟩ (fun i H' z => ⟨z.1.seq qa, z.1.seq qb⟩) (fun i x y h1 h2 => isTurn hp2 hx nD i x y h1 h2) (fun H' z => ?_)
          exact fin z.1 z.2
        · refine .inr ⟨qa, qb, fun D nD => ?_⟩
          refine lcZipT hl (fun i H' => Same H2 H' ∧ H' D = some (.lst ((List.replicate i true).map V.bl))) ⟨smUpd nD, upd_same⟩ (fun i H' z => ⟨sameT z.1 qa, sameT z.1 qb⟩) (fun i x y h1 h2 => isTurn hp2 hx nD i x y h1 h2) (fun H' z => ?_)
          exact fin z.1 z.2
end
end Cn
/-! an error class over an own base over ValueError, whose __init__ says super().__init__(text) and stores its fields -/
namespace Cx0
open PySem PySem.W PySem.Calls PyProof.Rows PySem.HandSPX
/-- what the top has written of the class at C and of its __init__ at fI -/
structure EInit (prog : Program) (K : Frag) (C cc cda : Addr) : Prop where
  oex : L2.OexC K C
  cell : ∃ a b d, K.lookup cc = some ⟨a, b, .cell (some (.ref C)), d⟩
  code : ∃ (a : Value) (b : Option Addr) (vs : Array Value) (d : Array (Option Value)) (file : Str) (tf : Tok), K.lookup cda = some ⟨a, b, .fields vs, d⟩ ∧ vs[2]? = some (.str file tf) ∧ ((prog.main.file : Str) == file) = true
  sub : mroIn K C (.ref C) = some true
  sup : ks_superIn K C C "__init__" = some (some (.builtin "ValueError.__init__"))
  sVE : subIn K (.ref C) (.type "ValueError") = some true
  opq : nsIn K cStatics "thirdparty.any" = some none
/-- how the call of super().__init__(text) is read, its lines being one -/
def SupForm (env : Env) (msg : Str) (kk : Nat) (p0 p1 p2 p3 p4 : Pos) : Prop := ∃ pl : Sem Bool,
  eval (.Call (.Attribute (.Call (.Name "super" p0) [] [] p1) "__init__" p2) [.Constant (.str msg) kk p3] [] p4) env = (do
      let ov ← attributeBase (.Call (.Name "super" p0) [] [] p1) "__init__" env (eval (.Call (.Name "super" p0) [] [] p1) env)
      standAt p2.atName
      let (f, first) ← holding [ov] (getMethod ov "__init__" pl)
      callWith p4 f first (backTo p4 (starEach [.Constant (.str msg) kk p3] env)) [])
section
variable {prog : Program} {w : World} {A : Around} {E : Value → Shared → Prop} {K : Frag} {C cc cda fI x L : Addr} {mg m : Str → Option Value}
theorem clsD {K : Frag} (T : L2.OexC K C) : ∃ cd, clsIn K C = some cd ∧ refsVE cd.mro = true ∧ cd.hasDict = true := by
  obtain ⟨nm, q, N, bs, bm, sn, sub, ab, col, dd, k0, k1, k2, k3, k5, hC, hbm⟩ := T.cls
  refine ⟨{ name := nm, bases := bs, mro := .ref C :: bm, ns := N, qualname := q, hasDict := true, slotNames := sn, subclasses := sub, abstract := ab, collection := col, hasDel := false }, ?_, hbm, rfl⟩
  unfold clsIn
  rw [hC] <;> rfl
/-- the wrapper of ValueError.__init__ is called: the arguments are laid anew -/
theorem wrapCall {h : Heap} {g : Array GenState} {d : Drawn} {t : Nat} {os : OsState} {u t0 : Addr} {rest : List Value} {Q : Value → Shared → Prop} (T : L2.OexC K C) (X : K.In h) (hx : h.get? x = some (excO C t0)) (hu : h.get? u = some (kxs_mw "ValueError.__init__" x))
    (hz : rest.length ≤ sizeLine) (hq : ∀ h' t1, (∀ b o, b ≠ x → h.get? b = some o → h'.get? b = some o) → h'.get? x = some (excO C t1) → Q .none ⟨h', g, d, t, os⟩) :
    wpAny (model prog w) A (call (.ref u) rest) Q E ⟨h, g, d, t, os⟩ := by
  obtain ⟨nm, q, N, bs, bm, sn, sub, ab, col, dd, k0, k1, k2, k3, k5, hC, hbm⟩ := T.cls
  have hC' := X _ _ hC
  refine wpAny_call (codeAny_of_tree ?_)
  show wpAny _ A.in1 (callAny (.ref u) ⟨rest, []⟩) _ _ _
  simp only [callAny]
  refine wpAny_bind (wpAny_load hu ?_)
  simp only [kxs_mw, show (Value.type "method-wrapper" == Value.type "method" || Value.type "method-wrapper" == Value.type "builtin_function_or_method" || Value.type "method-wrapper" == Value.type "method-wrapper") = true by decide, if_true]
  refine KFB.if_so (by decide) ?_
  refine wpAny_bind (check_bound_init F.excBase_ValueError.toExcCallFacts hC' hx rfl ?_)
  refine wpAny_bind (wpAny_pure (wpAny_pure ?_))
  refine ⟨plainId_quiet F.excBase_ValueError.init.plain _, codeAny_builtin F.excBase_ValueError.initEntry ?_⟩
  exact exc_init_tree (cls := .ref C) (t0 := t0) (dv := none) (c2 := .none) (c3 := .none) (b4 := .bool false) hx hz fun h' k1 k2 _ => hq h' _ k1 k2
/-- super().__init__(text) -/
theorem superStmt {s : Shared} {body : List Stmt} {q : Str} {scope : Scope} {p0 p1 p2 p3 p4 p5 : Pos} {msg : Str} {kk : Nat} {fd : FuncData} {ar : Arg} {t0 : Addr} {mb : Str → Option Value} {oc : Value} {od : Option Addr} {osl : Array (Option Value)} {Q : Flow → Shared → Prop}
    (T : EInit prog K C cc cda) (X : K.In s.heap) (hG : s.heap.Ns mainGlobals mg) (hB : s.heap.Ns builtinsNs mb) (mS : mg "super" = none) (bS : mb "super" = some (.type "super"))
    (hn : s.heap.Ns L m) (hf : K.lookup fI = some ⟨oc, od, .func fd, osl⟩) (hp : (fd.params.posonlyargs ++ fd.params.args).head? = some ar) (hv : m ar.arg = some (.ref x))
    (hx : s.heap.get? x = some (excO C t0)) (hks : scope.names.lookup ("super" : Str) = some .globalImplicit) (hkc : scope.names.lookup ("__class__" : Str) = some .free) (hka : scope.names.lookup ar.arg = some .local) (hk : scope.kind = .function)
    (htop : (prog.main.scope.names.lookup ("super" : Str)).isSome = false)
    (he : SupForm (ksEnv q scope L fI (.ref cda) cc) msg kk p0 p1 p2 p3 p4)
    (hQ : ∀ h' tk t1, (∀ b o, b ≠ x → s.heap.get? b = some o → h'.get? b = some o) → h'.get? x = some (excO C t1) → Q .next { s with heap := h', toks := tk }) :
    _root_.PySem.wpAt (model prog w) A (.func body (ksEnv q scope L fI (.ref cda) cc)) (exec (.Expr (.Call (.Attribute (.Call (.Name "super" p0) [] [] p1) "__init__" p2) [.Constant (.str msg) kk p3] [] p4) p5) (ksEnv q scope L fI (.ref cda) cc)) Q E s := by
  obtain ⟨a1, b1, d1, hcell⟩ := T.cell
  obtain ⟨a2, b2, vs, d2, file, tf, hcode, hvs, hfile⟩ := T.code
  obtain ⟨cdD, hD, hm, hh⟩ := clsD T.oex
  obtain ⟨pl, he⟩ := he
  obtain ⟨hp0, g, d, t, os⟩ := s
  have I : InstAt hp0 x (excO C t0) C none := ⟨hx, rfl, rfl, trivial⟩
  obtain ⟨oD, hD1, hD2⟩ : ∃ oD, hp0.get? C = some oD ∧ oD.data = .cls cdD := by
    unfold clsIn at hD
    split at hD
    · rename_i c d cd' sl ho
      cases hD
      exact ⟨_, X _ _ ho, rfl⟩
    · cases hD
  refine ks_wpAt_Expr_any ?_ (by first | rfl | (simp [interactive, hk]; done)) (by first | rfl | (simp [swapsWith, hk]; done))
  refine ks_wpAt_MethodCall (pl := pl) ?_ he
  refine ks_wpAt_super_base (env := ksEnv q scope L fI (.ref cda) cc) hks hkc (by decide) rfl (X _ _ hf) rfl hp rfl (X _ _ hcode) rfl hvs hfile htop ?_
  refine ks_loadName_global hk hks (loadGlobal_builtin (env := ksEnv q scope L fI (.ref cda) cc) hG mS hB bS ⟨rfl, ?_⟩)
  refine wpAny_loadName_free hk hkc rfl ⟨_, X _ _ hcell, rfl⟩ ?_
  refine wpAny_loadName_local hk hka hn hv ?_
  refine ks_wpAny_isType_cls hD1 hD2 ⟨rfl, ?_⟩
  refine ks_wpAny_call_super hD1 hD2 I.at_ I.cls (fun c e => by cases e) (looks_mroIn X T.sub) (fun h1 e1 k1 => ?_)
  have X1 : K.In h1 := X.keeps k1
  have hx1 := k1 _ _ hx
  have I1 : InstAt h1 x (excO C t0) C none := ⟨hx1, rfl, rfl, trivial⟩
  have hsup := T.sup
  unfold ks_superIn at hsup
  rw [hD, Option.bind_some] at hsup
  refine kxs_getMethod kxs_ValueError e1 (looks_opaque X1 T.opq) (l₀ := cdD.mro) (fun A Q E s k q => wpAny_bind ((looks_clsIn X1 hD) A _ E s k (wpAny_pure q))) rfl X1 hsup (I1.type.andThen (looks_subIn X1 T.sVE)) (ks_ne X1 I1 hD) (by decide) ?_
  have k2 : ∀ b o, h1.get? b = some o → (h1.push (kxs_mw "ValueError.__init__" x)).get? b = some o := fun b o e => Heap.get?_push_of_some _ e
  have hu := Heap.get?_push_size h1 (o := kxs_mw "ValueError.__init__" x) rfl
  refine kxs_callWith (i := "ValueError.__init__") (x := x) (by rfl) (evalArgs_plain ?_)
  show wpAny _ _ (spliced ((false, eval (.Constant (.str msg) kk p3) (ksEnv q scope L fI (.ref cda) cc)) :: backTo p4 (starEach [] (ksEnv q scope L fI (.ref cda) cc)))) _ _ _
  refine Calls.spliced_cons (Calls.Constant_str (k := kk) (pos := p3) (Calls.spliced_nil ⟨hu, ?_⟩))
  refine wrapCall T.oex (X1.keeps k2) (k2 _ _ hx1) hu (by show 1 ≤ sizeLine; decide) fun h' t1 k3 hx3 => ?_
  exact hQ h' _ t1 (fun b o hb e => k3 b o hb (k2 _ _ (k1 _ _ e))) hx3

theorem ldV {M : Model} {s : Shared} {env : Env} {m : Str → Option Value} {y : Str} {pos : Pos} {v : Value} {Q : Value → Shared → Prop} (hn : s.heap.Ns env.locals m) (hv : m y = some v) (hk : env.scope.kind = .function) (hl : env.kindOf y = some .local) (hd : (y == ("__debug__" : Str)) = false) (h : Q v s) :
    wpAny M A (eval (.Name y pos) env) Q E s := wpAny_Name (wpAny_loadName_local hk hl hn hv h) hd
/-- the arguments of such an __init__ -/
def eArgs (l : List (Str × Pos)) : Arguments := { posonlyargs := [], args := l.map fun p => { arg := p.1, annotation := none, pos := p.2 }, vararg := none, kwonlyargs := [], kw_defaults := [], kwarg := none, defaults := [] }
abbrev eSup (msg : Str) (kk : Nat) (p0 p1 p2 p3 p4 p5 : Pos) : Stmt := .Expr (.Call (.Attribute (.Call (.Name "super" p0) [] [] p1) "__init__" p2) [.Constant (.str msg) kk p3] [] p4) p5
abbrev eSt (f : Str) (q1 q2 q3 q4 : Pos) : Stmt := .Assign [.Attribute (.Name "self" q1) f q2] (.Name f q3) q4
abbrev eScope (l : List Str) : Scope := { kind := .function, names := l.map (fun y => (y, NameKind.local)) ++ [(("__class__" : Str), NameKind.free), (("super" : Str), NameKind.globalImplicit)], isGenerator := false, isCoroutine := false, more := [] }
/-- behind the __init__ of a fresh exception at x: no field -/
theorem init0 {s : Shared} {R : Result → Shared → Prop} {q : Str} {sf p0 p1 p2 p3 p4 p5 : Pos} {msg : Str} {kk : Nat} {t0 : Addr} {mb : Str → Option Value} {oc kV doc pm ct : Value} {an od : Option Addr} {osl : Array (Option Value)}
    (T : EInit prog K C cc cda) (X : K.In s.heap) (hlim : s.heap.NoLimit) (hG : s.heap.Ns mainGlobals mg) (hB : s.heap.Ns builtinsNs mb) (mS : mg "super" = none) (bS : mb "super" = some (.type "super"))
    (hf : K.lookup fI = some ⟨oc, od, .func (ksFn "__init__" q (eArgs [("self", sf)]) [eSup msg kk p0 p1 p2 p3 p4 p5] (eScope ["self"]) .none kV doc pm an (.ref cda) ct cc), osl⟩) (hcd : codeIn K (.ref cda) q = true)
    (hx : s.heap.get? x = some (excO C t0)) (hroom : A.depth < recursionLimit) (htop : (prog.main.scope.names.lookup ("super" : Str)).isSome = false) (he : ∀ L, SupForm (ksEnv q (eScope ["self"]) L fI (.ref cda) cc) msg kk p0 p1 p2 p3 p4)
    (hq : ∀ h' tk t1, (∀ b o, b ≠ x → s.heap.get? b = some o → h'.get? b = some o) → h'.get? x = some (excO C t1) → R (.ok (.ret .none)) { s with heap := h', toks := tk }) :
    codeAny (model prog w) A (.call (.ref fI) ⟨[.ref x], []⟩) R s := by
  refine ks_codeAny_call_defAt (binds := [("self", .ref x)]) hroom (X _ _ hf) rfl hlim (codeRec_of X hcd) rfl (BindsTo.of_eq (by first | rfl | with_unfolding_all rfl)) (by show ∀ y ∈ (eScope ["self"]).names, y.2 ≠ .cell; decide) (fun y hy => by rcases List.mem_singleton.mp hy with rfl; rfl) (fun h1 hn k1 => ?_)
  refine ks_wpAt_execs_cons (superStmt (m := fun y => [(("self" : Str), Value.ref x)].reverse.lookup y) T (X.keeps k1) (hG.keeps k1) (hB.keeps k1) mS bS hn hf rfl rfl (k1 _ _ hx) rfl rfl rfl rfl htop (he _) fun h2 tk t1 k2 hx2 => ?_)
  refine wpAt_of_wpAny (wpAny_execs_nil ?_)
  exact hq h2 _ t1 (fun b o hb e => k2 b o hb (k1 _ _ e)) hx2

theorem keepIn' {h h' : Heap} (X : K.In h) (hx : K.lookup x = none) (k : ∀ b o, b ≠ x → h.get? b = some o → h'.get? b = some o) : K.In h' := fun a o e =>
  k a o (fun z => by rw [z, hx] at e; cases e) (X a o e)
abbrev excD (C t : Addr) (d : Option Addr) : Obj := { cls := .ref C, dict := d, data := .fields #[.ref t, .none, .none, .none, .bool false, .none] }
/-- self.f = f, the first field -/
theorem setF {s : Shared} {env : Env} {f : Str} {q1 q2 q3 q4 : Pos} {v : Value} {t1 : Addr} {Q : Flow → Shared → Prop} (T : L2.OexC K C) (X : K.In s.heap) (hn : s.heap.Ns env.locals m) (hv : m f = some v) (hs : m "self" = some (.ref x)) (hk : env.scope.kind = .function)
    (lf : env.kindOf f = some .local) (ls : env.kindOf "self" = some .local) (df : (f == ("__debug__" : Str)) = false) (hno : findIn K (.ref C) f = some none) (hx : s.heap.get? x = some (excO C t1))
    (hQ : ∀ h' tk dx, (∀ b o, b ≠ x → s.heap.get? b = some o → h'.get? b = some o) → s.heap.objs.size ≤ dx → dx ≠ x → h'.get? x = some (excD C t1 (some dx)) → h'.Ns1 dx (fun y => if y = f then some v else none) → Q .next { s with heap := h', toks := tk }) :
    wpAny (model prog w) A (exec (eSt f q1 q2 q3 q4) env) Q E s := by
  obtain ⟨cd, hc, hm, hh⟩ := clsD T
  refine plainObj_wpAny_Assign_Attribute (ldV hn hv hk lf df (ldV hn hs hk ls (by decide) ?_))
  refine set_plain X (ox := excO C t1) (od := none) ⟨hx, rfl, rfl, trivial⟩ T.sa ?_
  exact exc_osa X hx hc hm hh hno fun h3 tk3 dx k3 dn dne hx3 hn3 => hQ h3 tk3 dx k3 dn dne hx3 hn3
/-- .. a further one -/
theorem setG {s : Shared} {env : Env} {f : Str} {q1 q2 q3 q4 : Pos} {v : Value} {t1 dx : Addr} {m0 : Str → Option Value} {nl : List Str} {Q : Flow → Shared → Prop} (T : L2.OexC K C) (X : K.In s.heap) (hn : s.heap.Ns env.locals m) (hv : m f = some v) (hs : m "self" = some (.ref x)) (hk : env.scope.kind = .function)
    (lf : env.kindOf f = some .local) (ls : env.kindOf "self" = some .local) (df : (f == ("__debug__" : Str)) = false) (hno : findIn K (.ref C) f = some none) (hx : s.heap.get? x = some (excD C t1 (some dx))) (hns : s.heap.Ns1 dx m0) (hw : Within m0 nl) (hz : nl.length ≤ 1000)
    (hQ : ∀ h' tk, (∀ b o, b ≠ dx → s.heap.get? b = some o → h'.get? b = some o) → h'.Ns1 dx (fun y => if y = f then some v else m0 y) → Q .next { s with heap := h', toks := tk }) :
    wpAny (model prog w) A (exec (eSt f q1 q2 q3 q4) env) Q E s := by
  obtain ⟨cd, hc, hm, hh⟩ := clsD T
  obtain ⟨oD, _, _, hoD, _, _⟩ := hns.count hw
  refine plainObj_wpAny_Assign_Attribute (ldV hn hv hk lf df (ldV hn hs hk ls (by decide) ?_))
  refine set_plain X (ox := excD C t1 (some dx)) (od := some oD) ⟨hx, rfl, rfl, hoD⟩ T.sa ?_
  exact PySem.OEX.osa_old X hx hns hw hz hc hm hh hno fun h3 tk3 k3 hn3 => hQ h3 tk3 k3 hn3
theorem init1 {s : Shared} {R : Result → Shared → Prop} {q f : Str} {sf sg p0 p1 p2 p3 p4 p5 q1 q2 q3 q4 : Pos} {msg : Str} {kk : Nat} {t0 : Addr} {v : Value} {mb : Str → Option Value} {oc kV doc pm ct : Value} {an od : Option Addr} {osl : Array (Option Value)}
    (T : EInit prog K C cc cda) (X : K.In s.heap) (hlim : s.heap.NoLimit) (hG : s.heap.Ns mainGlobals mg) (hB : s.heap.Ns builtinsNs mb) (mS : mg "super" = none) (bS : mb "super" = some (.type "super"))
    (hf : K.lookup fI = some ⟨oc, od, .func (ksFn "__init__" q (eArgs [("self", sf), (f, sg)]) [eSup msg kk p0 p1 p2 p3 p4 p5, eSt f q1 q2 q3 q4] (eScope ["self", f]) .none kV doc pm an (.ref cda) ct cc), osl⟩) (hcd : codeIn K (.ref cda) q = true)
    (hx : s.heap.get? x = some (excO C t0)) (hnx : K.lookup x = none) (hroom : A.depth < recursionLimit) (htop : (prog.main.scope.names.lookup ("super" : Str)).isSome = false) (he : ∀ L, SupForm (ksEnv q (eScope ["self", f]) L fI (.ref cda) cc) msg kk p0 p1 p2 p3 p4)
    (hno : findIn K (.ref C) f = some none) (hb : ∀ s : Shared, BindsTo s (ksFn "__init__" q (eArgs [("self", sf), (f, sg)]) [eSup msg kk p0 p1 p2 p3 p4 p5, eSt f q1 q2 q3 q4] (eScope ["self", f]) .none kV doc pm an (.ref cda) ct cc) ⟨[.ref x, v], []⟩ [("self", .ref x), (f, v)])
    (l1 : (eScope ["self", f]).names.lookup f = some .local) (l2 : (eScope ["self", f]).names.lookup ("super" : Str) = some .globalImplicit) (l3 : (eScope ["self", f]).names.lookup ("__class__" : Str) = some .free) (l4 : (f == ("__debug__" : Str)) = false) (l5 : (("self" : Str) == f) = false)
    (hq : ∀ h' tk t1 dx, (∀ b o, b ≠ x → s.heap.get? b = some o → h'.get? b = some o) → s.heap.objs.size ≤ dx → dx ≠ x → h'.get? x = some (excD C t1 (some dx)) → h'.Ns1 dx (fun y => if y = f then some v else none) → R (.ok (.ret .none)) { s with heap := h', toks := tk }) :
    codeAny (model prog w) A (.call (.ref fI) ⟨[.ref x, v], []⟩) R s := by
  refine ks_codeAny_call_defAt (binds := [("self", .ref x), (f, v)]) hroom (X _ _ hf) rfl hlim (codeRec_of X hcd) rfl (hb s) (fun y hy => ?_) (fun y hy => ?_) (fun h1 hn k1 => ?_)
  · have hy' : y = (("self" : Str), NameKind.local) ∨ y = (f, NameKind.local) ∨ y = (("__class__" : Str), NameKind.free) ∨ y = (("super" : Str), NameKind.globalImplicit) := by simpa using hy
    rcases hy' with rfl | rfl | rfl | rfl <;> exact fun z => nomatch z
  · have hy' : y = (("self" : Str), Value.ref x) ∨ y = (f, v) := by simpa using hy
    rcases hy' with rfl | rfl
    · rfl
    · exact l1
  · have hsz : s.heap.objs.size ≠ x := Nat.ne_of_gt (Heap.lt_size hx)
    have ms : [(("self" : Str), Value.ref x), (f, v)].reverse.lookup ("self" : Str) = some (.ref x) := by
      show List.lookup ("self" : Str) [(f, v), (("self" : Str), Value.ref x)] = _
      rw [List.lookup_cons, l5]
      rfl
    have mf : [(("self" : Str), Value.ref x), (f, v)].reverse.lookup f = some v := by
      show List.lookup f [(f, v), (("self" : Str), Value.ref x)] = _
      rw [List.lookup_cons, beq_self_eq_true]
    refine ks_wpAt_execs_cons (superStmt (m := fun y => [(("self" : Str), Value.ref x), (f, v)].reverse.lookup y) T (X.keeps k1) (hG.keeps k1) (hB.keeps k1) mS bS hn hf rfl ms (k1 _ _ hx) l2 l3 rfl rfl htop (he _) fun h2 tk t1 k2 hx2 => ?_)
    have hn2 : h2.Ns s.heap.objs.size (fun y => [(("self" : Str), Value.ref x), (f, v)].reverse.lookup y) := hn.at fun o q => k2 _ o hsz q
    have X2 : K.In h2 := keepIn' (X.keeps k1) hnx k2
    refine wpAt_of_wpAny (wpAny_execs_cons (setF (x := x) (v := v) T.oex X2 hn2 mf ms rfl l1 rfl l4 hno hx2 fun h3 tk3 dx k3 dn dne hx3 hn3 => wpAny_execs_nil ?_))
    refine hq h3 _ t1 dx (fun b o hb e => k3 b o hb (k2 b o hb (k1 _ _ e))) ?_ dne hx3 hn3
    have z : s.heap.objs.size < h2.objs.size := hn2.lt
    exact Nat.le_of_lt (Nat.lt_of_lt_of_le z dn)

theorem init2 {s : Shared} {R : Result → Shared → Prop} {q : Str} {sf sg sh p0 p1 p2 p3 p4 p5 q1 q2 q3 q4 r1 r2 r3 r4 : Pos} {msg : Str} {kk : Nat} {t0 : Addr} {v u : Value} {mb : Str → Option Value} {oc kV doc pm ct : Value} {an od : Option Addr} {osl : Array (Option Value)}
    (T : EInit prog K C cc cda) (X : K.In s.heap) (hlim : s.heap.NoLimit) (hG : s.heap.Ns mainGlobals mg) (hB : s.heap.Ns builtinsNs mb) (mS : mg "super" = none) (bS : mb "super" = some (.type "super"))
    (hf : K.lookup fI = some ⟨oc, od, .func (ksFn "__init__" q (eArgs [("self", sf), ("part", sg), ("at", sh)]) [eSup msg kk p0 p1 p2 p3 p4 p5, eSt "part" q1 q2 q3 q4, eSt "at" r1 r2 r3 r4] (eScope ["self", "part", "at"]) .none kV doc pm an (.ref cda) ct cc), osl⟩) (hcd : codeIn K (.ref cda) q = true)
    (hx : s.heap.get? x = some (excO C t0)) (hnx : K.lookup x = none) (hroom : A.depth < recursionLimit) (htop : (prog.main.scope.names.lookup ("super" : Str)).isSome = false) (he : ∀ L, SupForm (ksEnv q (eScope ["self", "part", "at"]) L fI (.ref cda) cc) msg kk p0 p1 p2 p3 p4)
    (hno : findIn K (.ref C) "part" = some none) (hno2 : findIn K (.ref C) "at" = some none)
    (hq : ∀ h' tk t1 dx, (∀ b o, b ≠ x → s.heap.get? b = some o → h'.get? b = some o) → s.heap.objs.size ≤ dx → dx ≠ x → h'.get? x = some (excD C t1 (some dx)) → h'.Ns1 dx (fun y => if y = "at" then some u else if y = "part" then some v else none) → R (.ok (.ret .none)) { s with heap := h', toks := tk }) :
    codeAny (model prog w) A (.call (.ref fI) ⟨[.ref x, v, u], []⟩) R s := by
  refine ks_codeAny_call_defAt (binds := [("self", .ref x), ("part", v), ("at", u)]) hroom (X _ _ hf) rfl hlim (codeRec_of X hcd) rfl (BindsTo.of_eq (by first | rfl | with_unfolding_all rfl)) (fun y hy => ?_) (fun y hy => ?_) (fun h1 hn k1 => ?_)
  · have hy' : y = (("self" : Str), NameKind.local) ∨ y = (("part" : Str), NameKind.local) ∨ y = (("at" : Str), NameKind.local) ∨ y = (("__class__" : Str), NameKind.free) ∨ y = (("super" : Str), NameKind.globalImplicit) := by simpa using hy
    rcases hy' with rfl | rfl | rfl | rfl | rfl <;> exact fun z => nomatch z
  · have hy' : y = (("self" : Str), Value.ref x) ∨ y = (("part" : Str), v) ∨ y = (("at" : Str), u) := by simpa using hy
    rcases hy' with rfl | rfl | rfl <;> rfl
  · have hsz : s.heap.objs.size ≠ x := Nat.ne_of_gt (Heap.lt_size hx)
    refine ks_wpAt_execs_cons (superStmt (m := fun y => [(("self" : Str), Value.ref x), ("part", v), ("at", u)].reverse.lookup y) T (X.keeps k1) (hG.keeps k1) (hB.keeps k1) mS bS hn hf rfl rfl (k1 _ _ hx) rfl rfl rfl rfl htop (he _) fun h2 tk t1 k2 hx2 => ?_)
    have hn2 : h2.Ns s.heap.objs.size (fun y => [(("self" : Str), Value.ref x), ("part", v), ("at", u)].reverse.lookup y) := hn.at fun o q => k2 _ o hsz q
    have X2 : K.In h2 := keepIn' (X.keeps k1) hnx k2
    refine wpAt_of_wpAny (wpAny_execs_cons (setF (x := x) (v := v) T.oex X2 hn2 rfl rfl rfl rfl rfl (by decide) hno hx2 fun h3 tk3 dx k3 dn dne hx3 hn3 => ?_))
    have z : s.heap.objs.size < h2.objs.size := hn2.lt
    have hn3' : h3.Ns s.heap.objs.size (fun y => [(("self" : Str), Value.ref x), ("part", v), ("at", u)].reverse.lookup y) := hn2.at fun o q => k3 _ o hsz q
    have hdL : s.heap.objs.size ≠ dx := Nat.ne_of_lt (Nat.lt_of_lt_of_le z dn)
    refine wpAny_execs_cons (setG (x := x) (v := u) (nl := ["part"]) T.oex (keepIn' X2 hnx k3) hn3' rfl rfl rfl rfl rfl (by decide) hno2 hx3 hn3 (fun y hy => ?_) (by decide) fun h4 tk4 k4 hn4 => wpAny_execs_nil ?_)
    · by_cases e : y = "part"
      · rw [e]; exact List.mem_cons_self ..
      · rw [if_neg e] at hy
        exact absurd rfl hy
    · refine hq h4 _ t1 dx (fun b o hb e => ?_) (Nat.le_of_lt (Nat.lt_of_lt_of_le z dn)) dne (k4 x _ (Ne.symm dne) hx3) hn4
      have e2 := k2 b o hb (k1 _ _ e)
      exact k4 b o (Nat.ne_of_lt (Nat.lt_of_lt_of_le (Heap.lt_size e2) dn)) (k3 b o hb e2)
end
end Cx0
namespace Cx0
open PySem PySem.W PySem.Calls PyProof.Rows PySem.HandSPX
/-- the class at C, called: a new exception at e, its dict (fields by name) -/
structure MkE (prog : Program) (w : World) (K : Frag) (mg : Str → Option Value) (C : Addr) (fs : List Str) : Prop where
  oex : L2.OexC K C
  run : ∀ (A : Around) (R : Result → Shared → Prop) (s : Shared) (vs : List Value) (mb : Str → Option Value), K.In s.heap → s.heap.NoLimit → s.heap.Ns mainGlobals mg → s.heap.Ns builtinsNs mb → mb "super" = some (.type "super") → vs.length = fs.length → A.depth + 1 < recursionLimit →
    (∀ h' tk e t1 d, (∀ b o, s.heap.get? b = some o → h'.get? b = some o) → s.heap.objs.size ≤ e → h'.get? e = some (excD C t1 d) →
      ((fs = [] ∧ d = none) ∨ (fs ≠ [] ∧ ∃ dx, d = some dx ∧ s.heap.objs.size ≤ dx ∧ dx ≠ e ∧ h'.Ns1 dx (fun y => (fs.zip vs).lookup y))) → R (.ok (.ret (.ref e))) { s with heap := h', toks := tk }) →
    codeAny (model prog w) A (.call (.ref C) ⟨vs, []⟩) R s
section
variable {prog : Program} {w : World} {K : Frag} {C cc cda fI : Addr} {mg : Str → Option Value}
theorem mkCore {A : Around} {R : Result → Shared → Prop} {s : Shared} {vs : List Value} (T : L2.OexC K C) (iC : findIn K (.ref C) "__init__" = some (some (.ref fI))) (tI : typeIn K (.ref fI) = some (.type "function")) (X : K.In s.heap) (hz : vs.length ≤ 10)
    (h : ∀ (A' : Around) (s1 : Shared) (x t0 : Addr) (R' : Result → Shared → Prop), A'.depth = A.depth + 1 → (∀ b o, s.heap.get? b = some o → s1.heap.get? b = some o) → s.heap.objs.size ≤ x → s1.heap.get? x = some (excO C t0) → K.lookup x = none → s1.gens = s.gens → s1.drawn = s.drawn → s1.os = s.os →
      (∀ h' tk t1 d, (∀ b o, b ≠ x → s1.heap.get? b = some o → h'.get? b = some o) → h'.get? x = some (excD C t1 d) → (∀ dx, d = some dx → s1.heap.objs.size ≤ dx) →
        R (.ok (.ret (.ref x))) { s with heap := h', toks := tk } → R' (.ok (.ret .none)) { s1 with heap := h', toks := tk }) → codeAny (model prog w) A' (.call (.ref fI) ⟨.ref x :: vs, []⟩) R' s1) :
    codeAny (model prog w) A (.call (.ref C) ⟨vs, []⟩) R s := by
  obtain ⟨nm, q, N, bs, bm, sn, sub, ab, col, dd, k0, k1, k2, k3, k5, hC, hbm⟩ := T.cls
  obtain ⟨hp, g, dr, tk, os⟩ := s
  have hget : ((hp.push (kdv_tup vs)).push (excO C hp.objs.size)).get? (hp.objs.size + 1) = some (excO C hp.objs.size) := by heap_get
  refine call_own F.excBase_ValueError (fun Y => refsVE_contains Y bm hbm) (X _ _ hC) (looks_findIn X iC) (fun self => bind_fn X self tI) (Nat.le_trans hz (by decide)) ?_
  refine h _ ⟨(hp.push (kdv_tup vs)).push (excO C hp.objs.size), g, dr, tk, os⟩ (hp.objs.size + 1) hp.objs.size _ L2.make_depth (fun b o e => Heap.get?_push_of_some _ (Heap.get?_push_of_some _ e)) (Nat.le_succ _) hget ?_ rfl rfl rfl fun h' tk' t1 d _ _ _ hr => ?_
  · cases e : K.lookup (hp.objs.size + 1) with
    | none => rfl
    | some o =>
      exact absurd (Nat.lt_of_succ_lt (Heap.lt_size (X _ _ e))) (Nat.lt_irrefl _)
  · exact ⟨rfl, hr⟩

theorem mkE0 {q : Str} {sf p0 p1 p2 p3 p4 p5 : Pos} {msg : Str} {kk : Nat} {oc kV doc pm ct : Value} {an od : Option Addr} {osl : Array (Option Value)}
    (T : EInit prog K C cc cda) (iC : findIn K (.ref C) "__init__" = some (some (.ref fI))) (tI : typeIn K (.ref fI) = some (.type "function")) (mS : mg "super" = none)
    (hf : K.lookup fI = some ⟨oc, od, .func (ksFn "__init__" q (eArgs [("self", sf)]) [eSup msg kk p0 p1 p2 p3 p4 p5] (eScope ["self"]) .none kV doc pm an (.ref cda) ct cc), osl⟩) (hcd : codeIn K (.ref cda) q = true)
    (htop : (prog.main.scope.names.lookup ("super" : Str)).isSome = false) (he : ∀ L, SupForm (ksEnv q (eScope ["self"]) L fI (.ref cda) cc) msg kk p0 p1 p2 p3 p4) : MkE prog w K mg C [] := by
  refine ⟨T.oex, fun A R s vs mb X hlim hG hB bS hl hd hQ => ?_⟩
  have ev : vs = [] := List.length_eq_zero_iff.mp hl
  subst ev
  refine mkCore T.oex iC tI X (Nat.le_of_ble_eq_true rfl) fun A' s1 x t0 R' hA k hs hx hnx e1 e2 e3 hr => ?_
  refine init0 T (X.keeps k) (hlim.keeps k) (hG.keeps k) (hB.keeps k) mS bS hf hcd hx (by rw [hA]; exact hd) htop he fun h' tk t1 k' hx' => ?_
  refine hr h' tk t1 none k' hx' (fun dx z => nomatch z) (hQ h' tk x t1 none (fun b o e => k' b o (Nat.ne_of_lt (Nat.lt_of_lt_of_le (Heap.lt_size e) hs)) (k b o e)) hs hx' (.inl ⟨rfl, rfl⟩))
theorem mkE1 {q f : Str} {sf sg p0 p1 p2 p3 p4 p5 q1 q2 q3 q4 : Pos} {msg : Str} {kk : Nat} {oc kV doc pm ct : Value} {an od : Option Addr} {osl : Array (Option Value)}
    (T : EInit prog K C cc cda) (iC : findIn K (.ref C) "__init__" = some (some (.ref fI))) (tI : typeIn K (.ref fI) = some (.type "function")) (mS : mg "super" = none)
    (hf : K.lookup fI = some ⟨oc, od, .func (ksFn "__init__" q (eArgs [("self", sf), (f, sg)]) [eSup msg kk p0 p1 p2 p3 p4 p5, eSt f q1 q2 q3 q4] (eScope ["self", f]) .none kV doc pm an (.ref cda) ct cc), osl⟩) (hcd : codeIn K (.ref cda) q = true)
    (htop : (prog.main.scope.names.lookup ("super" : Str)).isSome = false) (he : ∀ L, SupForm (ksEnv q (eScope ["self", f]) L fI (.ref cda) cc) msg kk p0 p1 p2 p3 p4)
    (hno : findIn K (.ref C) f = some none)
    (hb : ∀ (x v : Value), bindArgs (ksFn "__init__" q (eArgs [("self", sf), (f, sg)]) [eSup msg kk p0 p1 p2 p3 p4 p5, eSt f q1 q2 q3 q4] (eScope ["self", f]) .none kV doc pm an (.ref cda) ct cc) ⟨[x, v], []⟩ = pure [(("self" : Str), x), (f, v)])
    (l1 : (eScope ["self", f]).names.lookup f = some .local) (l2 : (eScope ["self", f]).names.lookup ("super" : Str) = some .globalImplicit) (l3 : (eScope ["self", f]).names.lookup ("__class__" : Str) = some .free) (l4 : (f == ("__debug__" : Str)) = false) (l5 : (("self" : Str) == f) = false) : MkE prog w K mg C [f] := by
  refine ⟨T.oex, fun A R s vs mb X hlim hG hB bS hl hd hQ => ?_⟩
  obtain ⟨v, rfl⟩ : ∃ v, vs = [v] := by
    match vs, hl with
    | [v], _ => exact ⟨v, rfl⟩
  refine mkCore T.oex iC tI X (Nat.le_of_ble_eq_true rfl) fun A' s1 x t0 R' hA k hs hx hnx e1 e2 e3 hr => ?_
  refine init1 T (X.keeps k) (hlim.keeps k) (hG.keeps k) (hB.keeps k) mS bS hf hcd hx hnx (by rw [hA]; exact hd) htop he hno (fun _ => .of_eq (hb _ _)) l1 l2 l3 l4 l5 fun h' tk t1 dx k' hs' hne hx' hns => ?_
  have hle : s.heap.objs.size ≤ s1.heap.objs.size := by
    rcases Nat.lt_or_ge s1.heap.objs.size s.heap.objs.size with z | z
    · exact Nat.le_of_lt (Nat.lt_of_le_of_lt hs (Heap.lt_size hx))
    · exact z
  refine hr h' tk t1 (some dx) k' hx' (fun d z => by cases z; exact hs') (hQ h' tk x t1 (some dx) (fun b o e => k' b o (Nat.ne_of_lt (Nat.lt_of_lt_of_le (Heap.lt_size e) hs)) (k b o e)) hs hx' (.inr ⟨(by intro z; cases z), dx, rfl, Nat.le_trans hle hs', hne, ?_⟩))
  have em : (fun (y : Str) => ([f].zip [v]).lookup y) = fun (y : Str) => if y = f then some v else none := by
    funext y
    show List.lookup y [(f, v)] = _
    by_cases e : y = f
    · rw [if_pos e, e, List.lookup_cons, beq_self_eq_true]
    · have e' : (y == f) = false := by simpa using e
      rw [if_neg e, List.lookup_cons, e']
      rfl
  rw [em]
  exact hns
theorem mkE2 {q : Str} {sf sg sh p0 p1 p2 p3 p4 p5 q1 q2 q3 q4 r1 r2 r3 r4 : Pos} {msg : Str} {kk : Nat} {oc kV doc pm ct : Value} {an od : Option Addr} {osl : Array (Option Value)}
    (T : EInit prog K C cc cda) (iC : findIn K (.ref C) "__init__" = some (some (.ref fI))) (tI : typeIn K (.ref fI) = some (.type "function")) (mS : mg "super" = none)
    (hf : K.lookup fI = some ⟨oc, od, .func (ksFn "__init__" q (eArgs [("self", sf), ("part", sg), ("at", sh)]) [eSup msg kk p0 p1 p2 p3 p4 p5, eSt "part" q1 q2 q3 q4, eSt "at" r1 r2 r3 r4] (eScope ["self", "part", "at"]) .none kV doc pm an (.ref cda) ct cc), osl⟩) (hcd : codeIn K (.ref cda) q = true)
    (htop : (prog.main.scope.names.lookup ("super" : Str)).isSome = false) (he : ∀ L, SupForm (ksEnv q (eScope ["self", "part", "at"]) L fI (.ref cda) cc) msg kk p0 p1 p2 p3 p4)
    (hno : findIn K (.ref C) "part" = some none) (hno2 : findIn K (.ref C) "at" = some none) : MkE prog w K mg C ["part", "at"] := by
  refine ⟨T.oex, fun A R s vs mb X hlim hG hB bS hl hd hQ => ?_⟩
  obtain ⟨v, u, rfl⟩ : ∃ v u, vs = [v, u] := by
    match vs, hl with
    | [v, u], _ => exact ⟨v, u, rfl⟩
  refine mkCore T.oex iC tI X (Nat.le_of_ble_eq_true rfl) fun A' s1 x t0 R' hA k hs hx hnx e1 e2 e3 hr => ?_
  refine init2 T (X.keeps k) (hlim.keeps k) (hG.keeps k) (hB.keeps k) mS bS hf hcd hx hnx (by rw [hA]; exact hd) htop he hno hno2 fun h' tk t1 dx k' hs' hne hx' hns => ?_
  have hle : s.heap.objs.size ≤ s1.heap.objs.size := by
    rcases Nat.lt_or_ge s1.heap.objs.size s.heap.objs.size with z | z
    · exact Nat.le_of_lt (Nat.lt_of_le_of_lt hs (Heap.lt_size hx))
    · exact z
  refine hr h' tk t1 (some dx) k' hx' (fun d z => by cases z; exact hs') (hQ h' tk x t1 (some dx) (fun b o e => k' b o (Nat.ne_of_lt (Nat.lt_of_lt_of_le (Heap.lt_size e) hs)) (k b o e)) hs hx' (.inr ⟨(by intro z; cases z), dx, rfl, Nat.le_trans hle hs', hne, ?_⟩))
  have em : (fun (y : Str) => ([("part" : Str), "at"].zip [v, u]).lookup y) = fun (y : Str) => if y = "at" then some u else if y = "part" then some v else none := by
    funext y
    show List.lookup y [(("part" : Str), v), ("at", u)] = _
    by_cases e : y = "part"
    · have ne : ¬ y = "at" := by rw [e]; decide
      rw [if_neg ne, if_pos e, e, List.lookup_cons, beq_self_eq_true]
    · have e' : (y == ("part" : Str)) = false := by simpa using e
      rw [if_neg e, List.lookup_cons, e']
      by_cases e2 : y = "at"
      · rw [if_pos e2, e2, List.lookup_cons, beq_self_eq_true]
      · have e3 : (y == ("at" : Str)) = false := by simpa using e2
        rw [if_neg e2, List.lookup_cons, e3]
        rfl
  rw [em]
  exact hns
end
end Cx0
namespace Cn
open PySem PySem.Spec PyProof.Rows L2
section
variable {X : Cx} {C : Addr} {fs : List Str} {x : Str} {p pos : Pos} {e : Expr} {es : List Expr} {ta : TA}
theorem mgB (I : Mod X.K X.mg X.base) : ∃ mb, X.base.Ns builtinsNs mb ∧ mb "super" = some (.type "super") := by
  obtain ⟨mb, h1, h2⟩ := I.blt
  exact ⟨mb, h1, (h2 "super" (by decide)).trans (by first | rfl | decide +kernel | kernel_rfl)⟩
theorem relZip {fs : List Str} {vs : List V} {us : List Value} (r : Vals vs us) : ∀ g, RelO ((fs.zip vs).lookup g) ((fs.zip us).lookup g) := by
  induction r generalizing fs with
  | nil =>
    intro g
    rw [List.zip_nil_right, List.zip_nil_right]
    trivial
  | @cons v u vs us rv r ih =>
    intro g
    cases fs with
    | nil => trivial
    | cons f fs =>
      rw [List.zip_cons_cons, List.zip_cons_cons, List.lookup_cons, List.lookup_cons]
      cases h : (g == f) with
      | true => exact rv
      | false => exact ih g
/-- the class at C is called -/
theorem callE (M : Cx0.MkE X.prog X.w X.K X.mg C fs) {k : Nat} (hr : Room k X.A) {pins : List (Addr × Obj)} {s : Shared} {σ : L2.St} {H : Hp} {vs : List V} {us : List Value} {Q : Value → Shared → Prop} (I : Inv X pins σ H s) (r : Vals vs us) (hl : vs.length = fs.length)
    (h : ∀ h' tk e t1 d, (∀ b o, s.heap.get? b = some o → h'.get? b = some o) → s.heap.objs.size ≤ e → h'.get? e = some (Cx0.excD C t1 d) →
      ((fs = [] ∧ d = none) ∨ (fs ≠ [] ∧ ∃ dx, d = some dx ∧ s.heap.objs.size ≤ dx ∧ dx ≠ e ∧ h'.Ns1 dx (fun y => (fs.zip us).lookup y))) → Q (.ref e) { s with heap := h', toks := tk }) :
    wpAny (model X.prog X.w) X.A (call (.ref C) us) Q X.xe s := by
  obtain ⟨mb, hB, bS⟩ := mgB I.mod
  refine wpAny_call (M.run X.A _ s us mb I.kIn I.nolimit (I.mod.glob.keeps I.bk) (hB.keeps I.bk) bS (by rw [← r.length]; exact hl) (by have := hr.dp; omega) fun h' tk e t1 d a1 a2 a3 a4 => ?_)
  exact h h' tk e t1 d a1 a2 a3 a4
/-- X(), a new exception as a value -/
def tMk0 (C : Addr) : TE := fun _ H Q => ∀ a, H a = none → Q (.ref a) (upd H a (exo a C none))
theorem pe_mk0 (M : Cx0.MkE X.prog X.w X.K X.mg C []) {k : Nat} (hr : Room k X.A) (gC : X.mg x = some (.ref C)) (hg : Gl X x := by rfl) (hdb : (x == ("__debug__" : Str)) = false := by decide) : PE X (.Call (.Name x p) [] [] pos) (tMk0 C) := by
  refine ⟨fun pins s σ H Q I h => ?_⟩
  refine wpAny_Call_Name_kw (ld_glob I hg gC ?_ hdb)
  refine PySem.W.callWith_K0 I.kIn M.oex.kC (callE M hr I .nil rfl fun h' tk e t1 d a1 a2 a3 a4 => ?_)
  rcases a4 with ⟨_, rfl⟩ | ⟨z, _⟩
  · exact ⟨.ref e, _, I.laid (t' := tk) a1 a2 (exo_ok a3), rfl, h e (I.hok.fresh a2)⟩
  · exact absurd rfl z
/-- X(..), with fields -/
def tMkN (C : Addr) (fs : List Str) (ta : TA) : TE := fun σ H Q => ta σ H fun vs H1 => vs.length = fs.length ∧ ∀ a d, H1 a = none → H1 d = none → d ≠ a → Q (.ref a) (upd (upd H1 d (.xd (fs.zip vs))) a (exo a C (some d)))
theorem pe_mkN (M : Cx0.MkE X.prog X.w X.K X.mg C fs) {k : Nat} (hr : Room k X.A) (hf : fs ≠ []) (gC : X.mg x = some (.ref C)) (ha : PA X (e :: es) ta) (hg : Gl X x := by rfl) (hdb : (x == ("__debug__" : Str)) = false := by decide)
    (he : starEach (e :: es) X.env = (false, eval e X.env) :: starEach es X.env := by rfl) (hpl : (backTo pos (starEach es X.env)).any (·.1) = false := by rfl) : PE X (.Call (.Name x p) (e :: es) [] pos) (tMkN C fs ta) := by
  refine ⟨fun pins s σ H Q I h => ?_⟩
  refine wpAny_Call_Name_kw (ld_glob I hg gC ?_ hdb)
  refine PySem.W.callWith_K (h₀ := X.base) I.ok.mod.kin M.oex.kC (thn (ha.run pos pins s σ H _ I h) fun us s1 ⟨vs, H1, I1, r1, hl, q⟩ => ⟨I1.kIn, ?_⟩) he hpl
  refine callE M hr I1 r1 hl fun h' tk e t1 d a1 a2 a3 a4 => ?_
  rcases a4 with ⟨z, _⟩ | ⟨_, dx, rfl, a5, a6, a7⟩
  · exact absurd z hf
  · obtain ⟨G, g1, g2⟩ := restrict h' fun b => decide (b ≠ e)
    have gk : ∀ b, b ≠ e → G.get? b = h'.get? b := fun b hb => g1 b (decide_eq_true hb)
    have ge : G.get? e = none := g2 e (by simp)
    have old : ∀ b o, s1.heap.get? b = some o → G.get? b = some o := fun b o z => (gk b (Nat.ne_of_lt (Nat.lt_of_lt_of_le (Heap.lt_size z) a2))).trans (a1 b o z)
    have J1 : Inv X pins σ (upd H1 dx (.xd (fs.zip vs))) { s1 with heap := G, toks := tk } := I1.laid (t' := tk) old a5 ⟨_, a7.at fun o z => (gk dx a6).trans z, relZip r1⟩
    have nd : H1 dx = none := I1.hok.fresh a5
    have ne : H1 e = none := I1.hok.fresh a2
    have J2 := J1.laidN (t' := tk) (h' := h') (a := e) (o := exo e C (some dx)) (fun b o z => by
      by_cases hb : b = e
      · have z' : G.get? b = some o := z
        rw [hb, ge] at z'; cases z'
      · exact (gk b hb).symm.trans z) ge (by rw [upd_ne (Ne.symm a6)]; exact ne) (exo_ok a3)
    exact ⟨.ref e, _, J2, rfl, q e dx ne nd a6⟩

/-- X(..) to be raised -/
def tRaiseN (C : Addr) (fs : List Str) (ta : TA) : L2.St → Hp → XK → Prop := fun σ H Q => ta σ H fun vs H1 => vs.length = fs.length ∧ ∀ d, H1 d = none → Q (.ref C) (some d) (upd H1 d (.xd (fs.zip vs)))
theorem pm_N (M : Cx0.MkE X.prog X.w X.K X.mg C fs) {k : Nat} (hr : Room k X.A) (hf : fs ≠ []) (gC : X.mg x = some (.ref C)) (ha : PA X (e :: es) ta) (hg : Gl X x := by rfl) (hdb : (x == ("__debug__" : Str)) = false := by decide)
    (he : starEach (e :: es) X.env = (false, eval e X.env) :: starEach es X.env := by rfl) (hpl : (backTo pos (starEach es X.env)).any (·.1) = false := by rfl) : L2N.PMk X (.Call (.Name x p) (e :: es) [] pos) (tRaiseN C fs ta) := by
  intro pins s σ H Q I h
  refine wpAny_Call_Name_kw (ld_glob I hg gC ?_ hdb)
  refine PySem.W.callWith_K (h₀ := X.base) I.ok.mod.kin M.oex.kC (thn (ha.run pos pins s σ H _ I h) fun us s1 hh => ?_) he hpl
  obtain ⟨vs, H1, I1, r1, hl, q⟩ := hh
  refine ⟨I1.kIn, ?_⟩
  refine callE M hr I1 r1 hl fun h' tk e t1 d a1 a2 a3 a4 => ?_
  rcases a4 with ⟨z, _⟩ | ⟨_, dx, rfl, a5, a6, a7⟩
  · exact absurd z hf
  · obtain ⟨G, g1, g2⟩ := restrict h' fun b => decide (b ≠ e)
    have gk : ∀ b, b ≠ e → G.get? b = h'.get? b := fun b hb => g1 b (decide_eq_true hb)
    have ge : G.get? e = none := g2 e (by simp)
    have old : ∀ b o, s1.heap.get? b = some o → G.get? b = some o := fun b o z => (gk b (Nat.ne_of_lt (Nat.lt_of_lt_of_le (Heap.lt_size z) a2))).trans (a1 b o z)
    have J1 : Inv X pins σ (upd H1 dx (.xd (fs.zip vs))) { s1 with heap := G, toks := tk } := I1.laid (t' := tk) old a5 ⟨_, a7.at fun o z => (gk dx a6).trans z, relZip r1⟩
    refine ⟨e, _, _, { s1 with heap := G, toks := tk }, _, .ref C, some dx, rfl, J1, fun b o z => ?_, ge, a3, ⟨rfl, rfl, fun vs z => by cases z; rfl⟩, rfl, rfl, ?_, rfl, I1.bare, raises_own M.oex.exC M.oex.tyC, q dx (I1.hok.fresh a5)⟩
    · have hb : b ≠ e := fun w => by
        have z' : G.get? b = some o := z
        rw [w, ge] at z'; cases z'
      exact (gk b hb).symm.trans z
    · rw [upd_ne (Ne.symm a6)]
      exact I1.hok.fresh a2
/-! isinstance(e, c), e an exception of the class at D -/
def XdAt (H : Hp) (d : Option Addr) : Prop := d = none ∨ ∃ dx fs, d = some dx ∧ H dx = some (.xd fs)
theorem instX {pins : List (Addr × Obj)} {s : Shared} {σ : L2.St} {H : Hp} {a D : Addr} {d : Option Addr} {oe : Obj} (I : Inv X pins σ H s) (hd : XdAt H d) (ho : s.heap.get? a = some oe) (hz : Zc (.ref D) d oe) (hf : ∃ vs, oe.data = .fields vs) :
    ∃ od, PySem.W.InstAt s.heap a oe D od := by
  obtain ⟨vs, hv⟩ := hf
  have hn : PySem.W.notCls oe = true := by unfold PySem.W.notCls; rw [hv] <;> rfl
  rcases hd with rfl | ⟨dx, fs, rfl, hx⟩
  · exact ⟨none, ho, hz.1, hn, by rw [hz.2]; trivial⟩
  · obtain ⟨mA, hns, _⟩ := (show ObjOk X.prog X.w H s.heap dx (.xd fs) from I.hok dx _ hx)
    obtain ⟨od, hod, _⟩ := lookIn_ns hns
    exact ⟨some od, ho, hz.1, hn, by rw [hz.2]; exact hod⟩
theorem isX {pins : List (Addr × Obj)} {s : Shared} {σ : L2.St} {H : Hp} {a D : Addr} {d : Option Addr} {oe : Obj} {cv : Value} {b : Bool} {Q : Value → Shared → Prop} {E : Value → Shared → Prop} (T : ExcC X.K D) (I : Inv X pins σ H s) (hd : XdAt H d) (ho : s.heap.get? a = some oe) (hz : Zc (.ref D) d oe) (hf : ∃ vs, oe.data = .fields vs)
    (e : PySem.W.kitOne X.K (.ref D) cv = some b) (h : ∀ tk, Q (.bool b) { s with toks := tk }) : wpAny (model X.prog X.w) X.A (call (.builtin "isinstance") [.ref a, cv]) Q E s := by
  obtain ⟨od, J⟩ := instX I hd ho hz hf
  obtain ⟨cd, hc, _⟩ := PySem.W.any_some T.hd
  exact PySem.W.kia_one (PySem.W.kitx_exc (by rw [hc]; rfl) T.hg T.hk T.hs T.ha T.hn T.ht T.hm) I.kIn J e (fun z => nomatch z) h
/-- the tracked one -/
def rIsX (K : PySem.W.Frag) : List V → Hp → VK → Prop := fun xs H Q => ∃ (a D : Addr) (d : Option Addr) (c : V) (cv : Value) (b : Bool), xs = [.ref a, c] ∧ ExcC K D ∧ H a = some (exo a D d) ∧ XdAt H d ∧ (∀ u, RelV c u → u = cv) ∧ PySem.W.kitOne K (.ref D) cv = some b ∧ Q (.bl b) H
theorem call_isX : CallR X (.builtin "isinstance") (rIsX X.K) := by
  intro pins s σ H xs us Q I r h
  obtain ⟨a, D, d, c, cv, b, rfl, T, ha, hd, hcv, e, q⟩ := h
  obtain ⟨u1, u2, rfl, r1, r2⟩ := vals2 r
  cases (show u1 = Value.ref a from r1)
  cases hcv _ r2
  obtain ⟨t1, ho⟩ := exo_at I.hok ha
  exact isX T I hd ho ⟨rfl, rfl⟩ ⟨_, rfl⟩ e fun tk => ⟨.bl b, H, I.tok tk, rfl, q⟩
/-- the pinned one -/
def rIsP (K : PySem.W.Frag) (a D : Addr) (d : Option Addr) : List V → Hp → VK → Prop := fun xs H Q => ∃ (c : V) (cv : Value) (b : Bool), xs = [.ref a, c] ∧ XdAt H d ∧ (∀ u, RelV c u → u = cv) ∧ PySem.W.kitOne K (.ref D) cv = some b ∧ Q (.bl b) H
theorem call_isP {a D : Addr} {d : Option Addr} {oe : Obj} (T : ExcC X.K D) (hp : (a, oe) ∈ X.pn) (hz : Zc (.ref D) d oe) (hf : ∃ vs, oe.data = .fields vs) : CallR X (.builtin "isinstance") (rIsP X.K a D d) := by
  intro pins s σ H xs us Q I r h
  obtain ⟨c, cv, b, rfl, hd, hcv, e, q⟩ := h
  obtain ⟨u1, u2, rfl, r1, r2⟩ := vals2 r
  cases (show u1 = Value.ref a from r1)
  cases hcv _ r2
  exact isX T I hd (I.pin (a, oe) (List.mem_append_left _ hp)).1 hz hf e fun tk => ⟨.bl b, H, I.tok tk, rfl, q⟩
/-! e.f, a field of an exception -/
theorem fldX {pins : List (Addr × Obj)} {s : Shared} {σ : L2.St} {H : Hp} {a D dx : Addr} {oe : Obj} {fs : List (Str × V)} {f : Str} {v : V} {Q : VK} {E : Value → Shared → Prop} (T : ExcC X.K D) (I : Inv X pins σ H s) (hx : H dx = some (.xd fs)) (ho : s.heap.get? a = some oe) (hz : Zc (.ref D) (some dx) oe) (hf : ∃ vs, oe.data = .fields vs)
    (hno : PySem.W.findIn X.K (.ref D) f = some none) (hl : fs.lookup f = some v) (q : Q v H) : wpAny (model X.prog X.w) X.A (getAttr (.ref a) f true) (EP X pins σ Q) E s := by
  obtain ⟨mA, hns, hr⟩ := (show ObjOk X.prog X.w H s.heap dx (.xd fs) from I.hok dx _ hx)
  obtain ⟨od, hod, hlk⟩ := lookIn_ns hns
  obtain ⟨vs, hv⟩ := hf
  have hn : PySem.W.notCls oe = true := by unfold PySem.W.notCls; rw [hv] <;> rfl
  have J : PySem.W.InstAt s.heap a oe D (some od) := ⟨ho, hz.1, hn, by rw [hz.2]; exact hod⟩
  obtain ⟨u, hu, ru⟩ := RelO.some_of (v := v) (o := mA f) (by rw [← hl]; exact hr f)
  exact HandSPX.exc_get I.kIn J T.hg T.hk T.hs (PySem.W.findObj_own T.hd hno rfl (by rw [hlk, hu])) (handed_of ru) ⟨v, H, I.tok _, ru, q⟩
def tFldX (K : PySem.W.Frag) (f : Str) (te : TE) : TE := fun σ H Q => te σ H fun y H1 => ∃ (a D dx : Addr) (fs : List (Str × V)) (v : V), y = .ref a ∧ ExcC K D ∧ H1 a = some (exo a D (some dx)) ∧ H1 dx = some (.xd fs) ∧ PySem.W.findIn K (.ref D) f = some none ∧ fs.lookup f = some v ∧ Q v H1
theorem pe_fldX {f : Str} {te : TE} (he : PE X e te) (hb : attributeBase e f X.env (eval e X.env) = eval e X.env := by rfl) : PE X (.Attribute e f pos) (tFldX X.K f te) := by
  refine ⟨fun pins s σ H Q I h => ?_⟩
  refine attr_of hb (thn (he.run pins s σ H _ I h) fun u s1 ⟨y, H1, I1, r1, a, D, dx, fs, v, ey, T, ha, hx, hno, hl, q⟩ => ?_)
  subst ey
  cases (show u = Value.ref a from r1)
  obtain ⟨t1, ho⟩ := exo_at I1.hok ha
  exact fldX T I1 hx ho ⟨rfl, rfl⟩ ⟨_, rfl⟩ hno hl q
def tFldP (a dx : Addr) (f : Str) (te : TE) : TE := fun σ H Q => te σ H fun y H1 => ∃ (fs : List (Str × V)) (v : V), y = .ref a ∧ H1 dx = some (.xd fs) ∧ fs.lookup f = some v ∧ Q v H1
theorem pe_fldP {f : Str} {te : TE} {a D dx : Addr} {oe : Obj} (T : ExcC X.K D) (hp : (a, oe) ∈ X.pn) (hz : Zc (.ref D) (some dx) oe) (hf : ∃ vs, oe.data = .fields vs) (hno : PySem.W.findIn X.K (.ref D) f = some none) (he : PE X e te) (hb : attributeBase e f X.env (eval e X.env) = eval e X.env := by rfl) :
    PE X (.Attribute e f pos) (tFldP a dx f te) := by
  refine ⟨fun pins s σ H Q I h => ?_⟩
  refine attr_of hb (thn (he.run pins s σ H _ I h) fun u s1 ⟨y, H1, I1, r1, fs, v, ey, hx, hl, q⟩ => ?_)
  subst ey
  cases (show u = Value.ref a from r1)
  exact fldX T I1 hx (I1.pin (a, oe) (List.mem_append_left _ hp)).1 hz hf hno hl q
end
end Cn
namespace Cn
open PySem PySem.Spec PyProof.Rows L2
abbrev sFirst : Stmt := topS 35
abbrev sLast : Stmt := topS 36
abbrev sErrs : Stmt := topS 37
abbrev sCaught : Stmt := topS 38
abbrev sLaw : Stmt := topS 39
def eNames : List Str := ["BadForest", "NoPlace", "NoNumber", "NoNotes", "NoKeeper", "NoCuts", "NoPlan", "TooMany", "NoBudgets", "NoRow", "NoPrices", "NoFloor", "NoNumbers", "NoTable", "NoAnswer", "NoAmounts", "NoDeeds", "NoTurns", "NoChanges", "NoFlag", "NoForest", "NoMark", "Stopped", "NoVault", "NotRecovered", "NoHistory", "BadText"]
def eN (j : Nat) : Str := eNames.getD j ""
def eF : Nat → List Str
  | 0 => ["part", "at"]
  | 7 => ["most"]
  | 14 => ["place"]
  | 26 => ["line"]
  | _ => []
/-- the fields of the j-th error made with x, y -/
def eV (j : Nat) (x y : V) : List (Str × V) := (eF j).zip [x, y]
structure ErrT (prog : Program) (w : World) (K : PySem.W.Frag) (mg : Str → Option Value) (C : Nat → Addr) (NE : Addr) : Prop where
  g : ∀ j, j < 27 → mg (eN j) = some (.ref (C j))
  mkE : ∀ j, j < 27 → Cx0.MkE prog w K mg (C j) (eF j)
  ex : ∀ j, j < 27 → ExcC K (C j)
  kit : ∀ i j, i < 27 → j < 27 → PySem.W.kitOne K (.ref (C i)) (.ref (C j)) = some (decide (i = j))
  kNE : ∀ i, i < 27 → PySem.W.kitOne K (.ref (C i)) (.ref NE) = some true
  kVE : ∀ i, i < 27 → PySem.W.kitOne K (.ref (C i)) (.type "ValueError") = some true
  gNE : mg "NoteError" = some (.ref NE)
  no : ∀ j f, j < 27 → f ∈ eF j → PySem.W.findIn K (.ref (C j)) f = some none
  no3 : ∀ i f, (i = 7 ∨ i = 14 ∨ i = 26) → (f = ("most" : Str) ∨ f = ("place" : Str) ∨ f = ("line" : Str)) → PySem.W.findIn K (.ref (C i)) f = some none
  exm : ∀ i, i < 27 → PySem.W.exmOne K (.ref (C i)) (.ref NE) = some true
/-- the j-th error, made with x, y, stands at a -/
def ErAt (C : Nat → Addr) (j : Nat) (x y : V) (a : Addr) (H : Hp) : Prop := ∃ d, H a = some (exo a (C j) d) ∧ ((eF j = [] ∧ d = none) ∨ ∃ dx, d = some dx ∧ H dx = some (.xd (eV j x y)))
theorem erAt_same {C : Nat → Addr} {j : Nat} {x y : V} {a : Addr} {H H' : Hp} (s : Same H H') (h : ErAt C j x y a H) : ErAt C j x y a H' := by
  obtain ⟨d, h1, h2⟩ := h
  exact ⟨d, s _ _ h1, h2.imp (fun z => z) fun ⟨dx, e, h3⟩ => ⟨dx, e, s _ _ h3⟩⟩
theorem erAt_xd {C : Nat → Addr} {j : Nat} {x y : V} {a : Addr} {H : Hp} (h : ErAt C j x y a H) : ∃ d, H a = some (exo a (C j) d) ∧ XdAt H d := by
  obtain ⟨d, h1, h2⟩ := h
  refine ⟨d, h1, h2.imp And.right fun ⟨dx, e, h3⟩ => ⟨dx, _, e, h3⟩⟩
/-! readings that make new things alone -/
def Stab (R : Hp → Prop) : Prop := ∀ H H', Same H H' → R H → R H'
def Gets (Pre : Hp → Prop) (te : TE) (σ : L2.St) (R : V → Hp → Prop) : Prop := ∀ (H : Hp) (Q : VK), Pre H → (∀ v H', Same H H' → R v H' → Q v H') → te σ H Q
inductive All2 (H : Hp) : List (V → Hp → Prop) → List V → Prop
  | nil : All2 H [] []
  | cons {R : V → Hp → Prop} {Rs : List (V → Hp → Prop)} {v : V} {vs : List V} (h : R v H) (t : All2 H Rs vs) : All2 H (R :: Rs) (v :: vs)
def GetsA (Pre : Hp → Prop) (ta : TA) (σ : L2.St) (Rs : List (V → Hp → Prop)) : Prop := ∀ (H : Hp) (Q : List V → Hp → Prop), Pre H → (∀ vs H', Same H H' → All2 H' Rs vs → Q vs H') → ta σ H Q
theorem getsNil {Pre : Hp → Prop} {σ : L2.St} : GetsA Pre tNil σ [] := fun H Q _ k => k [] H (Same.refl H) .nil
theorem getsCons {Pre : Hp → Prop} {σ : L2.St} {te : TE} {ta : TA} {R : V → Hp → Prop} {Rs : List (V → Hp → Prop)} (sP : Stab Pre) (sR : ∀ v, Stab (R v)) (h : Gets Pre te σ R) (t : GetsA Pre ta σ Rs) : GetsA Pre (tCons te ta) σ (R :: Rs) :=
  fun H Q p k => h H _ p fun v H1 s1 r1 => t H1 _ (sP _ _ s1 p) fun vs H2 s2 r2 => k _ _ (s1.trans s2) (.cons (sR v _ _ s2 r1) r2)
theorem all2_len {H : Hp} : ∀ {Rs : List (V → Hp → Prop)} {vs : List V}, All2 H Rs vs → vs.length = Rs.length
  | _, _, .nil => rfl
  | _, _, .cons _ t => by rw [List.length_cons, List.length_cons, all2_len t]
theorem all2_app {H : Hp} {Rs Ss : List (V → Hp → Prop)} {vs us : List V} (h : All2 H Rs vs) (k : All2 H Ss us) : All2 H (Rs ++ Ss) (vs ++ us) := by
  induction h with
  | nil => exact k
  | cons a _ ih => exact .cons a ih
theorem all2_same {H H' : Hp} (s : Same H H') : ∀ {Rs : List (V → Hp → Prop)} {vs : List V}, (∀ R ∈ Rs, ∀ v, Stab (R v)) → All2 H Rs vs → All2 H' Rs vs
  | _, _, _, .nil => .nil
  | _, _, st, .cons a t => .cons (st _ List.mem_cons_self _ _ _ s a) (all2_same s (fun R hR => st R (List.mem_cons_of_mem _ hR)) t)
/-- a display: a new list -/
theorem getsLst {Pre : Hp → Prop} {σ : L2.St} {ta : TA} {Rs : List (V → Hp → Prop)} (st : ∀ R ∈ Rs, ∀ v, Stab (R v)) (hl : Rs.length ≤ 1000) (h : GetsA Pre ta σ Rs) : Gets Pre (tLst ta) σ (fun v H' => ∃ q vs, v = .ref q ∧ H' q = some (.lst vs) ∧ All2 H' Rs vs) :=
  fun H Q p k => h H _ p fun vs H1 s1 r1 => ⟨Nat.le_of_lt (small1000 (by rw [all2_len r1]; exact hl)), fun q nq => k _ _ (s1.trans (smUpd nq)) ⟨q, vs, rfl, upd_same, all2_same (smUpd nq) st r1⟩⟩
/-- xs + a display -/
theorem getsCat {Pre : Hp → Prop} {σ : L2.St} {i : Nat} {ta : TA} {Rs Ss : List (V → Hp → Prop)} {q : Addr} (hσ : σ[i]? = some (some (.ref q))) (stR : ∀ R ∈ Rs, ∀ v, Stab (R v)) (stS : ∀ R ∈ Ss, ∀ v, Stab (R v)) (hl : Ss.length ≤ 400) (hl2 : Rs.length ≤ 400) (sP : Stab Pre) (h : GetsA Pre ta σ Ss)
    : Gets (fun H => Pre H ∧ ∃ vs, H q = some (.lst vs) ∧ All2 H Rs vs) (tOp rCat (tVar i) (tLst ta)) σ (fun v H' => ∃ q vs, v = .ref q ∧ H' q = some (.lst vs) ∧ All2 H' (Rs ++ Ss) vs) := by
  rintro H Q ⟨p, vs, hq, r⟩ k
  refine ⟨_, hσ, getsLst stS (by omega) h H _ p ?_⟩
  rintro v H1 s1 ⟨q1, us, rfl, h1, r1⟩
  refine ⟨q, q1, vs, us, rfl, rfl, s1 _ _ hq, h1, ?_, fun q2 n2 => ?_⟩
  · have e1 := all2_len r
    have e2 := all2_len r1
    exact Nat.le_of_lt (small1000 (by omega))
  · exact k _ _ (s1.trans (smUpd n2)) ⟨q2, vs ++ us, rfl, upd_same, all2_app (all2_same (s1.trans (smUpd n2)) stR r) (all2_same (smUpd n2) stS r1)⟩
/-! the flags of one error -/
/-- isinstance(e, the j-th class), e the i-th error -/
def rFl (Er : Hp → Prop) (a : Addr) (C : Nat → Addr) (i : Nat) : List V → Hp → VK → Prop := fun xs H Q => ∃ j, j < 27 ∧ xs = [.ref a, .ref (C j)] ∧ Er H ∧ Q (.bl (decide (i = j))) H
def fl (i j : Nat) : V → Hp → Prop := fun v _ => v = .bl (decide (i = j))
theorem fl_stab (i j : Nat) (v : V) : Stab (fl i j v) := fun _ _ _ h => h
theorem getsFl {Er : Hp → Prop} {a : Addr} {C : Nat → Addr} {i j : Nat} {σ : L2.St} (h0 : σ[0]? = some (some (.ref a))) (hj : j < 27) : Gets Er (tCB (rFl Er a C i) (tCons (tVar 0) (tCons (tC (.ref (C j))) tNil))) σ (fl i j) :=
  fun H Q p k => ⟨_, h0, j, hj, rfl, p, k _ H (Same.refl H) rfl⟩

def tFl (Er : Hp → Prop) (a : Addr) (C : Nat → Addr) (i j : Nat) : TE := tCB (rFl Er a C i) (tCons (tVar 0) (tCons (tC (.ref (C j))) tNil))
def tFl3 (Er : Hp → Prop) (a : Addr) (C : Nat → Addr) (i j : Nat) : TA := tCons (tFl Er a C i j) (tCons (tFl Er a C i (j + 1)) (tCons (tFl Er a C i (j + 2)) tNil))
theorem getsFl3 {Er : Hp → Prop} (sE : Stab Er) {a : Addr} {C : Nat → Addr} {i j : Nat} {σ : L2.St} (h0 : σ[0]? = some (some (.ref a))) (hj : j + 2 < 27) : GetsA Er (tFl3 Er a C i j) σ [fl i j, fl i (j + 1), fl i (j + 2)] :=
  getsCons sE (fl_stab i _) (getsFl h0 (by omega)) (getsCons sE (fl_stab i _) (getsFl h0 (by omega)) (getsCons sE (fl_stab i _) (getsFl h0 hj) getsNil))
theorem stab3 {i : Nat} {js : List Nat} : ∀ R ∈ js.map (fl i), ∀ v, Stab (R v) := fun R hR v => by
  obtain ⟨j, _, rfl⟩ := List.mem_map.mp hR
  exact fl_stab i j v
/-- found = [.., .., ..]; found = found + [..] some times; return found + [..] -/
def tFirst (Er : Hp → Prop) (a : Addr) (C : Nat → Addr) (i j : Nat) : TS := tAsg (tLst (tFl3 Er a C i j)) (gName 1)
def tNext3 (Er : Hp → Prop) (a : Addr) (C : Nat → Addr) (i j : Nat) : TS := tAsg (tOp rCat (tVar 1) (tLst (tFl3 Er a C i j))) (gName 1)
def tEnd3 (Er : Hp → Prop) (a : Addr) (C : Nat → Addr) (i j : Nat) : TS := tRet (tOp rCat (tVar 1) (tLst (tFl3 Er a C i j)))
/-- where one stands: the flags of the js in slot 1 -/
def FlSt (Er : Hp → Prop) (a : Addr) (i : Nat) (js : List Nat) (H0 : Hp) (σ : L2.St) (H : Hp) : Prop := ∃ q vs, σ = [some (.ref a), some (.ref q)] ∧ Same H0 H ∧ Er H ∧ H q = some (.lst vs) ∧ All2 H (js.map (fl i)) vs
section
variable {Er : Hp → Prop} {a : Addr} {C : Nat → Addr} {i j : Nat} {js : List Nat} {H0 H : Hp} {σ : L2.St} {D : Ends}
theorem firstRun (sE : Stab Er) (hj : j + 2 < 27) (hE : Er H0) (z : Option V) (k : ∀ σ H, FlSt Er a i [j, j + 1, j + 2] H0 σ H → D.nx σ H) : tFirst Er a C i j D [some (.ref a), z] H0 := by
  show tLst (tFl3 Er a C i j) [some (.ref a), z] H0 (fun x H1 => D.nx ([some (.ref a), z].set 1 (some x)) H1)
  refine getsLst (σ := [some (.ref a), z]) (Rs := [fl i j, fl i (j + 1), fl i (j + 2)]) (stab3 (js := [j, j + 1, j + 2])) (by show 3 ≤ 1000; decide) (getsFl3 (σ := [some (.ref a), z]) (a := a) sE rfl hj) H0 _ hE ?_
  rintro v H1 s1 ⟨q, vs, rfl, hq, r⟩
  exact k _ _ ⟨q, vs, rfl, s1, sE _ _ s1 hE, hq, r⟩
theorem nextRun (sE : Stab Er) (hj : j + 2 < 27) (hl : js.length ≤ 400) (h : FlSt Er a i js H0 σ H) (k : ∀ σ H, FlSt Er a i (js ++ [j, j + 1, j + 2]) H0 σ H → D.nx σ H) : tNext3 Er a C i j D σ H := by
  obtain ⟨q, vs, rfl, s0, hE, hq, r⟩ := h
  refine getsCat (q := q) (Rs := js.map (fl i)) (Ss := [fl i j, fl i (j + 1), fl i (j + 2)]) rfl stab3 (stab3 (js := [j, j + 1, j + 2])) (by show 3 ≤ 400; decide) (by rw [List.length_map]; exact hl) sE (getsFl3 sE rfl hj) H _ ⟨hE, vs, hq, r⟩ ?_
  rintro v H1 s1 ⟨q1, us, rfl, h1, r1⟩
  exact k _ _ ⟨q1, us, rfl, s0.trans s1, sE _ _ s1 hE, h1, by rw [List.map_append]; exact r1⟩
theorem endRun (sE : Stab Er) (hj : j + 2 < 27) (hl : js.length ≤ 400) (h : FlSt Er a i js H0 σ H) (k : ∀ q vs H, Same H0 H → H q = some (.lst vs) → All2 H ((js ++ [j, j + 1, j + 2]).map (fl i)) vs → D.rt (.ref q) H) : tEnd3 Er a C i j D σ H := by
  obtain ⟨q, vs, rfl, s0, hE, hq, r⟩ := h
  refine getsCat (q := q) (Rs := js.map (fl i)) (Ss := [fl i j, fl i (j + 1), fl i (j + 2)]) rfl stab3 (stab3 (js := [j, j + 1, j + 2])) (by show 3 ≤ 400; decide) (by rw [List.length_map]; exact hl) sE (getsFl3 sE rfl hj) H _ ⟨hE, vs, hq, r⟩ ?_
  rintro v H1 s1 ⟨q1, us, rfl, h1, r1⟩
  exact k q1 us H1 (s0.trans s1) h1 (by rw [List.map_append]; exact r1)
end

def nFlag : List Str := ["_law_error", "_law_found"]
theorem scFirst : FnScope nFlag ["_law_error"] (defScope sFirst) := ⟨rfl, rfl, rfl, by decide +kernel, rfl, by decide +kernel, by decide +kernel⟩
theorem scLast : FnScope nFlag ["_law_error"] (defScope sLast) := ⟨rfl, rfl, rfl, by decide +kernel, rfl, by decide +kernel, by decide +kernel⟩
/-- what the flags' defs promise, the i-th error known at a as Er says -/
def spFl (Er : Hp → Prop) (a : Addr) (i j n : Nat) : Sp := fun vs H Q _ => vs = [.ref a] ∧ Stab Er ∧ Er H ∧ ∀ (q : Addr) (us : List V) (H' : Hp), Same H H' → H' q = some (.lst us) → All2 H' ((List.range' j n).map (fl i)) us → Q (.ref q) H'
/-- .. for any error that is tracked -/
def spFlC (C : Nat → Addr) (j n : Nat) : Sp := fun vs H Q E => ∃ (a : Addr) (i : Nat) (d : Option Addr) (dx : Option (Addr × List (Str × V))), i < 27 ∧ d = dx.map (·.1) ∧ spFl (fun H => H a = some (exo a (C i) d) ∧ (∀ p, dx = some p → H p.1 = some (.xd p.2))) a i j n vs H Q E
section
variable {P : Program} {w : World} {K : PySem.W.Frag} {mg : Str → Option Value} {base : Heap} {C : Nat → Addr} {NE : Addr}
/-- isinstance of a tracked error -/
theorem cFl {X : Cx} (T : ErrT X.prog X.w X.K X.mg C NE) {a : Addr} {i : Nat} (hi : i < 27) {d : Option Addr} {dx : Option (Addr × List (Str × V))} (hd : d = dx.map (·.1)) : CallR X (.builtin "isinstance") (rFl (fun H => H a = some (exo a (C i) d) ∧ (∀ p, dx = some p → H p.1 = some (.xd p.2))) a C i) := by
  intro pins s σ H xs us Q I r h
  obtain ⟨j, hj, rfl, ⟨ha, hx⟩, q⟩ := h
  refine call_isX pins s σ H _ us Q I r ⟨a, C i, d, .ref (C j), .ref (C j), _, rfl, T.ex i hi, ha, ?_, fun u z => z, T.kit i j hi hj, q⟩
  cases dx with
  | none => exact .inl hd
  | some p => exact .inr ⟨p.1, p.2, hd, hx p rfl⟩
theorem stabTr {a D : Addr} {d : Option Addr} {dx : Option (Addr × List (Str × V))} : Stab (fun H => H a = some (exo a D d) ∧ (∀ p, dx = some p → H p.1 = some (.xd p.2))) := fun H H' s h => ⟨s _ _ h.1, fun p z => s _ _ (h.2 p z)⟩
theorem ok_first {f : Addr} {fd : FuncData} (F : Fun K "_law_first_flags" "_law_first_flags" sFirst f fd) (T : ErrT P w K mg C NE) (mI : mg "isinstance" = none) : FnOk P w K mg base CX0 1 f fd ["_law_error"] (spFlC C 0 15) := by
  refine F.ok scFirst (fun vs H Q E h => ?_) (fun cdv A outer s H vs Q E hr h => ?_)
  · obtain ⟨_, _, _, _, _, _, rfl, _⟩ := h
    rfl
  · obtain ⟨a, i, d, dx, hi, hd, rfl, sE, hE, k⟩ := h
    have cI := cFl (X := (cxOf CX0 P w K mg base nFlag "_law_first_flags" (defScope sFirst) f cdv A outer s H E).nox) T (a := a) hi hd
    exact ⟨_, pss_cons (ps_set (i := 1) scFirst.nd rfl (Or.inl rfl) (pe_lst (pa_cons (pe_callB cI (by rfl) mI (by decide +kernel) (pa_cons (pv 0) (pa_cons (pe_glob (v := .ref (C 0)) (by rfl) (T.g 0 (by decide)) rfl) pa_nil))) (pa_cons (pe_callB cI (by rfl) mI (by decide +kernel) (pa_cons (pv 0) (pa_cons (pe_glob (v := .ref (C 1)) (by rfl) (T.g 1 (by decide)) rfl) pa_nil))) (pa_cons (pe_callB cI (by rfl) mI (by decide +kernel) (pa_cons (pv 0) (pa_cons (pe_glob (v := .ref (C 2)) (by rfl) (T.g 2 (by decide)) rfl) pa_nil))) pa_nil)))))
        (pss_cons (ps_set (i := 1) scFirst.nd rfl (Or.inl rfl) (pe_op op_cat (pv 1) (pe_lst (pa_cons (pe_callB cI (by rfl) mI (by decide +kernel) (pa_cons (pv 0) (pa_cons (pe_glob (v := .ref (C 3)) (by rfl) (T.g 3 (by decide)) rfl) pa_nil))) (pa_cons (pe_callB cI (by rfl) mI (by decide +kernel) (pa_cons (pv 0) (pa_cons (pe_glob (v := .ref (C 4)) (by rfl) (T.g 4 (by decide)) rfl) pa_nil))) (pa_cons (pe_callB cI (by rfl) mI (by decide +kernel) (pa_cons (pv 0) (pa_cons (pe_glob (v := .ref (C 5)) (by rfl) (T.g 5 (by decide)) rfl) pa_nil))) pa_nil))))))
        (pss_cons (ps_set (i := 1) scFirst.nd rfl (Or.inl rfl) (pe_op op_cat (pv 1) (pe_lst (pa_cons (pe_callB cI (by rfl) mI (by decide +kernel) (pa_cons (pv 0) (pa_cons (pe_glob (v := .ref (C 6)) (by rfl) (T.g 6 (by decide)) rfl) pa_nil))) (pa_cons (pe_callB cI (by rfl) mI (by decide +kernel) (pa_cons (pv 0) (pa_cons (pe_glob (v := .ref (C 7)) (by rfl) (T.g 7 (by decide)) rfl) pa_nil))) (pa_cons (pe_callB cI (by rfl) mI (by decide +kernel) (pa_cons (pv 0) (pa_cons (pe_glob (v := .ref (C 8)) (by rfl) (T.g 8 (by decide)) rfl) pa_nil))) pa_nil))))))
        (pss_cons (ps_set (i := 1) scFirst.nd rfl (Or.inl rfl) (pe_op op_cat (pv 1) (pe_lst (pa_cons (pe_callB cI (by rfl) mI (by decide +kernel) (pa_cons (pv 0) (pa_cons (pe_glob (v := .ref (C 9)) (by rfl) (T.g 9 (by decide)) rfl) pa_nil))) (pa_cons (pe_callB cI (by rfl) mI (by decide +kernel) (pa_cons (pv 0) (pa_cons (pe_glob (v := .ref (C 10)) (by rfl) (T.g 10 (by decide)) rfl) pa_nil))) (pa_cons (pe_callB cI (by rfl) mI (by decide +kernel) (pa_cons (pv 0) (pa_cons (pe_glob (v := .ref (C 11)) (by rfl) (T.g 11 (by decide)) rfl) pa_nil))) pa_nil))))))
        (pss_one (ps_ret (pe_op op_cat (pv 1) (pe_lst (pa_cons (pe_callB cI (by rfl) mI (by decide +kernel) (pa_cons (pv 0) (pa_cons (pe_glob (v := .ref (C 12)) (by rfl) (T.g 12 (by decide)) rfl) pa_nil))) (pa_cons (pe_callB cI (by rfl) mI (by decide +kernel) (pa_cons (pv 0) (pa_cons (pe_glob (v := .ref (C 13)) (by rfl) (T.g 13 (by decide)) rfl) pa_nil))) (pa_cons (pe_callB cI (by rfl) mI (by decide +kernel) (pa_cons (pv 0) (pa_cons (pe_glob (v := .ref (C 14)) (by rfl) (T.g 14 (by decide)) rfl) pa_nil))) pa_nil)))))))))),
      firstRun (j := 0) sE (by decide) hE none fun σ1 H1 h1 => nextRun (j := 3) sE (by decide) (by decide) h1 fun σ2 H2 h2 => nextRun (j := 6) sE (by decide) (by decide) h2 fun σ3 H3 h3 => nextRun (j := 9) sE (by decide) (by decide) h3 fun σ4 H4 h4 => endRun (j := 12) sE (by decide) (by decide) h4 fun q vs H2 s hq r => k q vs H2 s hq r⟩
theorem ok_last {f : Addr} {fd : FuncData} (F : Fun K "_law_last_flags" "_law_last_flags" sLast f fd) (T : ErrT P w K mg C NE) (mI : mg "isinstance" = none) : FnOk P w K mg base CX0 1 f fd ["_law_error"] (spFlC C 15 12) := by
  refine F.ok scLast (fun vs H Q E h => ?_) (fun cdv A outer s H vs Q E hr h => ?_)
  · obtain ⟨_, _, _, _, _, _, rfl, _⟩ := h
    rfl
  · obtain ⟨a, i, d, dx, hi, hd, rfl, sE, hE, k⟩ := h
    have cI := cFl (X := (cxOf CX0 P w K mg base nFlag "_law_last_flags" (defScope sLast) f cdv A outer s H E).nox) T (a := a) hi hd
    exact ⟨_, pss_cons (ps_set (i := 1) scLast.nd rfl (Or.inl rfl) (pe_lst (pa_cons (pe_callB cI (by rfl) mI (by decide +kernel) (pa_cons (pv 0) (pa_cons (pe_glob (v := .ref (C 15)) (by rfl) (T.g 15 (by decide)) rfl) pa_nil))) (pa_cons (pe_callB cI (by rfl) mI (by decide +kernel) (pa_cons (pv 0) (pa_cons (pe_glob (v := .ref (C 16)) (by rfl) (T.g 16 (by decide)) rfl) pa_nil))) (pa_cons (pe_callB cI (by rfl) mI (by decide +kernel) (pa_cons (pv 0) (pa_cons (pe_glob (v := .ref (C 17)) (by rfl) (T.g 17 (by decide)) rfl) pa_nil))) pa_nil)))))
        (pss_cons (ps_set (i := 1) scLast.nd rfl (Or.inl rfl) (pe_op op_cat (pv 1) (pe_lst (pa_cons (pe_callB cI (by rfl) mI (by decide +kernel) (pa_cons (pv 0) (pa_cons (pe_glob (v := .ref (C 18)) (by rfl) (T.g 18 (by decide)) rfl) pa_nil))) (pa_cons (pe_callB cI (by rfl) mI (by decide +kernel) (pa_cons (pv 0) (pa_cons (pe_glob (v := .ref (C 19)) (by rfl) (T.g 19 (by decide)) rfl) pa_nil))) (pa_cons (pe_callB cI (by rfl) mI (by decide +kernel) (pa_cons (pv 0) (pa_cons (pe_glob (v := .ref (C 20)) (by rfl) (T.g 20 (by decide)) rfl) pa_nil))) pa_nil))))))
        (pss_cons (ps_set (i := 1) scLast.nd rfl (Or.inl rfl) (pe_op op_cat (pv 1) (pe_lst (pa_cons (pe_callB cI (by rfl) mI (by decide +kernel) (pa_cons (pv 0) (pa_cons (pe_glob (v := .ref (C 21)) (by rfl) (T.g 21 (by decide)) rfl) pa_nil))) (pa_cons (pe_callB cI (by rfl) mI (by decide +kernel) (pa_cons (pv 0) (pa_cons (pe_glob (v := .ref (C 22)) (by rfl) (T.g 22 (by decide)) rfl) pa_nil))) (pa_cons (pe_callB cI (by rfl) mI (by decide +kernel) (pa_cons (pv 0) (pa_cons (pe_glob (v := .ref (C 23)) (by rfl) (T.g 23 (by decide)) rfl) pa_nil))) pa_nil))))))
        (pss_one (ps_ret (pe_op op_cat (pv 1) (pe_lst (pa_cons (pe_callB cI (by rfl) mI (by decide +kernel) (pa_cons (pv 0) (pa_cons (pe_glob (v := .ref (C 24)) (by rfl) (T.g 24 (by decide)) rfl) pa_nil))) (pa_cons (pe_callB cI (by rfl) mI (by decide +kernel) (pa_cons (pv 0) (pa_cons (pe_glob (v := .ref (C 25)) (by rfl) (T.g 25 (by decide)) rfl) pa_nil))) (pa_cons (pe_callB cI (by rfl) mI (by decide +kernel) (pa_cons (pv 0) (pa_cons (pe_glob (v := .ref (C 26)) (by rfl) (T.g 26 (by decide)) rfl) pa_nil))) pa_nil))))))))),
      firstRun (j := 15) sE (by decide) hE none fun σ1 H1 h1 => nextRun (j := 18) sE (by decide) (by decide) h1 fun σ2 H2 h2 => nextRun (j := 21) sE (by decide) (by decide) h2 fun σ3 H3 h3 => endRun (j := 24) sE (by decide) (by decide) h3 fun q vs H2 s hq r => k q vs H2 s hq r⟩
end
end Cn
namespace Cn
open PySem PySem.Spec PyProof.Rows L2
def er (C : Nat → Addr) (x y : V) (j : Nat) : V → Hp → Prop := fun v H => ∃ a, v = .ref a ∧ ErAt C j x y a H
theorem erStab {C : Nat → Addr} {x y : V} (j : Nat) (v : V) : Stab (er C x y j v) := fun H H' s ⟨a, e, h⟩ => ⟨a, e, erAt_same s h⟩
theorem erStabs {C : Nat → Addr} {x y : V} {js : List Nat} : ∀ R ∈ js.map (er C x y), ∀ v, Stab (R v) := fun R hR v => by
  obtain ⟨j, _, rfl⟩ := List.mem_map.mp hR
  exact erStab j v
theorem runAsg {Pre : Hp → Prop} {te : TE} {i : Nat} {rest : TS} {D : Ends} {σ : L2.St} {H : Hp} {R : V → Hp → Prop} (h : Gets Pre te σ R) (p : Pre H) (k : ∀ v H', Same H H' → R v H' → rest D (σ.set i (some v)) H') : tSeq (tAsg te (gName i)) rest D σ H := h H _ p k
theorem runRet {Pre : Hp → Prop} {te : TE} {D : Ends} {σ : L2.St} {H : Hp} {R : V → Hp → Prop} (h : Gets Pre te σ R) (p : Pre H) (k : ∀ v H', Same H H' → R v H' → D.rt v H') : tRet te D σ H := h H _ p k
def TrueP : Hp → Prop := fun _ => True
theorem sT : Stab TrueP := fun _ _ _ h => h
section
variable {C : Nat → Addr} {x y : V} {z : Option V} {j : Nat}
theorem getsMk0 (hf : eF j = []) : Gets TrueP (tMk0 (C j)) [some x, some y, z] (er C x y j) := fun H Q _ k a na => k _ _ (smUpd na) ⟨a, rfl, none, upd_same, .inl ⟨hf, rfl⟩⟩
theorem getsN {H : Hp} {a d : Addr} {Q : VK} {fs : List (Str × V)} (hv : fs = eV j x y) (na : H a = none) (nd : H d = none) (ne : d ≠ a) (k : ∀ v H', Same H H' → er C x y j v H' → Q v H') : Q (.ref a) (upd (upd H d (.xd fs)) a (exo a (C j) (some d))) := by
  have n2 : (upd H d (.xd fs)) a = none := by rw [upd_ne (Ne.symm ne)]; exact na
  refine k _ _ ((smUpd nd).trans (smUpd n2)) ⟨a, rfl, some d, upd_same, .inr ⟨d, rfl, ?_⟩⟩
  rw [upd_ne ne, upd_same, hv]
theorem getsMk1 {f : Str} (hf : eF j = [f]) : Gets TrueP (tMkN (C j) (eF j) (tCons (tVar 0) tNil)) [some x, some y, z] (er C x y j) := fun H Q _ k => ⟨_, rfl, by rw [hf]; rfl, fun a d na nd ne => getsN (by unfold eV; rw [hf]; rfl) na nd ne k⟩
theorem getsMk2 : Gets TrueP (tMkN (C 0) (eF 0) (tCons (tVar 0) (tCons (tVar 1) tNil))) [some x, some y, z] (er C x y 0) := fun H Q _ k => ⟨_, rfl, _, rfl, rfl, fun a d na nd ne => getsN rfl na nd ne k⟩
end
def nErrs : List Str := ["_law_one", "_law_other", "_law_found"]
theorem scErrs : FnScope nErrs ["_law_one", "_law_other"] (defScope sErrs) := ⟨rfl, rfl, rfl, by decide +kernel, rfl, by decide +kernel, by decide +kernel⟩
def spErrs (C : Nat → Addr) : Sp := fun vs H Q _ => ∃ x y : V, vs = [x, y] ∧ ∀ (q : Addr) (us : List V) (H' : Hp), Same H H' → H' q = some (.lst us) → All2 H' ((List.range 27).map (er C x y)) us → Q (.ref q) H'
section
variable {P : Program} {w : World} {K : PySem.W.Frag} {mg : Str → Option Value} {base : Heap} {C : Nat → Addr} {NE : Addr}
theorem ok_errs {f : Addr} {fd : FuncData} (F : Fun K "_law_errors" "_law_errors" sErrs f fd) (T : ErrT P w K mg C NE) : FnOk P w K mg base CX0 2 f fd ["_law_one", "_law_other"] (spErrs C) := by
  refine F.ok scErrs (fun vs H Q E h => ?_) (fun cdv A outer s H vs Q E hr h => ?_)
  · obtain ⟨x, y, rfl, _⟩ := h
    rfl
  · obtain ⟨x, y, rfl, k⟩ := h
    refine ⟨_, pss_cons (ps_set (i := 2) scErrs.nd rfl (Or.inl rfl) (pe_lst (pa_cons (pe_mkN (T.mkE 0 (by decide)) hr (by decide) (T.g 0 (by decide)) (pa_cons (pv 0) (pa_cons (pv 1) pa_nil))) (pa_cons (pe_mk0 (T.mkE 1 (by decide)) hr (T.g 1 (by decide))) (pa_cons (pe_mk0 (T.mkE 2 (by decide)) hr (T.g 2 (by decide))) (pa_cons (pe_mk0 (T.mkE 3 (by decide)) hr (T.g 3 (by decide))) (pa_cons (pe_mk0 (T.mkE 4 (by decide)) hr (T.g 4 (by decide))) (pa_cons (pe_mk0 (T.mkE 5 (by decide)) hr (T.g 5 (by decide))) (pa_cons (pe_mk0 (T.mkE 6 (by decide)) hr (T.g 6 (by decide))) (pa_cons (pe_mkN (T.mkE 7 (by decide)) hr (by decide) (T.g 7 (by decide)) (pa_cons (pv 0) pa_nil)) pa_nil))))))))))
        (pss_cons (ps_set (i := 2) scErrs.nd rfl (Or.inl rfl) (pe_op op_cat (pv 2) (pe_lst (pa_cons (pe_mk0 (T.mkE 8 (by decide)) hr (T.g 8 (by decide))) (pa_cons (pe_mk0 (T.mkE 9 (by decide)) hr (T.g 9 (by decide))) (pa_cons (pe_mk0 (T.mkE 10 (by decide)) hr (T.g 10 (by decide))) (pa_cons (pe_mk0 (T.mkE 11 (by decide)) hr (T.g 11 (by decide))) (pa_cons (pe_mk0 (T.mkE 12 (by decide)) hr (T.g 12 (by decide))) (pa_cons (pe_mk0 (T.mkE 13 (by decide)) hr (T.g 13 (by decide))) (pa_cons (pe_mkN (T.mkE 14 (by decide)) hr (by decide) (T.g 14 (by decide)) (pa_cons (pv 0) pa_nil)) pa_nil))))))))))
        (pss_cons (ps_set (i := 2) scErrs.nd rfl (Or.inl rfl) (pe_op op_cat (pv 2) (pe_lst (pa_cons (pe_mk0 (T.mkE 15 (by decide)) hr (T.g 15 (by decide))) (pa_cons (pe_mk0 (T.mkE 16 (by decide)) hr (T.g 16 (by decide))) (pa_cons (pe_mk0 (T.mkE 17 (by decide)) hr (T.g 17 (by decide))) (pa_cons (pe_mk0 (T.mkE 18 (by decide)) hr (T.g 18 (by decide))) (pa_cons (pe_mk0 (T.mkE 19 (by decide)) hr (T.g 19 (by decide))) (pa_cons (pe_mk0 (T.mkE 20 (by decide)) hr (T.g 20 (by decide))) (pa_cons (pe_mk0 (T.mkE 21 (by decide)) hr (T.g 21 (by decide))) (pa_cons (pe_mk0 (T.mkE 22 (by decide)) hr (T.g 22 (by decide))) pa_nil)))))))))))
        (pss_one (ps_ret (pe_op op_cat (pv 2) (pe_lst (pa_cons (pe_mk0 (T.mkE 23 (by decide)) hr (T.g 23 (by decide))) (pa_cons (pe_mk0 (T.mkE 24 (by decide)) hr (T.g 24 (by decide))) (pa_cons (pe_mk0 (T.mkE 25 (by decide)) hr (T.g 25 (by decide))) (pa_cons (pe_mkN (T.mkE 26 (by decide)) hr (by decide) (T.g 26 (by decide)) (pa_cons (pv 0) pa_nil)) pa_nil)))))))))), ?_⟩
    refine runAsg (getsLst (Rs := (List.range' 0 8).map (er C x y)) (σ := [some x, some y, none]) erStabs (Nat.le_of_ble_eq_true rfl) (show GetsA TrueP _ [some x, some y, none] [er C x y 0, er C x y 1, er C x y 2, er C x y 3, er C x y 4, er C x y 5, er C x y 6, er C x y 7] from (getsCons sT (erStab 0) getsMk2 (getsCons sT (erStab 1) (getsMk0 (j := 1) rfl) (getsCons sT (erStab 2) (getsMk0 (j := 2) rfl) (getsCons sT (erStab 3) (getsMk0 (j := 3) rfl) (getsCons sT (erStab 4) (getsMk0 (j := 4) rfl) (getsCons sT (erStab 5) (getsMk0 (j := 5) rfl) (getsCons sT (erStab 6) (getsMk0 (j := 6) rfl) (getsCons sT (erStab 7) (getsMk1 (j := 7) rfl) getsNil)))))))))) trivial ?_
    rintro v H1 s1 ⟨q1, vs1, rfl, h1, r1⟩
    refine runAsg (getsCat (Rs := (List.range' 0 8).map (er C x y)) (Ss := (List.range' 8 7).map (er C x y)) (σ := [some x, some y, some (.ref q1)]) (q := q1) rfl erStabs erStabs (Nat.le_of_ble_eq_true rfl) (Nat.le_of_ble_eq_true rfl) sT (show GetsA TrueP _ [some x, some y, some (.ref q1)] [er C x y 8, er C x y 9, er C x y 10, er C x y 11, er C x y 12, er C x y 13, er C x y 14] from (getsCons sT (erStab 8) (getsMk0 (j := 8) rfl) (getsCons sT (erStab 9) (getsMk0 (j := 9) rfl) (getsCons sT (erStab 10) (getsMk0 (j := 10) rfl) (getsCons sT (erStab 11) (getsMk0 (j := 11) rfl) (getsCons sT (erStab 12) (getsMk0 (j := 12) rfl) (getsCons sT (erStab 13) (getsMk0 (j := 13) rfl) (getsCons sT (erStab 14) (getsMk1 (j := 14) rfl) getsNil))))))))) ⟨trivial, vs1, h1, r1⟩ ?_
    rintro v H2 s2 ⟨q2, vs2, rfl, h2, r2⟩
    refine runAsg (getsCat (Rs := (List.range' 0 15).map (er C x y)) (Ss := (List.range' 15 8).map (er C x y)) (σ := [some x, some y, some (.ref q2)]) (q := q2) rfl erStabs erStabs (Nat.le_of_ble_eq_true rfl) (Nat.le_of_ble_eq_true rfl) sT (show GetsA TrueP _ [some x, some y, some (.ref q2)] [er C x y 15, er C x y 16, er C x y 17, er C x y 18, er C x y 19, er C x y 20, er C x y 21, er C x y 22] from (getsCons sT (erStab 15) (getsMk0 (j := 15) rfl) (getsCons sT (erStab 16) (getsMk0 (j := 16) rfl) (getsCons sT (erStab 17) (getsMk0 (j := 17) rfl) (getsCons sT (erStab 18) (getsMk0 (j := 18) rfl) (getsCons sT (erStab 19) (getsMk0 (j := 19) rfl) (getsCons sT (erStab 20) (getsMk0 (j := 20) rfl) (getsCons sT (erStab 21) (getsMk0 (j := 21) rfl) (getsCons sT (erStab 22) (getsMk0 (j := 22) rfl) getsNil)))))))))) ⟨trivial, vs2, h2, r2⟩ ?_
    rintro v H3 s3 ⟨q3, vs3, rfl, h3, r3⟩
    refine runRet (getsCat (Rs := (List.range' 0 23).map (er C x y)) (Ss := (List.range' 23 4).map (er C x y)) (σ := [some x, some y, some (.ref q3)]) (q := q3) rfl erStabs erStabs (Nat.le_of_ble_eq_true rfl) (Nat.le_of_ble_eq_true rfl) sT (show GetsA TrueP _ [some x, some y, some (.ref q3)] [er C x y 23, er C x y 24, er C x y 25, er C x y 26] from (getsCons sT (erStab 23) (getsMk0 (j := 23) rfl) (getsCons sT (erStab 24) (getsMk0 (j := 24) rfl) (getsCons sT (erStab 25) (getsMk0 (j := 25) rfl) (getsCons sT (erStab 26) (getsMk1 (j := 26) rfl) getsNil)))))) ⟨trivial, vs3, h3, r3⟩ ?_
    rintro v H4 s4 ⟨q4, vs4, rfl, h4, r4⟩
    exact k q4 vs4 H4 (s1.trans (s2.trans (s3.trans s4))) h4 r4
end
end Cn
/-! iterators that end while an exception is handled (its context None) -/
namespace Hx
open PySem PyProof.Rows HotX
section
variable {prog : Program} {w : World} {A : Around} {E : Value → Shared → Prop} {s : Shared} {x1 : Addr}
def StopsAt (h' : Heap) (e : Addr) : Prop := ∃ o, h'.get? e = some o ∧ o.cls = .type "StopIteration"
theorem stopH {α : Type} {Q : α → Shared → Prop} (hot : HotAt A x1 s.heap) (hE : ∀ h' e, (∀ b o, s.heap.get? b = some o → h'.get? b = some o) → StopsAt h' e → E (.ref e) { s with heap := h' }) :
    wpAny (model prog w) A (newExc (.type "StopIteration") [] >>= fun e => (raiseNew e : Sem α)) Q E s := by
  obtain ⟨hh, o1, vs1, g1, d1, c1⟩ := hot
  refine wpAny_bind ?_
  simp only [newExc, newTuple]
  refine wpAny_bind (wpAny_newObj_type ?_ (by size_fits)); refine wpAny_bind (m := firstArgMember _ _) (wpAny_of_eq (a := Value.none) (by first | rfl | (simp only [firstArgMember]; rfl)) ?_); refine wpAny_newObj_type ?_ (by size_fits)
  have k2 : ∀ {b : Addr} {o : Obj} {u1 u2 : Obj}, s.heap.get? b = some o → ((s.heap.push u1).push u2).get? b = some o := fun z => Heap.get?_push_of_some _ (Heap.get?_push_of_some _ z)
  refine raiseNew_hot ⟨hh, o1, vs1, k2 g1, d1, c1⟩ (Nat.ne_of_lt (Heap.lt_size (Heap.get?_push_of_some _ g1))) (Heap.get?_push_size _ rfl) rfl (by first | (simp; done) | (simp; omega) | (simp only [Array.size_append]; simp; omega)) ?_
  refine hE _ _ (fun b o e => ?_) ⟨_, Heap.get?_update_self _ (Heap.get?_push_size _ rfl) rfl, rfl⟩
  rw [Heap.get?_update_other _ _ (Nat.ne_of_gt (Heap.lt_size (Heap.get?_push_of_some _ e)))]
  exact k2 e
theorem hotBut {it : Addr} {h' : Heap} {f : Obj → Obj} (hot : HotAt A x1 s.heap) (ne : x1 ≠ it) : HotAt A x1 (s.heap.update it f) := by
  obtain ⟨hh, o1, vs1, g1, d1, c1⟩ := hot
  exact ⟨hh, o1, vs1, by rw [Heap.get?_update_other _ _ (Ne.symm ne)]; exact g1, d1, c1⟩
/-- what the end of an iterator at it leaves -/
abbrev EndsH (E : Value → Shared → Prop) (s : Shared) (it : Addr) : Prop := ∀ h' e, Heap.ExtBut it s.heap h' → StopsAt h' e → E (.ref e) { s with heap := h' }
theorem tupEnd {it l : Addr} {i : Nat} {items : Array Value} {Q : Fin → Shared → Prop} (hot : HotAt A x1 s.heap) (ne : x1 ≠ it) (hit : s.heap.IsTupleIter it l i) (hl : s.heap.IsTuple l items) (hx : items[i]? = none) (hE : EndsH E s it) :
    wpAny (model prog w) A (Builtin.«tuple_iterator.__next__» ⟨[.ref it], []⟩) Q E s := by
  obtain ⟨o, ho, hc, hd⟩ := id hit
  obtain ⟨ol, hol, _, nl, hdl⟩ := hl
  show wpAny _ _ (field (.ref it) 0 >>= _) _ _ s
  refine wpAny_bind (wpAny_field ho hd (x := .ref l) rfl ?_); show wpAny _ _ (if (Value.ref l == Value.none) = true then _ else _) _ _ s
  rw [if_neg (show ¬ ((Value.ref l == Value.none) = true) from Bool.false_ne_true)]; show wpAny _ _ (field (.ref it) 1 >>= _) _ _ s
  refine wpAny_bind (wpAny_field ho hd (x := .int i 0) rfl ?_); show wpAny _ _ (seqItems? (.ref l) >>= _) _ _ s
  refine wpAny_bind (wpAny_seqItems hol hdl ?_)
  simp only [Int.toNat_natCast, hx]
  refine wpAny_bind (wpAny_rule (wpAny_bind (wpAny_setField ho hd (by simp) ?_)))
  exact stopH (hotBut (h' := s.heap) hot ne) fun h' e k z => hE h' e (fun b u hb q => k b u (by rw [Heap.get?_update_other _ _ (Ne.symm hb)]; exact q)) z
theorem lstEnd {it l : Addr} {i : Nat} {items : Array Value} {Q : Fin → Shared → Prop} (hot : HotAt A x1 s.heap) (ne : x1 ≠ it) (hit : s.heap.IsListIter it l i) (hl : s.heap.IsList l items) (hx : items[i]? = none) (hE : EndsH E s it) :
    wpAny (model prog w) A (Builtin.«list_iterator.__next__» ⟨[.ref it], []⟩) Q E s := by
  obtain ⟨o, ho, hc, hd⟩ := id hit
  obtain ⟨ol, hol, _, nl, hdl⟩ := hl
  show wpAny _ _ (field (.ref it) 0 >>= _) _ _ s
  refine wpAny_bind (wpAny_field ho hd (x := .ref l) rfl ?_); show wpAny _ _ (if (Value.ref l == Value.none) = true then _ else _) _ _ s
  rw [if_neg (show ¬ ((Value.ref l == Value.none) = true) from Bool.false_ne_true)]; show wpAny _ _ (field (.ref it) 1 >>= _) _ _ s
  refine wpAny_bind (wpAny_field ho hd (x := .int i 0) rfl ?_); show wpAny _ _ (seqItems? (.ref l) >>= _) _ _ s
  refine wpAny_bind (wpAny_seqItems hol hdl ?_)
  simp only [Int.toNat_natCast, hx]
  refine wpAny_bind (wpAny_rule (wpAny_bind (wpAny_setField ho hd (by simp) ?_)))
  exact stopH (hotBut (h' := s.heap) hot ne) fun h' e k z => hE h' e (fun b u hb q => k b u (by rw [Heap.get?_update_other _ _ (Ne.symm hb)]; exact q)) z
theorem nextOfT {it l : Addr} {i : Nat} {items : Array Value} {Q : Value → Shared → Prop} (hot : HotAt A x1 s.heap) (ne : x1 ≠ it) (hit : s.heap.IsTupleIter it l i) (hl : s.heap.IsTuple l items) (hx : items[i]? = none) (hE : EndsH E s it) : wpAny (model prog w) A (Builtin.SmallTypes.nextOf (.ref it)) Q E s := by
  unfold Builtin.SmallTypes.nextOf
  exact wpAny_bind (wpAny_callSpecial?_slot (name := Str.ofString "__next__") hit.typeIs F.slot_tuple_iterator_next (wpAny_call_entry F.slot_tuple_iterator_next hit.typeIs F.entry_tuple_iterator_next (tupEnd (A := A.in1) hot ne hit hl hx hE) (F.args_tuple_iterator_next_1 _)))
theorem nextOfL {it l : Addr} {i : Nat} {items : Array Value} {Q : Value → Shared → Prop} (hot : HotAt A x1 s.heap) (ne : x1 ≠ it) (hit : s.heap.IsListIter it l i) (hl : s.heap.IsList l items) (hx : items[i]? = none) (hE : EndsH E s it) : wpAny (model prog w) A (Builtin.SmallTypes.nextOf (.ref it)) Q E s := by
  unfold Builtin.SmallTypes.nextOf
  exact wpAny_bind (wpAny_callSpecial?_slot (name := Str.ofString "__next__") hit.typeIs slot_listiter_next (wpAny_call_entry slot_listiter_next hit.typeIs entry_listiter_next (lstEnd (A := A.in1) hot ne hit hl hx hE) (args_listiter_next _)))
theorem pyNextT {it l : Addr} {i : Nat} {items : Array Value} {Q : Option Value → Shared → Prop} (hot : HotAt A x1 s.heap) (ne : x1 ≠ it) (hit : s.heap.IsTupleIter it l i) (hl : s.heap.IsTuple l items) (hx : items[i]? = none) (hQ : ∀ h', Heap.ExtBut it s.heap h' → Q none { s with heap := h' }) : wpAny (model prog w) A (pyNext (.ref it)) Q E s := by
  unfold pyNext
  refine wpAny_bind (wpAny_attempt (wpAny_callSpecial?_slot (name := Str.ofString "__next__") hit.typeIs F.slot_tuple_iterator_next (wpAny_call_entry F.slot_tuple_iterator_next hit.typeIs F.entry_tuple_iterator_next (tupEnd (A := A.in1) hot ne hit hl hx fun h' e k z => ?_) (F.args_tuple_iterator_next_1 _))))
  obtain ⟨o, ho, hc⟩ := z
  exact wpAny_bind (wpAny_isInstance (T := "StopIteration") (b := true) ⟨o, ho, hc⟩ isSubtype_stop (wpAny_pure (hQ _ k)))
theorem pyNextL {it l : Addr} {i : Nat} {items : Array Value} {Q : Option Value → Shared → Prop} (hot : HotAt A x1 s.heap) (ne : x1 ≠ it) (hit : s.heap.IsListIter it l i) (hl : s.heap.IsList l items) (hx : items[i]? = none) (hQ : ∀ h', Heap.ExtBut it s.heap h' → Q none { s with heap := h' }) : wpAny (model prog w) A (pyNext (.ref it)) Q E s := by
  unfold pyNext
  refine wpAny_bind (wpAny_attempt (wpAny_callSpecial?_slot (name := Str.ofString "__next__") hit.typeIs slot_listiter_next (wpAny_call_entry slot_listiter_next hit.typeIs entry_listiter_next (lstEnd (A := A.in1) hot ne hit hl hx fun h' e k z => ?_) (args_listiter_next _))))
  obtain ⟨o, ho, hc⟩ := z
  exact wpAny_bind (wpAny_isInstance (T := "StopIteration") (b := true) ⟨o, ho, hc⟩ isSubtype_stop (wpAny_pure (hQ _ k)))
theorem zipEndT {z TI TO i1 i2 l1 : Addr} {k1 : Nat} {xs : Array Value} {a b : Value} {Q : Fin → Shared → Prop} (hot : HotAt A x1 s.heap) (n1 : x1 ≠ i1) (n2 : x1 ≠ z) (d1 : i1 ≠ z) (d2 : l1 ≠ z) (hz : IsZip s.heap z TI TO .none) (hTI : IsPair s.heap TI (.ref i1) (.ref i2)) (hTO : IsPair s.heap TO a b)
    (h1 : s.heap.IsTupleIter i1 l1 k1) (hl1 : s.heap.IsTuple l1 xs) (hend : xs[k1]? = none)
    (hE : ∀ h' e, (∀ c o, c ≠ z → c ≠ i1 → s.heap.get? c = some o → h'.get? c = some o) → StopsAt h' e → E (.ref e) { s with heap := h' }) : wpAny (model prog w) A (Builtin.«zip.__next__» ⟨[.ref z], []⟩) Q E s := by
  show wpAny _ _ (field (.ref z) 2 >>= _) _ _ _
  refine wpAny_bind (wpAny_field hz rfl (x := .bool false) rfl ?_); show wpAny _ _ (field (.ref z) 3 >>= _) _ _ _
  refine wpAny_bind (wpAny_field hz rfl (x := .ref TI) rfl ?_); refine wpAny_bind (wpAny_seqItems hTI rfl ?_)
  show wpAny _ _ (Builtin.SmallTypes.ownedTupleIsFree (.ref z) >>= _) _ _ _
  refine wpAny_bind ?_
  unfold Builtin.SmallTypes.ownedTupleIsFree
  refine wpAny_bind (wpAny_field hz rfl (x := .none) rfl (wpAny_pure ?_)); simp only [if_true]; refine wpAny_bind (wpAny_rule ?_)
  refine wpAny_bind (wpAny_field hz rfl (x := .ref TO) rfl ?_); refine wpAny_bind (wpAny_setField_rec hz (by simp) fun g1 gz1 gs1 => ?_)
  replace gz1 : IsZip g1 z TI TO .ellipsis := gz1
  refine wpAny_bind ?_; simp only [List.zipIdx_cons, List.zipIdx_nil, List.forIn_cons, List.forIn_nil]
  refine wpAny_bind (wpAny_bind (wpAny_onRaise ?_)); show wpAny _ _ (Builtin.SmallTypes.nextOf (.ref i1) >>= _) _ _ _
  have hot1 : HotAt A x1 g1 := by
    obtain ⟨hh, o1, vs1, q1, q2, q3⟩ := hot
    exact ⟨hh, o1, vs1, gs1.extBut _ _ n2 q1, q2, q3⟩
  refine wpAny_bind (nextOfT hot1 n1 (h1.extBut gs1.extBut d1) (hl1.extBut gs1.extBut d2) hend fun g2 e gs2 he => ?_)
  obtain ⟨oe, hoe, hce⟩ := he
  have gz2 : IsZip g2 z TI TO .ellipsis := gs2 _ _ d1.symm gz1
  have hez : e ≠ z := fun q => by subst q; rw [gz2] at hoe; cases hoe; simp at hce
  exact wpAny_setField_rec gz2 (by simp) fun g3 _ gs3 => hE g3 e (fun c o c1 c3 q => gs3.extBut _ _ c1 (gs2 _ _ c3 (gs1.extBut _ _ c1 q))) ⟨oe, gs3.extBut _ _ hez hoe, hce⟩
theorem pyZipEndT {z TI TO i1 i2 l1 : Addr} {k1 : Nat} {xs : Array Value} {a b : Value} {Q : Option Value → Shared → Prop} (hot : HotAt A x1 s.heap) (n1 : x1 ≠ i1) (n2 : x1 ≠ z) (d1 : i1 ≠ z) (d2 : l1 ≠ z) (hz : IsZip s.heap z TI TO .none) (hTI : IsPair s.heap TI (.ref i1) (.ref i2)) (hTO : IsPair s.heap TO a b)
    (h1 : s.heap.IsTupleIter i1 l1 k1) (hl1 : s.heap.IsTuple l1 xs) (hend : xs[k1]? = none) (hQ : ∀ h', (∀ c o, c ≠ z → c ≠ i1 → s.heap.get? c = some o → h'.get? c = some o) → Q none { s with heap := h' }) : wpAny (model prog w) A (pyNext (.ref z)) Q E s := by
  have hT : s.TypeIs (.ref z) "zip" := ⟨_, hz, rfl⟩
  unfold pyNext
  refine wpAny_bind (wpAny_attempt (wpAny_callSpecial?_slot (name := Str.ofString "__next__") hT F.slot_zip_next (wpAny_call_entry F.slot_zip_next hT F.entry_zip_next (zipEndT (A := A.in1) hot n1 n2 d1 d2 hz hTI hTO h1 hl1 hend fun h' e hk he => ?_) (F.args_zip_next_1 _))))
  obtain ⟨o, ho, hc⟩ := he
  exact wpAny_bind (wpAny_isInstance (T := "StopIteration") (b := true) ⟨o, ho, hc⟩ isSubtype_stop (wpAny_pure (hQ _ hk)))
theorem zipEndL {z TI TO i1 i2 l1 : Addr} {k1 : Nat} {xs : Array Value} {a b : Value} {Q : Fin → Shared → Prop} (hot : HotAt A x1 s.heap) (n1 : x1 ≠ i1) (n2 : x1 ≠ z) (d1 : i1 ≠ z) (d2 : l1 ≠ z) (hz : IsZip s.heap z TI TO .none) (hTI : IsPair s.heap TI (.ref i1) (.ref i2)) (hTO : IsPair s.heap TO a b)
    (h1 : s.heap.IsListIter i1 l1 k1) (hl1 : s.heap.IsList l1 xs) (hend : xs[k1]? = none)
    (hE : ∀ h' e, (∀ c o, c ≠ z → c ≠ i1 → s.heap.get? c = some o → h'.get? c = some o) → StopsAt h' e → E (.ref e) { s with heap := h' }) : wpAny (model prog w) A (Builtin.«zip.__next__» ⟨[.ref z], []⟩) Q E s := by
  show wpAny _ _ (field (.ref z) 2 >>= _) _ _ _
  refine wpAny_bind (wpAny_field hz rfl (x := .bool false) rfl ?_); show wpAny _ _ (field (.ref z) 3 >>= _) _ _ _
  refine wpAny_bind (wpAny_field hz rfl (x := .ref TI) rfl ?_); refine wpAny_bind (wpAny_seqItems hTI rfl ?_)
  show wpAny _ _ (Builtin.SmallTypes.ownedTupleIsFree (.ref z) >>= _) _ _ _
  refine wpAny_bind ?_
  unfold Builtin.SmallTypes.ownedTupleIsFree
  refine wpAny_bind (wpAny_field hz rfl (x := .none) rfl (wpAny_pure ?_)); simp only [if_true]; refine wpAny_bind (wpAny_rule ?_)
  refine wpAny_bind (wpAny_field hz rfl (x := .ref TO) rfl ?_); refine wpAny_bind (wpAny_setField_rec hz (by simp) fun g1 gz1 gs1 => ?_)
  replace gz1 : IsZip g1 z TI TO .ellipsis := gz1
  refine wpAny_bind ?_; simp only [List.zipIdx_cons, List.zipIdx_nil, List.forIn_cons, List.forIn_nil]
  refine wpAny_bind (wpAny_bind (wpAny_onRaise ?_)); show wpAny _ _ (Builtin.SmallTypes.nextOf (.ref i1) >>= _) _ _ _
  have hot1 : HotAt A x1 g1 := by
    obtain ⟨hh, o1, vs1, q1, q2, q3⟩ := hot
    exact ⟨hh, o1, vs1, gs1.extBut _ _ n2 q1, q2, q3⟩
  refine wpAny_bind (nextOfL hot1 n1 (h1.extBut gs1.extBut d1) (hl1.extBut gs1.extBut d2) hend fun g2 e gs2 he => ?_)
  obtain ⟨oe, hoe, hce⟩ := he
  have gz2 : IsZip g2 z TI TO .ellipsis := gs2 _ _ d1.symm gz1
  have hez : e ≠ z := fun q => by subst q; rw [gz2] at hoe; cases hoe; simp at hce
  exact wpAny_setField_rec gz2 (by simp) fun g3 _ gs3 => hE g3 e (fun c o c1 c3 q => gs3.extBut _ _ c1 (gs2 _ _ c3 (gs1.extBut _ _ c1 q))) ⟨oe, gs3.extBut _ _ hez hoe, hce⟩
theorem pyZipEndL {z TI TO i1 i2 l1 : Addr} {k1 : Nat} {xs : Array Value} {a b : Value} {Q : Option Value → Shared → Prop} (hot : HotAt A x1 s.heap) (n1 : x1 ≠ i1) (n2 : x1 ≠ z) (d1 : i1 ≠ z) (d2 : l1 ≠ z) (hz : IsZip s.heap z TI TO .none) (hTI : IsPair s.heap TI (.ref i1) (.ref i2)) (hTO : IsPair s.heap TO a b)
    (h1 : s.heap.IsListIter i1 l1 k1) (hl1 : s.heap.IsList l1 xs) (hend : xs[k1]? = none) (hQ : ∀ h', (∀ c o, c ≠ z → c ≠ i1 → s.heap.get? c = some o → h'.get? c = some o) → Q none { s with heap := h' }) : wpAny (model prog w) A (pyNext (.ref z)) Q E s := by
  have hT : s.TypeIs (.ref z) "zip" := ⟨_, hz, rfl⟩
  unfold pyNext
  refine wpAny_bind (wpAny_attempt (wpAny_callSpecial?_slot (name := Str.ofString "__next__") hT F.slot_zip_next (wpAny_call_entry F.slot_zip_next hT F.entry_zip_next (zipEndL (A := A.in1) hot n1 n2 d1 d2 hz hTI hTO h1 hl1 hend fun h' e hk he => ?_) (F.args_zip_next_1 _))))
  obtain ⟨o, ho, hc⟩ := he
  exact wpAny_bind (wpAny_isInstance (T := "StopIteration") (b := true) ⟨o, ho, hc⟩ isSubtype_stop (wpAny_pure (hQ _ hk)))

/-- a, b = a tuple -/
theorem unpackH {t : Addr} {items : Array Value} {Q : List Value → Shared → Prop} (hot : HotAt A x1 s.heap) (ht : s.heap.IsTuple t items) (hQ : ∀ h', Heap.ExtBut s.heap.objs.size s.heap h' → Q items.toList { s with heap := h' }) : wpAny (model prog w) A (unpackItems (.ref t) items.size none) Q E s := by
  have hlt : t ≠ s.heap.objs.size := by obtain ⟨o, ho, _⟩ := ht; exact Nat.ne_of_lt (Heap.lt_size ho)
  have hx1 : x1 ≠ s.heap.objs.size := by obtain ⟨_, o, _, ho, _⟩ := hot; exact Nat.ne_of_lt (Heap.lt_size ho)
  unfold unpackItems
  refine wpAny_bind ?_
  unfold notIterableAtAll
  refine wpAny_bind (wpAny_specialOf ht.typeIs F.slot_tuple_iter.lookup (wpAny_pure ?_))
  simp only [Bool.false_eq_true, if_false]
  refine wpAny_bind (wpAny_holding (wpAny_pyIter_tuple ht ?_))
  refine wpAny_bind (wpAny_holding (wpAny_draw_tuple hlt items.size 0 _ _ ⟨_, Heap.get?_push_size _ rfl, rfl, rfl⟩ (ht.push _) (by omega) fun g1 git1 gs1 => ?_))
  rw [show List.take items.size (List.drop 0 items.toList) = items.toList from by rw [List.drop_zero]; exact List.take_of_length_le (by simp), if_neg (by simp)]
  have hot1 : HotAt A x1 g1 := by
    obtain ⟨hh, o1, vs1, q1, q2, q3⟩ := hot
    exact ⟨hh, o1, vs1, gs1.extBut _ _ hx1 (Heap.get?_push_of_some _ q1), q2, q3⟩
  refine wpAny_bind (wpAny_holding (pyNextT hot1 hx1 git1 ((ht.push _).extBut gs1.extBut hlt) (by simp) fun g2 ge2 => ?_))
  simp only [Option.isSome_none, Bool.false_eq_true, if_false]
  exact wpAny_pure (hQ g2 fun b o hb e => ge2 b o hb (gs1.extBut b o hb (Heap.get?_push_of_some _ e)))
end
end Hx
/-! defs that run while an exception is handled that stood when they were called -/
namespace Cn
open PySem PySem.Spec PyProof.Rows L2 L2H HotX
/-- the exception p, handled, stood at the entry of X, out of the reach of what is tracked -/
structure HotB (X : Cx) (p : Addr × Obj) : Prop where
  hd : X.A.handled = some (.ref p.1)
  st : X.s_0.heap.get? p.1 = some p.2
  nt : X.H_0 p.1 = none
  nf : p.1 ∉ X.fs
  ne' : p.1 ∉ X.ex
  cx : ∃ vs : Array Value, p.2.data = .fields vs ∧ vs[2]? = some .none
section
variable {X : Cx} {p : Addr × Obj} {pins : List (Addr × Obj)} {σ : L2.St} {H : Hp} {s : Shared}
theorem HotB.get (h : HotB X p) (I : Inv X pins σ H s) : s.heap.get? p.1 = some p.2 := I.base.keep _ _ h.st h.nt h.nf h.ne'
theorem HotB.fr (h : HotB X p) (I : Inv X pins σ H s) : H p.1 = none := I.base.free _ _ h.st h.nt h.ne'
theorem HotB.at (h : HotB X p) (I : Inv X pins σ H s) : HotAt X.A p.1 s.heap := by
  obtain ⟨vs, e, c⟩ := h.cx
  exact ⟨h.hd, p.2, vs, h.get I, e, c⟩
theorem HotB.ne (h : HotB X p) {b : Addr} (f : FpOk X pins H b) : p.1 ≠ b := fun e => by
  rcases f.2.2.2.1 with z | z
  · exact h.ne' (by rw [e]; exact z)
  · exact absurd (Heap.lt_size h.st) (by rw [e]; exact Nat.not_lt.mpr z)
theorem HotB.loc (h : HotB X p) (I : Inv X pins σ H s) : p.1 ≠ X.env.locals := Nat.ne_of_lt (Nat.lt_of_lt_of_le (Heap.lt_size h.st) I.ok.above)
theorem HotB.nocell (h : HotB X p) : ∀ v, p.2.data ≠ .cell v := fun v z => by
  obtain ⟨vs, e, _⟩ := h.cx
  rw [e] at z; cases z
theorem HotB.pin (h : HotB X p) (I : Inv X pins σ H s) : PinOk X.stack H s p ∧ Hot1 X.A p :=
  ⟨⟨h.get I, h.fr I, fun hm => (List.mem_cons.mp (I.stkSub p.1 hm)).elim (h.loc I) h.nf, h.nocell⟩, h.hd, h.cx⟩
end
/-- a def's promise there -/
structure FnP (P : Program) (w : World) (K : PySem.W.Frag) (mg : Str → Option Value) (base : Heap) (p : Addr × Obj) (k : Nat) (f : Addr) (fd : FuncData) (ps : List Str) (sp : Sp) : Prop where
  len : ∀ vs H Q E, sp vs H Q E → vs.length = ps.length
  run : ∀ (A : Around) (outer : List Env) (s : Shared) (H : Hp) (args : Args) (us : List Value) (vs : List V) (Q : VK) (E : XK), RoomH k A → Hot1 A p → PinOk outer H s p → Env0 P w K mg base A outer s H → BindsTo s fd args (ps.zip us) → Vals vs us → sp vs H Q E →
    codeAny (model P w) A (.call (.ref f) args) (CR CX0 outer P w H s Q E) s
def cxP (P : Program) (w : World) (K : PySem.W.Frag) (mg : Str → Option Value) (base : Heap) (N : List Str) (qual : Str) (scope : Scope) (f : Addr) (cd : Value) (A : Around) (outer : List Env) (s : Shared) (H : Hp) (E : XK) : Cx := { cxOf CX0 P w K mg base N qual scope f cd A outer s H E with calm := false }
section
variable {P : Program} {w : World} {K : PySem.W.Frag} {mg : Str → Option Value} {base : Heap} {p : Addr × Obj}
theorem fnP_of {k : Nat} {f : Addr} {x qual : Str} {st : Stmt} {fd : FuncData} {N ps : List Str} {sp : Sp} (F : Fun K x qual st f fd) (S : FnScope N ps (defScope st)) (len : ∀ vs H Q E, sp vs H Q E → vs.length = ps.length)
    (hbody : ∀ (cdv : Value) (A : Around) (outer : List Env) (s : Shared) (H : Hp) (vs : List V) (Q : VK) (E : XK), HotB (cxP P w K mg base N qual (defScope st) f cdv A outer s H E) p → RoomH k (A.deeper (envOfC qual (defScope st) s.heap.objs.size f cdv)) → sp vs H Q E →
      ∃ t, PSs (cxP P w K mg base N qual (defScope st) f cdv A outer s H E) (defBody st) t ∧ t { nx := fun _ H' => Q .non H', rt := Q } (L2.start N vs) H) : FnP P w K mg base p (k + 1) f fd ps sp := by
  obtain ⟨oc, od, kV, doc, pm, an, cdv, ct, osl, rfl, lk, hcd⟩ := F.ex
  refine ⟨len, fun A outer s H args us vs Q E hr hot hpin e0 hb r hsp => ?_⟩
  have hl := len _ _ _ _ hsp
  have KX : K.In s.heap := e0.mod.kin.keeps fun b o e => (e0.bs b o e).1
  have lim : s.heap.NoLimit := e0.mod.nolimit.keeps fun b o e => (e0.bs b o e).1
  have hkind : ∀ y ∈ ps.zip us, (defScope st).names.lookup y.1 = some .local ∨ ((defScope st).names.lookup y.1 = some .cell ∧ ((cellsFrom (s.heap.objs.size + 1) (defScope st).names []).lookup y.1).isSome = true) := fun ⟨n, v⟩ hy =>
    (S.par n (List.of_mem_zip hy).1).imp (fun q => q) fun q => ⟨q, PySem.W.cellsFrom_some _ _ _ (.inl q)⟩
  refine codeAny_call_function hr.depth (KX _ _ lk) rfl S.co S.gen rfl (PySem.W.codeRec_of KX hcd) (hb _ _ _ _ ?_)
  refine wpAny_newFunctionEnv_cells S.kind hkind fun env he s1 x => ?_
  subst he
  refine ⟨lim.keeps x.toInCall.keep, codeAny_func ?_⟩
  have hB : HotB (cxP P w K mg base N qual (defScope st) f cdv A outer s H E) p := ⟨hot.1, hpin.get, hpin.free, hpin.nofs, (fun z => nomatch z), hot.2⟩
  obtain ⟨t, ht, hq⟩ := hbody cdv A outer s H vs Q E hB (hr.deeper _) hsp
  have J := inv_startH (CX := CX0) (E := E) S hpin e0 hl r x
  have I : Inv (cxP P w K mg base N qual (defScope st) f cdv A outer s H E) [] (L2.start N vs) H s1 :=
    ⟨⟨J.ok.mod, J.ok.kind, J.ok.glob, J.ok.blt, J.ok.above, J.ok.inj, J.ok.has, J.ok.cab, J.ok.hd, J.ok.frames, J.ok.stk, J.ok.exf, J.ok.bs, J.ok.bsz, J.ok.noex, J.ok.exfs, J.ok.funs, J.ok.frf⟩, J.os, J.bare, J.base, J.loc, J.cell, J.free, J.freeC, fun q hq => absurd hq (by intro z; cases z), J.hok, J.len⟩
  refine wpAny_mono (ht.run [] s1 (L2.start N vs) H _ I hq) (fun fl s' hs => ?_) fun e s' hs => hs
  have fin : ∀ {σ' : L2.St} {H' : Hp} {v : V} {u : Value}, Inv (cxP P w K mg base N qual (defScope st) f cdv A outer s H E) [] σ' H' s' → RelV v u → Q v H' → CE outer P w H s Q u s' := fun {σ' H' v u} J rv q => ⟨v, H', J.os, J.bare, J.base, J.hok, rv, q⟩
  cases fl with
  | ret u => obtain ⟨v, σ', H', J, rv, q⟩ := hs; exact fin J rv q
  | next => obtain ⟨σ', H', J, q⟩ := hs; exact fin (v := V.non) (u := Value.none) J rfl q
  | brk => obtain ⟨_, _, _, q⟩ := hs; exact False.elim q
  | cont => obtain ⟨_, _, _, q⟩ := hs; exact False.elim q
end
section
variable {X : Cx} {p : Addr × Obj} {k : Nat} {f : Addr} {fd : FuncData} {ps : List Str} {sp : Sp} {x : Str} {q pos : Pos} {e : Expr} {es : List Expr} {t : TA}
/-- where p is the handled one, for calls -/
def PinAt (X : Cx) (p : Addr × Obj) : Prop := ∀ (pins : List (Addr × Obj)) (σ : L2.St) (H : Hp) (s : Shared), Inv X pins σ H s → PinOk X.stack H s p ∧ Hot1 X.A p
theorem PinAt.suite {a : Addr} {oe : Obj} {pn : List (Addr × Obj)} (hc : ∃ vs : Array Value, oe.data = .fields vs ∧ vs[2]? = some .none) : PinAt (X.suite a ((a, oe) :: pn)) (a, oe) := fun pins σ H s I => by
  have P1 := I.pin (a, oe) (List.mem_append_left _ List.mem_cons_self)
  exact ⟨⟨P1.1, P1.2.1, fun hm => (List.mem_cons.mp (I.stkSub a hm)).elim P1.2.2.1 P1.2.2.2.1, P1.2.2.2.2⟩, rfl, hc⟩
theorem pe_callP (F : FnP X.prog X.w X.K X.mg X.base p k f fd ps sp) (hr : RoomH k X.A) (hc : PinAt X p) (hg : Gl X x) (hm : X.mg x = some (.ref f)) (hk : PySem.W.keepIn X.K (.ref f) = true) (hb : Binds X.K fd ps [])
    (ha : PA X (e :: es) t) (hdb : (x == ("__debug__" : Str)) = false := by decide) (he : starEach (e :: es) X.env = (false, eval e X.env) :: starEach es X.env := by rfl) (hpl : (backTo pos (starEach es X.env)).any (·.1) = false := by rfl) :
    PE X (.Call (.Name x q) (e :: es) [] pos) (tCall sp [] (fun _ _ _ => False) t) := by
  refine ⟨fun pins s σ H Q I h => wpAny_Call_Name_kw (ld_glob I hg hm ?_ hdb)⟩
  refine PySem.W.callWith_K (h₀ := X.base) I.ok.mod.kin hk (thn (ha.run pos pins s σ H _ I h) fun us s1 ⟨vs, H1, I1, r, q1⟩ => ⟨I1.kIn, ?_⟩) he hpl
  have q1 : sp vs H1 Q (fun _ _ _ => False) := by
    have z : sp (vs ++ []) H1 Q (fun _ _ _ => False) := q1
    rw [List.append_nil] at z
    exact z
  have hl : us.length = ps.length := by rw [← r.length]; exact F.len _ _ _ _ q1
  have b := hb s1 us I1.kIn (by rw [List.append_nil]; exact hl)
  rw [List.append_nil] at b
  obtain ⟨hpin, hot⟩ := hc pins σ H1 s1 I1
  refine wpAny_call (codeAny_mono (F.run X.A X.stack s1 H1 ⟨us, []⟩ us vs Q _ hr hot hpin I1.env0 b r q1) fun r s' hq => ?_)
  cases r with
  | error e => exact False.elim hq
  | ok fl =>
    cases fl with
    | ret u => exact I1.after hq
    | next => exact False.elim hq
    | brk => exact False.elim hq
    | cont => exact False.elim hq
/-- a, b = a tuple -/
theorem pg_tupH {es : List Expr} {kk : Nat} {t : TGs} {n : Nat} {tpos : Pos} (hc : HotB X p) (h : PGs X es t) (hn : (assignEach es X.env).length = n := by rfl) (hst : (assignEach es X.env).findIdx? (·.1) = none := by rfl) : PG X (.Tuple es kk tpos) (gTup X.K n t) := by
  refine ⟨fun pins s σ H v u Q I r hw => ?_⟩
  obtain ⟨a, xs, rfl, hq, hl, hw⟩ := hw
  cases r
  obtain ⟨its, rv, ht, hz⟩ := I.tuple hq
  rw [arm_assign_Tuple]
  refine wpAny_bind (wpAny_standAt ?_)
  have hsz : (assignEach es X.env).length = its.toArray.size := by simp [hn, ← hl, rv.length]
  unfold unpack
  rw [hsz, hst]
  refine wpAny_bind (wpAny_holding (Hx.unpackH (hc.at I) ht fun h' hx => ?_))
  exact h.run pins _ σ H xs _ Q (I.kept (t' := s.toks) fun b o e => hx b o (Nat.ne_of_lt (Heap.lt_size e)) e) (by simpa using rv) hw
end
/-! turns of a comprehension there -/
structure TurnP (P : Program) (w : World) (K : PySem.W.Frag) (tg : Expr) (J : It) (fp : List Addr) (it : Addr) (tn : Nat → Heap → Prop) (p : Addr × Obj) : Prop where
  mem : it ∈ fp
  obj : ∀ i h, tn i h → ∀ b ∈ fp, ∃ o, h.get? b = some o ∧ ∀ v, o.data ≠ .cell v
  keep : ∀ i h h', tn i h → (∀ b ∈ fp, ∀ o, h.get? b = some o → h'.get? b = some o) → tn i h'
  item : ∀ (X : Cx), X.prog = P → X.w = w → X.K = K → HotB X p → ∀ (i : Nat) (pins : List (Addr × Obj)) (s : Shared) (σ : L2.St) (H : Hp) (E : Value → Shared → Prop), Inv X pins σ H s → (∀ b ∈ fp, FpOk X pins H b) → tn i s.heap → J.go i H →
    wpAny (model P w) X.A (pyNext (.ref it)) (fun r s1 => ∃ u, r = some u ∧ wpAny (model P w) X.A (letOwnedTupleGo tg (.ref it) u) (fun _ s2 => ∃ x H', Inv X pins σ H' s2 ∧ RelV x u ∧ J.yld i H x H' ∧ tn (i + 1) s2.heap ∧ ∀ b ∈ fp, H' b = none) E s1) E s
  done : ∀ (X : Cx), X.prog = P → X.w = w → X.K = K → HotB X p → ∀ (i : Nat) (pins : List (Addr × Obj)) (s : Shared) (σ : L2.St) (H : Hp) (E : Value → Shared → Prop), Inv X pins σ H s → (∀ b ∈ fp, FpOk X pins H b) → tn i s.heap → J.stop i H →
    wpAny (model P w) X.A (pyNext (.ref it)) (fun r s1 => r = none ∧ Inv X pins σ H s1) E s
  self : ∀ (A : Around) (i : Nat) (s : Shared) (Q : Value → Shared → Prop) (E : Value → Shared → Prop), tn i s.heap → Q (.ref it) s → wpAny (model P w) A (pyIter (.ref it)) Q E s
def ItHL (K : PySem.W.Frag) (a b : Addr) : It :=
  ⟨fun i H => ∃ (xs ys : List V) (x y : V), SqL K H a xs ∧ SqL K H b ys ∧ xs[i]? = some x ∧ ys[i]? = some y, fun i H v H' => ∃ T x y, v = .ref T ∧ H T = none ∧ H' = upd H T (.tup [x, y]) ∧ (∀ xs, SqL K H a xs → xs[i]? = some x) ∧ ∀ ys, SqL K H b ys → ys[i]? = some y,
    fun i H => ∃ xs : List V, SqL K H a xs ∧ xs.length ≤ i⟩
def ItHT (K : PySem.W.Frag) (a b : Addr) : It :=
  ⟨fun i H => ∃ (xs ys : List V) (x y : V), SqT K H a xs ∧ SqT K H b ys ∧ xs[i]? = some x ∧ ys[i]? = some y, fun i H v H' => ∃ T x y, v = .ref T ∧ H T = none ∧ H' = upd H T (.tup [x, y]) ∧ (∀ xs, SqT K H a xs → xs[i]? = some x) ∧ ∀ ys, SqT K H b ys → ys[i]? = some y,
    fun i H => ∃ xs : List V, SqT K H a xs ∧ xs.length ≤ i⟩
theorem turnZL {P : Program} {w : World} {K : PySem.W.Frag} {elts : List Expr} {kk : Nat} {tpos : Pos} {p : Addr × Obj} {a b z TI TO i1 i2 : Addr} (D : ZipApart z TI TO i1 i2 a b) :
    TurnP P w K (.Tuple elts kk tpos) (ItHL K a b) [z, TI, TO, i1, i2] z (fun i h => IsZip h z TI TO .none ∧ IsPair h TI (.ref i1) (.ref i2) ∧ (∃ x y, IsPair h TO x y) ∧ h.IsListIter i1 a i ∧ h.IsListIter i2 b i) p where
  mem := List.mem_cons_self
  obj := by
    rintro i h ⟨hz, hTI, ⟨x, y, hTO⟩, ⟨o1, e1, _, d1⟩, ⟨o2, e2, _, d2⟩⟩ c hc
    have e' : c = z ∨ c = TI ∨ c = TO ∨ c = i1 ∨ c = i2 := by simpa using hc
    rcases e' with rfl | rfl | rfl | rfl | rfl
    · exact ⟨_, hz, fun v q => nomatch q⟩
    · exact ⟨_, hTI, fun v q => nomatch q⟩
    · exact ⟨_, hTO, fun v q => nomatch q⟩
    · exact ⟨o1, e1, fun v q => by rw [d1] at q; cases q⟩
    · exact ⟨o2, e2, fun v q => by rw [d2] at q; cases q⟩
  keep := by
    rintro i h h' ⟨hz, hTI, ⟨x, y, hTO⟩, h1, h2⟩ k
    exact ⟨k z (by simp) _ hz, k TI (by simp) _ hTI, ⟨x, y, k TO (by simp) _ hTO⟩, h1.at fun o q => k i1 (by simp) o q, h2.at fun o q => k i2 (by simp) o q⟩
  item := by
    intro X hP hw hK hb i pins s σ H E I hf st hg
    subst hP hw hK
    obtain ⟨hz, hTI, ⟨x0, y0, hTO⟩, h1, h2⟩ := st
    obtain ⟨xs, ys, x, y, hqx, hqy, hx, hy⟩ := hg
    obtain ⟨its, rv, p1, _⟩ := I.list hqx
    obtain ⟨its2, rv2, p2, _⟩ := I.list hqy
    obtain ⟨u, hu, ru⟩ := rv.get hx
    obtain ⟨u2, hu2, ru2⟩ := rv2.get hy
    have hzl : z < s.heap.objs.size := Heap.lt_size hz
    have hlt : ∀ c ∈ [z, TI, TO, i1, i2], c < s.heap.objs.size := fun c hc => by
      have e' : c = z ∨ c = TI ∨ c = TO ∨ c = i1 ∨ c = i2 := by simpa using hc
      obtain ⟨_, g1, _⟩ := id h1
      obtain ⟨_, g2, _⟩ := id h2
      rcases e' with rfl | rfl | rfl | rfl | rfl
      · exact hzl
      · exact Heap.lt_size hTI
      · exact Heap.lt_size hTO
      · exact Heap.lt_size g1
      · exact Heap.lt_size g2
    refine wpAny_pyNext_zip_item D hz hTI hTO h1 h2 p1.isList p2.isList (x := u) (y := u2) (by simpa using hu) (by simpa using hu2) fun g1 z1 TO1 j1 j2 hT hsz hk => ⟨_, rfl, wpAny_letOwnedTupleGo_zip (s := { s with heap := g1 }) z1 fun g2 z2 sb => ?_⟩
    have hT2 : g2.get? s.heap.objs.size = some { cls := .type "tuple", data := .seq #[u, u2] } := (sb.2 _ (Nat.ne_of_gt hzl)).trans hT
    have new : ObjOk X.prog X.w (upd H s.heap.objs.size (.tup [x, y])) g2 s.heap.objs.size (.tup [x, y]) := ⟨by show 2 ≤ sizeLine; decide, [u, u2], .cons ru (.cons ru2 .nil), ⟨_, hT2, rfl, _, rfl⟩⟩
    have kp : ∀ c o, c ∉ [z, TI, TO, i1, i2] → s.heap.get? c = some o → g2.get? c = some o := fun c o hc q =>
      (sb.2 c (fun e => hc (by simp [e]))).trans (hk c o (fun e => hc (by simp [e])) (fun e => hc (by simp [e])) (fun e => hc (by simp [e])) (fun e => hc (by simp [e])) q)
    refine ⟨.ref s.heap.objs.size, _, I.turnedNew (t' := s.toks) kp hf (Nat.le_refl _) new, rfl, ⟨_, x, y, rfl, I.hok.fresh (Nat.le_refl _), rfl, fun l hl => by rw [I.list_inj hl hqx]; exact hx, fun l hl => by rw [I.list_inj hl hqy]; exact hy⟩, ⟨z2, ?_, ⟨u, u2, ?_⟩, ?_, ?_⟩, fun c hc => ?_⟩
    · exact (sb.2 _ D.TIz).trans (hk _ _ D.TIz D.TITO D.TIi1 D.TIi2 hTI)
    · exact (sb.2 _ D.TOz).trans TO1
    · exact j1.at fun o q => (sb.2 _ D.i1z).trans q
    · exact j2.at fun o q => (sb.2 _ D.i2z).trans q
    · rw [upd_ne (Nat.ne_of_lt (hlt c hc))]
      exact (hf c hc).1
  done := by
    intro X hP hw hK hb i pins s σ H E I hf st hend
    subst hP hw hK
    obtain ⟨hz, hTI, ⟨x0, y0, hTO⟩, h1, h2⟩ := st
    obtain ⟨xs, hqx, hxe⟩ := hend
    obtain ⟨its, rv, p1, _⟩ := I.list hqx
    have he : its.toArray[i]? = none := by
      have l1 := rv.length
      simp
      omega
    refine Hx.pyZipEndL (x1 := p.1) (hb.at I) (hb.ne (hf i1 (by simp))) (hb.ne (hf z (by simp))) D.i1z D.l1z hz hTI hTO h1 p1.isList he fun h' hk => ⟨rfl, ?_⟩
    exact I.turnedL (t' := s.toks) (ch := [z, TI, TO, i1, i2]) (fun c o hc q => hk c o (fun e => hc (by simp [e])) (fun e => hc (by simp [e])) q) hf
  self := fun A i s Q E st h => wpAny_pyIter_zip st.1 h
theorem turnZT {P : Program} {w : World} {K : PySem.W.Frag} {elts : List Expr} {kk : Nat} {tpos : Pos} {p : Addr × Obj} {a b z TI TO i1 i2 : Addr} (D : ZipApart z TI TO i1 i2 a b) :
    TurnP P w K (.Tuple elts kk tpos) (ItHT K a b) [z, TI, TO, i1, i2] z (fun i h => IsZip h z TI TO .none ∧ IsPair h TI (.ref i1) (.ref i2) ∧ (∃ x y, IsPair h TO x y) ∧ h.IsTupleIter i1 a i ∧ h.IsTupleIter i2 b i) p where
  mem := List.mem_cons_self
  obj := by
    rintro i h ⟨hz, hTI, ⟨x, y, hTO⟩, ⟨o1, e1, _, d1⟩, ⟨o2, e2, _, d2⟩⟩ c hc
    have e' : c = z ∨ c = TI ∨ c = TO ∨ c = i1 ∨ c = i2 := by simpa using hc
    rcases e' with rfl | rfl | rfl | rfl | rfl
    · exact ⟨_, hz, fun v q => nomatch q⟩
    · exact ⟨_, hTI, fun v q => nomatch q⟩
    · exact ⟨_, hTO, fun v q => nomatch q⟩
    · exact ⟨o1, e1, fun v q => by rw [d1] at q; cases q⟩
    · exact ⟨o2, e2, fun v q => by rw [d2] at q; cases q⟩
  keep := by
    rintro i h h' ⟨hz, hTI, ⟨x, y, hTO⟩, h1, h2⟩ k
    exact ⟨k z (by simp) _ hz, k TI (by simp) _ hTI, ⟨x, y, k TO (by simp) _ hTO⟩, h1.at fun o q => k i1 (by simp) o q, h2.at fun o q => k i2 (by simp) o q⟩
  item := by
    intro X hP hw hK hb i pins s σ H E I hf st hg
    subst hP hw hK
    obtain ⟨hz, hTI, ⟨x0, y0, hTO⟩, h1, h2⟩ := st
    obtain ⟨xs, ys, x, y, hqx, hqy, hx, hy⟩ := hg
    obtain ⟨its, rv, p1, _⟩ := I.tuple hqx
    obtain ⟨its2, rv2, p2, _⟩ := I.tuple hqy
    obtain ⟨u, hu, ru⟩ := rv.get hx
    obtain ⟨u2, hu2, ru2⟩ := rv2.get hy
    have hzl : z < s.heap.objs.size := Heap.lt_size hz
    have hlt : ∀ c ∈ [z, TI, TO, i1, i2], c < s.heap.objs.size := fun c hc => by
      have e' : c = z ∨ c = TI ∨ c = TO ∨ c = i1 ∨ c = i2 := by simpa using hc
      obtain ⟨_, g1, _⟩ := id h1
      obtain ⟨_, g2, _⟩ := id h2
      rcases e' with rfl | rfl | rfl | rfl | rfl
      · exact hzl
      · exact Heap.lt_size hTI
      · exact Heap.lt_size hTO
      · exact Heap.lt_size g1
      · exact Heap.lt_size g2
    refine RZ.pyNext_zipT_item D hz hTI hTO h1 h2 p1 p2 (x := u) (y := u2) (by simpa using hu) (by simpa using hu2) fun g1 z1 TO1 j1 j2 hT hsz hk => ⟨_, rfl, wpAny_letOwnedTupleGo_zip (s := { s with heap := g1 }) z1 fun g2 z2 sb => ?_⟩
    have hT2 : g2.get? s.heap.objs.size = some { cls := .type "tuple", data := .seq #[u, u2] } := (sb.2 _ (Nat.ne_of_gt hzl)).trans hT
    have new : ObjOk X.prog X.w (upd H s.heap.objs.size (.tup [x, y])) g2 s.heap.objs.size (.tup [x, y]) := ⟨by show 2 ≤ sizeLine; decide, [u, u2], .cons ru (.cons ru2 .nil), ⟨_, hT2, rfl, _, rfl⟩⟩
    have kp : ∀ c o, c ∉ [z, TI, TO, i1, i2] → s.heap.get? c = some o → g2.get? c = some o := fun c o hc q =>
      (sb.2 c (fun e => hc (by simp [e]))).trans (hk c o (fun e => hc (by simp [e])) (fun e => hc (by simp [e])) (fun e => hc (by simp [e])) (fun e => hc (by simp [e])) q)
    refine ⟨.ref s.heap.objs.size, _, I.turnedNew (t' := s.toks) kp hf (Nat.le_refl _) new, rfl, ⟨_, x, y, rfl, I.hok.fresh (Nat.le_refl _), rfl, fun l hl => by rw [I.tuple_inj hl hqx]; exact hx, fun l hl => by rw [I.tuple_inj hl hqy]; exact hy⟩, ⟨z2, ?_, ⟨u, u2, ?_⟩, ?_, ?_⟩, fun c hc => ?_⟩
    · exact (sb.2 _ D.TIz).trans (hk _ _ D.TIz D.TITO D.TIi1 D.TIi2 hTI)
    · exact (sb.2 _ D.TOz).trans TO1
    · exact j1.at fun o q => (sb.2 _ D.i1z).trans q
    · exact j2.at fun o q => (sb.2 _ D.i2z).trans q
    · rw [upd_ne (Nat.ne_of_lt (hlt c hc))]
      exact (hf c hc).1
  done := by
    intro X hP hw hK hb i pins s σ H E I hf st hend
    subst hP hw hK
    obtain ⟨hz, hTI, ⟨x0, y0, hTO⟩, h1, h2⟩ := st
    obtain ⟨xs, hqx, hxe⟩ := hend
    obtain ⟨its, rv, p1, _⟩ := I.tuple hqx
    have he : its.toArray[i]? = none := by
      have l1 := rv.length
      simp
      omega
    refine Hx.pyZipEndT (x1 := p.1) (hb.at I) (hb.ne (hf i1 (by simp))) (hb.ne (hf z (by simp))) D.i1z D.l1z hz hTI hTO h1 p1 he fun h' hk => ⟨rfl, ?_⟩
    exact I.turnedL (t' := s.toks) (ch := [z, TI, TO, i1, i2]) (fun c o hc q => hk c o (fun e => hc (by simp [e])) (fun e => hc (by simp [e])) q) hf
  self := fun A i s Q E st h => wpAny_pyIter_zip st.1 h
end Cn
namespace Cn
open PySem PySem.Spec PyProof.Rows L2 L2H HotX
structure PIP (X : Cx) (tg iter : Expr) (wi : TI) (p : Addr × Obj) : Prop where
  run : ∀ (pins : List (Addr × Obj)) (s : Shared) (σ : L2.St) (H : Hp) (R : It → Hp → Prop), Inv X pins σ H s → wi σ H R →
    wpAny (model X.prog X.w) X.A (eval iter X.env) (fun v s1 => wpAny (model X.prog X.w) X.A (pyIter v) (fun itv s2 => ∃ (it : Addr) (fp : List Addr) (tn : Nat → Heap → Prop) (J : It) (H' : Hp), itv = .ref it ∧ Inv X pins σ H' s2 ∧ TurnP X.prog X.w X.K tg J fp it tn p ∧ tn 0 s2.heap ∧ (∀ b ∈ fp, FpOk X pins H' b) ∧ R J H') X.xe s1) X.xe s
def iZipH (K : PySem.W.Frag) (ta : TA) : TI := fun σ H R => ta σ H fun vs H1 => ∃ a b xs ys, vs = [.ref a, .ref b] ∧ ((SqL K H1 a xs ∧ SqL K H1 b ys ∧ R (ItHL K a b) H1) ∨ (SqT K H1 a xs ∧ SqT K H1 b ys ∧ R (ItHT K a b) H1))
/-- a list, walked, while x1 is handled -/
theorem walkH {prog : Program} {w : World} {A : Around} {x1 : Addr} {o1 : Obj} {vs1 : Array Value} (hh : A.handled = some (.ref x1)) (d1 : o1.data = .fields vs1) (c1 : vs1[2]? = some .none) (I ax : Addr) (hne : ax ≠ I) (h1 : x1 ≠ I) (items : Array Value) :
    Walks prog w A I [I, ax, x1] [I] items.size (fun i v => items[i]? = some v) (fun i h => h.IsListIter I ax i ∧ h.IsList ax items ∧ h.get? x1 = some o1) where
  sub := fun b hb => by simp at hb; simp [hb]
  frame := fun _ _ _ st hk => ⟨st.1.at fun o e => hk I (by simp) o e, st.2.1.at fun o e => hk ax (by simp) o e, hk x1 (by simp) _ st.2.2⟩
  item := fun i s Q E hi st hQ => wpAny_pyNext_list_item st.1 st.2.1 (x := items[i]) (by simp [hi]) fun h' hit' hs' =>
    hQ _ h' s.toks (by simp [hi]) ⟨hit', st.2.1.extBut hs'.extBut hne, hs'.extBut _ _ h1 st.2.2⟩ fun b o hb e => hs'.extBut b o (fun h => hb (by simp [h])) e
  done := fun s Q E st hQ => Hx.pyNextL ⟨hh, o1, vs1, st.2.2, d1, c1⟩ h1 st.1 st.2.1 (by simp) fun h' he' => hQ h' s.toks fun b o hb e => he' b o (fun h => hb (by simp [h])) e
  self := fun _ _ _ _ st hQ => wpAny_pyIter_listiter st.1 hQ
section
variable {X : Cx} {p : Addr × Obj}
theorem pi_zipP {e e2 : Expr} {ta : TA} {q pos tpos : Pos} {elts : List Expr} {kk : Nat} (hg : Gl X "zip") (hm : X.mg "zip" = none) (ha : PA X [e, e2] ta)
    (hs : starEach [e, e2] X.env = (false, eval e X.env) :: starEach [e2] X.env := by rfl) (hpl : (backTo pos (starEach [e2] X.env)).any (·.1) = false := by rfl) : PIP X (.Tuple elts kk tpos) (.Call (.Name "zip" q) [e, e2] [] pos) (iZipH X.K ta) p := by
  refine ⟨fun pins s σ H R I h => Call_ (ld_blt I hg hm PyProof.Rows.boot_zip (PyProof.Rows.callWith_type1 (thn (ha.run pos pins s σ H _ I h) fun us s1 ⟨vs, H1, I1, r1, q1⟩ => ?_) hs hpl))⟩
  obtain ⟨a, b, xs, ys, rfl, q1⟩ := q1
  cases r1 with
  | cons r rr =>
    cases rr with
    | cons r' rr =>
      cases rr; cases r; cases r'
      have fresh5 : ∀ c, c ∈ [s1.heap.objs.size + 4, s1.heap.objs.size + 2, s1.heap.objs.size + 3, s1.heap.objs.size, s1.heap.objs.size + 1] → FpOk X pins H1 c := fun c hcm => by
        have hle : s1.heap.objs.size ≤ c := by
          have e' : c = s1.heap.objs.size + 4 ∨ c = s1.heap.objs.size + 2 ∨ c = s1.heap.objs.size + 3 ∨ c = s1.heap.objs.size ∨ c = s1.heap.objs.size + 1 := by simpa using hcm
          rcases e' with z | z | z | z | z <;> (rw [z]; first | exact Nat.le_add_right _ _ | exact Nat.le_refl _)
        exact I1.fpOk hle (I1.hok.fresh hle)
      rcases q1 with ⟨hqx, hqy, q⟩ | ⟨hqx, hqy, q⟩
      · obtain ⟨its, rv, p1, _⟩ := I1.list hqx
        obtain ⟨its2, rv2, p2, _⟩ := I1.list hqy
        refine call_zip_2 p1.isList p2.isList fun h' hz hTI hTO h1 h2 hsz hk => wpAny_pyIter_zip hz ?_
        exact ⟨s1.heap.objs.size + 4, [s1.heap.objs.size + 4, s1.heap.objs.size + 2, s1.heap.objs.size + 3, s1.heap.objs.size, s1.heap.objs.size + 1], _, _, H1, rfl, I1.kept (t' := s1.toks) hk, turnZL (PySem.W.ktu_apart s1.heap.objs.size a b p1.lt p2.lt), ⟨hz, hTI, ⟨_, _, hTO⟩, h1, h2⟩, fresh5, q⟩
      · obtain ⟨its, rv, p1, _⟩ := I1.tuple hqx
        obtain ⟨its2, rv2, p2, _⟩ := I1.tuple hqy
        refine RZ.call_zipT (show s1.heap.IsTuple a its.toArray from p1) (show s1.heap.IsTuple b its2.toArray from p2) fun h' hz hTI hTO h1 h2 hsz hk => wpAny_pyIter_zip hz ?_
        exact ⟨s1.heap.objs.size + 4, [s1.heap.objs.size + 4, s1.heap.objs.size + 2, s1.heap.objs.size + 3, s1.heap.objs.size, s1.heap.objs.size + 1], _, _, H1, rfl, I1.kept (t' := s1.toks) hk, turnZT (PySem.W.ktu_apart s1.heap.objs.size a b p1.lt p2.lt), ⟨hz, hTI, ⟨_, _, hTO⟩, h1, h2⟩, fresh5, q⟩
/-- [elt for target in iter if ..], as a value -/
theorem pe_lcP {elt tg iter : Expr} {ifs : List Expr} {scope : Scope} {own : List (Str × Nat)} {pos : Pos} {wi : TI} {g : TG} {tt : TT} {te : TE} (hb : HotB X p) (hN : X.N.Nodup) (hi : PIP X tg iter wi p) (ok : BlkOk X.N X.env.scope scope own)
    (hg : ∀ (s : Shared) (H : Hp) (C : Addr) (cl : List (Str × Addr)) (fp : List Addr), HotB (X.blk s H scope (compEnvC scope cl C X.env) fp) p → PG (X.blk s H scope (compEnvC scope cl C X.env) fp) tg g) (ht : ∀ (s : Shared) (H : Hp) (C : Addr) (cl : List (Str × Addr)) (fp : List Addr), PTs (X.blk s H scope (compEnvC scope cl C X.env) fp) ifs tt)
    (he : ∀ (s : Shared) (H : Hp) (C : Addr) (cl : List (Str × Addr)) (fp : List Addr), HotB (X.blk s H scope (compEnvC scope cl C X.env) fp) p → PE (X.blk s H scope (compEnvC scope cl C X.env) fp) elt te) (hs : ∀ x, foldedSetIterable iter X.env x = pure x := by intro _; rfl) :
    PE X (.ListComp elt [⟨tg, iter, ifs, 0⟩] scope pos) (tLc wi g tt te (own.map (·.2))) := by
  refine ⟨fun pins s σ H Q I h => ?_⟩
  rw [eval_ListComp]
  have hfree : ∀ y ∈ scope.names, y.2 = .free → ∃ c, X.env.cells.lookup y.1 = some c := fun y hy e => (ok.free y hy e).elim (fun k => I.ok.has _ (.inl k)) fun k => I.ok.has _ (.inr k)
  refine wpAny_comprehension_free (use := none) rfl hs (closure_ok hfree) ok.kind (fun y hy e => by rw [ok.uniq y hy, e]) (thn (hi.run pins s σ H _ I h) fun xv s1 hx => thn hx fun itv s2 h2 => ?_)
  obtain ⟨it, fp, tn, J, H2, rfl, I2, T, st2, f2, q⟩ := h2
  refine wpAny_newObj_type (newEnv_comp ?_) (by show 0 ≤ sizeLine; decide)
  generalize hD : s2.heap.objs.size = D
  have hDn : H2 D = none := I2.hok.fresh (Nat.le_of_eq hD)
  obtain ⟨W, ⟨m0, w0⟩, turn⟩ := q D hDn
  generalize hs3 : ({ s2 with heap := s2.heap.push { cls := .type "list", data := .seq ([] : List Value).toArray } } : Shared) = s3
  have I3 : Inv X pins σ (upd H2 D (.lst [])) s3 := by
    rw [← hs3]
    exact I2.laid (t' := s2.toks) (fun b o e => Heap.get?_push_of_some _ e) (Nat.le_of_eq hD) ⟨Nat.zero_le _, [], 0, .nil, by rw [← hD]; exact Heap.get?_push_size _ rfl⟩
  have h3 : s3.heap = s2.heap.push { cls := .type "list", data := .seq ([] : List Value).toArray } := by rw [← hs3]
  have f3 : ∀ b ∈ fp, FpOk X pins (upd H2 D (.lst [])) b ∧ b < s3.heap.objs.size := fun b hb' => by
    obtain ⟨o, e, _⟩ := T.obj _ _ st2 b hb'
    have hlt : b < s2.heap.objs.size := Heap.lt_size e
    refine ⟨⟨?_, (f2 b hb').2⟩, by rw [h3, Heap.size_push]; exact Nat.lt_succ_of_lt hlt⟩
    rw [upd_ne (by rw [← hD]; exact Nat.ne_of_lt hlt)]
    exact (f2 b hb').1
  have st3 : tn 0 s3.heap := T.keep _ _ _ st2 fun b _ o e => by rw [h3]; exact Heap.get?_push_of_some _ e
  have I4 := block_start I3 ok hN f3
  have hB : ∀ cenv, HotB (X.blk s3 (upd H2 D (.lst [])) scope cenv fp) p := fun cenv => by
    obtain ⟨P1, P2⟩ := hb.pin I3
    exact ⟨P2.1, P1.get, P1.free, P1.nofs, fun z => hb.ne (f3 p.1 z).1 rfl, P2.2⟩
  have pg := hg s3 (upd H2 D (.lst [])) s3.heap.objs.size (cellsFrom (s3.heap.objs.size + 1) scope.names (cloFrom X.env.cells scope.names [])) fp (hB _)
  have pt := ht s3 (upd H2 D (.lst [])) s3.heap.objs.size (cellsFrom (s3.heap.objs.size + 1) scope.names (cloFrom X.env.cells scope.names [])) fp
  have pe := he s3 (upd H2 D (.lst [])) s3.heap.objs.size (cellsFrom (s3.heap.objs.size + 1) scope.names (cloFrom X.env.cells scope.names [])) fp (hB _)
  show codeAny _ _ (.compStart (.ListComp elt [⟨tg, iter, ifs, 0⟩] scope pos) 0 (.ref it) (.ref D) (compEnvC scope (cellsFrom (s3.heap.objs.size + 1) scope.names (cloFrom X.env.cells scope.names [])) s3.heap.objs.size X.env)) (compPost (model X.prog X.w) X.A X.xe none (EP X pins σ Q) (.ref D) s3.heap.objs.size) { s3 with heap := pushCells (s3.heap.push { cls := .type "dict", data := .dict #[] }) scope.names }
  have nfp : ∀ b ∈ fp, (upd H2 D (.lst [])) b = none := fun b hb' => (f3 b hb').1.1
  generalize hce : compEnvC scope (cellsFrom (s3.heap.objs.size + 1) scope.names (cloFrom X.env.cells scope.names [])) s3.heap.objs.size X.env = ce at I4 pg pt pe hB ⊢
  have cL : ce.locals = s3.heap.objs.size := by subst hce; rfl
  generalize hH3 : upd H2 D (.lst []) = H3 at I3 I4 pg pt pe w0 nfp f3 hB
  generalize hs4 : ({ s3 with heap := pushCells (s3.heap.push { cls := .type "dict", data := .dict #[] }) scope.names } : Shared) = s4 at I4 ⊢
  have st4 : tn 0 s4.heap := T.keep _ _ _ st3 fun b _ o e => by rw [← hs4]; exact pushCells_keeps _ _ _ _ (Heap.get?_push_of_some _ e)
  have stat : ∀ {σ' : L2.St} {H' : Hp} {s' : Shared}, Inv (X.blk s3 H3 scope ce fp) [] σ' H' s' → (∀ b ∈ fp, H' b = none) → ∀ b ∈ fp, FpOk (X.blk s3 H3 scope ce fp) [] H' b := fun {σ' H' s'} I' hn b hb' =>
    ⟨hn b hb', (I'.ok.exf b hb').1, I'.ok.exfs b hb', .inl hb', fun x c e => (I'.ok.exf b hb').2 x c e, fun p hp => absurd (show p ∈ ([] : List (Addr × Obj)) ++ [] from hp) (by simp)⟩
  have hB := hB ce
  have loop : codeAny (model X.prog X.w) X.A (.compLoop (.ListComp elt [⟨tg, iter, ifs, 0⟩] scope pos) 0 (.ref it) (.ref D) ce) (compPost (model X.prog X.w) X.A X.xe none (EP X pins σ Q) (.ref D) s3.heap.objs.size) s4 := by
    refine compLoop_any (fun n s' => ∃ i H', Inv (X.blk s3 H3 scope ce fp) [] (wipe σ (own.map (·.2))) H' s' ∧ tn i s'.heap ∧ (∀ b ∈ fp, H' b = none) ∧ W i n H') ?_ m0 ⟨0, H3, I4, st4, nfp, w0⟩
    rintro n s5 ⟨i, H5, I5, st5, n5, w5⟩
    rcases turn i n H5 w5 with ⟨stop, qq⟩ | ⟨go, Nx, hNx, step⟩
    · refine thnF (T.done (X.blk s3 H3 scope ce fp) rfl rfl rfl hB i [] s5 _ H5 (fun _ _ => False) I5 (stat I5 n5) st5 stop) fun r s6 ⟨hr, I6⟩ => ?_
      subst hr
      have I7 : Inv X pins σ H5 s6 := I3.call' (ch := fp) I6.os I6.base I6.hok I6.bare fun b hb' => ⟨(f3 b hb').1.2.2.2.1, (f3 b hb').1.2.1, (f3 b hb').1.2.2.2.2.1, (f3 b hb').1.2.2.2.2.2⟩
      have nC : H5 s3.heap.objs.size = none := by
        have z : H5 ce.locals = none := I6.free
        rw [cL] at z
        exact z
      obtain ⟨m, hn, _⟩ := I6.loc
      have hn : s6.heap.Ns ce.locals m := hn
      rw [cL] at hn
      refine ⟨m, hn, fun h'' sb => ?_⟩
      obtain ⟨f0, f1, f2', f3', f4, f5⟩ := I3.fpOk (Nat.le_refl _) nC
      exact ⟨.ref D, H5, I7.turned (t' := s6.toks) (fun b o hb' e => (sb.2 b hb').trans e) f0 f1 f3' f4 f5, rfl, qq⟩
    · refine thnF (T.item (X.blk s3 H3 scope ce fp) rfl rfl rfl hB i [] s5 _ H5 (fun _ _ => False) I5 (stat I5 n5) st5 go) fun r s6 ⟨u, hr, h6⟩ => ?_
      subst hr
      refine thnF h6 fun _ s7 ⟨x, H7, I7, r7, y7, st7, n7⟩ => ?_
      have I7' := I7.pinned (stat I7 n7) (T.obj _ _ st7)
      refine thnF (pg.run _ s7 _ H7 x u _ I7' r7 (step x H7 y7)) fun _ s8 ⟨σ8, H8, I8, hw8, q8⟩ => ?_
      refine thnF (pt.run _ s8 σ8 H8 _ I8 q8) fun b s9 ⟨H9, I9, q9⟩ => ?_
      have fin : ∀ {s' : Shared} {H' : Hp}, Inv (X.blk s3 H3 scope ce fp) ([] ++ pinsAt fp s7.heap) σ8 H' s' → Nx H' → ∃ m, m < n ∧ ∃ i H', Inv (X.blk s3 H3 scope ce fp) [] (wipe σ (own.map (·.2))) H' s' ∧ tn i s'.heap ∧ (∀ b ∈ fp, H' b = none) ∧ W i m H' := fun {s' H'} I' nx => by
        obtain ⟨m', hm, w'⟩ := hNx H' nx
        have pin' : ∀ b ∈ fp, ∀ o, s7.heap.get? b = some o → s'.heap.get? b = some o ∧ H' b = none := fun b hb' o e =>
          let z := I'.pin (b, o) (List.mem_append_right _ (List.mem_append_right _ (mem_pinsAt hb' e)))
          ⟨z.1, z.2.1⟩
        have hl : (wipe σ (own.map (·.2))).length = σ8.length := by rw [← hw8, wipe_length]
        refine ⟨m', hm, i + 1, H', (I'.unpinned (pins := [])).weak hl (fun j v e => (wipe_some (by rw [hw8]; exact e)).1), T.keep _ _ _ st7 fun b hb' o e => (pin' b hb' o e).1, fun b hb' => ?_, w'⟩
        obtain ⟨o, e, _⟩ := T.obj _ _ st7 b hb'
        exact (pin' b hb' o e).2
      cases b with
      | false =>
        simp only [Bool.false_eq_true, if_false] at q9 ⊢
        exact fin I9 q9
      | true =>
        simp only [if_true] at q9 ⊢
        refine thnF (pe.run _ s9 σ8 H9 _ I9 q9) fun z s10 ⟨yv, H10, I10, r10, acc, hD10, hz10, nx⟩ => ?_
        exact app_ok (X := X.blk s3 H3 scope ce fp) I10 hD10 hz10 r10 fun s11 I11 => fin I11 nx
  exact codeAny_compStart_list loop (T.self X.A 0 _ _ _ st4 loop)
/-- all(xs), a list of flags -/
theorem cr_allP (hb : HotB X p) : CallR X (.builtin "all") (rAll X.K) := by
  intro pins s σ H vs us Q I r h
  obtain ⟨a, bs, rfl, hs, q⟩ := h
  obtain ⟨its, rv, hl, _⟩ := I.list hs
  rw [Vals.ref1 r]
  have hbl := rv.bls
  refine call_all_walk (iter_any hl.isList fun s2 e2 st hne => ?_)
  subst e2
  obtain ⟨vs1, d1, c1⟩ := hb.cx
  have hp1 := hb.get I
  have h1 : p.1 ≠ s.heap.objs.size := Nat.ne_of_lt (Heap.lt_size hp1)
  refine ⟨_, _, _, _, _, _, _, rfl, walkH (A := X.A.in1) hb.hd d1 c1 _ a hne h1 its.toArray, ⟨st.1, st.2, Heap.get?_push_of_some _ hp1⟩, truth_bools hbl, fun h' tk hk => ?_⟩
  refine ⟨.bl _, H, I.kept fun b o eo => hk b o (fun hm => ?_) (Heap.get?_push_of_some _ eo), ?_, q⟩
  · rcases List.mem_cons.mp hm with e1 | hm
    · exact absurd (e1 ▸ Heap.lt_size eo) (Nat.lt_irrefl _)
    · cases hm
  · show Value.bool _ = Value.bool _
    rw [← L2.all_range, hbl, List.size_toArray, List.length_map]
end
end Cn
namespace Cn
open PySem PySem.Spec PyProof.Rows L2 L2H HotX
section
variable {K : PySem.W.Frag} {a b D : Addr} {xs ys : List V} {g : TG} {tt : TT} {te : TE} {vs : List Nat} {σ : L2.St} {H1 : Hp} {Qd : Hp → Prop}
theorem lcZipHL (hl : xs.length = ys.length) (Pv : Nat → Hp → Prop) (h0 : Pv 0 (upd H1 D (.lst []))) (hq : ∀ i H, Pv i H → SqL K H a xs ∧ SqL K H b ys) (hs : ∀ i x y, xs[i]? = some x → ys[i]? = some y → ZipTurn Pv D g tt te vs σ i x y) (hd : ∀ H, Pv xs.length H → Qd H) :
    ∃ W : Nat → Nat → Hp → Prop, (∃ m, W 0 m (upd H1 D (.lst []))) ∧ ∀ i m H, W i m H → ((ItHL K a b).stop i H ∧ Qd H) ∨ ((ItHL K a b).go i H ∧ ∃ Nx : Hp → Prop, (∀ H', Nx H' → ∃ m', m' < m ∧ W (i + 1) m' H') ∧ ∀ x H', (ItHL K a b).yld i H x H' → g x (wipe σ vs) H' fun σ2 H2 => wipe σ2 vs = wipe σ vs ∧ tt σ2 H2 fun k H3 =>
      if k = true then te σ2 H3 fun z H4 => ∃ acc, H4 D = some (.lst acc) ∧ acc.length < sizeLine ∧ Nx (upd H4 D (.lst (acc ++ [z]))) else Nx H3) := by
  refine ⟨fun i m H => m = xs.length - i ∧ i ≤ xs.length ∧ Pv i H, ⟨_, rfl, Nat.zero_le _, h0⟩, ?_⟩
  rintro i m H ⟨rfl, hi, p⟩
  obtain ⟨qa, qb⟩ := hq i H p
  rcases Nat.lt_or_ge i xs.length with lt | ge
  · have ea : xs[i]? = some xs[i] := List.getElem?_eq_getElem lt
    have lt2 : i < ys.length := by omega
    have eb : ys[i]? = some ys[i] := List.getElem?_eq_getElem lt2
    refine .inr ⟨⟨xs, ys, _, _, qa, qb, ea, eb⟩, Pv (i + 1), fun H' p' => ⟨xs.length - (i + 1), by omega, rfl, lt, p'⟩, ?_⟩
    rintro v H' ⟨T, u, z, rfl, nT, rfl, k1, k2⟩
    exact hs i u z (k1 xs qa) (k2 ys qb) T H p nT
  · have e : i = xs.length := by omega
    subst e
    exact .inl ⟨⟨xs, qa, Nat.le_refl _⟩, hd H p⟩
theorem lcZipHT (hl : xs.length = ys.length) (Pv : Nat → Hp → Prop) (h0 : Pv 0 (upd H1 D (.lst []))) (hq : ∀ i H, Pv i H → SqT K H a xs ∧ SqT K H b ys) (hs : ∀ i x y, xs[i]? = some x → ys[i]? = some y → ZipTurn Pv D g tt te vs σ i x y) (hd : ∀ H, Pv xs.length H → Qd H) :
    ∃ W : Nat → Nat → Hp → Prop, (∃ m, W 0 m (upd H1 D (.lst []))) ∧ ∀ i m H, W i m H → ((ItHT K a b).stop i H ∧ Qd H) ∨ ((ItHT K a b).go i H ∧ ∃ Nx : Hp → Prop, (∀ H', Nx H' → ∃ m', m' < m ∧ W (i + 1) m' H') ∧ ∀ x H', (ItHT K a b).yld i H x H' → g x (wipe σ vs) H' fun σ2 H2 => wipe σ2 vs = wipe σ vs ∧ tt σ2 H2 fun k H3 =>
      if k = true then te σ2 H3 fun z H4 => ∃ acc, H4 D = some (.lst acc) ∧ acc.length < sizeLine ∧ Nx (upd H4 D (.lst (acc ++ [z]))) else Nx H3) := by
  refine ⟨fun i m H => m = xs.length - i ∧ i ≤ xs.length ∧ Pv i H, ⟨_, rfl, Nat.zero_le _, h0⟩, ?_⟩
  rintro i m H ⟨rfl, hi, p⟩
  obtain ⟨qa, qb⟩ := hq i H p
  rcases Nat.lt_or_ge i xs.length with lt | ge
  · have ea : xs[i]? = some xs[i] := List.getElem?_eq_getElem lt
    have lt2 : i < ys.length := by omega
    have eb : ys[i]? = some ys[i] := List.getElem?_eq_getElem lt2
    refine .inr ⟨⟨xs, ys, _, _, qa, qb, ea, eb⟩, Pv (i + 1), fun H' p' => ⟨xs.length - (i + 1), by omega, rfl, lt, p'⟩, ?_⟩
    rintro v H' ⟨T, u, z, rfl, nT, rfl, k1, k2⟩
    exact hs i u z (k1 xs qa) (k2 ys qb) T H p nT
  · have e : i = xs.length := by omega
    subst e
    exact .inl ⟨⟨xs, qa, Nat.le_refl _⟩, hd H p⟩
end
section
variable {P : Program} {w : World} {K : PySem.W.Frag} {mg : Str → Option Value} {base : Heap} {p : Addr × Obj}
theorem ok_isP {f : Addr} {fd : FuncData} (F : Fun K "_law_is" "_law_is" sIs f fd) (T : IsTxt mg) (g : mg "_law_is" = some (.ref f)) (bI : Binds K fd ["_law_told", "_law_due"] []) : ∀ n : Nat, FnP P w K mg base p (n + 2) f fd ["_law_told", "_law_due"] (spJ n) := by
  intro n
  induction n with
  | zero => exact ⟨fun _ _ _ _ z => z.elim, fun _ _ _ _ _ _ _ _ _ _ _ _ _ _ _ z => z.elim⟩
  | succ n ih =>
    refine fnP_of F scIs (fun vs H Q E h => ?_) (fun cdv A outer s H vs Q E hb hr h => ?_)
    · obtain ⟨x, y, rfl, _⟩ := h
      rfl
    · obtain ⟨x, y, rfl, hE, k⟩ := h
      refine ⟨_, pss_cons (ps_if (pt_val (pe_callB call_isiT (by rfl) T.inst (by decide +kernel) (pa_cons (pv 1) (pa_cons (pe_tup (pa_cons (pe_bltn (v := .ty "tuple") (by rfl) T.tup (by decide +kernel) rfl) (pa_cons (pe_bltn (v := .ty "list") (by rfl) T.lst (by decide +kernel) rfl) pa_nil))) pa_nil))))
          (pss_cons (ps_if (PW.pt (pw_or (pt_cmpR op_ne (pe_callB call_isi (by rfl) T.inst (by decide +kernel) (pa_cons (pv 0) (pa_cons (pe_bltn (v := .ty "tuple") (by rfl) T.tup (by decide +kernel) rfl) pa_nil))) (pe_callB call_isi (by rfl) T.inst (by decide +kernel) (pa_cons (pv 1) (pa_cons (pe_bltn (v := .ty "tuple") (by rfl) T.tup (by decide +kernel) rfl) pa_nil))) (nomark _))
              (pw_or1 (pt_not (pt_val (pe_callB call_isiT (by rfl) T.inst (by decide +kernel) (pa_cons (pv 0) (pa_cons (pe_tup (pa_cons (pe_bltn (v := .ty "tuple") (by rfl) T.tup (by decide +kernel) rfl) (pa_cons (pe_bltn (v := .ty "list") (by rfl) T.lst (by decide +kernel) rfl) pa_nil))) pa_nil))))))))
            (pss_one (ps_ret pe_bl)) pss_nil)
          (pss_one (ps_ret (pe_and (pe_cmpR op_eq (pe_callB call_len_seq (by rfl) T.len PySem.boot_len (pa_cons (pv 0) pa_nil)) (pe_callB call_len_seq (by rfl) T.len PySem.boot_len (pa_cons (pv 1) pa_nil)) (nomark _)) (pe_one
            (pe_callB (cr_allP hb) (by rfl) T.all (by decide +kernel) (pa_cons (pe_lcP (p := p) (own := [("_law_one", 2), ("_law_two", 3)]) (g := gTup K 2 (gCons (gName 2) (gCons (gName 3) gNil))) (tt := tYes) hb scIs.nd (pi_zipP (by rfl) T.zip (pa_cons (pv 0) (pa_cons (pv 1) pa_nil)))
              (blkOk_by (N := nIs) (sc := defScope sIs) (by decide +kernel)) (fun _ _ _ _ _ hB => pg_tupH hB (pgs_cons (pg_name (i := 2) scIs.nd rfl (Or.inl rfl)) (pgs_cons (pg_name (i := 3) scIs.nd rfl (Or.inl rfl)) pgs_nil))) (fun _ _ _ _ _ => pts_nil)
              (fun _ _ _ _ _ hB => pe_callP ih hr (fun pins σ H s I => hB.pin I) (by rfl) g F.kp bI (pa_cons (pv 2) (pa_cons (pv 3) pa_nil)))) pa_nil)))))))
          pss_nil)
        (pss_one (ps_ret (pe_and (pe_cmpR op_eq (pe_callB call_isi (by rfl) T.inst (by decide +kernel) (pa_cons (pv 0) (pa_cons (pe_bltn (v := .ty "bool") (by rfl) T.bool (by decide +kernel) rfl) pa_nil))) (pe_callB call_isi (by rfl) T.inst (by decide +kernel) (pa_cons (pv 1) (pa_cons (pe_bltn (v := .ty "bool") (by rfl) T.bool (by decide +kernel) rfl) pa_nil))) (nomark _))
          (pe_one (pe_cmpR (Cn.OpR.orr op_eq (op_eqV (show (A.deeper (envOfC "_law_is" (defScope sIs) s.heap.objs.size f cdv)).units + 64 < cLine by have := hr.un; omega))) (pv 0) (pv 1) (nomark _)))))), ?_⟩
      have cls2 : Paired ClsV [.ty "tuple", .ty "list"] [.type "tuple", .type "list"] := .cons (.ty _) (.cons (.ty _) .nil)
      refine ⟨_, rfl, by show 2 ≤ sizeLine; decide, fun t1 m1 => ?_⟩
      have S1 := smUpd (o := .tup [.ty "tuple", .ty "list"]) m1
      rcases eqG_cases hE with ⟨rfl, hL⟩ | ⟨m, rfl, a, b, xs, ys, rfl, rfl, hk, hx, hp⟩
      · have hL1 : flatV x = true ∨ DictOk (upd H t1 (.tup [.ty "tuple", .ty "list"])) x := hL.imp (fun z => z) fun ⟨a, kvs, e, ha, q⟩ => ⟨a, kvs, e, S1 _ _ ha, q⟩
        obtain ⟨Ty, bb, ty, k2, k3⟩ := leafTy (K := K) hL1
        refine ⟨x, t1, _, _, _, false, rfl, upd_same, cls2, ty, k2, false, rfl, ?_⟩
        refine iteF ?_
        refine ⟨_, rfl, x, .ty "bool", _, _, bb, rfl, .ty _, ty, k3, _, rfl, x, .ty "bool", _, _, bb, rfl, .ty _, ty, k3, rfl, _, rfl, ?_⟩
        rw [if_pos (decide_eq_true rfl)]
        exact ⟨_, rfl, _, rfl, leafEq hL1 (k _ S1)⟩
      · obtain ⟨tu, ha, hb⟩ : ∃ tu : Bool, (if tu = true then H a = some (.tup xs) else H a = some (.lst xs)) ∧ (if tu = true then H b = some (.tup ys) else H b = some (.lst ys)) := by
          rcases hk with ⟨z1, z2⟩ | ⟨z1, z2⟩
          · exact ⟨false, by simpa using z1, by simpa using z2⟩
          · exact ⟨true, by simpa using z1, by simpa using z2⟩
        have keep : ∀ {H1 : Hp} {c : Addr} {zs : List V}, Same H H1 → (if tu = true then H c = some (.tup zs) else H c = some (.lst zs)) → (if tu = true then H1 c = some (.tup zs) else H1 c = some (.lst zs)) := fun {H1 c zs} sm z => by
          cases tu with
          | true => rw [if_pos rfl] at z ⊢; exact sm _ _ z
          | false => rw [if_neg Bool.false_ne_true] at z ⊢; exact sm _ _ z
        obtain ⟨Tb, ty, k2, k3⟩ := seqTy (K := K) (keep S1 hb)
        refine ⟨_, t1, _, _, _, true, rfl, upd_same, cls2, ty, k2, true, rfl, ?_⟩
        refine iteT ?_
        obtain ⟨Ta, ty2, k4, k5⟩ := seqTy (K := K) (keep S1 ha)
        refine ⟨_, rfl, _, .ty "tuple", _, _, tu, rfl, .ty _, ty2, k5, _, rfl, _, .ty "tuple", _, _, tu, rfl, .ty _, ty, k3, rfl, _, rfl, ?_⟩
        rw [show (!decide (V.bl tu = V.bl tu)) = false from by rw [decide_eq_true rfl]; rfl]
        refine iteF ?_
        refine ⟨_, rfl, by show 2 ≤ sizeLine; decide, fun t2 m2 => ?_⟩
        have S2 := S1.trans (smUpd (o := .tup [.ty "tuple", .ty "list"]) m2)
        obtain ⟨Tc, ty3, k6, k7⟩ := seqTy (K := K) (keep S2 ha)
        refine ⟨_, t2, _, _, _, true, rfl, upd_same, cls2, ty3, k6, true, rfl, ?_⟩
        refine iteF ?_
        have hl : xs.length = ys.length := Paired.length hp
        generalize upd (upd H t1 (.tup [.ty "tuple", .ty "list"])) t2 (.tup [.ty "tuple", .ty "list"]) = H2 at *
        have hk2 : (SqL K H2 a xs ∧ SqL K H2 b ys) ∨ (SqT K H2 a xs ∧ SqT K H2 b ys) := by
          rcases hk with ⟨z1, z2⟩ | ⟨z1, z2⟩
          · exact .inl ⟨.inl (.inl (S2 _ _ z1)), .inl (.inl (S2 _ _ z2))⟩
          · exact .inr ⟨.inl (.inl (S2 _ _ z1)), .inl (.inl (S2 _ _ z2))⟩
        have la : SqL K H2 a xs ∨ SqT K H2 a xs := hk2.imp And.left And.left
        have lb : SqL K H2 b ys ∨ SqT K H2 b ys := hk2.imp And.right And.right
        refine ⟨_, rfl, a, xs, rfl, la, _, rfl, b, ys, rfl, lb, rfl, _, rfl, ?_⟩
        rw [if_pos (decide_eq_true (by rw [hl]))]
        have hp2 : Paired (EqG H2 m) xs ys := Paired.mapP hp fun _ _ z => eqG_same S2 z
        refine ⟨_, rfl, _, rfl, a, b, xs, ys, rfl, ?_⟩
        have fin : ∀ {D : Addr} {H3 : Hp}, Same H2 H3 → H3 D = some (.lst ((List.replicate xs.length true).map V.bl)) → rAll K [.ref D] H3 Q := fun {D H3} s3 hD =>
          ⟨D, List.replicate xs.length true, rfl, .inl (.inl hD), by rw [allRep]; exact k _ (S2.trans s3)⟩
        rcases hk2 with ⟨qa, qb⟩ | ⟨qa, qb⟩
        · refine .inl ⟨qa, qb, fun D nD => ?_⟩
          refine lcZipHL hl (fun i H' => Same H2 H' ∧ H' D = some (.lst ((List.replicate i true).map V.bl))) ⟨smUpd nD, upd_same⟩ (fun i H' z => ⟨z.1.seq qa, z.1.seq qb⟩) (fun i x y h1 h2 => isTurn hp2 hx nD i x y h1 h2) (fun H' z => ?_)
          exact fin z.1 z.2
        · refine .inr ⟨qa, qb, fun D nD => ?_⟩
          refine lcZipHT hl (fun i H' => Same H2 H' ∧ H' D = some (.lst ((List.replicate i true).map V.bl))) ⟨smUpd nD, upd_same⟩ (fun i H' z => ⟨sameT z.1 qa, sameT z.1 qb⟩) (fun i x y h1 h2 => isTurn hp2 hx nD i x y h1 h2) (fun H' z => ?_)
          exact fin z.1 z.2
end
end Cn
namespace Cn
open PySem PySem.Spec PyProof.Rows L2 L2H HotX
theorem all2_fl {i : Nat} {H : Hp} : ∀ {js : List Nat} {us : List V}, All2 H (js.map (fl i)) us → us = js.map (fun j => V.bl (decide (i = j)))
  | [], _, .nil => rfl
  | j :: js, _, .cons h t => by
    rw [List.map_cons, ← all2_fl t]
    have h : _ = V.bl (decide (i = j)) := h
    rw [h]
def flL (i : Nat) : List V := (List.range' 0 27).map (fun j => V.bl (decide (i = j)))
theorem flL_cnt : ∀ i, i < 27 → (flL i).countP (fun z => eqV z (.bl true)) = 1 := by decide
theorem flL_at : ∀ i, i < 27 → (flL i)[i]? = some (.bl true) := by decide
theorem flL_flat : ∀ i, i < 27 → (flL i).all flatV = true := by decide
theorem flL_no (i : Nat) (m : Nat) (z : V) (hm : m < i) (h : (flL i)[m]? = some z) : eqV z (.bl true) = false := by
  unfold flL at h
  rw [List.getElem?_map] at h
  obtain ⟨j, hj, rfl⟩ := Option.map_eq_some_iff.mp h
  have e : j = m := by
    obtain ⟨h1, h2⟩ := List.getElem?_eq_some_iff.mp hj
    rw [List.getElem_range'] at h2
    omega
  subst e
  have d : decide (i = j) = false := decide_eq_false (by omega)
  show (decide (i = j) == true) = false
  rw [d]; rfl
section
variable {P : Program} {w : World} {K : PySem.W.Frag} {mg : Str → Option Value} {base : Heap} {C : Nat → Addr} {NE : Addr} {p : Addr × Obj}
def ErP (dx : Addr × List (Str × V)) : Hp → Prop := fun H => H dx.1 = some (.xd dx.2)
theorem stabP {dx : Addr × List (Str × V)} : Stab (ErP dx) := fun _ _ s h => s _ _ h
theorem cFlP {X : Cx} (T : ErrT X.prog X.w X.K X.mg C NE) (hb : HotB X p) {i : Nat} (hi : i < 27) {dx : Addr × List (Str × V)} (hz : Zc (.ref (C i)) (some dx.1) p.2) : CallR X (.builtin "isinstance") (rFl (ErP dx) p.1 C i) := by
  intro pins s σ H xs us Q I r h
  obtain ⟨j, hj, rfl, hx, q⟩ := h
  obtain ⟨u1, u2, rfl, r1, r2⟩ := vals2 r
  cases (show u1 = Value.ref p.1 from r1)
  cases (show u2 = Value.ref (C j) from r2)
  obtain ⟨vs, hv, _⟩ := hb.cx
  exact isX (T.ex i hi) I (.inr ⟨dx.1, dx.2, rfl, hx⟩) (hb.get I) hz ⟨vs, hv⟩ (T.kit i j hi hj) fun tk => ⟨.bl _, H, I.tok tk, rfl, q⟩
theorem ok_firstP {f : Addr} {fd : FuncData} (F : Fun K "_law_first_flags" "_law_first_flags" sFirst f fd) (T : ErrT P w K mg C NE) (mI : mg "isinstance" = none) {i : Nat} (hi : i < 27) {dx : Addr × List (Str × V)} (hz : Zc (.ref (C i)) (some dx.1) p.2) : FnP P w K mg base p 1 f fd ["_law_error"] (spFl (ErP dx) p.1 i 0 15) := by
  refine fnP_of F scFirst (fun vs H Q E h => ?_) (fun cdv A outer s H vs Q E hb hr h => ?_)
  · obtain ⟨rfl, _⟩ := h
    rfl
  · obtain ⟨rfl, sE, hE, k⟩ := h
    have cI := cFlP (X := cxP P w K mg base nFlag "_law_first_flags" (defScope sFirst) f cdv A outer s H E) T hb hi hz
    exact ⟨_, pss_cons (ps_set (i := 1) scFirst.nd rfl (Or.inl rfl) (pe_lst (pa_cons (pe_callB cI (by rfl) mI (by decide +kernel) (pa_cons (pv 0) (pa_cons (pe_glob (v := .ref (C 0)) (by rfl) (T.g 0 (by decide)) rfl) pa_nil))) (pa_cons (pe_callB cI (by rfl) mI (by decide +kernel) (pa_cons (pv 0) (pa_cons (pe_glob (v := .ref (C 1)) (by rfl) (T.g 1 (by decide)) rfl) pa_nil))) (pa_cons (pe_callB cI (by rfl) mI (by decide +kernel) (pa_cons (pv 0) (pa_cons (pe_glob (v := .ref (C 2)) (by rfl) (T.g 2 (by decide)) rfl) pa_nil))) pa_nil)))))
        (pss_cons (ps_set (i := 1) scFirst.nd rfl (Or.inl rfl) (pe_op op_cat (pv 1) (pe_lst (pa_cons (pe_callB cI (by rfl) mI (by decide +kernel) (pa_cons (pv 0) (pa_cons (pe_glob (v := .ref (C 3)) (by rfl) (T.g 3 (by decide)) rfl) pa_nil))) (pa_cons (pe_callB cI (by rfl) mI (by decide +kernel) (pa_cons (pv 0) (pa_cons (pe_glob (v := .ref (C 4)) (by rfl) (T.g 4 (by decide)) rfl) pa_nil))) (pa_cons (pe_callB cI (by rfl) mI (by decide +kernel) (pa_cons (pv 0) (pa_cons (pe_glob (v := .ref (C 5)) (by rfl) (T.g 5 (by decide)) rfl) pa_nil))) pa_nil))))))
        (pss_cons (ps_set (i := 1) scFirst.nd rfl (Or.inl rfl) (pe_op op_cat (pv 1) (pe_lst (pa_cons (pe_callB cI (by rfl) mI (by decide +kernel) (pa_cons (pv 0) (pa_cons (pe_glob (v := .ref (C 6)) (by rfl) (T.g 6 (by decide)) rfl) pa_nil))) (pa_cons (pe_callB cI (by rfl) mI (by decide +kernel) (pa_cons (pv 0) (pa_cons (pe_glob (v := .ref (C 7)) (by rfl) (T.g 7 (by decide)) rfl) pa_nil))) (pa_cons (pe_callB cI (by rfl) mI (by decide +kernel) (pa_cons (pv 0) (pa_cons (pe_glob (v := .ref (C 8)) (by rfl) (T.g 8 (by decide)) rfl) pa_nil))) pa_nil))))))
        (pss_cons (ps_set (i := 1) scFirst.nd rfl (Or.inl rfl) (pe_op op_cat (pv 1) (pe_lst (pa_cons (pe_callB cI (by rfl) mI (by decide +kernel) (pa_cons (pv 0) (pa_cons (pe_glob (v := .ref (C 9)) (by rfl) (T.g 9 (by decide)) rfl) pa_nil))) (pa_cons (pe_callB cI (by rfl) mI (by decide +kernel) (pa_cons (pv 0) (pa_cons (pe_glob (v := .ref (C 10)) (by rfl) (T.g 10 (by decide)) rfl) pa_nil))) (pa_cons (pe_callB cI (by rfl) mI (by decide +kernel) (pa_cons (pv 0) (pa_cons (pe_glob (v := .ref (C 11)) (by rfl) (T.g 11 (by decide)) rfl) pa_nil))) pa_nil))))))
        (pss_one (ps_ret (pe_op op_cat (pv 1) (pe_lst (pa_cons (pe_callB cI (by rfl) mI (by decide +kernel) (pa_cons (pv 0) (pa_cons (pe_glob (v := .ref (C 12)) (by rfl) (T.g 12 (by decide)) rfl) pa_nil))) (pa_cons (pe_callB cI (by rfl) mI (by decide +kernel) (pa_cons (pv 0) (pa_cons (pe_glob (v := .ref (C 13)) (by rfl) (T.g 13 (by decide)) rfl) pa_nil))) (pa_cons (pe_callB cI (by rfl) mI (by decide +kernel) (pa_cons (pv 0) (pa_cons (pe_glob (v := .ref (C 14)) (by rfl) (T.g 14 (by decide)) rfl) pa_nil))) pa_nil)))))))))),
      firstRun (j := 0) sE (by decide) hE none fun σ1 H1 h1 => nextRun (j := 3) sE (by decide) (by decide) h1 fun σ2 H2 h2 => nextRun (j := 6) sE (by decide) (by decide) h2 fun σ3 H3 h3 => nextRun (j := 9) sE (by decide) (by decide) h3 fun σ4 H4 h4 => endRun (j := 12) sE (by decide) (by decide) h4 fun q vs H2 s hq r => k q vs H2 s hq r⟩
theorem ok_lastP {f : Addr} {fd : FuncData} (F : Fun K "_law_last_flags" "_law_last_flags" sLast f fd) (T : ErrT P w K mg C NE) (mI : mg "isinstance" = none) {i : Nat} (hi : i < 27) {dx : Addr × List (Str × V)} (hz : Zc (.ref (C i)) (some dx.1) p.2) : FnP P w K mg base p 1 f fd ["_law_error"] (spFl (ErP dx) p.1 i 15 12) := by
  refine fnP_of F scLast (fun vs H Q E h => ?_) (fun cdv A outer s H vs Q E hb hr h => ?_)
  · obtain ⟨rfl, _⟩ := h
    rfl
  · obtain ⟨rfl, sE, hE, k⟩ := h
    have cI := cFlP (X := cxP P w K mg base nFlag "_law_last_flags" (defScope sLast) f cdv A outer s H E) T hb hi hz
    exact ⟨_, pss_cons (ps_set (i := 1) scLast.nd rfl (Or.inl rfl) (pe_lst (pa_cons (pe_callB cI (by rfl) mI (by decide +kernel) (pa_cons (pv 0) (pa_cons (pe_glob (v := .ref (C 15)) (by rfl) (T.g 15 (by decide)) rfl) pa_nil))) (pa_cons (pe_callB cI (by rfl) mI (by decide +kernel) (pa_cons (pv 0) (pa_cons (pe_glob (v := .ref (C 16)) (by rfl) (T.g 16 (by decide)) rfl) pa_nil))) (pa_cons (pe_callB cI (by rfl) mI (by decide +kernel) (pa_cons (pv 0) (pa_cons (pe_glob (v := .ref (C 17)) (by rfl) (T.g 17 (by decide)) rfl) pa_nil))) pa_nil)))))
        (pss_cons (ps_set (i := 1) scLast.nd rfl (Or.inl rfl) (pe_op op_cat (pv 1) (pe_lst (pa_cons (pe_callB cI (by rfl) mI (by decide +kernel) (pa_cons (pv 0) (pa_cons (pe_glob (v := .ref (C 18)) (by rfl) (T.g 18 (by decide)) rfl) pa_nil))) (pa_cons (pe_callB cI (by rfl) mI (by decide +kernel) (pa_cons (pv 0) (pa_cons (pe_glob (v := .ref (C 19)) (by rfl) (T.g 19 (by decide)) rfl) pa_nil))) (pa_cons (pe_callB cI (by rfl) mI (by decide +kernel) (pa_cons (pv 0) (pa_cons (pe_glob (v := .ref (C 20)) (by rfl) (T.g 20 (by decide)) rfl) pa_nil))) pa_nil))))))
        (pss_cons (ps_set (i := 1) scLast.nd rfl (Or.inl rfl) (pe_op op_cat (pv 1) (pe_lst (pa_cons (pe_callB cI (by rfl) mI (by decide +kernel) (pa_cons (pv 0) (pa_cons (pe_glob (v := .ref (C 21)) (by rfl) (T.g 21 (by decide)) rfl) pa_nil))) (pa_cons (pe_callB cI (by rfl) mI (by decide +kernel) (pa_cons (pv 0) (pa_cons (pe_glob (v := .ref (C 22)) (by rfl) (T.g 22 (by decide)) rfl) pa_nil))) (pa_cons (pe_callB cI (by rfl) mI (by decide +kernel) (pa_cons (pv 0) (pa_cons (pe_glob (v := .ref (C 23)) (by rfl) (T.g 23 (by decide)) rfl) pa_nil))) pa_nil))))))
        (pss_one (ps_ret (pe_op op_cat (pv 1) (pe_lst (pa_cons (pe_callB cI (by rfl) mI (by decide +kernel) (pa_cons (pv 0) (pa_cons (pe_glob (v := .ref (C 24)) (by rfl) (T.g 24 (by decide)) rfl) pa_nil))) (pa_cons (pe_callB cI (by rfl) mI (by decide +kernel) (pa_cons (pv 0) (pa_cons (pe_glob (v := .ref (C 25)) (by rfl) (T.g 25 (by decide)) rfl) pa_nil))) (pa_cons (pe_callB cI (by rfl) mI (by decide +kernel) (pa_cons (pv 0) (pa_cons (pe_glob (v := .ref (C 26)) (by rfl) (T.g 26 (by decide)) rfl) pa_nil))) pa_nil))))))))),
      firstRun (j := 15) sE (by decide) hE none fun σ1 H1 h1 => nextRun (j := 18) sE (by decide) (by decide) h1 fun σ2 H2 h2 => nextRun (j := 21) sE (by decide) (by decide) h2 fun σ3 H3 h3 => endRun (j := 24) sE (by decide) (by decide) h3 fun q vs H2 s hq r => k q vs H2 s hq r⟩

/-- by a thing that a reading brings with it -/
theorem psEx {X : Cx} {α : Type} {st : List Stmt} {Pz : α → Prop} {t : α → TS} (h : ∀ z, Pz z → PSs X st (t z)) : PSs X st (fun D σ H => ∃ z, Pz z ∧ t z D σ H) := ⟨fun pins s σ H D I ⟨z, pz, q⟩ => (h z pz).run pins s σ H D I q⟩
theorem takesN {X : Cx} : L2N.Takes X (fun _ _ _ _ => False) := fun u s' ⟨_, _, _, _, _, _, _, _, _, _, _, _, _, _, _, _, z⟩ => z.elim
def nCaught : List Str := ["_law_hand_here", "_law_thing", "_law_which", "_law_found", "_law_error", "_law_flags"]
theorem scCaught : FnScope nCaught ["_law_hand_here", "_law_thing"] (defScope sCaught) := ⟨rfl, rfl, rfl, by decide +kernel, rfl, by decide +kernel, by decide +kernel⟩
def spCaught : Sp := fun vs H Q _ => ∃ (q c : Addr) (cells : List Int) (v : V), vs = [.ref q, v] ∧ HandIn H q c cells ∧ Good q H 31 v ∧ ∀ H', HandIn H' q c cells → Kept q H H' → Q (.bl true) H'
/-- what the suite is told of the error: which, its dict, its one field -/
structure SuI (C : Nat → Addr) (cls : Value) (d : Option Addr) (z : Nat × Addr × Str × V) : Prop where
  i : z.1 = 7 ∨ z.1 = 14 ∨ z.1 = 26
  c : cls = .ref (C z.1)
  d : d = some z.2.1
theorem i27 {i : Nat} (h : i = 7 ∨ i = 14 ∨ i = 26) : i < 27 := by omega
/-- flags = first(error) + last(error); if ..: found = is(error.f, thing) -/
def tSuite (K : PySem.W.Frag) (a : Addr) (z : Nat × Addr × Str × V) : TS :=
  tSeq (tAsg (tOp rCat (tCall (spFl (ErP (z.2.1, [(z.2.2.1, z.2.2.2)])) a z.1 0 15) [] (fun _ _ _ => False) (tCons (tVar 4) tNil)) (tCall (spFl (ErP (z.2.1, [(z.2.2.1, z.2.2.2)])) a z.1 15 12) [] (fun _ _ _ => False) (tCons (tVar 4) tNil))) (gName 5))
    (tIfS (tAnd (tTest (tOp rEq (tBM K "list" (rIndex K) (tVar 5) (tCons (tC (.bl true)) tNil)) (tOp (rIxL K) (tLst (tCons (tC (.int 7)) (tCons (tC (.int 14)) (tCons (tC (.int 26)) tNil)))) (tVar 2)))) (tTest (tOp rEq (tBM K "list" (rCntF K) (tVar 5) (tCons (tC (.bl true)) tNil)) (tC (.int 1)))))
      (tIfS (tTest (tOp rEq (tVar 2) (tC (.int 0)))) (tAsg (tCall (spJ 32) [] (fun _ _ _ => False) (tCons (tFldP a z.2.1 "most" (tVar 4)) (tCons (tVar 1) tNil))) (gName 3))
        (tIfS (tTest (tOp rEq (tVar 2) (tC (.int 1)))) (tAsg (tCall (spJ 32) [] (fun _ _ _ => False) (tCons (tFldP a z.2.1 "place" (tVar 4)) (tCons (tVar 1) tNil))) (gName 3))
          (tAsg (tCall (spJ 32) [] (fun _ _ _ => False) (tCons (tFldP a z.2.1 "line" (tVar 4)) (tCons (tVar 1) tNil))) (gName 3)))) tNext)
theorem flL_app (i : Nat) : (List.range' 0 15).map (fun j => V.bl (decide (i = j))) ++ (List.range' 15 12).map (fun j => V.bl (decide (i = j))) = flL i := rfl
def capF : Nat → Str
  | 0 => "most"
  | 1 => "place"
  | _ => "line"
def capI : Nat → Nat
  | 0 => 7
  | 1 => 14
  | _ => 26
theorem ifT {c : Prop} {_ : Decidable c} {a b : Prop} (h : c) (x : a) : if c then a else b := by rw [if_pos h]; exact x
theorem ifF {c : Prop} {_ : Decidable c} {a b : Prop} (h : ¬ c) (x : b) : if c then a else b := by rw [if_neg h]; exact x
theorem suiteRun {q a dx : Addr} {v : V} {d : Nat} (hd : d < 3) {H : Hp} {D : Ends} (ha : H dx = some (.xd [(capF d, v)])) (hv : EqG H 31 v v) (k : ∀ (u : V) (H' : Hp), Same H H' → D.nx [some (.ref q), some v, some (.int (d : Nat)), some (.bl true), some (.ref a), some u] H') :
    tSuite K a (capI d, dx, capF d, v) D [some (.ref q), some v, some (.int (d : Nat)), some (.bl false), some (.ref a), none] H := by
  have i3 : capI d < 27 := by
    match d, hd with
    | 0, _ => decide
    | 1, _ => decide
    | 2, _ => decide
  refine ⟨_, rfl, rfl, stabP, ha, fun q1 us1 H1 s1 h1 r1 => ⟨_, rfl, rfl, stabP, s1 _ _ ha, fun q2 us2 H2 s2 h2 r2 => ?_⟩⟩
  have e1 := all2_fl r1
  have e2 := all2_fl r2
  refine ⟨q1, q2, us1, us2, rfl, rfl, s2 _ _ h1, h2, Nat.le_of_lt (small1000 (by rw [e1, e2, List.length_map, List.length_map, List.length_range', List.length_range']; decide)), fun q3 n3 => ?_⟩
  have e3 : us1 ++ us2 = flL (capI d) := by rw [e1, e2]; exact flL_app _
  rw [e3]
  have S3 := smUpd (o := .lst (flL (capI d))) n3
  have hq3 : upd H2 q3 (.lst (flL (capI d))) q3 = some (.lst (flL (capI d))) := upd_same
  have hx3 := S3 _ _ (s2 _ _ (s1 _ _ ha))
  have s03 := (s1.trans s2).trans S3
  have hv3 := eqG_same s03 hv
  generalize upd H2 q3 (.lst (flL (capI d))) = H3 at S3 hq3 hx3 s03 hv3 ⊢
  refine ⟨_, rfl, .inl ⟨rfl, _, .inl (.inl hq3)⟩, q3, _, _, capI d, .bl true, rfl, rfl, .inl (.inl hq3), rfl, flL_flat _ i3, flL_at _ i3, rfl, fun m z hm h => flL_no _ m z hm h, ?_⟩
  refine ⟨by show 3 ≤ sizeLine; decide, fun l nl => ?_⟩
  have S4 := smUpd (o := .lst [.int 7, .int 14, .int 26]) nl
  have hq4 := S4 _ _ hq3
  have hx4 := S4 _ _ hx3
  have s04 := s03.trans S4
  have hv4 := eqG_same S4 hv3
  have hl4 : upd H3 l (.lst [.int 7, .int 14, .int 26]) l = some (.lst [.int 7, .int 14, .int 26]) := upd_same
  generalize upd H3 l (.lst [.int 7, .int 14, .int 26]) = H4 at S4 hq4 hx4 s04 hv4 hl4 ⊢
  refine ⟨_, rfl, l, _, (d : Nat), .int (capI d : Nat), rfl, rfl, .inl (.inl hl4), ?_, rfl, _, rfl, ?_⟩
  · match d, hd with
    | 0, _ => rfl
    | 1, _ => rfl
    | 2, _ => rfl
  refine ifT (decide_eq_true rfl) ?_
  refine ⟨_, rfl, .inl ⟨rfl, _, .inl (.inl hq4)⟩, q3, _, _, rfl, rfl, .inl (.inl hq4), rfl, flL_flat _ i3, ?_⟩
  rw [flL_cnt _ i3]
  refine ⟨rfl, _, rfl, ?_⟩
  refine ifT (decide_eq_true rfl) ?_
  match d, hd with
  | 0, _ =>
    refine ⟨_, rfl, rfl, _, rfl, ?_⟩
    refine ifT (decide_eq_true rfl) ?_
    exact ⟨_, rfl, _, v, rfl, hx4, rfl, _, rfl, _, _, rfl, hv4, fun H5 s5 => k _ _ (s04.trans s5)⟩
  | 1, _ =>
    refine ⟨_, rfl, rfl, _, rfl, ?_⟩
    refine ifF (by decide) ?_
    refine ⟨_, rfl, rfl, _, rfl, ?_⟩
    refine ifT (decide_eq_true rfl) ?_
    exact ⟨_, rfl, _, v, rfl, hx4, rfl, _, rfl, _, _, rfl, hv4, fun H5 s5 => k _ _ (s04.trans s5)⟩
  | 2, _ =>
    refine ⟨_, rfl, rfl, _, rfl, ?_⟩
    refine ifF (by decide) ?_
    refine ⟨_, rfl, rfl, _, rfl, ?_⟩
    refine ifF (by decide) ?_
    exact ⟨_, rfl, _, v, rfl, hx4, rfl, _, rfl, _, _, rfl, hv4, fun H5 s5 => k _ _ (s04.trans s5)⟩
end
end Cn
namespace Cn
open PySem PySem.Spec PyProof.Rows L2 L2H HotX
def tRz (C : Nat → Addr) (i : Nat) (W : WX) : TS := fun _ σ H => tRaiseN (C i) (eF i) (tCons (tVar 1) tNil) σ H fun cls d H' => W cls d σ H'
def tBody (C : Nat → Addr) (W : WX) : TS := tSeq (tIfS (tTest (tOp rEq (tVar 2) (tC (.int 0)))) (tRz C 7 W) tNext) (tSeq (tIfS (tTest (tOp rEq (tVar 2) (tC (.int 1)))) (tRz C 14 W) tNext) (tRz C 26 W))
def tsC (C : Nat → Addr) (K : PySem.W.Frag) (a : Addr) (cls : Value) (d : Option Addr) : TS := fun D σ H => ∃ z, SuI C cls d z ∧ tSuite K a z D σ H
section
variable {P : Program} {w : World} {K : PySem.W.Frag} {mg : Str → Option Value} {base : Heap} {C : Nat → Addr} {NE : Addr}
theorem ok_caught {f fD fF fL fI : Addr} {fd fdD fdF fdL fdI : FuncData} (F : Fun K "_law_is_caught" "_law_is_caught" sCaught f fd) (T : ErrT P w K mg C NE) (IT : IsTxt mg)
    (FD : Fun K "_law_draw" "_law_draw" sDraw fD fdD) (bD : Binds K fdD ["_law_hand_here", "_law_many"] []) (gD : mg "_law_draw" = some (.ref fD)) (mInt : mg "int" = none)
    (FF : Fun K "_law_first_flags" "_law_first_flags" sFirst fF fdF) (bF : Binds K fdF ["_law_error"] []) (gF : mg "_law_first_flags" = some (.ref fF))
    (FL : Fun K "_law_last_flags" "_law_last_flags" sLast fL fdL) (bL : Binds K fdL ["_law_error"] []) (gL : mg "_law_last_flags" = some (.ref fL))
    (FI : Fun K "_law_is" "_law_is" sIs fI fdI) (bI : Binds K fdI ["_law_told", "_law_due"] []) (gI : mg "_law_is" = some (.ref fI)) :
    FnOk P w K mg base CX0 36 f fd ["_law_hand_here", "_law_thing"] spCaught := by
  have GD : FnOk P w K mg base CX0 1 fD fdD ["_law_hand_here", "_law_many"] spDraw := ok_draw FD mInt IT.len
  refine F.ok scCaught (fun vs H Q E h => ?_) (fun cdv A outer s H vs Q E hr h => ?_)
  · obtain ⟨q, c, cells, v, rfl, _⟩ := h
    rfl
  · obtain ⟨q, c, cells, v, rfl, hI, gv, k⟩ := h
    have hr1 : Room 1 _ := hr.mono (by decide)
    have hr35 : Room 35 (A.deeper (envOfC "_law_is_caught" (defScope sCaught) s.heap.objs.size f cdv)) := hr
    refine ⟨_, pss_cons (ps_set (i := 2) scCaught.nd rfl (Or.inl rfl) (pe_call GD hr1 (by rfl) gD FD.kp bD .nil pass0 (pa_cons (pv 0) (pa_cons pe_int pa_nil))))
      (pss_cons (ps_set (i := 3) scCaught.nd rfl (Or.inl rfl) pe_bl)
      (pss_cons (L2N.ps_try_as (i := 4) (tb := tBody C) (ts := tsC C K) (Wout := fun _ _ _ _ => False) rfl rfl scCaught.nd rfl rfl ⟨rfl, by decide, Or.inl T.gNE⟩ takesN
        (fun W pn xe tk _ => pss_cons (ps_if (pt_cmpR op_eq (pv 2) pe_int (nomark _)) (pss_one (L2N.ps_raise rfl tk (pm_N (T.mkE 7 (by decide)) hr (by decide) (T.g 7 (by decide)) (pa_cons (pv 1) pa_nil)))) pss_nil)
          (pss_cons (ps_if (pt_cmpR op_eq (pv 2) pe_int (nomark _)) (pss_one (L2N.ps_raise rfl tk (pm_N (T.mkE 14 (by decide)) hr (by decide) (T.g 14 (by decide)) (pa_cons (pv 1) pa_nil)))) pss_nil)
          (pss_one (L2N.ps_raise rfl tk (pm_N (T.mkE 26 (by decide)) hr (by decide) (T.g 26 (by decide)) (pa_cons (pv 1) pa_nil))))))
        (fun a oe cls d pn hz hf => psEx fun z hz2 => ?suite))
      (pss_one (ps_ret (pv 3))))), ?_⟩
    case suite =>
      obtain ⟨i, dx, fn, vv⟩ := z
      obtain ⟨hi, hcls, hdd⟩ := hz2
      have hi : i = 7 ∨ i = 14 ∨ i = 26 := hi
      have hcls : cls = .ref (C i) := hcls
      have hdd : d = some dx := hdd
      subst hcls hdd
      have hc2 : ∃ vs : Array Value, oe.data = .fields vs ∧ vs[2]? = some .none := by
        obtain ⟨vs, hv⟩ := hf
        exact ⟨vs, hv, hz.2.2 vs hv⟩
      have hzc : Zc (.ref (C i)) (some dx) oe := hz.zc
      have hrH : RoomH 35 ((A.deeper (envOfC "_law_is_caught" (defScope sCaught) s.heap.objs.size f cdv)).mark (some (.ref a))) := ⟨hr.dp, hr.un⟩
      have hrH1 : RoomH 1 ((A.deeper (envOfC "_law_is_caught" (defScope sCaught) s.heap.objs.size f cdv)).mark (some (.ref a))) := hrH.mono (by decide)
      have hrH34 : RoomH 34 ((A.deeper (envOfC "_law_is_caught" (defScope sCaught) s.heap.objs.size f cdv)).mark (some (.ref a))) := hrH.mono (by decide)
      have oF : FnP P w K mg base (a, oe) 1 fF fdF ["_law_error"] (spFl (ErP (dx, [(fn, vv)])) a i 0 15) := ok_firstP FF T IT.inst (i27 hi) hzc
      have oL : FnP P w K mg base (a, oe) 1 fL fdL ["_law_error"] (spFl (ErP (dx, [(fn, vv)])) a i 15 12) := ok_lastP FL T IT.inst (i27 hi) hzc
      have oI : FnP P w K mg base (a, oe) 34 fI fdI ["_law_told", "_law_due"] (spJ 32) := ok_isP FI IT gI bI 32
      exact pss_cons (ps_set (i := 5) scCaught.nd rfl (Or.inl rfl) (pe_op op_cat (pe_callP oF hrH1 (PinAt.suite hc2) (by rfl) gF FF.kp bF (pa_cons (pv 4) pa_nil)) (pe_callP oL hrH1 (PinAt.suite hc2) (by rfl) gL FL.kp bL (pa_cons (pv 4) pa_nil))))
        (pss_one (ps_if (PW.pt (pw_and (pt_cmpR op_eq (pe_bm PySem.F.plainAttrs_list PySem.F.slot_list_index PySem.F.type_list_index mt_index (pv 5) (pa_cons pe_bl pa_nil)) (pe_ix ix_list (pe_lst (pa_cons pe_int (pa_cons pe_int (pa_cons pe_int pa_nil)))) (pv 2) (fun _ _ => rfl)) (nomark _))
            (pw_and1 (pt_cmpR op_eq (pe_bm PySem.F.plainAttrs_list PySem.F.slot_list_count PySem.F.type_list_count mt_cntF (pv 5) (pa_cons pe_bl pa_nil)) pe_int (nomark _)))))
          (pss_one (ps_if (pt_cmpR op_eq (pv 2) pe_int (nomark _)) (pss_one (ps_set (i := 3) scCaught.nd rfl (Or.inl rfl) (pe_callP oI hrH34 (PinAt.suite hc2) (by rfl) gI FI.kp bI (pa_cons (pe_fldP (T.ex i (i27 hi)) List.mem_cons_self hzc hf (T.no3 i _ hi (.inl rfl)) (pv 4)) (pa_cons (pv 1) pa_nil)))))
            (pss_one (ps_if (pt_cmpR op_eq (pv 2) pe_int (nomark _)) (pss_one (ps_set (i := 3) scCaught.nd rfl (Or.inl rfl) (pe_callP oI hrH34 (PinAt.suite hc2) (by rfl) gI FI.kp bI (pa_cons (pe_fldP (T.ex i (i27 hi)) List.mem_cons_self hzc hf (T.no3 i _ hi (.inr (.inl rfl))) (pv 4)) (pa_cons (pv 1) pa_nil)))))
              (pss_one (ps_set (i := 3) scCaught.nd rfl (Or.inl rfl) (pe_callP oI hrH34 (PinAt.suite hc2) (by rfl) gI FI.kp bI (pa_cons (pe_fldP (T.ex i (i27 hi)) List.mem_cons_self hzc hf (T.no3 i _ hi (.inr (.inr rfl))) (pv 4)) (pa_cons (pv 1) pa_nil)))))))))
          pss_nil))
    refine ⟨_, rfl, q, c, cells, 3, rfl, hI, by decide, by decide, fun d i g m t d0 d1 i0 => ?_⟩
    have hI1 : HandIn (upd H q (handL c i g m t)) q c cells := handIn_upd hI i0
    have k1 : Kept q H (upd H q (handL c i g m t)) := kept_hand
    have gv1 := good_keep k1 gv
    generalize upd H q (handL c i g m t) = H1 at hI1 k1 gv1 ⊢
    have fin : ∀ (dn : Nat), dn < 3 → ∀ (D : Ends) (dx : Addr), H1 dx = none → wAs K (.ref NE) 4 (tsC C K) (fun _ _ _ _ => False) { nx := fun σ H' => tRet (tVar 3) { nx := fun _ H' => Q .non H', rt := Q, bk := D.bk, ct := D.ct } σ H', rt := Q, bk := D.bk, ct := D.ct } (.ref (C (capI dn))) (some dx) [some (.ref q), some v, some (.int (dn : Nat)), some (.bl false), none, none] (upd H1 dx (.xd [(capF dn, v)])) := by
      intro dn hd D dx ndx
      have i3 : capI dn = 7 ∨ capI dn = 14 ∨ capI dn = 26 := by
        match dn, hd with
        | 0, _ => exact .inl rfl
        | 1, _ => exact .inr (.inl rfl)
        | 2, _ => exact .inr (.inr rfl)
      have S1 := smUpd (o := .xd [(capF dn, v)]) ndx
      refine ⟨true, T.exm _ (i27 i3), fun _ a na => ⟨(capI dn, dx, capF dn, v), ⟨i3, rfl, rfl⟩, ?_⟩, fun z => by cases z⟩
      refine suiteRun hd upd_same (eqG_same S1 (eqG_good gv1)) fun u H2 s2 => ?_
      exact ⟨_, rfl, k _ (handIn_keep (handIn_keep hI1 S1) s2) (kept_trans k1 (kept_same (S1.trans s2)))⟩
    have h3 : d = 0 ∨ d = 1 ∨ d = 2 := by omega
    rcases h3 with rfl | rfl | rfl
    · refine ⟨_, rfl, rfl, _, rfl, ?_⟩
      refine ifT (decide_eq_true rfl) ?_
      exact ⟨_, rfl, rfl, fun dx ndx => fin 0 (by decide) _ dx ndx⟩
    · refine ⟨_, rfl, rfl, _, rfl, ?_⟩
      refine ifF (by decide) ?_
      refine ⟨_, rfl, rfl, _, rfl, ?_⟩
      refine ifT (decide_eq_true rfl) ?_
      exact ⟨_, rfl, rfl, fun dx ndx => fin 1 (by decide) _ dx ndx⟩
    · refine ⟨_, rfl, rfl, _, rfl, ?_⟩
      refine ifF (by decide) ?_
      refine ⟨_, rfl, rfl, _, rfl, ?_⟩
      refine ifF (by decide) ?_
      exact ⟨_, rfl, rfl, fun dx ndx => fin 2 (by decide) _ dx ndx⟩
end
end Cn
namespace Cn
open PySem PySem.Spec PyProof.Rows L2
def nLaw : List Str := ["_law_script", "_law_hand_here", "_law_turn", "_law_one", "_law_other", "_law_every", "_law_at", "_law_error", "_law_flags", "_law_told"]
theorem scLaw : FnScope nLaw ["_law_script"] (defScope sLaw) := ⟨rfl, rfl, rfl, by decide +kernel, rfl, by decide +kernel, by decide +kernel⟩
def spLaw (K : PySem.W.Frag) : Sp := fun vs H Q _ => ∃ (a : Addr) (ns : List Int), vs = [.ref a] ∧ SqL K H a (ns.map V.int) ∧ ns.length ≤ 63 ∧ ∀ H', Q (.bl true) H'
theorem all2_at {H : Hp} : ∀ {Rs : List (V → Hp → Prop)} {us : List V} {i : Nat} {R : V → Hp → Prop}, All2 H Rs us → Rs[i]? = some R → ∃ u, us[i]? = some u ∧ R u H
  | _, _, i, R, .nil, e => by rw [List.getElem?_nil] at e; cases e
  | _, _, 0, R, .cons h _, e => by
    cases e
    exact ⟨_, rfl, h⟩
  | _, _, i + 1, R, .cons _ t, e => by
    rw [List.getElem?_cons_succ] at e
    obtain ⟨u, h1, h2⟩ := all2_at t e
    exact ⟨u, by rw [List.getElem?_cons_succ]; exact h1, h2⟩
theorem atI_nat {xs : List V} {i : Nat} {v : V} (h : xs[i]? = some v) : atI xs ((i : Nat) : Int) = some v := by
  have hi : i < xs.length := (List.getElem?_eq_some_iff.mp h).1
  unfold atI ixN
  rw [if_pos (by omega), if_pos (by omega)]
  show xs[((i : Nat) : Int).toNat]? = _
  rw [Int.toNat_natCast]
  exact h
theorem glCons {R : V → Prop} {x : V} {xs : List V} (h : R x) (t : ∀ v ∈ xs, R v) : ∀ v ∈ x :: xs, R v := fun v hm => by
  rcases List.mem_cons.mp hm with e | hm
  · rw [e]; exact h
  · exact t v hm
theorem erOpt {C : Nat → Addr} {j : Nat} {x y : V} {a : Addr} {H : Hp} (h : ErAt C j x y a H) : ∃ (d : Option Addr) (dx : Option (Addr × List (Str × V))), d = dx.map (·.1) ∧ H a = some (exo a (C j) d) ∧ (∀ p, dx = some p → H p.1 = some (.xd p.2)) := by
  obtain ⟨d, h1, ⟨_, rfl⟩ | ⟨dx, rfl, h2⟩⟩ := h
  · exact ⟨none, none, rfl, h1, fun p z => by cases z⟩
  · exact ⟨some dx, some (dx, eV j x y), rfl, h1, fun p z => by cases z; exact h2⟩
theorem erFld {C : Nat → Addr} {j : Nat} {x y : V} {a : Addr} {H : Hp} (hn : eF j ≠ []) (h : ErAt C j x y a H) : ∃ dx, H a = some (exo a (C j) (some dx)) ∧ H dx = some (.xd (eV j x y)) := by
  obtain ⟨d, h1, ⟨z, _⟩ | ⟨dx, rfl, h2⟩⟩ := h
  · exact absurd z hn
  · exact ⟨dx, h1, h2⟩
theorem xdOpt {H : Hp} {d : Option Addr} {dx : Option (Addr × List (Str × V))} (e : d = dx.map (·.1)) (h : ∀ p, dx = some p → H p.1 = some (.xd p.2)) : XdAt H d := by
  cases dx with
  | none => exact .inl e
  | some p => exact .inr ⟨p.1, p.2, e, h p rfl⟩
theorem glNil {R : V → Prop} : ∀ v ∈ ([] : List V), R v := fun v hm => by cases hm
theorem goodFlat {p : Addr} {H : Hp} {v : V} (h : flatV v = true) : Good p H 31 v := good_up (n := 0) (.inl h) (Nat.zero_le _)
theorem goodTup {p a : Addr} {H : Hp} {xs : List V} (ne : a ≠ p) (ha : H a = some (.tup xs)) (hl : xs.length ≤ 5) (hx : ∀ x ∈ xs, flatV x = true) : Good p H 31 (.ref a) :=
  good_up (n := 1) (.inr ⟨a, xs, rfl, ne, .inl ha, hl, fun x hm => .inl (hx x hm)⟩) (by decide)
theorem someRun {q c : Addr} {cells : List Int} {H : Hp} {xs : List V} {Q : VK} {E : XK} (hI : HandIn H q c cells) (l0 : 0 < xs.length) (l1 : xs.length < 1000) (hg : ∀ v ∈ xs, Good q H 31 v) (k : ∀ (v : V) (H' : Hp), Good q H' 31 v → HandIn H' q c cells → Kept q H H' → Q v H') :
    xs.length ≤ sizeLine ∧ ∀ l, H l = none → spSome [.ref q, .ref l] (upd H l (.lst xs)) Q E := by
  refine ⟨Nat.le_of_lt (small1000 (Nat.le_of_lt l1)), fun l nl => ?_⟩
  have S := smUpd (o := .lst xs) nl
  have hI2 := handIn_keep hI S
  have ne : l ≠ q := by
    obtain ⟨_, _, _, _, z, _⟩ := hI.ob
    exact (ne_of_none z nl).symm
  refine ⟨q, c, l, cells, xs, rfl, hI2, upd_same, ne, l0, l1, fun v i g m t hm i0 => ?_⟩
  have k2 : Kept q H (upd (upd H l (.lst xs)) q (handL c i g m t)) := kept_trans (kept_same S) kept_hand
  exact k v _ (good_keep k2 (hg v hm)) (handIn_upd hI2 i0) k2
section
variable {P : Program} {w : World} {K : PySem.W.Frag} {mg : Str → Option Value} {base : Heap} {C : Nat → Addr} {NE : Addr}
structure NamTxt (mg : Str → Option Value) : Prop where
  int : mg "int" = none
  abs : mg "abs" = none
  range : mg "range" = none
  enum : mg "enumerate" = none
  ve : mg "ValueError" = none
/-- a def and its name in the module -/
structure DefAt (K : PySem.W.Frag) (mg : Str → Option Value) (x : Str) (st : Stmt) (ps : List Str) (f : Addr) (fd : FuncData) : Prop where
  F : Fun K x x st f fd
  b : Binds K fd ps []
  g : mg x = some (.ref f)
theorem ok_law {f fH fD fDp fS fE fF fL fI fC : Addr} {fd fdH fdD fdDp fdS fdE fdF fdL fdI fdC : FuncData} (F : Fun K "law" "law" sLaw f fd) (T : ErrT P w K mg C NE) (IT : IsTxt mg) (NT : NamTxt mg)
    (DH : DefAt K mg "_law_hand" sHand ["_law_script"] fH fdH) (DD : DefAt K mg "_law_draw" sDraw ["_law_hand_here", "_law_many"] fD fdD) (DDp : DefAt K mg "_law_deep" sDeep ["_law_hand_here"] fDp fdDp)
    (DS : DefAt K mg "_law_some" sSome ["_law_hand_here", "_law_things"] fS fdS) (DE : DefAt K mg "_law_errors" sErrs ["_law_one", "_law_other"] fE fdE) (DF : DefAt K mg "_law_first_flags" sFirst ["_law_error"] fF fdF)
    (DL : DefAt K mg "_law_last_flags" sLast ["_law_error"] fL fdL) (DI : DefAt K mg "_law_is" sIs ["_law_told", "_law_due"] fI fdI) (DC : DefAt K mg "_law_is_caught" sCaught ["_law_hand_here", "_law_thing"] fC fdC) :
    FnOk P w K mg base CX0 37 f fd ["_law_script"] (spLaw K) := by
  have GH : FnOk P w K mg base CX0 1 fH fdH ["_law_script"] (spHand K) := ok_hand DH.F NT.abs NT.int IT.len
  have GDp : FnOk P w K mg base CX0 2 fDp fdDp ["_law_hand_here"] spDeep := ok_deep DDp.F DD.F DD.b DD.g NT.int IT.len NT.range
  have GS : FnOk P w K mg base CX0 2 fS fdS ["_law_hand_here", "_law_things"] spSome := ok_some DS.F DD.F DD.b DD.g NT.int IT.len
  have GE : FnOk P w K mg base CX0 2 fE fdE ["_law_one", "_law_other"] (spErrs C) := ok_errs DE.F T
  have GF : FnOk P w K mg base CX0 1 fF fdF ["_law_error"] (spFlC C 0 15) := ok_first DF.F T IT.inst
  have GL : FnOk P w K mg base CX0 1 fL fdL ["_law_error"] (spFlC C 15 12) := ok_last DL.F T IT.inst
  have GI : FnOk P w K mg base CX0 35 fI fdI ["_law_told", "_law_due"] (spJ 33) := ok_is DI.F IT DI.g DI.b 33
  have GC : FnOk P w K mg base CX0 36 fC fdC ["_law_hand_here", "_law_thing"] spCaught := ok_caught DC.F T IT DD.F DD.b DD.g NT.int DF.F DF.b DF.g DL.F DL.b DL.g DI.F DI.b DI.g
  refine F.ok scLaw (fun vs H Q E h => ?_) (fun cdv A outer s H vs Q E hr h => ?_)
  · obtain ⟨a, ns, rfl, _⟩ := h
    rfl
  · obtain ⟨a, ns, rfl, hs, hl, k⟩ := h
    have r1 : Room 1 (A.deeper (envOfC "law" (defScope sLaw) s.heap.objs.size f cdv)) := Room.mono hr (by decide)
    have r2 : Room 2 (A.deeper (envOfC "law" (defScope sLaw) s.heap.objs.size f cdv)) := Room.mono hr (by decide)
    have r35 : Room 35 (A.deeper (envOfC "law" (defScope sLaw) s.heap.objs.size f cdv)) := Room.mono hr (by decide)
    refine ⟨_, pss_cons (ps_set (i := 1) scLaw.nd rfl (Or.inl rfl) (pe_call GH r1 (by rfl) DH.g DH.F.kp DH.b .nil pass0 (pa_cons (pv 0) pa_nil)))
      (pss_cons (ps_for PassesOwn.never rfl (pi_range1 rfl NT.range (pa_cons pe_int pa_nil)) (pg_name (i := 2) scLaw.nd rfl (Or.inl rfl))
        (pss_cons (ps_set (i := 3) scLaw.nd rfl (Or.inl rfl) (pe_call GS r2 (by rfl) DS.g DS.F.kp DS.b .nil pass0 (pa_cons (pv 1) (pa_cons (pe_lst (pa_cons pe_int (pa_cons (pe_un un_neg pe_int) (pa_cons pe_str (pa_cons pe_non (pa_cons pe_bl (pa_cons (pe_tup (pa_cons pe_int (pa_cons pe_str pa_nil))) (pa_cons (pe_op op_pow pe_int pe_int)
            (pa_cons (pe_call GDp r2 (by rfl) DDp.g DDp.F.kp DDp.b .nil pass0 (pa_cons (pv 1) pa_nil)) pa_nil))))))))) pa_nil))))
        (pss_cons (ps_set (i := 4) scLaw.nd rfl (Or.inl rfl) (pe_call GS r2 (by rfl) DS.g DS.F.kp DS.b .nil pass0 (pa_cons (pv 1) (pa_cons (pe_lst (pa_cons pe_int (pa_cons pe_non (pa_cons pe_str (pa_cons pe_bl (pa_cons (pe_tup pa_nil)
            (pa_cons (pe_call GDp r2 (by rfl) DDp.g DDp.F.kp DDp.b .nil pass0 (pa_cons (pv 1) pa_nil)) pa_nil))))))) pa_nil))))
        (pss_cons (ps_set (i := 5) scLaw.nd rfl (Or.inl rfl) (pe_call GE r2 (by rfl) DE.g DE.F.kp DE.b .nil pass0 (pa_cons (pv 3) (pa_cons (pv 4) pa_nil))))
        (pss_cons (ps_for PassesOwn.never rfl (pi_enum (by rfl) NT.enum (pa_cons (pv 5) pa_nil)) (pg_tup rfl (pgs_cons (pg_name (i := 6) scLaw.nd rfl (Or.inl rfl)) (pgs_cons (pg_name (i := 7) scLaw.nd rfl (Or.inl rfl)) pgs_nil)))
          (pss_cons (ps_set (i := 8) scLaw.nd rfl (Or.inl rfl) (pe_op op_cat (pe_call GF r1 (by rfl) DF.g DF.F.kp DF.b .nil pass0 (pa_cons (pv 7) pa_nil)) (pe_call GL r1 (by rfl) DL.g DL.F.kp DL.b .nil pass0 (pa_cons (pv 7) pa_nil))))
          (pss_cons (ps_if (PW.pt (pw_or (pt_not (pt_val (pe_callB call_isX (by rfl) IT.inst (by decide +kernel) (pa_cons (pv 7) (pa_cons (pe_glob (v := .ref NE) (by rfl) T.gNE rfl) pa_nil))))) (pw_or1 (pt_not (pt_val (pe_callB call_isX (by rfl) IT.inst (by decide +kernel) (pa_cons (pv 7) (pa_cons (pe_bltn (v := .ty "ValueError") (by rfl) NT.ve (by decide +kernel) rfl) pa_nil))))))))
            (pss_one (ps_ret pe_bl)) pss_nil)
          (pss_one (ps_if (PW.pt (pw_or (pt_cmpR op_ne (pe_bm PySem.F.plainAttrs_list PySem.F.slot_list_count PySem.F.type_list_count mt_cntF (pv 8) (pa_cons pe_bl pa_nil)) pe_int (nomark _)) (pw_or1 (pt_cmpR op_ne (pe_bm PySem.F.plainAttrs_list PySem.F.slot_list_index PySem.F.type_list_index mt_index (pv 8) (pa_cons pe_bl pa_nil)) (pv 6) (nomark _)))))
            (pss_one (ps_ret pe_bl)) pss_nil)))))
        (pss_cons (ps_set (i := 9) scLaw.nd rfl (Or.inl rfl) (pe_lst (pa_cons (pe_fldX (pe_ix ix_list (pv 5) pe_int (fun _ _ => rfl))) (pa_cons (pe_fldX (pe_ix ix_list (pv 5) pe_int (fun _ _ => rfl))) (pa_cons (pe_fldX (pe_ix ix_list (pv 5) pe_int (fun _ _ => rfl))) (pa_cons (pe_fldX (pe_ix ix_list (pv 5) pe_int (fun _ _ => rfl))) (pa_cons (pe_fldX (pe_ix ix_list (pv 5) pe_int (fun _ _ => rfl))) pa_nil)))))))
        (pss_one (ps_if (PW.pt (pw_or (pt_not (pt_val (pe_call GI r35 (by rfl) DI.g DI.F.kp DI.b .nil pass0 (pa_cons (pv 9) (pa_cons (pe_lst (pa_cons (pv 3) (pa_cons (pv 4) (pa_cons (pv 3) (pa_cons (pv 3) (pa_cons (pv 3) pa_nil)))))) pa_nil))))) (pw_or1 (pt_not (pt_val (pe_call GC hr (by rfl) DC.g DC.F.kp DC.b .nil pass0 (pa_cons (pv 1) (pa_cons (pv 3) pa_nil))))))))
          (pss_one (ps_ret pe_bl)) pss_nil))))))))
      (pss_one (ps_ret pe_bl))), ?_⟩
    refine ⟨_, rfl, a, ns, rfl, hs, hl, fun H1 q c cells s1 nq nc hI => ⟨3, rfl, by decide, by decide, ?_⟩⟩
    refine for_range (lo := 0) (n := 3) (fun _ σ H' => HandIn H' q c cells ∧ ∃ t2 t3 t4 t5 t6 t7 t8 t9 : Option V, σ = [some (.ref a), some (.ref q), t2, t3, t4, t5, t6, t7, t8, t9]) ?_ ?_ ?_
    · exact ⟨hI, _, _, _, _, _, _, _, _, rfl⟩
    · rintro j σ H2 hj ⟨hI2, t2, t3, t4, t5, t6, t7, t8, t9, rfl⟩
      -- one
      refine ⟨_, rfl, ?_⟩
      refine ⟨_, rfl, ?_⟩
      refine ⟨by show 2 ≤ sizeLine; decide, fun tp ntp => ?_⟩
      have S1 := smUpd (o := .tup [.int 1, .str "a"]) ntp
      have hI3 := handIn_keep hI2 S1
      have ntq : tp ≠ q := by
        obtain ⟨_, _, _, _, z, _⟩ := hI2.ob
        exact (ne_of_none z ntp).symm
      have htp : upd H2 tp (.tup [.int 1, .str "a"]) tp = some (.tup [.int 1, .str "a"]) := upd_same
      generalize upd H2 tp (.tup [.int 1, .str "a"]) = H3 at S1 hI3 htp ⊢
      refine ⟨10, 30, rfl, rfl, ⟨by decide, by decide, by decide⟩, ?_⟩
      refine ⟨_, rfl, q, c, cells, rfl, hI3, fun dv H4 gdv hI4 k4 => ?_⟩
      refine someRun (E := fun _ _ _ => False) hI4 (Nat.le_of_ble_eq_true rfl) (Nat.le_of_ble_eq_true rfl) (glCons (goodFlat rfl) (glCons (goodFlat rfl) (glCons (goodFlat rfl) (glCons (goodFlat rfl) (glCons (goodFlat rfl) (glCons (goodTup ntq (k4 _ _ ntq htp) (Nat.le_of_ble_eq_true rfl) (glCons rfl (glCons rfl glNil))) (glCons (goodFlat rfl) (glCons gdv glNil)))))))) fun v1 H5 gv1 hI5 k5 => ?_
      -- other
      refine ⟨_, rfl, ?_⟩
      refine ⟨by show 0 ≤ sizeLine; decide, fun tp2 ntp2 => ?_⟩
      have S6 := smUpd (o := .tup []) ntp2
      have hI6 := handIn_keep hI5 S6
      have gv6 := good_keep (kept_same (p := q) S6) gv1
      have ntq2 : tp2 ≠ q := by
        obtain ⟨_, _, _, _, z, _⟩ := hI5.ob
        exact (ne_of_none z ntp2).symm
      have htp2 : upd H5 tp2 (.tup []) tp2 = some (.tup []) := upd_same
      generalize upd H5 tp2 (.tup []) = H6 at S6 hI6 gv6 htp2 ⊢
      refine ⟨_, rfl, q, c, cells, rfl, hI6, fun dv2 H7 gdv2 hI7 k7 => ?_⟩
      refine someRun (E := fun _ _ _ => False) hI7 (Nat.le_of_ble_eq_true rfl) (Nat.le_of_ble_eq_true rfl) (glCons (goodFlat rfl) (glCons (goodFlat rfl) (glCons (goodFlat rfl) (glCons (goodFlat rfl) (glCons (goodTup ntq2 (k7 _ _ ntq2 htp2) (Nat.zero_le _) glNil) (glCons gdv2 glNil)))))) fun v2 H8 gv2 hI8 k8 => ?_
      have gv8 := good_keep k8 (good_keep k7 gv6)
      -- every
      refine ⟨_, rfl, _, rfl, v1, v2, rfl, fun qe us H9 s9 he r9 => ?_⟩
      have e27 : us.length = 27 := (all2_len r9).trans (by rw [List.length_map, List.length_range])
      have erAt : ∀ (i : Nat), i < 27 → ∃ a, us[i]? = some (.ref a) ∧ ErAt C i v1 v2 a H9 := fun i hi => by
        obtain ⟨u, h1, b, rfl, h2⟩ := all2_at (i := i) (R := er C v1 v2 i) r9 (by rw [List.getElem?_map, List.getElem?_range hi]; rfl)
        exact ⟨b, h1, h2⟩
      refine ⟨_, rfl, qe, us, rfl, .inl (.inl he), ?_⟩
      refine for_it (walk_enum (xs := us)) (fun _ σ H' => Same H9 H' ∧ ∃ t6 t7 t8 : Option V, σ = [some (.ref a), some (.ref q), some (.int (0 + (j : Nat))), some v1, some v2, some (.ref qe), t6, t7, t8, t9]) ?_ ?_ ?_ ?_
      · exact ⟨Same.refl _, t6, t7, t8, rfl⟩
      · rintro i σ H' _ ⟨sm, _⟩
        exact .inl (.inl (sm _ _ he))
      · rintro i x σ H' H'' hi ⟨sm, t6, t7, t8, rfl⟩ ⟨T1, x1, y1, rfl, nT, rfl, e1, e2⟩
        cases e1
        rw [e27] at hi
        obtain ⟨b, hb, hE⟩ := erAt i hi
        cases hb.symm.trans e2
        have hE := erAt_same sm hE
        obtain ⟨d, dx, hd, hE⟩ := erOpt hE
        have hE := stabTr _ _ (smUpd (o := .tup [.int (i : Nat), .ref b]) nT) hE
        refine ⟨T1, _, rfl, .inl (.inl upd_same), rfl, _, _, rfl, _, _, rfl, rfl, ?_⟩
        have smT := sm.trans (smUpd (o := .tup [.int (i : Nat), .ref b]) nT)
        generalize upd H' T1 (.tup [.int (i : Nat), .ref b]) = Ha at smT hE ⊢
        refine ⟨_, rfl, b, i, d, dx, hi, hd, rfl, stabTr, hE, fun q1 us1 H1 s1 h1 r1 => ⟨_, rfl, b, i, d, dx, hi, hd, rfl, stabTr, stabTr _ _ s1 hE, fun q2 us2 H2 s2 h2 r2 => ?_⟩⟩
        have f1 := all2_fl r1
        have f2 := all2_fl r2
        refine ⟨q1, q2, us1, us2, rfl, rfl, s2 _ _ h1, h2, Nat.le_of_lt (small1000 (by rw [f1, f2, List.length_map, List.length_map, List.length_range', List.length_range']; decide)), fun q3 n3 => ?_⟩
        have f3 : us1 ++ us2 = flL i := by rw [f1, f2]; exact flL_app _
        rw [f3]
        have S3 := smUpd (o := .lst (flL i)) n3
        have hq3 : upd H2 q3 (.lst (flL i)) q3 = some (.lst (flL i)) := upd_same
        have hE3 := stabTr _ _ ((s1.trans s2).trans S3) hE
        have sm3 := smT.trans ((s1.trans s2).trans S3)
        generalize upd H2 q3 (.lst (flL i)) = H3 at hq3 hE3 sm3 ⊢
        refine ⟨_, rfl, b, C i, d, .ref NE, .ref NE, true, rfl, T.ex i hi, hE3.1, xdOpt hd hE3.2, fun u z => z, T.kNE i hi, true, rfl, ?_⟩
        refine ifF (by decide) ?_
        refine ⟨_, rfl, b, C i, d, .ty "ValueError", .type "ValueError", true, rfl, T.ex i hi, hE3.1, xdOpt hd hE3.2, fun u z => z, T.kVE i hi, true, rfl, ?_⟩
        refine ifF (by decide) ?_
        refine ⟨_, rfl, .inl ⟨rfl, _, .inl (.inl hq3)⟩, q3, _, _, rfl, rfl, .inl (.inl hq3), rfl, flL_flat _ hi, ?_⟩
        rw [flL_cnt _ hi]
        refine ⟨rfl, _, rfl, ?_⟩
        refine ifF (by decide) ?_
        refine ⟨_, rfl, .inl ⟨rfl, _, .inl (.inl hq3)⟩, q3, _, _, i, .bl true, rfl, rfl, .inl (.inl hq3), rfl, flL_flat _ hi, flL_at _ hi, rfl, fun m z hm h => flL_no _ m z hm h, ?_⟩
        refine ⟨_, rfl, rfl, _, rfl, ?_⟩
        refine ifF (by rw [decide_eq_true rfl]; decide) ?_
        exact ⟨sm3, _, _, _, rfl⟩
      · rintro σ H' ⟨sm, t6, t7, t8, rfl⟩
        have hI9 := handIn_keep (handIn_keep hI8 s9) sm
        have gv9 := good_keep (kept_same (p := q) (s9.trans sm)) gv8
        have gw9 := good_keep (kept_same (p := q) (s9.trans sm)) gv2
        have he9 := sm _ _ he
        obtain ⟨a0, g0, E0⟩ := erAt 0 (by decide)
        obtain ⟨a7, g7, E7⟩ := erAt 7 (by decide)
        obtain ⟨a14, g14, E14⟩ := erAt 14 (by decide)
        obtain ⟨a26, g26, E26⟩ := erAt 26 (by decide)
        obtain ⟨d0, x0, y0⟩ := erFld (by decide) (erAt_same sm E0)
        obtain ⟨d7, x7, y7⟩ := erFld (by decide) (erAt_same sm E7)
        obtain ⟨d14, x14, y14⟩ := erFld (by decide) (erAt_same sm E14)
        obtain ⟨d26, x26, y26⟩ := erFld (by decide) (erAt_same sm E26)
        refine ⟨_, rfl, qe, us, (0 : Nat), _, rfl, rfl, .inl (.inl he9), atI_nat g0, a0, C 0, d0, _, v1, rfl, T.ex 0 (by decide), x0, y0, T.no 0 _ (by decide) List.mem_cons_self, rfl, ?_⟩
        refine ⟨_, rfl, qe, us, (0 : Nat), _, rfl, rfl, .inl (.inl he9), atI_nat g0, a0, C 0, d0, _, v2, rfl, T.ex 0 (by decide), x0, y0, T.no 0 _ (by decide) (List.mem_cons_of_mem _ List.mem_cons_self), rfl, ?_⟩
        refine ⟨_, rfl, qe, us, (7 : Nat), _, rfl, rfl, .inl (.inl he9), atI_nat g7, a7, C 7, d7, _, v1, rfl, T.ex 7 (by decide), x7, y7, T.no 7 _ (by decide) List.mem_cons_self, rfl, ?_⟩
        refine ⟨_, rfl, qe, us, (14 : Nat), _, rfl, rfl, .inl (.inl he9), atI_nat g14, a14, C 14, d14, _, v1, rfl, T.ex 14 (by decide), x14, y14, T.no 14 _ (by decide) List.mem_cons_self, rfl, ?_⟩
        refine ⟨_, rfl, qe, us, (26 : Nat), _, rfl, rfl, .inl (.inl he9), atI_nat g26, a26, C 26, d26, _, v1, rfl, T.ex 26 (by decide), x26, y26, T.no 26 _ (by decide) List.mem_cons_self, rfl, ?_⟩
        refine ⟨by show 5 ≤ sizeLine; decide, fun l1 n1 => ?_⟩
        have S1 := smUpd (o := .lst [v1, v2, v1, v1, v1]) n1
        refine ⟨_, rfl, _, rfl, _, rfl, _, rfl, _, rfl, _, rfl, by show 5 ≤ sizeLine; decide, fun l2 n2 => ?_⟩
        have S2 := smUpd (o := .lst [v1, v2, v1, v1, v1]) n2
        have k1 := S2 _ _ (upd_same (H := H') (a := l1) (o := .lst [v1, v2, v1, v1, v1]))
        have S12 := S1.trans S2
        have ev := eqG_same S12 (eqG_good gv9)
        have ew := eqG_same S12 (eqG_good gw9)
        refine ⟨.ref l1, .ref l2, rfl, .inr ⟨l1, l2, _, _, rfl, rfl, .inl ⟨k1, upd_same⟩, Nat.le_of_ble_eq_true rfl, .cons ev (.cons ew (.cons ev (.cons ev (.cons ev .nil))))⟩, fun Hb sb => ?_⟩
        refine ⟨true, rfl, ?_⟩
        refine ifF (by decide) ?_
        have kk := kept_same (p := q) (S12.trans sb)
        refine ⟨_, rfl, _, rfl, q, c, cells, v1, rfl, handIn_keep hI9 (S12.trans sb), good_keep kk gv9, fun Hc hIc _ => ?_⟩
        refine ⟨true, rfl, ?_⟩
        refine ifF (by decide) ?_
        exact ⟨hIc, _, _, _, _, _, _, _, _, rfl⟩
    · rintro σ H2 ⟨_, t2, t3, t4, t5, t6, t7, t8, t9, rfl⟩
      exact k H2
end
end Cn
namespace Cn
open PySem PySem.Spec PyProof.Rows L2 Cx0
/-- what all the classes share -/
structure ShT (prog : Program) (K : PySem.W.Frag) (mg : Str → Option Value) : Prop where
  hn : PySem.W.specialIn K (.builtin "object.__class__") "__get__" = some (some (.builtin "getset_descriptor.__get__"))
  ht : PySem.W.takesIn K (.builtin "object.__class__") = some true
  opq : PySem.W.nsIn K cStatics "thirdparty.any" = some none
  mS : mg "super" = none
  htop : (prog.main.scope.names.lookup ("super" : Str)).isSome = false
abbrev bmOf (NE : Addr) : List Value := [.ref NE, .type "ValueError", .type "Exception", .type "BaseException", .type "object"]
structure ClsRes (P : Program) (w : World) (K : PySem.W.Frag) (mg : Str → Option Value) (nm : Str) (C NE : Addr) (fs : List Str) : Prop where
  g : mg nm = some (.ref C)
  mkE : Cx0.MkE P w K mg C fs
  ex : ExcC K C
  cd : ∃ cd, PySem.W.clsIn K C = some cd ∧ cd.mro = .ref C :: bmOf NE
  ty : PySem.W.typeIn K (.ref C) = some (.type "type")
  no : ∀ f ∈ fs, PySem.W.findIn K (.ref C) f = some none
/-- the facts of one class that are found in the written part -/
structure ClsTxt (K : PySem.W.Frag) (nm : Str) (C NE fI : Addr) : Prop where
  aC : PySem.W.nsIn K mainGlobals nm = some (some (.ref C))
  xL : ∃ nm q N bs sn sub ab col dd k0 k1 k2 k3 k5, K.lookup C = some (excClassObj nm q C N bs (bmOf NE) true sn sub ab col dd k0 k1 k2 k3 k5 "ValueError.__new__")
  sa : PySem.W.findIn K (.ref C) "__setattr__" = some (some (.builtin "object.__setattr__"))
  ga : PySem.W.findIn K (.ref C) "__getattribute__" = some (some (.builtin "BaseException.__getattribute__"))
  gg : PySem.W.findIn K (.ref C) "__getattr__" = some none
  ha : PySem.W.findIn K (.ref C) "__class__" = some (some (.builtin "object.__class__"))
  iC : PySem.W.findIn K (.ref C) "__init__" = some (some (.ref fI))
  tI : PySem.W.typeIn K (.ref fI) = some (.type "function")
  kC : PySem.W.keepIn K (.ref C) = true
  su : PySem.W.ks_superIn K C C "__init__" = some (some (.builtin "ValueError.__init__"))
section
variable {P : Program} {w : World} {K : PySem.W.Frag} {mg : Str → Option Value} {h : Heap} {nm : Str} {C NE fI cc cda : Addr}
theorem cd_of (T : ClsTxt K nm C NE fI) : ∃ cd, PySem.W.clsIn K C = some cd ∧ cd.mro = .ref C :: bmOf NE ∧ cd.hasDict = true := by
  obtain ⟨nm, q, N, bs, sn, sub, ab, col, dd, k0, k1, k2, k3, k5, hC⟩ := T.xL
  refine ⟨{ name := nm, bases := bs, mro := .ref C :: bmOf NE, ns := N, qualname := q, hasDict := true, slotNames := sn, subclasses := sub, abstract := ab, collection := col, hasDel := false }, ?_, rfl, rfl⟩
  unfold PySem.W.clsIn
  rw [hC] <;> rfl
theorem mro_of {cd : ClassData} {v : Value} {b : Bool} (h1 : PySem.W.clsIn K C = some cd) (h2 : cd.mro = .ref C :: bmOf NE) (h3 : (Value.ref C :: bmOf NE).contains v = b) : PySem.W.mroIn K C v = some b := by
  unfold PySem.W.mroIn
  rw [h1, Option.bind_some, h2, h3]
  rfl
theorem memT {v : Value} (hv : v ∈ Value.ref C :: bmOf NE) : (Value.ref C :: bmOf NE).contains v = true := List.contains_iff_mem.mpr hv
theorem ty_of (T : ClsTxt K nm C NE fI) : PySem.W.typeIn K (.ref C) = some (.type "type") := by
  obtain ⟨nm, q, N, bs, sn, sub, ab, col, dd, k0, k1, k2, k3, k5, hC⟩ := T.xL
  show (K.lookup C).map _ = _
  rw [hC] <;> rfl
theorem res_of {fs : List Str} (X : K.In h) (G : h.Ns mainGlobals mg) (S : ShT P K mg) (T : ClsTxt K nm C NE fI) (cell : ∃ a b d, K.lookup cc = some ⟨a, b, .cell (some (.ref C)), d⟩)
    (code : ∃ (a : Value) (b : Option Addr) (vs : Array Value) (d : Array (Option Value)) (file : Str) (tf : Tok), K.lookup cda = some ⟨a, b, .fields vs, d⟩ ∧ vs[2]? = some (.str file tf) ∧ ((P.main.file : Str) == file) = true)
    (no : ∀ f ∈ fs, PySem.W.findIn K (.ref C) f = some none) (mk : Cx0.EInit P K C cc cda → Cx0.MkE P w K mg C fs) : ClsRes P w K mg nm C NE fs := by
  obtain ⟨cd, h1, h2, h3⟩ := cd_of T
  have mB : PySem.W.subIn K (.ref C) (.type "BaseException") = some true := mro_of h1 h2 (memT (by simp))
  have O : L2.OexC K C := by
    obtain ⟨nm, q, N, bs, sn, sub, ab, col, dd, k0, k1, k2, k3, k5, hC⟩ := T.xL
    exact ⟨⟨nm, q, N, bs, _, sn, sub, ab, col, dd, k0, k1, k2, k3, k5, hC, (by show PySem.HandSPX.refsVE [.type "ValueError", .type "Exception", .type "BaseException", .type "object"] = true; decide +kernel)⟩, T.sa, mB, ty_of T, T.kC⟩
  have EI : Cx0.EInit P K C cc cda := ⟨O, cell, code, mro_of h1 h2 (memT (by simp)), T.su, mro_of h1 h2 (memT (by simp)), S.opq⟩
  exact ⟨PySem.W.mg_of X G T.aC, mk EI, ⟨T.ga, T.gg, mB, by unfold PySem.W.hasDictIn; rw [h1]; exact h3, T.ha, S.hn, S.ht, mro_of h1 h2 (memT (by simp))⟩, ⟨cd, h1, h2⟩, ty_of T, no⟩
end
end Cn
namespace Cn
open PySem PySem.Spec PyProof.Rows L2 Cx0
section
variable {P : Program} {w : World} {K : PySem.W.Frag} {mg : Str → Option Value} {h : Heap} {nm : Str} {C NE fI cc cda : Addr}
theorem cls0 {nm0 q0 : Str} {N : Addr} {bs : List Value} {sn : List Str} {sub : List Value} {ab : Bool} {col : Option Bool} {dd : Option Addr} {m0 m1 m2 m3 m5 : Option Value}
    {q : Str} {sf p0 p1 p2 p3 p4 p5 : Pos} {msg : Str} {kk : Nat} {oc kV doc pm ct : Value} {an od : Option Addr} {osl : Array (Option Value)}
    {a1 : Value} {b1 : Option Addr} {d1 : Array (Option Value)} {a2 : Value} {b2 : Option Addr} {vs2 : Array Value} {d2 : Array (Option Value)} {file : Str} {tf : Tok}
    (X : K.In h) (G : h.Ns mainGlobals mg) (S : ShT P K mg) (aC : PySem.W.nsIn K mainGlobals nm = some (some (.ref C)))
    (xL : K.lookup C = some (excClassObj nm0 q0 C N bs (bmOf NE) true sn sub ab col dd m0 m1 m2 m3 m5 "ValueError.__new__"))
    (sa : PySem.W.findIn K (.ref C) "__setattr__" = some (some (.builtin "object.__setattr__"))) (ga : PySem.W.findIn K (.ref C) "__getattribute__" = some (some (.builtin "BaseException.__getattribute__"))) (gg : PySem.W.findIn K (.ref C) "__getattr__" = some none)
    (ha : PySem.W.findIn K (.ref C) "__class__" = some (some (.builtin "object.__class__"))) (iC : PySem.W.findIn K (.ref C) "__init__" = some (some (.ref fI))) (tI : PySem.W.typeIn K (.ref fI) = some (.type "function")) (kC : PySem.W.keepIn K (.ref C) = true)
    (su : PySem.W.ks_superIn K C C "__init__" = some (some (.builtin "ValueError.__init__")))
    (hf : K.lookup fI = some ⟨oc, od, .func (PySem.W.ksFn "__init__" q (eArgs [("self", sf)]) [eSup msg kk p0 p1 p2 p3 p4 p5] (eScope ["self"]) .none kV doc pm an (.ref cda) ct cc), osl⟩)
    (hcd : PySem.W.codeIn K (.ref cda) q = true) (cell : K.lookup cc = some ⟨a1, b1, .cell (some (.ref C)), d1⟩)
    (code : K.lookup cda = some ⟨a2, b2, .fields vs2, d2⟩) (vf : vs2[2]? = some (.str file tf)) (fl : ((P.main.file : Str) == file) = true)
    (he : ∀ L, SupForm (PySem.W.ksEnv q (eScope ["self"]) L fI (.ref cda) cc) msg kk p0 p1 p2 p3 p4) : ClsRes P w K mg nm C NE [] :=
  res_of X G S ⟨aC, ⟨_, _, _, _, _, _, _, _, _, _, _, _, _, _, xL⟩, sa, ga, gg, ha, iC, tI, kC, su⟩ ⟨_, _, _, cell⟩ ⟨_, _, _, _, _, _, code, vf, fl⟩ (fun f z => by cases z) fun EI => mkE0 EI iC tI S.mS hf hcd S.htop he
theorem cls1 {f : Str} {sg q1 q2 q3 q4 : Pos} {nm0 q0 : Str} {N : Addr} {bs : List Value} {sn : List Str} {sub : List Value} {ab : Bool} {col : Option Bool} {dd : Option Addr} {m0 m1 m2 m3 m5 : Option Value}
    {q : Str} {sf p0 p1 p2 p3 p4 p5 : Pos} {msg : Str} {kk : Nat} {oc kV doc pm ct : Value} {an od : Option Addr} {osl : Array (Option Value)}
    {a1 : Value} {b1 : Option Addr} {d1 : Array (Option Value)} {a2 : Value} {b2 : Option Addr} {vs2 : Array Value} {d2 : Array (Option Value)} {file : Str} {tf : Tok}
    (X : K.In h) (G : h.Ns mainGlobals mg) (S : ShT P K mg) (aC : PySem.W.nsIn K mainGlobals nm = some (some (.ref C)))
    (xL : K.lookup C = some (excClassObj nm0 q0 C N bs (bmOf NE) true sn sub ab col dd m0 m1 m2 m3 m5 "ValueError.__new__"))
    (sa : PySem.W.findIn K (.ref C) "__setattr__" = some (some (.builtin "object.__setattr__"))) (ga : PySem.W.findIn K (.ref C) "__getattribute__" = some (some (.builtin "BaseException.__getattribute__"))) (gg : PySem.W.findIn K (.ref C) "__getattr__" = some none)
    (ha : PySem.W.findIn K (.ref C) "__class__" = some (some (.builtin "object.__class__"))) (iC : PySem.W.findIn K (.ref C) "__init__" = some (some (.ref fI))) (tI : PySem.W.typeIn K (.ref fI) = some (.type "function")) (kC : PySem.W.keepIn K (.ref C) = true)
    (su : PySem.W.ks_superIn K C C "__init__" = some (some (.builtin "ValueError.__init__")))
    (hf : K.lookup fI = some ⟨oc, od, .func (PySem.W.ksFn "__init__" q (eArgs [("self", sf), (f, sg)]) [eSup msg kk p0 p1 p2 p3 p4 p5, eSt f q1 q2 q3 q4] (eScope ["self", f]) .none kV doc pm an (.ref cda) ct cc), osl⟩)
    (hcd : PySem.W.codeIn K (.ref cda) q = true) (cell : K.lookup cc = some ⟨a1, b1, .cell (some (.ref C)), d1⟩)
    (code : K.lookup cda = some ⟨a2, b2, .fields vs2, d2⟩) (vf : vs2[2]? = some (.str file tf)) (fl : ((P.main.file : Str) == file) = true)
    (he : ∀ L, SupForm (PySem.W.ksEnv q (eScope ["self", f]) L fI (.ref cda) cc) msg kk p0 p1 p2 p3 p4) (no : PySem.W.findIn K (.ref C) f = some none)
    (hb : ∀ (x v : Value), bindArgs (PySem.W.ksFn "__init__" q (eArgs [("self", sf), (f, sg)]) [eSup msg kk p0 p1 p2 p3 p4 p5, eSt f q1 q2 q3 q4] (eScope ["self", f]) .none kV doc pm an (.ref cda) ct cc) ⟨[x, v], []⟩ = pure [(("self" : Str), x), (f, v)])
    (l1 : (eScope ["self", f]).names.lookup f = some .local) (l2 : (eScope ["self", f]).names.lookup ("super" : Str) = some .globalImplicit) (l3 : (eScope ["self", f]).names.lookup ("__class__" : Str) = some .free) (l4 : (f == ("__debug__" : Str)) = false) (l5 : (("self" : Str) == f) = false) : ClsRes P w K mg nm C NE [f] :=
  res_of X G S ⟨aC, ⟨_, _, _, _, _, _, _, _, _, _, _, _, _, _, xL⟩, sa, ga, gg, ha, iC, tI, kC, su⟩ ⟨_, _, _, cell⟩ ⟨_, _, _, _, _, _, code, vf, fl⟩ (fun g z => by rw [List.mem_singleton.mp z]; exact no) fun EI => mkE1 EI iC tI S.mS hf hcd S.htop he no hb l1 l2 l3 l4 l5
theorem cls2 {sg sh q1 q2 q3 q4 r1 r2 r3 r4 : Pos} {nm0 q0 : Str} {N : Addr} {bs : List Value} {sn : List Str} {sub : List Value} {ab : Bool} {col : Option Bool} {dd : Option Addr} {m0 m1 m2 m3 m5 : Option Value}
    {q : Str} {sf p0 p1 p2 p3 p4 p5 : Pos} {msg : Str} {kk : Nat} {oc kV doc pm ct : Value} {an od : Option Addr} {osl : Array (Option Value)}
    {a1 : Value} {b1 : Option Addr} {d1 : Array (Option Value)} {a2 : Value} {b2 : Option Addr} {vs2 : Array Value} {d2 : Array (Option Value)} {file : Str} {tf : Tok}
    (X : K.In h) (G : h.Ns mainGlobals mg) (S : ShT P K mg) (aC : PySem.W.nsIn K mainGlobals nm = some (some (.ref C)))
    (xL : K.lookup C = some (excClassObj nm0 q0 C N bs (bmOf NE) true sn sub ab col dd m0 m1 m2 m3 m5 "ValueError.__new__"))
    (sa : PySem.W.findIn K (.ref C) "__setattr__" = some (some (.builtin "object.__setattr__"))) (ga : PySem.W.findIn K (.ref C) "__getattribute__" = some (some (.builtin "BaseException.__getattribute__"))) (gg : PySem.W.findIn K (.ref C) "__getattr__" = some none)
    (ha : PySem.W.findIn K (.ref C) "__class__" = some (some (.builtin "object.__class__"))) (iC : PySem.W.findIn K (.ref C) "__init__" = some (some (.ref fI))) (tI : PySem.W.typeIn K (.ref fI) = some (.type "function")) (kC : PySem.W.keepIn K (.ref C) = true)
    (su : PySem.W.ks_superIn K C C "__init__" = some (some (.builtin "ValueError.__init__")))
    (hf : K.lookup fI = some ⟨oc, od, .func (PySem.W.ksFn "__init__" q (eArgs [("self", sf), ("part", sg), ("at", sh)]) [eSup msg kk p0 p1 p2 p3 p4 p5, eSt "part" q1 q2 q3 q4, eSt "at" r1 r2 r3 r4] (eScope ["self", "part", "at"]) .none kV doc pm an (.ref cda) ct cc), osl⟩)
    (hcd : PySem.W.codeIn K (.ref cda) q = true) (cell : K.lookup cc = some ⟨a1, b1, .cell (some (.ref C)), d1⟩)
    (code : K.lookup cda = some ⟨a2, b2, .fields vs2, d2⟩) (vf : vs2[2]? = some (.str file tf)) (fl : ((P.main.file : Str) == file) = true)
    (he : ∀ L, SupForm (PySem.W.ksEnv q (eScope ["self", "part", "at"]) L fI (.ref cda) cc) msg kk p0 p1 p2 p3 p4) (no : PySem.W.findIn K (.ref C) "part" = some none) (no2 : PySem.W.findIn K (.ref C) "at" = some none) : ClsRes P w K mg nm C NE ["part", "at"] :=
  res_of X G S ⟨aC, ⟨_, _, _, _, _, _, _, _, _, _, _, _, _, _, xL⟩, sa, ga, gg, ha, iC, tI, kC, su⟩ ⟨_, _, _, cell⟩ ⟨_, _, _, _, _, _, code, vf, fl⟩ (fun g z => by
    rcases List.mem_cons.mp z with e | z
    · rw [e]; exact no
    · rw [List.mem_singleton.mp z]; exact no2) fun EI => mkE2 EI iC tI S.mS hf hcd S.htop he no no2
/-! of two classes -/
theorem valNe {a b : Addr} (h : a ≠ b) : (Value.ref a == Value.ref b) = false := by
  rw [beq_eq_false_iff_ne]
  intro z
  cases z
  exact h rfl
theorem kitSelf {a : Addr} : PySem.W.kitOne K (.ref a) (.ref a) = some true := by
  unfold PySem.W.kitOne
  rw [if_pos (beq_self_eq_true _)]
theorem isCls {cd : ClassData} (h : PySem.W.clsIn K C = some cd) (t : PySem.W.typeIn K (.ref C) = some (.type "type")) : ((PySem.W.clsIn K C).isSome && PySem.W.typeIn K (.ref C) == some (.type "type")) = true := by
  rw [h, t] <;> rfl
theorem kitRef {a b : Addr} {d : Bool} (ne : a ≠ b) (t : ((PySem.W.clsIn K b).isSome && PySem.W.typeIn K (.ref b) == some (.type "type")) = true) (m : PySem.W.mroIn K a (.ref b) = some d) : PySem.W.kitOne K (.ref a) (.ref b) = some d := by
  unfold PySem.W.kitOne
  rw [if_neg (by rw [valNe ne]; exact Bool.false_ne_true)]
  show (if _ then _ else _) = _
  rw [if_pos t]
  exact m
theorem mroNo {a b NE : Addr} (h1 : b ≠ a) (h2 : b ≠ NE) : (Value.ref a :: bmOf NE).contains (Value.ref b) = false := by
  rw [Bool.eq_false_iff]
  intro z
  have z := List.contains_iff_mem.mp z
  rcases List.mem_cons.mp z with e | z
  · cases e; exact h1 rfl
  rcases List.mem_cons.mp z with e | z
  · cases e; exact h2 rfl
  · simp at z
theorem kitTy {a NE : Addr} {cd : ClassData} (h1 : PySem.W.clsIn K a = some cd) (h2 : cd.mro = .ref a :: bmOf NE) : PySem.W.kitOne K (.ref a) (.type "ValueError") = some true := by
  unfold PySem.W.kitOne
  have nb : (Value.ref a == Value.type "ValueError") = false := by
    rw [beq_eq_false_iff_ne]
    intro z
    cases z
  rw [if_neg (by rw [nb]; exact Bool.false_ne_true)]
  unfold PySem.W.kitCls
  have km : PySem.W.kitMeta "ValueError" = true := by decide +kernel
  dsimp only
  rw [if_pos km]
  exact mro_of h1 h2 (memT (by simp))
theorem forall27 {p : Nat → Prop} (h0 : p 0) (h1 : p 1) (h2 : p 2) (h3 : p 3) (h4 : p 4) (h5 : p 5) (h6 : p 6) (h7 : p 7) (h8 : p 8) (h9 : p 9) (h10 : p 10) (h11 : p 11) (h12 : p 12) (h13 : p 13) (h14 : p 14) (h15 : p 15) (h16 : p 16) (h17 : p 17) (h18 : p 18) (h19 : p 19) (h20 : p 20) (h21 : p 21) (h22 : p 22) (h23 : p 23) (h24 : p 24) (h25 : p 25) (h26 : p 26) : ∀ j, j < 27 → p j := fun j hj => match j, hj with
  | 0, _ => h0
  | 1, _ => h1
  | 2, _ => h2
  | 3, _ => h3
  | 4, _ => h4
  | 5, _ => h5
  | 6, _ => h6
  | 7, _ => h7
  | 8, _ => h8
  | 9, _ => h9
  | 10, _ => h10
  | 11, _ => h11
  | 12, _ => h12
  | 13, _ => h13
  | 14, _ => h14
  | 15, _ => h15
  | 16, _ => h16
  | 17, _ => h17
  | 18, _ => h18
  | 19, _ => h19
  | 20, _ => h20
  | 21, _ => h21
  | 22, _ => h22
  | 23, _ => h23
  | 24, _ => h24
  | 25, _ => h25
  | 26, _ => h26
  | n + 27, z => absurd z (by omega)
/-- all the error classes -/
theorem errT_of {c : List Addr} (nd : ∀ i j, i < 27 → j < 27 → c.getD i 0 = c.getD j 0 → i = j) (ne : ∀ i, i < 27 → c.getD i 0 ≠ NE) (e : ∀ j, j < 27 → ClsRes P w K mg (eN j) (c.getD j 0) NE (eF j)) (gNE : mg "NoteError" = some (.ref NE)) (iNE : PySem.W.isClsIn K NE = true) (tNE : PySem.W.typeIn K (.ref NE) = some (.type "type")) (sNE : PySem.W.subIn K (.ref NE) (.type "BaseException") = some true)
    (n3 : ∀ i f, (i = 7 ∨ i = 14 ∨ i = 26) → (f = ("most" : Str) ∨ f = ("place" : Str) ∨ f = ("line" : Str)) → PySem.W.findIn K (.ref (c.getD i 0)) f = some none) : ErrT P w K mg (fun j => c.getD j 0) NE := by
  have tE : ((PySem.W.clsIn K NE).isSome && PySem.W.typeIn K (.ref NE) == some (.type "type")) = true := by
    have i2 : (PySem.W.clsIn K NE).isSome = true := iNE
    rw [i2, tNE] <;> rfl
  have kE : ∀ i, i < 27 → PySem.W.mroIn K (c.getD i 0) (.ref NE) = some true := fun i hi => by
    obtain ⟨cd, h1, h2⟩ := (e i hi).cd
    exact mro_of h1 h2 (memT (by simp))
  refine ⟨fun j hj => (e j hj).g, fun j hj => (e j hj).mkE, fun j hj => (e j hj).ex, fun i j hi hj => ?_, fun i hi => kitRef (ne i hi) tE (kE i hi), fun i hi => ?_, gNE, fun j f hj hf => (e j hj).no f hf, n3, fun i hi => ?_⟩
  · by_cases h : i = j
    · subst h
      rw [decide_eq_true rfl]
      exact kitSelf
    · rw [decide_eq_false h]
      have n : c.getD i 0 ≠ c.getD j 0 := fun z => h (nd i j hi hj z)
      obtain ⟨cj, j1, j2⟩ := (e j hj).cd
      obtain ⟨cd, h1, h2⟩ := (e i hi).cd
      exact kitRef n (isCls j1 (e j hj).ty) (mro_of h1 h2 (mroNo n.symm (ne j hj)))
  · obtain ⟨cd, h1, h2⟩ := (e i hi).cd
    exact kitTy h1 h2
  · unfold PySem.W.exmOne
    have hb : (PySem.W.subIn K (.ref NE) (.type "BaseException") == some true) = true := by rw [sNE] <;> rfl
    rw [if_pos hb]
    show (if _ then _ else _) = _
    rw [if_pos tE]
    exact kE i hi
theorem n3_of {c : List Addr}
    (n7m : PySem.W.findIn K (.ref (c.getD 7 0)) "most" = some none) (n7p : PySem.W.findIn K (.ref (c.getD 7 0)) "place" = some none) (n7l : PySem.W.findIn K (.ref (c.getD 7 0)) "line" = some none) (n14m : PySem.W.findIn K (.ref (c.getD 14 0)) "most" = some none) (n14p : PySem.W.findIn K (.ref (c.getD 14 0)) "place" = some none) (n14l : PySem.W.findIn K (.ref (c.getD 14 0)) "line" = some none) (n26m : PySem.W.findIn K (.ref (c.getD 26 0)) "most" = some none) (n26p : PySem.W.findIn K (.ref (c.getD 26 0)) "place" = some none) (n26l : PySem.W.findIn K (.ref (c.getD 26 0)) "line" = some none) :
    ∀ i f, (i = 7 ∨ i = 14 ∨ i = 26) → (f = ("most" : Str) ∨ f = ("place" : Str) ∨ f = ("line" : Str)) → PySem.W.findIn K (.ref (c.getD i 0)) f = some none := by
  rintro i f (rfl | rfl | rfl) (rfl | rfl | rfl) <;> assumption
end
theorem withS {R : Prop} (P : Program) {K : PySem.W.Frag} {h : Heap} {mg : Str → Option Value} (X : K.In h) (G : h.Ns mainGlobals mg) (hn : PySem.W.specialIn K (.builtin "object.__class__") "__get__" = some (some (.builtin "getset_descriptor.__get__"))) (ht : PySem.W.takesIn K (.builtin "object.__class__") = some true)
    (opq : PySem.W.nsIn K cStatics "thirdparty.any" = some none) (zs : PySem.W.nsIn K mainGlobals "super" = some none) (htop : (P.main.scope.names.lookup ("super" : Str)).isSome = false) (k : ShT P K mg → R) : R := k ⟨hn, ht, opq, PySem.W.mg_none_of X G zs, htop⟩
/-- all the facts of the top, and the law's own promise -/
theorem all_mk {P : Program} {w : World} {K : PySem.W.Frag} {h : Heap} {mg : Str → Option Value} {fa NE : Addr} (X : K.In h) (G : h.Ns mainGlobals mg) (hfa : mg "law" = some (.ref fa))
    {c0 c1 c2 c3 c4 c5 c6 c7 c8 c9 c10 c11 c12 c13 c14 c15 c16 c17 c18 c19 c20 c21 c22 c23 c24 c25 c26 : Addr}
    {fH : Addr} {ocH kVH dcH pmH cdH ctH : Value} {odH anH : Option Addr} {slH : Array (Option Value)}
    {fD : Addr} {ocD kVD dcD pmD cdD ctD : Value} {odD anD : Option Addr} {slD : Array (Option Value)}
    {fI : Addr} {ocI kVI dcI pmI cdI ctI : Value} {odI anI : Option Addr} {slI : Array (Option Value)}
    {fDp : Addr} {ocDp kVDp dcDp pmDp cdDp ctDp : Value} {odDp anDp : Option Addr} {slDp : Array (Option Value)}
    {fS : Addr} {ocS kVS dcS pmS cdS ctS : Value} {odS anS : Option Addr} {slS : Array (Option Value)}
    {fF : Addr} {ocF kVF dcF pmF cdF ctF : Value} {odF anF : Option Addr} {slF : Array (Option Value)}
    {fL : Addr} {ocL kVL dcL pmL cdL ctL : Value} {odL anL : Option Addr} {slL : Array (Option Value)}
    {fE : Addr} {ocE kVE dcE pmE cdE ctE : Value} {odE anE : Option Addr} {slE : Array (Option Value)}
    {fC : Addr} {ocC kVC dcC pmC cdC ctC : Value} {odC anC : Option Addr} {slC : Array (Option Value)}
    {fW : Addr} {ocW kVW dcW pmW cdW ctW : Value} {odW anW : Option Addr} {slW : Array (Option Value)}
    (e0 : ClsRes P w K mg "BadForest" c0 NE ["part", "at"])
    (e1 : ClsRes P w K mg "NoPlace" c1 NE [])
    (e2 : ClsRes P w K mg "NoNumber" c2 NE [])
    (e3 : ClsRes P w K mg "NoNotes" c3 NE [])
    (e4 : ClsRes P w K mg "NoKeeper" c4 NE [])
    (e5 : ClsRes P w K mg "NoCuts" c5 NE [])
    (e6 : ClsRes P w K mg "NoPlan" c6 NE [])
    (e7 : ClsRes P w K mg "TooMany" c7 NE ["most"])
    (e8 : ClsRes P w K mg "NoBudgets" c8 NE [])
    (e9 : ClsRes P w K mg "NoRow" c9 NE [])
    (e10 : ClsRes P w K mg "NoPrices" c10 NE [])
    (e11 : ClsRes P w K mg "NoFloor" c11 NE [])
    (e12 : ClsRes P w K mg "NoNumbers" c12 NE [])
    (e13 : ClsRes P w K mg "NoTable" c13 NE [])
    (e14 : ClsRes P w K mg "NoAnswer" c14 NE ["place"])
    (e15 : ClsRes P w K mg "NoAmounts" c15 NE [])
    (e16 : ClsRes P w K mg "NoDeeds" c16 NE [])
    (e17 : ClsRes P w K mg "NoTurns" c17 NE [])
    (e18 : ClsRes P w K mg "NoChanges" c18 NE [])
    (e19 : ClsRes P w K mg "NoFlag" c19 NE [])
    (e20 : ClsRes P w K mg "NoForest" c20 NE [])
    (e21 : ClsRes P w K mg "NoMark" c21 NE [])
    (e22 : ClsRes P w K mg "Stopped" c22 NE [])
    (e23 : ClsRes P w K mg "NoVault" c23 NE [])
    (e24 : ClsRes P w K mg "NotRecovered" c24 NE [])
    (e25 : ClsRes P w K mg "NoHistory" c25 NE [])
    (e26 : ClsRes P w K mg "BadText" c26 NE ["line"])
    (aN : PySem.W.nsIn K mainGlobals "NoteError" = some (some (.ref NE))) (iN : PySem.W.isClsIn K NE = true) (tN : PySem.W.typeIn K (.ref NE) = some (.type "type")) (sN : PySem.W.subIn K (.ref NE) (.type "BaseException") = some true)
    (n7m : PySem.W.findIn K (.ref c7) "most" = some none) (n7p : PySem.W.findIn K (.ref c7) "place" = some none) (n7l : PySem.W.findIn K (.ref c7) "line" = some none) (n14m : PySem.W.findIn K (.ref c14) "most" = some none) (n14p : PySem.W.findIn K (.ref c14) "place" = some none) (n14l : PySem.W.findIn K (.ref c14) "line" = some none) (n26m : PySem.W.findIn K (.ref c26) "most" = some none) (n26p : PySem.W.findIn K (.ref c26) "place" = some none) (n26l : PySem.W.findIn K (.ref c26) "line" = some none)
    (nd : ∀ i, i < 27 → ∀ j, j < 27 → ([c0, c1, c2, c3, c4, c5, c6, c7, c8, c9, c10, c11, c12, c13, c14, c15, c16, c17, c18, c19, c20, c21, c22, c23, c24, c25, c26] : List Addr).getD i 0 = ([c0, c1, c2, c3, c4, c5, c6, c7, c8, c9, c10, c11, c12, c13, c14, c15, c16, c17, c18, c19, c20, c21, c22, c23, c24, c25, c26] : List Addr).getD j 0 → i = j) (ne : ∀ i, i < 27 → ([c0, c1, c2, c3, c4, c5, c6, c7, c8, c9, c10, c11, c12, c13, c14, c15, c16, c17, c18, c19, c20, c21, c22, c23, c24, c25, c26] : List Addr).getD i 0 ≠ NE)
    (aH : PySem.W.nsIn K mainGlobals "_law_hand" = some (some (.ref fH))) (lH : K.lookup fH = some ⟨ocH, odH, .func (PySem.W.fnOf "_law_hand" "_law_hand" (defArgs sHand) (defBody sHand) (defScope sHand) .none kVH dcH pmH anH cdH ctH), slH⟩) (oH : PySem.W.codeIn K cdH "_law_hand" = true) (kH : PySem.W.keepIn K (.ref fH) = true)
    (aD : PySem.W.nsIn K mainGlobals "_law_draw" = some (some (.ref fD))) (lD : K.lookup fD = some ⟨ocD, odD, .func (PySem.W.fnOf "_law_draw" "_law_draw" (defArgs sDraw) (defBody sDraw) (defScope sDraw) .none kVD dcD pmD anD cdD ctD), slD⟩) (oD : PySem.W.codeIn K cdD "_law_draw" = true) (kD : PySem.W.keepIn K (.ref fD) = true)
    (aI : PySem.W.nsIn K mainGlobals "_law_is" = some (some (.ref fI))) (lI : K.lookup fI = some ⟨ocI, odI, .func (PySem.W.fnOf "_law_is" "_law_is" (defArgs sIs) (defBody sIs) (defScope sIs) .none kVI dcI pmI anI cdI ctI), slI⟩) (oI : PySem.W.codeIn K cdI "_law_is" = true) (kI : PySem.W.keepIn K (.ref fI) = true)
    (aDp : PySem.W.nsIn K mainGlobals "_law_deep" = some (some (.ref fDp))) (lDp : K.lookup fDp = some ⟨ocDp, odDp, .func (PySem.W.fnOf "_law_deep" "_law_deep" (defArgs sDeep) (defBody sDeep) (defScope sDeep) .none kVDp dcDp pmDp anDp cdDp ctDp), slDp⟩) (oDp : PySem.W.codeIn K cdDp "_law_deep" = true) (kDp : PySem.W.keepIn K (.ref fDp) = true)
    (aS : PySem.W.nsIn K mainGlobals "_law_some" = some (some (.ref fS))) (lS : K.lookup fS = some ⟨ocS, odS, .func (PySem.W.fnOf "_law_some" "_law_some" (defArgs sSome) (defBody sSome) (defScope sSome) .none kVS dcS pmS anS cdS ctS), slS⟩) (oS : PySem.W.codeIn K cdS "_law_some" = true) (kS : PySem.W.keepIn K (.ref fS) = true)
    (aF : PySem.W.nsIn K mainGlobals "_law_first_flags" = some (some (.ref fF))) (lF : K.lookup fF = some ⟨ocF, odF, .func (PySem.W.fnOf "_law_first_flags" "_law_first_flags" (defArgs sFirst) (defBody sFirst) (defScope sFirst) .none kVF dcF pmF anF cdF ctF), slF⟩) (oF : PySem.W.codeIn K cdF "_law_first_flags" = true) (kF : PySem.W.keepIn K (.ref fF) = true)
    (aL : PySem.W.nsIn K mainGlobals "_law_last_flags" = some (some (.ref fL))) (lL : K.lookup fL = some ⟨ocL, odL, .func (PySem.W.fnOf "_law_last_flags" "_law_last_flags" (defArgs sLast) (defBody sLast) (defScope sLast) .none kVL dcL pmL anL cdL ctL), slL⟩) (oL : PySem.W.codeIn K cdL "_law_last_flags" = true) (kL : PySem.W.keepIn K (.ref fL) = true)
    (aE : PySem.W.nsIn K mainGlobals "_law_errors" = some (some (.ref fE))) (lE : K.lookup fE = some ⟨ocE, odE, .func (PySem.W.fnOf "_law_errors" "_law_errors" (defArgs sErrs) (defBody sErrs) (defScope sErrs) .none kVE dcE pmE anE cdE ctE), slE⟩) (oE : PySem.W.codeIn K cdE "_law_errors" = true) (kE : PySem.W.keepIn K (.ref fE) = true)
    (aC : PySem.W.nsIn K mainGlobals "_law_is_caught" = some (some (.ref fC))) (lC : K.lookup fC = some ⟨ocC, odC, .func (PySem.W.fnOf "_law_is_caught" "_law_is_caught" (defArgs sCaught) (defBody sCaught) (defScope sCaught) .none kVC dcC pmC anC cdC ctC), slC⟩) (oC : PySem.W.codeIn K cdC "_law_is_caught" = true) (kC : PySem.W.keepIn K (.ref fC) = true)
    (aW : PySem.W.nsIn K mainGlobals "law" = some (some (.ref fW))) (lW : K.lookup fW = some ⟨ocW, odW, .func (PySem.W.fnOf "law" "law" (defArgs sLaw) (defBody sLaw) (defScope sLaw) .none kVW dcW pmW anW cdW ctW), slW⟩) (oW : PySem.W.codeIn K cdW "law" = true) (kW : PySem.W.keepIn K (.ref fW) = true)
    (zabs : PySem.W.nsIn K mainGlobals "abs" = some none) (zint : PySem.W.nsIn K mainGlobals "int" = some none) (zrange : PySem.W.nsIn K mainGlobals "range" = some none) (zenumerate : PySem.W.nsIn K mainGlobals "enumerate" = some none) (zValueError : PySem.W.nsIn K mainGlobals "ValueError" = some none) (zisinstance : PySem.W.nsIn K mainGlobals "isinstance" = some none) (ztuple : PySem.W.nsIn K mainGlobals "tuple" = some none) (zlist : PySem.W.nsIn K mainGlobals "list" = some none) (zbool : PySem.W.nsIn K mainGlobals "bool" = some none) (zlen : PySem.W.nsIn K mainGlobals "len" = some none) (zall : PySem.W.nsIn K mainGlobals "all" = some none) (zzip : PySem.W.nsIn K mainGlobals "zip" = some none)
    : ∃ fd : FuncData, (∀ (s : Shared) (v : Value), BindsTo s fd ⟨[v], []⟩ [("_law_script", v)]) ∧ ∀ base : Heap, K.In base → base.Ns mainGlobals mg → FnOk P w K mg base CX0 37 fa fd ["_law_script"] (spLaw K) := by
  have e := hfa.symm.trans (PySem.W.mg_of X G aW)
  cases e
  have E : ErrT P w K mg (fun j => ([c0, c1, c2, c3, c4, c5, c6, c7, c8, c9, c10, c11, c12, c13, c14, c15, c16, c17, c18, c19, c20, c21, c22, c23, c24, c25, c26] : List Addr).getD j 0) NE := errT_of (fun i j hi hj => nd i hi j hj) ne (forall27 e0 e1 e2 e3 e4 e5 e6 e7 e8 e9 e10 e11 e12 e13 e14 e15 e16 e17 e18 e19 e20 e21 e22 e23 e24 e25 e26) (PySem.W.mg_of X G aN) iN tN sN (n3_of n7m n7p n7l n14m n14p n14l n26m n26p n26l)
  have IT : IsTxt mg := ⟨PySem.W.mg_none_of X G zisinstance, PySem.W.mg_none_of X G ztuple, PySem.W.mg_none_of X G zlist, PySem.W.mg_none_of X G zbool, PySem.W.mg_none_of X G zlen, PySem.W.mg_none_of X G zall, PySem.W.mg_none_of X G zzip⟩
  have NT : NamTxt mg := ⟨PySem.W.mg_none_of X G zint, PySem.W.mg_none_of X G zabs, PySem.W.mg_none_of X G zrange, PySem.W.mg_none_of X G zenumerate, PySem.W.mg_none_of X G zValueError⟩
  have FH := fun_mk (st := sHand) lH oH kH
  have DH : DefAt K mg "_law_hand" sHand ["_law_script"] _ _ := ⟨FH, FH.binds (ps := ["_law_script"]) fun _ _ _ _ _ _ us hl => match us, hl with | [_], _ => rfl, PySem.W.mg_of X G aH⟩
  have FD := fun_mk (st := sDraw) lD oD kD
  have DD : DefAt K mg "_law_draw" sDraw ["_law_hand_here", "_law_many"] _ _ := ⟨FD, FD.binds (ps := ["_law_hand_here", "_law_many"]) fun _ _ _ _ _ _ us hl => match us, hl with | [_, _], _ => rfl, PySem.W.mg_of X G aD⟩
  have FI := fun_mk (st := sIs) lI oI kI
  have DI : DefAt K mg "_law_is" sIs ["_law_told", "_law_due"] _ _ := ⟨FI, FI.binds (ps := ["_law_told", "_law_due"]) fun _ _ _ _ _ _ us hl => match us, hl with | [_, _], _ => rfl, PySem.W.mg_of X G aI⟩
  have FDp := fun_mk (st := sDeep) lDp oDp kDp
  have DDp : DefAt K mg "_law_deep" sDeep ["_law_hand_here"] _ _ := ⟨FDp, FDp.binds (ps := ["_law_hand_here"]) fun _ _ _ _ _ _ us hl => match us, hl with | [_], _ => rfl, PySem.W.mg_of X G aDp⟩
  have FS := fun_mk (st := sSome) lS oS kS
  have DS : DefAt K mg "_law_some" sSome ["_law_hand_here", "_law_things"] _ _ := ⟨FS, FS.binds (ps := ["_law_hand_here", "_law_things"]) fun _ _ _ _ _ _ us hl => match us, hl with | [_, _], _ => rfl, PySem.W.mg_of X G aS⟩
  have FF := fun_mk (st := sFirst) lF oF kF
  have DF : DefAt K mg "_law_first_flags" sFirst ["_law_error"] _ _ := ⟨FF, FF.binds (ps := ["_law_error"]) fun _ _ _ _ _ _ us hl => match us, hl with | [_], _ => rfl, PySem.W.mg_of X G aF⟩
  have FL := fun_mk (st := sLast) lL oL kL
  have DL : DefAt K mg "_law_last_flags" sLast ["_law_error"] _ _ := ⟨FL, FL.binds (ps := ["_law_error"]) fun _ _ _ _ _ _ us hl => match us, hl with | [_], _ => rfl, PySem.W.mg_of X G aL⟩
  have FE := fun_mk (st := sErrs) lE oE kE
  have DE : DefAt K mg "_law_errors" sErrs ["_law_one", "_law_other"] _ _ := ⟨FE, FE.binds (ps := ["_law_one", "_law_other"]) fun _ _ _ _ _ _ us hl => match us, hl with | [_, _], _ => rfl, PySem.W.mg_of X G aE⟩
  have FC := fun_mk (st := sCaught) lC oC kC
  have DC : DefAt K mg "_law_is_caught" sCaught ["_law_hand_here", "_law_thing"] _ _ := ⟨FC, FC.binds (ps := ["_law_hand_here", "_law_thing"]) fun _ _ _ _ _ _ us hl => match us, hl with | [_, _], _ => rfl, PySem.W.mg_of X G aC⟩
  have FW := fun_mk (st := sLaw) lW oW kW
  exact ⟨PySem.W.fnOf "law" "law" (defArgs sLaw) (defBody sLaw) (defScope sLaw) .none kVW dcW pmW anW cdW ctW, fun s v => .of_eq rfl, fun base _ _ => ok_law FW E IT NT DH DD DDp DS DE DF DL DI DC⟩
theorem walk {l : PySem.W.OpenLaw} {q : Program} {loose : List Str} {XP : (Str → Option Value) → Heap → Prop} {YP : World → Heap → Prop} {d : DefRec} {K : Params → PySem.W.Frag} (hn : l.most = some 63) (hdf : d.params.defaults = [])
    (hY : ∀ (w : World) (h : Heap), YP w h → (K w.params).In h)
    (F : ∀ (w : World) (mg : Str → Option Value) (fa : Addr) (h : Heap), (K w.params).In h → h.Ns mainGlobals mg → mg d.name = some (.ref fa) →
      ∃ fd : FuncData, (∀ (s : Shared) (u : Value), BindsTo s fd ⟨[u], []⟩ [("_law_script", u)]) ∧ ∀ base : Heap, (K w.params).In base → base.Ns mainGlobals mg → FnOk l.prog w (K w.params) mg base CX0 37 fa fd ["_law_script"] (spLaw (K w.params))) :
    PySem.W.WalkO q loose XP YP l.row.toRowW d [] (fun f vs => PySem.call f vs) :=
  L2.walk_of (n := 63) (k := 37) (x := "_law_script") (CX := fun _ => CX0) (sp := fun w => spLaw (K w.params)) hn (by decide) hdf ⟨rfl, by decide, by decide⟩ hY F (fun _ _ a ns hl _ hS => ⟨a, ns, rfl, hS, hl, fun _ => rfl⟩) fun _ _ _ _ _ z => z
end Cn
open PySem PySem.W PyProof.Rows
set_option maxRecDepth 100000 in
set_option maxHeartbeats 0 in
theorem PySem.Challenge.cw_cutnotes_k00_errors_and_their_fields_holds : PySem.Challenge.rw_cutnotes_k00_errors_and_their_fields.Holds := by
  w_on; o_law; k_head; (case hw => w_witness2)
  k_fill
  refine Cn.walk (l := PySem.Challenge.rw_cutnotes_k00_errors_and_their_fields) rfl rfl (fun w h Y => PySem.W.kIn_of Y) ?F
  case F =>
    intro w mg fa h KX G hmg
    refine' Cn.withS PySem.Challenge.rw_cutnotes_k00_errors_and_their_fields.prog KX G ?hn ?ht ?opq ?zsuper ?htop ?_
    (case hn => k_is); (case ht => k_is); (case opq => k_is); (case zsuper => k_is); (case htop => first | rfl | decide +kernel)
    intro S
    refine' Cn.all_mk KX G hmg ?e0 ?e1 ?e2 ?e3 ?e4 ?e5 ?e6 ?e7 ?e8 ?e9 ?e10 ?e11 ?e12 ?e13 ?e14 ?e15 ?e16 ?e17 ?e18 ?e19 ?e20 ?e21 ?e22 ?e23 ?e24 ?e25 ?e26 ?aN ?iN ?tN ?sN ?n7m ?n7p ?n7l ?n14m ?n14p ?n14l ?n26m ?n26p ?n26l ?nd ?ne ?aH ?lH ?oH ?kH ?aD ?lD ?oD ?kD ?aI ?lI ?oI ?kI ?aDp ?lDp ?oDp ?kDp ?aS ?lS ?oS ?kS ?aF ?lF ?oF ?kF ?aL ?lL ?oL ?kL ?aE ?lE ?oE ?kE ?aC ?lC ?oC ?kC ?aW ?lW ?oW ?kW ?zabs ?zint ?zrange ?zenumerate ?zValueError ?zisinstance ?ztuple ?zlist ?zbool ?zlen ?zall ?zzip
    (case e0 => refine' Cn.cls2 KX G S ?aC_0 ?xL_0 ?sa_0 ?ga_0 ?gg_0 ?ha_0 ?iC_0 ?tI_0 ?kC_0 ?su_0 ?hf_0 ?hcd_0 ?cell_0 ?code_0 ?vf_0 ?fl_0 ?he_0 ?no_0 ?no2_0; (case aC_0 => k_is); (case xL_0 => k_is); (case sa_0 => k_is); (case ga_0 => k_is); (case gg_0 => k_is); (case ha_0 => k_is); (case iC_0 => k_is); (case tI_0 => k_is); (case kC_0 => k_is); (case su_0 => ks_is); (case hf_0 => k_is); (case hcd_0 => k_is); (case cell_0 => k_is); (case code_0 => k_is); (case vf_0 => rfl); (case fl_0 => first | rfl | decide +kernel); (case he_0 => exact fun L => ⟨_, rfl⟩); (case no_0 => k_is); (case no2_0 => k_is))
    (case e1 => refine' Cn.cls0 KX G S ?aC_1 ?xL_1 ?sa_1 ?ga_1 ?gg_1 ?ha_1 ?iC_1 ?tI_1 ?kC_1 ?su_1 ?hf_1 ?hcd_1 ?cell_1 ?code_1 ?vf_1 ?fl_1 ?he_1; (case aC_1 => k_is); (case xL_1 => k_is); (case sa_1 => k_is); (case ga_1 => k_is); (case gg_1 => k_is); (case ha_1 => k_is); (case iC_1 => k_is); (case tI_1 => k_is); (case kC_1 => k_is); (case su_1 => ks_is); (case hf_1 => k_is); (case hcd_1 => k_is); (case cell_1 => k_is); (case code_1 => k_is); (case vf_1 => rfl); (case fl_1 => first | rfl | decide +kernel); (case he_1 => exact fun L => ⟨_, rfl⟩))
    (case e2 => refine' Cn.cls0 KX G S ?aC_2 ?xL_2 ?sa_2 ?ga_2 ?gg_2 ?ha_2 ?iC_2 ?tI_2 ?kC_2 ?su_2 ?hf_2 ?hcd_2 ?cell_2 ?code_2 ?vf_2 ?fl_2 ?he_2; (case aC_2 => k_is); (case xL_2 => k_is); (case sa_2 => k_is); (case ga_2 => k_is); (case gg_2 => k_is); (case ha_2 => k_is); (case iC_2 => k_is); (case tI_2 => k_is); (case kC_2 => k_is); (case su_2 => ks_is); (case hf_2 => k_is); (case hcd_2 => k_is); (case cell_2 => k_is); (case code_2 => k_is); (case vf_2 => rfl); (case fl_2 => first | rfl | decide +kernel); (case he_2 => exact fun L => ⟨_, rfl⟩))
    (case e3 => refine' Cn.cls0 KX G S ?aC_3 ?xL_3 ?sa_3 ?ga_3 ?gg_3 ?ha_3 ?iC_3 ?tI_3 ?kC_3 ?su_3 ?hf_3 ?hcd_3 ?cell_3 ?code_3 ?vf_3 ?fl_3 ?he_3; (case aC_3 => k_is); (case xL_3 => k_is); (case sa_3 => k_is); (case ga_3 => k_is); (case gg_3 => k_is); (case ha_3 => k_is); (case iC_3 => k_is); (case tI_3 => k_is); (case kC_3 => k_is); (case su_3 => ks_is); (case hf_3 => k_is); (case hcd_3 => k_is); (case cell_3 => k_is); (case code_3 => k_is); (case vf_3 => rfl); (case fl_3 => first | rfl | decide +kernel); (case he_3 => exact fun L => ⟨_, rfl⟩))
    (case e4 => refine' Cn.cls0 KX G S ?aC_4 ?xL_4 ?sa_4 ?ga_4 ?gg_4 ?ha_4 ?iC_4 ?tI_4 ?kC_4 ?su_4 ?hf_4 ?hcd_4 ?cell_4 ?code_4 ?vf_4 ?fl_4 ?he_4; (case aC_4 => k_is); (case xL_4 => k_is); (case sa_4 => k_is); (case ga_4 => k_is); (case gg_4 => k_is); (case ha_4 => k_is); (case iC_4 => k_is); (case tI_4 => k_is); (case kC_4 => k_is); (case su_4 => ks_is); (case hf_4 => k_is); (case hcd_4 => k_is); (case cell_4 => k_is); (case code_4 => k_is); (case vf_4 => rfl); (case fl_4 => first | rfl | decide +kernel); (case he_4 => exact fun L => ⟨_, rfl⟩))
    (case e5 => refine' Cn.cls0 KX G S ?aC_5 ?xL_5 ?sa_5 ?ga_5 ?gg_5 ?ha_5 ?iC_5 ?tI_5 ?kC_5 ?su_5 ?hf_5 ?hcd_5 ?cell_5 ?code_5 ?vf_5 ?fl_5 ?he_5; (case aC_5 => k_is); (case xL_5 => k_is); (case sa_5 => k_is); (case ga_5 => k_is); (case gg_5 => k_is); (case ha_5 => k_is); (case iC_5 => k_is); (case tI_5 => k_is); (case kC_5 => k_is); (case su_5 => ks_is); (case hf_5 => k_is); (case hcd_5 => k_is); (case cell_5 => k_is); (case code_5 => k_is); (case vf_5 => rfl); (case fl_5 => first | rfl | decide +kernel); (case he_5 => exact fun L => ⟨_, rfl⟩))
    (case e6 => refine' Cn.cls0 KX G S ?aC_6 ?xL_6 ?sa_6 ?ga_6 ?gg_6 ?ha_6 ?iC_6 ?tI_6 ?kC_6 ?su_6 ?hf_6 ?hcd_6 ?cell_6 ?code_6 ?vf_6 ?fl_6 ?he_6; (case aC_6 => k_is); (case xL_6 => k_is); (case sa_6 => k_is); (case ga_6 => k_is); (case gg_6 => k_is); (case ha_6 => k_is); (case iC_6 => k_is); (case tI_6 => k_is); (case kC_6 => k_is); (case su_6 => ks_is); (case hf_6 => k_is); (case hcd_6 => k_is); (case cell_6 => k_is); (case code_6 => k_is); (case vf_6 => rfl); (case fl_6 => first | rfl | decide +kernel); (case he_6 => exact fun L => ⟨_, rfl⟩))
    (case e7 => refine' Cn.cls1 KX G S ?aC_7 ?xL_7 ?sa_7 ?ga_7 ?gg_7 ?ha_7 ?iC_7 ?tI_7 ?kC_7 ?su_7 ?hf_7 ?hcd_7 ?cell_7 ?code_7 ?vf_7 ?fl_7 ?he_7 ?no_7 ?hb_7 rfl rfl rfl (by decide) (by decide); (case aC_7 => k_is); (case xL_7 => k_is); (case sa_7 => k_is); (case ga_7 => k_is); (case gg_7 => k_is); (case ha_7 => k_is); (case iC_7 => k_is); (case tI_7 => k_is); (case kC_7 => k_is); (case su_7 => ks_is); (case hf_7 => k_is); (case hcd_7 => k_is); (case cell_7 => k_is); (case code_7 => k_is); (case vf_7 => rfl); (case fl_7 => first | rfl | decide +kernel); (case he_7 => exact fun L => ⟨_, rfl⟩); (case no_7 => k_is); (case hb_7 => intro _ _; first | rfl | with_unfolding_all rfl))
    (case e8 => refine' Cn.cls0 KX G S ?aC_8 ?xL_8 ?sa_8 ?ga_8 ?gg_8 ?ha_8 ?iC_8 ?tI_8 ?kC_8 ?su_8 ?hf_8 ?hcd_8 ?cell_8 ?code_8 ?vf_8 ?fl_8 ?he_8; (case aC_8 => k_is); (case xL_8 => k_is); (case sa_8 => k_is); (case ga_8 => k_is); (case gg_8 => k_is); (case ha_8 => k_is); (case iC_8 => k_is); (case tI_8 => k_is); (case kC_8 => k_is); (case su_8 => ks_is); (case hf_8 => k_is); (case hcd_8 => k_is); (case cell_8 => k_is); (case code_8 => k_is); (case vf_8 => rfl); (case fl_8 => first | rfl | decide +kernel); (case he_8 => exact fun L => ⟨_, rfl⟩))
    (case e9 => refine' Cn.cls0 KX G S ?aC_9 ?xL_9 ?sa_9 ?ga_9 ?gg_9 ?ha_9 ?iC_9 ?tI_9 ?kC_9 ?su_9 ?hf_9 ?hcd_9 ?cell_9 ?code_9 ?vf_9 ?fl_9 ?he_9; (case aC_9 => k_is); (case xL_9 => k_is); (case sa_9 => k_is); (case ga_9 => k_is); (case gg_9 => k_is); (case ha_9 => k_is); (case iC_9 => k_is); (case tI_9 => k_is); (case kC_9 => k_is); (case su_9 => ks_is); (case hf_9 => k_is); (case hcd_9 => k_is); (case cell_9 => k_is); (case code_9 => k_is); (case vf_9 => rfl); (case fl_9 => first | rfl | decide +kernel); (case he_9 => exact fun L => ⟨_, rfl⟩))
    (case e10 => refine' Cn.cls0 KX G S ?aC_10 ?xL_10 ?sa_10 ?ga_10 ?gg_10 ?ha_10 ?iC_10 ?tI_10 ?kC_10 ?su_10 ?hf_10 ?hcd_10 ?cell_10 ?code_10 ?vf_10 ?fl_10 ?he_10; (case aC_10 => k_is); (case xL_10 => k_is); (case sa_10 => k_is); (case ga_10 => k_is); (case gg_10 => k_is); (case ha_10 => k_is); (case iC_10 => k_is); (case tI_10 => k_is); (case kC_10 => k_is); (case su_10 => ks_is); (case hf_10 => k_is); (case hcd_10 => k_is); (case cell_10 => k_is); (case code_10 => k_is); (case vf_10 => rfl); (case fl_10 => first | rfl | decide +kernel); (case he_10 => exact fun L => ⟨_, rfl⟩))
    (case e11 => refine' Cn.cls0 KX G S ?aC_11 ?xL_11 ?sa_11 ?ga_11 ?gg_11 ?ha_11 ?iC_11 ?tI_11 ?kC_11 ?su_11 ?hf_11 ?hcd_11 ?cell_11 ?code_11 ?vf_11 ?fl_11 ?he_11; (case aC_11 => k_is); (case xL_11 => k_is); (case sa_11 => k_is); (case ga_11 => k_is); (case gg_11 => k_is); (case ha_11 => k_is); (case iC_11 => k_is); (case tI_11 => k_is); (case kC_11 => k_is); (case su_11 => ks_is); (case hf_11 => k_is); (case hcd_11 => k_is); (case cell_11 => k_is); (case code_11 => k_is); (case vf_11 => rfl); (case fl_11 => first | rfl | decide +kernel); (case he_11 => exact fun L => ⟨_, rfl⟩))
    (case e12 => refine' Cn.cls0 KX G S ?aC_12 ?xL_12 ?sa_12 ?ga_12 ?gg_12 ?ha_12 ?iC_12 ?tI_12 ?kC_12 ?su_12 ?hf_12 ?hcd_12 ?cell_12 ?code_12 ?vf_12 ?fl_12 ?he_12; (case aC_12 => k_is); (case xL_12 => k_is); (case sa_12 => k_is); (case ga_12 => k_is); (case gg_12 => k_is); (case ha_12 => k_is); (case iC_12 => k_is); (case tI_12 => k_is); (case kC_12 => k_is); (case su_12 => ks_is); (case hf_12 => k_is); (case hcd_12 => k_is); (case cell_12 => k_is); (case code_12 => k_is); (case vf_12 => rfl); (case fl_12 => first | rfl | decide +kernel); (case he_12 => exact fun L => ⟨_, rfl⟩))
    (case e13 => refine' Cn.cls0 KX G S ?aC_13 ?xL_13 ?sa_13 ?ga_13 ?gg_13 ?ha_13 ?iC_13 ?tI_13 ?kC_13 ?su_13 ?hf_13 ?hcd_13 ?cell_13 ?code_13 ?vf_13 ?fl_13 ?he_13; (case aC_13 => k_is); (case xL_13 => k_is); (case sa_13 => k_is); (case ga_13 => k_is); (case gg_13 => k_is); (case ha_13 => k_is); (case iC_13 => k_is); (case tI_13 => k_is); (case kC_13 => k_is); (case su_13 => ks_is); (case hf_13 => k_is); (case hcd_13 => k_is); (case cell_13 => k_is); (case code_13 => k_is); (case vf_13 => rfl); (case fl_13 => first | rfl | decide +kernel); (case he_13 => exact fun L => ⟨_, rfl⟩))
    (case e14 => refine' Cn.cls1 KX G S ?aC_14 ?xL_14 ?sa_14 ?ga_14 ?gg_14 ?ha_14 ?iC_14 ?tI_14 ?kC_14 ?su_14 ?hf_14 ?hcd_14 ?cell_14 ?code_14 ?vf_14 ?fl_14 ?he_14 ?no_14 ?hb_14 rfl rfl rfl (by decide) (by decide); (case aC_14 => k_is); (case xL_14 => k_is); (case sa_14 => k_is); (case ga_14 => k_is); (case gg_14 => k_is); (case ha_14 => k_is); (case iC_14 => k_is); (case tI_14 => k_is); (case kC_14 => k_is); (case su_14 => ks_is); (case hf_14 => k_is); (case hcd_14 => k_is); (case cell_14 => k_is); (case code_14 => k_is); (case vf_14 => rfl); (case fl_14 => first | rfl | decide +kernel); (case he_14 => exact fun L => ⟨_, rfl⟩); (case no_14 => k_is); (case hb_14 => intro _ _; first | rfl | with_unfolding_all rfl))
    (case e15 => refine' Cn.cls0 KX G S ?aC_15 ?xL_15 ?sa_15 ?ga_15 ?gg_15 ?ha_15 ?iC_15 ?tI_15 ?kC_15 ?su_15 ?hf_15 ?hcd_15 ?cell_15 ?code_15 ?vf_15 ?fl_15 ?he_15; (case aC_15 => k_is); (case xL_15 => k_is); (case sa_15 => k_is); (case ga_15 => k_is); (case gg_15 => k_is); (case ha_15 => k_is); (case iC_15 => k_is); (case tI_15 => k_is); (case kC_15 => k_is); (case su_15 => ks_is); (case hf_15 => k_is); (case hcd_15 => k_is); (case cell_15 => k_is); (case code_15 => k_is); (case vf_15 => rfl); (case fl_15 => first | rfl | decide +kernel); (case he_15 => exact fun L => ⟨_, rfl⟩))
    (case e16 => refine' Cn.cls0 KX G S ?aC_16 ?xL_16 ?sa_16 ?ga_16 ?gg_16 ?ha_16 ?iC_16 ?tI_16 ?kC_16 ?su_16 ?hf_16 ?hcd_16 ?cell_16 ?code_16 ?vf_16 ?fl_16 ?he_16; (case aC_16 => k_is); (case xL_16 => k_is); (case sa_16 => k_is); (case ga_16 => k_is); (case gg_16 => k_is); (case ha_16 => k_is); (case iC_16 => k_is); (case tI_16 => k_is); (case kC_16 => k_is); (case su_16 => ks_is); (case hf_16 => k_is); (case hcd_16 => k_is); (case cell_16 => k_is); (case code_16 => k_is); (case vf_16 => rfl); (case fl_16 => first | rfl | decide +kernel); (case he_16 => exact fun L => ⟨_, rfl⟩))
    (case e17 => refine' Cn.cls0 KX G S ?aC_17 ?xL_17 ?sa_17 ?ga_17 ?gg_17 ?ha_17 ?iC_17 ?tI_17 ?kC_17 ?su_17 ?hf_17 ?hcd_17 ?cell_17 ?code_17 ?vf_17 ?fl_17 ?he_17; (case aC_17 => k_is); (case xL_17 => k_is); (case sa_17 => k_is); (case ga_17 => k_is); (case gg_17 => k_is); (case ha_17 => k_is); (case iC_17 => k_is); (case tI_17 => k_is); (case kC_17 => k_is); (case su_17 => ks_is); (case hf_17 => k_is); (case hcd_17 => k_is); (case cell_17 => k_is); (case code_17 => k_is); (case vf_17 => rfl); (case fl_17 => first | rfl | decide +kernel); (case he_17 => exact fun L => ⟨_, rfl⟩))
    (case e18 => refine' Cn.cls0 KX G S ?aC_18 ?xL_18 ?sa_18 ?ga_18 ?gg_18 ?ha_18 ?iC_18 ?tI_18 ?kC_18 ?su_18 ?hf_18 ?hcd_18 ?cell_18 ?code_18 ?vf_18 ?fl_18 ?he_18; (case aC_18 => k_is); (case xL_18 => k_is); (case sa_18 => k_is); (case ga_18 => k_is); (case gg_18 => k_is); (case ha_18 => k_is); (case iC_18 => k_is); (case tI_18 => k_is); (case kC_18 => k_is); (case su_18 => ks_is); (case hf_18 => k_is); (case hcd_18 => k_is); (case cell_18 => k_is); (case code_18 => k_is); (case vf_18 => rfl); (case fl_18 => first | rfl | decide +kernel); (case he_18 => exact fun L => ⟨_, rfl⟩))
    (case e19 => refine' Cn.cls0 KX G S ?aC_19 ?xL_19 ?sa_19 ?ga_19 ?gg_19 ?ha_19 ?iC_19 ?tI_19 ?kC_19 ?su_19 ?hf_19 ?hcd_19 ?cell_19 ?code_19 ?vf_19 ?fl_19 ?he_19; (case aC_19 => k_is); (case xL_19 => k_is); (case sa_19 => k_is); (case ga_19 => k_is); (case gg_19 => k_is); (case ha_19 => k_is); (case iC_19 => k_is); (case tI_19 => k_is); (case kC_19 => k_is); (case su_19 => ks_is); (case hf_19 => k_is); (case hcd_19 => k_is); (case cell_19 => k_is); (case code_19 => k_is); (case vf_19 => rfl); (case fl_19 => first | rfl | decide +kernel); (case he_19 => exact fun L => ⟨_, rfl⟩))
    (case e20 => refine' Cn.cls0 KX G S ?aC_20 ?xL_20 ?sa_20 ?ga_20 ?gg_20 ?ha_20 ?iC_20 ?tI_20 ?kC_20 ?su_20 ?hf_20 ?hcd_20 ?cell_20 ?code_20 ?vf_20 ?fl_20 ?he_20; (case aC_20 => k_is); (case xL_20 => k_is); (case sa_20 => k_is); (case ga_20 => k_is); (case gg_20 => k_is); (case ha_20 => k_is); (case iC_20 => k_is); (case tI_20 => k_is); (case kC_20 => k_is); (case su_20 => ks_is); (case hf_20 => k_is); (case hcd_20 => k_is); (case cell_20 => k_is); (case code_20 => k_is); (case vf_20 => rfl); (case fl_20 => first | rfl | decide +kernel); (case he_20 => exact fun L => ⟨_, rfl⟩))
    (case e21 => refine' Cn.cls0 KX G S ?aC_21 ?xL_21 ?sa_21 ?ga_21 ?gg_21 ?ha_21 ?iC_21 ?tI_21 ?kC_21 ?su_21 ?hf_21 ?hcd_21 ?cell_21 ?code_21 ?vf_21 ?fl_21 ?he_21; (case aC_21 => k_is); (case xL_21 => k_is); (case sa_21 => k_is); (case ga_21 => k_is); (case gg_21 => k_is); (case ha_21 => k_is); (case iC_21 => k_is); (case tI_21 => k_is); (case kC_21 => k_is); (case su_21 => ks_is); (case hf_21 => k_is); (case hcd_21 => k_is); (case cell_21 => k_is); (case code_21 => k_is); (case vf_21 => rfl); (case fl_21 => first | rfl | decide +kernel); (case he_21 => exact fun L => ⟨_, rfl⟩))
    (case e22 => refine' Cn.cls0 KX G S ?aC_22 ?xL_22 ?sa_22 ?ga_22 ?gg_22 ?ha_22 ?iC_22 ?tI_22 ?kC_22 ?su_22 ?hf_22 ?hcd_22 ?cell_22 ?code_22 ?vf_22 ?fl_22 ?he_22; (case aC_22 => k_is); (case xL_22 => k_is); (case sa_22 => k_is); (case ga_22 => k_is); (case gg_22 => k_is); (case ha_22 => k_is); (case iC_22 => k_is); (case tI_22 => k_is); (case kC_22 => k_is); (case su_22 => ks_is); (case hf_22 => k_is); (case hcd_22 => k_is); (case cell_22 => k_is); (case code_22 => k_is); (case vf_22 => rfl); (case fl_22 => first | rfl | decide +kernel); (case he_22 => exact fun L => ⟨_, rfl⟩))
    (case e23 => refine' Cn.cls0 KX G S ?aC_23 ?xL_23 ?sa_23 ?ga_23 ?gg_23 ?ha_23 ?iC_23 ?tI_23 ?kC_23 ?su_23 ?hf_23 ?hcd_23 ?cell_23 ?code_23 ?vf_23 ?fl_23 ?he_23; (case aC_23 => k_is); (case xL_23 => k_is); (case sa_23 => k_is); (case ga_23 => k_is); (case gg_23 => k_is); (case ha_23 => k_is); (case iC_23 => k_is); (case tI_23 => k_is); (case kC_23 => k_is); (case su_23 => ks_is); (case hf_23 => k_is); (case hcd_23 => k_is); (case cell_23 => k_is); (case code_23 => k_is); (case vf_23 => rfl); (case fl_23 => first | rfl | decide +kernel); (case he_23 => exact fun L => ⟨_, rfl⟩))
    (case e24 => refine' Cn.cls0 KX G S ?aC_24 ?xL_24 ?sa_24 ?ga_24 ?gg_24 ?ha_24 ?iC_24 ?tI_24 ?kC_24 ?su_24 ?hf_24 ?hcd_24 ?cell_24 ?code_24 ?vf_24 ?fl_24 ?he_24; (case aC_24 => k_is); (case xL_24 => k_is); (case sa_24 => k_is); (case ga_24 => k_is); (case gg_24 => k_is); (case ha_24 => k_is); (case iC_24 => k_is); (case tI_24 => k_is); (case kC_24 => k_is); (case su_24 => ks_is); (case hf_24 => k_is); (case hcd_24 => k_is); (case cell_24 => k_is); (case code_24 => k_is); (case vf_24 => rfl); (case fl_24 => first | rfl | decide +kernel); (case he_24 => exact fun L => ⟨_, rfl⟩))
    (case e25 => refine' Cn.cls0 KX G S ?aC_25 ?xL_25 ?sa_25 ?ga_25 ?gg_25 ?ha_25 ?iC_25 ?tI_25 ?kC_25 ?su_25 ?hf_25 ?hcd_25 ?cell_25 ?code_25 ?vf_25 ?fl_25 ?he_25; (case aC_25 => k_is); (case xL_25 => k_is); (case sa_25 => k_is); (case ga_25 => k_is); (case gg_25 => k_is); (case ha_25 => k_is); (case iC_25 => k_is); (case tI_25 => k_is); (case kC_25 => k_is); (case su_25 => ks_is); (case hf_25 => k_is); (case hcd_25 => k_is); (case cell_25 => k_is); (case code_25 => k_is); (case vf_25 => rfl); (case fl_25 => first | rfl | decide +kernel); (case he_25 => exact fun L => ⟨_, rfl⟩))
    (case e26 => refine' Cn.cls1 KX G S ?aC_26 ?xL_26 ?sa_26 ?ga_26 ?gg_26 ?ha_26 ?iC_26 ?tI_26 ?kC_26 ?su_26 ?hf_26 ?hcd_26 ?cell_26 ?code_26 ?vf_26 ?fl_26 ?he_26 ?no_26 ?hb_26 rfl rfl rfl (by decide) (by decide); (case aC_26 => k_is); (case xL_26 => k_is); (case sa_26 => k_is); (case ga_26 => k_is); (case gg_26 => k_is); (case ha_26 => k_is); (case iC_26 => k_is); (case tI_26 => k_is); (case kC_26 => k_is); (case su_26 => ks_is); (case hf_26 => k_is); (case hcd_26 => k_is); (case cell_26 => k_is); (case code_26 => k_is); (case vf_26 => rfl); (case fl_26 => first | rfl | decide +kernel); (case he_26 => exact fun L => ⟨_, rfl⟩); (case no_26 => k_is); (case hb_26 => intro _ _; first | rfl | with_unfolding_all rfl))
    (case aN => k_is); (case iN => k_is); (case tN => k_is); (case sN => k_is); (case n7m => k_is); (case n7p => k_is); (case n7l => k_is); (case n14m => k_is); (case n14p => k_is); (case n14l => k_is); (case n26m => k_is); (case n26p => k_is); (case n26l => k_is)
    (case nd => decide +kernel); (case ne => decide +kernel)
    (case aH => k_is); (case lH => k_is); (case oH => k_is); (case kH => k_is)
    (case aD => k_is); (case lD => k_is); (case oD => k_is); (case kD => k_is)
    (case aI => k_is); (case lI => k_is); (case oI => k_is); (case kI => k_is)
    (case aDp => k_is); (case lDp => k_is); (case oDp => k_is); (case kDp => k_is)
    (case aS => k_is); (case lS => k_is); (case oS => k_is); (case kS => k_is)
    (case aF => k_is); (case lF => k_is); (case oF => k_is); (case kF => k_is)
    (case aL => k_is); (case lL => k_is); (case oL => k_is); (case kL => k_is)
    (case aE => k_is); (case lE => k_is); (case oE => k_is); (case kE => k_is)
    (case aC => k_is); (case lC => k_is); (case oC => k_is); (case kC => k_is)
    (case aW => k_is); (case lW => k_is); (case oW => k_is); (case kW => k_is)
    (case zabs => k_is); (case zint => k_is); (case zrange => k_is); (case zenumerate => k_is); (case zValueError => k_is); (case zisinstance => k_is); (case ztuple => k_is); (case zlist => k_is); (case zbool => k_is); (case zlen => k_is); (case zall => k_is); (case zzip => k_is)
#print axioms PySem.Challenge.cw_cutnotes_k00_errors_and_their_fields_holds
