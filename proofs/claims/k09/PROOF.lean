import PyProof.Rows.All
import Wide.All
import OpenK.AllK
import Wide.FinOn
import HandS.ForMost
import HandS.Wide
import HandS.Style
import HandS.Flow
import HandS.Text
import HandS.SortKw
import HandS.Zip
import HandS.Walk
import KE.GoesMore
import KE.GoesEnumKw
import PyProof.Rows.CallKw2
import HandS.More
import HandS.Nested
import PyProof.ReprRoads
import PyProof.StrLawsRepr
import HandS.HeadHook2
import HandS.Head2
import HandS.HeadEnd
import HandS.FStr
import HandS.GenList
import HandS.GenYield
import HandS.Defaults
import HandS.CallLocal
import HandS.DictComp
import HandS.IsInst
import HandS.Star
import KE.KDictCopyH
import PyProof.ReprLen
import HandS.NoneIn
import HandS.Conv
import PyProof.TupleOfGen
import HandS.MakeKwOnly
import PySem.Challenge.RW_frameplaces_k09_whole_last_written
set_option linter.all false
namespace FP
open PySem L2
abbrev PP : Program := PySem.Challenge.pw_frameplaces_k09_whole_last_written
def top (i : Nat) : Stmt := PySem.Challenge.pw_frameplaces_k09_whole_last_written.main.body.getD i (.Pass ⟨0, 0, 0, 0⟩)
abbrev sPen : Stmt := top 47
abbrev sDraw : Stmt := top 48
abbrev sPick : Stmt := top 49
abbrev sShuf : Stmt := top 50
abbrev sNames : Stmt := top 51
abbrev sIsName : Stmt := top 19
abbrev sLines : Stmt := top 20
abbrev sFits : Stmt := top 21
abbrev sRead : Stmt := top 24
abbrev sCheck : Stmt := top 7
abbrev sPlaces : Stmt := top 8
abbrev sCellAt : Stmt := top 26
abbrev sTransfer : Stmt := top 29
abbrev sDoInput : Stmt := top 30
abbrev sDoCopy : Stmt := top 31
abbrev sDoPoint : Stmt := top 32
abbrev sDoLoad : Stmt := top 33
abbrev sDoStore : Stmt := top 34
abbrev sDoUse : Stmt := top 35
abbrev sDoCall : Stmt := top 36
abbrev sDoSame : Stmt := top 37
abbrev sDoLoop : Stmt := top 38
abbrev sDoMaybe : Stmt := top 39
abbrev sAct : Stmt := top 41
abbrev sActWrite : Stmt := top 42
abbrev sAdvance : Stmt := top 43
abbrev sLaw : Stmt := top 64
abbrev cBadProgram : Stmt := top 3
abbrev cRow : Stmt := top 22
abbrev cSheet : Stmt := top 23
abbrev cChoices : Stmt := top 27
abbrev cRun : Stmt := top 28
abbrev cProgram : Stmt := top 45
abbrev qBlockLines : Stmt := top 52
abbrev qBlockSize : Stmt := top 53
abbrev qOrderSize : Stmt := top 54
abbrev qLaid : Stmt := top 55
abbrev qLaidAll : Stmt := top 56
abbrev qCellsOf : Stmt := top 57
abbrev qPlain : Stmt := top 58
abbrev qNewOrder : Stmt := top 59
abbrev qWideBlock : Stmt := top 60
abbrev qNewProgram : Stmt := top 61
abbrev qNewChoices : Stmt := top 62
abbrev qHolds : Stmt := top 63
abbrev mBadProgram_init : Stmt := inClass cBadProgram 0
abbrev mRow_init : Stmt := inClass cRow 0
abbrev mSheet_init : Stmt := inClass cSheet 0
abbrev mSheet_is_closed : Stmt := inClass cSheet 1
abbrev mSheet_blocks_around : Stmt := inClass cSheet 2
abbrev mSheet_take_line : Stmt := inClass cSheet 3
abbrev mSheet_find_ways : Stmt := inClass cSheet 4
abbrev mSheet_landing : Stmt := inClass cSheet 5
abbrev mSheet_declare : Stmt := inClass cSheet 6
abbrev mSheet_take_row : Stmt := inClass cSheet 7
abbrev mSheet_is_seen : Stmt := inClass cSheet 8
abbrev mSheet_open_block : Stmt := inClass cSheet 9
abbrev mSheet_turn : Stmt := inClass cSheet 10
abbrev mSheet_close_block : Stmt := inClass cSheet 11
abbrev mChoices_init : Stmt := inClass cChoices 0
abbrev mChoices_take : Stmt := inClass cChoices 1
abbrev mRun_init : Stmt := inClass cRun 0
abbrev mRun_branch : Stmt := inClass cRun 1
abbrev mRun_worth : Stmt := inClass cRun 2
abbrev mRun_read : Stmt := inClass cRun 3
abbrev mRun_write : Stmt := inClass cRun 4
abbrev mRun_learn : Stmt := inClass cRun 5
abbrev mRun_finds_same : Stmt := inClass cRun 6
abbrev mRun_stop : Stmt := inClass cRun 7
abbrev mRun_leave_call : Stmt := inClass cRun 8
abbrev mProgram_init : Stmt := inClass cProgram 0
abbrev mProgram_eq : Stmt := inClass cProgram 1
abbrev mProgram_run : Stmt := inClass cProgram 2
abbrev mProgram_steps : Stmt := inClass cProgram 3
abbrev mProgram_opened_at : Stmt := inClass cProgram 4
abbrev mProgram_moved : Stmt := inClass cProgram 5
abbrev mProgram_hold : Stmt := inClass cProgram 6
abbrev mProgram_check_cell : Stmt := inClass cProgram 7
end FP
set_option Elab.async false
set_option linter.all false
set_option maxRecDepth 100000
set_option maxHeartbeats 4000000
/-! The source of all draws: what a draw, a pick, a shuffle promise. -/
namespace FP
open PySem PySem.Spec PyProof.Rows L2
/-- the pen's dict -/
def penD (a : Addr) (t l : Int) : List (Key × V) := [(.inr "cells", .ref a), (.inr "turn", .int t), (.inr "left", .int l)]
theorem pen_cells (a : Addr) (t l : Int) : valV (penD a t l) (.inr "cells") = some (.ref a) := rfl
theorem pen_turn (a : Addr) (t l : Int) : valV (penD a t l) (.inr "turn") = some (.int t) := rfl
theorem pen_left (a : Addr) (t l : Int) : valV (penD a t l) (.inr "left") = some (.int l) := rfl
theorem put_turn (a : Addr) (t l t' : Int) : putK (penD a t l) (.inr "turn") (.int t') = penD a t' l := rfl
theorem put_left (a : Addr) (t l l' : Int) : putK (penD a t l) (.inr "left") (.int l') = penD a t l' := rfl
theorem pen_len (a : Addr) (t l : Int) : (penD a t l).length < sizeLine := by
  rw [sizeLine_eq]
  exact (by decide : 3 < 16777216)
/-- all but p stands -/
def But (p : Addr) (H H' : Hp) : Prop := ∀ b o, b ≠ p → H b = some o → H' b = some o
theorem But.refl (p : Addr) (H : Hp) : But p H H := fun _ _ _ e => e
theorem But.trans {p : Addr} {H H1 H2 : Hp} (a : But p H H1) (b : But p H1 H2) : But p H H2 := fun c o n e => b c o n (a c o n e)
theorem But.put {p : Addr} {H H' : Hp} {o : HO} (a : But p H H') : But p H (upd H' p o) := fun c u n e => by
  rw [upd_ne n]
  exact a c u n e
theorem But.new {p x : Addr} {H H' : Hp} {o : HO} (a : But p H H') (hx : H' x = none) : But p H (upd H' x o) := fun c u n e => by
  rw [upd_ne (ne_of_none (a c u n e) hx)]
  exact a c u n e
/-- a pen at p, over the cells at a, in its state t, l -/
structure PenAt (H : Hp) (p a : Addr) (ns : List Int) (t l : Int) : Prop where
  p : H p = some (.dK (penD a t l))
  a : H a = some (.lst (ns.map V.int))
  n : ns.length ≤ 63
  t0 : 0 ≤ t
  l0 : 0 ≤ l
theorem PenAt.ne {H : Hp} {p a : Addr} {ns : List Int} {t l : Int} (h : PenAt H p a ns t l) : a ≠ p := ne_of h.a h.p (by intro z; cases z)
theorem PenAt.new {H : Hp} {p a x : Addr} {ns : List Int} {t l : Int} {o : HO} (h : PenAt H p a ns t l) (hx : H x = none) : PenAt (upd H x o) p a ns t l :=
  ⟨(upd_ne (ne_of_none h.p hx)).trans h.p, (upd_ne (ne_of_none h.a hx)).trans h.a, h.n, h.t0, h.l0⟩
theorem PenAt.put {H : Hp} {p a : Addr} {ns : List Int} {t l t' l' : Int} (h : PenAt H p a ns t l) (h1 : 0 ≤ t') (h2 : 0 ≤ l') : PenAt (upd H p (.dK (penD a t' l'))) p a ns t' l' :=
  ⟨upd_same, (upd_ne h.ne).trans h.a, h.n, h1, h2⟩
/-- a draw by a positive span: some number below it -/
def spDraw : Sp := fun vs H Q _ => ∃ (p a : Addr) (ns : List Int) (t l m : Int), vs = [.ref p, .int m] ∧ PenAt H p a ns t l ∧ t ≤ 1000000 ∧ 0 < m ∧ m.natAbs < 2 ^ 1000 ∧
  ∀ (r t' l' : Int) (H' : Hp), 0 ≤ r → r < m → t ≤ t' → t' ≤ t + 1 → But p H H' → PenAt H' p a ns t' l' → Q (.int r) H'
structure Blt (mg : Str → Option Value) : Prop where
  int : mg "int" = none
  len : mg "len" = none
  abs : mg "abs" = none
  list : mg "list" = none
theorem ints_dp (K : W.Frag) (H : Hp) : ∀ ns : List Int, DpAll K H (ns.map V.int) (ns.map PyData.int)
  | [] => .nil
  | n :: r => .cons (.int n) (ints_dp K H r)
theorem ints_shaped (ns : List Int) : SeqAt.shaped (.list (ns.map PyData.int)) = true := W.shaped_ints ns
theorem PenAt.left {H : Hp} {p a : Addr} {ns : List Int} {t l : Int} (h : PenAt H p a ns t l) : DGet H p (.str "left") (some (.int l)) := DGet.k (k := .inr "left") h.p
theorem PenAt.turn {H : Hp} {p a : Addr} {ns : List Int} {t l : Int} (h : PenAt H p a ns t l) : DGet H p (.str "turn") (some (.int t)) := DGet.k (k := .inr "turn") h.p
theorem PenAt.cells {H : Hp} {p a : Addr} {ns : List Int} {t l : Int} (h : PenAt H p a ns t l) : DGet H p (.str "cells") (some (.ref a)) := DGet.k (k := .inr "cells") h.p
theorem PenAt.putL {H : Hp} {p a : Addr} {ns : List Int} {t l : Int} (h : PenAt H p a ns t l) (l' : Int) : DPut H p (.str "left") (.int l') (upd H p (.dK (penD a t l'))) := DPut.k (k := .inr "left") h.p (pen_len a t l)
theorem PenAt.putT {H : Hp} {p a : Addr} {ns : List Int} {t l : Int} (h : PenAt H p a ns t l) (t' : Int) : DPut H p (.str "turn") (.int t') (upd H p (.dK (penD a t' l))) := DPut.k (k := .inr "turn") h.p (pen_len a t l)
section
variable {P : Program} {w : World} {K : W.Frag} {mg : Str → Option Value} {base : Heap}
theorem scD : FnScope ["_law_pen", "_law_span", "_law_digit", "_law_turn", "_law_cell", "_law_mixed"] ["_law_pen", "_law_span"] (defScope sDraw) := ⟨rfl, rfl, rfl, by decide +kernel, rfl, by decide +kernel, by decide +kernel⟩
theorem ok_draw {f : Addr} {fd : FuncData} (F : Fun K "_law_draw" "_law_draw" sDraw f fd) (B : Blt mg) : FnOk P w K mg base CX0 1 f fd ["_law_pen", "_law_span"] spDraw := by
  refine F.ok scD (fun vs H Q E h => ?_) (fun cdv A outer s H vs Q E hr h => ?_)
  · obtain ⟨p, a, ns, t, l, m, rfl, _⟩ := h
    rfl
  obtain ⟨p, a, ns, t, l, m, rfl, PA0, ht, hm, hmb, k⟩ := h
  have hu := hu_of hr
  refine ⟨_, pss_cons (ps_if (pt_cmpR op_gt (pe_dget hu (pv 0) pe_str (fun _ _ => rfl)) pe_int (nomark _))
      (pss_cons (ps_set (i := 2) scD.nd rfl (.inl rfl) (pe_op op_mod (pe_callTy call_int1 (by rfl) B.int (by decide +kernel) (pa_cons (pe_dget hu (pv 0) pe_str (fun _ _ => rfl)) pa_nil)) (pv 1)))
        (pss_cons (ps_dput hu (pv 0) pe_str (pe_op op_fdivW (pe_dget hu (pv 0) pe_str (fun _ _ => rfl)) (pv 1)) rfl) (pss_one (ps_ret (pv 2))))) pss_nil)
    (pss_cons (ps_set (i := 3) scD.nd rfl (.inl rfl) (pe_dget hu (pv 0) pe_str (fun _ _ => rfl)))
    (pss_cons (ps_dput hu (pv 0) pe_str (pe_op op_add (pv 3) pe_int) rfl)
    (pss_cons (ps_set (i := 4) scD.nd rfl (.inl rfl) (pe_op op_add (pe_op op_mul pe_int (pv 3)) pe_int))
    (pss_cons (ps_if (pt_cmpR (op_neD hr.units) (pe_dget hu (pv 0) pe_str (fun _ _ => rfl)) (pe_lst pa_nil) (nomark _))
      (pss_one (ps_set (i := 4) scD.nd rfl (.inl rfl) (pe_ix ix_list (pe_dget hu (pv 0) pe_str (fun _ _ => rfl))
        (pe_op op_mod (pe_callTy call_int1 (by rfl) B.int (by decide +kernel) (pa_cons (pv 3) pa_nil)) (pe_callB call_len_seq (by rfl) B.len boot_len (pa_cons (pe_dget hu (pv 0) pe_str (fun _ _ => rfl)) pa_nil))) (fun _ _ => rfl)))) pss_nil)
    (pss_cons (ps_if (PW.pt (pw_and (pt_cmpR op_lt (pv 3) (pe_callB call_len_seq (by rfl) B.len boot_len (pa_cons (pe_dget hu (pv 0) pe_str (fun _ _ => rfl)) pa_nil)) (nomark _))
        (pw_and1 (pt_cmpR op_ge (pe_callB call_abs (by rfl) B.abs (by decide +kernel) (pa_cons (pv 4) pa_nil)) (pe_op op_pow pe_int pe_int) (nomark _)))))
      (pss_cons (ps_dput hu (pv 0) pe_str (pe_op op_fdivW (pe_op op_sub (pe_callB call_abs (by rfl) B.abs (by decide +kernel) (pa_cons (pv 4) pa_nil)) (pe_op op_pow pe_int pe_int)) (pv 1)) rfl)
        (pss_one (ps_ret (pe_op op_mod (pe_callTy call_int1 (by rfl) B.int (by decide +kernel) (pa_cons (pe_op op_sub (pe_callB call_abs (by rfl) B.abs (by decide +kernel) (pa_cons (pv 4) pa_nil)) (pe_op op_pow pe_int pe_int)) pa_nil)) (pv 1))))) pss_nil)
    (pss_cons (ps_set (i := 5) scD.nd rfl (.inl rfl) (pe_op op_mul (pe_op op_mod (pe_callTy call_int1 (by rfl) B.int (by decide +kernel) (pa_cons (pv 4) pa_nil)) pe_int) pe_int))
    (pss_cons (ps_set (i := 5) scD.nd rfl (.inl rfl) (pe_op op_mod (pe_callTy call_int1 (by rfl) B.int (by decide +kernel) (pa_cons (pe_op op_add (pe_op op_add (pv 5) (pe_op op_mul (pv 3) (pe_op op_add (pe_op op_mul (pv 3) pe_int) pe_int))) pe_int) pa_nil)) pe_int))
    (pss_cons (ps_set (i := 5) scD.nd rfl (.inl rfl) (pe_op op_mod (pe_callTy call_int1 (by rfl) B.int (by decide +kernel) (pa_cons (pe_op op_mul (pv 5) (pe_op op_add (pv 5) pe_int)) pa_nil)) pe_int))
    (pss_cons (ps_set (i := 5) scD.nd rfl (.inl rfl) (pe_op op_mod (pe_callTy call_int1 (by rfl) B.int (by decide +kernel) (pa_cons (pe_op op_add (pe_op op_add (pe_op op_mul (pv 5) (pv 5)) (pe_op op_mul pe_int (pv 5))) (pe_op op_mul pe_int (pv 3))) pa_nil)) pe_int))
    (pss_one (ps_ret (pe_op op_mod (pe_callTy call_int1 (by rfl) B.int (by decide +kernel) (pa_cons (pe_op op_fdiv (pe_op op_mod (pe_callTy call_int1 (by rfl) B.int (by decide +kernel) (pa_cons (pe_op op_mul (pv 5) (pe_op op_add (pv 5) pe_int)) pa_nil)) pe_int) pe_int) pa_nil)) (pv 1))))))))))))), ?_⟩
  -- the pen's number at hand
  refine ⟨_, rfl, p, _, rfl, PA0.left, _, _, rfl, rfl, _, rfl, ite2 (fun c => ?_) fun c => ?_⟩
  · refine ⟨_, rfl, p, _, rfl, PA0.left, .inl ⟨_, rfl, _, rfl, _, _, rfl, rfl, hm, ?_⟩⟩
    refine ⟨_, rfl, p, _, rfl, PA0.left, _, rfl, _, _, rfl, rfl, wide_div hm hmb (by decide) (by decide), _, rfl, p, _, rfl, PA0.putL _, _, rfl, ?_⟩
    exact k _ t _ _ (Int.emod_nonneg _ (by omega)) (Int.emod_lt_of_pos _ hm) (Int.le_refl _) (by omega) (But.refl p H).put (PA0.put PA0.t0 (Int.ediv_nonneg PA0.l0 (by omega)))
  have t0 := PA0.t0
  have B1 : But p H (upd H p (.dK (penD a (t + 1) l))) := (But.refl p H).put
  have PA1 : PenAt (upd H p (.dK (penD a (t + 1) l))) p a ns (t + 1) l := PA0.put (by omega) PA0.l0
  -- _law_turn, the turn told on, _law_cell
  refine ⟨_, rfl, p, _, rfl, PA0.turn, _, rfl, _, _, rfl, rfl, _, rfl, p, _, rfl, PA0.putT _, _, rfl, _, _, rfl, rfl, .inl ⟨by decide, by decide⟩, _, _, rfl, rfl, ?_⟩
  -- the bounds that products ask
  have bm : ∀ x M : Int, 0 < M → M < 18446744073709551616 → -(2 ^ 64) < x % M ∧ x % M < 2 ^ 64 := fun x M h1 h2 => by
    have := Int.emod_nonneg x (show M ≠ 0 by omega)
    have := Int.emod_lt_of_pos x h1
    omega
  have bt : -(2 ^ 64) < t ∧ t < 2 ^ 64 := by omega
  refine ⟨_, rfl, p, _, rfl, PA1.cells, Nat.zero_le _, fun q hq => ⟨_, _, .lst (SqL.of (PA1.new hq).a) (ints_dp _ _ ns), .lst (SqL.of upd_same) .nil, ints_shaped ns, rfl, _, rfl, ?_⟩⟩
  have B2 : But p H (upd (upd H p (.dK (penD a (t + 1) l))) q (.lst [])) := B1.new hq
  have PA2 := PA1.new (o := .lst []) hq
  have hlen : (ns.map V.int).length = ns.length := List.length_map ..
  refine ite2 (fun c0 => ?_) (fun c0 => ?_)
  all_goals try
    have hns : 0 < ns.length := by
      cases ns with
      | nil => exact absurd c0 (by decide)
      | cons n r => exact Nat.succ_pos _
    have hnl : (0 : Int) < (((ns.map V.int).length : Nat) : Int) := by rw [hlen]; omega
    have i0 := Int.emod_nonneg t (show (((ns.map V.int).length : Nat) : Int) ≠ 0 by omega)
    have i1 := Int.emod_lt_of_pos t hnl
    obtain ⟨j, hj⟩ : ∃ j : Nat, t % (((ns.map V.int).length : Nat) : Int) = (j : Int) := ⟨_, (Int.toNat_of_nonneg i0).symm⟩
    have hj1 : j < ns.length := by rw [hj, hlen] at i1; omega
    have it : (ns.map V.int)[j]? = some (V.int (ns[j])) := by rw [List.getElem?_map, List.getElem?_eq_getElem hj1]; rfl
    refine ⟨_, rfl, p, _, rfl, PA2.cells, _, rfl, .inl ⟨_, rfl, _, rfl, p, _, rfl, PA2.cells, a, _, rfl, .inl (SqL.of PA2.a), _, _, rfl, rfl, hnl, a, _, _, _, rfl, rfl, SqL.of PA2.a, by rw [hj]; exact atI_nat it, ?_⟩⟩
  all_goals
    -- a great number of the script fills the pen anew
    refine ⟨_, rfl, _, rfl, p, _, rfl, PA2.cells, a, _, rfl, .inl (SqL.of PA2.a), _, _, rfl, rfl, _, rfl, ite2 (fun c1 => ?_) fun c1 => ?_⟩
    all_goals try
      refine ⟨_, rfl, _, rfl, _, _, rfl, rfl, ⟨by decide, by decide, by decide⟩, _, _, rfl, rfl, _, rfl, ite2 (fun c2 => ?_) fun c2 => ?_⟩
      all_goals try
        refine ⟨_, rfl, _, rfl, _, _, rfl, rfl, ⟨by decide, by decide, by decide⟩, _, _, rfl, rfl, _, rfl, _, _, rfl, rfl, wide_div hm hmb (by decide) (by decide), _, rfl, p, _, rfl, PA2.putL _, ?_⟩
        refine ⟨_, rfl, _, rfl, _, _, rfl, rfl, ⟨by decide, by decide, by decide⟩, _, _, rfl, rfl, .inl ⟨_, rfl, _, rfl, _, _, rfl, rfl, hm, ?_⟩⟩
        exact k _ (t + 1) _ _ (Int.emod_nonneg _ (by omega)) (Int.emod_lt_of_pos _ hm) (by omega) (Int.le_refl _) B2.put (PA2.put (by omega) (Int.ediv_nonneg (Int.sub_nonneg_of_le (of_decide_eq_true c2)) (by omega)))
    all_goals
      try refine iteF ?_
      -- mixed from the cell
      refine ⟨_, rfl, .inl ⟨_, rfl, _, _, rfl, rfl, (by show (0 : Int) < 4294967087; decide), _, _, rfl, rfl, .inr ⟨by decide, by decide⟩, ?_⟩⟩
      refine ⟨_, rfl, _, rfl, _, rfl, _, _, rfl, rfl, .inr ⟨by decide, by decide⟩, _, _, rfl, rfl, _, _, rfl, rfl, .inl bt, _, _, rfl, rfl, _, _, rfl, rfl, .inl ⟨_, rfl, _, _, rfl, rfl, (by show (0 : Int) < 4294967029; decide), ?_⟩⟩
      refine ⟨_, rfl, _, rfl, _, _, rfl, rfl, _, _, rfl, rfl, .inl (bm _ _ (by decide) (by decide)), .inl ⟨_, rfl, _, _, rfl, rfl, (by show (0 : Int) < 4294966997; decide), ?_⟩⟩
      refine ⟨_, rfl, _, rfl, _, _, rfl, rfl, .inl (bm _ _ (by decide) (by decide)), _, rfl, _, _, rfl, rfl, .inl ⟨by decide, by decide⟩, _, _, rfl, rfl, _, rfl, _, _, rfl, rfl, .inl ⟨by decide, by decide⟩, _, _, rfl, rfl, .inl ⟨_, rfl, _, _, rfl, rfl, (by show (0 : Int) < 4294966981; decide), ?_⟩⟩
      refine ⟨_, rfl, _, rfl, _, _, rfl, rfl, _, _, rfl, rfl, .inl (bm _ _ (by decide) (by decide)), .inl ⟨_, rfl, _, _, rfl, rfl, (by show (0 : Int) < 4294966943; decide), _, _, rfl, rfl, ⟨by decide, by decide⟩, .inl ⟨_, rfl, _, rfl, _, _, rfl, rfl, hm, ?_⟩⟩⟩
      exact k _ (t + 1) _ _ (Int.emod_nonneg _ (by omega)) (Int.emod_lt_of_pos _ hm) (by omega) (Int.le_refl _) B2 PA2
end
end FP
set_option Elab.async false
set_option linter.all false
set_option maxRecDepth 100000
set_option maxHeartbeats 4000000
set_option exponentiation.threshold 2000
namespace FP
open PySem PySem.Spec PyProof.Rows L2
/-- a def of the module and its promise -/
structure Def (P : Program) (w : World) (K : W.Frag) (mg : Str → Option Value) (base : Heap) (x : Str) (k : Nat) (ps : List Str) (sp : Sp) : Prop where
  ex : ∃ (f : Addr) (fd : FuncData), mg x = some (.ref f) ∧ W.keepIn K (.ref f) = true ∧ Binds K fd ps [] ∧ FnOk P w K mg base CX0 k f fd ps sp
theorem strs_dp (K : W.Frag) (H : Hp) : ∀ l : List Str, DpAll K H (l.map V.str) (l.map PyData.str)
  | [] => .nil
  | n :: r => .cons (.str n) (strs_dp K H r)
theorem strs_lay : ∀ l : List Str, (∀ y ∈ l, PyData.strOk y = true) → PyData.canLayAll0 (l.map PyData.str) = true
  | [], _ => rfl
  | x :: r, h => by
    simp only [List.map_cons, PyData.canLayAll0, PyData.canLay0, h x List.mem_cons_self, strs_lay r fun y hy => h y (List.mem_cons_of_mem _ hy), Bool.and_self]
theorem strs_deep : ∀ l : List Str, PyData.depthAll (l.map PyData.str) ≤ 1
  | [] => by simp [PyData.depthAll]
  | _ :: r => by
    have := strs_deep r
    simp only [List.map_cons, PyData.depthAll, PyData.depth]
    omega
theorem strs_shaped (l : List Str) (h : ∀ y ∈ l, PyData.strOk y = true) : SeqAt.shaped (.list (l.map PyData.str)) = true := by
  have h1 := strs_lay l h
  have h2 := strs_deep l
  unfold SeqAt.shaped
  rw [Bool.and_eq_true]
  refine ⟨by simpa only [PyData.canLay0] using h1, decide_eq_true ?_⟩
  simp only [PyData.depth]
  omega
theorem perm_erase {α : Type} : ∀ {l : List α} {j : Nat} (h : j < l.length), (l[j] :: l.eraseIdx j).Perm l
  | _ :: _, 0, _ => .refl _
  | x :: r, j + 1, h => (List.Perm.swap x (r[j]'(Nat.lt_of_succ_lt_succ h)) (r.eraseIdx j)).trans ((perm_erase (l := r) (Nat.lt_of_succ_lt_succ h)).cons x)
theorem map_erase {α β : Type} (f : α → β) : ∀ (l : List α) (j : Nat), (l.map f).eraseIdx j = (l.eraseIdx j).map f
  | [], _ => rfl
  | _ :: _, 0 => rfl
  | x :: r, j + 1 => congrArg (f x :: ·) (map_erase f r j)
/-- one of the options -/
def spPick : Sp := fun vs H Q _ => ∃ (p a o : Addr) (ns : List Int) (t l : Int) (xs : List V), vs = [.ref p, .ref o] ∧ PenAt H p a ns t l ∧ t ≤ 1000000 ∧ o ≠ p ∧ H o = some (.lst xs) ∧ 0 < xs.length ∧ xs.length ≤ 1000 ∧
  ∀ (i : Nat) (v : V) (t' l' : Int) (H' : Hp), xs[i]? = some v → t ≤ t' → t' ≤ t + 1 → But p H H' → PenAt H' p a ns t' l' → Q v H'
/-- the items (texts) in some order, a new list -/
def spShuf : Sp := fun vs H Q _ => ∃ (p a o : Addr) (ns : List Int) (t l : Int) (xs : List Str), vs = [.ref p, .ref o] ∧ PenAt H p a ns t l ∧ t + xs.length ≤ 1000000 ∧ o ≠ p ∧ H o = some (.lst (xs.map V.str)) ∧ xs.length ≤ 1000 ∧ (∀ y ∈ xs, PyData.strOk y = true) ∧
  ∀ (r : Addr) (ys : List Str) (t' l' : Int) (H' : Hp), ys.Perm xs → t ≤ t' → t' ≤ t + xs.length → But p H H' → PenAt H' p a ns t' l' → H r = none → H' r = some (.lst (ys.map V.str)) → Q (.ref r) H'
section
variable {P : Program} {w : World} {K : W.Frag} {mg : Str → Option Value} {base : Heap}
theorem small_abs {n : Nat} (h : n ≤ 1000) : ((n : Nat) : Int).natAbs < 2 ^ 1000 := by
  rw [Int.natAbs_natCast]
  exact Nat.lt_of_le_of_lt h (Nat.lt_of_lt_of_le (by decide : 1000 < 2 ^ 10) (Nat.pow_le_pow_right (by decide) (by decide)))
theorem scP : FnScope ["_law_pen", "_law_options"] ["_law_pen", "_law_options"] (defScope sPick) := ⟨rfl, rfl, rfl, by decide +kernel, rfl, by decide +kernel, by decide +kernel⟩
theorem ok_pick {f : Addr} {fd : FuncData} (F : Fun K "_law_pick" "_law_pick" sPick f fd) (B : Blt mg) (D : Def P w K mg base "_law_draw" 1 ["_law_pen", "_law_span"] spDraw) : FnOk P w K mg base CX0 2 f fd ["_law_pen", "_law_options"] spPick := by
  obtain ⟨fD, fdD, gD, kD, bD, GD⟩ := D.ex
  refine F.ok scP (fun vs H Q E h => ?_) (fun cdv A outer s H vs Q E hr h => ?_)
  · obtain ⟨p, a, o, ns, t, l, xs, rfl, _⟩ := h
    rfl
  obtain ⟨p, a, o, ns, t, l, xs, rfl, PA0, ht, hne, ho, h0, h1, k⟩ := h
  refine ⟨_, pss_one (ps_ret (pe_ix ix_list (pv 1) (pe_call GD hr rfl gD kD bD .nil pass0 (pa_cons (pv 0) (pa_cons (pe_callB call_len_seq (by rfl) B.len boot_len (pa_cons (pv 1) pa_nil)) pa_nil))) (fun _ _ => rfl))), ?_⟩
  refine ⟨_, rfl, _, rfl, _, rfl, o, _, rfl, .inl (SqL.of ho), p, a, ns, t, l, _, rfl, PA0, ht, by omega, small_abs h1, fun r t' l' H' r0 r1 t1 t2 b PA1 => ?_⟩
  obtain ⟨j, rfl⟩ : ∃ j : Nat, r = (j : Int) := ⟨_, (Int.toNat_of_nonneg r0).symm⟩
  have hj : j < xs.length := by omega
  have it : xs[j]? = some xs[j] := List.getElem?_eq_getElem hj
  exact ⟨o, _, _, _, rfl, rfl, SqL.of (b o _ hne ho), atI_nat it, k j _ t' l' H' it t1 t2 b PA1⟩
theorem scS : FnScope ["_law_pen", "_law_items", "_law_rest", "_law_found"] ["_law_pen", "_law_items"] (defScope sShuf) := ⟨rfl, rfl, rfl, by decide +kernel, rfl, by decide +kernel, by decide +kernel⟩
theorem ok_shuf {f : Addr} {fd : FuncData} (F : Fun K "_law_shuffled" "_law_shuffled" sShuf f fd) (B : Blt mg) (D : Def P w K mg base "_law_draw" 1 ["_law_pen", "_law_span"] spDraw) : FnOk P w K mg base CX0 2 f fd ["_law_pen", "_law_items"] spShuf := by
  obtain ⟨fD, fdD, gD, kD, bD, GD⟩ := D.ex
  refine F.ok scS (fun vs H Q E h => ?_) (fun cdv A outer s H vs Q E hr h => ?_)
  · obtain ⟨p, a, o, ns, t, l, xs, rfl, _⟩ := h
    rfl
  obtain ⟨p, a, o, ns, t, l, xs, rfl, PA0, ht, hne, ho, h1, hok, k⟩ := h
  refine ⟨_, pss_cons (ps_par (i := 2) (j := 3) (by rfl) scS.nd rfl rfl (by decide) rfl rfl (pa_cons (pe_callTy call_list_of (by rfl) B.list (by decide +kernel) (pa_cons (pv 1) pa_nil)) (pa_cons (pe_lst pa_nil) pa_nil)) (by rfl))
    (pss_cons (ps_while PassesOwn.never (pt_cmpR (op_neD hr.units) (pv 2) (pe_lst pa_nil) (nomark _))
      (pss_one (ps_expr (pe_bm PySem.F.plainAttrs_list PySem.F.slot_list_append PySem.F.type_list_append mt_append (pv 3)
        (pa_cons (pe_bm PySem.F.plainAttrs_list PySem.F.slot_list_pop PySem.F.type_list_pop mt_popAt (pv 2)
          (pa_cons (pe_call GD hr rfl gD kD bD .nil pass0 (pa_cons (pv 0) (pa_cons (pe_callB call_len_seq (by rfl) B.len boot_len (pa_cons (pv 2) pa_nil)) pa_nil))) pa_nil)) pa_nil)))))
    (pss_one (ps_ret (pv 3)))), ?_⟩
  refine ⟨_, rfl, o, _, rfl, .inl (SqL.of ho), fun r hr0 => ⟨Nat.zero_le _, fun q hq => ⟨_, _, rfl, ?_⟩⟩⟩
  have nrp : r ≠ p := (ne_of_none PA0.p hr0).symm
  have nra : r ≠ a := (ne_of_none PA0.a hr0).symm
  have hq0 : H q = none := by
    by_cases e : q = r
    · rw [e]; exact hr0
    · rwa [upd_ne e] at hq
  have nqr : q ≠ r := fun e => by rw [e, upd_same] at hq; cases hq
  have nqp : q ≠ p := (ne_of_none PA0.p hq0).symm
  -- the invariant: what is left, what is found
  refine while_by (fun σ H' => ∃ (as bs : List Str) (t' l' : Int), σ = [some (.ref p), some (.ref o), some (.ref r), some (.ref q)] ∧ (as ++ bs).Perm xs ∧ t ≤ t' ∧ t' ≤ t + bs.length ∧ But p H H' ∧ PenAt H' p a ns t' l' ∧
      H' r = some (.lst (as.map V.str)) ∧ H' q = some (.lst (bs.map V.str)))
    (fun σ H' => match H' r with
      | some (.lst ys) => ys.length
      | _ => 0) ⟨xs, [], t, l, rfl, by simp, Int.le_refl _, by simp, ((But.refl p H).new hr0).new hq, (PA0.new hr0).new hq, (upd_ne nqr.symm).trans upd_same, upd_same⟩ ?_ ?_
  · rintro σ H' ⟨as, bs, t', l', rfl, pm, t1, t2, b, PA1, ea, eb⟩
    have hl : as.length + bs.length = xs.length := by rw [← List.length_append]; exact pm.length_eq
    refine ⟨_, rfl, Nat.zero_le _, fun z hz => ⟨_, _, .lst (SqL.of ((upd_ne (ne_of_none ea hz)).trans ea)) (strs_dp _ _ as), .lst (SqL.of upd_same) .nil, strs_shaped as fun y hy => hok y (pm.subset (List.mem_append_left _ hy)), rfl, _, rfl, ?_⟩⟩
    have PA2 := PA1.new (o := .lst []) hz
    have b2 := b.new (o := .lst []) hz
    have ea2 := (upd_ne (o := .lst []) (ne_of_none ea hz)).trans ea
    have eb2 := (upd_ne (o := .lst []) (ne_of_none eb hz)).trans eb
    have nzp : z ≠ p := (ne_of_none PA1.p hz).symm
    refine ite2 (fun c => ?_) fun c => ?_
    · have ha : 0 < as.length := by
        cases as with
        | nil => exact absurd c (by decide)
        | cons _ _ => exact Nat.succ_pos _
      have hal : (as.map V.str).length = as.length := List.length_map ..
      refine ⟨_, rfl, .inl ⟨rfl, _, SqL.of eb2⟩, _, rfl, .inl ⟨rfl, _, SqL.of ea2⟩, _, rfl, _, rfl, r, _, rfl, .inl (SqL.of ea2), p, a, ns, t', l', _, rfl, PA2, by omega, by rw [hal]; omega, by rw [hal]; exact small_abs (by omega), ?_⟩
      intro v t3 l3 H3 v0 v1 t4 t5 b3 PA3
      rw [hal] at v1
      obtain ⟨j, rfl⟩ : ∃ j : Nat, v = (j : Int) := ⟨_, (Int.toNat_of_nonneg v0).symm⟩
      have hj : j < as.length := by omega
      have ea3 := b3 r _ nrp ea2
      have eb3 := b3 q _ nqp eb2
      have it : (as.map V.str)[j]? = some (V.str as[j]) := by rw [List.getElem?_map, List.getElem?_eq_getElem hj]; rfl
      refine ⟨r, _, _, j, _, rfl, rfl, ea3, by omega, by omega, ?_, it, ?_⟩
      · rw [hal]
        have := seqIndex_of (k := (j : Int)) (n := as.length) (by omega) (by omega)
        simpa using this
      refine ⟨q, _, _, rfl, rfl, (upd_ne nqr).trans eb3, ?_, ?_⟩
      · rw [List.length_map]
        exact small1000 (by omega)
      refine ⟨⟨as.eraseIdx j, bs ++ [as[j]], t3, l3, rfl, ?_, by omega, ?_, ?_, ?_, ?_, ?_⟩, ?_⟩
      · refine List.Perm.trans ?_ pm
        have e : as.Perm (as[j] :: as.eraseIdx j) := (perm_erase hj).symm
        refine List.Perm.trans ?_ (e.append_right bs).symm
        rw [← List.append_assoc]
        exact (List.perm_append_comm (l₁ := as.eraseIdx j ++ bs) (l₂ := [as[j]])).trans (.refl _)
      · rw [List.length_append, List.length_singleton]; omega
      · intro c u n e
        rw [upd_ne (fun z => by rw [z] at e; rw [e] at hq0; cases hq0), upd_ne (fun z => by rw [z] at e; rw [e] at hr0; cases hr0)]
        exact b3 c u n (b2 c u n e)
      · have n1 : a ≠ q := fun z => by have := PA0.a; rw [z, hq0] at this; cases this
        exact ⟨(upd_ne nqp.symm).trans ((upd_ne nrp.symm).trans PA3.p), (upd_ne n1).trans ((upd_ne nra.symm).trans PA3.a), PA3.n, PA3.t0, PA3.l0⟩
      · rw [upd_ne nqr.symm, upd_same, map_erase]
      · rw [upd_same, List.map_append]
        rfl
      · show (match (upd (upd H3 r _) q _) r with | some (.lst ys) => ys.length | _ => 0) < (match H' r with | some (.lst ys) => ys.length | _ => 0)
        rw [upd_ne nqr.symm, upd_same, ea]
        show ((as.map V.str).eraseIdx j).length < (as.map V.str).length
        rw [List.length_eraseIdx_of_lt (by rw [hal]; exact hj), hal]
        omega
    · have ha : as = [] := by
        cases as with
        | nil => rfl
        | cons x r => exact absurd (by rfl) c
      subst ha
      refine ⟨_, rfl, k q bs t' l' _ ?_ t1 (by simp only [List.length_nil, Nat.zero_add] at hl; omega) b2 PA2 hq0 eb2⟩
      simpa using pm
  · intro σ H' Q1 Q2 hq ⟨v, e1, z, f⟩
    exact ⟨v, e1, z, fun l hl => let ⟨d, e, h1, h2, h3, h4, k, ek, q⟩ := f l hl; ⟨d, e, h1, h2, h3, h4, k, ek, hq _ _ q⟩⟩
end
end FP
set_option Elab.async false
set_option linter.all false
set_option maxRecDepth 100000
/-! What the reader of texts does, as plain functions of lists. -/
namespace FP
open PySem
def wordsL : List Str := ["local", "block", "loop", "maybe", "same", "else", "end", "input", "copy", "point", "load", "store", "use", "call", "to", "from"]
def formsL : List (Str × List Str) := [("input", [""]), ("copy", ["", "to", ""]), ("point", ["", "to", ""]), ("load", ["", "from", ""]), ("store", ["", "to", ""]), ("use", [""]), ("call", [""]),
  ("block", []), ("loop", []), ("maybe", []), ("same", ["", ""]), ("else", []), ("end", [])]
def openL : List Str := ["block", "loop", "maybe", "same"]
def twoL : List Str := ["maybe", "same"]
def passL : List Str := ["local", "block", "else", "end"]
def letter (c : Nat) : Bool := decide (97 ≤ c) && decide (c ≤ 122)
def isName (s : Str) : Bool := !(wordsL.contains s) && (decide (1 ≤ s.length) && decide (s.length ≤ 12)) && s.cps.toList.all letter
def fitsM (ws form : List Str) : Bool := decide (ws.length = form.length) && (ws.zip form).all fun p => p.2 == ("" : Str) || p.2 == p.1
structure RowM where
  word : Str
  names : List Str
  after : Nat
  other : Nat
deriving DecidableEq
structure ShM where
  rows : List RowM
  homes : List (Str × Nat)
  around : List (Nat × Nat)
  nest : List Nat
deriving DecidableEq
def ShM.new : ShM := ⟨[⟨"", [], 1, 0⟩], [], [], [0]⟩
def homeOf (homes : List (Str × Nat)) (x : Str) : Option Nat := (homes.find? fun p => decide (p.1 = x)).map (·.2)
def seenM (M : ShM) (x : Str) : Bool := match homeOf M.homes x with
  | some h => M.nest.contains h
  | none => false
def addName (n : Nat) (homes : List (Str × Nat)) (x : Str) : Option (List (Str × Nat)) :=
  if isName x = true ∧ homeOf homes x = none ∧ homes.length ≠ 5 then some (homes ++ [(x, n)]) else none
def addNames (n : Nat) : List (Str × Nat) → List Str → Option (List (Str × Nat))
  | homes, [] => some homes
  | homes, x :: r => (addName n homes x).bind fun h => addNames n h r
def declareM (M : ShM) (names : List Str) : Option ShM :=
  if names ≠ [] ∧ M.nest.getLast? = some (M.rows.length - 1) then
    (addNames (M.rows.length - 1) M.homes names).map fun h => ⟨M.rows ++ [⟨"local", names, M.rows.length + 1, 0⟩], h, M.around, M.nest⟩
  else none
def setRow (rows : List RowM) (i : Nat) (f : RowM → RowM) : List RowM := match rows[i]? with
  | some r => rows.set i (f r)
  | none => rows
/-- d[k] = v, the key new or there -/
def putN (d : List (Nat × Nat)) (k v : Nat) : List (Nat × Nat) := if (d.any fun p => decide (p.1 = k)) = true then d.map (fun p => if p.1 = k then (p.1, v) else p) else d ++ [(k, v)]
def getN (d : List (Nat × Nat)) (k : Nat) : Option Nat := (d.find? fun p => decide (p.1 = k)).map (·.2)
/-- behind the row of a line n that opens a block -/
def openM (M : ShM) (n : Nat) : Option ShM := match M.nest.getLast? with
  | some l => if M.nest.length ≤ 5 then some ⟨M.rows, M.homes, putN M.around n l, M.nest ++ [n]⟩ else none
  | none => none
def turnM (M : ShM) (n : Nat) : Option ShM := match M.nest.getLast? with
  | some l => (match M.rows[l]?, getN M.around l with
    | some r, some a => if twoL.contains r.word = true then some ⟨setRow M.rows l fun r => { r with other := n + 1 }, M.homes, putN M.around n a, M.nest.dropLast ++ [n]⟩ else none
    | _, _ => none)
  | none => none
def closeM (M : ShM) (n : Nat) : Option ShM := match M.nest.getLast? with
  | some l => (match M.rows[l]? with
    | some r => if l ≠ 0 then
        let rows1 := setRow M.rows l fun r => if r.word = ("else" : Str) then { r with after := n } else { r with other := n + 1 }
        let rows2 := if r.word = ("loop" : Str) then setRow rows1 n fun r => { r with after := l } else rows1
        some ⟨rows2, M.homes, M.around, M.nest.dropLast⟩
      else none
    | none => none)
  | none => none
def takeRowM (M : ShM) (word : Str) (words form : List Str) : Option ShM :=
  let names := ((words.zip form).filter fun p => p.2 == ("" : Str)).map (·.1)
  if names.all (seenM M) = true then
    let n := M.rows.length
    let M1 : ShM := ⟨M.rows ++ [⟨word, names, n + 1, 0⟩], M.homes, M.around, M.nest⟩
    if openL.contains word = true then openM M1 n else if word = "else" then turnM M1 n else if word = "end" then closeM M1 n else some M1
  else none
def takeM (M : ShM) (parts : List Str) : Option ShM := match parts with
  | [] => none
  | word :: words => if word = "local" then declareM M words else match formsL.lookup word with
    | some form => if fitsM words form = true then takeRowM M word words form else none
    | none => none
def landM (rows : List RowM) : Nat → Nat → Option Nat
  | 0, _ => none
  | f + 1, n => if n < rows.length then (match rows[n]? with
      | some r => if passL.contains r.word = true then landM rows f r.after else some n
      | none => none) else some 0
/-- the ways of the row at i -/
def wayM (f : Nat) (rows : List RowM) (i : Nat) : Option (List RowM) := match rows[i]? with
  | some r => if passL.contains r.word = true then some rows else
      (landM rows f r.after).bind fun a => (landM (rows.set i { r with after := a }) f r.other).map fun o => rows.set i { r with after := a, other := o }
  | none => none
def waysM (f : Nat) : Nat → Nat → List RowM → Option (List RowM)
  | 0, _, rows => some rows
  | n + 1, i, rows => (wayM f rows i).bind fun r => waysM f n (i + 1) r
def readLines (M : ShM) : List (List Str) → Option ShM
  | [] => some M
  | l :: r => (takeM M l).bind fun M1 => readLines M1 r
def linesM (text : Str) : List Str := if text = "" then [] else Txt.split text "\n"
/-- the sheet of a text of at most so many lines -/
def readM (text : Str) (most : Nat) : Option ShM :=
  if (linesM text).length ≤ most then
    (readLines ShM.new ((linesM text).map fun l => Txt.split l " ")).bind fun M => if M.nest.length = 1 then (waysM 100 M.rows.length 0 M.rows).map fun rows => { M with rows := rows } else none
  else none
end FP
set_option Elab.async false
set_option linter.all false
set_option maxRecDepth 100000
set_option maxHeartbeats 2000000
/-! zip of a list or tuple with a list or tuple; enumerate(.., start=k) of one. -/
namespace FP
open PySem PySem.Spec PyProof.Rows L2
/-- a list (true) or a tuple (false) -/
def SqB (K : PySem.W.Frag) (l : Bool) (H : Hp) (a : Addr) (xs : List V) : Prop := match l with
  | true => SqL K H a xs
  | false => SqT K H a xs
def ItB (l : Bool) (h : Heap) (it a : Addr) (i : Nat) : Prop := match l with
  | true => h.IsListIter it a i
  | false => h.IsTupleIter it a i
def OwnB (l : Bool) (h : Heap) (a : Addr) (items : Array Value) : Prop := match l with
  | true => h.IsList a items
  | false => h.IsTuple a items
def objB (l : Bool) (a : Addr) : Obj := match l with
  | true => { cls := .type "list_iterator", data := .fields #[.ref a, .int 0 0] }
  | false => { cls := .type "tuple_iterator", data := .fields #[.ref a, .int 0 0] }
theorem drawsB {prog : Program} {w : World} {A : Around} (l : Bool) (hh : A.handled = none) (it a : Addr) (hne : a ≠ it) (items : Array Value) :
    Draws prog w A it [it, a] items.size (fun i v => items[i]? = some v) (fun i h => ItB l h it a i ∧ OwnB l h a items) := by
  cases l
  · exact Draws.tuple hh it a hne items
  · exact Draws.list hh it a hne items
theorem beginsB (l : Bool) (a : Addr) (items : Array Value) : Begins (.ref a) (objB l a) fun h => OwnB l h a items := by
  cases l
  · exact begins_tuple a items
  · exact begins_list a items
theorem itB_new {l : Bool} {h : Heap} {it a : Addr} (e : h.get? it = some (objB l a)) : ItB l h it a 0 := by
  cases l
  · exact ⟨_, e, rfl, rfl⟩
  · exact ⟨_, e, rfl, rfl⟩
theorem itB_at {l : Bool} {h h' : Heap} {it a : Addr} {i : Nat} (x : ItB l h it a i) (k : ∀ o, h.get? it = some o → h'.get? it = some o) : ItB l h' it a i := by
  cases l
  · exact Heap.IsTupleIter.at x k
  · exact Heap.IsListIter.at x k
theorem itB_obj {l : Bool} {h : Heap} {it a : Addr} {i : Nat} (x : ItB l h it a i) : ∃ o, h.get? it = some o ∧ ∀ v, o.data ≠ .cell v := by
  cases l
  · obtain ⟨o, e, _, d⟩ := x
    exact ⟨o, e, fun v q => by rw [d] at q; cases q⟩
  · obtain ⟨o, e, _, d⟩ := x
    exact ⟨o, e, fun v q => by rw [d] at q; cases q⟩
section
variable {X : Cx} {pins : List (Addr × Obj)} {σ : L2.St} {H : Hp} {s : Shared} {a : Addr} {xs ys : List V} {l : Bool}
theorem inv_seqB (I : Inv X pins σ H s) (h : SqB X.K l H a xs) : ∃ its : List Value, Vals xs its ∧ OwnB l s.heap a its.toArray := by
  cases l
  · obtain ⟨its, r, p, _⟩ := I.tuple h
    exact ⟨its, r, p⟩
  · obtain ⟨its, r, p, _⟩ := I.list h
    exact ⟨its, r, p.isList⟩
theorem inv_seqB_inj (I : Inv X pins σ H s) (h : SqB X.K l H a xs) (h' : SqB X.K l H a ys) : xs = ys := by
  cases l
  · exact I.tuple_inj h h'
  · exact I.list_inj h h'
theorem ownB_lt {h : Heap} {items : Array Value} (x : OwnB l h a items) : a < h.objs.size := by
  cases l
  · obtain ⟨o, e, _⟩ := x
    exact Heap.lt_size e
  · obtain ⟨o, e, _⟩ := x
    exact Heap.lt_size e
end
/-- a, b walked together, the items in new pairs -/
def ItzB (K : PySem.W.Frag) (l m : Bool) (a b : Addr) : It :=
  ⟨fun i H => ∃ (xs ys : List V) (x y : V), SqB K l H a xs ∧ SqB K m H b ys ∧ xs[i]? = some x ∧ ys[i]? = some y,
    fun i H v H' => ∃ T x y, v = .ref T ∧ H T = none ∧ H' = upd H T (.tup [x, y]) ∧ (∀ xs, SqB K l H a xs → xs[i]? = some x) ∧ ∀ ys, SqB K m H b ys → ys[i]? = some y,
    fun i H => ∃ xs ys : List V, SqB K l H a xs ∧ SqB K m H b ys ∧ i ≤ xs.length ∧ i ≤ ys.length ∧ (i = xs.length ∨ i = ys.length)⟩
theorem turn_zipB {P : Program} {w : World} {K : PySem.W.Frag} {elts : List Expr} {kk : Nat} {tpos : Pos} {l m : Bool} {a b z TI TO i1 i2 : Addr} (D : ZipSep2 z TI TO i1 i2 [i1, a] [i2, b]) (n1 : a ≠ i1) (n2 : b ≠ i2) :
    Turn P w K (.Tuple elts kk tpos) (ItzB K l m a b) [z, TI, TO, i1, i2] z (fun i h => IsZip h z TI TO .none ∧ IsTupOf2 h TI (.ref i1) (.ref i2) ∧ (∃ x y, IsTupOf2 h TO x y) ∧ ItB l h i1 a i ∧ ItB m h i2 b i) where
  mem := by simp
  obj := fun i h st c hc => by
    obtain ⟨hz, hTI, ⟨x, y, hTO⟩, h1, h2⟩ := st
    simp only [List.mem_cons, List.not_mem_nil, or_false] at hc
    rcases hc with q | q | q | q | q
    · rw [q]; exact ⟨_, hz, fun v q => nomatch q⟩
    · rw [q]; exact ⟨_, hTI, fun v q => nomatch q⟩
    · rw [q]; exact ⟨_, hTO, fun v q => nomatch q⟩
    · exact q ▸ itB_obj h1
    · exact q ▸ itB_obj h2
  keep := fun i h h' st k => by
    obtain ⟨hz, hTI, ⟨x, y, hTO⟩, h1, h2⟩ := st
    exact ⟨k z (by simp) _ hz, k TI (by simp) _ hTI, ⟨x, y, k TO (by simp) _ hTO⟩, itB_at h1 fun o q => k i1 (by simp) o q, itB_at h2 fun o q => k i2 (by simp) o q⟩
  item := by
    intro X hP hw hK hc i pins s σ H E I hf st hg
    subst hP hw hK
    obtain ⟨hz, hTI, ⟨x0, y0, hTO⟩, h1, h2⟩ := st
    obtain ⟨xs, ys, x, y, hqx, hqy, hx, hy⟩ := hg
    obtain ⟨its, rv, p⟩ := inv_seqB I hqx
    obtain ⟨its2, rv2, p2⟩ := inv_seqB I hqy
    obtain ⟨u, hu, ru⟩ := rv.get hx
    obtain ⟨u2, hu2, ru2⟩ := rv2.get hy
    have e1 : its.toArray[i]? = some u := by simpa using hu
    have e2 : its2.toArray[i]? = some u2 := by simpa using hu2
    have l1 : i < its.toArray.size := (Array.getElem?_eq_some_iff.mp e1).1
    have l2 : i < its2.toArray.size := (Array.getElem?_eq_some_iff.mp e2).1
    have hzl : z < s.heap.objs.size := Heap.lt_size hz
    refine wpAny_pyNext_zipD2_item D (drawsB (A := X.A.in1) l (show X.A.in1.handled = none from I.ok.hd hc) i1 a n1 its.toArray) (drawsB (A := X.A.in1) m (show X.A.in1.handled = none from I.ok.hd hc) i2 b n2 its2.toArray) hz hTI hTO ⟨h1, p⟩ ⟨h2, p2⟩ l1 l2 fun x1 x2 h' tk px py z' TO' d1 d2 hT hsz hk => ?_
    have ex1 : x1 = u := Option.some.inj (px.symm.trans e1)
    have ex2 : x2 = u2 := Option.some.inj (py.symm.trans e2)
    subst ex1 ex2
    refine ⟨_, rfl, wpAny_letOwnedTupleGo_zip (s := { s with heap := h', toks := tk }) z' fun h'' z'' sb => ?_⟩
    have hT2 : h''.get? s.heap.objs.size = some { cls := .type "tuple", data := .seq #[x1, x2] } := (sb.2 _ (Nat.ne_of_gt hzl)).trans hT
    have new : ObjOk X.prog X.w (upd H s.heap.objs.size (.tup [x, y])) h'' s.heap.objs.size (.tup [x, y]) :=
      ⟨by show 2 ≤ sizeLine; decide, [x1, x2], .cons ru (.cons ru2 .nil), ⟨_, hT2, rfl, _, rfl⟩⟩
    have I1 : Inv X pins σ (upd H s.heap.objs.size (.tup [x, y])) { s with heap := h'', toks := tk } :=
      I.turnedNew (t' := tk) (ch := [z, TI, TO, i1, i2]) (fun c o hb q => (sb.2 c (fun q' => hb (by simp [q']))).trans (hk c o (fun q' => hb (by simp [q'])) (fun q' => hb (by simp [q'])) (fun q' => hb (by simp [q'])) (fun q' => hb (by simp [q'])) q)) hf (Nat.le_refl _) new
    refine ⟨.ref s.heap.objs.size, _, I1, rfl, ⟨_, x, y, rfl, I.hok.fresh (Nat.le_refl _), rfl, fun l hl => by rw [inv_seqB_inj I hl hqx]; exact hx, fun l hl => by rw [inv_seqB_inj I hl hqy]; exact hy⟩, ⟨z'', ?_, ⟨x1, x2, ?_⟩, ?_, ?_⟩, fun c hcm => ?_⟩
    · exact (sb.2 _ D.TIz).trans (hk _ _ D.TIz D.TITO D.TIi1 D.TIi2 hTI)
    · exact (sb.2 _ D.TOz).trans TO'
    · exact itB_at d1.1 fun o q => (sb.2 _ (Ne.symm D.zi1)).trans q
    · exact itB_at d2.1 fun o q => (sb.2 _ (Ne.symm D.zi2)).trans q
    · have hlt : c < s.heap.objs.size := by
        simp only [List.mem_cons, List.not_mem_nil, or_false] at hcm
        rcases hcm with q | q | q | q | q
        · exact q ▸ hzl
        · exact q ▸ Heap.lt_size hTI
        · exact q ▸ Heap.lt_size hTO
        · obtain ⟨_, e, _⟩ := itB_obj h1
          exact q ▸ Heap.lt_size e
        · obtain ⟨_, e, _⟩ := itB_obj h2
          exact q ▸ Heap.lt_size e
      rw [upd_ne (Nat.ne_of_lt hlt)]
      exact (hf c hcm).1
  done := by
    intro X hP hw hK hc i pins s σ H E I hf st hg
    subst hP hw hK
    obtain ⟨hz, hTI, ⟨x0, y0, hTO⟩, h1, h2⟩ := st
    obtain ⟨xs, ys, hqx, hqy, le1, le2, hend⟩ := hg
    obtain ⟨its, rv, p⟩ := inv_seqB I hqx
    obtain ⟨its2, rv2, p2⟩ := inv_seqB I hqy
    have g1 := rv.length
    have g2 := rv2.length
    have z1 : its.toArray.size = xs.length := by simp [g1]
    have z2 : its2.toArray.size = ys.length := by simp [g2]
    exact wpAny_pyNext_zipD2_end D (drawsB (A := X.A.in1) l (show X.A.in1.handled = none from I.ok.hd hc) i1 a n1 its.toArray) (drawsB (A := X.A.in1) m (show X.A.in1.handled = none from I.ok.hd hc) i2 b n2 its2.toArray) hz hTI hTO ⟨h1, p⟩ ⟨h2, p2⟩ (by omega) (by omega) (by omega) fun h' tk hk => ⟨rfl, I.turnedL (t' := tk) (ch := [z, TI, TO, i1, i2]) (fun c o hb q =>
      hk c o (fun q' => hb (by simp [q'])) (fun q' => hb (by simp [q'])) (fun q' => hb (by simp [q'])) (fun q' => hb (by simp [q'])) q) hf⟩
  self := fun A i s Q E st h => wpAny_pyIter_zip st.1 h
def iZipB (K : PySem.W.Frag) (l m : Bool) (ta : TA) : TI := fun σ H R => ta σ H fun vs H1 => ∃ a b xs ys, vs = [.ref a, .ref b] ∧ SqB K l H1 a xs ∧ SqB K m H1 b ys ∧ R (ItzB K l m a b) H1
theorem pi_zipB {X : Cx} {e e2 : Expr} {ta : TA} {p pos tpos : Pos} {elts : List Expr} {kk : Nat} (l m : Bool) (hg : Gl X "zip") (hm : X.mg "zip" = none) (ha : PA X [e, e2] ta)
    (hs : starEach [e, e2] X.env = (false, eval e X.env) :: starEach [e2] X.env := by rfl) (hpl : (backTo pos (starEach [e2] X.env)).any (·.1) = false := by rfl) :
    PI X (.Tuple elts kk tpos) (.Call (.Name "zip" p) [e, e2] [] pos) (iZipB X.K l m ta) := by
  refine ⟨fun pins s σ H R I h => ?_⟩
  refine Call_ (ld_blt I hg hm PyProof.Rows.boot_zip (PyProof.Rows.callWith_type1 (thn (ha.run pos pins s σ H _ I h) fun us s1 ⟨vs, H1, I1, r1, q1⟩ => ?_) hs hpl))
  obtain ⟨a, b, xs, ys, rfl, hqx, hqy, q⟩ := q1
  cases r1 with
  | cons r rr =>
    cases rr with
    | cons r' rr =>
      cases rr
      cases r
      cases r'
      obtain ⟨its, rv, p1⟩ := inv_seqB I1 hqx
      obtain ⟨its2, rv2, p2⟩ := inv_seqB I1 hqy
      have la := ownB_lt p1
      have lb := ownB_lt p2
      have S : ZipSep2 (s1.heap.objs.size + 4) (s1.heap.objs.size + 2) (s1.heap.objs.size + 3) s1.heap.objs.size (s1.heap.objs.size + 1) [s1.heap.objs.size, a] [s1.heap.objs.size + 1, b] :=
        zip_sep2 (N := s1.heap.objs.size) (fp1 := [a]) (fp2 := [b]) (fun c hc => by rw [List.mem_singleton.mp hc]; exact la) (fun c hc => by rw [List.mem_singleton.mp hc]; exact lb)
      refine zip_begins2 (beginsB l a its.toArray) (beginsB m b its2.toArray) p1 p2 fun h' hz hTI hTO h1 h2 hsz hk => wpAny_pyIter_zip hz ?_
      have I2 : Inv X pins σ H1 { s1 with heap := h' } := I1.kept (t' := s1.toks) hk
      refine ⟨s1.heap.objs.size + 4, [s1.heap.objs.size + 4, s1.heap.objs.size + 2, s1.heap.objs.size + 3, s1.heap.objs.size, s1.heap.objs.size + 1], _, _, H1, rfl, I2, turn_zipB S (Nat.ne_of_lt la) (Nat.ne_of_lt (Nat.lt_succ_of_lt lb)), ⟨hz, hTI, ⟨_, _, hTO⟩, itB_new h1, itB_new h2⟩, fun c hcm => ?_, q⟩
      have hle : s1.heap.objs.size ≤ c := by
        simp only [List.mem_cons, List.not_mem_nil, or_false] at hcm
        rcases hcm with z | z | z | z | z
        · rw [z]; exact Nat.le_add_right _ _
        · rw [z]; exact Nat.le_add_right _ _
        · rw [z]; exact Nat.le_add_right _ _
        · rw [z]; exact Nat.le_refl _
        · rw [z]; exact Nat.le_add_right _ _
      exact I1.fpOk hle (I1.hok.fresh hle)
theorem walk_zipB {K : PySem.W.Frag} {l m : Bool} {a b : Addr} {xs ys : List V} {n : Nat} (hn : xs.length = n) (hm : ys.length = n) : Walk (ItzB K l m a b) n (fun H => SqB K l H a xs ∧ SqB K m H b ys) (YPair (fun i => xs[i]?) (fun i => ys[i]?)) := by
  refine ⟨fun i _ hi q => ?_, fun _ q => ⟨xs, ys, q.1, q.2, by omega, by omega, by omega⟩, fun i H v H' _ q y => ?_⟩
  · have h1 : i < xs.length := by omega
    have h2 : i < ys.length := by omega
    exact ⟨xs, ys, xs[i], ys[i], q.1, q.2, by simp [h1], by simp [h2]⟩
  · obtain ⟨T, x, z, h1, h2, h3, h4, h5⟩ := y
    exact ⟨T, x, z, h1, h2, h3, h4 xs q.1, h5 ys q.2⟩
/-- a walked from the number k on, each item in a new pair behind its number -/
def IteB (K : PySem.W.Frag) (l : Bool) (k : Int) (a : Addr) : It :=
  ⟨fun i H => ∃ (xs : List V) (x : V), SqB K l H a xs ∧ xs[i]? = some x, fun i H v H' => ∃ T x, v = .ref T ∧ H T = none ∧ H' = upd H T (.tup [.int (k + (i : Nat)), x]) ∧ ∀ xs, SqB K l H a xs → xs[i]? = some x,
    fun i H => ∃ xs : List V, SqB K l H a xs ∧ xs.length = i⟩
theorem turn_enumB {P : Program} {w : World} {K : PySem.W.Frag} {elts : List Expr} {kk : Nat} {tpos : Pos} (l : Bool) (k : Int) (a e it : Addr) (na : a ≠ it) (ne : e ≠ it) (nea : e ≠ a) :
    Turn P w K (.Tuple elts kk tpos) (IteB K l k a) [e, it] e (fun i h => (∃ old, IsEnum h e it (k + (i : Nat)) old) ∧ ItB l h it a i) where
  mem := by simp
  obj := fun i h st b hb => by
    obtain ⟨⟨old, he⟩, hi⟩ := st
    simp only [List.mem_cons, List.not_mem_nil, or_false] at hb
    rcases hb with z | z
    · rw [z]; exact ⟨_, he, fun v q => nomatch q⟩
    · exact z ▸ itB_obj hi
  keep := fun i h h' st k => let ⟨⟨old, he⟩, hi⟩ := st; ⟨⟨old, k e (by simp) _ he⟩, itB_at hi fun o q => k it (by simp) o q⟩
  item := by
    intro X hP hw hK hc i pins s σ H E I hf st hg
    subst hP hw hK
    obtain ⟨⟨old, he⟩, hit⟩ := st
    obtain ⟨xs, x, hq, hx⟩ := hg
    obtain ⟨its, rv, p⟩ := inv_seqB I hq
    obtain ⟨u, hu, ru⟩ := rv.get hx
    have e1 : its.toArray[i]? = some u := by simpa using hu
    have l1 : i < its.toArray.size := (Array.getElem?_eq_some_iff.mp e1).1
    have hel : e < s.heap.objs.size := Heap.lt_size he
    refine wpAny_pyNext_enum_itemC (drawsB (A := X.A.in1) l (show X.A.in1.handled = none from I.ok.hd hc) it a na its.toArray) he ⟨hit, p⟩ l1 ne (by simp [ne, nea]) fun y h' tk hy ho st' hT hsz hk => ?_
    have ey : y = u := Option.some.inj (hy.symm.trans e1)
    subst ey
    refine ⟨_, rfl, wpAny_letOwnedTupleGo_enum (s := { s with heap := h', toks := tk + 1 }) ho fun h'' he' sb => ?_⟩
    have hT2 : h''.get? s.heap.objs.size = some { cls := .type "tuple", data := .seq #[.int (k + (i : Nat)) tk, y] } := (sb.2 _ (Nat.ne_of_gt hel)).trans hT
    have new : ObjOk X.prog X.w (upd H s.heap.objs.size (.tup [.int (k + (i : Nat)), x])) h'' s.heap.objs.size (.tup [.int (k + (i : Nat)), x]) :=
      ⟨by show 2 ≤ sizeLine; decide, [.int (k + (i : Nat)) tk, y], .cons ⟨_, rfl⟩ (.cons ru .nil), ⟨_, hT2, rfl, _, rfl⟩⟩
    have I1 : Inv X pins σ (upd H s.heap.objs.size (.tup [.int (k + (i : Nat)), x])) { s with heap := h'', toks := tk + 1 } :=
      I.turnedNew (ch := [e, it]) (fun b ob hb q => (sb.2 b (fun z => hb (by simp [z]))).trans (hk b ob (fun z => hb (by simp [z])) (fun z => hb (by simp [z])) q)) hf (Nat.le_refl _) new
    refine ⟨.ref s.heap.objs.size, _, I1, rfl, ⟨_, x, rfl, I.hok.fresh (Nat.le_refl _), rfl, fun ys hy => by rw [inv_seqB_inj I hy hq]; exact hx⟩, ⟨⟨y, ?_⟩, itB_at st'.1 fun o q => (sb.2 it (Ne.symm ne)).trans q⟩, fun b hb => ?_⟩
    · have e2 : k + ((i + 1 : Nat) : Int) = k + (i : Int) + 1 := by omega
      rw [e2]; exact he'
    · have hb' : b < s.heap.objs.size := by
        have hb2 := hb
        simp only [List.mem_cons, List.not_mem_nil, or_false] at hb2
        rcases hb2 with z | z
        · exact z ▸ hel
        · obtain ⟨_, q, _⟩ := itB_obj hit
          exact z ▸ Heap.lt_size q
      rw [upd_ne (Nat.ne_of_lt hb')]
      exact (hf b hb).1
  done := by
    intro X hP hw hK hc i pins s σ H E I hf st hg
    subst hP hw hK
    obtain ⟨⟨old, he⟩, hit⟩ := st
    obtain ⟨xs, hq, hx⟩ := hg
    obtain ⟨its, rv, p⟩ := inv_seqB I hq
    obtain ⟨f0, f1, f2, f3, f4, f5⟩ := hf it (by simp)
    have g1 := rv.length
    have z1 : its.toArray.size = i := by simp [← g1, hx]
    exact wpAny_pyNext_enum_endD (drawsB (A := X.A.in1) l (show X.A.in1.handled = none from I.ok.hd hc) it a na its.toArray) he (by rw [z1]; exact ⟨hit, p⟩) fun h' eb => ⟨rfl, I.turned (t' := s.toks) (fun b o hb q => eb b o hb q) f0 f1 f3 f4 f5⟩
  self := fun A i s Q E st h => let ⟨⟨_, he⟩, _⟩ := st; wpAny_pyIter_enum he h
theorem walk_enumB {K : PySem.W.Frag} {l : Bool} {k : Int} {a : Addr} {xs : List V} : Walk (IteB K l k a) xs.length (fun H => SqB K l H a xs) (YPair (fun i => some (.int (k + (i : Nat)))) (fun i => xs[i]?)) := by
  refine ⟨fun i _ hi q => ⟨xs, xs[i], q, by simp [hi]⟩, fun _ q => ⟨xs, q, rfl⟩, fun i H v H' _ q y => ?_⟩
  obtain ⟨T, x, h1, h2, h3, h4⟩ := y
  exact ⟨T, _, x, h1, h2, h3, rfl, h4 xs q⟩
theorem enumB_ready {X : Cx} {pins : List (Addr × Obj)} {σ : L2.St} {H : Hp} {s : Shared} {h' : Heap} {elts : List Expr} {kk : Nat} {tpos : Pos} {R : It → Hp → Prop} {l : Bool} {a : Addr} {k : Int} (I : Inv X pins σ H s) (la : a < s.heap.objs.size)
    (he : IsEnum h' (s.heap.objs.size + 1) s.heap.objs.size k .none) (hi : h'.get? s.heap.objs.size = some (objB l a)) (hk : ∀ b o, s.heap.get? b = some o → h'.get? b = some o) (q : R (IteB X.K l k a) H) :
    PIE X pins σ (.Tuple elts kk tpos) R (.ref (s.heap.objs.size + 1)) { s with heap := h' } := by
  have I2 : Inv X pins σ H { s with heap := h' } := I.kept (t' := s.toks) hk
  refine ⟨s.heap.objs.size + 1, [s.heap.objs.size + 1, s.heap.objs.size], _, _, H, rfl, I2, turn_enumB l k a (s.heap.objs.size + 1) s.heap.objs.size (Nat.ne_of_lt la) (Nat.succ_ne_self _) (Nat.ne_of_gt (Nat.lt_succ_of_lt la)), ⟨⟨.none, ?_⟩, itB_new hi⟩, fun b hb => ?_, q⟩
  · have e : k + ((0 : Nat) : Int) = k := by omega
    rw [e]; exact he
  · have hle : s.heap.objs.size ≤ b := by
      simp only [List.mem_cons, List.not_mem_nil, or_false] at hb
      rcases hb with z | z
      · rw [z]; exact Nat.le_add_right _ _
      · rw [z]; exact Nat.le_refl _
    exact I.fpOk hle (I.hok.fresh hle)
end FP
set_option Elab.async false
set_option linter.all false
set_option maxRecDepth 100000
set_option maxHeartbeats 2000000
/-! enumerate(e), enumerate(e, start=k) of a list or tuple; a global written tuple. -/
namespace FP
open PySem PySem.Spec PyProof.Rows L2
theorem callWith_tyKw {M : Model} {A : Around} {E : Value → Shared → Prop} {s : Shared} {pos : Pos} {T : String} {first : List Value} {args : List (Bool × Sem Value)} {keywords : List (Option Str × Sem Value)} {Q : Value → Shared → Prop}
    (hplain : args.any (·.1) = false) (hkw : keywords.any (·.1.isNone) = false)
    (h : wpAny M A (evalArgs (.type T) true args keywords) (fun a s₁ => wpAny M A (call (.type T) (first ++ a.pos) a.kw) Q E s₁) E s) :
    wpAny M A (callWith pos (.type T) first args keywords) Q E s := by
  unfold callWith
  refine wpAny_bind (wpAny_holding (wpAny_mono h (fun a s₁ h₁ => wpAny_bind (wpAny_standAt ?_)) fun _ _ x => x))
  simp only [hplain, hkw, Bool.or_false]
  refine wpAny_bind (wpAny_pure ?_)
  exact wpAny_bind (wpAny_mono h₁ (fun r s₂ hr => wpAny_bind (wpAny_holding (wpAny_point (wpAny_pure hr)))) fun _ _ x => x)
def iEnumS (K : PySem.W.Frag) (l : Bool) (ta : TA) (tk : TA) : TI := fun σ H R => ta σ H fun vs H0 => tk σ H0 fun zs H1 => ∃ a xs k, vs = [.ref a] ∧ zs = [.int k] ∧ -(2 ^ 63) ≤ k ∧ k < 2 ^ 63 ∧ SqB K l H1 a xs ∧ R (IteB K l k a) H1
theorem pi_enumS {X : Cx} {e e2 : Expr} {ta tk : TA} {p pos tpos kp : Pos} {elts : List Expr} {kk : Nat} (l : Bool) (hg : Gl X "enumerate") (hm : X.mg "enumerate" = none) (ha : PA X [e] ta) (hk : PK X [⟨some "start", e2, kp⟩] tk)
    (he : backTo pos (starEach [e] X.env) = (false, eval e X.env) :: backTo pos (starEach [] X.env) := by rfl) (hpl : (backTo pos (starEach [e] X.env)).any (·.1) = false := by rfl)
    (hall : (backToKw pos (keywordEach [⟨some "start", e2, kp⟩] X.env)).all (·.1.isSome) = true := by rfl) (hnone : (backToKw pos (keywordEach [⟨some "start", e2, kp⟩] X.env)).any (·.1.isNone) = false := by rfl)
    (hks : (backToKw pos (keywordEach [⟨some "start", e2, kp⟩] X.env)).filterMap (·.1) = [("start" : Str)] := by rfl) :
    PI X (.Tuple elts kk tpos) (.Call (.Name "enumerate" p) [e] [⟨some "start", e2, kp⟩] pos) (iEnumS X.K l ta tk) := by
  refine ⟨fun pins s σ H R I h => ?_⟩
  refine wpAny_Call_Name_kw (ld_blt I hg hm boot_enumerate (callWith_tyKw hpl hnone ?_))
  have hrun : wpAny (model X.prog X.w) X.A (spliced (backTo pos (starEach [e] X.env))) (fun vs s₁ => wpAny (model X.prog X.w) X.A (evalAll ((backToKw pos (keywordEach [⟨some "start", e2, kp⟩] X.env)).map (·.2)))
      (fun kvs s₂ => (fun a s₁ => wpAny (model X.prog X.w) X.A (call (.type "enumerate") ([] ++ a.pos) a.kw) (fun v s1 => wpAny (model X.prog X.w) X.A (pyIter v) (PIE X pins σ (.Tuple elts kk tpos) R) X.xe s1) X.xe s₁) (⟨vs, ((backToKw pos (keywordEach [⟨some "start", e2, kp⟩] X.env)).filterMap (·.1)).zip kvs⟩ : Args) s₂) X.xe s₁) X.xe s := by
    refine thn (ha.run pos pins s σ H _ I h) fun us s1 ⟨vs, H1, I1, r1, q1⟩ => thn (hk.run pos pins s1 σ H1 _ I1 q1) fun ws s2 ⟨zs, H2, I2, r2, q2⟩ => ?_
    obtain ⟨a, xs, k, rfl, rfl, k0, k1, hq, q⟩ := q2
    rw [hks]
    obtain ⟨u, rfl, ru⟩ := vals1 r1
    obtain ⟨u2, rfl, ru2⟩ := vals1 r2
    cases ru
    obtain ⟨t, rfl⟩ := ru2
    obtain ⟨its, rv, p1⟩ := inv_seqB I2 hq
    exact enum_begins_start (beginsB l a its.toArray) p1 k0 k1 fun h' he hi hsz hk => wpAny_pyIter_enum he (enumB_ready I2 (ownB_lt p1) he hi hk q)
  rw [he] at hrun ⊢
  exact evalArgs_kwB hall hrun
end FP
set_option Elab.async false
set_option linter.all false
set_option maxRecDepth 100000
set_option maxHeartbeats 2000000
/-! enumerate(e) of a list or tuple. -/
namespace FP
open PySem PySem.Spec PyProof.Rows L2
theorem enum1_meets {v : Value} {o : Obj} {H : Heap → Prop} (B : Begins v o H) :
    Meets (Builtin.«enumerate.__new__» ⟨[.type "enumerate", v], []⟩) (fun _ R s => H s.heap ∧
      R (.ok (.ret (.ref (s.heap.push o).objs.size))) { s with heap := (s.heap.push o).push { cls := .type "enumerate", data := .fields #[.none, .bool false, .ref s.heap.objs.size, rawInt 0, .none, .none] } }) :=
  .of_wp fun prog w A R s h => by
    obtain ⟨hp, g, d, tk, os⟩ := s; obtain ⟨h1, h⟩ := h
    have hsub := sub_enumerate
    have q1 : ∀ {A' : Around} {E : Value → Shared → Prop} {Q : Value → Shared → Prop}, Q (.ref hp.objs.size) ⟨hp.push o, g, d, tk, os⟩ → wpAny (model prog w) A' (pyIter v) Q E ⟨hp, g, d, tk, os⟩ :=
      fun q => B.iter prog w _ _ ⟨hp, g, d, tk, os⟩ _ h1 q
    wp_walk using q1
    refine wpAny_stack_any fun st => wpAny_pure ?_
    split
    · rename_i c _ _ _ _ _
      cases (c == Value.type "enumerate")
      · wp_walk using q1
        exact ⟨_, rfl, h⟩
      · wp_walk using q1
        exact ⟨_, rfl, h⟩
    · wp_walk using q1
      exact ⟨_, rfl, h⟩
theorem enum1_begins {prog : Program} {w : World} {A : Around} {E : Value → Shared → Prop} {s : Shared} {v : Value} {o : Obj} {H : Heap → Prop} {Q : Value → Shared → Prop} (B : Begins v o H) (h1 : H s.heap)
    (h : ∀ h', IsEnum h' (s.heap.objs.size + 1) s.heap.objs.size 0 .none → h'.get? s.heap.objs.size = some o → h'.objs.size = s.heap.objs.size + 2 → (∀ b o, s.heap.get? b = some o → h'.get? b = some o) → Q (.ref (s.heap.objs.size + 1)) { s with heap := h' }) :
    wpAny (model prog w) A (call (.type "enumerate") [v]) Q E s := by
  refine callType_new F.called_enumerate (by decide) (F.typeCall_enumerate_1 _) (F.newCall_enumerate_1 _) (fun obj => F.args_object_init_2 obj _) F.entry_enumerate_new (enum1_meets B) ⟨h1, ?_⟩
  have hz : (s.heap.push o).objs.size = s.heap.objs.size + 1 := Heap.size_push ..
  show _ ∧ _
  rw [hz]
  have he := Heap.get?_push_size (s.heap.push o) (o := { cls := .type "enumerate", data := .fields #[.none, .bool false, .ref s.heap.objs.size, rawInt 0, .none, .none] }) rfl
  rw [hz] at he
  exact ⟨⟨_, he, rfl⟩, h _ he (Heap.get?_push_of_some _ (Heap.get?_push_size _ B.free)) (by rw [Heap.size_push, hz]) fun b o x => Heap.get?_push_of_some _ (Heap.get?_push_of_some _ x)⟩
def iEnumB (K : PySem.W.Frag) (l : Bool) (ta : TA) : TI := fun σ H R => ta σ H fun vs H1 => ∃ a xs, vs = [.ref a] ∧ SqB K l H1 a xs ∧ R (IteB K l 0 a) H1
theorem pi_enumB {X : Cx} {e : Expr} {ta : TA} {p pos tpos : Pos} {elts : List Expr} {kk : Nat} (l : Bool) (hg : Gl X "enumerate") (hm : X.mg "enumerate" = none) (ha : PA X [e] ta) (hs : starEach [e] X.env = [(false, eval e X.env)] := by rfl) :
    PI X (.Tuple elts kk tpos) (.Call (.Name "enumerate" p) [e] [] pos) (iEnumB X.K l ta) := by
  refine ⟨fun pins s σ H R I h => ?_⟩
  refine Call_ (ld_blt I hg hm boot_enumerate (PyProof.Rows.callWith_type1 (thn (ha.run pos pins s σ H _ I h) fun us s1 ⟨vs, H1, I1, r1, q1⟩ => ?_) hs rfl))
  obtain ⟨a, xs, rfl, hq, q⟩ := q1
  obtain ⟨u, rfl, ru⟩ := vals1 r1
  cases ru
  obtain ⟨its, rv, p1⟩ := inv_seqB I1 hq
  exact enum1_begins (beginsB l a its.toArray) p1 fun h' he hi hsz hk => wpAny_pyIter_enum he (enumB_ready I1 (ownB_lt p1) he hi hk q)
end FP
set_option Elab.async false
set_option linter.all false
set_option maxRecDepth 100000
set_option maxHeartbeats 4000000
/-! is_name, lines_of, fits: their promises. -/
namespace FP
open PySem PySem.Spec PyProof.Rows L2
theorem _root_.L2.Same.new {H H' : Hp} {p : Addr} {o : HO} (a : Same H H') (hp : H' p = none) : Same H (upd H' p o) := fun b u e => (upd_ne (ne_of_none (a b u e) hp)).trans (a b u e)
/-- the built-ins by which the reader goes -/
structure Blt2 (mg : Str → Option Value) : Prop where
  len : mg "len" = none
  all : mg "all" = none
  zip : mg "zip" = none
  enum : mg "enumerate" = none
  list : mg "list" = none
  tuple : mg "tuple" = none
/-- the reader's names -/
structure WordsAt (K : PySem.W.Frag) (mg : Str → Option Value) (aW : Addr) : Prop where
  g : mg "WORDS" = some (.ref aW)
  s : ∀ H, SqT K H aW (wordsL.map V.str)
  l : ∃ t, mg "LONGEST_NAME" = some (.int 12 t)
theorem inV_strs (x : Str) (l : List Str) : inV (.str x) (l.map V.str) = l.contains x := by
  unfold inV
  rw [List.any_map]
  induction l with
  | nil => rfl
  | cons y r ih => 
    rw [List.any_cons, List.contains_cons, ih]
    show ((y == x) || _) = _
    rw [Bool.beq_comm (a := x)]
theorem flat_strs : ∀ l : List Str, (l.map V.str).all flatV = true
  | [] => rfl
  | _ :: r => by
    rw [List.map_cons, List.all_cons, flat_strs r]
    rfl
theorem letter_of (c : Nat) : letter c = (!decide ((⟨#[c]⟩ : Str).cps.toList < ("a" : Str).cps.toList) && !decide (("z" : Str).cps.toList < (⟨#[c]⟩ : Str).cps.toList)) := by
  have e1 : ("a" : Str).cps.toList = [97] := rfl
  have e2 : ("z" : Str).cps.toList = [122] := rfl
  have h : ∀ a b : Nat, decide ([a] < [b]) = decide (a < b) := fun a b => by
    refine decide_eq_decide.mpr ?_
    constructor
    · intro h
      cases h with
      | rel h => exact h
      | cons h => cases h
    · exact fun h => List.Lex.rel h
  rw [e1, e2, h, h]
  unfold letter
  by_cases z1 : c < 97 <;> by_cases z2 : 122 < c <;> simp [z1, z2] <;> omega
/-- True just for names -/
def spIsName : Sp := fun vs H Q _ => ∃ x : Str, vs = [.str x] ∧ x.length ≤ 1000000 ∧ ∀ H', Same H H' → Q (.bl (isName x)) H'
section
variable {P : Program} {w : World} {K : PySem.W.Frag} {mg : Str → Option Value} {base : Heap}
theorem scIN : FnScope ["text", "letter"] ["text"] (defScope sIsName) := ⟨rfl, rfl, rfl, by decide +kernel, rfl, by decide +kernel, by decide +kernel⟩
theorem ok_isName {f aW : Addr} {fd : FuncData} (F : Fun K "is_name" "is_name" sIsName f fd) (B : Blt2 mg) (W : WordsAt K mg aW) : FnOk P w K mg base CX0 1 f fd ["text"] spIsName := by
  obtain ⟨tL, gL⟩ := W.l
  refine F.ok scIN (fun vs H Q E h => ?_) (fun cdv A outer s H vs Q E hr h => ?_)
  · obtain ⟨x, rfl, _⟩ := h
    rfl
  obtain ⟨x, rfl, hx, k⟩ := h
  refine ⟨_, pss_cons (ps_if (PW.pt (pw_or (pt_cmpR op_in_seq (pv 0) (pe_glob (v := .ref aW) (by rfl) W.g rfl) (by rfl))
      (pw_or1 (pt_not (pt_chain op_le op_le pe_int (pe_callB call_len_str (by rfl) B.len boot_len (pa_cons (pv 0) pa_nil)) (pe_glob (v := .int 12) (by rfl) gL ⟨_, rfl⟩)))))) (pss_one (ps_ret pe_bl)) pss_nil)
    (pss_one (ps_ret (pe_callB (cr_all (by rfl)) (by rfl) B.all (by decide +kernel) (pa_cons (pe_lc (own := [("letter", 1)]) (g := gName 1) (by rfl) scIN.nd (pi_str (pv 0)) (blkOk_by (own := [("letter", 1)]) (N := ["text", "letter"]) (sc := defScope sIsName) (by decide +kernel)) (fun _ _ _ _ _ => pg_name (i := 1) scIN.nd rfl (Or.inl rfl))
          (fun _ _ _ _ _ => pts_nil) (fun _ _ _ _ _ => pe_chain op_le_str op_le_str pe_str (pv 1) pe_str)) pa_nil)))), ?_⟩
  refine ⟨_, rfl, aW, _, rfl, .inr (W.s H), rfl, flat_strs _, ?_⟩
  have e0 : (if false = true then !inV (.str x) (wordsL.map V.str) else inV (.str x) (wordsL.map V.str)) = wordsL.contains x := inV_strs x wordsL
  rw [e0]
  have hz : x.length ≤ sizeLine := by rw [sizeLine_eq]; omega
  have hn : isName x = (!(wordsL.contains x) && (decide (1 ≤ x.length) && decide (x.length ≤ 12)) && x.cps.toList.all letter) := rfl
  refine ⟨_, rfl, ?_⟩
  cases hc : wordsL.contains x
  · have case : ∀ (c1 c2 : Bool), c1 = decide (1 ≤ x.length) → c2 = decide (x.length ≤ 12) → (c1 && c2) = false → ∀ H', Same H H' → Q (.bl false) H' := fun c1 c2 e1 e2 e3 H' S => by
      have := k H' S
      rw [hn, ← e1, ← e2, e3, Bool.and_false, Bool.false_and] at this
      exact this
    refine iteF ⟨_, rfl, x, rfl, hz, _, _, rfl, rfl, _, rfl, ?_⟩
    refine ite2 (fun c1 => ?_) fun c1 => ?_
    · refine ⟨_, _, rfl, rfl, _, rfl, ?_⟩
      by_cases c2 : x.length ≤ 12
      · have d2 : decide ((x.length : Int) ≤ 12) = true := decide_eq_true (by omega)
        rw [d2]
        refine iteF ?_
        have h1 : 1 ≤ x.length := by have := of_decide_eq_true c1; omega
        refine ⟨_, rfl, x, rfl, fun D hD => lc_it walk_str (fun n H' => Same H H' ∧ H' D = some (.lst (((x.cps.toList.take n).map letter).map V.bl))) ⟨Same.new (Same.refl H) hD, upd_same⟩ (fun _ _ _ _ => trivial) ?_ ?_⟩
        · rintro n v H' H'' hn' ⟨S1, eD⟩ ⟨rfl, c, hc', rfl⟩
          have hcl : x.cps.toList[n]? = some c := by simpa using hc'
          refine ⟨rfl, ?_⟩
          refine ⟨_, rfl, _, _, rfl, rfl, _, rfl, ?_⟩
          have hfin : ∀ b : Bool, b = letter c → ∃ acc, H'' D = some (.lst acc) ∧ acc.length < sizeLine ∧ (Same H (upd H'' D (.lst (acc ++ [V.bl b]))) ∧ (upd H'' D (.lst (acc ++ [V.bl b]))) D = some (.lst (((x.cps.toList.take (n + 1)).map letter).map V.bl))) := fun b hb => by
            refine ⟨_, eD, ?_, ?_, ?_⟩
            · rw [List.length_map, List.length_map, List.length_take, sizeLine_eq]
              have : x.cps.toList.length = x.length := by simp [Str.length]
              omega
            · intro a o e
              rw [upd_ne (ne_of_none e hD)]
              exact S1 a o e
            · rw [upd_same, List.take_add_one, hcl, hb]
              simp
          cases e1 : decide ((⟨#[c]⟩ : Str).cps.toList < ("a" : Str).cps.toList)
          · refine iteT ⟨_, _, rfl, rfl, hfin _ ?_⟩
            rw [letter_of, e1]
            simp
          · refine iteF (hfin _ ?_)
            rw [letter_of, e1]
            simp
        · rintro H' ⟨S1, eD⟩
          refine ⟨D, x.cps.toList.map letter, rfl, SqL.of ?_, ?_⟩
          · rw [eD, show x.cps.size = x.cps.toList.length from (Array.length_toList).symm, List.take_length]
          · have := k H' S1
            rw [hn, hc, decide_eq_true h1, decide_eq_true c2] at this
            have e : (x.cps.toList.map letter).all id = x.cps.toList.all letter := by rw [List.all_map]; rfl
            rw [e]
            exact this
      · have d2 : decide ((x.length : Int) ≤ 12) = false := decide_eq_false (by omega)
        rw [d2]
        exact iteT (case _ _ rfl rfl (by rw [decide_eq_false c2, Bool.and_false]) H (Same.refl H))
    · refine ⟨_, rfl, iteT (case _ _ rfl rfl ?_ H (Same.refl H))⟩
      have : ¬ 1 ≤ x.length := fun z => c1 (decide_eq_true (by omega))
      rw [decide_eq_false this, Bool.false_and]
  · have : isName x = false := by rw [hn, hc]; rfl
    rw [this] at k
    exact iteT (iteT (k H (Same.refl H)))
end
end FP
set_option Elab.async false
set_option linter.all false
set_option maxRecDepth 100000
set_option maxHeartbeats 4000000
namespace FP
open PySem PySem.Spec PyProof.Rows L2
/-- the lines of a text: a new list -/
def spLines : Sp := fun vs H Q _ => ∃ x : Str, vs = [.str x] ∧ x.length ≤ 1000000 ∧ ∀ l H', H l = none → Same H H' → H' l = some (.lst ((linesM x).map V.str)) → Q (.ref l) H'
/-- whether the words have the form -/
def spFits (K : PySem.W.Frag) : Sp := fun vs H Q _ => ∃ (a b : Addr) (ws fs : List Str), vs = [.ref a, .ref b] ∧ H a = some (.lst (ws.map V.str)) ∧ (∀ H, SqT K H b (fs.map V.str)) ∧ ws.length ≤ 1000000 ∧ fs.length ≤ 1000000 ∧
  ∀ H', Same H H' → Q (.bl (fitsM ws fs)) H'
section
variable {P : Program} {w : World} {K : PySem.W.Frag} {mg : Str → Option Value} {base : Heap}
theorem scLO : FnScope ["text"] ["text"] (defScope sLines) := ⟨rfl, rfl, rfl, by decide +kernel, rfl, by decide +kernel, by decide +kernel⟩
theorem ok_lines {f : Addr} {fd : FuncData} (F : Fun K "lines_of" "lines_of" sLines f fd) : FnOk P w K mg base CX0 1 f fd ["text"] spLines := by
  refine F.ok scLO (fun vs H Q E h => ?_) (fun cdv A outer s H vs Q E hr h => ?_)
  · obtain ⟨x, rfl, _⟩ := h
    rfl
  obtain ⟨x, rfl, hx, k⟩ := h
  refine ⟨_, pss_cons (ps_if (pt_cmpR op_eq (pv 0) pe_str (nomark _)) (pss_one (ps_ret (pe_lst pa_nil))) pss_nil)
    (pss_one (ps_ret (pe_split (pv 0) pe_str))), ?_⟩
  refine ⟨_, rfl, rfl, _, rfl, ?_⟩
  refine ite2 (fun c => ?_) fun c => ?_
  · have e : x = "" := V.str.inj (of_decide_eq_true c)
    refine ⟨Nat.zero_le _, fun l hl => k l _ hl (Same.new (Same.refl H) hl) ?_⟩
    rw [upd_same, e]
    rfl
  · have e : x ≠ "" := fun z => c (decide_eq_true (by rw [z]))
    refine ⟨_, rfl, ⟨_, rfl⟩, x, _, rfl, rfl, rfl, ?_, fun l hl => k l _ hl (Same.new (Same.refl H) hl) ?_⟩
    · rw [sizeLine_eq]; omega
    · rw [upd_same]
      unfold linesM
      rw [if_neg e]
theorem scFI : FnScope ["words", "form", "word", "part"] ["words", "form"] (defScope sFits) := ⟨rfl, rfl, rfl, by decide +kernel, rfl, by decide +kernel, by decide +kernel⟩
theorem ok_fits {f : Addr} {fd : FuncData} (F : Fun K "fits" "fits" sFits f fd) (B : Blt2 mg) : FnOk P w K mg base CX0 1 f fd ["words", "form"] (spFits K) := by
  refine F.ok scFI (fun vs H Q E h => ?_) (fun cdv A outer s H vs Q E hr h => ?_)
  · obtain ⟨a, b, ws, fs, rfl, _⟩ := h
    rfl
  obtain ⟨a, b, ws, fs, rfl, ha, hb, hw, hf, k⟩ := h
  refine ⟨_, pss_cons (ps_if (pt_cmpR op_ne (pe_callB call_len_seq (by rfl) B.len boot_len (pa_cons (pv 0) pa_nil)) (pe_callB call_len_seq (by rfl) B.len boot_len (pa_cons (pv 1) pa_nil)) (nomark _)) (pss_one (ps_ret pe_bl)) pss_nil)
    (pss_one (ps_ret (pe_callB (cr_all (by rfl)) (by rfl) B.all (by decide +kernel) (pa_cons (pe_lc (own := [("word", 2), ("part", 3)]) (g := gTup K 2 (gCons (gName 2) (gCons (gName 3) gNil))) (tt := tYes) (te := tOp (rIn K false) (tVar 3) (tTup (tCons (tC (.str "")) (tCons (tVar 2) tNil)))) (by rfl) scFI.nd (pi_zipB true false (by rfl) B.zip (pa_cons (pv 0) (pa_cons (pv 1) pa_nil))) (blkOk_by (own := [("word", 2), ("part", 3)]) (N := ["words", "form", "word", "part"]) (sc := defScope sFits) (by decide +kernel))
      (fun _ _ _ _ _ => pg_tup (by rfl) (pgs_cons (pg_name (i := 2) scFI.nd rfl (Or.inl rfl)) (pgs_cons (pg_name (i := 3) scFI.nd rfl (Or.inl rfl)) pgs_nil)))
          (fun _ _ _ _ _ => pts_nil) (fun _ _ _ _ _ => pe_cmpR op_in_seq (pv 3) (pe_tup (pa_cons pe_str (pa_cons (pv 2) pa_nil))) (by rfl))) pa_nil)))), ?_⟩
  refine ⟨_, rfl, a, _, rfl, .inl (SqL.of ha), _, rfl, b, _, rfl, .inr (hb H), rfl, _, rfl, ?_⟩
  rw [List.length_map, List.length_map]
  refine ite2 (fun c => ?_) fun c => ?_
  · have hne : ws.length ≠ fs.length := fun z => by
      rw [z] at c
      simp at c
    have e : fitsM ws fs = false := by unfold fitsM; rw [decide_eq_false hne, Bool.false_and]
    rw [e] at k
    exact k H (Same.refl H)
  · have he : ws.length = fs.length := by
      have : decide (V.int (ws.length : Nat) = V.int (fs.length : Nat)) = true := by simpa using c
      have := V.int.inj (of_decide_eq_true this)
      omega
    have hk : fitsM ws fs = ((ws.zip fs).map fun p => p.2 == ("" : Str) || p.2 == p.1).all id := by
      unfold fitsM
      rw [decide_eq_true he, Bool.true_and, List.all_map]
      rfl
    rw [hk] at k
    refine ⟨_, rfl, _, rfl, a, b, _, _, rfl, SqL.of ha, hb H, fun D hD => lc_it (walk_zipB (n := ws.length) (xs := ws.map V.str) (ys := fs.map V.str) (by simp) (by simp [he]))
      (fun n H' => Same H H' ∧ H' D = some (.lst ((((ws.zip fs).map fun p => p.2 == ("" : Str) || p.2 == p.1).take n).map V.bl))) ⟨Same.new (Same.refl H) hD, upd_same⟩ (fun _ H' _ z => ⟨SqL.of (z.1 _ _ ha), hb H'⟩) ?_ ?_⟩
    · rintro n v H' H'' hn' ⟨S1, eD⟩ ⟨T, x, y, rfl, hT, rfl, hx, hy⟩
      have hfn : n < fs.length := by omega
      replace hx : (ws.map V.str)[n]? = some x := hx
      replace hy : (fs.map V.str)[n]? = some y := hy
      rw [List.getElem?_map, List.getElem?_eq_getElem hn'] at hx
      rw [List.getElem?_map, List.getElem?_eq_getElem hfn] at hy
      obtain rfl : V.str ws[n] = x := Option.some.inj hx
      obtain rfl : V.str fs[n] = y := Option.some.inj hy
      have eD2 : (upd H' T (.tup [.str ws[n], .str fs[n]])) D = _ := (upd_ne (ne_of_none eD hT)).trans eD
      refine ⟨T, _, rfl, SqT.of upd_same, rfl, _, _, rfl, _, _, rfl, rfl, rfl, _, rfl, _, rfl, (by show 2 ≤ sizeLine; decide), fun p hp => ⟨p, _, rfl, .inr (SqT.of upd_same), rfl, rfl, _, (upd_ne (ne_of_none eD2 hp)).trans eD2, ?_, ?_, ?_⟩⟩
      · rw [List.length_map, List.length_take, List.length_map, List.length_zip, sizeLine_eq]
        omega
      · intro c o e
        rw [upd_ne (ne_of_none e hD)]
        have e1 := S1 c o e
        have e2 := (upd_ne (o := .tup [.str ws[n], .str fs[n]]) (ne_of_none e1 hT)).trans e1
        exact (upd_ne (ne_of_none e2 hp)).trans e2
      · have e : ((ws.zip fs).map fun p => p.2 == ("" : Str) || p.2 == p.1)[n]? = some (fs[n] == ("" : Str) || fs[n] == ws[n]) := by
          rw [List.getElem?_map, List.getElem?_eq_getElem (by rw [List.length_zip]; omega), List.getElem_zip]
          rfl
        rw [upd_same, List.take_add_one, e, List.map_append]
        have ei : (if false = true then !inV (V.str fs[n]) [V.str "", V.str ws[n]] else inV (V.str fs[n]) [V.str "", V.str ws[n]]) = (fs[n] == ("" : Str) || fs[n] == ws[n]) := by
          show (("" : Str) == fs[n] || (ws[n] == fs[n] || false)) = _
          rw [Bool.or_false, Bool.beq_comm (a := ("" : Str)), Bool.beq_comm (a := ws[n])]
        rw [ei]
        rfl
    · rintro H' ⟨S1, eD⟩
      refine ⟨D, _, rfl, SqL.of ?_, k H' S1⟩
      rw [eD, List.take_of_length_le]
      simp
      omega
end
end FP
set_option Elab.async false
set_option linter.all false
set_option maxRecDepth 100000
set_option maxHeartbeats 4000000
/-! A Row, a Sheet in the heap; what changes of them. -/
namespace FP
open PySem PySem.Spec PyProof.Rows L2
def rowF (m : RowM) (t : Addr) : List (Str × V) := [("word", .str m.word), ("names", .ref t), ("after", .int (m.after : Nat)), ("other", .int (m.other : Nat))]
def RowAt (Cr : Addr) (H : Hp) (r : Addr) (m : RowM) : Prop := ∃ dx t, H r = some (.ins Cr dx (rowF m t)) ∧ H t = some (.tup (m.names.map V.str))
/-- where the parts of a sheet lie -/
structure Pt where
  R : Addr
  h : Addr
  ar : Addr
  n : Addr
  ras : List Addr
def shF (p : Pt) : List (Str × V) := [("rows", .ref p.R), ("homes", .ref p.h), ("around", .ref p.ar), ("_nest", .ref p.n)]
def homesV (l : List (Str × Nat)) : List (Key × V) := l.map fun q => (Sum.inr q.1, V.int (q.2 : Nat))
def aroundV (l : List (Nat × Nat)) : List (Key × V) := l.map fun q => (Sum.inl (q.1 : Int), V.int (q.2 : Nat))
def natsV (l : List Nat) : List V := l.map fun k => V.int (k : Nat)
/-- the sheet M at s, of parts p that are new since H0 -/
structure ShAt (Cr Cs : Addr) (H0 H : Hp) (s : Addr) (p : Pt) (M : ShM) : Prop where
  sh : ∃ dx, H s = some (.ins Cs dx (shF p))
  R : H p.R = some (.lst (p.ras.map V.ref))
  h : H p.h = some (.dK (homesV M.homes))
  ar : H p.ar = some (.dK (aroundV M.around))
  n : H p.n = some (.lst (natsV M.nest))
  len : p.ras.length = M.rows.length
  rows : ∀ (i : Nat) r m, p.ras[i]? = some r → M.rows[i]? = some m → RowAt Cr H r m
  nd : p.ras.Nodup
  Rn : p.R ≠ p.n
  har : p.h ≠ p.ar
  sr : s ∉ p.ras
  fR : H0 p.R = none
  fh : H0 p.h = none
  far : H0 p.ar = none
  fn : H0 p.n = none
  fr : ∀ r ∈ p.ras, H0 r = none
  same : Same H0 H
section
variable {Cr Cs s r a : Addr} {H H' H0 H1 : Hp} {p : Pt} {M : ShM} {m : RowM} {o o' : HO}
theorem RowAt.grow (h : RowAt Cr H r m) (S : Same H H') : RowAt Cr H' r m := by
  obtain ⟨dx, t, e1, e2⟩ := h
  exact ⟨dx, t, S _ _ e1, S _ _ e2⟩
/-- neither an object nor a tuple -/
def plainO : HO → Bool
  | .lst _ => true
  | .dK _ => true
  | _ => false
theorem RowAt.upd (h : RowAt Cr H r m) (ha : H a = some o) (hp : plainO o = true) : RowAt Cr (L2.upd H a o') r m := by
  obtain ⟨dx, t, e1, e2⟩ := h
  refine ⟨dx, t, (upd_ne (ne_of e1 ha ?_)).trans e1, (upd_ne (ne_of e2 ha ?_)).trans e2⟩
  · rintro rfl; cases hp
  · rintro rfl; cases hp
theorem Same.put (S : Same H0 H) (h0 : H0 a = none) : Same H0 (L2.upd H a o) := fun b u e => (upd_ne (ne_of_none e h0)).trans (S b u e)
theorem ShAt.grow (A : ShAt Cr Cs H0 H s p M) (S : Same H H') : ShAt Cr Cs H0 H' s p M :=
  ⟨let ⟨dx, e⟩ := A.sh; ⟨dx, S _ _ e⟩, S _ _ A.R, S _ _ A.h, S _ _ A.ar, S _ _ A.n, A.len, fun i r m h1 h2 => (A.rows i r m h1 h2).grow S, A.nd, A.Rn, A.har, A.sr, A.fR, A.fh, A.far, A.fn, A.fr, A.same.trans S⟩
/-- seen from a later beginning -/
theorem ShAt.root (A : ShAt Cr Cs H0 H s p M) (ha : H a = none) : ShAt Cr Cs (L2.upd H0 a o) (L2.upd H a o) s p M := by
  have B := A.grow (Same.new (o := o) (Same.refl H) ha)
  have ne : ∀ {b u}, H b = some u → H0 b = none → (L2.upd H0 a o) b = none := fun e e0 => (upd_ne (ne_of_none e ha)).trans e0
  refine ⟨B.sh, B.R, B.h, B.ar, B.n, B.len, B.rows, B.nd, B.Rn, B.har, B.sr, ne A.R A.fR, ne A.h A.fh, ne A.ar A.far, ne A.n A.fn, fun r hr => ?_, fun b u e => ?_⟩
  · obtain ⟨i, hi⟩ := List.mem_iff_getElem?.mp hr
    have hl : i < M.rows.length := by rw [← A.len]; exact (List.getElem?_eq_some_iff.mp hi).1
    obtain ⟨dx, t, e1, _⟩ := A.rows i r _ hi (List.getElem?_eq_getElem hl)
    exact ne e1 (A.fr r hr)
  · by_cases z : b = a
    · subst z
      rw [upd_same] at e ⊢
      exact e
    · rw [upd_ne z] at e ⊢
      exact A.same b u e
/-- seen from an earlier beginning -/
theorem ShAt.back (A : ShAt Cr Cs H1 H s p M) (S : Same H0 H1) : ShAt Cr Cs H0 H s p M := by
  have ne : ∀ {b}, H1 b = none → H0 b = none := fun e => S.free e
  exact ⟨A.sh, A.R, A.h, A.ar, A.n, A.len, A.rows, A.nd, A.Rn, A.har, A.sr, ne A.fR, ne A.fh, ne A.far, ne A.fn, fun r hr => ne (A.fr r hr), S.trans A.same⟩
theorem ShAt.setN (A : ShAt Cr Cs H0 H s p M) (l : List Nat) : ShAt Cr Cs H0 (L2.upd H p.n (.lst (natsV l))) s p ⟨M.rows, M.homes, M.around, l⟩ := by
  obtain ⟨dx, es⟩ := A.sh
  refine ⟨⟨dx, (upd_ne (ne_of es A.n (by intro z; cases z))).trans es⟩, (upd_ne A.Rn).trans A.R, (upd_ne (ne_of A.h A.n (by intro z; cases z))).trans A.h, (upd_ne (ne_of A.ar A.n (by intro z; cases z))).trans A.ar, upd_same, A.len, fun i r m h1 h2 => (A.rows i r m h1 h2).upd A.n rfl,
    A.nd, A.Rn, A.har, A.sr, A.fR, A.fh, A.far, A.fn, A.fr, Same.put A.same A.fn⟩
theorem ShAt.setHomes (A : ShAt Cr Cs H0 H s p M) (l : List (Str × Nat)) : ShAt Cr Cs H0 (L2.upd H p.h (.dK (homesV l))) s p ⟨M.rows, l, M.around, M.nest⟩ := by
  obtain ⟨dx, es⟩ := A.sh
  refine ⟨⟨dx, (upd_ne (ne_of es A.h (by intro z; cases z))).trans es⟩, (upd_ne (ne_of A.R A.h (by intro z; cases z))).trans A.R, upd_same, (upd_ne A.har.symm).trans A.ar, (upd_ne (ne_of A.n A.h (by intro z; cases z))).trans A.n, A.len, fun i r m h1 h2 => (A.rows i r m h1 h2).upd A.h rfl,
    A.nd, A.Rn, A.har, A.sr, A.fR, A.fh, A.far, A.fn, A.fr, Same.put A.same A.fh⟩
theorem ShAt.setAround (A : ShAt Cr Cs H0 H s p M) (l : List (Nat × Nat)) : ShAt Cr Cs H0 (L2.upd H p.ar (.dK (aroundV l))) s p ⟨M.rows, M.homes, l, M.nest⟩ := by
  obtain ⟨dx, es⟩ := A.sh
  refine ⟨⟨dx, (upd_ne (ne_of es A.ar (by intro z; cases z))).trans es⟩, (upd_ne (ne_of A.R A.ar (by intro z; cases z))).trans A.R, (upd_ne A.har).trans A.h, upd_same, (upd_ne (ne_of A.n A.ar (by intro z; cases z))).trans A.n, A.len, fun i r m h1 h2 => (A.rows i r m h1 h2).upd A.ar rfl,
    A.nd, A.Rn, A.har, A.sr, A.fR, A.fh, A.far, A.fn, A.fr, Same.put A.same A.far⟩
theorem ShAt.mem (A : ShAt Cr Cs H0 H s p M) (hr : r ∈ p.ras) : ∃ dx t m, H r = some (.ins Cr dx (rowF m t)) := by
  obtain ⟨i, hi⟩ := List.mem_iff_getElem?.mp hr
  have hl : i < M.rows.length := by rw [← A.len]; exact (List.getElem?_eq_some_iff.mp hi).1
  obtain ⟨dx, t, e1, _⟩ := A.rows i r _ hi (List.getElem?_eq_getElem hl)
  exact ⟨dx, t, _, e1⟩
theorem ShAt.addRow (A : ShAt Cr Cs H0 H s p M) (S : Same H H1) (hr : H r = none) (new : RowAt Cr H1 r m) : ShAt Cr Cs H0 (L2.upd H1 p.R (.lst ((p.ras ++ [r]).map V.ref))) s ⟨p.R, p.h, p.ar, p.n, p.ras ++ [r]⟩ ⟨M.rows ++ [m], M.homes, M.around, M.nest⟩ := by
  have B := A.grow S
  obtain ⟨dx, es⟩ := B.sh
  have nr : r ∉ p.ras := fun z => by
    obtain ⟨dx, t, m, e⟩ := A.mem z
    rw [hr] at e; cases e
  have ns : s ≠ r := fun z => by
    obtain ⟨dx, e⟩ := A.sh
    rw [z, hr] at e; cases e
  refine ⟨⟨dx, (upd_ne (ne_of es B.R (by intro z; cases z))).trans es⟩, upd_same, (upd_ne (ne_of B.h B.R (by intro z; cases z))).trans B.h, (upd_ne (ne_of B.ar B.R (by intro z; cases z))).trans B.ar, (upd_ne A.Rn.symm).trans B.n, ?_, fun i r' m' h1 h2 => ?_, ?_,
    A.Rn, A.har, ?_, A.fR, A.fh, A.far, A.fn, ?_, Same.put B.same A.fR⟩
  · rw [List.length_append, List.length_append, A.len]; rfl
  · refine RowAt.upd (o := .lst (p.ras.map V.ref)) ?_ B.R rfl
    by_cases c : i < p.ras.length
    · rw [List.getElem?_append_left c] at h1
      rw [List.getElem?_append_left (by rw [← A.len]; exact c)] at h2
      exact B.rows i r' m' h1 h2
    · have hi : i < (p.ras ++ [r]).length := (List.getElem?_eq_some_iff.mp h1).1
      rw [List.length_append, List.length_singleton] at hi
      have e : i = p.ras.length := by omega
      subst e
      rw [List.getElem?_append_right (Nat.le_refl _), Nat.sub_self] at h1
      rw [A.len, List.getElem?_append_right (Nat.le_refl _), Nat.sub_self] at h2
      cases h1
      cases h2
      exact new
  · rw [List.nodup_append]
    refine ⟨A.nd, by simp, fun x hx y hy => ?_⟩
    rw [List.mem_singleton.mp hy]
    exact fun z => nr (z ▸ hx)
  · rw [List.mem_append, List.mem_singleton]
    rintro (z | z)
    · exact A.sr z
    · exact ns z
  · intro x hx
    rcases List.mem_append.mp hx with z | z
    · exact A.fr x z
    · rw [List.mem_singleton.mp z]
      exact A.same.free hr
theorem ShAt.setRow {i : Nat} {dx t : Addr} {m' : RowM} (A : ShAt Cr Cs H0 H s p M) (h1 : p.ras[i]? = some r) (h2 : M.rows[i]? = some m) (e : H r = some (.ins Cr dx (rowF m t))) (et : H t = some (.tup (m.names.map V.str))) (hn : m'.names = m.names) :
    ShAt Cr Cs H0 (L2.upd H r (.ins Cr dx (rowF m' t))) s p ⟨M.rows.set i m', M.homes, M.around, M.nest⟩ := by
  have hi : i < p.ras.length := (List.getElem?_eq_some_iff.mp h1).1
  have hr : r ∈ p.ras := List.mem_iff_getElem?.mpr ⟨i, h1⟩
  obtain ⟨ds, es⟩ := A.sh
  have ns : s ≠ r := fun z => A.sr (z ▸ hr)
  refine ⟨⟨ds, (upd_ne ns).trans es⟩, (upd_ne (ne_of A.R e (by intro z; cases z))).trans A.R, (upd_ne (ne_of A.h e (by intro z; cases z))).trans A.h, (upd_ne (ne_of A.ar e (by intro z; cases z))).trans A.ar, (upd_ne (ne_of A.n e (by intro z; cases z))).trans A.n, ?_, fun j r' m2 g1 g2 => ?_,
    A.nd, A.Rn, A.har, A.sr, A.fR, A.fh, A.far, A.fn, A.fr, Same.put A.same (A.fr r hr)⟩
  · rw [List.length_set, A.len]
  · have tup : ∀ {b : Addr} {xs : List V}, H b = some (.tup xs) → (L2.upd H r (.ins Cr dx (rowF m' t))) b = some (.tup xs) := fun q => (upd_ne (ne_of q e (by intro z; cases z))).trans q
    by_cases c : j = i
    · subst c
      rw [h1] at g1
      cases g1
      rw [List.getElem?_set_self (by rw [← A.len]; exact hi)] at g2
      cases g2
      exact ⟨dx, t, upd_same, tup (by rw [hn]; exact et)⟩
    · rw [List.getElem?_set_ne (Ne.symm c)] at g2
      obtain ⟨d2, t2, q1, q2⟩ := A.rows j r' m2 g1 g2
      have nr : r' ≠ r := fun z => by
        subst z
        exact c ((List.getElem?_inj (List.getElem?_eq_some_iff.mp g1).1 A.nd).mp (g1.trans h1.symm))
      exact ⟨d2, t2, (upd_ne nr).trans q1, tup q2⟩
end
end FP
set_option Elab.async false
set_option linter.all false
set_option maxRecDepth 100000
set_option maxHeartbeats 4000000
namespace FP
open PySem PySem.Spec PyProof.Rows L2
/-- what the classes are -/
structure ShTxt (K : PySem.W.Frag) (mg : Str → Option Value) (Cr Cs : Addr) : Prop where
  cr : Cls K Cr
  cs : Cls K Cs
  gr : mg "Row" = some (.ref Cr)
  gs : mg "Sheet" = some (.ref Cs)
  rw_ : NoAttr K Cr "word"
  rn : NoAttr K Cr "names"
  ra : NoAttr K Cr "after"
  ro : NoAttr K Cr "other"
  sr : NoAttr K Cs "rows"
  sh : NoAttr K Cs "homes"
  sa : NoAttr K Cs "around"
  sn : NoAttr K Cs "_nest"
/-- a method and its promise -/
structure MDef (P : Program) (w : World) (K : PySem.W.Frag) (mg : Str → Option Value) (base : Heap) (C : Addr) (x : Str) (k : Nat) (ps : List Str) (sp : Sp) : Prop where
  ex : ∃ (f : Addr) (fd : FuncData), Meth K C x f ∧ Binds K fd ps [] ∧ FnOk P w K mg base CX0 k f fd ps sp
/-- a class that is made by this __init__ -/
structure CDef (P : Program) (w : World) (K : PySem.W.Frag) (mg : Str → Option Value) (base : Heap) (C : Addr) (k : Nat) (ps : List Str) (sp : Sp) : Prop where
  ex : ∃ (f : Addr) (fd : FuncData), Mk K C f ∧ Binds K fd ps [] ∧ FnOk P w K mg base CX0 k f fd ps sp
theorem lkR1 (m : RowM) (t : Addr) : (rowF m t).lookup ("word" : Str) = some (.str m.word) := rfl
theorem lkR2 (m : RowM) (t : Addr) : (rowF m t).lookup ("names" : Str) = some (.ref t) := rfl
theorem lkR3 (m : RowM) (t : Addr) : (rowF m t).lookup ("after" : Str) = some (.int (m.after : Nat)) := rfl
theorem lkR4 (m : RowM) (t : Addr) : (rowF m t).lookup ("other" : Str) = some (.int (m.other : Nat)) := rfl
theorem ptR3 (m : RowM) (t : Addr) (k : Nat) : putF "after" (.int (k : Nat)) (rowF m t) = rowF { m with after := k } t := rfl
theorem ptR4 (m : RowM) (t : Addr) (k : Nat) : putF "other" (.int (k : Nat)) (rowF m t) = rowF { m with other := k } t := rfl
theorem lkS1 (p : Pt) : (shF p).lookup ("rows" : Str) = some (.ref p.R) := rfl
theorem lkS2 (p : Pt) : (shF p).lookup ("homes" : Str) = some (.ref p.h) := rfl
theorem lkS3 (p : Pt) : (shF p).lookup ("around" : Str) = some (.ref p.ar) := rfl
theorem lkS4 (p : Pt) : (shF p).lookup ("_nest" : Str) = some (.ref p.n) := rfl
def spRow (Cr : Addr) : Sp := fun vs H Q _ => ∃ (x dx t : Addr) (wd : Str) (k : Nat), vs = [.ref x, .str wd, .ref t, .int (k : Nat)] ∧ H x = some (.ins Cr dx []) ∧
  ∀ H', H' x = some (.ins Cr dx [("word", .str wd), ("names", .ref t), ("after", .int ((k + 1 : Nat) : Int)), ("other", .int ((0 : Nat) : Int))]) → (∀ b, b ≠ x → H' b = H b) → Q .non H'
section
variable {P : Program} {w : World} {K : PySem.W.Frag} {mg : Str → Option Value} {base : Heap} {Cr Cs : Addr}
theorem scRI : FnScope ["self", "word", "names", "number"] ["self", "word", "names", "number"] (defScope mRow_init) := ⟨rfl, rfl, rfl, by decide +kernel, rfl, by decide +kernel, by decide +kernel⟩
theorem ok_rowInit {f : Addr} {fd : FuncData} (F : Fun K "__init__" "Row.__init__" mRow_init f fd) (T : ShTxt K mg Cr Cs) : FnOk P w K mg base CX0 1 f fd ["self", "word", "names", "number"] (spRow Cr) := by
  refine F.ok scRI (fun vs H Q E h => ?_) (fun cdv A outer s H vs Q E hr h => ?_)
  · obtain ⟨x, dx, t, wd, k, rfl, _⟩ := h
    rfl
  obtain ⟨x, dx, t, wd, k, rfl, hx, q⟩ := h
  refine ⟨_, pss_cons (ps_fld (pv 0) (pv 1) rfl) (pss_cons (ps_fld (pv 0) (pv 2) rfl) (pss_cons (ps_fld (pv 0) (pe_op op_add (pv 3) pe_int) rfl) (pss_one (ps_fld (pv 0) pe_int rfl)))), ?_⟩
  refine ⟨_, rfl, _, rfl, x, Cr, dx, _, rfl, hx, T.cr, T.rw_, (by show 0 < 1000; decide), ?_⟩
  refine ⟨_, rfl, _, rfl, x, Cr, dx, _, rfl, upd_same, T.cr, T.rn, (by show 1 < 1000; decide), ?_⟩
  refine ⟨_, rfl, _, _, rfl, rfl, _, rfl, x, Cr, dx, _, rfl, upd_same, T.cr, T.ra, (by show 2 < 1000; decide), ?_⟩
  refine ⟨_, rfl, x, Cr, dx, _, rfl, upd_same, T.cr, T.ro, (by show 3 < 1000; decide), ?_⟩
  exact q _ upd_same fun b hb => by rw [upd_ne hb, upd_ne hb, upd_ne hb, upd_ne hb]
theorem scSC : FnScope ["self"] ["self"] (defScope mSheet_is_closed) := ⟨rfl, rfl, rfl, by decide +kernel, rfl, by decide +kernel, by decide +kernel⟩
def spClosed (Cr Cs : Addr) : Sp := fun vs H Q _ => ∃ (s : Addr) (H0 : Hp) (p : Pt) (M : ShM), vs = [.ref s] ∧ ShAt Cr Cs H0 H s p M ∧ Q (.bl (decide (M.nest.length = 1))) H
theorem natsV_len (l : List Nat) : (natsV l).length = l.length := List.length_map ..
theorem ok_closed {f : Addr} {fd : FuncData} (F : Fun K "is_closed" "Sheet.is_closed" mSheet_is_closed f fd) (T : ShTxt K mg Cr Cs) (B : Blt2 mg) : FnOk P w K mg base CX0 1 f fd ["self"] (spClosed Cr Cs) := by
  refine F.ok scSC (fun vs H Q E h => ?_) (fun cdv A outer s H vs Q E hr h => ?_)
  · obtain ⟨s, H0, p, M, rfl, _⟩ := h
    rfl
  obtain ⟨s, H0, p, M, rfl, A0, q⟩ := h
  obtain ⟨dx, es⟩ := A0.sh
  refine ⟨_, pss_one (ps_ret (pe_cmpR op_eq (pe_callB call_len_seq (by rfl) B.len boot_len (pa_cons (pe_fld (pv 0) rfl) pa_nil)) pe_int (nomark _))), ?_⟩
  refine ⟨_, rfl, s, Cs, dx, _, _, rfl, es, T.cs, T.sn, lkS4 p, p.n, _, rfl, .inl (SqL.of A0.n), rfl, ?_⟩
  have e : decide (V.int ((natsV M.nest).length : Nat) = V.int 1) = decide (M.nest.length = 1) := by
    rw [natsV_len]
    refine decide_eq_decide.mpr ⟨fun z => by have := V.int.inj z; omega, fun z => by rw [z]; rfl⟩
  rw [e]
  exact q
end
end FP
set_option Elab.async false
set_option linter.all false
set_option maxRecDepth 100000
set_option maxHeartbeats 4000000
namespace FP
open PySem PySem.Spec PyProof.Rows L2
/-- the module's constants -/
structure Csts (K : PySem.W.Frag) (mg : Str → Option Value) (aT aP aO : Addr) : Prop where
  cells : ∃ t, mg "MOST_CELLS" = some (.int 5 t)
  open_ : ∃ t, mg "MOST_OPEN" = some (.int 5 t)
  gT : mg "TWO_SIDED" = some (.ref aT)
  sT : ∀ H, SqT K H aT (twoL.map V.str)
  gP : mg "PASSED" = some (.ref aP)
  sP : ∀ H, SqT K H aP (passL.map V.str)
  gO : mg "OPENING" = some (.ref aO)
  sO : ∀ H, SqT K H aO (openL.map V.str)
/-- what holds of a sheet as it is read -/
structure Ok (M : ShM) : Prop where
  lt : ∀ l ∈ M.nest, l < M.rows.length
  ar : ∀ l ∈ M.nest, l ≠ 0 → getN M.around l ≠ none
  hd : M.nest.head? = some 0
  z : ∃ r, M.rows[0]? = some r ∧ r.word = ("" : Str)
  h5 : M.homes.length ≤ 5
  al : M.around.length ≤ M.rows.length
  nl : M.nest.length ≤ 6
theorem last_of {α : Type} {l : List α} {x : α} (h : l.getLast? = some x) : ∃ b, l = b ++ [x] := by
  rw [List.getLast?_eq_some_iff] at h
  exact h
theorem Ok.last {M : ShM} (k : Ok M) : ∃ b l, M.nest = b ++ [l] ∧ M.nest.getLast? = some l ∧ l < M.rows.length := by
  have hd := k.hd
  cases e : M.nest.getLast? with
  | none => rw [List.getLast?_eq_none_iff] at e; rw [e] at hd; cases hd
  | some l =>
    obtain ⟨b, eb⟩ := last_of e
    exact ⟨b, l, eb, rfl, k.lt l (by rw [eb]; simp)⟩
theorem val_homes (l : List (Str × Nat)) (x : Str) : valV (homesV l) (Sum.inr x : Key) = (homeOf l x).map fun n => V.int (n : Nat) := by
  unfold valV homesV homeOf
  rw [List.find?_map]
  have e : ((fun kv : Key × V => decide (kv.1 = Sum.inr x)) ∘ fun q : Str × Nat => (Sum.inr q.1, V.int (q.2 : Nat))) = fun q : Str × Nat => decide (q.1 = x) := by
    funext q
    exact decide_eq_decide.mpr ⟨fun z => Sum.inr.inj z, fun z => congrArg Sum.inr z⟩
  rw [e, Option.map_map, Option.map_map]
  rfl
theorem val_around (l : List (Nat × Nat)) (k : Nat) : valV (aroundV l) (Sum.inl (k : Int) : Key) = (getN l k).map fun n => V.int (n : Nat) := by
  unfold valV aroundV getN
  rw [List.find?_map]
  have e : ((fun kv : Key × V => decide (kv.1 = Sum.inl (k : Int))) ∘ fun q : Nat × Nat => (Sum.inl (q.1 : Int), V.int (q.2 : Nat))) = fun q : Nat × Nat => decide (q.1 = k) := by
    funext q
    exact decide_eq_decide.mpr ⟨fun z => by have := Sum.inl.inj z; omega, fun z => congrArg (fun j : Nat => (Sum.inl (j : Int) : Key)) z⟩
  rw [e, Option.map_map, Option.map_map]
  rfl
theorem put_around (l : List (Nat × Nat)) (k v : Nat) : putK (aroundV l) (Sum.inl (k : Int) : Key) (.int (v : Nat)) = aroundV (putN l k v) := by
  unfold putK aroundV putN
  have e : ∀ q : Nat × Nat, ((Sum.inl (q.1 : Int) : Key) = Sum.inl (k : Int)) ↔ q.1 = k := fun q => ⟨fun z => by have := Sum.inl.inj z; omega, fun z => by rw [z]⟩
  rw [List.any_map]
  have e2 : ((fun kv : Key × V => decide (kv.1 = Sum.inl (k : Int))) ∘ fun q : Nat × Nat => (Sum.inl (q.1 : Int), V.int (q.2 : Nat))) = fun q : Nat × Nat => decide (q.1 = k) := by
    funext q
    exact decide_eq_decide.mpr (e q)
  rw [e2]
  split
  · rw [List.map_map, List.map_map]
    refine List.map_congr_left fun q _ => ?_
    show (if (Sum.inl (q.1 : Int) : Key) = Sum.inl (k : Int) then _ else _) = _
    by_cases c : q.1 = k
    · rw [if_pos ((e q).mpr c)]
      show _ = (fun q : Nat × Nat => ((Sum.inl (q.1 : Int) : Key), V.int (q.2 : Nat))) (if q.1 = k then (q.1, v) else q)
      rw [if_pos c]
    · rw [if_neg (fun z => c ((e q).mp z))]
      show _ = (fun q : Nat × Nat => ((Sum.inl (q.1 : Int) : Key), V.int (q.2 : Nat))) (if q.1 = k then (q.1, v) else q)
      rw [if_neg c]
  · rw [List.map_append]
    rfl
theorem putN_len (l : List (Nat × Nat)) (k v : Nat) : (putN l k v).length ≤ l.length + 1 := by
  unfold putN
  split
  · rw [List.length_map]; omega
  · rw [List.length_append]; simp
theorem inV_nats (x : Nat) (l : List Nat) : inV (.int (x : Nat)) (natsV l) = l.contains x := by
  unfold inV natsV
  rw [List.any_map]
  induction l with
  | nil => rfl
  | cons y r ih =>
    rw [List.any_cons, List.contains_cons, ih]
    show (((y : Int) == (x : Int)) || _) = _
    congr 1
    rw [Bool.eq_iff_iff, beq_iff_eq, beq_iff_eq]
    omega
theorem flat_nats : ∀ l : List Nat, (natsV l).all flatV = true
  | [] => rfl
  | x :: r => by
    show (flatV (.int x) && (natsV r).all flatV) = true
    rw [flat_nats r]
    rfl
section
variable {P : Program} {w : World} {K : PySem.W.Frag} {mg : Str → Option Value} {base : Heap} {Cr Cs aT aP aO : Addr}
def spSeen (Cr Cs : Addr) : Sp := fun vs H Q _ => ∃ (s : Addr) (H0 : Hp) (p : Pt) (M : ShM) (x : Str), vs = [.ref s, .str x] ∧ ShAt Cr Cs H0 H s p M ∧ Q (.bl (seenM M x)) H
theorem scSS : FnScope ["self", "name"] ["self", "name"] (defScope mSheet_is_seen) := ⟨rfl, rfl, rfl, by decide +kernel, rfl, by decide +kernel, by decide +kernel⟩
theorem ok_seen {f : Addr} {fd : FuncData} (F : Fun K "_is_seen" "Sheet._is_seen" mSheet_is_seen f fd) (T : ShTxt K mg Cr Cs) : FnOk P w K mg base CX0 1 f fd ["self", "name"] (spSeen Cr Cs) := by
  refine F.ok scSS (fun vs H Q E h => ?_) (fun cdv A outer s H vs Q E hr h => ?_)
  · obtain ⟨s, H0, p, M, x, rfl, _⟩ := h
    rfl
  obtain ⟨s, H0, p, M, x, rfl, A0, q⟩ := h
  obtain ⟨dx, es⟩ := A0.sh
  have hu := hu_of hr
  refine ⟨_, pss_one (ps_ret (pe_and (pe_cmp (pc_din hu (pv 1) (pe_fld (pv 0) rfl))) (pe_one (pe_cmpR op_in_seq (pe_dget hu (pe_fld (pv 0) rfl) (pv 1) (fun _ _ => rfl)) (pe_fld (pv 0) rfl) (by rfl))))), ?_⟩
  refine ⟨_, rfl, _, rfl, s, Cs, dx, _, _, rfl, es, T.cs, T.sh, lkS2 p, p.h, _, rfl, DGet.k (k := Sum.inr x) A0.h, _, rfl, ?_⟩
  rw [val_homes]
  cases e : homeOf M.homes x with
  | none =>
    have : seenM M x = false := by unfold seenM; rw [e]
    rw [this] at q
    exact iteF q
  | some n =>
    have : seenM M x = M.nest.contains n := by unfold seenM; rw [e]
    rw [this] at q
    refine iteT ⟨_, rfl, s, Cs, dx, _, _, rfl, es, T.cs, T.sh, lkS2 p, ?_⟩
    refine ⟨_, rfl, p.h, V.int (n : Nat), rfl, ?_, ?_⟩
    · have := DGet.k (k := Sum.inr x) A0.h
      rw [val_homes, e] at this
      exact this
    refine ⟨_, rfl, s, Cs, dx, _, _, rfl, es, T.cs, T.sn, lkS4 p, p.n, _, rfl, .inl (SqL.of A0.n), rfl, flat_nats _, ?_⟩
    rw [show (if false = true then !inV (V.int (n : Nat)) (natsV M.nest) else inV (V.int (n : Nat)) (natsV M.nest)) = M.nest.contains n from inV_nats n M.nest]
    exact q
end
end FP
set_option Elab.async false
set_option linter.all false
set_option maxRecDepth 100000
set_option maxHeartbeats 4000000
namespace FP
open PySem PySem.Spec PyProof.Rows L2
theorem neg1 : V.int (-1) = V.int (-1) := rfl
theorem natsV_app (b : List Nat) (l : Nat) : natsV (b ++ [l]) = natsV b ++ [V.int (l : Nat)] := by
  unfold natsV
  rw [List.map_append]
  rfl
theorem atI_nats {l : List Nat} {b : List Nat} {x : Nat} (h : l = b ++ [x]) : atI (natsV l) (-1) = some (V.int (x : Nat)) := by
  rw [h, natsV_app]
  exact atI_last _ _
theorem ShAt.rowsAt {Cr Cs s : Addr} {H0 H : Hp} {p : Pt} {M : ShM} {i : Nat} {m : RowM} (A : ShAt Cr Cs H0 H s p M) (h : M.rows[i]? = some m) : ∃ r dx t, p.ras[i]? = some r ∧ atI (p.ras.map V.ref) ((i : Nat) : Int) = some (V.ref r) ∧ H r = some (.ins Cr dx (rowF m t)) ∧ H t = some (.tup (m.names.map V.str)) := by
  have hi : i < p.ras.length := by rw [A.len]; exact (List.getElem?_eq_some_iff.mp h).1
  have e := List.getElem?_eq_getElem hi
  obtain ⟨dx, t, e1, e2⟩ := A.rows i _ m e h
  exact ⟨_, dx, t, e, atI_nat (by rw [List.getElem?_map, e]; rfl), e1, e2⟩
section
variable {P : Program} {w : World} {K : PySem.W.Frag} {mg : Str → Option Value} {base : Heap} {Cr Cs aT aP aO : Addr}
/-- a step of the sheet by the row number n -/
def spStep (Cr Cs : Addr) (step : ShM → Nat → Option ShM) (pre : ShM → Nat → Prop) : Sp := fun vs H Q _ => ∃ (s : Addr) (n : Nat) (H0 : Hp) (p : Pt) (M : ShM), vs = [.ref s, .int (n : Nat)] ∧ ShAt Cr Cs H0 H s p M ∧ pre M n ∧
  (∀ M', step M n = some M' → ∀ H', ShAt Cr Cs H0 H' s p M' → Q (.bl true) H') ∧ (step M n = none → Q (.bl false) H)
def preOpen (M : ShM) (n : Nat) : Prop := (∃ b l, M.nest = b ++ [l]) ∧ M.around.length ≤ 100000 ∧ M.nest.length ≤ 100000
theorem scOB : FnScope ["self", "number"] ["self", "number"] (defScope mSheet_open_block) := ⟨rfl, rfl, rfl, by decide +kernel, rfl, by decide +kernel, by decide +kernel⟩
theorem ok_open {f : Addr} {fd : FuncData} (F : Fun K "_open_block" "Sheet._open_block" mSheet_open_block f fd) (T : ShTxt K mg Cr Cs) (C : Csts K mg aT aP aO) (B : Blt2 mg) : FnOk P w K mg base CX0 1 f fd ["self", "number"] (spStep Cr Cs openM preOpen) := by
  obtain ⟨tO, gO⟩ := C.open_
  refine F.ok scOB (fun vs H Q E h => ?_) (fun cdv A outer s H vs Q E hr h => ?_)
  · obtain ⟨s, n, H0, p, M, rfl, _⟩ := h
    rfl
  obtain ⟨s, n, H0, p, M, rfl, A0, ⟨⟨b, l, eb⟩, ha, hn⟩, k1, k2⟩ := h
  obtain ⟨dx, es⟩ := A0.sh
  have hu := hu_of hr
  have hlast : M.nest.getLast? = some l := by rw [eb]; simp
  refine ⟨_, pss_cons (ps_if (pt_cmpR op_gt (pe_callB call_len_seq (by rfl) B.len boot_len (pa_cons (pe_fld (pv 0) rfl) pa_nil)) (pe_glob (v := .int 5) (by rfl) gO ⟨_, rfl⟩) (nomark _)) (pss_one (ps_ret pe_bl)) pss_nil)
    (pss_cons (ps_dput hu (pe_fld (pv 0) rfl) (pv 1) (pe_ix ix_list (pe_fld (pv 0) rfl) (pe_un un_neg pe_int) (fun _ _ => rfl)) rfl)
    (pss_cons (ps_expr (pe_bm PySem.F.plainAttrs_list PySem.F.slot_list_append PySem.F.type_list_append mt_append (pe_fld (pv 0) rfl) (pa_cons (pv 1) pa_nil)))
    (pss_one (ps_ret pe_bl)))), ?_⟩
  refine ⟨_, rfl, s, Cs, dx, _, _, rfl, es, T.cs, T.sn, lkS4 p, p.n, _, rfl, .inl (SqL.of A0.n), _, _, rfl, rfl, _, rfl, ?_⟩
  rw [natsV_len]
  have hm : openM M n = if M.nest.length ≤ 5 then some ⟨M.rows, M.homes, putN M.around n l, M.nest ++ [n]⟩ else none := by unfold openM; rw [hlast]
  refine ite2 (fun c => ?_) fun c => ?_
  · have hc : ¬ M.nest.length ≤ 5 := by have := of_decide_eq_true c; omega
    exact k2 (by rw [hm, if_neg hc])
  · have hc : M.nest.length ≤ 5 := by
      by_cases z : M.nest.length ≤ 5
      · exact z
      · exact absurd (decide_eq_true (by omega)) c
    refine ⟨_, rfl, s, Cs, dx, _, _, rfl, es, T.cs, T.sn, lkS4 p, _, rfl, p.n, _, _, _, rfl, rfl, SqL.of A0.n, atI_nats eb, ?_⟩
    refine ⟨_, rfl, s, Cs, dx, _, _, rfl, es, T.cs, T.sa, lkS3 p, _, rfl, p.ar, _, rfl, DPut.k (k := Sum.inl (n : Int)) A0.ar ?_, ?_⟩
    · unfold aroundV
      rw [List.length_map, sizeLine_eq]
      omega
    rw [put_around]
    have A1 := A0.setAround (putN M.around n l)
    obtain ⟨d1, e1⟩ := A1.sh
    refine ⟨_, rfl, s, Cs, d1, _, _, rfl, e1, T.cs, T.sn, lkS4 p, .inl ⟨rfl, _, SqL.of A1.n⟩, _, rfl, p.n, _, _, rfl, rfl, A1.n, ?_, ?_⟩
    · rw [natsV_len, sizeLine_eq]
      show M.nest.length < _
      omega
    · have A2 := A1.setN (M.nest ++ [n])
      rw [natsV_app] at A2
      exact k1 _ (by rw [hm, if_pos hc]) _ A2
end
end FP
set_option Elab.async false
set_option linter.all false
set_option maxRecDepth 100000
set_option maxHeartbeats 4000000
namespace FP
open PySem PySem.Spec PyProof.Rows L2
section
variable {P : Program} {w : World} {K : PySem.W.Frag} {mg : Str → Option Value} {base : Heap} {Cr Cs aT aP aO : Addr}
def preTurn (M : ShM) (n : Nat) : Prop := (∃ b l r, M.nest = b ++ [l] ∧ M.rows[l]? = some r ∧ (twoL.contains r.word = true → getN M.around l ≠ none)) ∧ M.around.length ≤ 100000
theorem scTU : FnScope ["self", "number", "first"] ["self", "number"] (defScope mSheet_turn) := ⟨rfl, rfl, rfl, by decide +kernel, rfl, by decide +kernel, by decide +kernel⟩
theorem ixN_last {n : Nat} (h : 0 < n) : ixN n (-1) = some (n - 1) := by
  unfold ixN
  rw [if_neg (by decide), if_pos (by omega)]
  congr 1
  omega
theorem ok_turn {f : Addr} {fd : FuncData} (F : Fun K "_turn" "Sheet._turn" mSheet_turn f fd) (T : ShTxt K mg Cr Cs) (C : Csts K mg aT aP aO) (B : Blt2 mg) : FnOk P w K mg base CX0 1 f fd ["self", "number"] (spStep Cr Cs turnM preTurn) := by
  refine F.ok scTU (fun vs H Q E h => ?_) (fun cdv A outer s H vs Q E hr h => ?_)
  · obtain ⟨s, n, H0, p, M, rfl, _⟩ := h
    rfl
  obtain ⟨s, n, H0, p, M, rfl, A0, ⟨⟨b, l, m, eb, em, har⟩, ha⟩, k1, k2⟩ := h
  obtain ⟨dx, es⟩ := A0.sh
  have hu := hu_of hr
  have hlast : M.nest.getLast? = some l := by rw [eb]; simp
  refine ⟨_, pss_cons (ps_set (i := 2) scTU.nd rfl (.inl rfl) (pe_ix ix_list (pe_fld (pv 0) rfl) (pe_un un_neg pe_int) (fun _ _ => rfl)))
    (pss_cons (ps_if (pt_cmpR op_notIn_seq (pe_fld (pe_ix ix_list (pe_fld (pv 0) rfl) (pv 2) (fun _ _ => rfl)) rfl) (pe_glob (v := .ref aT) (by rfl) C.gT rfl) (by rfl)) (pss_one (ps_ret pe_bl)) pss_nil)
    (pss_cons (ps_fld (pe_ix ix_list (pe_fld (pv 0) rfl) (pv 2) (fun _ _ => rfl)) (pe_op op_add (pv 1) pe_int) rfl)
    (pss_cons (ps_dput hu (pe_fld (pv 0) rfl) (pv 1) (pe_dget hu (pe_fld (pv 0) rfl) (pv 2) (fun _ _ => rfl)) rfl)
    (pss_cons (ps_asg (pv 1) (pg_sub (pe_fld (pv 0) rfl) (pe_un un_neg pe_int) set_list))
    (pss_one (ps_ret pe_bl)))))), ?_⟩
  obtain ⟨r, dr, t, hr_, eat, er, et⟩ := A0.rowsAt em
  refine ⟨_, rfl, s, Cs, dx, _, _, rfl, es, T.cs, T.sn, lkS4 p, _, rfl, p.n, _, _, _, rfl, rfl, SqL.of A0.n, atI_nats eb, ?_⟩
  refine ⟨_, rfl, s, Cs, dx, _, _, rfl, es, T.cs, T.sr, lkS1 p, _, rfl, p.R, _, _, _, rfl, rfl, SqL.of A0.R, eat, r, Cr, dr, _, _, rfl, er, T.cr, T.rw_, lkR1 m t, aT, _, rfl, .inr (C.sT H), rfl, flat_strs _, _, rfl, ?_⟩
  rw [show (if true = true then !inV (V.str m.word) (twoL.map V.str) else inV (V.str m.word) (twoL.map V.str)) = !twoL.contains m.word from congrArg (!·) (inV_strs m.word twoL)]
  cases hc : twoL.contains m.word with
  | false =>
    refine iteT (k2 ?_)
    unfold turnM
    rw [hlast]
    dsimp only
    rw [em]
    cases getN M.around l <;> simp only [hc] <;> rfl
  | true =>
    obtain ⟨a, ga⟩ : ∃ a, getN M.around l = some a := by
      cases e : getN M.around l with
      | none => exact absurd e (har hc)
      | some a => exact ⟨a, rfl⟩
    have hm : turnM M n = some ⟨setRow M.rows l fun r => { r with other := n + 1 }, M.homes, putN M.around n a, M.nest.dropLast ++ [n]⟩ := by
      unfold turnM
      rw [hlast]
      dsimp only
      rw [em, ga]
      dsimp only
      rw [if_pos hc]
    have hset : setRow M.rows l (fun r => { r with other := n + 1 }) = M.rows.set l { m with other := n + 1 } := by
      unfold setRow
      rw [em]
    rw [hset] at hm
    refine iteF ⟨_, rfl, _, _, rfl, rfl, _, rfl, s, Cs, dx, _, _, rfl, es, T.cs, T.sr, lkS1 p, _, rfl, p.R, _, _, _, rfl, rfl, SqL.of A0.R, eat, r, Cr, dr, _, rfl, er, T.cr, T.ro, (by show 4 < 1000; decide), ?_⟩
    have A1 := A0.setRow (m' := { m with other := n + 1 }) hr_ em er et rfl
    rw [show putF "other" (V.int ((n : Int) + 1)) (rowF m t) = rowF { m with other := n + 1 } t from rfl]
    obtain ⟨d1, e1⟩ := A1.sh
    have g1 := DGet.k (k := Sum.inl (l : Int)) A1.ar
    rw [val_around, ga] at g1
    refine ⟨_, rfl, s, Cs, d1, _, _, rfl, e1, T.cs, T.sa, lkS3 p, _, rfl, p.ar, _, rfl, g1, _, rfl, s, Cs, d1, _, _, rfl, e1, T.cs, T.sa, lkS3 p, _, rfl, p.ar, _, rfl, DPut.k (k := Sum.inl (n : Int)) A1.ar ?_, ?_⟩
    · unfold aroundV
      rw [List.length_map, sizeLine_eq]
      show M.around.length < _
      omega
    rw [put_around]
    have A2 := A1.setAround (putN M.around n a)
    obtain ⟨d2, e2⟩ := A2.sh
    refine ⟨_, rfl, _, rfl, s, Cs, d2, _, _, rfl, e2, T.cs, T.sn, lkS4 p, _, rfl, p.n, _, _, M.nest.length - 1, rfl, rfl, A2.n, ?_, ?_⟩
    · rw [natsV_len]
      refine ixN_last ?_
      show 0 < M.nest.length
      rw [eb]; simp
    · have A3 := A2.setN (M.nest.dropLast ++ [n])
      have e : (natsV M.nest).set (M.nest.length - 1) (V.int (n : Nat)) = natsV (M.nest.dropLast ++ [n]) := by
        rw [eb, natsV_app, List.dropLast_concat, natsV_app, List.length_append, List.length_singleton, Nat.add_sub_cancel]
        rw [show b.length = (natsV b).length from (natsV_len b).symm]
        simp
      rw [← e] at A3
      exact k1 _ hm _ A3
end
end FP
set_option Elab.async false
set_option linter.all false
set_option maxRecDepth 100000
set_option maxHeartbeats 4000000
namespace FP
open PySem PySem.Spec PyProof.Rows L2
section
variable {P : Program} {w : World} {K : PySem.W.Frag} {mg : Str → Option Value} {base : Heap} {Cr Cs aT aP aO : Addr}
def preClose (M : ShM) (n : Nat) : Prop := (∃ b l r, M.nest = b ++ [l] ∧ M.rows[l]? = some r) ∧ n < M.rows.length
theorem scCB : FnScope ["self", "number", "first", "opener"] ["self", "number"] (defScope mSheet_close_block) := ⟨rfl, rfl, rfl, by decide +kernel, rfl, by decide +kernel, by decide +kernel⟩
theorem ok_close {f : Addr} {fd : FuncData} (F : Fun K "_close_block" "Sheet._close_block" mSheet_close_block f fd) (T : ShTxt K mg Cr Cs) : FnOk P w K mg base CX0 1 f fd ["self", "number"] (spStep Cr Cs closeM preClose) := by
  refine F.ok scCB (fun vs H Q E h => ?_) (fun cdv A outer s H vs Q E hr h => ?_)
  · obtain ⟨s, n, H0, p, M, rfl, _⟩ := h
    rfl
  obtain ⟨s, n, H0, p, M, rfl, A0, ⟨⟨b, l, m, eb, em⟩, hn⟩, k1, k2⟩ := h
  obtain ⟨dx, es⟩ := A0.sh
  have hu := hu_of hr
  have hlast : M.nest.getLast? = some l := by rw [eb]; simp
  refine ⟨_, pss_cons (ps_set (i := 2) scCB.nd rfl (.inl rfl) (pe_ix ix_list (pe_fld (pv 0) rfl) (pe_un un_neg pe_int) (fun _ _ => rfl)))
    (pss_cons (ps_if (pt_cmpR op_eq (pv 2) pe_int (nomark _)) (pss_one (ps_ret pe_bl)) pss_nil)
    (pss_cons (ps_set (i := 3) scCB.nd rfl (.inl rfl) (pe_ix ix_list (pe_fld (pv 0) rfl) (pv 2) (fun _ _ => rfl)))
    (pss_cons (ps_if (pt_cmpR op_eq (pe_fld (pv 3) rfl) pe_str (nomark _)) (pss_one (ps_fld (pv 3) (pv 1) rfl)) (pss_one (ps_fld (pv 3) (pe_op op_add (pv 1) pe_int) rfl)))
    (pss_cons (ps_if (pt_cmpR op_eq (pe_fld (pv 3) rfl) pe_str (nomark _)) (pss_one (ps_fld (pe_ix ix_list (pe_fld (pv 0) rfl) (pv 1) (fun _ _ => rfl)) (pv 2) rfl)) pss_nil)
    (pss_cons (ps_expr (pe_bm0 PySem.F.plainAttrs_list PySem.F.slot_list_pop PySem.F.type_list_pop mt_pop (pe_fld (pv 0) rfl)))
    (pss_one (ps_ret pe_bl))))))), ?_⟩
  obtain ⟨r, dr, t, hr_, eat, er, et⟩ := A0.rowsAt em
  refine ⟨_, rfl, s, Cs, dx, _, _, rfl, es, T.cs, T.sn, lkS4 p, _, rfl, p.n, _, _, _, rfl, rfl, SqL.of A0.n, atI_nats eb, ?_⟩
  refine ⟨_, rfl, rfl, _, rfl, ?_⟩
  refine ite2 (fun c => ?_) fun c => ?_
  · have hl : l = 0 := by have := V.int.inj (of_decide_eq_true c); omega
    refine k2 ?_
    unfold closeM
    rw [hlast]
    dsimp only
    rw [em]
    dsimp only
    rw [if_neg (by rw [hl]; simp)]
  have hl : l ≠ 0 := fun z => c (decide_eq_true (by rw [z]; rfl))
  refine ⟨_, rfl, s, Cs, dx, _, _, rfl, es, T.cs, T.sr, lkS1 p, _, rfl, p.R, _, _, _, rfl, rfl, SqL.of A0.R, eat, ?_⟩
  refine ⟨_, rfl, r, Cr, dr, _, _, rfl, er, T.cr, T.rw_, lkR1 m t, rfl, _, rfl, ?_⟩
  -- behind the first if
  let m1 : RowM := if m.word = ("else" : Str) then { m with after := n } else { m with other := n + 1 }
  have hm1 : m1.names = m.names := by show (if _ then _ else _ : RowM).names = _; split <;> rfl
  have hw1 : m1.word = m.word := by show (if _ then _ else _ : RowM).word = _; split <;> rfl
  have A1 := A0.setRow (m' := m1) hr_ em er et hm1
  have hset : setRow M.rows l (fun r => if r.word = ("else" : Str) then { r with after := n } else { r with other := n + 1 }) = M.rows.set l m1 := by
    unfold setRow
    rw [em]
  have hll : l < M.rows.length := (List.getElem?_eq_some_iff.mp em).1
  have hnl : n < (M.rows.set l m1).length := by rw [List.length_set]; exact hn
  have en := List.getElem?_eq_getElem hnl
  generalize (M.rows.set l m1)[n] = mn at en
  have hdrop : (natsV M.nest).dropLast = natsV M.nest.dropLast := by rw [eb, natsV_app, List.dropLast_concat, List.dropLast_concat]
  have hlastV : ∃ y, (natsV M.nest)[(natsV M.nest).length - 1]? = some y := by
    rw [eb, natsV_app]
    exact ⟨V.int (l : Nat), by simp⟩
  obtain ⟨yl, hyl⟩ := hlastV
  have hm : closeM M n = some ⟨if m.word = ("loop" : Str) then (M.rows.set l m1).set n { mn with after := l } else M.rows.set l m1, M.homes, M.around, M.nest.dropLast⟩ := by
    unfold closeM
    rw [hlast]
    dsimp only
    rw [em]
    dsimp only
    rw [if_pos hl, hset]
    unfold setRow
    rw [en]
  refine ite2 (fun cw => ?_) fun cw => ?_
  · have hw : m.word = ("else" : Str) := V.str.inj (of_decide_eq_true cw)
    have em1 : m1 = { m with after := n } := if_pos hw
    refine ⟨_, rfl, _, rfl, r, Cr, dr, _, rfl, er, T.cr, T.ra, (by show 4 < 1000; decide), ?_⟩
    rw [show putF "after" (V.int (n : Nat)) (rowF m t) = rowF m1 t by rw [em1]; rfl]
    obtain ⟨d1, e1⟩ := A1.sh
    refine ⟨_, rfl, r, Cr, dr, _, _, rfl, upd_same, T.cr, T.rw_, lkR1 m1 t, rfl, _, rfl, ?_⟩
    refine ite2 (fun cl => ?_) fun cl => ?_
    · have hw2 : m.word = ("loop" : Str) := hw1.symm.trans (V.str.inj (of_decide_eq_true cl))
      obtain ⟨rn, dn, tn, hrn, eatn, ern, etn⟩ := A1.rowsAt en
      refine ⟨_, rfl, _, rfl, s, Cs, d1, _, _, rfl, e1, T.cs, T.sr, lkS1 p, _, rfl, p.R, _, _, _, rfl, rfl, SqL.of A1.R, eatn, rn, Cr, dn, _, rfl, ern, T.cr, T.ra, (by show 4 < 1000; decide), ?_⟩
      have A2 := A1.setRow (m' := { mn with after := l }) hrn en ern etn rfl
      rw [show putF "after" (V.int (l : Nat)) (rowF mn tn) = rowF { mn with after := l } tn from rfl]
      obtain ⟨d2, e2⟩ := A2.sh
      refine ⟨_, rfl, s, Cs, d2, _, _, rfl, e2, T.cs, T.sn, lkS4 p, .inl ⟨rfl, _, SqL.of A2.n⟩, p.n, _, yl, rfl, rfl, A2.n, hyl, ?_⟩
      have A3 := A2.setN M.nest.dropLast
      rw [← hdrop] at A3
      rw [if_pos hw2] at hm
      exact k1 _ hm _ A3
    · have hw2 : ¬ m.word = ("loop" : Str) := fun z => cl (decide_eq_true (by rw [hw1, z]))
      refine ⟨_, rfl, s, Cs, d1, _, _, rfl, e1, T.cs, T.sn, lkS4 p, .inl ⟨rfl, _, SqL.of A1.n⟩, p.n, _, yl, rfl, rfl, A1.n, hyl, ?_⟩
      have A3 := A1.setN M.nest.dropLast
      rw [← hdrop] at A3
      rw [if_neg hw2] at hm
      exact k1 _ hm _ A3
  · have hw : ¬ m.word = ("else" : Str) := fun z => cw (decide_eq_true (by rw [z]))
    have em1 : m1 = { m with other := n + 1 } := if_neg hw
    refine ⟨_, rfl, _, _, rfl, rfl, _, rfl, r, Cr, dr, _, rfl, er, T.cr, T.ro, (by show 4 < 1000; decide), ?_⟩
    rw [show putF "other" (V.int ((n : Int) + 1)) (rowF m t) = rowF m1 t by rw [em1]; rfl]
    obtain ⟨d1, e1⟩ := A1.sh
    refine ⟨_, rfl, r, Cr, dr, _, _, rfl, upd_same, T.cr, T.rw_, lkR1 m1 t, rfl, _, rfl, ?_⟩
    refine ite2 (fun cl => ?_) fun cl => ?_
    · have hw2 : m.word = ("loop" : Str) := hw1.symm.trans (V.str.inj (of_decide_eq_true cl))
      obtain ⟨rn, dn, tn, hrn, eatn, ern, etn⟩ := A1.rowsAt en
      refine ⟨_, rfl, _, rfl, s, Cs, d1, _, _, rfl, e1, T.cs, T.sr, lkS1 p, _, rfl, p.R, _, _, _, rfl, rfl, SqL.of A1.R, eatn, rn, Cr, dn, _, rfl, ern, T.cr, T.ra, (by show 4 < 1000; decide), ?_⟩
      have A2 := A1.setRow (m' := { mn with after := l }) hrn en ern etn rfl
      rw [show putF "after" (V.int (l : Nat)) (rowF mn tn) = rowF { mn with after := l } tn from rfl]
      obtain ⟨d2, e2⟩ := A2.sh
      refine ⟨_, rfl, s, Cs, d2, _, _, rfl, e2, T.cs, T.sn, lkS4 p, .inl ⟨rfl, _, SqL.of A2.n⟩, p.n, _, yl, rfl, rfl, A2.n, hyl, ?_⟩
      have A3 := A2.setN M.nest.dropLast
      rw [← hdrop] at A3
      rw [if_pos hw2] at hm
      exact k1 _ hm _ A3
    · have hw2 : ¬ m.word = ("loop" : Str) := fun z => cl (decide_eq_true (by rw [hw1, z]))
      refine ⟨_, rfl, s, Cs, d1, _, _, rfl, e1, T.cs, T.sn, lkS4 p, .inl ⟨rfl, _, SqL.of A1.n⟩, p.n, _, yl, rfl, rfl, A1.n, hyl, ?_⟩
      have A3 := A1.setN M.nest.dropLast
      rw [← hdrop] at A3
      rw [if_neg hw2] at hm
      exact k1 _ hm _ A3
end
end FP
set_option Elab.async false
set_option linter.all false
set_option maxRecDepth 100000
set_option maxHeartbeats 4000000
namespace FP
open PySem PySem.Spec PyProof.Rows L2
theorem row_made {Cr : Addr} {H Hq H' : Hp} {x dx t : Addr} {names : List Str} {wd : Str} {k : Nat} (S : Same H Hq) (et : Hq t = some (.tup (names.map V.str))) (nx : Hq x = none) (nd : Hq dx = none)
    (e1 : H' x = some (.ins Cr dx [("word", .str wd), ("names", .ref t), ("after", .int ((k + 1 : Nat) : Int)), ("other", .int ((0 : Nat) : Int))])) (e2 : ∀ b, b ≠ x → H' b = (upd (upd Hq dx (.own x)) x (.ins Cr dx [])) b) :
    Same H H' ∧ RowAt Cr H' x ⟨wd, names, k + 1, 0⟩ := by
  have S2 : Same Hq H' := fun b u e => by
    rw [e2 b (ne_of_none e nx), upd_ne (ne_of_none e nx), upd_ne (ne_of_none e nd)]
    exact e
  exact ⟨S.trans S2, dx, t, e1, S2 _ _ et⟩
theorem addNames_snoc (n : Nat) : ∀ (xs : List Str) (homes : List (Str × Nat)) (x : Str), addNames n homes (xs ++ [x]) = (addNames n homes xs).bind fun h => addName n h x
  | [], homes, x => by
    show (addName n homes x).bind (fun h => addNames n h []) = addName n homes x
    cases addName n homes x <;> rfl
  | y :: r, homes, x => by
    show (addName n homes y).bind (fun h => addNames n h (r ++ [x])) = ((addName n homes y).bind fun h => addNames n h r).bind fun h => addName n h x
    cases addName n homes y with
    | none => rfl
    | some h => exact addNames_snoc n r h x
theorem addNames_stop (n : Nat) : ∀ (xs : List Str) (homes : List (Str × Nat)) (i : Nat), addNames n homes (xs.take i) = none → addNames n homes xs = none
  | [], _, i, h => by rw [List.take_nil] at h; exact h
  | _ :: _, homes, 0, h => by cases h
  | y :: r, homes, i + 1, h => by
    show (addName n homes y).bind (fun h => addNames n h r) = none
    have h' : (addName n homes y).bind (fun h => addNames n h (r.take i)) = none := h
    cases e : addName n homes y with
    | none => rfl
    | some g =>
      rw [e] at h'
      exact addNames_stop n r g i h'
theorem addNames_len (n : Nat) : ∀ (xs : List Str) (homes h : List (Str × Nat)), addNames n homes xs = some h → homes.length ≤ 5 → h.length ≤ 5
  | [], homes, h, e, l => by cases e; exact l
  | y :: r, homes, h, e, l => by
    have e' : (addName n homes y).bind (fun h => addNames n h r) = some h := e
    cases ey : addName n homes y with
    | none => rw [ey] at e'; cases e'
    | some g =>
      rw [ey] at e'
      refine addNames_len n r g h e' ?_
      unfold addName at ey
      split at ey
      · rename_i c
        cases ey
        rw [List.length_append, List.length_singleton]
        have := c.2.2
        omega
      · cases ey
section
variable {P : Program} {w : World} {K : PySem.W.Frag} {mg : Str → Option Value} {base : Heap} {Cr Cs aT aP aO : Addr}
/-- the sheet takes something, or it is wrong -/
def Took (Cr Cs : Addr) (H0 : Hp) (s : Addr) (r : Option ShM) (Q : VK) : Prop :=
  (∀ M', r = some M' → ∀ p' H', ShAt Cr Cs H0 H' s p' M' → Q (.bl true) H') ∧ (r = none → ∀ H', Same H0 H' → Q (.bl false) H')
def spDeclare (Cr Cs : Addr) : Sp := fun vs H Q _ => ∃ (s a : Addr) (names : List Str) (H0 : Hp) (p : Pt) (M : ShM), vs = [.ref s, .ref a] ∧ ShAt Cr Cs H0 H s p M ∧ Ok M ∧ H0 a = some (.lst (names.map V.str)) ∧
  names.length ≤ 100000 ∧ (∀ x ∈ names, x.length ≤ 1000000) ∧ M.rows.length ≤ 100000 ∧ Took Cr Cs H0 s (declareM M names) Q
theorem scDE : FnScope ["self", "names", "number", "name"] ["self", "names"] (defScope mSheet_declare) := ⟨rfl, rfl, rfl, by decide +kernel, rfl, by decide +kernel, by decide +kernel⟩
theorem ok_declare {f : Addr} {fd : FuncData} (F : Fun K "_declare" "Sheet._declare" mSheet_declare f fd) (T : ShTxt K mg Cr Cs) (C : Csts K mg aT aP aO) (B : Blt2 mg) (D : Def P w K mg base "is_name" 1 ["text"] spIsName) (DR : CDef P w K mg base Cr 1 ["self", "word", "names", "number"] (spRow Cr)) :
    FnOk P w K mg base CX0 3 f fd ["self", "names"] (spDeclare Cr Cs) := by
  obtain ⟨fD, fdD, gD, kD, bD, GD⟩ := D.ex
  obtain ⟨fR, fdR, mR, bR, GR⟩ := DR.ex
  obtain ⟨tC5, gC5⟩ := C.cells
  refine F.ok scDE (fun vs H Q E h => ?_) (fun cdv A outer s H vs Q E hr h => ?_)
  · obtain ⟨s, a, names, H0, p, M, rfl, _⟩ := h
    rfl
  obtain ⟨s, a, names, H0, p, M, rfl, A0, O, ea0, hl, hx, hrl, k1, k2⟩ := h
  obtain ⟨dx, es⟩ := A0.sh
  have hu := hu_of hr
  have ea := A0.same _ _ ea0
  obtain ⟨b, l, eb, hlast, hll⟩ := O.last
  refine ⟨_, pss_cons (ps_set (i := 2) scDE.nd rfl (.inl rfl) (pe_callB call_len_seq (by rfl) B.len boot_len (pa_cons (pe_fld (pv 0) rfl) pa_nil)))
    (pss_cons (ps_if (PW.pt (pw_or (pt_cmpR op_eq (pe_callB call_len_seq (by rfl) B.len boot_len (pa_cons (pv 1) pa_nil)) pe_int (nomark _)) (pw_or1 (pt_cmpR op_ne (pe_ix ix_list (pe_fld (pv 0) rfl) (pe_un un_neg pe_int) (fun _ _ => rfl)) (pe_op op_sub (pv 2) pe_int) (nomark _))))) (pss_one (ps_ret pe_bl)) pss_nil)
    (pss_cons (ps_for PassesOwn.never rfl (pi_list (pv 1)) (pg_name (i := 3) scDE.nd rfl (Or.inl rfl))
      (pss_cons (ps_if (PW.pt (pw_or (pt_not (pt_val (pe_call GD (hr.mono (by decide)) rfl gD kD bD .nil pass0 (pa_cons (pv 3) pa_nil)))) (pw_or (pt_cmp (pc_din hu (pv 3) (pe_fld (pv 0) rfl)))
          (pw_or1 (pt_cmpR op_eq (pe_callB call_lenD (by rfl) B.len boot_len (pa_cons (pe_fld (pv 0) rfl) pa_nil)) (pe_glob (v := .int 5) (by rfl) gC5 ⟨_, rfl⟩) (nomark _)))))) (pss_one (ps_ret pe_bl)) pss_nil)
        (pss_one (ps_dput hu (pe_fld (pv 0) rfl) (pv 3) (pe_op op_sub (pv 2) pe_int) rfl))))
    (pss_cons (ps_expr (pe_bm PySem.F.plainAttrs_list PySem.F.slot_list_append PySem.F.type_list_append mt_append (pe_fld (pv 0) rfl) (pa_cons (pe_make mR GR hr rfl T.gr bR .nil pass0 (pa_cons pe_str (pa_cons (pe_callTy call_tuple_of (by rfl) B.tuple (by decide +kernel) (pa_cons (pv 1) pa_nil)) (pa_cons (pv 2) pa_nil)))) pa_nil)))
    (pss_one (ps_ret pe_bl))))), ?_⟩
  have h0r : 0 < M.rows.length := by
    obtain ⟨r0, e0, _⟩ := O.z
    exact (List.getElem?_eq_some_iff.mp e0).1
  refine ⟨_, rfl, s, Cs, dx, _, _, rfl, es, T.cs, T.sr, lkS1 p, p.R, _, rfl, .inl (SqL.of A0.R), ?_⟩
  rw [show (p.ras.map V.ref).length = M.rows.length by rw [List.length_map, A0.len]]
  refine ⟨_, rfl, a, _, rfl, .inl (SqL.of ea), rfl, _, rfl, ?_⟩
  rw [List.length_map]
  have hm : declareM M names = if names ≠ [] ∧ M.nest.getLast? = some (M.rows.length - 1) then (addNames (M.rows.length - 1) M.homes names).map fun h => ⟨M.rows ++ [⟨"local", names, M.rows.length + 1, 0⟩], h, M.around, M.nest⟩ else none := rfl
  refine ite2 (fun c => ?_) fun c => ?_
  · have hn : names = [] := List.eq_nil_of_length_eq_zero (by have := V.int.inj (of_decide_eq_true c); omega)
    exact iteT (k2 (by rw [hm, if_neg (fun z => z.1 hn)]) _ A0.same)
  have hn : names ≠ [] := fun z => c (decide_eq_true (by rw [z]; rfl))
  refine ⟨_, rfl, s, Cs, dx, _, _, rfl, es, T.cs, T.sn, lkS4 p, _, rfl, p.n, _, _, _, rfl, rfl, SqL.of A0.n, atI_nats eb, _, rfl, _, _, rfl, rfl, rfl, _, rfl, ?_⟩
  refine ite2 (fun c2 => ?_) fun c2 => ?_
  · have hne : l ≠ M.rows.length - 1 := fun z => by
      have e : V.int (l : Nat) = V.int ((M.rows.length : Int) - 1) := congrArg V.int (by omega)
      rw [decide_eq_true e] at c2
      cases c2
    refine k2 ?_ _ A0.same
    rw [hm, if_neg (fun z => hne (by have := hlast.symm.trans z.2; cases this; rfl))]
  have hle : l = M.rows.length - 1 := by
    have e : decide (V.int (l : Nat) = V.int ((M.rows.length : Int) - 1)) = true := by simpa using c2
    have := V.int.inj (of_decide_eq_true e)
    omega
  have hm2 : declareM M names = (addNames (M.rows.length - 1) M.homes names).map fun h => ⟨M.rows ++ [⟨"local", names, M.rows.length + 1, 0⟩], h, M.around, M.nest⟩ := by
    rw [hm, if_pos ⟨hn, by rw [hlast, hle]⟩]
  refine ⟨_, rfl, a, rfl, ⟨_, SqL.of ea⟩, for_it (walk_list (xs := names.map V.str)) (fun i σ H' => ∃ hs, (∃ z, σ = [some (.ref s), some (.ref a), some (.int (M.rows.length : Nat)), z]) ∧ addNames (M.rows.length - 1) M.homes (names.take i) = some hs ∧ ShAt Cr Cs H0 H' s p ⟨M.rows, hs, M.around, M.nest⟩)
    ⟨M.homes, ⟨none, rfl⟩, rfl, A0⟩ (fun i σ H' _ z => ?_) ?_ ?_⟩
  · obtain ⟨hs, _, _, A1⟩ := z
    exact SqL.of (A1.same _ _ ea0)
  · rintro i x σ H' H'' hi ⟨hs, ⟨z, rfl⟩, eh, A1⟩ ⟨rfl, hxi⟩
    rw [List.length_map] at hi
    rw [List.getElem?_map, List.getElem?_eq_getElem hi] at hxi
    obtain rfl : V.str names[i] = x := Option.some.inj hxi
    have hmem : names[i] ∈ names := List.getElem_mem hi
    have htk : names.take (i + 1) = names.take i ++ [names[i]] := by rw [List.take_add_one, List.getElem?_eq_getElem hi]; rfl
    have hnx : addNames (M.rows.length - 1) M.homes (names.take (i + 1)) = addName (M.rows.length - 1) hs names[i] := by rw [htk, addNames_snoc, eh]; rfl
    have hadd : addName (M.rows.length - 1) hs names[i] = if isName names[i] = true ∧ homeOf hs names[i] = none ∧ hs.length ≠ 5 then some (hs ++ [(names[i], M.rows.length - 1)]) else none := rfl
    have bad : ¬ (isName names[i] = true ∧ homeOf hs names[i] = none ∧ hs.length ≠ 5) → declareM M names = none := fun z => by
      rw [hm2, addNames_stop _ names _ (i + 1) (by rw [hnx, hadd, if_neg z])]
      rfl
    refine ⟨_, rfl, names[i], rfl, hx _ hmem, fun H2 S2 => ?_⟩
    have A2 := A1.grow S2
    refine ⟨_, rfl, ?_⟩
    cases e1 : isName names[i] with
    | false => exact iteT (k2 (bad fun z => by rw [e1] at z; exact Bool.noConfusion z.1) _ A2.same)
    | true =>
      obtain ⟨d2, es2⟩ := A2.sh
      refine iteF ⟨_, rfl, _, rfl, s, Cs, d2, _, _, rfl, es2, T.cs, T.sh, lkS2 p, p.h, _, rfl, DGet.k (k := Sum.inr names[i]) A2.h, _, rfl, ?_⟩
      rw [val_homes]
      cases e2 : homeOf hs names[i] with
      | some g => exact iteT (k2 (bad fun z => by rw [e2] at z; cases z.2.1) _ A2.same)
      | none =>
        refine iteF ⟨_, rfl, s, Cs, d2, _, _, rfl, es2, T.cs, T.sh, lkS2 p, p.h, _, rfl, A2.h, rfl, _, rfl, ?_⟩
        have hsl : (homesV hs).length = hs.length := List.length_map ..
        have hs5 : hs.length ≤ 5 := addNames_len _ _ _ _ eh O.h5
        rw [hsl]
        refine ite2 (fun c3 => ?_) fun c3 => ?_
        · have : hs.length = 5 := by have := V.int.inj (of_decide_eq_true c3); omega
          exact k2 (bad fun z => z.2.2 this) _ A2.same
        have h5 : hs.length ≠ 5 := fun z => c3 (decide_eq_true (by rw [z]; rfl))
        refine ⟨_, rfl, _, _, rfl, rfl, _, rfl, s, Cs, d2, _, _, rfl, es2, T.cs, T.sh, lkS2 p, _, rfl, p.h, _, rfl, DPut.k (k := Sum.inr names[i]) A2.h (by show (homesV hs).length < _; rw [hsl, sizeLine_eq]; omega), ?_⟩
        refine ⟨hs ++ [(names[i], M.rows.length - 1)], ⟨_, rfl⟩, by rw [hnx, hadd, if_pos ⟨e1, e2, h5⟩], ?_⟩
        have A3 := A2.setHomes (hs ++ [(names[i], M.rows.length - 1)])
        have ep : putK (homesV hs) (Sum.inr names[i] : Key) (V.int ((M.rows.length : Int) - 1)) = homesV (hs ++ [(names[i], M.rows.length - 1)]) := by
          rw [putK_new _ (by rw [val_homes, e2]; rfl)]
          unfold homesV
          rw [List.map_append, show ((M.rows.length : Int) - 1) = ((M.rows.length - 1 : Nat) : Int) by omega]
          rfl
        rw [← ep] at A3
        exact A3
  · rintro σ H' ⟨hs, ⟨z, rfl⟩, eh, A1⟩
    rw [List.length_map, List.take_length] at eh
    obtain ⟨d1, es1⟩ := A1.sh
    have ea1 := A1.same _ _ ea0
    refine ⟨_, rfl, s, Cs, d1, _, _, rfl, es1, T.cs, T.sr, lkS1 p, .inl ⟨rfl, _, SqL.of A1.R⟩, _, rfl, a, _, rfl, .inl ⟨SqL.of ea1, fun q hq => ?_⟩⟩
    have nR : q ≠ p.R := (ne_of_none A1.R hq).symm
    refine ⟨_, rfl, fun x dx' nx ndx nex => ⟨x, dx', q, _, M.rows.length, rfl, upd_same, fun H3 e1 e2 => ⟨rfl, ?_⟩⟩⟩
    obtain ⟨S3, new⟩ := row_made (names := names) (Same.new (o := .tup (names.map V.str)) (Same.refl H') hq) upd_same nx ndx e1 e2
    have nx' : H' x = none := (Same.new (o := .tup (names.map V.str)) (Same.refl H') hq).free nx
    have A2 := A1.addRow S3 nx' new
    refine ⟨p.R, _, _, rfl, rfl, S3 _ _ A1.R, ?_, ?_⟩
    · rw [List.length_map, A1.len, sizeLine_eq]
      show M.rows.length < _
      omega
    · rw [List.map_append] at A2
      refine k1 _ ?_ _ _ A2
      rw [hm2, eh]
      rfl
end
end FP
set_option Elab.async false
set_option linter.all false
set_option maxRecDepth 100000
set_option maxHeartbeats 4000000
namespace FP
open PySem PySem.Spec PyProof.Rows L2
theorem getN_put (l : List (Nat × Nat)) (k v j : Nat) : getN (putN l k v) j = if j = k then some v else getN l j := by
  have h1 := val_around (putN l k v) j
  rw [← put_around] at h1
  have key : ∀ (d : List (Nat × Nat)), getN (d.map fun p => if p.1 = k then (p.1, v) else p) j = if j = k then (getN d k).map (fun _ => v) else getN d j := by
    intro d
    induction d with
    | nil => by_cases c : j = k <;> simp [getN, c]
    | cons p r ih =>
      unfold getN at ih ⊢
      rw [List.map_cons, List.find?_cons, List.find?_cons, List.find?_cons]
      by_cases c1 : p.1 = k
      · by_cases c2 : j = k
        · simp [c1, c2]
        · have : ¬ k = j := fun z => c2 z.symm
          simp only [c1, if_true, this, decide_false, ih, c2, if_false]
      · by_cases c2 : p.1 = j
        · have : ¬ j = k := fun z => c1 (c2.trans z)
          simp [c1, c2, this]
        · simp only [c1, if_false, c2, decide_false, ih]
  unfold putN
  split
  · rename_i c
    rw [key]
    by_cases e : j = k
    · rw [if_pos e, if_pos e]
      obtain ⟨q, hq, hk⟩ := List.any_eq_true.mp c
      have : getN l k ≠ none := by
        unfold getN
        intro z
        rw [Option.map_eq_none_iff, List.find?_eq_none] at z
        exact z q hq hk
      cases eg : getN l k with
      | none => exact absurd eg this
      | some _ => rfl
    · rw [if_neg e, if_neg e]
  · rename_i c
    unfold getN
    rw [List.find?_append]
    by_cases e : j = k
    · have : l.find? (fun p => decide (p.1 = j)) = none := by
        rw [List.find?_eq_none]
        intro q hq hk
        exact c (List.any_eq_true.mpr ⟨q, hq, by rw [e] at hk; exact hk⟩)
      rw [this, if_pos e]
      simp [e]
    · rw [if_neg e]
      have : ¬ k = j := fun z => e z.symm
      cases l.find? (fun p => decide (p.1 = j)) <;> simp [this]
/-- a row more -/
theorem Ok.row {M : ShM} (O : Ok M) (m : RowM) : Ok ⟨M.rows ++ [m], M.homes, M.around, M.nest⟩ := by
  refine ⟨fun l hl => ?_, O.ar, O.hd, ?_, O.h5, ?_, O.nl⟩
  · have := O.lt l hl
    show l < (M.rows ++ [m]).length
    rw [List.length_append]; omega
  · obtain ⟨r, e, hw⟩ := O.z
    refine ⟨r, ?_, hw⟩
    show (M.rows ++ [m])[0]? = _
    rw [List.getElem?_append_left (List.getElem?_eq_some_iff.mp e).1]
    exact e
  · show M.around.length ≤ (M.rows ++ [m]).length
    have := O.al
    rw [List.length_append]; omega
theorem Ok.declare {M M' : ShM} {names : List Str} (O : Ok M) (h : declareM M names = some M') : Ok M' ∧ M'.rows.length = M.rows.length + 1 := by
  unfold declareM at h
  split at h
  · cases e : addNames (M.rows.length - 1) M.homes names with
    | none => rw [e] at h; cases h
    | some hs =>
      rw [e] at h
      obtain rfl := Option.some.inj h
      have O1 := O.row ⟨"local", names, M.rows.length + 1, 0⟩
      exact ⟨⟨O1.lt, O1.ar, O1.hd, O1.z, addNames_len _ _ _ _ e O.h5, O1.al, O1.nl⟩, by simp⟩
  · cases h
/-- what holds ahead of a block's step: as Ok, and room for one entry of around -/
structure Ok1 (M : ShM) : Prop extends Ok M where
  a1 : M.around.length + 1 ≤ M.rows.length
theorem Ok.row1 {M : ShM} (O : Ok M) (m : RowM) : Ok1 ⟨M.rows ++ [m], M.homes, M.around, M.nest⟩ :=
  ⟨O.row m, by show M.around.length + 1 ≤ (M.rows ++ [m]).length; have := O.al; rw [List.length_append, List.length_singleton]; omega⟩
theorem Ok1.open_ {M M' : ShM} {n : Nat} (O : Ok1 M) (hn : n < M.rows.length) (h : openM M n = some M') : Ok M' ∧ M'.rows.length = M.rows.length := by
  obtain ⟨b, l, eb, hlast, hll⟩ := O.toOk.last
  unfold openM at h
  rw [hlast] at h
  dsimp only at h
  split at h
  · rename_i c
    obtain rfl := Option.some.inj h
    refine ⟨⟨fun k hk => ?_, fun k hk k0 => ?_, ?_, O.z, O.h5, ?_, ?_⟩, rfl⟩
    · rcases List.mem_append.mp hk with z | z
      · exact O.lt k z
      · rw [List.mem_singleton.mp z]; exact hn
    · show getN (putN M.around n l) k ≠ none
      rw [getN_put]
      split
      · exact Option.some_ne_none _
      · rename_i z
        rcases List.mem_append.mp hk with y | y
        · exact O.ar k y k0
        · exact absurd (List.mem_singleton.mp y) z
    · show (M.nest ++ [n]).head? = some 0
      have hh := O.hd
      rw [eb] at hh ⊢
      cases b with
      | nil => exact hh
      | cons x r => exact hh
    · exact Nat.le_trans (putN_len _ _ _) O.a1
    · show (M.nest ++ [n]).length ≤ 6
      rw [List.length_append, List.length_singleton]; omega
  · cases h
theorem setRow_len (rows : List RowM) (i : Nat) (f : RowM → RowM) : (setRow rows i f).length = rows.length := by
  unfold setRow
  split
  · exact List.length_set
  · rfl
theorem setRow_zero {rows : List RowM} {i : Nat} {f : RowM → RowM} (hf : ∀ r, (f r).word = r.word) (h : ∃ r, rows[0]? = some r ∧ r.word = ("" : Str)) : ∃ r, (setRow rows i f)[0]? = some r ∧ r.word = ("" : Str) := by
  obtain ⟨r, e, hw⟩ := h
  unfold setRow
  split
  · rename_i m em
    by_cases c : i = 0
    · subst c
      rw [e] at em
      cases em
      exact ⟨f r, List.getElem?_set_self (List.getElem?_eq_some_iff.mp e).1, (hf r).trans hw⟩
    · exact ⟨r, (List.getElem?_set_ne c).trans e, hw⟩
  · exact ⟨r, e, hw⟩
theorem Ok1.turn {M M' : ShM} {n : Nat} (O : Ok1 M) (hn : n < M.rows.length) (h : turnM M n = some M') : Ok M' ∧ M'.rows.length = M.rows.length := by
  obtain ⟨b, l, eb, hlast, hll⟩ := O.toOk.last
  unfold turnM at h
  rw [hlast] at h
  dsimp only at h
  split at h
  · rename_i m a em ea
    split at h
    · rename_i c
      obtain rfl := Option.some.inj h
      have hl0 : l ≠ 0 := fun z => by
        obtain ⟨r, e, hw⟩ := O.z
        rw [z, e] at em
        cases em
        rw [hw] at c
        exact absurd c (by decide)
      have hb : ∃ r, b = 0 :: r := by
        have := O.hd
        rw [eb] at this
        cases b with
        | nil => exact absurd (Option.some.inj this) hl0
        | cons x r => exact ⟨r, by rw [Option.some.inj this]⟩
      have ed : M.nest.dropLast = b := by rw [eb, List.dropLast_concat]
      refine ⟨⟨fun k hk => ?_, fun k hk k0 => ?_, ?_, setRow_zero (fun _ => rfl) O.z, O.h5, ?_, ?_⟩, setRow_len _ _ _⟩
      · show k < (setRow M.rows l _).length
        rw [setRow_len]
        replace hk : k ∈ M.nest.dropLast ++ [n] := hk
        rw [ed] at hk
        rcases List.mem_append.mp hk with z | z
        · exact O.lt k (by rw [eb]; exact List.mem_append_left _ z)
        · rw [List.mem_singleton.mp z]; exact hn
      · show getN (putN M.around n a) k ≠ none
        replace hk : k ∈ M.nest.dropLast ++ [n] := hk
        rw [ed] at hk
        rw [getN_put]
        split
        · exact Option.some_ne_none _
        · rename_i z
          rcases List.mem_append.mp hk with y | y
          · exact O.ar k (by rw [eb]; exact List.mem_append_left _ y) k0
          · exact absurd (List.mem_singleton.mp y) z
      · show (M.nest.dropLast ++ [n]).head? = some 0
        obtain ⟨r, er⟩ := hb
        rw [ed, er]
        rfl
      · show (putN M.around n a).length ≤ (setRow M.rows l _).length
        rw [setRow_len]
        exact Nat.le_trans (putN_len _ _ _) O.a1
      · show (M.nest.dropLast ++ [n]).length ≤ 6
        have := O.nl
        rw [eb, List.length_append] at this
        rw [ed, List.length_append]
        exact this
    · cases h
  · cases h
theorem Ok1.close {M M' : ShM} {n : Nat} (O : Ok1 M) (h : closeM M n = some M') : Ok M' ∧ M'.rows.length = M.rows.length := by
  obtain ⟨b, l, eb, hlast, hll⟩ := O.toOk.last
  unfold closeM at h
  rw [hlast] at h
  dsimp only at h
  split at h
  · rename_i m em
    split at h
    · rename_i hl0
      obtain rfl := Option.some.inj h
      have ed : M.nest.dropLast = b := by rw [eb, List.dropLast_concat]
      have hb : ∃ r, b = 0 :: r := by
        have := O.hd
        rw [eb] at this
        cases b with
        | nil => exact absurd (Option.some.inj this) hl0
        | cons x r => exact ⟨r, by rw [Option.some.inj this]⟩
      have kw1 : ∀ r : RowM, (if r.word = ("else" : Str) then { r with after := n } else { r with other := n + 1 } : RowM).word = r.word := fun r => by split <;> rfl
      have hz := setRow_zero (i := l) kw1 O.z
      have hlen : (if m.word = ("loop" : Str) then setRow (setRow M.rows l fun r => if r.word = ("else" : Str) then { r with after := n } else { r with other := n + 1 }) n (fun r => { r with after := l }) else (setRow M.rows l fun r => if r.word = ("else" : Str) then { r with after := n } else { r with other := n + 1 })).length = M.rows.length := by
        split
        · rw [setRow_len, setRow_len]
        · rw [setRow_len]
      refine ⟨⟨fun k hk => ?_, fun k hk k0 => ?_, ?_, ?_, O.h5, ?_, ?_⟩, hlen⟩
      · show k < (if m.word = ("loop" : Str) then _ else _ : List RowM).length
        rw [hlen]
        replace hk : k ∈ M.nest.dropLast := hk
        rw [ed] at hk
        exact O.lt k (by rw [eb]; exact List.mem_append_left _ hk)
      · replace hk : k ∈ M.nest.dropLast := hk
        rw [ed] at hk
        exact O.ar k (by rw [eb]; exact List.mem_append_left _ hk) k0
      · show M.nest.dropLast.head? = some 0
        obtain ⟨r, er⟩ := hb
        rw [ed, er]
        rfl
      · show ∃ r, (if m.word = ("loop" : Str) then _ else _ : List RowM)[0]? = some r ∧ _
        split
        · exact setRow_zero (f := fun r => { r with after := l }) (fun _ => rfl) hz
        · exact hz
      · show M.around.length ≤ (if m.word = ("loop" : Str) then _ else _ : List RowM).length
        rw [hlen]
        exact O.al
      · show M.nest.dropLast.length ≤ 6
        have := O.nl
        rw [List.length_dropLast]
        omega
    · cases h
  · cases h
theorem ok_new : Ok ShM.new := by
  refine ⟨?_, ?_, rfl, ⟨_, rfl, rfl⟩, by decide, by decide, by decide⟩
  · intro l hl
    have : l = 0 := List.mem_singleton.mp hl
    rw [this]
    decide
  · intro l hl h0
    exact absurd (List.mem_singleton.mp hl) h0
theorem Ok.takeRow {M M' : ShM} {word : Str} {words form : List Str} (O : Ok M) (h : takeRowM M word words form = some M') : Ok M' ∧ M'.rows.length = M.rows.length + 1 := by
  unfold takeRowM at h
  dsimp only at h
  generalize ((words.zip form).filter fun p => p.2 == ("" : Str)).map (·.1) = nm at h
  by_cases c0 : nm.all (seenM M) = true
  · rw [if_pos c0] at h
    have O1 := O.row1 ⟨word, nm, M.rows.length + 1, 0⟩
    have hn : M.rows.length < (M.rows ++ [(⟨word, nm, M.rows.length + 1, 0⟩ : RowM)]).length := by simp
    have fin : (Ok M' ∧ M'.rows.length = (M.rows ++ [(⟨word, nm, M.rows.length + 1, 0⟩ : RowM)]).length) → Ok M' ∧ M'.rows.length = M.rows.length + 1 := fun z => ⟨z.1, z.2.trans (by simp)⟩
    by_cases c1 : openL.contains word = true
    · rw [if_pos c1] at h
      exact fin (O1.open_ hn h)
    · rw [if_neg c1] at h
      by_cases c2 : word = ("else" : Str)
      · rw [if_pos c2] at h
        exact fin (O1.turn hn h)
      · rw [if_neg c2] at h
        by_cases c3 : word = ("end" : Str)
        · rw [if_pos c3] at h
          exact fin (O1.close h)
        · rw [if_neg c3] at h
          obtain rfl := Option.some.inj h
          exact ⟨O1.toOk, by simp⟩
  · rw [if_neg c0] at h
    cases h
theorem Ok.take {M M' : ShM} {parts : List Str} (O : Ok M) (h : takeM M parts = some M') : Ok M' ∧ M'.rows.length = M.rows.length + 1 := by
  unfold takeM at h
  split at h
  · cases h
  · split at h
    · exact O.declare h
    · split at h
      · split at h
        · exact O.takeRow h
        · cases h
      · cases h
end FP
set_option Elab.async false
set_option linter.all false
set_option maxRecDepth 100000
set_option maxHeartbeats 4000000
namespace FP
open PySem PySem.Spec PyProof.Rows L2
/-- the written dict of the forms -/
structure FormsAt (K : PySem.W.Frag) (w : World) (mg : Str → Option Value) (aF : Addr) (fs : Array DictEntry) (fn : Nat) : Prop where
  g : mg "FORMS" = some (.ref aF)
  d : KDict K w aF fs fn
  in_ : ∀ z : Str, ∃ r, PySem.W.nsIn K aF z = some r ∧ r.isSome = (formsL.lookup z).isSome
  at_ : ∀ (z : Str) (form : List Str), formsL.lookup z = some form → ∃ t, KDct K w aF z (.ref t) ∧ ∀ H, SqT K H t (form.map V.str)
section
variable {P : Program} {w : World} {K : PySem.W.Frag} {mg : Str → Option Value} {base : Heap} {Cr Cs aT aP aO aF : Addr} {fes : Array DictEntry} {fen : Nat}
def spTakeRow (Cr Cs : Addr) : Sp := fun vs H Q _ => ∃ (s a : Addr) (word : Str) (words form : List Str) (H0 : Hp) (p : Pt) (M : ShM), vs = [.ref s, .str word, .ref a] ∧ ShAt Cr Cs H0 H s p M ∧ Ok M ∧ H0 a = some (.lst (words.map V.str)) ∧
  formsL.lookup word = some form ∧ words.length = form.length ∧ form.length ≤ 100000 ∧ M.rows.length ≤ 100000 ∧ Took Cr Cs H0 s (takeRowM M word words form) Q
abbrev nTR : List Str := ["self", "word", "words", "names", "number", "right", "name", "part"]
theorem scTR : FnScope nTR ["self", "word", "words"] (defScope mSheet_take_row) := ⟨rfl, rfl, rfl, by decide +kernel, rfl, by decide +kernel, by decide +kernel⟩
theorem ok_takeRow {f : Addr} {fd : FuncData} (F : Fun K "_take_row" "Sheet._take_row" mSheet_take_row f fd) (T : ShTxt K mg Cr Cs) (C : Csts K mg aT aP aO) (B : Blt2 mg) (FA : FormsAt K w mg aF fes fen) (DR : CDef P w K mg base Cr 1 ["self", "word", "names", "number"] (spRow Cr))
    (DS : MDef P w K mg base Cs "_is_seen" 1 ["self", "name"] (spSeen Cr Cs)) (DO : MDef P w K mg base Cs "_open_block" 1 ["self", "number"] (spStep Cr Cs openM preOpen)) (DT : MDef P w K mg base Cs "_turn" 1 ["self", "number"] (spStep Cr Cs turnM preTurn)) (DC : MDef P w K mg base Cs "_close_block" 1 ["self", "number"] (spStep Cr Cs closeM preClose)) :
    FnOk P w K mg base CX0 3 f fd ["self", "word", "words"] (spTakeRow Cr Cs) := by
  obtain ⟨fR, fdR, mR, bR, GR⟩ := DR.ex
  obtain ⟨fS, fdS, mS, bS, GS⟩ := DS.ex
  obtain ⟨fO, fdO, mO, bO, GO⟩ := DO.ex
  obtain ⟨fT, fdT, mT, bT, GT⟩ := DT.ex
  obtain ⟨fC, fdC, mC, bC, GC⟩ := DC.ex
  refine F.ok scTR (fun vs H Q E h => ?_) (fun cdv A outer s H vs Q E hr h => ?_)
  · obtain ⟨s, a, word, words, form, H0, p, M, rfl, _⟩ := h
    rfl
  obtain ⟨s, a, word, words, form, H0, p, M, rfl, A0, O, ea0, hf, hlen, hfl, hrl, k1, k2⟩ := h
  obtain ⟨dx, es⟩ := A0.sh
  have hu := hu_of hr
  have hr1 := hr.mono (show 1 ≤ 2 by decide)
  have ea := A0.same _ _ ea0
  obtain ⟨tF, kd, sF⟩ := FA.at_ word form hf
  refine ⟨_, pss_cons (ps_setLc (i := 3) (own := [("name", 6), ("part", 7)]) (g := gTup K 2 (gCons (gName 6) (gCons (gName 7) gNil))) (te := tVar 6) (by rfl) scTR.nd rfl rfl (sw_true rfl rfl rfl (by decide +kernel))
      (pi_zipB true false (by rfl) B.zip (pa_cons (pv 2) (pa_cons (pe_ix ix_kdict (pe_glob (v := .ref aF) (by rfl) FA.g rfl) (pv 1) (fun _ _ => rfl)) pa_nil))) (blkOk_by (own := [("name", 6), ("part", 7)]) (N := nTR) (sc := defScope mSheet_take_row) (by decide +kernel))
      (fun _ _ _ _ _ => pg_tup (by rfl) (pgs_cons (pg_name (i := 6) scTR.nd rfl (Or.inl rfl)) (pgs_cons (pg_name (i := 7) scTR.nd rfl (Or.inl rfl)) pgs_nil))) (fun _ _ _ _ _ => pts_one (pt_cmpR op_eq (pv 7) pe_str (nomark _))) (fun _ _ _ _ _ => pv 6))
    (pss_cons (ps_if (pt_not (pt_val (pe_callB (cr_all (by rfl)) (by rfl) B.all (by decide +kernel) (pa_cons (pe_lc (own := [("name", 6)]) (g := gName 6) (te := tMeth Cs "_is_seen" (spSeen Cr Cs) [] E0 (tVar 0) (tCons (tVar 6) tNil)) (by rfl) scTR.nd (pi_list (pv 3))
        (blkOk_by (own := [("name", 6)]) (N := nTR) (sc := defScope mSheet_take_row) (by decide +kernel)) (fun _ _ _ _ _ => pg_name (i := 6) scTR.nd rfl (Or.inl rfl)) (fun _ _ _ _ _ => pts_nil) (fun _ _ _ _ _ => pe_meth (pv 0) T.cs mS GS hr1 bS .nil pass0 (pa_cons (pv 6) pa_nil))) pa_nil)))) (pss_one (ps_ret pe_bl)) pss_nil)
    (pss_cons (ps_set (i := 4) scTR.nd rfl (.inl rfl) (pe_callB call_len_seq (by rfl) B.len boot_len (pa_cons (pe_fld (pv 0) rfl) pa_nil)))
    (pss_cons (ps_expr (pe_bm PySem.F.plainAttrs_list PySem.F.slot_list_append PySem.F.type_list_append mt_append (pe_fld (pv 0) rfl) (pa_cons (pe_make mR GR hr rfl T.gr bR .nil pass0 (pa_cons (pv 1) (pa_cons (pe_callTy call_tuple_of (by rfl) B.tuple (by decide +kernel) (pa_cons (pv 3) pa_nil)) (pa_cons (pv 4) pa_nil)))) pa_nil)))
    (pss_cons (ps_set (i := 5) scTR.nd rfl (.inl rfl) pe_bl)
    (pss_cons (ps_if (pt_cmpR op_in_seq (pv 1) (pe_glob (v := .ref aO) (by rfl) C.gO rfl) (by rfl)) (pss_one (ps_set (i := 5) scTR.nd rfl (.inl rfl) (pe_meth (pv 0) T.cs mO GO hr1 bO .nil pass0 (pa_cons (pv 4) pa_nil))))
      (pss_one (ps_if (pt_cmpR op_eq (pv 1) pe_str (nomark _)) (pss_one (ps_set (i := 5) scTR.nd rfl (.inl rfl) (pe_meth (pv 0) T.cs mT GT hr1 bT .nil pass0 (pa_cons (pv 4) pa_nil))))
      (pss_one (ps_if (pt_cmpR op_eq (pv 1) pe_str (nomark _)) (pss_one (ps_set (i := 5) scTR.nd rfl (.inl rfl) (pe_meth (pv 0) T.cs mC GC hr1 bC .nil pass0 (pa_cons (pv 4) pa_nil)))) pss_nil)))))
    (pss_one (ps_ret (pv 5)))))))), ?_⟩
  let nm : List Str := ((words.zip form).filter fun p => p.2 == ("" : Str)).map (·.1)
  have hnm : nm.length ≤ 100000 := by
    show (((words.zip form).filter fun p => p.2 == ("" : Str)).map (·.1)).length ≤ _
    rw [List.length_map]
    refine Nat.le_trans (List.length_filter_le _ _) ?_
    rw [List.length_zip]; omega
  refine ⟨_, rfl, _, rfl, aF, word, _, rfl, rfl, kd, a, tF, _, _, rfl, SqL.of ea, sF H, fun D hD => lc_it (walk_zipB (n := form.length) (xs := words.map V.str) (ys := form.map V.str) (by simp [hlen]) (by simp))
    (fun n H' => Same H H' ∧ H' D = some (.lst (((((words.zip form).take n).filter fun p => p.2 == ("" : Str)).map (·.1)).map V.str))) ⟨Same.new (Same.refl H) hD, upd_same⟩ (fun _ H' _ z => ⟨SqL.of (z.1 _ _ ea), sF H'⟩) ?_ ?_⟩
  · rintro n v H' H'' hn' ⟨S1, eD⟩ ⟨T', x, y, rfl, hT, rfl, hx, hy⟩
    have hwn : n < words.length := by omega
    replace hx : (words.map V.str)[n]? = some x := hx
    replace hy : (form.map V.str)[n]? = some y := hy
    rw [List.getElem?_map, List.getElem?_eq_getElem hwn] at hx
    rw [List.getElem?_map, List.getElem?_eq_getElem hn'] at hy
    obtain rfl : V.str words[n] = x := Option.some.inj hx
    obtain rfl : V.str form[n] = y := Option.some.inj hy
    have eD2 : (upd H' T' (.tup [.str words[n], .str form[n]])) D = _ := (upd_ne (ne_of_none eD hT)).trans eD
    have S2 := Same.new (o := .tup [.str words[n], .str form[n]]) S1 hT
    have htk : (words.zip form).take (n + 1) = (words.zip form).take n ++ [(words[n], form[n])] := by
      rw [List.take_add_one, List.getElem?_eq_getElem (by rw [List.length_zip]; omega), List.getElem_zip]
      rfl
    refine ⟨T', _, rfl, SqT.of upd_same, rfl, _, _, rfl, _, _, rfl, rfl, rfl, _, rfl, rfl, _, rfl, ?_⟩
    refine ite2 (fun c => ?_) fun c => ?_
    · have hc : (form[n] == ("" : Str)) = true := beq_iff_eq.mpr (V.str.inj (of_decide_eq_true c))
      refine ⟨_, rfl, _, eD2, ?_, ?_, ?_⟩
      · rw [List.length_map, List.length_map, sizeLine_eq]
        have := List.length_filter_le (fun p : Str × Str => p.2 == ("" : Str)) ((words.zip form).take n)
        rw [List.length_take] at this
        omega
      · intro c' o e
        rw [upd_ne (ne_of_none e hD)]
        exact S2 c' o e
      · rw [upd_same, htk, List.filter_append, List.map_append, List.map_append]
        simp [hc]
    · have hc : (form[n] == ("" : Str)) = false := by
        cases e : form[n] == ("" : Str) with
        | false => rfl
        | true => exact absurd (decide_eq_true (congrArg V.str (beq_iff_eq.mp e))) c
      refine ⟨S2, ?_⟩
      rw [eD2, htk, List.filter_append]
      simp [hc]
  rintro H1 ⟨S1, eD⟩
  rw [List.take_of_length_le (by rw [List.length_zip]; omega)] at eD
  replace eD : H1 D = some (.lst (nm.map V.str)) := eD
  have A1 := A0.grow S1
  have hm : takeRowM M word words form = if nm.all (seenM M) = true then
      (if openL.contains word = true then openM ⟨M.rows ++ [⟨word, nm, M.rows.length + 1, 0⟩], M.homes, M.around, M.nest⟩ M.rows.length else if word = ("else" : Str) then turnM ⟨M.rows ++ [⟨word, nm, M.rows.length + 1, 0⟩], M.homes, M.around, M.nest⟩ M.rows.length
        else if word = ("end" : Str) then closeM ⟨M.rows ++ [⟨word, nm, M.rows.length + 1, 0⟩], M.homes, M.around, M.nest⟩ M.rows.length else some ⟨M.rows ++ [⟨word, nm, M.rows.length + 1, 0⟩], M.homes, M.around, M.nest⟩) else none := rfl
  -- are all of them seen
  refine ⟨_, rfl, D, rfl, ⟨_, SqL.of eD⟩, fun D2 hD2 => lc_it (walk_list (xs := nm.map V.str)) (fun n H' => Same H1 H' ∧ H' D2 = some (.lst (((nm.take n).map (seenM M)).map V.bl))) ⟨Same.new (Same.refl H1) hD2, upd_same⟩ (fun _ H' _ z => SqL.of (z.1 _ _ eD)) ?_ ?_⟩
  · rintro n v H' H'' hn' ⟨S2, eD2⟩ ⟨rfl, hxi⟩
    rw [List.length_map] at hn'
    rw [List.getElem?_map, List.getElem?_eq_getElem hn'] at hxi
    obtain rfl : V.str nm[n] = v := Option.some.inj hxi
    have A2 := A1.grow S2
    obtain ⟨d2, es2⟩ := A2.sh
    refine ⟨rfl, _, rfl, s, d2, _, rfl, es2, rfl, _, rfl, s, H0, p, M, nm[n], rfl, A2, _, eD2, ?_, ?_, ?_⟩
    · rw [List.length_map, List.length_map, List.length_take, sizeLine_eq]
      omega
    · intro c' o e
      rw [upd_ne (ne_of_none e hD2)]
      exact S2 c' o e
    · rw [upd_same, List.take_add_one, List.getElem?_eq_getElem hn', List.map_append, List.map_append]
      rfl
  rintro H2 ⟨S2, eD2⟩
  rw [List.length_map, List.take_length] at eD2
  have A2 := A1.grow S2
  refine ⟨D2, _, rfl, SqL.of eD2, _, rfl, ?_⟩
  have ea2 : (nm.map (seenM M)).all id = nm.all (seenM M) := by rw [List.all_map]; rfl
  rw [ea2]
  cases hs : nm.all (seenM M) with
  | false => exact iteT (k2 (by rw [hm, hs]; rfl) _ A2.same)
  | true =>
    rw [hs, if_pos rfl] at hm
    obtain ⟨d2, es2⟩ := A2.sh
    refine iteF ⟨_, rfl, s, Cs, d2, _, _, rfl, es2, T.cs, T.sr, lkS1 p, p.R, _, rfl, .inl (SqL.of A2.R), ?_⟩
    rw [show (p.ras.map V.ref).length = M.rows.length by rw [List.length_map, A2.len]]
    refine ⟨_, rfl, s, Cs, d2, _, _, rfl, es2, T.cs, T.sr, lkS1 p, .inl ⟨rfl, _, SqL.of A2.R⟩, _, rfl, _, rfl, D, _, rfl, .inl ⟨SqL.of (S2 _ _ eD), fun q hq => ?_⟩⟩
    refine ⟨_, rfl, fun x dx' nx ndx nex => ⟨x, dx', q, _, M.rows.length, rfl, upd_same, fun H3 e1 e2 => ⟨rfl, ?_⟩⟩⟩
    obtain ⟨S3, new⟩ := row_made (names := nm) (Same.new (o := .tup (nm.map V.str)) (Same.refl H2) hq) upd_same nx ndx e1 e2
    have nx' : H2 x = none := (Same.new (o := .tup (nm.map V.str)) (Same.refl H2) hq).free nx
    have A3 := A2.addRow S3 nx' new
    have O1 := O.row1 ⟨word, nm, M.rows.length + 1, 0⟩
    refine ⟨p.R, _, _, rfl, rfl, S3 _ _ A2.R, ?_, ?_⟩
    · rw [List.length_map, A2.len, sizeLine_eq]
      omega
    rw [List.map_append] at A3
    obtain ⟨d3, es3⟩ := A3.sh
    obtain ⟨b, l, eb, hlast, hll⟩ := O1.toOk.last
    have h1k : M.around.length ≤ 100000 := Nat.le_trans O.al hrl
    obtain ⟨mL, em⟩ : ∃ m, (M.rows ++ [(⟨word, nm, M.rows.length + 1, 0⟩ : RowM)])[l]? = some m := ⟨_, List.getElem?_eq_getElem hll⟩
    refine ⟨_, rfl, aO, _, rfl, .inr (C.sO _), rfl, flat_strs _, _, rfl, ?_⟩
    rw [show (if false = true then !inV (V.str word) (openL.map V.str) else inV (V.str word) (openL.map V.str)) = openL.contains word from inV_strs word openL]
    cases c1 : openL.contains word with
    | true =>
      rw [c1, if_pos rfl] at hm
      refine iteT ⟨_, rfl, s, d3, _, rfl, es3, rfl, _, rfl, s, M.rows.length, H0, _, _, rfl, A3, ⟨⟨b, l, eb⟩, h1k, Nat.le_trans O.nl (by decide)⟩, fun M' e H' A' => ⟨_, rfl, k1 M' (hm.trans e) _ _ A'⟩, fun e => ⟨_, rfl, k2 (hm.trans e) _ A3.same⟩⟩
    | false =>
      rw [c1, if_neg Bool.false_ne_true] at hm
      refine iteF ⟨_, rfl, rfl, _, rfl, ite2 (fun c2 => ?_) fun c2 => ?_⟩
      · have hw : word = ("else" : Str) := V.str.inj (of_decide_eq_true c2)
        rw [if_pos hw] at hm
        refine ⟨_, rfl, s, d3, _, rfl, es3, rfl, _, rfl, s, M.rows.length, H0, _, _, rfl, A3, ⟨⟨b, l, _, eb, em, fun ht => ?_⟩, h1k⟩, fun M' e H' A' => ⟨_, rfl, k1 M' (hm.trans e) _ _ A'⟩, fun e => ⟨_, rfl, k2 (hm.trans e) _ A3.same⟩⟩
        refine O1.ar l (by rw [eb]; simp) fun z => ?_
        obtain ⟨r0, e0, hw0⟩ := O1.z
        rw [z] at em
        rw [← Option.some.inj (e0.symm.trans em), hw0] at ht
        exact absurd ht (by decide)
      · rw [if_neg (fun z => c2 (decide_eq_true (by rw [z])))] at hm
        refine ⟨_, rfl, rfl, _, rfl, ite2 (fun c3 => ?_) fun c3 => ?_⟩
        · have hw : word = ("end" : Str) := V.str.inj (of_decide_eq_true c3)
          rw [if_pos hw] at hm
          exact ⟨_, rfl, s, d3, _, rfl, es3, rfl, _, rfl, s, M.rows.length, H0, _, _, rfl, A3, ⟨⟨b, l, _, eb, em⟩, by simp⟩, fun M' e H' A' => ⟨_, rfl, k1 M' (hm.trans e) _ _ A'⟩, fun e => ⟨_, rfl, k2 (hm.trans e) _ A3.same⟩⟩
        · rw [if_neg (fun z => c3 (decide_eq_true (by rw [z])))] at hm
          exact ⟨_, rfl, k1 _ hm _ _ A3⟩
end
end FP
set_option Elab.async false
set_option linter.all false
set_option maxRecDepth 100000
set_option maxHeartbeats 4000000
namespace FP
open PySem PySem.Spec PyProof.Rows L2 TL
theorem spl_ne (S : List Nat) : ∀ (l : List Nat) (k : Nat) (acc : List Nat), spl S k acc l ≠ []
  | [], k, acc => by rw [spl_nil]; exact List.cons_ne_nil _ _
  | c :: r, 0, acc => by
    show (if pre S (c :: r) = true then acc :: spl S (S.length - 1) [] r else spl S 0 (acc ++ [c]) r) ≠ []
    split
    · exact List.cons_ne_nil _ _
    · exact spl_ne S r 0 _
  | c :: r, k + 1, acc => spl_ne S r k acc
theorem spl_lens (S : List Nat) : ∀ (l : List Nat) (k : Nat) (acc : List Nat), ∀ p ∈ spl S k acc l, p.length ≤ acc.length + l.length
  | [], k, acc, p, hp => by
    rw [spl_nil] at hp
    rw [List.mem_singleton.mp hp]
    exact Nat.le_refl _
  | c :: r, 0, acc, p, hp => by
    have hp' : p ∈ (if pre S (c :: r) = true then acc :: spl S (S.length - 1) [] r else spl S 0 (acc ++ [c]) r) := hp
    rw [List.length_cons]
    split at hp'
    · rcases List.mem_cons.mp hp' with z | z
      · rw [z]; omega
      · have := spl_lens S r _ _ p z
        rw [List.length_nil] at this
        omega
    · have := spl_lens S r _ _ p hp'
      rw [List.length_append, List.length_singleton] at this
      omega
  | c :: r, k + 1, acc, p, hp => by
    have := spl_lens S r k acc p hp
    rw [List.length_cons]
    omega
theorem split_ne (x y : Str) (hy : tl y ≠ []) (hk : y.cps.all (· < 256) = true) : Txt.split x y ≠ [] := fun z => by
  have := split_spl x y hy (kind_ok hk)
  rw [z] at this
  exact spl_ne _ _ _ _ this.symm
theorem split_lens (x y : Str) (hy : tl y ≠ []) (hk : y.cps.all (· < 256) = true) : ∀ p ∈ Txt.split x y, p.length ≤ x.length := fun p hp => by
  have e := split_spl x y hy (kind_ok hk)
  have : tl p ∈ spl (tl y) 0 [] (tl x) := by rw [← e]; exact List.mem_map_of_mem hp
  have := spl_lens _ _ _ _ _ this
  rw [len_tl p, len_tl x]
  simpa using this
section
variable {P : Program} {w : World} {K : PySem.W.Frag} {mg : Str → Option Value} {base : Heap} {Cr Cs aT aP aO aF : Addr} {fes : Array DictEntry} {fen : Nat}
def spTakeLine (Cr Cs : Addr) : Sp := fun vs H Q _ => ∃ (s : Addr) (line : Str) (H0 : Hp) (p : Pt) (M : ShM), vs = [.ref s, .str line] ∧ ShAt Cr Cs H0 H s p M ∧ Ok M ∧ line.length ≤ 90000 ∧ M.rows.length ≤ 100000 ∧ Took Cr Cs H0 s (takeM M (Txt.split line " ")) Q
abbrev nTL : List Str := ["self", "line", "parts", "word", "words", "right"]
theorem scTL : FnScope nTL ["self", "line"] (defScope mSheet_take_line) := ⟨rfl, rfl, rfl, by decide +kernel, rfl, by decide +kernel, by decide +kernel⟩
theorem cut_drop1 (x : V) (xs : List V) : cutV (x :: xs) (some 1) none = xs := by
  unfold cutV
  rw [show HT.sIx (x :: xs).length 0 (some 1) = 1 from (HT.sIx_nat ..).trans (by simp), show HT.sIx (x :: xs).length (x :: xs).length none = (x :: xs).length from rfl]
  simp
theorem ok_takeLine {f : Addr} {fd : FuncData} (F : Fun K "take_line" "Sheet.take_line" mSheet_take_line f fd) (T : ShTxt K mg Cr Cs) (B : Blt2 mg) (FA : FormsAt K w mg aF fes fen)
    (DF : Def P w K mg base "fits" 1 ["words", "form"] (spFits K)) (DD : MDef P w K mg base Cs "_declare" 3 ["self", "names"] (spDeclare Cr Cs)) (DT : MDef P w K mg base Cs "_take_row" 3 ["self", "word", "words"] (spTakeRow Cr Cs)) :
    FnOk P w K mg base CX0 4 f fd ["self", "line"] (spTakeLine Cr Cs) := by
  obtain ⟨fF, fdF, gF, kF, bF, GF⟩ := DF.ex
  obtain ⟨fD, fdD, mD, bD, GD⟩ := DD.ex
  obtain ⟨fT, fdT, mT, bT, GT⟩ := DT.ex
  refine F.ok scTL (fun vs H Q E h => ?_) (fun cdv A outer s H vs Q E hr h => ?_)
  · obtain ⟨s, line, H0, p, M, rfl, _⟩ := h
    rfl
  obtain ⟨s, line, H0, p, M, rfl, A0, O, hll, hrl, k1, k2⟩ := h
  have hr1 := hr.mono (show 1 ≤ 3 by decide)
  refine ⟨_, pss_cons (ps_set (i := 2) scTL.nd rfl (.inl rfl) (pe_split (pv 1) pe_str))
    (pss_cons (ps_set (i := 3) scTL.nd rfl (.inl rfl) (pe_ix ix_list (pv 2) pe_int (fun _ _ => rfl)))
    (pss_cons (ps_set (i := 4) scTL.nd rfl (.inl rfl) (pe_slice sl_list (pv 2) (po_some pe_int) po_none))
    (pss_cons (ps_if (pt_cmpR op_eq (pv 3) pe_str (nomark _)) (pss_one (ps_set (i := 5) scTL.nd rfl (.inl rfl) (pe_meth (pv 0) T.cs mD GD hr bD .nil pass0 (pa_cons (pv 4) pa_nil))))
      (pss_one (ps_if (PW.pt (pw_and (pt_cmpR (op_in_kd FA.d) (pv 3) (pe_glob (v := .ref aF) (by rfl) FA.g rfl) (by rfl)) (pw_and1 (pt_val (pe_call GF hr1 rfl gF kF bF .nil pass0 (pa_cons (pv 4) (pa_cons (pe_ix ix_kdict (pe_glob (v := .ref aF) (by rfl) FA.g rfl) (pv 3) (fun _ _ => rfl)) pa_nil)))))))
        (pss_one (ps_set (i := 5) scTL.nd rfl (.inl rfl) (pe_meth (pv 0) T.cs mT GT hr bT .nil pass0 (pa_cons (pv 3) (pa_cons (pv 4) pa_nil)))))
        (pss_one (ps_set (i := 5) scTL.nd rfl (.inl rfl) pe_bl)))))
    (pss_one (ps_ret (pv 5)))))), ?_⟩
  have hsl : tl (" " : Str) ≠ [] := by decide
  have hsk : (" " : Str).cps.all (· < 256) = true := by decide +kernel
  have hlens := split_lens line " " hsl hsk
  have hcnt := PyProof.Rows.split_le line " "
  obtain ⟨word, words, ew⟩ : ∃ word words, Txt.split line " " = word :: words := by
    cases e : Txt.split line " " with
    | nil => exact absurd e (split_ne line " " hsl hsk)
    | cons a b => exact ⟨a, b, rfl⟩
  rw [ew] at k1 k2 hlens hcnt
  rw [List.length_cons] at hcnt
  refine ⟨_, rfl, ⟨_, rfl⟩, line, _, rfl, rfl, rfl, (by rw [sizeLine_eq]; omega), fun l1 h1 => ?_⟩
  rw [ew]
  refine ⟨_, rfl, l1, _, _, V.str word, rfl, rfl, SqL.of upd_same, atI_nat (j := 0) rfl, ?_⟩
  refine ⟨_, rfl, 1, rfl, l1, _, rfl, SqL.of upd_same, fun a ha => ?_⟩
  rw [show cutV (List.map V.str (word :: words)) (some 1) none = words.map V.str from cut_drop1 _ _]
  have A1 := (A0.grow (Same.new (o := .lst ((word :: words).map V.str)) (Same.refl H) h1)).root (o := .lst (words.map V.str)) ha
  have ea0 : (upd H0 a (.lst (words.map V.str))) a = some (.lst (words.map V.str)) := upd_same
  have ha0 : H0 a = none := (A0.same.trans (Same.new (o := .lst ((word :: words).map V.str)) (Same.refl H) h1)).free ha
  have S0 : Same H0 (upd H0 a (.lst (words.map V.str))) := Same.new (Same.refl H0) ha0
  obtain ⟨d1, es1⟩ := A1.sh
  have hm : takeM M (word :: words) = if word = ("local" : Str) then declareM M words else match formsL.lookup word with
    | some form => if fitsM words form = true then takeRowM M word words form else none
    | none => none := rfl
  refine ⟨_, rfl, rfl, _, rfl, ite2 (fun c => ?_) fun c => ?_⟩
  · have hw : word = ("local" : Str) := V.str.inj (of_decide_eq_true c)
    rw [if_pos hw] at hm
    exact ⟨_, rfl, s, d1, _, rfl, es1, rfl, _, rfl, s, a, words, _, p, M, rfl, A1, O, ea0, by omega, fun x hx => Nat.le_trans (hlens x (List.mem_cons_of_mem _ hx)) (by omega), hrl,
      fun M' e p' H' A' => ⟨_, rfl, k1 M' (hm.trans e) _ _ (A'.back S0)⟩, fun e H' S => ⟨_, rfl, k2 (hm.trans e) _ (S0.trans S)⟩⟩
  rw [if_neg (fun z => c (decide_eq_true (by rw [z])))] at hm
  obtain ⟨r, er, hr_⟩ := FA.in_ word
  refine ⟨_, rfl, word, r, rfl, rfl, er, _, rfl, ?_⟩
  rw [hr_]
  cases ef : formsL.lookup word with
  | none =>
    rw [ef] at hm
    exact iteF ⟨_, rfl, k2 hm _ (S0.trans A1.same)⟩
  | some form =>
    rw [ef] at hm
    replace hm : takeM M (word :: words) = if fitsM words form = true then takeRowM M word words form else none := hm
    obtain ⟨tF, kd, sF⟩ := FA.at_ word form ef
    have hfl : form.length ≤ 100 := by
      have : form ∈ formsL.map (·.2) := by
        have h2 : ∀ (l : List (Str × List Str)), l.lookup word = some form → form ∈ l.map (·.2) := by
          intro l
          induction l with
          | nil => intro z; cases z
          | cons q r ih =>
            intro z
            obtain ⟨q1, q2⟩ := q
            rw [List.lookup_cons] at z
            split at z
            · rw [Option.some.inj z]; exact List.mem_cons_self
            · exact List.mem_cons_of_mem _ (ih z)
        exact h2 _ ef
      have hall : ∀ f ∈ formsL.map (·.2), f.length ≤ 100 := by decide
      exact hall form this
    refine iteT ⟨_, rfl, _, rfl, aF, word, _, rfl, rfl, kd, a, tF, words, form, rfl, upd_same, sF, by omega, by omega, fun H2 S2 => ⟨_, rfl, ?_⟩⟩
    have A2 := A1.grow S2
    obtain ⟨d2, es2⟩ := A2.sh
    cases eq : fitsM words form with
    | false =>
      rw [eq, if_neg Bool.false_ne_true] at hm
      exact iteF ⟨_, rfl, k2 hm _ (S0.trans A2.same)⟩
    | true =>
      rw [eq, if_pos rfl] at hm
      have hlen : words.length = form.length := by
        unfold fitsM at eq
        rw [Bool.and_eq_true] at eq
        exact of_decide_eq_true eq.1
      exact iteT ⟨_, rfl, s, d2, _, rfl, es2, rfl, _, rfl, _, rfl, s, a, word, words, form, _, p, M, rfl, A2, O, ea0, ef, hlen, by omega, hrl,
        fun M' e p' H' A' => ⟨_, rfl, k1 M' (hm.trans e) _ _ (A'.back S0)⟩, fun e H' S => ⟨_, rfl, k2 (hm.trans e) _ (S0.trans S)⟩⟩
end
end FP
set_option Elab.async false
set_option linter.all false
set_option maxRecDepth 100000
set_option maxHeartbeats 4000000
namespace FP
open PySem PySem.Spec PyProof.Rows L2
section
variable {P : Program} {w : World} {K : PySem.W.Frag} {mg : Str → Option Value} {base : Heap} {Cr Cs aT aP aO : Addr}
def spLand (Cr Cs : Addr) : Sp := fun vs H Q _ => ∃ (s : Addr) (n f k : Nat) (H0 : Hp) (p : Pt) (M : ShM), vs = [.ref s, .int (n : Nat)] ∧ ShAt Cr Cs H0 H s p M ∧ landM M.rows f n = some k ∧ Q (.int (k : Nat)) H
theorem scLA : FnScope ["self", "number"] ["self", "number"] (defScope mSheet_landing) := ⟨rfl, rfl, rfl, by decide +kernel, rfl, by decide +kernel, by decide +kernel⟩
theorem ok_land {f : Addr} {fd : FuncData} (F : Fun K "_landing" "Sheet._landing" mSheet_landing f fd) (T : ShTxt K mg Cr Cs) (C : Csts K mg aT aP aO) (B : Blt2 mg) : FnOk P w K mg base CX0 1 f fd ["self", "number"] (spLand Cr Cs) := by
  refine F.ok scLA (fun vs H Q E h => ?_) (fun cdv A outer s H vs Q E hr h => ?_)
  · obtain ⟨s, n, f, k, H0, p, M, rfl, _⟩ := h
    rfl
  obtain ⟨s, n, f, k, H0, p, M, rfl, A0, hk, q⟩ := h
  obtain ⟨dx, es⟩ := A0.sh
  have hlen : (p.ras.map V.ref).length = M.rows.length := by rw [List.length_map, A0.len]
  refine ⟨_, pss_cons (ps_while PassesOwn.never (PW.pt (pw_and (pt_cmpR op_lt (pv 1) (pe_callB call_len_seq (by rfl) B.len boot_len (pa_cons (pe_fld (pv 0) rfl) pa_nil)) (nomark _))
      (pw_and1 (pt_cmpR op_in_seq (pe_fld (pe_ix ix_list (pe_fld (pv 0) rfl) (pv 1) (fun _ _ => rfl)) rfl) (pe_glob (v := .ref aP) (by rfl) C.gP rfl) (by rfl)))))
      (pss_one (ps_set (i := 1) scLA.nd rfl (.inl rfl) (pe_fld (pe_ix ix_list (pe_fld (pv 0) rfl) (pv 1) (fun _ _ => rfl)) rfl))))
    (pss_one (ps_ret (pe_ifExp (pt_cmpR op_lt (pv 1) (pe_callB call_len_seq (by rfl) B.len boot_len (pa_cons (pe_fld (pv 0) rfl) pa_nil)) (nomark _)) (pv 1) pe_int))), ?_⟩
  refine ⟨fun m σ H' => H' = H ∧ ∃ n' : Nat, σ = [some (.ref s), some (.int (n' : Nat))] ∧ landM M.rows m n' = some k, ⟨f, rfl, n, rfl, hk⟩, ?_⟩
  rintro m σ H' ⟨rfl, n', rfl, hm⟩
  cases m with
  | zero => cases hm
  | succ m =>
    have e0 : landM M.rows (m + 1) n' = if n' < M.rows.length then (match M.rows[n']? with
      | some r => if passL.contains r.word = true then landM M.rows m r.after else some n'
      | none => none) else some 0 := rfl
    rw [e0] at hm
    refine ⟨_, rfl, _, rfl, s, Cs, dx, _, _, rfl, es, T.cs, T.sr, lkS1 p, p.R, _, rfl, .inl (SqL.of A0.R), _, _, rfl, rfl, _, rfl, ?_⟩
    rw [hlen]
    refine ite2 (fun c => ?_) fun c => ?_
    · have hn : n' < M.rows.length := by have := of_decide_eq_true c; omega
      rw [if_pos hn] at hm
      have em := List.getElem?_eq_getElem hn
      obtain ⟨r, dr, t, hr_, eat, er, et⟩ := A0.rowsAt em
      rw [em] at hm
      refine ⟨_, rfl, s, Cs, dx, _, _, rfl, es, T.cs, T.sr, lkS1 p, _, rfl, p.R, _, _, _, rfl, rfl, SqL.of A0.R, eat, r, Cr, dr, _, _, rfl, er, T.cr, T.rw_, lkR1 _ t, aP, _, rfl, .inr (C.sP H'), rfl, flat_strs _, _, rfl, ?_⟩
      rw [show (if false = true then !inV (V.str M.rows[n'].word) (passL.map V.str) else inV (V.str M.rows[n'].word) (passL.map V.str)) = passL.contains M.rows[n'].word from inV_strs _ passL]
      cases hc : passL.contains M.rows[n'].word with
      | true =>
        replace hm : (if passL.contains M.rows[n'].word = true then landM M.rows m M.rows[n'].after else some n') = some k := hm
        rw [if_pos hc] at hm
        refine iteT ⟨fun σ H2 => H2 = H' ∧ ∃ n' : Nat, σ = [some (.ref s), some (.int (n' : Nat))] ∧ landM M.rows m n' = some k, fun σ' H2 z => ⟨m, Nat.lt_succ_self _, z⟩, ?_⟩
        exact ⟨_, rfl, s, Cs, dx, _, _, rfl, es, T.cs, T.sr, lkS1 p, _, rfl, p.R, _, _, _, rfl, rfl, SqL.of A0.R, eat, r, Cr, dr, _, _, rfl, er, T.cr, T.ra, lkR3 _ t, rfl, _, rfl, hm⟩
      | false =>
        replace hm : (if passL.contains M.rows[n'].word = true then landM M.rows m M.rows[n'].after else some n') = some k := hm
        rw [if_neg (by rw [hc]; exact Bool.false_ne_true)] at hm
        refine iteF ?_
        refine ⟨_, rfl, _, rfl, s, Cs, dx, _, _, rfl, es, T.cs, T.sr, lkS1 p, p.R, _, rfl, .inl (SqL.of A0.R), _, _, rfl, rfl, _, rfl, ?_⟩
        rw [hlen, decide_eq_true (show (n' : Int) < (M.rows.length : Nat) by omega)]
        refine iteT ⟨_, rfl, ?_⟩
        rw [Option.some.inj hm]
        exact q
    · have hn : ¬ n' < M.rows.length := fun z => c (decide_eq_true (by omega))
      rw [if_neg hn] at hm
      refine ⟨_, rfl, _, rfl, s, Cs, dx, _, _, rfl, es, T.cs, T.sr, lkS1 p, p.R, _, rfl, .inl (SqL.of A0.R), _, _, rfl, rfl, _, rfl, ?_⟩
      rw [hlen, decide_eq_false (show ¬ (n' : Int) < (M.rows.length : Nat) by omega)]
      refine iteF ?_
      rw [← Option.some.inj hm] at q
      exact q
end
end FP
set_option Elab.async false
set_option linter.all false
set_option maxRecDepth 100000
set_option maxHeartbeats 4000000
namespace FP
open PySem PySem.Spec PyProof.Rows L2
section
variable {P : Program} {w : World} {K : PySem.W.Frag} {mg : Str → Option Value} {base : Heap} {Cr Cs aT aP aO : Addr}
def spWays (Cr Cs : Addr) : Sp := fun vs H Q _ => ∃ (s : Addr) (f : Nat) (rows' : List RowM) (H0 : Hp) (p : Pt) (M : ShM), vs = [.ref s] ∧ ShAt Cr Cs H0 H s p M ∧ waysM f M.rows.length 0 M.rows = some rows' ∧
  ∀ H', ShAt Cr Cs H0 H' s p ⟨rows', M.homes, M.around, M.nest⟩ → Q .non H'
theorem wayM_len {f i : Nat} {rows rows' : List RowM} (h : wayM f rows i = some rows') : rows'.length = rows.length := by
  unfold wayM at h
  split at h
  · split at h
    · rw [← Option.some.inj h]
    · cases e1 : landM rows f (‹RowM›).after with
      | none => rw [e1] at h; cases h
      | some a =>
        rw [e1] at h
        obtain ⟨o, _, e⟩ := Option.map_eq_some_iff.mp h
        rw [← e, List.length_set]
  · cases h
theorem scFW : FnScope ["self", "row"] ["self"] (defScope mSheet_find_ways) := ⟨rfl, rfl, rfl, by decide +kernel, rfl, by decide +kernel, by decide +kernel⟩
theorem ok_ways {f : Addr} {fd : FuncData} (F : Fun K "find_ways" "Sheet.find_ways" mSheet_find_ways f fd) (T : ShTxt K mg Cr Cs) (C : Csts K mg aT aP aO) (B : Blt2 mg) (DL : MDef P w K mg base Cs "_landing" 1 ["self", "number"] (spLand Cr Cs)) :
    FnOk P w K mg base CX0 2 f fd ["self"] (spWays Cr Cs) := by
  obtain ⟨fL, fdL, mL, bL, GL⟩ := DL.ex
  refine F.ok scFW (fun vs H Q E h => ?_) (fun cdv A outer s H vs Q E hr h => ?_)
  · obtain ⟨s, f, rows', H0, p, M, rfl, _⟩ := h
    rfl
  obtain ⟨s, fu, rows', H0, p, M, rfl, A0, hw, q⟩ := h
  obtain ⟨dx, es⟩ := A0.sh
  refine ⟨_, pss_one (ps_for PassesOwn.never rfl (pi_list (pe_callTy call_list_of (by rfl) B.list (by decide +kernel) (pa_cons (pe_fld (pv 0) rfl) pa_nil))) (pg_name (i := 1) scFW.nd rfl (Or.inl rfl))
    (pss_one (ps_if (pt_cmpR op_notIn_seq (pe_fld (pv 1) rfl) (pe_glob (v := .ref aP) (by rfl) C.gP rfl) (by rfl))
      (pss_cons (ps_fld (pv 1) (pe_meth (pv 0) T.cs mL GL hr bL .nil pass0 (pa_cons (pe_fld (pv 1) rfl) pa_nil)) rfl) (pss_one (ps_fld (pv 1) (pe_meth (pv 0) T.cs mL GL hr bL .nil pass0 (pa_cons (pe_fld (pv 1) rfl) pa_nil)) rfl))) pss_nil))), ?_⟩
  refine ⟨_, rfl, s, Cs, dx, _, _, rfl, es, T.cs, T.sr, lkS1 p, p.R, _, rfl, .inl (SqL.of A0.R), fun D hD => ?_⟩
  have S0 : Same H0 (upd H0 D (.lst (p.ras.map V.ref))) := Same.new (Same.refl H0) (A0.same.free hD)
  have eD0 : (upd H0 D (.lst (p.ras.map V.ref))) D = some (.lst (p.ras.map V.ref)) := upd_same
  have A1 := A0.root (o := .lst (p.ras.map V.ref)) hD
  generalize upd H0 D (.lst (p.ras.map V.ref)) = HD at S0 eD0 A1
  refine ⟨D, rfl, ⟨_, SqL.of upd_same⟩, for_it (walk_list (xs := p.ras.map V.ref)) (fun i σ H' => ∃ rows, (∃ z, σ = [some (.ref s), z]) ∧ rows.length = M.rows.length ∧ ShAt Cr Cs HD H' s p ⟨rows, M.homes, M.around, M.nest⟩ ∧ waysM fu (M.rows.length - i) i rows = some rows')
    ⟨M.rows, ⟨none, rfl⟩, rfl, A1, hw⟩ (fun i σ H' _ z => ?_) ?_ ?_⟩
  · obtain ⟨rows, _, _, A2, _⟩ := z
    exact SqL.of (A2.same _ _ eD0)
  · rintro i x σ H' H'' hi ⟨rows, ⟨z, rfl⟩, hl, A2, hw2⟩ ⟨rfl, hxi⟩
    rw [List.length_map, A0.len] at hi
    obtain ⟨m, em⟩ : ∃ m, rows[i]? = some m := ⟨_, List.getElem?_eq_getElem (by rw [hl]; exact hi)⟩
    obtain ⟨r, dr, t, hr_, _, er, et⟩ := A2.rowsAt (M := ⟨rows, M.homes, M.around, M.nest⟩) em
    rw [List.getElem?_map, hr_] at hxi
    obtain rfl : V.ref r = x := Option.some.inj hxi
    rw [show M.rows.length - i = (M.rows.length - (i + 1)) + 1 by omega] at hw2
    have hw3 : (wayM fu rows i).bind (fun r => waysM fu (M.rows.length - (i + 1)) (i + 1) r) = some rows' := hw2
    have hway : wayM fu rows i = if passL.contains m.word = true then some rows else (landM rows fu m.after).bind fun a => (landM (rows.set i { m with after := a }) fu m.other).map fun o => rows.set i { m with after := a, other := o } := by
      unfold wayM
      rw [em]
    refine ⟨_, rfl, r, Cr, dr, _, _, rfl, er, T.cr, T.rw_, lkR1 m t, aP, _, rfl, .inr (C.sP _), rfl, flat_strs _, _, rfl, ?_⟩
    rw [show (if true = true then !inV (V.str m.word) (passL.map V.str) else inV (V.str m.word) (passL.map V.str)) = !passL.contains m.word from congrArg (!·) (inV_strs m.word passL)]
    cases hc : passL.contains m.word with
    | true =>
      rw [hway, if_pos hc] at hw3
      exact iteF ⟨rows, ⟨_, rfl⟩, hl, A2, hw3⟩
    | false =>
      rw [hway, if_neg (by rw [hc]; exact Bool.false_ne_true)] at hw3
      cases e1 : landM rows fu m.after with
      | none => rw [e1] at hw3; cases hw3
      | some a =>
        rw [e1] at hw3
        cases e2 : landM (rows.set i { m with after := a }) fu m.other with
        | none =>
          replace hw3 : ((landM (rows.set i { m with after := a }) fu m.other).map fun o => rows.set i { m with after := a, other := o }).bind (fun r => waysM fu (M.rows.length - (i + 1)) (i + 1) r) = some rows' := hw3
          rw [e2] at hw3
          cases hw3
        | some o =>
          replace hw3 : ((landM (rows.set i { m with after := a }) fu m.other).map fun o => rows.set i { m with after := a, other := o }).bind (fun r => waysM fu (M.rows.length - (i + 1)) (i + 1) r) = some rows' := hw3
          rw [e2] at hw3
          replace hw3 : waysM fu (M.rows.length - (i + 1)) (i + 1) (rows.set i { m with after := a, other := o }) = some rows' := hw3
          obtain ⟨d2, es2⟩ := A2.sh
          refine iteT ⟨_, rfl, s, d2, _, rfl, es2, rfl, _, rfl, r, Cr, dr, _, _, rfl, er, T.cr, T.ra, lkR3 m t, s, m.after, fu, a, HD, p, _, rfl, A2, e1, ?_⟩
          refine ⟨_, rfl, r, Cr, dr, _, rfl, er, T.cr, T.ra, (by show 4 < 1000; decide), ?_⟩
          have A3 := A2.setRow (m' := { m with after := a }) hr_ em er et rfl
          rw [show putF "after" (V.int (a : Nat)) (rowF m t) = rowF { m with after := a } t from rfl]
          obtain ⟨d3, es3⟩ := A3.sh
          refine ⟨_, rfl, s, d3, _, rfl, es3, rfl, _, rfl, r, Cr, dr, _, _, rfl, upd_same, T.cr, T.ro, lkR4 _ t, s, m.other, fu, o, HD, p, _, rfl, A3, e2, ?_⟩
          refine ⟨_, rfl, r, Cr, dr, _, rfl, upd_same, T.cr, T.ro, (by show 4 < 1000; decide), ?_⟩
          have hil : i < rows.length := by rw [hl]; exact hi
          have A4 := A3.setRow (m' := { m with after := a, other := o }) hr_ (List.getElem?_set_self hil) upd_same ((upd_ne (ne_of et er (by intro z; cases z))).trans et) rfl
          rw [show putF "other" (V.int (o : Nat)) (rowF { m with after := a } t) = rowF { m with after := a, other := o } t from rfl]
          refine ⟨rows.set i { m with after := a, other := o }, ⟨_, rfl⟩, by rw [List.length_set]; exact hl, ?_, hw3⟩
          replace A4 := A4
          rw [show (⟨(rows.set i { m with after := a }).set i { m with after := a, other := o }, M.homes, M.around, M.nest⟩ : ShM) = ⟨rows.set i { m with after := a, other := o }, M.homes, M.around, M.nest⟩ by rw [List.set_set]] at A4
          exact A4
  · rintro σ H' ⟨rows, ⟨z, rfl⟩, hl, A2, hw2⟩
    rw [List.length_map, A0.len, Nat.sub_self] at hw2
    have e : rows = rows' := Option.some.inj hw2
    rw [← e] at q
    exact q _ (A2.back S0)
end
end FP
set_option Elab.async false
set_option linter.all false
set_option maxRecDepth 100000
set_option maxHeartbeats 4000000
namespace FP
open PySem PySem.Spec PyProof.Rows L2 TL
section
variable {P : Program} {w : World} {K : PySem.W.Frag} {mg : Str → Option Value} {base : Heap} {Cr Cs aT aP aO : Addr}
def spSheet (Cr Cs : Addr) : Sp := fun vs H Q _ => ∃ (x dx : Addr) (H0 : Hp), vs = [.ref x] ∧ H x = some (.ins Cs dx []) ∧ Same H0 H ∧ H0 x = none ∧ ∀ p H', ShAt Cr Cs H0 H' x p ShM.new → Q .non H'
theorem scSI : FnScope ["self"] ["self"] (defScope mSheet_init) := ⟨rfl, rfl, rfl, by decide +kernel, rfl, by decide +kernel, by decide +kernel⟩
theorem ok_sheetInit {f : Addr} {fd : FuncData} (F : Fun K "__init__" "Sheet.__init__" mSheet_init f fd) (T : ShTxt K mg Cr Cs) (DR : CDef P w K mg base Cr 1 ["self", "word", "names", "number"] (spRow Cr)) : FnOk P w K mg base CX0 3 f fd ["self"] (spSheet Cr Cs) := by
  obtain ⟨fR, fdR, mR, bR, GR⟩ := DR.ex
  refine F.ok scSI (fun vs H Q E h => ?_) (fun cdv A outer s H vs Q E hr h => ?_)
  · obtain ⟨x, dx, H0, rfl, _⟩ := h
    rfl
  obtain ⟨x, dx, H0, rfl, hx, S0, hx0, q⟩ := h
  refine ⟨_, pss_cons (ps_fld (pv 0) (pe_lst (pa_cons (pe_make mR GR hr rfl T.gr bR .nil pass0 (pa_cons pe_str (pa_cons (pe_tup pa_nil) (pa_cons pe_int pa_nil)))) pa_nil)) rfl) (pss_cons (ps_fld (pv 0) pe_dnewK rfl) (pss_cons (ps_fld (pv 0) pe_dnewK rfl) (pss_one (ps_fld (pv 0) (pe_lst (pa_cons pe_int pa_nil)) rfl)))), ?_⟩
  refine ⟨Nat.zero_le _, fun t ht => ?_⟩
  refine fun r dr nr nd ne => ⟨r, dr, t, _, 0, rfl, upd_same, fun H3 e1 e2 => ⟨rfl, ?_⟩⟩
  obtain ⟨S3, new⟩ := row_made (names := []) (wd := "") (k := 0) (Same.new (o := .tup []) (Same.refl H) ht) upd_same nr nd e1 e2
  have nrH : H r = none := (Same.new (o := .tup []) (Same.refl H) ht).free nr
  have hx3 := S3 _ _ hx
  refine ⟨by rw [sizeLine_eq]; show 1 ≤ 16777216; decide, fun R hR => ⟨_, rfl, x, Cs, dx, [], rfl, (upd_ne (ne_of_none hx3 hR)).trans hx3, T.cs, T.sr, (by show 0 < 1000; decide), fun h hh => ?_⟩⟩
  have nRx : R ≠ x := (ne_of_none hx3 hR).symm
  have hh1 : h ≠ x := fun z => by rw [z, upd_same] at hh; cases hh
  rw [upd_ne hh1] at hh
  have hhR : h ≠ R := fun z => by rw [z, upd_same] at hh; cases hh
  rw [upd_ne hhR] at hh
  refine ⟨_, rfl, x, Cs, dx, _, rfl, (upd_ne hh1.symm).trans upd_same, T.cs, T.sh, (by show 1 < 1000; decide), fun ar ha => ?_⟩
  have ha1 : ar ≠ x := fun z => by rw [z, upd_same] at ha; cases ha
  rw [upd_ne ha1] at ha
  have hah : ar ≠ h := fun z => by rw [z, upd_same] at ha; cases ha
  rw [upd_ne hah, upd_ne ha1] at ha
  have haR : ar ≠ R := fun z => by rw [z, upd_same] at ha; cases ha
  rw [upd_ne haR] at ha
  refine ⟨_, rfl, x, Cs, dx, _, rfl, (upd_ne ha1.symm).trans upd_same, T.cs, T.sa, (by show 2 < 1000; decide), by rw [sizeLine_eq]; show 1 ≤ 16777216; decide, fun n hn => ?_⟩
  have hn1 : n ≠ x := fun z => by rw [z, upd_same] at hn; cases hn
  rw [upd_ne hn1] at hn
  have hna : n ≠ ar := fun z => by rw [z, upd_same] at hn; cases hn
  rw [upd_ne hna, upd_ne hn1] at hn
  have hnh : n ≠ h := fun z => by rw [z, upd_same] at hn; cases hn
  rw [upd_ne hnh, upd_ne hn1] at hn
  have hnR : n ≠ R := fun z => by rw [z, upd_same] at hn; cases hn
  rw [upd_ne hnR] at hn
  refine ⟨_, rfl, x, Cs, dx, _, rfl, (upd_ne hn1.symm).trans upd_same, T.cs, T.sn, (by show 3 < 1000; decide), ?_⟩
  obtain ⟨d9, t9, er9, et9⟩ := new
  have keep : ∀ {b : Addr} {u : HO}, H3 b = some u → b ≠ x → (upd (upd (upd (upd (upd (upd (upd (upd H3 R (.lst [.ref r])) x (.ins Cs dx (putF "rows" (.ref R) []))) h (.dK [])) x (.ins Cs dx (putF "homes" (.ref h) (putF "rows" (.ref R) [])))) ar (.dK [])) x (.ins Cs dx (putF "around" (.ref ar) (putF "homes" (.ref h) (putF "rows" (.ref R) []))))) n (.lst [.int 0])) x (.ins Cs dx (putF "_nest" (.ref n) (putF "around" (.ref ar) (putF "homes" (.ref h) (putF "rows" (.ref R) [])))))) b = some u := fun e nx => by
    rw [upd_ne nx, upd_ne (ne_of_none e hn), upd_ne nx, upd_ne (ne_of_none e ha), upd_ne nx, upd_ne (ne_of_none e hh), upd_ne nx, upd_ne (ne_of_none e hR)]
    exact e
  have S03 : Same H0 H3 := S0.trans S3
  have nrx : r ≠ x := fun z => by rw [z, hx] at nrH; cases nrH
  have t9x : t9 ≠ x := ne_of et9 hx3 (by intro z; cases z)
  refine q ⟨R, h, ar, n, [r]⟩ _ ⟨⟨dx, upd_same⟩, ?_, ?_, ?_, ?_, rfl, ?_, by simp, hnR.symm, hah.symm, ?_, S03.free hR, S03.free hh, S03.free ha, S03.free hn, ?_, fun b u e => keep (S03 _ _ e) (ne_of_none e hx0)⟩
  · show _ = some (HO.lst [.ref r])
    rw [upd_ne nRx, upd_ne hnR.symm, upd_ne nRx, upd_ne haR.symm, upd_ne nRx, upd_ne hhR.symm, upd_ne nRx, upd_same]
  · show _ = some (HO.dK [])
    rw [upd_ne hh1, upd_ne hnh.symm, upd_ne hh1, upd_ne hah.symm, upd_ne hh1, upd_same]
  · show _ = some (HO.dK [])
    rw [upd_ne ha1, upd_ne hna.symm, upd_ne ha1, upd_same]
  · show _ = some (HO.lst [.int 0])
    rw [upd_ne hn1, upd_same]
  · intro i r' m' h1 h2
    cases i with
    | zero =>
      cases h1
      cases h2
      exact ⟨d9, t9, keep er9 nrx, keep et9 t9x⟩
    | succ i => cases h1
  · intro z
    exact nrx (List.mem_singleton.mp z).symm
  · intro b hb
    rw [List.mem_singleton.mp hb]
    exact S0.free nrH
end
end FP
set_option Elab.async false
set_option linter.all false
set_option maxRecDepth 100000
set_option maxHeartbeats 4000000
namespace FP
open PySem PySem.Spec PyProof.Rows L2 TL
theorem readLines_snoc : ∀ (xs : List (List Str)) (M : ShM) (l : List Str), readLines M (xs ++ [l]) = (readLines M xs).bind fun M1 => takeM M1 l
  | [], M, l => by
    show (takeM M l).bind (fun M1 => readLines M1 []) = takeM M l
    cases takeM M l <;> rfl
  | y :: r, M, l => by
    show (takeM M y).bind (fun M1 => readLines M1 (r ++ [l])) = ((takeM M y).bind fun M1 => readLines M1 r).bind fun M1 => takeM M1 l
    cases takeM M y with
    | none => rfl
    | some h => exact readLines_snoc r h l
theorem readLines_stop : ∀ (xs : List (List Str)) (M : ShM) (i : Nat), readLines M (xs.take i) = none → readLines M xs = none
  | [], _, i, h => by rw [List.take_nil] at h; exact h
  | _ :: _, M, 0, h => by cases h
  | y :: r, M, i + 1, h => by
    show (takeM M y).bind (fun h => readLines h r) = none
    have h' : (takeM M y).bind (fun h => readLines h (r.take i)) = none := h
    cases e : takeM M y with
    | none => rfl
    | some g =>
      rw [e] at h'
      exact readLines_stop r g i h'
theorem readLines_step {xs : List (List Str)} {M M' : ShM} (h : readLines M xs = some M') {i : Nat} (hi : i < xs.length) : ∃ Mi Mj, readLines M (xs.take i) = some Mi ∧ takeM Mi xs[i] = some Mj ∧ readLines M (xs.take (i + 1)) = some Mj := by
  have e : xs.take (i + 1) = xs.take i ++ [xs[i]] := by rw [List.take_add_one, List.getElem?_eq_getElem hi]; rfl
  cases e1 : readLines M (xs.take i) with
  | none => rw [readLines_stop xs M i e1] at h; cases h
  | some Mi =>
    cases e2 : readLines M (xs.take (i + 1)) with
    | none => rw [readLines_stop xs M (i + 1) e2] at h; cases h
    | some Mj =>
      refine ⟨Mi, Mj, rfl, ?_, rfl⟩
      rw [e, readLines_snoc, e1] at e2
      exact e2
theorem lines_lens (x : Str) : ∀ l ∈ linesM x, l.length ≤ x.length := by
  unfold linesM
  split
  · intro l hl; cases hl
  · exact split_lens x "\n" (by decide) (by decide +kernel)
theorem lines_cnt (x : Str) : (linesM x).length ≤ x.length + 2 := by
  unfold linesM
  split
  · simp
  · exact PyProof.Rows.split_le x "\n"
section
variable {P : Program} {w : World} {K : PySem.W.Frag} {mg : Str → Option Value} {base : Heap} {Cr Cs aT aP aO : Addr}
def spRead (Cr Cs : Addr) : Sp := fun vs H Q _ => ∃ (x : Str) (m : Nat) (M : ShM), vs = [.str x, .int (m : Nat)] ∧ x.length ≤ 80000 ∧ readM x m = some M ∧ ∀ s p H', ShAt Cr Cs H H' s p M → Q (.ref s) H'
abbrev nRS : List Str := ["text", "most", "sheet", "lines", "number", "line"]
theorem scRS : FnScope nRS ["text", "most"] (defScope sRead) := ⟨rfl, rfl, rfl, by decide +kernel, rfl, by decide +kernel, by decide +kernel⟩
theorem ok_read {f : Addr} {fd : FuncData} (F : Fun K "read_sheet" "read_sheet" sRead f fd) (T : ShTxt K mg Cr Cs) (B : Blt2 mg) (DI : CDef P w K mg base Cs 3 ["self"] (spSheet Cr Cs)) (DL : Def P w K mg base "lines_of" 1 ["text"] spLines)
    (DT : MDef P w K mg base Cs "take_line" 4 ["self", "line"] (spTakeLine Cr Cs)) (DC : MDef P w K mg base Cs "is_closed" 1 ["self"] (spClosed Cr Cs)) (DW : MDef P w K mg base Cs "find_ways" 2 ["self"] (spWays Cr Cs)) :
    FnOk P w K mg base CX0 5 f fd ["text", "most"] (spRead Cr Cs) := by
  obtain ⟨fI, fdI, mI, bI, GI⟩ := DI.ex
  obtain ⟨fL, fdL, gL, kL, bL, GL⟩ := DL.ex
  obtain ⟨fT, fdT, mT, bT, GT⟩ := DT.ex
  obtain ⟨fC, fdC, mC, bC, GC⟩ := DC.ex
  obtain ⟨fW, fdW, mW, bW, GW⟩ := DW.ex
  refine F.ok scRS (fun vs H Q E h => ?_) (fun cdv A outer s H vs Q E hr h => ?_)
  · obtain ⟨x, m, M, rfl, _⟩ := h
    rfl
  obtain ⟨x, m, M, rfl, hx, hread, q⟩ := h
  have hr1 := hr.mono (show 1 ≤ 4 by decide)
  have hr2 := hr.mono (show 2 ≤ 4 by decide)
  refine ⟨_, pss_cons (ps_set (i := 2) scRS.nd rfl (.inl rfl) (pe_make0 mI GI hr rfl T.gs bI .nil pass0))
    (pss_cons (ps_set (i := 3) scRS.nd rfl (.inl rfl) (pe_call GL hr1 rfl gL kL bL .nil pass0 (pa_cons (pv 0) pa_nil)))
    (pss_cons (ps_for PassesOwn.never rfl (pi_enumS true (by rfl) B.enum (pa_cons (pv 3) pa_nil) (pk_cons pe_int pk_nil)) (pg_tup (by rfl) (pgs_cons (pg_name (i := 4) scRS.nd rfl (Or.inl rfl)) (pgs_cons (pg_name (i := 5) scRS.nd rfl (Or.inl rfl)) pgs_nil)))
      (pss_one (ps_if (PW.pt (pw_or (pt_cmpR op_gt (pv 4) (pv 1) (nomark _)) (pw_or1 (pt_not (pt_val (pe_meth (pv 2) T.cs mT GT hr bT .nil pass0 (pa_cons (pv 5) pa_nil))))))) (pss_one ps_never) pss_nil)))
    (pss_cons (ps_if (pt_not (pt_val (pe_meth0 (pv 2) T.cs mC GC hr1 bC .nil pass0))) (pss_one ps_never) pss_nil)
    (pss_cons (ps_expr (pe_meth0 (pv 2) T.cs mW GW hr2 bW .nil pass0))
    (pss_one (ps_ret (pv 2))))))), ?_⟩
  -- what the mirror says
  unfold readM at hread
  by_cases hml : (linesM x).length ≤ m
  case neg => rw [if_neg hml] at hread; cases hread
  rw [if_pos hml] at hread
  obtain ⟨M1, hM1, hread⟩ := Option.bind_eq_some_iff.mp hread
  by_cases hn1 : M1.nest.length = 1
  case neg => rw [if_neg hn1] at hread; cases hread
  rw [if_pos hn1] at hread
  obtain ⟨rows', hrows, hread⟩ := Option.map_eq_some_iff.mp hread
  have hcnt := lines_cnt x
  have hlens := lines_lens x
  refine fun s dx ns nd ne => ⟨s, dx, H, rfl, upd_same, (Same.new (Same.new (Same.refl H) nd) ((upd_ne ne.symm).trans ns)), ns, fun p H1 A1 => ⟨rfl, ?_⟩⟩
  refine ⟨_, rfl, x, rfl, by omega, fun l H2 hl S2 el => ?_⟩
  have A2 := A1.grow S2
  have nl : H l = none := A1.same.free hl
  -- the lines' list belongs to the beginning
  have A3 : ShAt Cr Cs (upd H l (.lst ((linesM x).map V.str))) H2 s p ShM.new := by
    have B := A1.root (o := .lst ((linesM x).map V.str)) hl
    refine B.grow fun b u e => ?_
    by_cases z : b = l
    · rw [z, upd_same] at e
      rw [z, el]
      exact e
    · rw [upd_ne z] at e
      exact S2 _ _ e
  have S0 : Same H (upd H l (.lst ((linesM x).map V.str))) := Same.new (Same.refl H) nl
  have eD0 : (upd H l (.lst ((linesM x).map V.str))) l = some (.lst ((linesM x).map V.str)) := upd_same
  generalize upd H l (.lst ((linesM x).map V.str)) = HD at A3 S0 eD0
  refine ⟨_, rfl, l, _, 1, rfl, rfl, by decide, by decide, SqL.of el, for_it (walk_enumB (xs := (linesM x).map V.str)) (fun i σ H' => ∃ p Mi, (∃ z z2, σ = [some (.str x), some (.int (m : Nat)), some (.ref s), some (.ref l), z, z2]) ∧ readLines ShM.new (((linesM x).map fun l => Txt.split l " ").take i) = some Mi ∧ Ok Mi ∧ Mi.rows.length = i + 1 ∧ ShAt Cr Cs HD H' s p Mi)
    ⟨p, ShM.new, ⟨none, none, rfl⟩, rfl, ok_new, rfl, A3⟩ (fun i σ H' _ z => ?_) ?_ ?_⟩
  · obtain ⟨p, Mi, _, _, _, _, A4⟩ := z
    exact SqL.of (A4.same _ _ eD0)
  · rintro i v σ H' H'' hi ⟨p, Mi, ⟨z, z2, rfl⟩, hMi, Oi, hli, A4⟩ ⟨T', a, b, rfl, hT, rfl, ha, hb⟩
    rw [List.length_map] at hi
    obtain rfl : V.int (1 + (i : Nat)) = a := Option.some.inj ha
    replace hb : ((linesM x).map V.str)[i]? = some b := hb
    rw [List.getElem?_map, List.getElem?_eq_getElem hi] at hb
    obtain rfl : V.str (linesM x)[i] = b := Option.some.inj hb
    have A5 := A4.grow (Same.new (o := .tup [.int (1 + (i : Nat)), .str (linesM x)[i]]) (Same.refl H') hT)
    obtain ⟨Mi', Mj, h1, h2, h3⟩ := readLines_step hM1 (i := i) (by rw [List.length_map]; exact hi)
    rw [hMi] at h1
    obtain rfl := Option.some.inj h1
    rw [List.getElem_map] at h2
    obtain ⟨Oj, hlj⟩ := Oi.take h2
    obtain ⟨d5, es5⟩ := A5.sh
    refine ⟨T', _, rfl, SqT.of upd_same, rfl, _, _, rfl, _, _, rfl, rfl, ?_⟩
    refine ⟨_, rfl, _, rfl, _, _, rfl, rfl, _, rfl, ?_⟩
    rw [decide_eq_false (show ¬ ((m : Nat) : Int) < 1 + (i : Nat) by omega)]
    refine iteF ⟨_, rfl, s, d5, _, rfl, es5, rfl, _, rfl, s, (linesM x)[i], HD, p, Mi, rfl, A5, Oi, ?_, by omega, fun M' e p' H3 A6 => ⟨_, rfl, iteF ?_⟩, fun e => ?_⟩
    · have := hlens _ (List.getElem_mem hi)
      omega
    · rw [h2] at e
      obtain rfl := Option.some.inj e
      exact ⟨p', Mj, ⟨_, _, rfl⟩, h3, Oj, by omega, A6⟩
    · rw [h2] at e; cases e
  · rintro σ H' ⟨p, Mi, ⟨z, z2, rfl⟩, hMi, Oi, hli, A4⟩
    rw [List.length_map] at hMi
    rw [List.take_of_length_le (by rw [List.length_map]; exact Nat.le_refl _), hM1] at hMi
    obtain rfl := Option.some.inj hMi
    obtain ⟨d4, es4⟩ := A4.sh
    refine ⟨_, rfl, s, d4, _, rfl, es4, rfl, s, HD, p, M1, rfl, A4, _, rfl, ?_⟩
    rw [decide_eq_true hn1]
    refine iteF ⟨_, rfl, s, d4, _, rfl, es4, rfl, s, 100, rows', HD, p, M1, rfl, A4, hrows, fun H5 A5 => ⟨_, rfl, ?_⟩⟩
    rw [← hread] at q
    exact q s p _ (A5.back S0)
end
end FP
set_option Elab.async false
set_option linter.all false
set_option maxRecDepth 100000
set_option maxHeartbeats 4000000
/-! repr of data where nothing else is being shown; a law's def that knows what runs around it. -/
namespace FP
open PySem PySem.Spec PyProof.Rows L2 NdefX TL
def rReprD (K : W.Frag) : List V → Hp → VK → Prop := fun xs H Q => ∃ (a : Addr) (d : PyData), xs = [.ref a] ∧ Dp K H (.ref a) d ∧ d.showable = true ∧ d.hasDict = false ∧ d.depth ≤ 5 ∧ d.shown.length ≤ sizeLine ∧ Q (.str d.shown) H
theorem call_reprD {X : Cx} (hg : X.A.guards = some []) (hu : X.A.units + 64 < cLine) : CallR X (.builtin "repr") (rReprD X.K) := by
  intro pins s σ H xs us Q I r h
  obtain ⟨a, d, rfl, hd, hs, hnd, hdep, hz, q⟩ := h
  obtain ⟨u, rfl, ru⟩ := vals1 r
  obtain ⟨as, rd⟩ := Dp.reads I d (.ref a) u hd ru
  have ru : u = Value.ref a := ru
  subst ru
  exact repr_of_reads' rd hs (fun z => by rw [hnd] at z; cases z) hg (by omega) (fun _ _ e => e) (fun h' u tk k => ⟨.str d.shown, H, I.kept (t' := tk) k, ⟨u, rfl⟩, q⟩) hz
theorem pe_reprD {X : Cx} {e : Expr} {te : TE} {p pos : Pos} (hg : X.A.guards = some []) (hu : X.A.units + 64 < cLine) (hgl : Gl X "repr" := by rfl) (hm : X.mg "repr" = none) (he : PE X e te) (h1 : starEach [e] X.env = (false, eval e X.env) :: starEach [] X.env := by rfl) :
    PE X (.Call (.Name "repr" p) [e] [] pos) (tCB (rReprD X.K) (tCons te tNil)) :=
  pe_callB (call_reprD hg hu) hgl hm (by decide +kernel) (pa_cons he pa_nil h1) (by decide) (by decide) h1 (by rfl)
/-- a repr of an int -/
def rReprI : List V → Hp → VK → Prop := fun xs H Q => ∃ i, xs = [.int i] ∧ i.natAbs.log2 < 1920 ∧ Q (.str (toString i)) H
theorem call_reprI {X : Cx} : CallR X (.builtin "repr") rReprI := by
  intro pins s σ H xs us Q I r h
  obtain ⟨i, rfl, hz, q⟩ := h
  obtain ⟨u, rfl, t, rfl⟩ := vals1 r
  exact PySem.P.repr_of_int hz ⟨.str _, H, I.tok _, ⟨_, rfl⟩, q⟩
/-- a law's def, called with nothing being shown around -/
structure LawOk (P : Program) (w : World) (K : W.Frag) (mg : Str → Option Value) (base : Heap) (k : Nat) (f : Addr) (fd : FuncData) (x : Str) (sp : Sp) : Prop where
  len : ∀ vs H Q E, sp vs H Q E → vs.length = 1
  run : ∀ (A : Around) (outer : List Env) (s : Shared) (H : Hp) (u : Value) (v : V) (Q : VK) (E : XK), A.guards = some [] → Room k A → Env0 P w K mg base A outer s H → BindsTo s fd ⟨[u], []⟩ [(x, u)] → RelV v u → sp [v] H Q E →
    codeAny (model P w) A (.call (.ref f) ⟨[u], []⟩) (CR CX0 outer P w H s Q E) s
/-- the words of a plain def -/
abbrev plF (name qual : Str) (params : Arguments) (body : List Stmt) (scope : Scope) (cda : Addr) : NF := ⟨name, qual, params, body, scope, [], cda⟩
theorem law_fn {P : Program} {w : World} {K : W.Frag} {mg : Str → Option Value} {base : Heap} {k : Nat} {f cda : Addr} {name qual x : Str} {params : Arguments} {body : List Stmt} {scope : Scope} {N : List Str} {sp : Sp} {dV kV doc pm ct oc : Value} {an od : Option Addr} {osl : Array (Option Value)}
    (lk : K.lookup f = some ⟨oc, od, .func (W.fnOf name qual params body scope dV kV doc pm an (.ref cda) ct), osl⟩) (hcd : W.codeIn K (.ref cda) qual = true) (S : NScope N [x] [] scope) (len : ∀ vs H Q E, sp vs H Q E → vs.length = 1)
    (hbody : ∀ (A : Around) (outer : List Env) (s : Shared) (H : Hp) (vs : List V) (Q : VK) (E : XK), A.guards = some [] → Room k (A.deeper (envF (plF name qual params body scope cda) f s.heap.objs.size)) → sp vs H Q E →
      ∃ t, PSs (ncx CX0 P w K mg base N (plF name qual params body scope cda) f A outer s H E).nox body t ∧ t { nx := fun _ H' => Q .non H', rt := Q } (startF N vs []) H) :
    LawOk P w K mg base (k + 1) f (W.fnOf name qual params body scope dV kV doc pm an (.ref cda) ct) x sp := by
  refine ⟨len, fun A outer s H u v Q E hg hr e0 hb rv hsp => ?_⟩
  have KX : K.In s.heap := fun b o e => (e0.bs b o (e0.mod.kin b o e)).1
  have lim : s.heap.NoLimit := e0.mod.nolimit.keeps fun b o e => (e0.bs b o e).1
  have cells : CellsAt ([] : List (Str × Addr)) [] [] s.heap H := ⟨rfl, fun y c z => by simp [List.lookup] at z, fun x y c z _ => by simp [List.lookup] at z, fun i y z => by simp at z⟩
  refine ks_codeAny_call_defAt hr.depth (KX _ _ lk) rfl lim (W.codeRec_of KX hcd) rfl hb S.nocell (fun y hy => ?_) (fun h₁ hns kp => ?_) S.co S.gen S.kind
  · rw [List.mem_singleton] at hy
    rw [hy]
    exact S.par x List.mem_cons_self
  obtain ⟨t, ht, hq⟩ := hbody A outer s H [v] Q E hg (hr.deeper _) hsp
  have I := inv_startN (CX := CX0) (P := P) (w := w) (K := K) (mg := mg) (base := base) (F := plF name qual params body scope cda) (f := f) (outer := outer) (E := E) (tk := s.toks + [(x, u)].length) (us := [u]) S hr.hd e0 rfl (.cons rv .nil) cells hns kp
  refine ks_wpAt_mono (wpAt_of_wpAny (ht.nox.run [] _ _ H _ I hq)) (fun fl s' hs => ?_) fun e s' hs => hs
  have fin : ∀ {σ' : L2.St} {H' : Hp} {v : V} {u : Value}, Inv (ncx CX0 P w K mg base N (plF name qual params body scope cda) f A outer s H E) [] σ' H' s' → L2.RelV v u → Q v H' → CE outer P w H s Q u s' :=
    fun {σ' H' v u} J rv q => ⟨v, H', J.os, J.bare, J.base, J.hok, rv, q⟩
  cases fl with
  | ret u => obtain ⟨v, σ', H', J, rv, q⟩ := hs; exact fin J rv q
  | next => obtain ⟨σ', H', J, q⟩ := hs; exact fin (v := V.non) (u := Value.none) J rfl q
  | brk => exact False.elim hs.choose_spec.choose_spec.2
  | cont => exact False.elim hs.choose_spec.choose_spec.2
end FP
set_option Elab.async false
set_option linter.all false
set_option maxRecDepth 100000
set_option maxHeartbeats 4000000
namespace FP
open PySem PySem.Spec PyProof.Rows L2 NdefX
section
variable {P : Program} {w : World} {K : W.Frag} {mg mb : Str → Option Value} {k : Nat} {fa a : Addr} {fd : FuncData} {x : Str} {sp : Sp} {s₁ : Shared} {vs : List Value} {ns : List Int}
/-- the call behind the top, from an abstract heap that tracks nothing but perhaps the script -/
theorem call_from (KX : K.In s₁.heap) (hns : s₁.heap.Ns mainGlobals mg) (hb : s₁.heap.Ns builtinsNs mb) (hbb : ∀ x : Str, x ≠ "__name__" → mb x = bootBuiltins x) (hlim : s₁.heap.NoLimit) (hg : s₁.gens = #[])
    (ha : s₁.heap.get? a = some { cls := .type "list", data := .seq vs.toArray }) (hr : Room k callerA)
    (F : ∀ base : Heap, K.In base → base.Ns mainGlobals mg → LawOk P w K mg base k fa fd x sp) (hbind : ∀ (s : Shared) (u : Value), BindsTo s fd ⟨[u], []⟩ [(x, u)])
    (H : Hp) (hO : Only H) (hq : sp [.ref a] H (fun v _ => v = .bl true) fun _ _ _ => False) (hok : HOk P w H s₁.heap) (only : ∀ b, H b ≠ none → b = a) (apart : H a ≠ none → K.lookup a = none) :
    codeAny (model P w) callerA (.call (.ref fa) ⟨[.ref a], []⟩) (fun r s' => r = .ok (.ret (.bool true)) ∧ OldK s₁.heap s'.heap ∧ s'.os = s₁.os ∧ AllBare s'.gens) s₁ := by
  have un : ∀ b, b ≠ a → H b = none := fun b n => by
    cases q : H b with
    | none => rfl
    | some u => exact absurd (only b (by rw [q]; simp)) n
  have dict : ∀ {b : Addr} {m : Str → Option Value}, s₁.heap.Ns b m → (hidT s₁.heap H).Ns b m := fun {b m} ⟨o, es, ep, e, d, r⟩ => by
    have nb : b ≠ a := fun z => by
      rw [z, ha] at e
      cases e
      cases d
    exact ⟨o, es, ep, hidT_get e (un b nb), d, r⟩
  have KB : K.In (hidT s₁.heap H) := fun b o e => hidT_get (KX b o e) (by
    by_cases z : b = a
    · cases q : H b with
      | none => rfl
      | some u =>
        have y := apart (by rw [← z, q]; simp)
        rw [← z, e] at y
        cases y
    · exact un b z)
  obtain ⟨mc, l1, l2⟩ := hlim
  have M : Mod K mg (hidT s₁.heap H) := ⟨KB, dict hns, ⟨mb, dict hb, hbb⟩, ⟨mc, dict l1, l2⟩⟩
  have e0 : Env0 P w K mg (hidT s₁.heap H) callerA [] s₁ H := ⟨rfl, M, fun b o e => of_hidT e, Nat.le_of_eq (hidT_size _ _), trivial, fun b z => absurd (show b ∈ ([] : List Addr) from z) List.not_mem_nil, hok, .of_eq hg⟩
  refine codeAny_mono ((F _ KB (dict hns)).run callerA [] s₁ H (.ref a) (.ref a) _ _ rfl hr e0 (hbind s₁ (.ref a)) rfl hq) fun r s' z => ?_
  match r, z with
  | .ok (.ret u), ⟨v, H', os, bare, U, hok', rv, qv⟩ =>
    have qv : v = .bl true := qv
    subst qv
    have rv : u = Value.bool true := rv
    subst rv
    refine ⟨rfl, OldK.of_keep fun b o e => ?_, os, bare⟩
    rcases hO b with z | ⟨ob, xs, z⟩
    · exact U.keep b o e z (fun y => absurd (show b ∈ ([] : List Addr) from y) List.not_mem_nil) List.not_mem_nil
    · have y := (hok b _ z).1
      rw [e] at y
      cases y
      exact (hok' b _ (U.frzs b _ _ z)).1
theorem call_law (KX : K.In s₁.heap) (hns : s₁.heap.Ns mainGlobals mg) (hb : s₁.heap.Ns builtinsNs mb) (hbb : ∀ x : Str, x ≠ "__name__" → mb x = bootBuiltins x) (hlim : s₁.heap.NoLimit) (hg : s₁.gens = #[])
    (ha : s₁.heap.get? a = some { cls := .type "list", data := .seq vs.toArray }) (hi : IntsAre vs ns) (hl : ns.length ≤ sizeLine) (hr : Room k callerA)
    (F : ∀ base : Heap, K.In base → base.Ns mainGlobals mg → LawOk P w K mg base k fa fd x sp) (hbind : ∀ (s : Shared) (u : Value), BindsTo s fd ⟨[u], []⟩ [(x, u)])
    (hsp : ∀ H : Hp, SqL K H a (ns.map V.int) → sp [.ref a] H (fun v _ => v = .bl true) fun _ _ _ => False) :
    codeAny (model P w) callerA (.call (.ref fa) ⟨[.ref a], []⟩) (fun r s' => r = .ok (.ret (.bool true)) ∧ OldK s₁.heap s'.heap ∧ s'.os = s₁.os ∧ AllBare s'.gens) s₁ := by
  have rv := vals_ints hi
  have hlen := hi.length
  cases hk : K.lookup a with
  | some o =>
    have e := KX a o hk
    rw [ha] at e
    cases e
    exact call_from KX hns hb hbb hlim hg ha hr F hbind (fun _ => none) (fun _ => .inl rfl) (hsp _ (.inr ⟨_, vs.toArray, _, hk, rfl, rfl, rfl, by rw [List.size_toArray, hlen]; exact hl, by simpa using rv⟩)) (fun b u z => by cases z) (fun b z => absurd rfl z) fun z => absurd rfl z
  | none =>
    have at_a : (upd (fun _ => none) a (.frz { cls := .type "list", data := .seq vs.toArray } (.lst (ns.map V.int))) : Hp) a = some (.frz { cls := .type "list", data := .seq vs.toArray } (.lst (ns.map V.int))) := upd_same
    refine call_from KX hns hb hbb hlim hg ha hr F hbind (upd (fun _ => none) a (.frz { cls := .type "list", data := .seq vs.toArray } (.lst (ns.map V.int)))) (fun b => ?_) (hsp _ (.inl (.inr ⟨_, at_a⟩))) (fun b u z => ?_) (fun b z => ?_) fun _ => hk
    · by_cases h : b = a
      · exact .inr ⟨_, _, by rw [h]; exact at_a⟩
      · exact .inl (upd_ne h)
    · by_cases h : b = a
      · subst h
        rw [upd_same] at z
        cases z
        exact ⟨ha, by rw [List.length_map]; exact hl, vs, _, rv, ha⟩
      · rw [upd_ne h] at z
        cases z
    · by_cases h : b = a
      · exact h
      · exact absurd (upd_ne h) z
end
/-- the end of a law's row -/
theorem walk_law {l : W.OpenLaw} {n k : Nat} {q : Program} {loose : List Str} {XP : (Str → Option Value) → Heap → Prop} {YP : World → Heap → Prop} {d : DefRec} {K : Params → W.Frag} {sp : W.Frag → Sp} {x : Str}
    (hn : l.most = some n) (hn2 : n ≤ sizeLine) (hdf : d.params.defaults = []) (hr : Room k callerA) (hY : ∀ (w : World) (h : Heap), YP w h → (K w.params).In h)
    (F : ∀ (w : World) (mg : Str → Option Value) (fa : Addr) (h : Heap), (K w.params).In h → h.Ns mainGlobals mg → mg d.name = some (.ref fa) →
      ∃ fd : FuncData, (∀ (s : Shared) (u : Value), BindsTo s fd ⟨[u], []⟩ [(x, u)]) ∧ ∀ base : Heap, (K w.params).In base → base.Ns mainGlobals mg → LawOk l.prog w (K w.params) mg base k fa fd x (sp (K w.params)))
    (hsp : ∀ (K : W.Frag) (H : Hp) (a : Addr) (ns : List Int), ns.length ≤ n → SqL K H a (ns.map V.int) → sp K [.ref a] H (fun v _ => v = .bl true) fun _ _ _ => False) :
    W.WalkO q loose XP YP l.row.toRowW d [] (fun f vs => PySem.call f vs) := by
  refine Att.attach_call hn hdf fun w s₀ s₁ mg mb fa o pm cd doc a vs ns G Y ho hd hcd hmg hobj hints hlen hg => ?_
  have KX := hY w _ Y
  obtain ⟨fd, hb, hF⟩ := F w mg fa _ KX G.T.g hmg
  exact call_law KX G.T.g G.T.b G.T.builtins G.T.nolimit hg hobj hints (Nat.le_trans hlen hn2) hr hF hb fun H hS => hsp _ H a ns hlen hS
theorem law_of {P : Program} {w : World} {K : W.Frag} {mg : Str → Option Value} {base : Heap} {k : Nat} {f : Addr} {fd : FuncData} {st : Stmt} {x y : Str} {sp : Sp} (F : Fun K y y st f fd)
    (h : ∀ {cda : Addr} {dV kV doc pm ct oc : Value} {an od : Option Addr} {osl : Array (Option Value)}, K.lookup f = some ⟨oc, od, .func (W.fnOf y y (defArgs st) (defBody st) (defScope st) dV kV doc pm an (.ref cda) ct), osl⟩ → W.codeIn K (.ref cda) y = true →
      LawOk P w K mg base k f (W.fnOf y y (defArgs st) (defBody st) (defScope st) dV kV doc pm an (.ref cda) ct) x sp) : LawOk P w K mg base k f fd x sp := by
  obtain ⟨oc, od, kV, doc, pm, an, cdv, ct, osl, rfl, lk, hcd⟩ := F.ex
  cases cdv with
  | ref c => exact h lk hcd
  | _ => cases hcd
end FP
set_option Elab.async false
set_option linter.all false
set_option maxRecDepth 100000
set_option maxHeartbeats 4000000
/-! Facts for the head: plain defs of the heap's functions; a written dict by its keys. -/
namespace FP
open PySem PySem.Spec PyProof.Rows L2
theorem fun_of {K : PySem.W.Frag} {x qual : Str} {st : Stmt} {f : Addr} {fd : FuncData} (F : FunD K x qual (defArgs st) (defBody st) (defScope st) [] [] f fd) : Fun K x qual st f fd := by
  obtain ⟨oc, od, dV, kV, doc, pm, an, cdv, ct, osl, e, l, c, hd, _⟩ := F.ex
  rcases hd with ⟨_, rfl⟩ | ⟨z, _⟩
  · exact ⟨⟨oc, od, kV, doc, pm, an, cdv, ct, osl, e, l, c⟩, F.kp⟩
  · exact absurd rfl z
/-- the entries of a written dict -/
def dictE (K : PySem.W.Frag) (a : Addr) : Option (List DictEntry) := match K.lookup a with
  | some ⟨c, d, .dict es _, sl⟩ => if c = .type "dict" ∧ d = none ∧ sl = #[] then some es.toList else none
  | _ => none
theorem dictE_ok {K : PySem.W.Frag} {a : Addr} {l : List DictEntry} (h : dictE K a = some l) : ∃ es n, K.lookup a = some ⟨.type "dict", none, .dict es n, #[]⟩ ∧ es.toList = l := by
  unfold dictE at h
  split at h
  · rename_i c d es n sl e
    split at h
    · rename_i z
      obtain ⟨rfl, rfl, rfl⟩ := z
      exact ⟨es, n, e, Option.some.inj h⟩
    · cases h
  · cases h
def keyS : Value → Option Str
  | .str s _ => some s
  | _ => none
theorem keyS_ok {v : Value} {s : Str} (h : keyS v = some s) : ∃ t, v = .str s t := by
  cases v with
  | str z t => exact ⟨t, by rw [Option.some.inj h]⟩
  | _ => cases h
/-- what is seen of an entry: its key, its hash, what g tells of its value -/
def seenE {β : Type} (g : Value → β) (e : DictEntry) : Option Str × Int × β := (keyS e.key, e.hash, g e.val)
def wantE {β : Type} (w : World) (p : Str × β) : Option Str × Int × β := (some p.1, PyData.keyHash w.params p.1, p.2)
theorem lit_of {β : Type} {w : World} {g : Value → β} : ∀ {l : List DictEntry} {ks : List (Str × β)}, l.map (seenE g) = ks.map (wantE w) → PySem.W.KeysLit w.params l
  | [], _, _ => trivial
  | e :: r, [], h => by cases h
  | e :: r, p :: ks, h => by
    rw [List.map_cons, List.map_cons] at h
    obtain ⟨h1, h2⟩ := List.cons.inj h
    obtain ⟨t, ht⟩ := keyS_ok (congrArg (·.1) h1)
    exact ⟨⟨p.1, t, ht, congrArg (·.2.1) h1⟩, lit_of h2⟩
theorem find_of {β : Type} {w : World} {g : Value → β} (z : Str) : ∀ {l : List DictEntry} {ks : List (Str × β)}, l.map (seenE g) = ks.map (wantE w) → (l.find? (·.key.isStr z)).map (fun e => g e.val) = ks.lookup z
  | [], [], _ => rfl
  | [], _ :: _, h => by cases h
  | e :: r, [], h => by cases h
  | e :: r, p :: ks, h => by
    rw [List.map_cons, List.map_cons] at h
    obtain ⟨h1, h2⟩ := List.cons.inj h
    obtain ⟨t, ht⟩ := keyS_ok (congrArg (·.1) h1)
    have hg : g e.val = p.2 := congrArg (·.2.2) h1
    have ih := find_of z h2
    obtain ⟨p1, p2⟩ := p
    have hs : e.key.isStr z = (z == p1) := by
      rw [ht]
      show (p1 == z) = (z == p1)
      exact Bool.beq_comm
    rw [List.find?_cons, List.lookup_cons, hs]
    cases z == p1 with
    | true => exact congrArg some hg
    | false => exact ih
theorem norefs {β : Type} {w : World} {g : Value → β} : ∀ {l : List DictEntry} {ks : List (Str × β)}, l.map (seenE g) = ks.map (wantE w) → l.any (·.refKey) = false
  | [], _, _ => rfl
  | e :: r, [], h => by cases h
  | e :: r, p :: ks, h => by
    rw [List.map_cons, List.map_cons] at h
    obtain ⟨h1, h2⟩ := List.cons.inj h
    obtain ⟨t, ht⟩ := keyS_ok (congrArg (·.1) h1)
    rw [List.any_cons, norefs h2, Bool.or_false]
    obtain ⟨hh, kk, vv⟩ := e
    replace ht : kk = .str p.1 t := ht
    subst ht
    rfl
theorem nsIn_of {β : Type} {K : PySem.W.Frag} {w : World} {g : Value → β} {a : Addr} {es : Array DictEntry} {n : Nat} {ks : List (Str × β)} (e : K.lookup a = some ⟨.type "dict", none, .dict es n, #[]⟩) (h : es.toList.map (seenE g) = ks.map (wantE w)) (z : Str) :
    ∃ r, PySem.W.nsIn K a z = some r ∧ r.map g = ks.lookup z := by
  have hf := find_of z h
  unfold PySem.W.nsIn
  rw [e]
  dsimp only
  cases q : es.toList.find? (·.key.isStr z) with
  | some en =>
    rw [q] at hf
    exact ⟨some en.val, rfl, hf⟩
  | none =>
    rw [q] at hf
    refine ⟨none, ?_, hf⟩
    rw [norefs h]
    rfl
end FP
set_option Elab.async false
set_option linter.all false
set_option maxRecDepth 100000
set_option maxHeartbeats 0
/-! The facts of the top, by names (printed by gen_head.py). -/
namespace FP
open PySem PySem.Spec PyProof.Rows L2
def layA (m : Str) (K : PySem.W.Frag) : Addr := match K.lookup (He.fAd K ("Program", some m)) with
  | some ⟨_, _, .func fd, _⟩ => (match fd.kwdefaults with
    | .ref D => (match PySem.W.nsIn K D "layout" with
      | some (some (.ref a)) => a
      | _ => 0)
    | _ => 0)
  | _ => 0
def strV : Value → Option Str
  | .str s _ => some s
  | _ => none
/-- the texts of a written tuple -/
def tupS (K : PySem.W.Frag) : Value → Option (List (Option Str))
  | .ref a => (match K.lookup a with
    | some ⟨c, _, .seq its _, _⟩ => if c = .type "tuple" ∧ its.size ≤ 1000 then some (its.toList.map strV) else none
    | _ => none)
  | _ => none
theorem vals_strs : ∀ {l : List Value} {ss : List Str}, l.map strV = ss.map some → Vals (ss.map V.str) l
  | [], [], _ => .nil
  | [], _ :: _, h => by cases h
  | _ :: _, [], h => by cases h
  | v :: l, s :: ss, h => by
    rw [List.map_cons, List.map_cons] at h
    obtain ⟨h1, h2⟩ := List.cons.inj h
    refine .cons ?_ (vals_strs h2)
    cases v with
    | str z t => exact ⟨t, by rw [← Option.some.inj h1]⟩
    | _ => cases h1
theorem tupS_ok {K : PySem.W.Frag} {v : Value} {ss : List Str} (h : tupS K v = some (ss.map some)) : ∃ a, v = .ref a ∧ ∀ H, SqT K H a (ss.map V.str) := by
  cases v with
  | ref a =>
    refine ⟨a, rfl, fun H => .inr ?_⟩
    unfold tupS at h
    dsimp only at h
    split at h
    · rename_i c d its n sl e
      split at h
      · rename_i z
        exact ⟨_, its, n, e, z.1, rfl, Nat.le_trans z.2 (by decide), vals_strs (Option.some.inj h)⟩
      · cases h
    · cases h
  | _ => cases h
def linesN : List (Str × Str) := [("input", "_do_input"), ("copy", "_do_copy"), ("point", "_do_point"), ("load", "_do_load"), ("store", "_do_store"), ("use", "_do_use"), ("call", "_do_call"), ("same", "_do_same"), ("loop", "_do_loop"), ("maybe", "_do_maybe")]
def nameA (K : PySem.W.Frag) : Value → Option Str
  | .ref a => (linesN.map (·.2)).find? fun x => decide (He.ga K x = a)
  | _ => none
theorem nameA_ok {K : PySem.W.Frag} {v : Value} {x : Str} (h : nameA K v = some x) : v = .ref (He.ga K x) := by
  cases v with
  | ref a =>
    have := List.find?_some h
    rw [of_decide_eq_true this]
  | _ => cases h

def dd (a : Str × Option Str) (n q : Str) (st : Stmt) (kwd : List (Str × He.Dv)) : He.DefD := ⟨a, n, q, defArgs st, defBody st, defScope st, [], kwd⟩

def fnL0 : List He.DefD := [dd ("check_layout", none) "check_layout" "check_layout" sCheck [],
  dd ("places_in", none) "places_in" "places_in" sPlaces [],
  dd ("is_name", none) "is_name" "is_name" sIsName [],
  dd ("lines_of", none) "lines_of" "lines_of" sLines [],
  dd ("fits", none) "fits" "fits" sFits [],
  dd ("read_sheet", none) "read_sheet" "read_sheet" sRead [],
  dd ("cell_at", none) "cell_at" "cell_at" sCellAt [],
  dd ("_transfer", none) "_transfer" "_transfer" sTransfer [],
  dd ("_do_input", none) "_do_input" "_do_input" sDoInput [],
  dd ("_do_copy", none) "_do_copy" "_do_copy" sDoCopy [],
  dd ("_do_point", none) "_do_point" "_do_point" sDoPoint [],
  dd ("_do_load", none) "_do_load" "_do_load" sDoLoad [],
  dd ("_do_store", none) "_do_store" "_do_store" sDoStore [],
  dd ("_do_use", none) "_do_use" "_do_use" sDoUse [],
  dd ("_do_call", none) "_do_call" "_do_call" sDoCall [],
  dd ("_do_same", none) "_do_same" "_do_same" sDoSame [],
  dd ("_do_loop", none) "_do_loop" "_do_loop" sDoLoop [],
  dd ("_do_maybe", none) "_do_maybe" "_do_maybe" sDoMaybe [],
  dd ("_act", none) "_act" "_act" sAct [],
  dd ("_act_write", none) "_act_write" "_act_write" sActWrite []]

def fnL1 : List He.DefD := [dd ("advance", none) "advance" "advance" sAdvance [],
  dd ("Row", some "__init__") "__init__" "Row.__init__" mRow_init [],
  dd ("Sheet", some "__init__") "__init__" "Sheet.__init__" mSheet_init [],
  dd ("Sheet", some "is_closed") "is_closed" "Sheet.is_closed" mSheet_is_closed [],
  dd ("Sheet", some "take_line") "take_line" "Sheet.take_line" mSheet_take_line [],
  dd ("Sheet", some "find_ways") "find_ways" "Sheet.find_ways" mSheet_find_ways [],
  dd ("Sheet", some "_landing") "_landing" "Sheet._landing" mSheet_landing [],
  dd ("Sheet", some "_declare") "_declare" "Sheet._declare" mSheet_declare [],
  dd ("Sheet", some "_take_row") "_take_row" "Sheet._take_row" mSheet_take_row [],
  dd ("Sheet", some "_is_seen") "_is_seen" "Sheet._is_seen" mSheet_is_seen [],
  dd ("Sheet", some "_open_block") "_open_block" "Sheet._open_block" mSheet_open_block [],
  dd ("Sheet", some "_turn") "_turn" "Sheet._turn" mSheet_turn [],
  dd ("Sheet", some "_close_block") "_close_block" "Sheet._close_block" mSheet_close_block [],
  dd ("Choices", some "__init__") "__init__" "Choices.__init__" mChoices_init [],
  dd ("Choices", some "take") "take" "Choices.take" mChoices_take [],
  dd ("Run", some "__init__") "__init__" "Run.__init__" mRun_init [],
  dd ("Run", some "worth") "worth" "Run.worth" mRun_worth [],
  dd ("Run", some "read") "read" "Run.read" mRun_read [],
  dd ("Run", some "write") "write" "Run.write" mRun_write [],
  dd ("Run", some "learn") "learn" "Run.learn" mRun_learn []]

def fnL2 : List He.DefD := [dd ("Run", some "finds_same") "finds_same" "Run.finds_same" mRun_finds_same [],
  dd ("Run", some "stop") "stop" "Run.stop" mRun_stop [],
  dd ("Run", some "leave_call") "leave_call" "Run.leave_call" mRun_leave_call [],
  dd ("Program", some "__init__") "__init__" "Program.__init__" mProgram_init [],
  dd ("Program", some "run") "run" "Program.run" mProgram_run [("layout", .adr (layA "run"))],
  dd ("Program", some "steps") "steps" "Program.steps" mProgram_steps [("layout", .adr (layA "steps"))],
  dd ("Program", some "_hold") "_hold" "Program._hold" mProgram_hold [],
  dd ("_law_begun_pen", none) "_law_begun_pen" "_law_begun_pen" sPen [],
  dd ("_law_draw", none) "_law_draw" "_law_draw" sDraw [],
  dd ("_law_pick", none) "_law_pick" "_law_pick" sPick [],
  dd ("_law_shuffled", none) "_law_shuffled" "_law_shuffled" sShuf [],
  dd ("_law_new_names", none) "_law_new_names" "_law_new_names" sNames [],
  dd ("_law_block_lines", none) "_law_block_lines" "_law_block_lines" qBlockLines [],
  dd ("_law_block_size", none) "_law_block_size" "_law_block_size" qBlockSize [],
  dd ("_law_order_size", none) "_law_order_size" "_law_order_size" qOrderSize [],
  dd ("_law_laid", none) "_law_laid" "_law_laid" qLaid [],
  dd ("_law_laid_all", none) "_law_laid_all" "_law_laid_all" qLaidAll [],
  dd ("_law_cells_of", none) "_law_cells_of" "_law_cells_of" qCellsOf [],
  dd ("_law_plain", none) "_law_plain" "_law_plain" qPlain [],
  dd ("_law_new_order", none) "_law_new_order" "_law_new_order" qNewOrder []]

def fnL3 : List He.DefD := [dd ("_law_wide_block", none) "_law_wide_block" "_law_wide_block" qWideBlock [],
  dd ("_law_new_program", none) "_law_new_program" "_law_new_program" qNewProgram [],
  dd ("_law_new_choices", none) "_law_new_choices" "_law_new_choices" qNewChoices [],
  dd ("_law_holds", none) "_law_holds" "_law_holds" qHolds [],
  dd ("law", none) "law" "law" sLaw []]

def fnL : List He.DefD := fnL0 ++ (fnL1 ++ (fnL2 ++ (fnL3)))

def faL0 : List He.Fa := [.glo "check_layout",
  .glo "places_in",
  .glo "is_name",
  .glo "lines_of",
  .glo "fits",
  .glo "read_sheet",
  .glo "cell_at",
  .glo "_transfer",
  .glo "_do_input",
  .glo "_do_copy",
  .glo "_do_point",
  .glo "_do_load",
  .glo "_do_store",
  .glo "_do_use",
  .glo "_do_call",
  .glo "_do_same",
  .glo "_do_loop",
  .glo "_do_maybe",
  .glo "_act",
  .glo "_act_write"]

def faL1 : List He.Fa := [.glo "advance",
  .glo "_law_begun_pen",
  .glo "_law_draw",
  .glo "_law_pick",
  .glo "_law_shuffled",
  .glo "_law_new_names",
  .glo "_law_block_lines",
  .glo "_law_block_size",
  .glo "_law_order_size",
  .glo "_law_laid",
  .glo "_law_laid_all",
  .glo "_law_cells_of",
  .glo "_law_plain",
  .glo "_law_new_order",
  .glo "_law_wide_block",
  .glo "_law_new_program",
  .glo "_law_new_choices",
  .glo "_law_holds",
  .glo "law",
  .glo "Row"]

def faL2 : List He.Fa := [.cls "Row",
  .mkr "Row",
  .glo "Sheet",
  .cls "Sheet",
  .mkr "Sheet",
  .glo "Program",
  .cls "Program",
  .mkr "Program",
  .glo "Choices",
  .cls "Choices",
  .mkr "Choices",
  .glo "Run",
  .cls "Run",
  .mkr "Run",
  .glo "WORDS",
  .glo "TWO_SIDED",
  .glo "PASSED",
  .glo "OPENING",
  .glo "FORMS",
  .glo "LINES"]

def faL3 : List He.Fa := [.free "len",
  .free "all",
  .free "zip",
  .free "enumerate",
  .free "list",
  .free "tuple",
  .free "int",
  .free "abs",
  .free "range",
  .free "str",
  .free "isinstance",
  .free "sorted",
  .free "dict",
  .free "min",
  .free "max",
  .int "LONGEST_NAME" 12,
  .int "MOST_CELLS" 5,
  .int "MOST_OPEN" 5,
  .int "MOST_LINES" 40,
  .noat "Row" "word"]

def faL4 : List He.Fa := [.noat "Row" "names",
  .noat "Row" "after",
  .noat "Row" "other",
  .noat "Sheet" "rows",
  .noat "Sheet" "homes",
  .noat "Sheet" "around",
  .noat "Sheet" "_nest",
  .noat "Program" "text",
  .noat "Program" "cells",
  .noat "Program" "sheet",
  .noat "Choices" "_left",
  .noat "Run" "line",
  .noat "Run" "calling",
  .noat "Run" "known",
  .noat "Run" "_places",
  .noat "Run" "_held",
  .meth "Sheet" "is_closed",
  .meth "Sheet" "take_line",
  .meth "Sheet" "find_ways",
  .meth "Sheet" "_landing"]

def faL5 : List He.Fa := [.meth "Sheet" "_declare",
  .meth "Sheet" "_take_row",
  .meth "Sheet" "_is_seen",
  .meth "Sheet" "_open_block",
  .meth "Sheet" "_turn",
  .meth "Sheet" "_close_block",
  .meth "Choices" "take",
  .meth "Run" "worth",
  .meth "Run" "read",
  .meth "Run" "write",
  .meth "Run" "learn",
  .meth "Run" "finds_same",
  .meth "Run" "stop",
  .meth "Run" "leave_call",
  .meth "Program" "run",
  .meth "Program" "steps",
  .meth "Program" "_hold"]

def faL : List He.Fa := faL0 ++ (faL1 ++ (faL2 ++ (faL3 ++ (faL4 ++ (faL5)))))

abbrev Al5 : Type := He.AlD × List (Option (List (Option Str))) × Option (List (Option Str × Int × Option (List (Option Str)))) × Option (List (Option Str × Int × Option Str))
def obs5 (K : PySem.W.Frag) : Al5 := (He.obsD faL fnL K, [tupS K (.ref (He.ga K "WORDS")), tupS K (.ref (He.ga K "TWO_SIDED")), tupS K (.ref (He.ga K "PASSED")), tupS K (.ref (He.ga K "OPENING")), tupS K (.ref (layA "run" K))],
  (dictE K (He.ga K "FORMS")).map fun l => l.map (seenE (tupS K)), (dictE K (He.ga K "LINES")).map fun l => l.map (seenE (nameA K)))
def val5 (w : World) : Al5 := (He.valD fnL, [some (wordsL.map some), some (twoL.map some), some (passL.map some), some (openL.map some), some []], some (formsL.map fun p => wantE w (p.1, some (p.2.map some))), some (linesN.map fun p => wantE w (p.1, some p.2)))
def hook5 : PySem.W.Hook where
  α := Al5
  obs := fun s => obs5 (He.frG s.heap.get? (He.asD s.heap.get? 6))
  val := val5
  says := fun w h => ∃ K : PySem.W.Frag, K.In h ∧ obs5 K = val5 w
  of := fun _ _ e => ⟨_, He.frG_in, e⟩
  keeps := fun _ _ _ ⟨K, hK, c⟩ k => ⟨K, PySem.W.Frag.In.keeps hK k, c⟩
def ob5 (s : PySem.W.SharedT) : Al5 := obs5 (He.frG (HandSHeadRun.getT s) (He.asD (HandSHeadRun.getT s) 6))
theorem ob5_eq (s : PySem.W.SharedT) : ob5 s = hook5.obs s.abs := by
  have e : HandSHeadRun.getT s = s.abs.heap.get? := funext (HandSHeadRun.getT_eq s)
  show obs5 _ = obs5 _
  rw [e]
end FP
set_option Elab.async false
set_option linter.all false
set_option maxRecDepth 100000
set_option maxHeartbeats 4000000
/-! What a run does, as plain functions: all deeds, calls, layouts. -/
namespace FP
open PySem PySem.Spec PyProof.Rows L2 TL
/-! ### texts in order -/
def leS (a b : Str) : Bool := decide (a.cps.toList ≤ b.cps.toList)
def sortU (l : List Str) : List Str := l.mergeSort leS
theorem leS_total (a b : Str) : (leS a b || leS b a) = true := by
  unfold leS
  rw [Bool.or_eq_true, decide_eq_true_iff, decide_eq_true_iff]
  exact List.le_total _ _
theorem leS_trans (a b c : Str) (h1 : leS a b = true) (h2 : leS b c = true) : leS a c = true := by
  unfold leS at h1 h2 ⊢
  rw [decide_eq_true_iff] at h1 h2 ⊢
  exact List.le_trans h1 h2
theorem leS_antisymm (a b : Str) (h1 : leS a b = true) (h2 : leS b a = true) : a = b := by
  unfold leS at h1 h2
  rw [decide_eq_true_iff] at h1 h2
  exact ext_tl (List.le_antisymm h1 h2)
theorem not_lt_le {a b : List Nat} (h : ltCps b a = false) : a ≤ b := by
  rw [ltCps_eq] at h
  have := of_decide_eq_false h
  exact List.not_lt.mp this
theorem rising_pair : ∀ (l : List Str) (p : Str), risingS p l = true → (p :: l).Pairwise fun a b => leS a b = true
  | [], p, _ => by simp
  | x :: r, p, h => by
    have h' : (!ltCps x.cps.toList p.cps.toList && risingS x r) = true := h
    rw [Bool.and_eq_true, Bool.not_eq_true'] at h'
    have ih := rising_pair r x h'.2
    have hpx : leS p x = true := decide_eq_true (not_lt_le h'.1)
    rw [List.pairwise_cons]
    refine ⟨fun y hy => ?_, ih⟩
    rcases List.mem_cons.mp hy with z | z
    · rw [z]; exact hpx
    · exact leS_trans _ _ _ hpx ((List.pairwise_cons.mp ih).1 y z)
theorem sorted_pair (l : List Str) (h : sortedS l = true) : l.Pairwise fun a b => leS a b = true := by
  cases l with
  | nil => exact .nil
  | cons x r => exact rising_pair r x h
theorem sortU_pair (l : List Str) : (sortU l).Pairwise fun a b => leS a b = true := List.pairwise_mergeSort leS_trans leS_total l
theorem sortU_perm (l : List Str) : (sortU l).Perm l := List.mergeSort_perm l leS
theorem perm_sorted_eq : ∀ {l m : List Str}, l.Perm m → (l.Pairwise fun a b => leS a b = true) → (m.Pairwise fun a b => leS a b = true) → l = m := by
  intro l m h hl hm
  exact h.eq_of_pairwise (fun a b _ _ h1 h2 => leS_antisymm a b h1 h2) hl hm
theorem sortU_of {ys l : List Str} (h : ys.Perm l) (hs : sortedS ys = true) : ys = sortU l :=
  perm_sorted_eq (h.trans (sortU_perm l).symm) (sorted_pair ys hs) (sortU_pair l)
/-! ### worths and events -/
inductive W where
  | un
  | i (n : Int)
  | a (c : Str)
deriving DecidableEq
def W.v : W → V
  | .un => .non
  | .i n => .int n
  | .a c => .str ("&" ++ c)
theorem amp_inj {a b : Str} (h : ("&" : Str) ++ a = "&" ++ b) : a = b := by
  have := congrArg tl h
  rw [tl_append, tl_append] at this
  exact ext_tl (List.append_cancel_left this)
theorem W.v_inj : ∀ {a b : W}, a.v = b.v → a = b
  | .un, .un, _ => rfl
  | .i n, .i m, h => congrArg W.i (V.int.inj h)
  | .a n, .a m, h => congrArg W.a (amp_inj (V.str.inj h))
  | .un, .i _, h => by cases h
  | .un, .a _, h => by cases h
  | .i _, .un, h => by cases h
  | .i _, .a _, h => by cases h
  | .a _, .un, h => by cases h
  | .a _, .i _, h => by cases h
theorem W.v_eq {a b : W} : a.v = b.v ↔ a = b := ⟨W.v_inj, fun z => by rw [z]⟩
def W.cell : W → Option Str
  | .a c => some c
  | _ => none
/-- names stay short -/
def W.ok : W → Prop
  | .a c => c.length ≤ 1000
  | _ => True
inductive Ev where
  | rd (l : Nat) (c : Str) (w : W)
  | wr (l : Nat) (c : Str) (w : W)
  | sm (l : Nat) (b : Bool)
deriving DecidableEq
def Ev.v : Ev → List V
  | .rd l c w => [.str "read", .int (l : Nat), .str c, w.v]
  | .wr l c w => [.str "write", .int (l : Nat), .str c, w.v]
  | .sm l b => [.str "same", .int (l : Nat), .non, .bl b]
structure RunM where
  line : Nat
  calling : Bool
  known : List Str
  places : List (Str × Nat)
  held : List (Nat × W)
def heldOf (l : List (Nat × W)) (n : Nat) : Option W := (l.find? fun p => decide (p.1 = n)).map (·.2)
def putH (d : List (Nat × W)) (k : Nat) (v : W) : List (Nat × W) := if (d.any fun p => decide (p.1 = k)) = true then d.map (fun p => if p.1 = k then (p.1, v) else p) else d ++ [(k, v)]
def worthAt (M : RunM) (n : Nat) : W := (heldOf M.held n).getD .un
def worthM (M : RunM) (c : Str) : Option W := (homeOf M.places c).map (worthAt M)
def writeM (M : RunM) (c : Str) (x : W) : Option RunM := (homeOf M.places c).map fun n => { M with held := putH M.held n x }
def stopR (M : RunM) : RunM := { M with line := 0, calling := false }
def goR (M : RunM) (n : Nat) : RunM := { M with line := n }
def leaveR (M : RunM) (n : Nat) : RunM := { M with line := n, calling := false }
def learnM (M : RunM) (x : W) : RunM := match x with
  | .a c => if c ∈ M.known then M else { M with known := sortU (M.known ++ [c]) }
  | _ => M
abbrev StepM := RowM → RunM → List Int → Option (List Ev × RunM × List Int)
def trM (m : RowM) (M : RunM) (s t : Str) : Option (List Ev × RunM) := (worthM M s).bind fun x => (writeM M t x).map fun M1 => ([.rd M.line s x, .wr M.line t x], goR M1 m.after)
def inputM : StepM := fun m M xs => match xs with
  | [] => some ([], stopR M, [])
  | x :: r => match m.names with
    | [c] => (writeM M c (.i x)).map fun M1 => ([.wr M.line c (.i x)], goR M1 m.after, r)
    | _ => none
def copyM : StepM := fun m M xs => match m.names with
  | [s, t] => (trM m M s t).map fun p => (p.1, p.2, xs)
  | _ => none
def pointM : StepM := fun m M xs => match m.names with
  | [p, t] => (writeM M p (.a t)).map fun M1 => ([.wr M.line p (.a t)], goR M1 m.after, xs)
  | _ => none
def loadM : StepM := fun m M xs => match m.names with
  | [t, p] => (worthM M p).bind fun x => match x.cell with
    | none => some ([.rd M.line p x], stopR M, xs)
    | some s => (trM m M s t).map fun q => (.rd M.line p x :: q.1, q.2, xs)
  | _ => none
def storeM : StepM := fun m M xs => match m.names with
  | [s, p] => (worthM M p).bind fun x => match x.cell with
    | none => some ([.rd M.line p x], stopR M, xs)
    | some t => (trM m M s t).map fun q => (.rd M.line p x :: q.1, q.2, xs)
  | _ => none
def useM : StepM := fun m M xs => match m.names with
  | [c] => (worthM M c).map fun x => ([.rd M.line c x], goR M m.after, xs)
  | _ => none
def callM : StepM := fun m M xs => match m.names with
  | [p] => (worthM M p).map fun x => ([.rd M.line p x], { learnM M x with calling := true }, xs)
  | _ => none
/-- whether two worths are the same in a layout -/
def sameM (M : RunM) (x y : W) : Option Bool := match x.cell, y.cell with
  | some a, some b => (homeOf M.places a).bind fun i => (homeOf M.places b).map fun j => decide (i = j)
  | _, _ => some (decide (x = y))
def sameLM : StepM := fun m M xs => match m.names with
  | [a, b] => (worthM M a).bind fun x => (worthM M b).bind fun y => (sameM M x y).map fun k => ([.rd M.line a x, .rd M.line b y, .sm M.line k], goR M (if k = true then m.after else m.other), xs)
  | _ => none
def loopM : StepM := fun m M xs => match xs with
  | [] => some ([], stopR M, [])
  | x :: r => some ([], goR M (if x = 0 then m.other else m.after), r)
def maybeM : StepM := fun m M xs => match xs with
  | [] => some ([], stopR M, [])
  | x :: r => some ([], goR M (if x = 0 then m.after else m.other), r)
def actWriteM (m : RowM) (M : RunM) (xs : List Int) (c : Str) (j : Int) : Option (List Ev × RunM × List Int) :=
  if j > (M.known.length : Int) + 1 then some ([], leaveR M m.after, xs)
  else if j = (M.known.length : Int) + 1 then (writeM M c .un).map fun M1 => ([.wr M.line c .un], M1, xs)
  else if j > 0 then (match M.known[(j - 1).toNat]? with
    | some b => (writeM M c (.a b)).map fun M1 => ([.wr M.line c (.a b)], M1, xs)
    | none => none)
  else (match xs with
    | [] => some ([], stopR M, [])
    | x :: r => (writeM M c (.i x)).map fun M1 => ([.wr M.line c (.i x)], M1, r))
def actM : StepM := fun m M xs => match xs with
  | [] => some ([], stopR M, [])
  | k :: r => if 1 ≤ k ∧ k ≤ (M.known.length : Int) then (match M.known[(k - 1).toNat]? with
      | some c => (match r with
        | [] => some ([], stopR M, [])
        | j :: r2 => if j < 0 then (worthM M c).map fun x => ([.rd M.line c x], learnM M x, r2) else actWriteM m M r2 c j)
      | none => none)
    else some ([], leaveR M m.after, r)
def lineM : StepM := fun m M xs => if m.word = ("input" : Str) then inputM m M xs else if m.word = ("copy" : Str) then copyM m M xs else if m.word = ("point" : Str) then pointM m M xs else if m.word = ("load" : Str) then loadM m M xs
  else if m.word = ("store" : Str) then storeM m M xs else if m.word = ("use" : Str) then useM m M xs else if m.word = ("call" : Str) then callM m M xs else if m.word = ("same" : Str) then sameLM m M xs else if m.word = ("loop" : Str) then loopM m M xs
  else if m.word = ("maybe" : Str) then maybeM m M xs else none
/-- what counts as one line -/
def advM : StepM := fun m M xs => if M.calling = true then actM m M xs else lineM m M xs
/-- a run is such that no text or dict of it grows long -/
structure RunOk (M : RunM) : Prop where
  hl : M.held.length ≤ 1000
  kl : M.known.length ≤ 50
  ok : ∀ n x, heldOf M.held n = some x → x.ok
  kn : ∀ c ∈ M.known, c.length ≤ 1000
def RunM.okB (M : RunM) : Bool := decide (M.held.length ≤ 1000) && decide (M.known.length ≤ 50) && M.held.all (fun p => match p.2 with | .a c => decide (c.length ≤ 1000) | _ => true) && M.known.all (fun c => decide (c.length ≤ 1000))
def okG (m : RowM) (M : RunM) (xs : List Int) : Bool := M.okB && decide (xs.length ≤ 1000000) && m.names.all fun x => decide (x.length ≤ 1000)
def goM (rows : List RowM) : Nat → RunM → List Int → Option (List Ev)
  | 0, _, _ => none
  | f + 1, M, xs => if M.line = 0 then some [] else (match rows[M.line]? with
      | some m => if okG m M xs = true then (advM m M xs).bind fun r => (goM rows f r.2.1 r.2.2).map (r.1 ++ ·) else none
      | none => none)
def placesM (cells : List Str) (layout : List (List Str)) : Option (List (Str × Nat)) :=
  layout.foldlM (fun d lot => lot.foldlM (fun d c => match lot with
    | [] => none
    | h :: _ => (homeOf d h).map fun n => putS d c n) d) cells.zipIdx
where putS (d : List (Str × Nat)) (k : Str) (v : Nat) : List (Str × Nat) := if (d.any fun p => decide (p.1 = k)) = true then d.map (fun p => if p.1 = k then (p.1, v) else p) else d ++ [(k, v)]
def startM (Sh : ShM) (places : List (Str × Nat)) (after : Nat) : RunM := ⟨after, false, [], places, []⟩
def runM (Sh : ShM) (layout : List (List Str)) (f : Nat) (xs : List Int) : Option (List Ev) := match Sh.rows[0]?, placesM (Sh.homes.map (·.1)) layout with
  | some m, some p => goM Sh.rows f ⟨m.after, false, [], p, []⟩ xs
  | _, _ => none
end FP
set_option Elab.async false
set_option linter.all false
set_option maxRecDepth 100000
set_option maxHeartbeats 4000000
namespace FP
open PySem PySem.Spec PyProof.Rows L2 TL
theorem tNil_i {σ : L2.St} {H : Hp} {Q : List V → Hp → Prop} (h : Q [] H) : tNil σ H Q := h
theorem tJs_i {acc : Str} {σ : L2.St} {H : Hp} {Q : Str → Hp → Prop} (h : Q acc H) : tJs [] acc σ H Q := h
theorem amp_e (c : Str) : Str.empty ++ "&" ++ c = "&" ++ c := ext_tl (by rw [tl_append, tl_append, tl_append]; rfl)
theorem sz1000 {n : Nat} (h : n ≤ 1000) : n ≤ sizeLine := by rw [sizeLine_eq]; omega
theorem tConsC_i {v : V} {t : TA} {σ : L2.St} {H : Hp} {Q : List V → Hp → Prop} (h : t σ H fun xs H2 => Q (v :: xs) H2) : tCons (tC v) t σ H Q := h
theorem len_app (a b : Str) : (a ++ b).length = a.length + b.length := by
  rw [TL.len_tl, TL.tl_append, List.length_append, ← TL.len_tl, ← TL.len_tl]
theorem new_same {H : Hp} {l : Addr} {o : HO} (n : H l = none) : Same H (upd H l o) := Same.new (Same.refl H) n
theorem new_at {H : Hp} {l : Addr} {o : HO} (n : H l = none) : (upd H l o) l = some o := upd_same
end FP
set_option Elab.async false
set_option linter.all false
set_option maxRecDepth 100000
set_option maxHeartbeats 4000000
/-! yield from a list; a generator's method called with keywords. -/
namespace FP
open PySem PySem.Spec PyProof.Rows L2 GenW
section
variable {prog : Program} {w : World} {A : Around} {E : Value → Shared → Prop} {s : Shared}
theorem spec_list_item {it l : Addr} {i : Nat} {items : Array Value} {x : Value} {Q : Option Value → Shared → Prop} (hit : s.heap.IsListIter it l i) (hl : s.heap.IsList l items) (hx : items[i]? = some x)
    (hQ : ∀ h', h'.IsListIter it l (i + 1) → Heap.SameBut it s.heap h' → Q (some x) { s with heap := h' }) : wpAny (model prog w) A (callSpecial? (.ref it) "__next__") Q E s := by
  obtain ⟨o, ho, hc, hd⟩ := id hit
  obtain ⟨ol, hol, _, nl, hdl⟩ := hl
  refine wpAny_callSpecial?_slot (name := Str.ofString "__next__") hit.typeIs slot_listiter_next (wpAny_call_entry slot_listiter_next hit.typeIs entry_listiter_next ?_ (args_listiter_next _))
  show wpAny _ _ (field (.ref it) 0 >>= _) _ _ s
  refine wpAny_bind (wpAny_field ho hd (x := .ref l) rfl ?_)
  show wpAny _ _ (if (Value.ref l == Value.none) = true then _ else _) _ _ s
  rw [if_neg (show ¬ ((Value.ref l == Value.none) = true) from Bool.false_ne_true)]
  show wpAny _ _ (field (.ref it) 1 >>= _) _ _ s
  refine wpAny_bind (wpAny_field ho hd (x := .int i 0) rfl ?_)
  show wpAny _ _ (seqItems? (.ref l) >>= _) _ _ s
  refine wpAny_bind (wpAny_seqItems hol hdl ?_)
  simp only [Int.toNat_natCast, hx]
  refine wpAny_bind (wpAny_setField ho hd (by simp) (wpAny_pure ⟨x, rfl, hQ _ ?_ (Heap.SameBut.update ..)⟩))
  exact ⟨_, Heap.get?_update_self _ ho (Obj.isFreed_of_fields (Obj.data_mapFields hd _)), (Obj.cls_mapFields ..).trans hc, by
    rw [Obj.data_mapFields hd]; simp [rawInt]⟩
theorem spec_list_end {it l : Addr} {i : Nat} {items : Array Value} {Q : Option Value → Shared → Prop} (hh : A.handled = none) (hit : s.heap.IsListIter it l i) (hl : s.heap.IsList l items) (hx : items[i]? = none)
    (hE : ∀ e h', StopX e h' → Heap.ExtBut it s.heap h' → E e { s with heap := h' }) : wpAny (model prog w) A (callSpecial? (.ref it) "__next__") Q E s := by
  obtain ⟨o, ho, hc, hd⟩ := id hit
  obtain ⟨ol, hol, _, nl, hdl⟩ := hl
  refine wpAny_callSpecial?_slot (name := Str.ofString "__next__") hit.typeIs slot_listiter_next (wpAny_call_entry slot_listiter_next hit.typeIs entry_listiter_next ?_ (args_listiter_next _))
  show wpAny _ _ (field (.ref it) 0 >>= _) _ _ s
  refine wpAny_bind (wpAny_field ho hd (x := .ref l) rfl ?_)
  show wpAny _ _ (if (Value.ref l == Value.none) = true then _ else _) _ _ s
  rw [if_neg (show ¬ ((Value.ref l == Value.none) = true) from Bool.false_ne_true)]
  show wpAny _ _ (field (.ref it) 1 >>= _) _ _ s
  refine wpAny_bind (wpAny_field ho hd (x := .int i 0) rfl ?_)
  show wpAny _ _ (seqItems? (.ref l) >>= _) _ _ s
  refine wpAny_bind (wpAny_seqItems hol hdl ?_)
  simp only [Int.toNat_natCast, hx]
  refine wpAny_bind (wpAny_rule (wpAny_bind (wpAny_setField ho hd (by simp) ?_)))
  show wpAny _ _ (newExc (.type "StopIteration") [] >>= _) _ _ _
  refine wpAny_bind ?_
  simp only [newExc, newTuple]
  refine wpAny_bind (wpAny_newObj_type ?_ (by size_fits))
  refine wpAny_bind (m := firstArgMember _ _) (wpAny_of_eq (a := Value.none) (by first | rfl | (simp only [firstArgMember]; rfl)) ?_)
  refine wpAny_newObj_type ?_ (by size_fits)
  simp only [raiseNew]
  refine wpAny_bind (wpAny_handled ?_)
  first | rw [show A.in1.handled = none from hh] | rw [hh]
  refine wpAny_bind (wpAny_pure (wpAny_throw ?_))
  refine hE _ _ ⟨_, _, _, rfl, Heap.get?_push_size _ rfl, rfl, rfl, ?_⟩ (((Heap.SameBut.update ..).extBut.push _).push _)
  first
    | rfl
    | (rw [Array.getElem?_append_left (by decide)]; rfl)
    | kernel_rfl
end
def tYfLst (te : TE) : TYf := fun σ H Q => te σ H fun x H1 => ∃ a xs, x = .ref a ∧ H1 a = some (.lst xs) ∧ Q xs H1
theorem close_lst : typeLookup (.type "list_iterator") "close" = pure none := by rw [typeLookup_type, builtinLookup_eq_fast]; kernel_rfl
theorem yf_lst {X : Cx} {e : Expr} {te : TE} (he : PE X e te) : YfE X e (tYfLst te) := by
  refine ⟨fun pins s σ H Q I h => ?_⟩
  refine thn (he.run pins s σ H _ I h) fun v s1 ⟨x, H1, I1, r1, a, xs, ex, ha, hq⟩ => ?_
  subst ex
  obtain rfl : v = Value.ref a := r1
  obtain ⟨its, rits, pl, _⟩ := I1.list (SqL.of ha)
  have hl := pl.isList
  refine ⟨"list", hl.typeIs, by decide, wpAny_pyIter_list hl ?_⟩
  have ksz : ∀ b o, s1.heap.get? b = some o → b ≠ s1.heap.objs.size := fun b o e => Nat.ne_of_lt (Heap.lt_size e)
  have hal : a < s1.heap.objs.size := by obtain ⟨_, e, _⟩ := id hl; exact Heap.lt_size e
  have kp : ∀ b o, s1.heap.get? b = some o → (s1.heap.push { cls := .type "list_iterator", data := .fields #[.ref a, .int 0 0] }).get? b = some o := fun b o e => Heap.get?_push_of_some _ e
  refine ⟨s1.heap.objs.size, H1, xs, fun j h => h.IsListIter s1.heap.objs.size a j ∧ h.IsList a its.toArray, rfl, I1.kept (t' := s1.toks) kp, .inr I1.sz, Nat.ne_of_gt I1.lt, fun y c hy => ?_, I1.hok.fresh (Nat.le_refl _), fun p hp => ?_,
    ⟨⟨_, Heap.get?_push_size _ rfl, rfl, rfl⟩, hl.push _⟩, ⟨⟨"list_iterator", fun j h q => ?_, close_lst, by decide⟩, fun j h h' q hk => ?_, fun A' j x s2 Q' E' hA hx q hQ => ?_, fun A' s2 Q' E' hA q hE => ?_⟩, hq⟩
  · obtain ⟨v, o, ho, _⟩ := I1.cell y c hy
    exact ksz c o ho
  · exact ksz p.1 _ (I1.pin p hp).1
  · obtain ⟨⟨o, ho, hc, _⟩, _⟩ := q
    exact ⟨o, ho, hc⟩
  · obtain ⟨⟨o, ho, r⟩, o2, ho2, r2⟩ := q
    exact ⟨⟨o, hk _ o (.inl rfl) ho, r⟩, o2, hk _ o2 (.inr (by rw [ha]; exact fun z => by cases z)) ho2, r2⟩
  · obtain ⟨q1, q2⟩ := q
    obtain ⟨u, hu, ru⟩ := rits.get hx
    have hne : a ≠ s1.heap.objs.size := Nat.ne_of_lt hal
    exact spec_list_item q1 q2 (x := u) (by simpa using hu) fun h' q1' hs => hQ u h' s2.toks ru ⟨q1', q2.extBut hs.extBut hne⟩ fun b o hb eb => hs.extBut b o hb eb
  · obtain ⟨q1, q2⟩ := q
    have hnone : its.toArray[xs.length]? = none := by
      have e := rits.length
      have e2 : its[xs.length]? = none := List.getElem?_eq_none_iff.mpr (by omega)
      simpa using e2
    exact spec_list_end hA q1 q2 hnone fun e h' hS hk => hE e h' s2.toks hS fun b o hb eb => hk b o hb eb
def tMethGK (C : Addr) (m : Str) (n : Nat) (kn : Nat) (sp : SpG) (gV : List V → List V → List V) (ta : TE) (t tk : TA) : TGen := fun σ H cont => ta σ H fun x H1 => ∃ a dx fs, x = .ref a ∧ H1 a = some (.ins C dx fs) ∧ fs.lookup m = none ∧
  t σ H1 fun vs H2 => tk σ H2 fun zs H3 => (x :: vs).length = n ∧ zs.length = kn ∧ sp (gV (x :: vs) zs) H3 cont E0
/-- o.m(e, .., k = v) of a generator method -/
theorem pgen_methK {X : Cx} {k n : Nat} {f C : Addr} {fd : FuncData} {ps ks : List Str} {sp : SpG} {g : List Value → List Value → List Value} {gV : List V → List V → List V} {m : Str} {o e : Expr} {es : List Expr} {kws : List Keyword} {ta : TE} {t tk : TA} {apos pos' : Pos} {pl : Sem Bool}
    (he : PE X o ta) (c : Cls X.K C) (hm : Meth X.K C m f) (F : GFn X.prog X.w X.K X.mg X.base k f fd ps sp) (hr : Room k X.A) (hb : KBn X.K fd ps n ks g gV) (ha : PA X (e :: es) t) (hkw : PK X kws tk)
    (hall : (backToKw pos' (keywordEach kws X.env)).all (·.1.isSome) = true := by rfl) (hks : (backToKw pos' (keywordEach kws X.env)).filterMap (·.1) = ks := by rfl)
    (hst : starEach (e :: es) X.env = (false, eval e X.env) :: starEach es X.env := by rfl) (hpl : ((backTo pos' (starEach (e :: es) X.env)).any (·.1) || (backToKw pos' (keywordEach kws X.env)).any (·.1.isNone)) = false := by rfl)
    (ht : eval (.Call (.Attribute o m apos) (e :: es) kws pos') X.env = (do
      let ov ← eval o X.env
      standAt apos.atName
      let (f, first) ← holding [ov] (getMethod ov m pl)
      callWith pos' f first (backTo pos' (starEach (e :: es) X.env)) (backToKw pos' (keywordEach kws X.env))) := by rfl) :
    PGen X k (.Call (.Attribute o m apos) (e :: es) kws pos') (tMethGK C m n ks.length sp gV ta t tk) E0 := by
  refine ⟨fun pins s σ H cont I h => ?_⟩
  refine PySem.W.methodCall_KW (pl := pl) (thn (he.run pins s σ H _ I h) fun u s1 ⟨x, H1, I1, rx, a, dx, fs, ex, ea, l, q⟩ => ?_) ht
  subst ex
  obtain rfl : u = Value.ref a := rx
  refine getmeth_ok I1 ea c hm l ?_
  refine PySem.W.callWith_KW (first := [.ref a]) (h₀ := X.base) I.ok.mod.kin hm.kp hall (thn (ha.run pos' pins s1 σ H1 _ I1 q) fun us s2 ⟨vs, H2, I2, r, q2⟩ => ?_) hpl hst
  refine thn (hkw.run pos' pins s2 σ H2 _ I2 q2) fun ws s3 ⟨zs, H3, I3, rz, l1, l2, q3⟩ => ⟨I3.kIn, ?_⟩
  rw [hks]
  have r1 : Vals (V.ref a :: vs) (Value.ref a :: us) := .cons rfl r
  have r2 := hb.rel r1 rz
  refine wpAny_call (codeAny_mono (F.run X.A X.stack s3 H3 ⟨Value.ref a :: us, ks.zip ws⟩ (g (Value.ref a :: us) ws) _ cont E0 hr I3.env0 (hb.to s3 _ ws I3.kIn (r1.length.symm.trans l1) (rz.length.symm.trans l2)) r2 q3) fun r s' hq => ?_)
  cases r with
  | error e => exact False.elim hq
  | ok fl =>
    cases fl with
    | ret u => exact ⟨H3, s3, [], I3, .nil, hq⟩
    | next => exact False.elim hq
    | brk => exact False.elim hq
    | cont => exact False.elim hq
end FP
set_option Elab.async false
set_option linter.all false
set_option maxRecDepth 100000
set_option maxHeartbeats 4000000
/-! A Run with its Choices, all of it. -/
namespace FP
open PySem PySem.Spec PyProof.Rows L2 TL
structure Rt where
  r : Addr
  p : Addr
  h : Addr
structure Ct where
  c : Addr
  l : Addr
  k : Addr
def rnF (M : RunM) (q : Rt) (k : Addr) : List (Str × V) := [("line", .int (M.line : Nat)), ("calling", .bl M.calling), ("known", .ref k), ("_places", .ref q.p), ("_held", .ref q.h)]
def heldV (l : List (Nat × W)) : List (Key × V) := l.map fun q => (Sum.inl (q.1 : Int), q.2.v)
def chF (c : Ct) : List (Str × V) := [("_left", .ref c.l)]
structure RnAt (Cn : Addr) (H : Hp) (q : Rt) (M : RunM) : Prop where
  r : ∃ dx k, H q.r = some (.ins Cn dx (rnF M q k)) ∧ H k = some (.lst (M.known.map V.str))
  p : H q.p = some (.dK (homesV M.places))
  h : H q.h = some (.dK (heldV M.held))
  hp : q.h ≠ q.p
structure BtAt (Cn Cc : Addr) (H : Hp) (q : Rt) (c : Ct) (M : RunM) (xs : List Int) : Prop where
  r : ∃ dx, H q.r = some (.ins Cn dx (rnF M q c.k))
  k : H c.k = some (.lst (M.known.map V.str))
  kl : c.k ≠ c.l
  p : H q.p = some (.dK (homesV M.places))
  h : H q.h = some (.dK (heldV M.held))
  hp : q.h ≠ q.p
  ch : ∃ dx, H c.c = some (.ins Cc dx (chF c))
  ll : H c.l = some (.lst (xs.map V.int).reverse)
  rc : q.r ≠ c.c
def But1 (r : Addr) (H H' : Hp) : Prop := ∀ b o, b ≠ r → H b = some o → H' b = some o
def But3 (q : Rt) (c : Ct) (H H' : Hp) : Prop := ∀ b o, b ≠ q.r → b ≠ q.h → b ≠ c.l → H b = some o → H' b = some o
theorem But3.refl (q : Rt) (c : Ct) (H : Hp) : But3 q c H H := fun _ _ _ _ _ e => e
theorem But3.trans {q : Rt} {c : Ct} {H H1 H2 : Hp} (a : But3 q c H H1) (b : But3 q c H1 H2) : But3 q c H H2 := fun d o n1 n2 n3 e => b d o n1 n2 n3 (a d o n1 n2 n3 e)
theorem But3.same {q : Rt} {c : Ct} {H H1 : Hp} (a : Same H H1) : But3 q c H H1 := fun d o _ _ _ e => a d o e
theorem But3.r {q : Rt} {c : Ct} {H : Hp} {o : HO} : But3 q c H (upd H q.r o) := fun d u n1 _ _ e => (upd_ne n1).trans e
theorem But3.h {q : Rt} {c : Ct} {H : Hp} {o : HO} : But3 q c H (upd H q.h o) := fun d u _ n2 _ e => (upd_ne n2).trans e
theorem But3.l {q : Rt} {c : Ct} {H : Hp} {o : HO} : But3 q c H (upd H c.l o) := fun d u _ _ n3 e => (upd_ne n3).trans e
theorem But3.of1 {q : Rt} {c : Ct} {H H1 : Hp} (a : But1 q.r H H1) : But3 q c H H1 := fun d o n1 _ _ e => a d o n1 e
section
variable {Cn Cc : Addr} {H H' : Hp} {q : Rt} {c : Ct} {M M' : RunM} {xs : List Int}
theorem BtAt.rn (A : BtAt Cn Cc H q c M xs) : RnAt Cn H q M := by
  obtain ⟨d, e⟩ := A.r
  exact ⟨⟨d, c.k, e, A.k⟩, A.p, A.h, A.hp⟩
theorem RnAt.grow (A : RnAt Cn H q M) (S : Same H H') : RnAt Cn H' q M := by
  obtain ⟨d, k, e, ek⟩ := A.r
  exact ⟨⟨d, k, S _ _ e, S _ _ ek⟩, S _ _ A.p, S _ _ A.h, A.hp⟩
theorem BtAt.grow (A : BtAt Cn Cc H q c M xs) (S : Same H H') : BtAt Cn Cc H' q c M xs := by
  obtain ⟨d, e⟩ := A.r
  obtain ⟨d2, e2⟩ := A.ch
  exact ⟨⟨d, S _ _ e⟩, S _ _ A.k, A.kl, S _ _ A.p, S _ _ A.h, A.hp, ⟨d2, S _ _ e2⟩, S _ _ A.ll, A.rc⟩
theorem BtAt.setK {dx k : Addr} (A : BtAt Cn Cc H q c M xs) (ek : H k = some (.lst (M'.known.map V.str))) (nk : k ≠ c.l) (hp : M'.places = M.places) (hh : M'.held = M.held) : BtAt Cn Cc (upd H q.r (.ins Cn dx (rnF M' q k))) q ⟨c.c, c.l, k⟩ M' xs := by
  obtain ⟨d, e⟩ := A.r
  obtain ⟨d2, e2⟩ := A.ch
  refine ⟨⟨dx, upd_same⟩, (upd_ne (ne_of ek e (by intro z; cases z))).trans ek, nk, ?_, ?_, A.hp, ⟨d2, (upd_ne A.rc.symm).trans e2⟩, (upd_ne (ne_of A.ll e (by intro z; cases z))).trans A.ll, A.rc⟩
  · rw [hp]; exact (upd_ne (ne_of A.p e (by intro z; cases z))).trans A.p
  · rw [hh]; exact (upd_ne (ne_of A.h e (by intro z; cases z))).trans A.h
theorem BtAt.setR {dx : Addr} (A : BtAt Cn Cc H q c M xs) (hk : M'.known = M.known) (hp : M'.places = M.places) (hh : M'.held = M.held) : BtAt Cn Cc (upd H q.r (.ins Cn dx (rnF M' q c.k))) q c M' xs :=
  A.setK (by rw [hk]; exact A.k) A.kl hp hh
theorem BtAt.setH (A : BtAt Cn Cc H q c M xs) (hd : List (Nat × W)) : BtAt Cn Cc (upd H q.h (.dK (heldV hd))) q c { M with held := hd } xs := by
  obtain ⟨d, e⟩ := A.r
  obtain ⟨d2, e2⟩ := A.ch
  exact ⟨⟨d, (upd_ne (ne_of e A.h (by intro z; cases z))).trans e⟩, (upd_ne (ne_of A.k A.h (by intro z; cases z))).trans A.k, A.kl, (upd_ne A.hp.symm).trans A.p, upd_same, A.hp, ⟨d2, (upd_ne (ne_of e2 A.h (by intro z; cases z))).trans e2⟩, (upd_ne (ne_of A.ll A.h (by intro z; cases z))).trans A.ll, A.rc⟩
theorem BtAt.setL (A : BtAt Cn Cc H q c M xs) (ys : List Int) : BtAt Cn Cc (upd H c.l (.lst (ys.map V.int).reverse)) q c M ys := by
  obtain ⟨d, e⟩ := A.r
  obtain ⟨d2, e2⟩ := A.ch
  exact ⟨⟨d, (upd_ne (ne_of e A.ll (by intro z; cases z))).trans e⟩, (upd_ne A.kl).trans A.k, A.kl, (upd_ne (ne_of A.p A.ll (by intro z; cases z))).trans A.p, (upd_ne (ne_of A.h A.ll (by intro z; cases z))).trans A.h, A.hp, ⟨d2, (upd_ne (ne_of e2 A.ll (by intro z; cases z))).trans e2⟩, upd_same, A.rc⟩
end
theorem val_held (l : List (Nat × W)) (k : Nat) : valV (heldV l) (Sum.inl (k : Int) : Key) = (heldOf l k).map W.v := by
  unfold valV heldV heldOf
  rw [List.find?_map]
  have e : ((fun kv : Key × V => decide (kv.1 = Sum.inl (k : Int))) ∘ fun q : Nat × W => (Sum.inl (q.1 : Int), q.2.v)) = fun q : Nat × W => decide (q.1 = k) := by
    funext q
    exact decide_eq_decide.mpr ⟨fun z => by have := Sum.inl.inj z; omega, fun z => congrArg (fun j : Nat => (Sum.inl (j : Int) : Key)) z⟩
  rw [e, Option.map_map, Option.map_map]
  rfl
theorem put_held (l : List (Nat × W)) (k : Nat) (v : W) : putK (heldV l) (Sum.inl (k : Int) : Key) v.v = heldV (putH l k v) := by
  unfold putK heldV putH
  have e : ∀ q : Nat × W, ((Sum.inl (q.1 : Int) : Key) = Sum.inl (k : Int)) ↔ q.1 = k := fun q => ⟨fun z => by have := Sum.inl.inj z; omega, fun z => by rw [z]⟩
  rw [List.any_map]
  have e2 : ((fun kv : Key × V => decide (kv.1 = Sum.inl (k : Int))) ∘ fun q : Nat × W => (Sum.inl (q.1 : Int), q.2.v)) = fun q : Nat × W => decide (q.1 = k) := by
    funext q
    exact decide_eq_decide.mpr (e q)
  rw [e2]
  split
  · rw [List.map_map, List.map_map]
    refine List.map_congr_left fun q _ => ?_
    show (if (Sum.inl (q.1 : Int) : Key) = Sum.inl (k : Int) then _ else _) = _
    by_cases c : q.1 = k
    · rw [if_pos ((e q).mpr c)]
      show _ = (fun q : Nat × W => ((Sum.inl (q.1 : Int) : Key), q.2.v)) (if q.1 = k then (q.1, v) else q)
      rw [if_pos c]
    · rw [if_neg (fun z => c ((e q).mp z))]
      show _ = (fun q : Nat × W => ((Sum.inl (q.1 : Int) : Key), q.2.v)) (if q.1 = k then (q.1, v) else q)
      rw [if_neg c]
  · rw [List.map_append]
    rfl
structure RnTxt (K : PySem.W.Frag) (mg : Str → Option Value) (Cn Cc : Addr) : Prop where
  cn : Cls K Cn
  cc : Cls K Cc
  gn : mg "Run" = some (.ref Cn)
  gc : mg "Choices" = some (.ref Cc)
  nl : NoAttr K Cn "line"
  nc : NoAttr K Cn "calling"
  nk : NoAttr K Cn "known"
  np : NoAttr K Cn "_places"
  nh : NoAttr K Cn "_held"
  cl : NoAttr K Cc "_left"
theorem lkN1 (M : RunM) (q : Rt) (k : Addr) : (rnF M q k).lookup ("line" : Str) = some (.int (M.line : Nat)) := rfl
theorem lkN2 (M : RunM) (q : Rt) (k : Addr) : (rnF M q k).lookup ("calling" : Str) = some (.bl M.calling) := rfl
theorem lkN3 (M : RunM) (q : Rt) (k : Addr) : (rnF M q k).lookup ("known" : Str) = some (.ref k) := rfl
theorem lkN4 (M : RunM) (q : Rt) (k : Addr) : (rnF M q k).lookup ("_places" : Str) = some (.ref q.p) := rfl
theorem lkN5 (M : RunM) (q : Rt) (k : Addr) : (rnF M q k).lookup ("_held" : Str) = some (.ref q.h) := rfl
section
variable {P : Program} {w : World} {K : PySem.W.Frag} {mg : Str → Option Value} {base : Heap} {Cn Cc : Addr}
/-! ### Choices -/
def spChoices (K : PySem.W.Frag) (Cc : Addr) : Sp := fun vs H Q _ => ∃ (x dx o : Addr) (xs : List Int), vs = [.ref x, .ref o] ∧ H x = some (.ins Cc dx []) ∧ (SqL K H o (xs.map V.int) ∨ SqT K H o (xs.map V.int)) ∧
  ∀ l H', H l = none → H' l = some (.lst (xs.map V.int).reverse) → H' x = some (.ins Cc dx [("_left", .ref l)]) → (∀ b o, H b = some o → b ≠ x → H' b = some o) → Q .non H'
theorem scCI : FnScope ["self", "choices"] ["self", "choices"] (defScope mChoices_init) := ⟨rfl, rfl, rfl, by decide +kernel, rfl, by decide +kernel, by decide +kernel⟩
theorem ok_choicesInit {f : Addr} {fd : FuncData} (F : Fun K "__init__" "Choices.__init__" mChoices_init f fd) (T : RnTxt K mg Cn Cc) (B : Blt2 mg) : FnOk P w K mg base CX0 1 f fd ["self", "choices"] (spChoices K Cc) := by
  refine F.ok scCI (fun vs H Q E h => ?_) (fun cdv A outer s H vs Q E hr h => ?_)
  · obtain ⟨x, dx, o, xs, rfl, _⟩ := h
    rfl
  obtain ⟨x, dx, o, xs, rfl, hx, ho, q⟩ := h
  refine ⟨_, pss_cons (ps_fld (pv 0) (pe_callTy call_list_of (by rfl) B.list (by decide +kernel) (pa_cons (pv 1) pa_nil)) rfl) (pss_one (ps_expr (pe_bm0 PySem.F.plainAttrs_list PySem.F.slot_list_reverse PySem.F.type_list_reverse mt_reverse (pe_fld (pv 0) rfl)))), ?_⟩
  refine ⟨_, rfl, o, _, rfl, ho, fun l hl => ⟨_, rfl, x, Cc, dx, [], rfl, (upd_ne (ne_of_none hx hl)).trans hx, T.cc, T.cl, (by show 0 < 1000; decide), ?_⟩⟩
  have nlx : l ≠ x := (ne_of_none hx hl).symm
  refine ⟨_, rfl, x, Cc, dx, _, _, rfl, upd_same, T.cc, T.cl, rfl, .inl ⟨rfl, _, SqL.of ((upd_ne nlx).trans upd_same)⟩, l, _, rfl, rfl, (upd_ne nlx).trans upd_same, ?_⟩
  refine q l _ hl upd_same ((upd_ne nlx.symm).trans upd_same) fun b u e nb => ?_
  rw [upd_ne (ne_of_none e hl), upd_ne nb, upd_ne (ne_of_none e hl)]
  exact e
def spTake (Cn Cc : Addr) : Sp := fun vs H Q _ => ∃ (q : Rt) (c : Ct) (M : RunM) (xs : List Int), vs = [.ref c.c] ∧ BtAt Cn Cc H q c M xs ∧ xs.length ≤ 1000000 ∧ (xs = [] → Q .non H) ∧ (∀ x r, xs = x :: r → Q (.int x) (upd H c.l (.lst (r.map V.int).reverse)))
theorem scCT : FnScope ["self"] ["self"] (defScope mChoices_take) := ⟨rfl, rfl, rfl, by decide +kernel, rfl, by decide +kernel, by decide +kernel⟩
theorem ok_take {f : Addr} {fd : FuncData} (F : Fun K "take" "Choices.take" mChoices_take f fd) (T : RnTxt K mg Cn Cc) (B : Blt2 mg) : FnOk P w K mg base CX0 1 f fd ["self"] (spTake Cn Cc) := by
  refine F.ok scCT (fun vs H Q E h => ?_) (fun cdv A outer s H vs Q E hr h => ?_)
  · obtain ⟨q, c, M, xs, rfl, _⟩ := h
    rfl
  obtain ⟨q, c, M, xs, rfl, A0, hl, k1, k2⟩ := h
  obtain ⟨dc, ec⟩ := A0.ch
  refine ⟨_, pss_one (ps_ret (pe_ifExp (pt_cmpR op_gt (pe_callB call_len_seq (by rfl) B.len boot_len (pa_cons (pe_fld (pv 0) rfl) pa_nil)) pe_int (nomark _)) (pe_bm0 PySem.F.plainAttrs_list PySem.F.slot_list_pop PySem.F.type_list_pop mt_pop (pe_fld (pv 0) rfl)) pe_non)), ?_⟩
  refine ⟨_, rfl, c.c, Cc, dc, _, _, rfl, ec, T.cc, T.cl, rfl, c.l, _, rfl, .inl (SqL.of A0.ll), _, _, rfl, rfl, _, rfl, ?_⟩
  cases xs with
  | nil => exact iteF (k1 rfl)
  | cons x r =>
    have e : ((x :: r).map V.int).reverse = (r.map V.int).reverse ++ [V.int x] := by simp
    have ed : ((r.map V.int).reverse ++ [V.int x]).dropLast = (r.map V.int).reverse := List.dropLast_concat
    have k3 := k2 x r rfl
    have hlst := A0.ll
    rw [e] at hlst ⊢
    rw [← ed] at k3
    refine ite2 (fun _ => ?_) fun c => ?_
    · exact ⟨_, rfl, c.c, Cc, dc, _, _, rfl, ec, T.cc, T.cl, rfl, .inl ⟨rfl, _, SqL.of hlst⟩, c.l, _, V.int x, rfl, rfl, hlst, by simp, k3⟩
    · exact absurd (decide_eq_true (by rw [List.length_append, List.length_singleton]; omega)) c
/-! ### Run -/
def spRunInit (Cn : Addr) : Sp := fun vs H Q _ => ∃ (x dx p : Addr) (line : Nat), vs = [.ref x, .ref p, .int (line : Nat)] ∧ H x = some (.ins Cn dx []) ∧
  ∀ k h H', H k = none → H h = none → k ≠ h → H' k = some (.lst []) → H' h = some (.dK []) → H' x = some (.ins Cn dx [("line", .int (line : Nat)), ("calling", .bl false), ("known", .ref k), ("_places", .ref p), ("_held", .ref h)]) → (∀ b o, H b = some o → b ≠ x → H' b = some o) → Q .non H'
theorem scRN : FnScope ["self", "places", "line"] ["self", "places", "line"] (defScope mRun_init) := ⟨rfl, rfl, rfl, by decide +kernel, rfl, by decide +kernel, by decide +kernel⟩
theorem ok_runInit {f : Addr} {fd : FuncData} (F : Fun K "__init__" "Run.__init__" mRun_init f fd) (T : RnTxt K mg Cn Cc) : FnOk P w K mg base CX0 1 f fd ["self", "places", "line"] (spRunInit Cn) := by
  refine F.ok scRN (fun vs H Q E h => ?_) (fun cdv A outer s H vs Q E hr h => ?_)
  · obtain ⟨x, dx, p, line, rfl, _⟩ := h
    rfl
  obtain ⟨x, dx, p, line, rfl, hx, q⟩ := h
  refine ⟨_, pss_cons (ps_fld (pv 0) (pv 2) rfl) (pss_cons (ps_fld (pv 0) pe_bl rfl) (pss_cons (ps_fld (pv 0) (pe_lst pa_nil) rfl) (pss_cons (ps_fld (pv 0) (pv 1) rfl) (pss_one (ps_fld (pv 0) pe_dnewK rfl))))), ?_⟩
  refine ⟨_, rfl, _, rfl, x, Cn, dx, [], rfl, hx, T.cn, T.nl, (by show 0 < 1000; decide), ?_⟩
  refine ⟨_, rfl, x, Cn, dx, _, rfl, upd_same, T.cn, T.nc, (by show 1 < 1000; decide), ?_⟩
  refine ⟨Nat.zero_le _, fun k hk => ?_⟩
  have nkx : k ≠ x := fun z => by rw [z, upd_same] at hk; cases hk
  rw [upd_ne nkx, upd_ne nkx] at hk
  refine ⟨_, rfl, x, Cn, dx, _, rfl, (upd_ne nkx.symm).trans upd_same, T.cn, T.nk, (by show 2 < 1000; decide), ?_⟩
  refine ⟨_, rfl, _, rfl, x, Cn, dx, _, rfl, upd_same, T.cn, T.np, (by show 3 < 1000; decide), ?_⟩
  refine fun h hh => ?_
  have nhx : h ≠ x := fun z => by rw [z, upd_same] at hh; cases hh
  rw [upd_ne nhx, upd_ne nhx] at hh
  have nhk : h ≠ k := fun z => by rw [z, upd_same] at hh; cases hh
  rw [upd_ne nhk, upd_ne nhx, upd_ne nhx] at hh
  refine ⟨_, rfl, x, Cn, dx, _, rfl, (upd_ne nhx.symm).trans upd_same, T.cn, T.nh, (by show 4 < 1000; decide), ?_⟩
  refine q k h _ hk hh nhk.symm ?_ ?_ upd_same fun b u e nb => ?_
  · rw [upd_ne nkx, upd_ne nhk.symm, upd_ne nkx, upd_ne nkx, upd_same]
  · rw [upd_ne nhx, upd_same]
  · rw [upd_ne nb, upd_ne (ne_of_none e hh), upd_ne nb, upd_ne nb, upd_ne (ne_of_none e hk), upd_ne nb, upd_ne nb]
    exact e
def spWorth (Cn : Addr) : Sp := fun vs H Q _ => ∃ (q : Rt) (M : RunM) (c : Str) (x : W), vs = [.ref q.r, .str c] ∧ RnAt Cn H q M ∧ worthM M c = some x ∧ Q x.v H
theorem scWo : FnScope ["self", "cell"] ["self", "cell"] (defScope mRun_worth) := ⟨rfl, rfl, rfl, by decide +kernel, rfl, by decide +kernel, by decide +kernel⟩
theorem ok_worth {f : Addr} {fd : FuncData} (F : Fun K "worth" "Run.worth" mRun_worth f fd) (T : RnTxt K mg Cn Cc) : FnOk P w K mg base CX0 1 f fd ["self", "cell"] (spWorth Cn) := by
  refine F.ok scWo (fun vs H Q E h => ?_) (fun cdv A outer s H vs Q E hr h => ?_)
  · obtain ⟨q, M, c, x, rfl, _⟩ := h
    rfl
  obtain ⟨q, M, c, x, rfl, A0, hx, k⟩ := h
  obtain ⟨dr, kk, er, ek⟩ := A0.r
  obtain ⟨n, hc, rfl⟩ := Option.map_eq_some_iff.mp hx
  have hu := hu_of hr
  refine ⟨_, pss_one (ps_ret (pe_dget1 hu (pe_fld (pv 0) rfl) (pe_dget hu (pe_fld (pv 0) rfl) (pv 1) (fun _ _ => rfl)) ⟨rfl, rfl, rfl, rfl⟩)), ?_⟩
  have g1 := DGet.k (k := Sum.inr c) A0.p
  rw [val_homes, hc] at g1
  have g2 := DGet.k (k := Sum.inl (n : Int)) A0.h
  rw [val_held] at g2
  refine ⟨_, rfl, q.r, Cn, dr, _, _, rfl, er, T.cn, T.nh, lkN5 M q kk, q.h, rfl, .inl ⟨_, .inl A0.h⟩, _, rfl, q.r, Cn, dr, _, _, rfl, er, T.cn, T.np, lkN4 M q kk, _, rfl, q.p, _, rfl, g1, _, g2, ?_⟩
  have e : ((heldOf M.held n).map W.v).getD .non = (worthAt M n).v := by
    unfold worthAt
    cases heldOf M.held n <;> rfl
  rw [e]
  exact k
def spReadC (Cn : Addr) : Sp := fun vs H Q _ => ∃ (q : Rt) (M : RunM) (c : Str) (x : W), vs = [.ref q.r, .str c] ∧ RnAt Cn H q M ∧ worthM M c = some x ∧ ∀ t, H t = none → Q (.ref t) (upd H t (.tup (Ev.rd M.line c x).v))
theorem scRd : FnScope ["self", "cell"] ["self", "cell"] (defScope mRun_read) := ⟨rfl, rfl, rfl, by decide +kernel, rfl, by decide +kernel, by decide +kernel⟩
theorem ok_readC {f : Addr} {fd : FuncData} (F : Fun K "read" "Run.read" mRun_read f fd) (T : RnTxt K mg Cn Cc) (D : MDef P w K mg base Cn "worth" 1 ["self", "cell"] (spWorth Cn)) : FnOk P w K mg base CX0 2 f fd ["self", "cell"] (spReadC Cn) := by
  obtain ⟨fW, fdW, mW, bW, GW⟩ := D.ex
  refine F.ok scRd (fun vs H Q E h => ?_) (fun cdv A outer s H vs Q E hr h => ?_)
  · obtain ⟨q, M, c, x, rfl, _⟩ := h
    rfl
  obtain ⟨q, M, c, x, rfl, A0, hx, k⟩ := h
  obtain ⟨dr, kk, er, ek⟩ := A0.r
  refine ⟨_, pss_one (ps_ret (pe_tup (pa_cons pe_str (pa_cons (pe_fld (pv 0) rfl) (pa_cons (pv 1) (pa_cons (pe_meth (pv 0) T.cn mW GW hr bW .nil pass0 (pa_cons (pv 1) pa_nil)) pa_nil)))))), ?_⟩
  exact ⟨_, rfl, q.r, Cn, dr, _, _, rfl, er, T.cn, T.nl, lkN1 M q kk, _, rfl, _, rfl, q.r, dr, _, rfl, er, rfl, _, rfl, q, M, c, x, rfl, A0, hx, by show 4 ≤ sizeLine; decide, fun t ht => k t ht⟩
def spWriteC (Cn : Addr) : Sp := fun vs H Q _ => ∃ (q : Rt) (M M1 : RunM) (c : Str) (x : W), vs = [.ref q.r, .str c, x.v] ∧ RnAt Cn H q M ∧ writeM M c x = some M1 ∧ M.held.length ≤ 1000 ∧
  ∀ t, (upd H q.h (.dK (heldV M1.held))) t = none → Q (.ref t) (upd (upd H q.h (.dK (heldV M1.held))) t (.tup (Ev.wr M.line c x).v))
theorem scWr : FnScope ["self", "cell", "worth"] ["self", "cell", "worth"] (defScope mRun_write) := ⟨rfl, rfl, rfl, by decide +kernel, rfl, by decide +kernel, by decide +kernel⟩
theorem ok_writeC {f : Addr} {fd : FuncData} (F : Fun K "write" "Run.write" mRun_write f fd) (T : RnTxt K mg Cn Cc) : FnOk P w K mg base CX0 1 f fd ["self", "cell", "worth"] (spWriteC Cn) := by
  refine F.ok scWr (fun vs H Q E h => ?_) (fun cdv A outer s H vs Q E hr h => ?_)
  · obtain ⟨q, M, M1, c, x, rfl, _⟩ := h
    rfl
  obtain ⟨q, M, M1, c, x, rfl, A0, hx, hl, k⟩ := h
  obtain ⟨dr, kk, er, ek⟩ := A0.r
  obtain ⟨n, hc, rfl⟩ := Option.map_eq_some_iff.mp hx
  have hu := hu_of hr
  refine ⟨_, pss_cons (ps_dput hu (pe_fld (pv 0) rfl) (pe_dget hu (pe_fld (pv 0) rfl) (pv 1) (fun _ _ => rfl)) (pv 2) rfl) (pss_one (ps_ret (pe_tup (pa_cons pe_str (pa_cons (pe_fld (pv 0) rfl) (pa_cons (pv 1) (pa_cons (pv 2) pa_nil))))))), ?_⟩
  have g1 := DGet.k (k := Sum.inr c) A0.p
  rw [val_homes, hc] at g1
  refine ⟨_, rfl, _, rfl, q.r, Cn, dr, _, _, rfl, er, T.cn, T.nh, lkN5 M q kk, _, rfl, q.r, Cn, dr, _, _, rfl, er, T.cn, T.np, lkN4 M q kk, _, rfl, q.p, _, rfl, g1, q.h, _, rfl, DPut.k (k := Sum.inl (n : Int)) A0.h ?_, ?_⟩
  · unfold heldV
    rw [List.length_map, sizeLine_eq]
    omega
  rw [put_held]
  exact ⟨_, rfl, q.r, Cn, dr, _, _, rfl, (upd_ne (ne_of er A0.h (by intro z; cases z))).trans er, T.cn, T.nl, rfl, _, rfl, _, rfl, by show 4 ≤ sizeLine; decide, fun t ht => k t ht⟩
def spStop (Cn Cc : Addr) : Sp := fun vs H Q _ => ∃ (q : Rt) (c : Ct) (M : RunM) (xs : List Int), vs = [.ref q.r] ∧ BtAt Cn Cc H q c M xs ∧ ∀ H', BtAt Cn Cc H' q c (stopR M) xs → (∀ b, b ≠ q.r → H' b = H b) → Q .non H'
theorem scSt : FnScope ["self"] ["self"] (defScope mRun_stop) := ⟨rfl, rfl, rfl, by decide +kernel, rfl, by decide +kernel, by decide +kernel⟩
theorem ok_stop {f : Addr} {fd : FuncData} (F : Fun K "stop" "Run.stop" mRun_stop f fd) (T : RnTxt K mg Cn Cc) : FnOk P w K mg base CX0 1 f fd ["self"] (spStop Cn Cc) := by
  refine F.ok scSt (fun vs H Q E h => ?_) (fun cdv A outer s H vs Q E hr h => ?_)
  · obtain ⟨q, c, M, xs, rfl, _⟩ := h
    rfl
  obtain ⟨q, c, M, xs, rfl, A0, k⟩ := h
  obtain ⟨dr, er⟩ := A0.r
  refine ⟨_, pss_cons (ps_fld (pv 0) pe_int rfl) (pss_one (ps_fld (pv 0) pe_bl rfl)), ?_⟩
  refine ⟨_, rfl, q.r, Cn, dr, _, rfl, er, T.cn, T.nl, (by show 5 < 1000; decide), ?_⟩
  have A1 := A0.setR (dx := dr) (M' := goR M 0) rfl rfl rfl
  refine ⟨_, rfl, q.r, Cn, dr, _, rfl, upd_same, T.cn, T.nc, (by show 5 < 1000; decide), ?_⟩
  have A2 := A1.setR (dx := dr) (M' := stopR M) rfl rfl rfl
  exact k _ A2 fun b nb => by rw [upd_ne nb, upd_ne nb]
def spLeave (Cn Cc Cr : Addr) : Sp := fun vs H Q _ => ∃ (q : Rt) (c : Ct) (M : RunM) (xs : List Int) (row : Addr) (m : RowM), vs = [.ref q.r, .ref row] ∧ BtAt Cn Cc H q c M xs ∧ RowAt Cr H row m ∧ row ≠ q.r ∧ ∀ H', BtAt Cn Cc H' q c (leaveR M m.after) xs → (∀ b, b ≠ q.r → H' b = H b) → Q .non H'
theorem scLv : FnScope ["self", "row"] ["self", "row"] (defScope mRun_leave_call) := ⟨rfl, rfl, rfl, by decide +kernel, rfl, by decide +kernel, by decide +kernel⟩
structure RwTxt (K : PySem.W.Frag) (Cr : Addr) : Prop where
  cr : Cls K Cr
  rw : NoAttr K Cr "word"
  rn : NoAttr K Cr "names"
  ra : NoAttr K Cr "after"
  ro : NoAttr K Cr "other"
theorem ok_leave {f Cr : Addr} {fd : FuncData} (F : Fun K "leave_call" "Run.leave_call" mRun_leave_call f fd) (T : RnTxt K mg Cn Cc) (TR : RwTxt K Cr) : FnOk P w K mg base CX0 1 f fd ["self", "row"] (spLeave Cn Cc Cr) := by
  refine F.ok scLv (fun vs H Q E h => ?_) (fun cdv A outer s H vs Q E hr h => ?_)
  · obtain ⟨q, c, M, xs, row, m, rfl, _⟩ := h
    rfl
  obtain ⟨q, c, M, xs, row, m, rfl, A0, R0, hne, k⟩ := h
  obtain ⟨dr, er⟩ := A0.r
  obtain ⟨dw, t, ew, et⟩ := R0
  refine ⟨_, pss_cons (ps_fld (pv 0) (pe_fld (pv 1) rfl) rfl) (pss_one (ps_fld (pv 0) pe_bl rfl)), ?_⟩
  refine ⟨_, rfl, row, Cr, dw, _, _, rfl, ew, TR.cr, TR.ra, lkR3 m t, _, rfl, q.r, Cn, dr, _, rfl, er, T.cn, T.nl, (by show 5 < 1000; decide), ?_⟩
  have A1 := A0.setR (dx := dr) (M' := goR M m.after) rfl rfl rfl
  refine ⟨_, rfl, q.r, Cn, dr, _, rfl, upd_same, T.cn, T.nc, (by show 5 < 1000; decide), ?_⟩
  have A2 := A1.setR (dx := dr) (M' := leaveR M m.after) rfl rfl rfl
  exact k _ A2 fun b nb => by rw [upd_ne nb, upd_ne nb]
/-! ### addresses -/
def cellV (x : W) : V := match x with
  | .a c => .str c
  | _ => .non
def spCellAt : Sp := fun vs H Q _ => ∃ x : W, vs = [x.v] ∧ x.ok ∧ Q (cellV x) H
theorem scCA : FnScope ["worth"] ["worth"] (defScope sCellAt) := ⟨rfl, rfl, rfl, by decide +kernel, rfl, by decide +kernel, by decide +kernel⟩
theorem cut_amp (c : Str) : cutS ("&" ++ c) (some 1) none = c := by
  apply ext_tl
  unfold cutS
  rw [tl_mk]
  have hl : ("&" ++ c : Str).length = 1 + c.length := by rw [len_tl, tl_append, List.length_append, ← len_tl, ← len_tl]; rfl
  have e1 : HT.sIx ("&" ++ c : Str).length 0 (some 1) = 1 := (HT.sIx_nat ..).trans (by rw [hl]; simp)
  have e2 : HT.sIx ("&" ++ c : Str).length ("&" ++ c : Str).length none = ("&" ++ c : Str).length := rfl
  rw [e1, e2]
  have e3 : ("&" ++ c : Str).cps.toList = [38] ++ tl c := tl_append "&" c
  rw [e3]
  show (tl c).take _ = _
  rw [List.take_of_length_le]
  rw [hl, ← len_tl]
  omega
theorem amp_len {c : Str} (h : c.length ≤ 1000) : ("&" ++ c : Str).length ≤ 1001 := by
  rw [len_tl, tl_append, List.length_append, ← len_tl, ← len_tl]
  show 1 + c.length ≤ 1001
  omega
theorem ok_cellAt {f : Addr} {fd : FuncData} (F : Fun K "cell_at" "cell_at" sCellAt f fd) (hi : mg "isinstance" = none) (hs : mg "str" = none) : FnOk P w K mg base CX0 1 f fd ["worth"] spCellAt := by
  refine F.ok scCA (fun vs H Q E h => ?_) (fun cdv A outer s H vs Q E hr h => ?_)
  · obtain ⟨x, rfl, _⟩ := h
    rfl
  obtain ⟨x, rfl, hx, k⟩ := h
  refine ⟨_, pss_one (ps_ret (pe_ifExp (pt_val (pe_callB call_isi (by rfl) hi (by decide +kernel) (pa_cons (pv 0) (pa_cons (pe_bltn (v := .ty "str") (by rfl) hs (by decide +kernel) rfl) pa_nil)))) (pe_slice sl_str (pv 0) (po_some pe_int) po_none) pe_non)), ?_⟩
  cases x with
  | un => exact ⟨_, rfl, _, _, _, _, _, rfl, .ty "str", .base .non, kit_ty (by decide +kernel), _, rfl, iteF k⟩
  | i n => exact ⟨_, rfl, _, _, _, _, _, rfl, .ty "str", .base (.int n), kit_ty (by decide +kernel), _, rfl, iteF k⟩
  | a c =>
    refine ⟨_, rfl, _, _, _, _, _, rfl, .ty "str", .base (.str _), kit_ty (by decide +kernel), _, rfl, iteT ⟨_, rfl, 1, rfl, _, rfl, ?_, ?_⟩⟩
    · exact Nat.le_trans (amp_len hx) (by decide)
    · rw [cut_amp]
      exact k
end
end FP
set_option Elab.async false
set_option linter.all false
set_option maxRecDepth 100000
set_option maxHeartbeats 4000000
namespace FP
open PySem PySem.Spec PyProof.Rows L2 TL
/-! ### events in the heap -/
def Tups (H : Hp) : List Addr → List Ev → Prop
  | [], [] => True
  | t :: ts, e :: es => H t = some (.tup e.v) ∧ Tups H ts es
  | _, _ => False
def EvAt (H : Hp) (e : Addr) (evs : List Ev) : Prop := ∃ ts : List Addr, H e = some (.lst (ts.map V.ref)) ∧ Tups H ts evs
theorem Tups.mono {H H' : Hp} (S : ∀ t xs, H t = some (.tup xs) → H' t = some (.tup xs)) : ∀ {ts : List Addr} {evs : List Ev}, Tups H ts evs → Tups H' ts evs
  | [], [], _ => trivial
  | _ :: _, _ :: _, h => ⟨S _ _ h.1, Tups.mono S h.2⟩
  | [], _ :: _, h => h.elim
  | _ :: _, [], h => h.elim
theorem Tups.len {H : Hp} : ∀ {ts : List Addr} {evs : List Ev}, Tups H ts evs → ts.length = evs.length
  | [], [], _ => rfl
  | _ :: _, _ :: _, h => by rw [List.length_cons, List.length_cons, Tups.len h.2]
  | [], _ :: _, h => h.elim
  | _ :: _, [], h => h.elim
theorem Tups.app {H : Hp} : ∀ {ts us : List Addr} {evs fvs : List Ev}, Tups H ts evs → Tups H us fvs → Tups H (ts ++ us) (evs ++ fvs)
  | [], _, [], _, _, h => h
  | _ :: _, _, _ :: _, _, a, h => ⟨a.1, Tups.app a.2 h⟩
  | [], _, _ :: _, _, a, _ => a.elim
  | _ :: _, _, [], _, a, _ => a.elim
theorem EvAt.same {H H' : Hp} {e : Addr} {evs : List Ev} (a : EvAt H e evs) (S : Same H H') : EvAt H' e evs := by
  obtain ⟨t, h1, f⟩ := a
  exact ⟨t, S _ _ h1, f.mono fun _ _ => S _ _⟩
section
variable {Cn Cc Cr : Addr} {H H' H1 : Hp} {q : Rt} {c : Ct} {M M' : RunM} {xs ys : List Int}
theorem but_none {e : Addr} (A1 : BtAt Cn Cc H1 q c M xs) (b1 : But3 q c H H1) (he : H1 e = none) : H e = none := by
  cases e0 : H e with
  | none => rfl
  | some u =>
    by_cases z1 : e = q.r
    · obtain ⟨d, ed⟩ := A1.r; rw [z1, ed] at he; cases he
    by_cases z2 : e = q.h
    · rw [z2, A1.h] at he; cases he
    by_cases z3 : e = c.l
    · rw [z3, A1.ll] at he; cases he
    rw [b1 e u z1 z2 z3 e0] at he; cases he
theorem RowAt.but {row : Addr} {m : RowM} (R : RowAt Cr H row m) (A : BtAt Cn Cc H q c M xs) (hn : row ≠ q.r) (b : But3 q c H H') : RowAt Cr H' row m := by
  obtain ⟨dx, t, e1, e2⟩ := R
  obtain ⟨dr, er⟩ := A.r
  exact ⟨dx, t, b _ _ hn (ne_of e1 A.h (by intro z; cases z)) (ne_of e1 A.ll (by intro z; cases z)) e1, b _ _ (ne_of e2 er (by intro z; cases z)) (ne_of e2 A.h (by intro z; cases z)) (ne_of e2 A.ll (by intro z; cases z)) e2⟩
theorem tup_but {t : Addr} {ws : List V} (A : BtAt Cn Cc H q c M xs) (b : But3 q c H H') (e : H t = some (.tup ws)) : H' t = some (.tup ws) := by
  obtain ⟨dr, er⟩ := A.r
  exact b _ _ (ne_of e er (by intro z; cases z)) (ne_of e A.h (by intro z; cases z)) (ne_of e A.ll (by intro z; cases z)) e
/-! ### what a caller of a method says -/
theorem use_worth {x : W} {cell : Str} {Q : VK} {E : XK} (A : BtAt Cn Cc H q c M xs) (hx : worthM M cell = some x) (k : Q x.v H) : spWorth Cn [.ref q.r, .str cell] H Q E := ⟨q, M, cell, x, rfl, A.rn, hx, k⟩
theorem use_read {x : W} {cell : Str} {Q : VK} {E : XK} (A : BtAt Cn Cc H q c M xs) (hx : worthM M cell = some x) (k : ∀ t H', H t = none → H' t = some (.tup (Ev.rd M.line cell x).v) → BtAt Cn Cc H' q c M xs → Same H H' → Q (.ref t) H') : spReadC Cn [.ref q.r, .str cell] H Q E :=
  ⟨q, M, cell, x, rfl, A.rn, hx, fun t ht => k t _ ht upd_same (A.grow (Same.new (Same.refl H) ht)) (Same.new (Same.refl H) ht)⟩
theorem use_write {x : W} {cell : Str} {Q : VK} {E : XK} {v : V} (A : BtAt Cn Cc H q c M xs) (hv : v = x.v) (hx : writeM M cell x = some M') (hl : M.held.length ≤ 1000) (k : ∀ t H', H t = none → H' t = some (.tup (Ev.wr M.line cell x).v) → BtAt Cn Cc H' q c M' xs → But3 q c H H' → Q (.ref t) H') : spWriteC Cn [.ref q.r, .str cell, v] H Q E := by
  subst hv
  refine ⟨q, M, M', cell, x, rfl, A.rn, hx, hl, fun t ht => ?_⟩
  have A1 : BtAt Cn Cc (upd H q.h (.dK (heldV M'.held))) q c M' xs := by
    obtain ⟨n, _, rfl⟩ := Option.map_eq_some_iff.mp hx
    exact A.setH _
  have b1 : But3 q c H (upd H q.h (.dK (heldV M'.held))) := But3.h
  exact k t _ (but_none A1 b1 ht) upd_same (A1.grow (Same.new (Same.refl _) ht)) (b1.trans (But3.same (Same.new (Same.refl _) ht)))
theorem use_stop {Q : VK} {E : XK} (A : BtAt Cn Cc H q c M xs) (k : ∀ H', BtAt Cn Cc H' q c (stopR M) xs → But3 q c H H' → Q .non H') : spStop Cn Cc [.ref q.r] H Q E :=
  ⟨q, c, M, xs, rfl, A, fun H' A' b => k H' A' fun d o n1 _ _ e => (b d n1).trans e⟩
theorem use_leave {row : Addr} {m : RowM} {Q : VK} {E : XK} (A : BtAt Cn Cc H q c M xs) (R : RowAt Cr H row m) (hn : row ≠ q.r) (k : ∀ H', BtAt Cn Cc H' q c (leaveR M m.after) xs → But3 q c H H' → Q .non H') : spLeave Cn Cc Cr [.ref q.r, .ref row] H Q E :=
  ⟨q, c, M, xs, row, m, rfl, A, R, hn, fun H' A' b => k H' A' fun d o n1 _ _ e => (b d n1).trans e⟩
theorem use_take {Q : VK} {E : XK} (A : BtAt Cn Cc H q c M xs) (hl : xs.length ≤ 1000000) (k1 : xs = [] → Q .non H) (k2 : ∀ x r H', xs = x :: r → BtAt Cn Cc H' q c M r → But3 q c H H' → Q (.int x) H') : spTake Cn Cc [.ref c.c] H Q E :=
  ⟨q, c, M, xs, rfl, A, hl, k1, fun x r e => k2 x r _ e (A.setL r) But3.l⟩
end
section
variable {P : Program} {w : World} {K : PySem.W.Frag} {mg : Str → Option Value} {base : Heap} {Cn Cc Cr : Addr}
/-! ### learn, finds_same -/
theorem str_flat (l : List Str) : (l.map V.str).all flatV = true := by
  rw [List.all_eq_true]
  intro v hv
  obtain ⟨s, _, rfl⟩ := List.mem_map.mp hv
  rfl
theorem inV_str (c : Str) (l : List Str) : inV (.str c) (l.map V.str) = decide (c ∈ l) := by
  unfold inV
  rw [List.any_map]
  induction l with
  | nil => rfl
  | cons x r ih =>
    rw [List.any_cons, ih, Bool.eq_iff_iff, Bool.or_eq_true, decide_eq_true_iff, decide_eq_true_iff, List.mem_cons]
    have : ((fun y => eqV y (V.str c)) ∘ V.str) x = true ↔ c = x := by
      show (x == c) = true ↔ _
      rw [beq_iff_eq]
      exact eq_comm
    rw [this]
def Kin (c c' : Ct) (H : Hp) : Prop := c'.c = c.c ∧ c'.l = c.l ∧ (c'.k = c.k ∨ H c'.k = none)
theorem Kin.refl (c : Ct) (H : Hp) : Kin c c H := ⟨rfl, rfl, .inl rfl⟩
def spLearn (Cn Cc : Addr) : Sp := fun vs H Q _ => ∃ (q : Rt) (c : Ct) (M : RunM) (xs : List Int) (x : W), vs = [.ref q.r, x.v] ∧ BtAt Cn Cc H q c M xs ∧ x.ok ∧ M.known.length ≤ 50 ∧ ∀ c' H', Kin c c' H → BtAt Cn Cc H' q c' (learnM M x) xs → But3 q c H H' → Q .non H'
theorem scLn : FnScope ["self", "worth", "cell"] ["self", "worth"] (defScope mRun_learn) := ⟨rfl, rfl, rfl, by decide +kernel, rfl, by decide +kernel, by decide +kernel⟩
theorem ok_learn {f : Addr} {fd : FuncData} (F : Fun K "learn" "Run.learn" mRun_learn f fd) (T : RnTxt K mg Cn Cc) (hs : mg "sorted" = none) (D : Def P w K mg base "cell_at" 1 ["worth"] spCellAt) : FnOk P w K mg base CX0 2 f fd ["self", "worth"] (spLearn Cn Cc) := by
  obtain ⟨fC, fdC, gC, kC, bC, GC⟩ := D.ex
  refine F.ok scLn (fun vs H Q E h => ?_) (fun cdv A outer s H vs Q E hr h => ?_)
  · obtain ⟨q, c, M, xs, x, rfl, _⟩ := h
    rfl
  obtain ⟨q, c, M, xs, x, rfl, A0, hx, hk, k⟩ := h
  obtain ⟨dr, er⟩ := A0.r
  refine ⟨_, pss_cons (ps_set (i := 2) scLn.nd rfl (.inl rfl) (pe_call GC hr rfl gC kC bC .nil pass0 (pa_cons (pv 1) pa_nil)))
    (pss_one (ps_if (PW.pt (pw_and (pt_cmpR op_notN (pv 2) pe_non (nomark _)) (pw_and1 (pt_cmpR op_notIn_seq (pv 2) (pe_fld (pv 0) rfl) (by rfl)))))
      (pss_one (ps_fld (pv 0) (pe_callB cr_sortedS (by rfl) hs (by decide +kernel) (pa_cons (pe_lst (StX.pa_star (pe_fld (pv 0) rfl) (pa_cons (pv 2) pa_nil))) pa_nil)) rfl)) pss_nil)), ?_⟩
  refine ⟨_, rfl, x, rfl, hx, ?_⟩
  cases x with
  | un => exact ⟨_, rfl, rfl, _, rfl, iteF (k c H (Kin.refl _ _) A0 (But3.refl _ _ _))⟩
  | i n => exact ⟨_, rfl, rfl, _, rfl, iteF (k c H (Kin.refl _ _) A0 (But3.refl _ _ _))⟩
  | a cc =>
    refine ⟨_, rfl, rfl, _, rfl, iteT ⟨_, rfl, _, rfl, q.r, Cn, dr, _, _, rfl, er, T.cn, T.nk, lkN3 M q c.k, c.k, _, rfl, .inl (SqL.of A0.k), rfl, str_flat _, ?_⟩⟩
    refine ⟨_, rfl, ?_⟩
    rw [if_pos rfl, show cellV (W.a cc) = V.str cc from rfl, inV_str]
    by_cases hc : cc ∈ M.known
    · rw [decide_eq_true hc]
      refine iteF (k c H (Kin.refl _ _) ?_ (But3.refl _ _ _))
      show BtAt Cn Cc H q c (if cc ∈ M.known then M else _) xs
      rw [if_pos hc]
      exact A0
    · rw [decide_eq_false hc]
      refine iteT ⟨_, rfl, q.r, Cn, dr, _, _, rfl, er, T.cn, T.nk, lkN3 M q c.k, c.k, _, rfl, .inr (SqL.of A0.k), _, rfl, ?_, fun l hl => ?_⟩
      · rw [List.length_append, List.length_map, sizeLine_eq]
        show M.known.length + 1 ≤ _
        omega
      have e1 : M.known.map V.str ++ [V.str cc] = (M.known ++ [cc]).map V.str := by rw [List.map_append]; rfl
      rw [e1] at *
      refine ⟨l, M.known ++ [cc], rfl, SqL.of upd_same, ?_, fun ys p hp hso hn => ?_⟩
      · rw [List.length_append]
        show M.known.length + 1 < 64
        omega
      obtain rfl := sortU_of hp hso
      have S1 : Same H (upd H l (.lst ((M.known ++ [cc]).map V.str))) := Same.new (Same.refl H) hl
      have S2 := Same.new (o := .lst ((sortU (M.known ++ [cc])).map V.str)) S1 hn
      have A2 := A0.grow S2
      refine ⟨_, rfl, q.r, Cn, dr, _, rfl, S2 _ _ er, T.cn, T.nk, (by show 5 < 1000; decide), ?_⟩
      have hpl : p ≠ c.l := by
        intro z
        rw [z, S1 _ _ A0.ll] at hn
        cases hn
      have A3 := A2.setK (dx := dr) (k := p) (M' := learnM M (.a cc)) (by
        show _ = some (HO.lst ((if cc ∈ M.known then M else { M with known := sortU (M.known ++ [cc]) } : RunM).known.map V.str))
        rw [if_neg hc]
        exact upd_same) hpl (by unfold learnM; dsimp only; split <;> rfl) (by unfold learnM; dsimp only; split <;> rfl)
      have e2 : (L2.putF "known" (V.ref p) (rnF M q c.k)) = rnF (learnM M (.a cc)) q p := by
        unfold learnM
        dsimp only
        rw [if_neg hc]
        rfl
      rw [e2]
      exact k ⟨c.c, c.l, p⟩ _ ⟨rfl, rfl, .inr (S1.free hn)⟩ A3 ((But3.same S2).trans But3.r)
def spSameW (Cn Cc : Addr) : Sp := fun vs H Q _ => ∃ (q : Rt) (c : Ct) (M : RunM) (xs : List Int) (x y : W) (b : Bool), vs = [.ref q.r, x.v, y.v] ∧ BtAt Cn Cc H q c M xs ∧ x.ok ∧ y.ok ∧ sameM M x y = some b ∧ Q (.bl b) H
theorem scFS : FnScope ["self", "worth", "other"] ["self", "worth", "other"] (defScope mRun_finds_same) := ⟨rfl, rfl, rfl, by decide +kernel, rfl, by decide +kernel, by decide +kernel⟩
theorem W.ty (x : W) (H : Hp) : ∃ t b, TyX K H x.v t ∧ PySem.W.kitOne K t (.type "str") = some b ∧ b = x.cell.isSome := by
  cases x with
  | un => exact ⟨_, _, .base .non, kit_ty (r := false) (by decide +kernel), rfl⟩
  | i n => exact ⟨_, _, .base (.int n), kit_ty (r := false) (by decide +kernel), rfl⟩
  | a c => exact ⟨_, _, .base (.str _), kit_ty (r := true) (by decide +kernel), rfl⟩
theorem W.scal (x y : W) : scal x.v y.v = true := by cases x <;> cases y <;> rfl
theorem ok_findsSame {f : Addr} {fd : FuncData} (F : Fun K "finds_same" "Run.finds_same" mRun_finds_same f fd) (T : RnTxt K mg Cn Cc) (hi : mg "isinstance" = none) (hs : mg "str" = none) (D : Def P w K mg base "cell_at" 1 ["worth"] spCellAt) :
    FnOk P w K mg base CX0 2 f fd ["self", "worth", "other"] (spSameW Cn Cc) := by
  obtain ⟨fC, fdC, gC, kC, bC, GC⟩ := D.ex
  refine F.ok scFS (fun vs H Q E h => ?_) (fun cdv A outer s H vs Q E hr h => ?_)
  · obtain ⟨q, c, M, xs, x, y, b, rfl, _⟩ := h
    rfl
  obtain ⟨q, c, M, xs, x, y, b, rfl, A0, hx, hy, hb, k⟩ := h
  obtain ⟨dr, er⟩ := A0.r
  have hu := hu_of hr
  refine ⟨_, pss_cons (ps_if (PW.pt (pw_and (pt_val (pe_callB call_isi (by rfl) hi (by decide +kernel) (pa_cons (pv 1) (pa_cons (pe_bltn (v := .ty "str") (by rfl) hs (by decide +kernel) rfl) pa_nil))))
      (pw_and1 (pt_val (pe_callB call_isi (by rfl) hi (by decide +kernel) (pa_cons (pv 2) (pa_cons (pe_bltn (v := .ty "str") (by rfl) hs (by decide +kernel) rfl) pa_nil)))))))
      (pss_one (ps_ret (pe_cmpR op_eq (pe_dget hu (pe_fld (pv 0) rfl) (pe_call GC hr rfl gC kC bC .nil pass0 (pa_cons (pv 1) pa_nil)) (fun _ _ => rfl)) (pe_dget hu (pe_fld (pv 0) rfl) (pe_call GC hr rfl gC kC bC .nil pass0 (pa_cons (pv 2) pa_nil)) (fun _ _ => rfl)) (nomark _)))) pss_nil)
    (pss_one (ps_ret (pe_cmpR op_eq (pv 1) (pv 2) (nomark _)))), ?_⟩
  obtain ⟨tx, bx, t1, k1, rfl⟩ := W.ty (K := K) x H
  obtain ⟨ty, by', t2, k2, rfl⟩ := W.ty (K := K) y H
  refine ⟨_, rfl, _, _, _, _, _, rfl, .ty "str", t1, k1, _, rfl, ?_⟩
  have flat : sameM M x y = some (decide (x = y)) → tOp rEq (tVar 1) (tVar 2) (L2.start ["self", "worth", "other"] [.ref q.r, x.v, y.v]) H Q := fun e => by
    rw [e] at hb
    obtain rfl := Option.some.inj hb
    refine ⟨_, rfl, _, rfl, W.scal x y, ?_⟩
    have : decide (x.v = y.v) = decide (x = y) := decide_eq_decide.mpr W.v_eq
    rw [this]
    exact k
  cases cx : x.cell with
  | none =>
    refine iteF (flat ?_)
    unfold sameM
    simp only [cx]
  | some a =>
    refine iteT ⟨_, rfl, _, _, _, _, _, rfl, .ty "str", t2, k2, _, rfl, ?_⟩
    cases cy : y.cell with
    | none =>
      refine iteF (flat ?_)
      unfold sameM
      simp only [cx, cy]
    | some a2 =>
      have hx' : x = .a a := by cases x <;> cases cx; rfl
      have hy' : y = .a a2 := by cases y <;> cases cy; rfl
      subst hx' hy'
      unfold sameM at hb
      obtain ⟨i, h1, hb⟩ := Option.bind_eq_some_iff.mp hb
      obtain ⟨j, h2, rfl⟩ := Option.map_eq_some_iff.mp hb
      have g1 := DGet.k (k := Sum.inr a) A0.p
      rw [val_homes, h1] at g1
      have g2 := DGet.k (k := Sum.inr a2) A0.p
      rw [val_homes, h2] at g2
      refine iteT ⟨_, rfl, q.r, Cn, dr, _, _, rfl, er, T.cn, T.np, lkN4 M q c.k, _, rfl, .a a, rfl, hx, q.p, _, rfl, g1, _, rfl, q.r, Cn, dr, _, _, rfl, er, T.cn, T.np, lkN4 M q c.k, _, rfl, .a a2, rfl, hy, q.p, _, rfl, g2, rfl, ?_⟩
      have e : decide (V.int ((i : Nat) : Int) = V.int ((j : Nat) : Int)) = decide (i = j) := decide_eq_decide.mpr ⟨fun z => by have := V.int.inj z; omega, fun z => by rw [z]⟩
      show Q (.bl (decide (V.int ((i : Nat) : Int) = V.int ((j : Nat) : Int)))) H
      rw [e]
      exact k
end
end FP
set_option Elab.async false
set_option linter.all false
set_option maxRecDepth 100000
set_option maxHeartbeats 4000000
/-! d.get(y) where y may be None, d a dict of ints and texts. -/
namespace FP
open PySem PySem.Spec PyProof.Rows L2
theorem leaf_none (i : Key) (v : Value) (h : keyIs i v = true) : Leaf.isOf .none v = false := by
  rcases keyIs_shape h with ⟨j, t, rfl, rfl⟩ | ⟨x, t, rfl, rfl⟩ <;> rfl
theorem leaf_map {P : Program} {w : World} {h : Heap} {a : Addr} {f : Key → Option Value} (m : h.MapOf (mixKind P w) a f) : ∃ g, h.MapOf (leafKind P w) a g ∧ g .none = none := by
  obtain ⟨o, es, ep, h1, h2, h3, h4, _⟩ := m
  refine ⟨fun k => findBy (leafKind P w).is es k, ⟨o, es, ep, h1, h2, h3, fun e he => ?_, fun k => rfl⟩, ?_⟩
  · obtain ⟨k, k1, k2⟩ := h4 e he
    rcases keyIs_shape (show keyIs k e.key = true from k1) with ⟨j, t, rfl, e1⟩ | ⟨x, t, rfl, e1⟩
    · exact ⟨.num j, by rw [e1]; show decide _ = true; exact decide_eq_true rfl, k2⟩
    · exact ⟨.text x, by rw [e1]; exact keyIs_str x t, k2⟩
  · unfold findBy
    rw [Option.map_eq_none_iff, Array.find?_eq_none]
    intro e he z
    obtain ⟨k, k1, _⟩ := h4 e he
    have z' : Leaf.isOf .none e.key = true := z
    rw [leaf_none k e.key k1] at z'
    cases z'
section
variable {X : Cx} {pins : List (Addr × Obj)} {σ : L2.St} {H : Hp} {s : Shared} {a : Addr} {A : Around} {E : Value → Shared → Prop}
theorem d_getN {Q : Value → Shared → Prop} {kvs : List (Key × V)} (I : Inv X pins σ H s) (e : H a = some (.dK kvs)) (h : ∀ s', Inv X pins σ H s' → Q .none s') : wpAny (model X.prog X.w) A (call (.builtin "dict.get") [.ref a, .none]) Q E s := by
  obtain ⟨_, low, vs, _, dd⟩ := dk_rd I.hok (.inl e)
  obtain ⟨g, hg, hn⟩ := leaf_map dd.mapOf
  refine call_meetsIn PySem.F.slot_dict_get dd.typeIs PySem.F.entry_dict_get (PySem.F.args_dict_get_2 _ _)
    (meets_dict_get (leafKind X.prog X.w) a (k := Leaf.none) rfl low) ⟨g, hg, ?_⟩
  rw [hn]
  exact h _ (I.tok _)
end
def tGetN (td ty : TE) : TE := fun σ H Q => td σ H fun x H1 => ∃ a, x = .ref a ∧ IsD H1 a ∧ ty σ H1 fun y H2 => (∃ o, DGet H2 a y o ∧ Q (o.getD .non) H2) ∨ (y = .non ∧ (∃ kvs, H2 a = some (.dK kvs)) ∧ Q .non H2)
theorem pe_getN {X : Cx} {o e : Expr} {apos cpos : Pos} {td ty : TE} (room : X.A.units + 1 < cLine) (po : PE X o td) (pe : PE X e ty) (m : M1 X o "get" apos e cpos) : PE X (.Call (.Attribute o "get" apos) [e] [] cpos) (tGetN td ty) := by
  constructor
  intro pins s σ H Q I h
  refine wpAny_Call_method m.base m.few m.line PySem.F.plainAttrs_dict PySem.F.slot_dict_get PySem.F.type_dict_get
    (thn (po.run pins s σ H _ I h) ?_)
  rintro u s1 ⟨x, H1, I1, rx, a, ex, d, q1⟩
  cases ex
  obtain rfl : u = Value.ref a := rx
  obtain ⟨t1, t2, _⟩ := isD_at I1 d
  refine ⟨t1, t2, ?_⟩
  rw [m.trees]
  refine Calls.callWith_builtin rfl (Calls.evalArgs_plain
    (Calls.spliced_cons (thn (pe.run pins s1 σ H1 _ I1 q1) ?_)))
  rintro iv s2 ⟨y, H2, I2, ry, q2⟩
  refine Calls.spliced_nil ?_
  rcases q2 with ⟨ov, g, q2⟩ | ⟨rfl, ⟨kvs, e⟩, q2⟩
  · exact d_get1 room I2 g ry fun w' s3 I3 rw' => ⟨_, H2, I3, rw', q2⟩
  · obtain rfl : iv = Value.none := ry
    exact d_getN I2 e fun s3 I3 => ⟨.non, H2, I3, rfl, q2⟩
end FP
set_option Elab.async false
set_option linter.all false
set_option maxRecDepth 100000
set_option maxHeartbeats 4000000
/-! Programs as trees; how the reader reads them. -/
namespace FP
open PySem
inductive Deed where
  | input (a : Str)
  | copy (a b : Str)
  | point (a b : Str)
  | load (a p : Str)
  | store (a p : Str)
  | use (a : Str)
  | call (p : Str)
deriving DecidableEq
def Deed.word : Deed → Str
  | .input _ => "input"
  | .copy _ _ => "copy"
  | .point _ _ => "point"
  | .load _ _ => "load"
  | .store _ _ => "store"
  | .use _ => "use"
  | .call _ => "call"
def Deed.names : Deed → List Str
  | .input a => [a]
  | .copy a b => [a, b]
  | .point a b => [a, b]
  | .load a p => [a, p]
  | .store a p => [a, p]
  | .use a => [a]
  | .call p => [p]
def Deed.words : Deed → List Str
  | .input a => ["input", a]
  | .copy a b => ["copy", a, "to", b]
  | .point a b => ["point", a, "to", b]
  | .load a p => ["load", a, "from", p]
  | .store a p => ["store", a, "to", p]
  | .use a => ["use", a]
  | .call p => ["call", p]
inductive Op where
  | block
  | loop
  | maybe
  | same (a b : Str)
deriving DecidableEq
def Op.word : Op → Str
  | .block => "block"
  | .loop => "loop"
  | .maybe => "maybe"
  | .same _ _ => "same"
def Op.names : Op → List Str
  | .same a b => [a, b]
  | _ => []
def Op.two : Op → Bool
  | .maybe => true
  | .same _ _ => true
  | _ => false
/-- the orders of a block, one behind the other -/
inductive T where
  | nil
  | deed (d : Deed) (r : T)
  | one (o : Op) (cs : List Str) (b r : T)
  | two (o : Op) (cs : List Str) (b : T) (cs' : List Str) (b' r : T)
deriving DecidableEq
/-- the line of a block's cells -/
def loc (cs : List Str) : List (List Str) := if cs = [] then [] else ["local" :: cs]
def wEnd : List Str := ["end"]
def wElse : List Str := ["else"]
def linesT : T → List (List Str)
  | .nil => []
  | .deed d r => d.words :: linesT r
  | .one o cs b r => (o.word :: o.names) :: (loc cs ++ linesT b ++ wEnd :: linesT r)
  | .two o cs b cs' b' r => (o.word :: o.names) :: (loc cs ++ linesT b ++ wElse :: (loc cs' ++ linesT b' ++ wEnd :: linesT r))
def locN (cs : List Str) : Nat := if cs = [] then 0 else 1
theorem loc_len (cs : List Str) : (loc cs).length = locN cs := by unfold loc locN; split <;> rfl
def sizeT : T → Nat
  | .nil => 0
  | .deed _ r => 1 + sizeT r
  | .one _ cs b r => 1 + (locN cs + sizeT b) + 1 + sizeT r
  | .two _ cs b cs' b' r => 1 + (locN cs + sizeT b) + 1 + (locN cs' + sizeT b') + 1 + sizeT r
theorem lines_len : ∀ t : T, (linesT t).length = sizeT t
  | .nil => rfl
  | .deed _ r => by rw [linesT, List.length_cons, lines_len r, sizeT]; omega
  | .one _ cs b r => by rw [linesT, List.length_cons, List.length_append, List.length_append, List.length_cons, loc_len, lines_len b, lines_len r, sizeT]; omega
  | .two _ cs b cs' b' r => by
    rw [linesT, List.length_cons, List.length_append, List.length_append, List.length_cons, List.length_append, List.length_append, List.length_cons, loc_len, loc_len, lines_len b, lines_len b', lines_len r, sizeT]
    omega
/-! ### the rows, as they are read -/
def locRows (n : Nat) (cs : List Str) : List RowM := if cs = [] then [] else [⟨"local", cs, n + 1, 0⟩]
theorem locRows_len (n : Nat) (cs : List Str) : (locRows n cs).length = locN cs := by unfold locRows locN; split <;> rfl
def rowsT : Nat → T → List RowM
  | _, .nil => []
  | n, .deed d r => ⟨d.word, d.names, n + 1, 0⟩ :: rowsT (n + 1) r
  | n, .one o cs b r =>
    ⟨o.word, o.names, n + 1, n + 1 + (locN cs + sizeT b) + 1⟩ :: (locRows (n + 1) cs ++ rowsT (n + 1 + locN cs) b ++
      ⟨"end", [], if o = .loop then n else n + 1 + (locN cs + sizeT b) + 1, 0⟩ :: rowsT (n + 1 + (locN cs + sizeT b) + 1) r)
  | n, .two o cs b cs' b' r =>
    ⟨o.word, o.names, n + 1, n + 1 + (locN cs + sizeT b) + 1⟩ :: (locRows (n + 1) cs ++ rowsT (n + 1 + locN cs) b ++
      ⟨"else", [], n + 1 + (locN cs + sizeT b) + 1 + (locN cs' + sizeT b'), 0⟩ :: (locRows (n + 1 + (locN cs + sizeT b) + 1) cs' ++ rowsT (n + 1 + (locN cs + sizeT b) + 1 + locN cs') b' ++
        ⟨"end", [], n + 1 + (locN cs + sizeT b) + 1 + (locN cs' + sizeT b') + 1, 0⟩ :: rowsT (n + 1 + (locN cs + sizeT b) + 1 + (locN cs' + sizeT b') + 1) r))
theorem rows_len : ∀ (t : T) (n : Nat), (rowsT n t).length = sizeT t
  | .nil, _ => rfl
  | .deed _ r, n => by rw [rowsT, List.length_cons, rows_len r, sizeT]; omega
  | .one _ cs b r, n => by rw [rowsT, List.length_cons, List.length_append, List.length_append, List.length_cons, locRows_len, rows_len b, rows_len r, sizeT]; omega
  | .two _ cs b cs' b' r, n => by
    rw [rowsT, List.length_cons, List.length_append, List.length_append, List.length_cons, List.length_append, List.length_append, List.length_cons, locRows_len, locRows_len, rows_len b, rows_len b', rows_len r, sizeT]
    omega
/-- the cells of the blocks, each with the line that opens its block -/
def homesT : Nat → T → List (Str × Nat)
  | _, .nil => []
  | n, .deed _ r => homesT (n + 1) r
  | n, .one _ cs b r => cs.map (·, n) ++ homesT (n + 1 + locN cs) b ++ homesT (n + 1 + (locN cs + sizeT b) + 1) r
  | n, .two _ cs b cs' b' r => cs.map (·, n) ++ homesT (n + 1 + locN cs) b ++ (cs'.map (·, n + 1 + (locN cs + sizeT b)) ++ homesT (n + 1 + (locN cs + sizeT b) + 1 + locN cs') b' ++ homesT (n + 1 + (locN cs + sizeT b) + 1 + (locN cs' + sizeT b') + 1) r)
/-- the blocks around, h the line that opens the block -/
def aroundT : Nat → Nat → T → List (Nat × Nat)
  | _, _, .nil => []
  | n, h, .deed _ r => aroundT (n + 1) h r
  | n, h, .one _ cs b r => (n, h) :: (aroundT (n + 1 + locN cs) n b ++ aroundT (n + 1 + (locN cs + sizeT b) + 1) h r)
  | n, h, .two _ cs b cs' b' r => (n, h) :: (aroundT (n + 1 + locN cs) n b ++ (n + 1 + (locN cs + sizeT b), h) :: (aroundT (n + 1 + (locN cs + sizeT b) + 1 + locN cs') (n + 1 + (locN cs + sizeT b)) b' ++ aroundT (n + 1 + (locN cs + sizeT b) + 1 + (locN cs' + sizeT b') + 1) h r))
/-- the cells declared in inner blocks -/
def declT : T → List Str
  | .nil => []
  | .deed _ r => declT r
  | .one _ cs b r => cs ++ declT b ++ declT r
  | .two _ cs b cs' b' r => cs ++ declT b ++ (cs' ++ declT b' ++ declT r)
theorem homes_names : ∀ (t : T) (n : Nat), (homesT n t).map (·.1) = declT t
  | .nil, _ => rfl
  | .deed _ r, n => homes_names r _
  | .one _ cs b r, n => by
    rw [homesT, declT, List.map_append, List.map_append, homes_names b, homes_names r, List.map_map]
    congr 2
    exact (List.map_congr_left fun _ _ => rfl).trans (List.map_id cs)
  | .two _ cs b cs' b' r, n => by
    rw [homesT, declT, List.map_append, List.map_append, List.map_append, List.map_append, homes_names b, homes_names b', homes_names r, List.map_map, List.map_map]
    congr 2
    · exact (List.map_congr_left fun _ _ => rfl).trans (List.map_id cs)
    · congr 1
      exact (List.map_congr_left fun _ _ => rfl).trans (List.map_id cs')
/-- every named cell can be named; d blocks more may be opened -/
def wfT (seen : List Str) : Nat → T → Prop
  | _, .nil => True
  | d, .deed k r => (∀ x ∈ k.names, x ∈ seen) ∧ wfT seen d r
  | 0, .one .. => False
  | 0, .two .. => False
  | d + 1, .one o cs b r => (∀ x ∈ o.names, x ∈ seen) ∧ wfT (seen ++ cs) d b ∧ wfT seen (d + 1) r
  | d + 1, .two o cs b cs' b' r => o.two = true ∧ (∀ x ∈ o.names, x ∈ seen) ∧ wfT (seen ++ cs) d b ∧ wfT (seen ++ cs') d b' ∧ wfT seen (d + 1) r
end FP
set_option Elab.async false
set_option linter.all false
set_option maxRecDepth 100000
set_option maxHeartbeats 4000000
namespace FP
open PySem
theorem readLines_app : ∀ (xs ys : List (List Str)) (M : ShM), readLines M (xs ++ ys) = (readLines M xs).bind fun M1 => readLines M1 ys
  | [], _, _ => rfl
  | x :: xs, ys, M => by
    show (takeM M x).bind (fun M1 => readLines M1 (xs ++ ys)) = ((takeM M x).bind fun M1 => readLines M1 xs).bind _
    cases takeM M x with
    | none => rfl
    | some M1 => exact readLines_app xs ys M1
theorem readLines_cons (x : List Str) (ys : List (List Str)) (M : ShM) : readLines M (x :: ys) = (takeM M x).bind fun M1 => readLines M1 ys := rfl
/-! ### what is named -/
theorem homeOf_app {l m : List (Str × Nat)} {x : Str} {n : Nat} (h : homeOf l x = some n) : homeOf (l ++ m) x = some n := by
  unfold homeOf at h ⊢
  rw [List.find?_append]
  cases e : l.find? (fun p => decide (p.1 = x)) with
  | none => rw [e] at h; cases h
  | some p => rw [e] at h; exact h
theorem homeOf_app_none {l m : List (Str × Nat)} {x : Str} (h : homeOf l x = none) : homeOf (l ++ m) x = homeOf m x := by
  unfold homeOf at h ⊢
  rw [List.find?_append]
  rw [Option.map_eq_none_iff] at h
  rw [h]
  rfl
theorem homeOf_none {l : List (Str × Nat)} {x : Str} : homeOf l x = none ↔ x ∉ l.map (·.1) := by
  unfold homeOf
  rw [Option.map_eq_none_iff, List.find?_eq_none]
  constructor
  · intro h z
    obtain ⟨p, hp, rfl⟩ := List.mem_map.mp z
    exact h p hp (decide_eq_true rfl)
  · intro h p hp z
    exact h (List.mem_map.mpr ⟨p, hp, of_decide_eq_true z⟩)
theorem homeOf_map {cs : List Str} {n : Nat} {x : Str} (h : x ∈ cs) : homeOf (cs.map (·, n)) x = some n := by
  induction cs with
  | nil => cases h
  | cons c r ih =>
    unfold homeOf
    rw [List.map_cons, List.find?_cons]
    by_cases e : c = x
    · rw [decide_eq_true e]; rfl
    · rw [decide_eq_false e]
      exact ih ((List.mem_cons.mp h).resolve_left fun z => e z.symm)
theorem seen_iff {M : ShM} {x : Str} : seenM M x = true ↔ ∃ h, homeOf M.homes x = some h ∧ h ∈ M.nest := by
  unfold seenM
  cases e : homeOf M.homes x with
  | none => simp
  | some h => simp
/-! ### single lines -/
section
variable {M : ShM}
def addRow (M : ShM) (r : RowM) : ShM := ⟨M.rows ++ [r], M.homes, M.around, M.nest⟩
theorem seen_addRow (M : ShM) (r : RowM) : seenM (addRow M r) = seenM M := rfl
theorem take_deed (d : Deed) (h : ∀ x ∈ d.names, seenM M x = true) : takeM M d.words = some (addRow M ⟨d.word, d.names, M.rows.length + 1, 0⟩) := by
  have key : ∀ (w : Str) (ws form ns : List Str), w ≠ "local" → formsL.lookup w = some form → fitsM ws form = true → ((ws.zip form).filter fun p => p.2 == ("" : Str)).map (·.1) = ns → (∀ x ∈ ns, seenM M x = true) →
      openL.contains w = false → w ≠ "else" → w ≠ "end" → takeM M (w :: ws) = some (addRow M ⟨w, ns, M.rows.length + 1, 0⟩) := by
    intro w ws form ns h1 h2 h3 h4 h5 h6 h7 h8
    show (if w = "local" then declareM M ws else match formsL.lookup w with
      | some form => if fitsM ws form = true then takeRowM M w ws form else none
      | none => none) = _
    rw [if_neg h1, h2]
    show (if fitsM ws form = true then takeRowM M w ws form else none) = _
    rw [if_pos h3]
    unfold takeRowM
    dsimp only
    rw [h4, if_pos (List.all_eq_true.mpr h5), if_neg (by rw [h6]; exact Bool.false_ne_true), if_neg h7, if_neg h8]
    rfl
  have two : ∀ (a b t : Str), fitsM [a, t, b] ["", t, ""] = true := by
    intro a b t
    unfold fitsM
    simp
  have one : ∀ (a : Str), fitsM [a] [""] = true := by
    intro a
    unfold fitsM
    simp
  cases d with
  | input a => exact key "input" [a] [""] [a] (by decide) (by decide) (one a) rfl h (by decide) (by decide) (by decide)
  | copy a b => exact key "copy" [a, "to", b] ["", "to", ""] [a, b] (by decide) (by decide) (two a b _) rfl h (by decide) (by decide) (by decide)
  | point a b => exact key "point" [a, "to", b] ["", "to", ""] [a, b] (by decide) (by decide) (two a b _) rfl h (by decide) (by decide) (by decide)
  | load a p => exact key "load" [a, "from", p] ["", "from", ""] [a, p] (by decide) (by decide) (two a p _) rfl h (by decide) (by decide) (by decide)
  | store a p => exact key "store" [a, "to", p] ["", "to", ""] [a, p] (by decide) (by decide) (two a p _) rfl h (by decide) (by decide) (by decide)
  | use a => exact key "use" [a] [""] [a] (by decide) (by decide) (one a) rfl h (by decide) (by decide) (by decide)
  | call p => exact key "call" [p] [""] [p] (by decide) (by decide) (one p) rfl h (by decide) (by decide) (by decide)
theorem getN_fresh {l : List (Nat × Nat)} {k : Nat} (h : ∀ p ∈ l, p.1 < k) : (l.any fun p => decide (p.1 = k)) = false := by
  rw [List.any_eq_false]
  intro p hp z
  have := h p hp
  rw [of_decide_eq_true z] at this
  exact Nat.lt_irrefl _ this
theorem putN_fresh {l : List (Nat × Nat)} {k v : Nat} (h : ∀ p ∈ l, p.1 < k) : putN l k v = l ++ [(k, v)] := by
  unfold putN
  rw [getN_fresh h, if_neg Bool.false_ne_true]
theorem take_open (o : Op) {l : Nat} (h : ∀ x ∈ o.names, seenM M x = true) (hn : M.nest.getLast? = some l) (hl : M.nest.length ≤ 5) (ha : ∀ p ∈ M.around, p.1 < M.rows.length) :
    takeM M (o.word :: o.names) = some ⟨M.rows ++ [⟨o.word, o.names, M.rows.length + 1, 0⟩], M.homes, M.around ++ [(M.rows.length, l)], M.nest ++ [M.rows.length]⟩ := by
  have key : ∀ (w : Str) (ws form ns : List Str), w ≠ "local" → formsL.lookup w = some form → fitsM ws form = true → ((ws.zip form).filter fun p => p.2 == ("" : Str)).map (·.1) = ns → (∀ x ∈ ns, seenM M x = true) →
      openL.contains w = true → takeM M (w :: ws) = some ⟨M.rows ++ [⟨w, ns, M.rows.length + 1, 0⟩], M.homes, M.around ++ [(M.rows.length, l)], M.nest ++ [M.rows.length]⟩ := by
    intro w ws form ns h1 h2 h3 h4 h5 h6
    show (if w = "local" then declareM M ws else match formsL.lookup w with
      | some form => if fitsM ws form = true then takeRowM M w ws form else none
      | none => none) = _
    rw [if_neg h1, h2]
    show (if fitsM ws form = true then takeRowM M w ws form else none) = _
    rw [if_pos h3]
    unfold takeRowM
    dsimp only
    rw [h4, if_pos (List.all_eq_true.mpr h5), if_pos h6]
    unfold openM
    rw [show (⟨M.rows ++ [⟨w, ns, M.rows.length + 1, 0⟩], M.homes, M.around, M.nest⟩ : ShM).nest = M.nest from rfl, hn]
    show (if M.nest.length ≤ 5 then _ else none) = _
    rw [if_pos hl]
    show some (⟨_, _, putN M.around _ _, _⟩ : ShM) = _
    rw [putN_fresh ha]
  cases o with
  | block => exact key "block" [] [] [] (by decide) (by decide) rfl rfl h (by decide)
  | loop => exact key "loop" [] [] [] (by decide) (by decide) rfl rfl h (by decide)
  | maybe => exact key "maybe" [] [] [] (by decide) (by decide) rfl rfl h (by decide)
  | same a b => exact key "same" [a, b] ["", ""] [a, b] (by decide) (by decide) (by unfold fitsM; simp) rfl h (by decide)
theorem addNames_ok (n : Nat) : ∀ (cs : List Str) (homes : List (Str × Nat)), (∀ x ∈ cs, isName x = true) → cs.Nodup → (∀ x ∈ cs, homeOf homes x = none) → homes.length + cs.length ≤ 5 → addNames n homes cs = some (homes ++ cs.map (·, n))
  | [], homes, _, _, _, _ => by rw [List.map_nil, List.append_nil]; rfl
  | c :: r, homes, h1, h2, h3, h4 => by
    obtain ⟨hc, hr⟩ := List.nodup_cons.mp h2
    rw [List.length_cons] at h4
    have e : addName n homes c = some (homes ++ [(c, n)]) := by
      unfold addName
      rw [if_pos ⟨h1 c List.mem_cons_self, h3 c List.mem_cons_self, by omega⟩]
    show (addName n homes c).bind (fun h => addNames n h r) = _
    rw [e]
    show addNames n (homes ++ [(c, n)]) r = _
    rw [addNames_ok n r _ (fun x hx => h1 x (List.mem_cons_of_mem _ hx)) hr (fun x hx => ?_) (by rw [List.length_append, List.length_singleton]; omega), List.append_assoc]
    · rfl
    · rw [homeOf_app_none (h3 x (List.mem_cons_of_mem _ hx)), homeOf_none]
      intro z
      rw [List.map_singleton, List.mem_singleton] at z
      have z' : x = c := z
      exact hc (z' ▸ hx)
theorem read_loc {h : Nat} (cs : List Str) (h1 : ∀ x ∈ cs, isName x = true) (h2 : cs.Nodup) (h3 : ∀ x ∈ cs, homeOf M.homes x = none) (h4 : M.homes.length + cs.length ≤ 5) (hr : M.rows.length = h + 1) (hn : M.nest.getLast? = some h) :
    readLines M (loc cs) = some ⟨M.rows ++ locRows (h + 1) cs, M.homes ++ cs.map (·, h), M.around, M.nest⟩ := by
  unfold loc locRows
  by_cases c : cs = []
  · subst c
    simp [readLines]
  · rw [if_neg c, if_neg c, readLines_cons]
    show (takeM M ("local" :: cs)).bind _ = _
    have : takeM M ("local" :: cs) = declareM M cs := by
      unfold takeM
      dsimp only
      rw [if_pos rfl]
    rw [this]
    unfold declareM
    rw [if_pos ⟨c, by rw [hn, hr]; rfl⟩, hr, Nat.add_sub_cancel, addNames_ok h cs _ h1 h2 h3 h4]
    rfl
theorem setRow_mid {pre post : List RowM} {r : RowM} {f : RowM → RowM} : setRow (pre ++ r :: post) pre.length f = pre ++ f r :: post := by
  unfold setRow
  rw [List.getElem?_append_right (Nat.le_refl _), Nat.sub_self]
  show (pre ++ r :: post).set pre.length (f r) = _
  rw [List.set_append_right pre.length (f r) (Nat.le_refl _), Nat.sub_self]
  rfl
/-- a line end that closes the side that n opened -/
theorem take_end {pre mid : List RowM} {r : RowM} {b : List Nat} (hrows : M.rows = pre ++ r :: mid) (hnest : M.nest = b ++ [pre.length]) (h0 : pre.length ≠ 0) :
    takeM M wEnd = some ⟨pre ++ (if r.word = ("else" : Str) then { r with after := M.rows.length } else { r with other := M.rows.length + 1 }) :: mid ++ [⟨"end", [], if r.word = ("loop" : Str) then pre.length else M.rows.length + 1, 0⟩], M.homes, M.around, b⟩ := by
  have hlast : M.nest.getLast? = some pre.length := by rw [hnest, List.getLast?_concat]
  have e1 : takeM M wEnd = closeM ⟨M.rows ++ [⟨"end", [], M.rows.length + 1, 0⟩], M.homes, M.around, M.nest⟩ M.rows.length := by
    show (if ("end" : Str) = "local" then declareM M [] else match formsL.lookup ("end" : Str) with
      | some form => if fitsM [] form = true then takeRowM M "end" [] form else none
      | none => none) = _
    rw [if_neg (by decide), show formsL.lookup ("end" : Str) = some [] by decide]
    show takeRowM M "end" [] [] = _
    unfold takeRowM
    dsimp only
    rw [show ((([] : List Str).zip ([] : List Str)).filter fun p => p.2 == ("" : Str)).map (·.1) = ([] : List Str) from rfl, if_pos (show ([] : List Str).all (seenM M) = true from rfl), if_neg (show ¬ openL.contains ("end" : Str) = true by decide), if_neg (show ¬ ("end" : Str) = "else" by decide), if_pos rfl]
  rw [e1]
  unfold closeM
  rw [show (⟨M.rows ++ [⟨"end", [], M.rows.length + 1, 0⟩], M.homes, M.around, M.nest⟩ : ShM).nest = M.nest from rfl, hlast]
  have hrow : (M.rows ++ [(⟨"end", [], M.rows.length + 1, 0⟩ : RowM)])[pre.length]? = some r := by
    rw [hrows, List.append_assoc, List.getElem?_append_right (Nat.le_refl _), Nat.sub_self]
    rfl
  dsimp only
  rw [hrow]
  dsimp only
  rw [if_pos h0, hnest, List.dropLast_concat]
  have hlen : M.rows.length = pre.length + 1 + mid.length := by rw [hrows, List.length_append, List.length_cons]; omega
  have e2 : setRow (M.rows ++ [(⟨"end", [], M.rows.length + 1, 0⟩ : RowM)]) pre.length (fun r => if r.word = ("else" : Str) then { r with after := M.rows.length } else { r with other := M.rows.length + 1 }) =
      (pre ++ (if r.word = ("else" : Str) then { r with after := M.rows.length } else { r with other := M.rows.length + 1 }) :: mid) ++ [⟨"end", [], M.rows.length + 1, 0⟩] := by
    conv => lhs; rw [hrows, List.append_assoc, List.cons_append]
    rw [setRow_mid]
    rw [← hrows, List.append_assoc, List.cons_append]
  rw [e2]
  by_cases cl : r.word = ("loop" : Str)
  · rw [if_pos cl, if_pos cl]
    have l2 : (pre ++ (if r.word = ("else" : Str) then { r with after := M.rows.length } else { r with other := M.rows.length + 1 }) :: mid).length = M.rows.length := by
      rw [hlen, List.length_append, List.length_cons]; omega
    have := setRow_mid (pre := pre ++ (if r.word = ("else" : Str) then { r with after := M.rows.length } else { r with other := M.rows.length + 1 }) :: mid) (post := []) (r := (⟨"end", [], M.rows.length + 1, 0⟩ : RowM)) (f := fun r => { r with after := pre.length })
    rw [l2] at this
    rw [this]
  · rw [if_neg cl, if_neg cl]
/-- a line else -/
theorem take_else {pre mid : List RowM} {r : RowM} {b : List Nat} {a : Nat} (hrows : M.rows = pre ++ r :: mid) (hnest : M.nest = b ++ [pre.length]) (hw : twoL.contains r.word = true) (hg : getN M.around pre.length = some a) (ha : ∀ p ∈ M.around, p.1 < M.rows.length) :
    takeM M wElse = some ⟨pre ++ { r with other := M.rows.length + 1 } :: mid ++ [⟨"else", [], M.rows.length + 1, 0⟩], M.homes, M.around ++ [(M.rows.length, a)], b ++ [M.rows.length]⟩ := by
  have hlast : M.nest.getLast? = some pre.length := by rw [hnest, List.getLast?_concat]
  have e1 : takeM M wElse = turnM ⟨M.rows ++ [⟨"else", [], M.rows.length + 1, 0⟩], M.homes, M.around, M.nest⟩ M.rows.length := by
    show (if ("else" : Str) = "local" then declareM M [] else match formsL.lookup ("else" : Str) with
      | some form => if fitsM [] form = true then takeRowM M "else" [] form else none
      | none => none) = _
    rw [if_neg (by decide), show formsL.lookup ("else" : Str) = some [] by decide]
    show takeRowM M "else" [] [] = _
    unfold takeRowM
    dsimp only
    rw [show ((([] : List Str).zip ([] : List Str)).filter fun p => p.2 == ("" : Str)).map (·.1) = ([] : List Str) from rfl, if_pos (show ([] : List Str).all (seenM M) = true from rfl), if_neg (show ¬ openL.contains ("else" : Str) = true by decide), if_pos rfl]
  rw [e1]
  unfold turnM
  rw [show (⟨M.rows ++ [⟨"else", [], M.rows.length + 1, 0⟩], M.homes, M.around, M.nest⟩ : ShM).nest = M.nest from rfl, hlast]
  have hrow : (M.rows ++ [(⟨"else", [], M.rows.length + 1, 0⟩ : RowM)])[pre.length]? = some r := by
    rw [hrows, List.append_assoc, List.getElem?_append_right (Nat.le_refl _), Nat.sub_self]
    rfl
  dsimp only
  rw [hrow, hg]
  dsimp only
  rw [if_pos hw, hnest, List.dropLast_concat, putN_fresh ha]
  have e2 : setRow (M.rows ++ [(⟨"else", [], M.rows.length + 1, 0⟩ : RowM)]) pre.length (fun r => { r with other := M.rows.length + 1 }) = (pre ++ { r with other := M.rows.length + 1 } :: mid) ++ [⟨"else", [], M.rows.length + 1, 0⟩] := by
    conv => lhs; rw [hrows, List.append_assoc, List.cons_append]
    rw [setRow_mid]
    rw [← hrows, List.append_assoc, List.cons_append]
  rw [e2]
end
end FP
set_option Elab.async false
set_option linter.all false
set_option maxRecDepth 100000
set_option maxHeartbeats 4000000
namespace FP
open PySem
theorem around_lt : ∀ (t : T) (n h : Nat), ∀ p ∈ aroundT n h t, p.1 < n + sizeT t
  | .nil, n, h, p, hp => by cases hp
  | .deed _ r, n, h, p, hp => by
    have := around_lt r (n + 1) h p hp
    rw [sizeT]; omega
  | .one _ cs b r, n, h, p, hp => by
    rw [aroundT] at hp
    rw [sizeT]
    rcases List.mem_cons.mp hp with z | z
    · rw [z]
      show n < _
      omega
    rcases List.mem_append.mp z with z | z
    · have := around_lt b _ _ p z
      omega
    · have := around_lt r _ _ p z
      omega
  | .two _ cs b cs' b' r, n, h, p, hp => by
    rw [aroundT] at hp
    rw [sizeT]
    rcases List.mem_cons.mp hp with z | z
    · rw [z]
      show n < _
      omega
    rcases List.mem_append.mp z with z | z
    · have := around_lt b _ _ p z
      omega
    rcases List.mem_cons.mp z with z | z
    · rw [z]
      show n + 1 + _ < _
      omega
    rcases List.mem_append.mp z with z | z
    · have := around_lt b' _ _ p z
      omega
    · have := around_lt r _ _ p z
      omega
theorem getN_app {l m : List (Nat × Nat)} {k v : Nat} (h : ∀ p ∈ l, p.1 < k) : getN (l ++ (k, v) :: m) k = some v := by
  unfold getN
  rw [List.find?_append]
  have : l.find? (fun p => decide (p.1 = k)) = none := by
    rw [List.find?_eq_none]
    intro p hp z
    have := h p hp
    rw [of_decide_eq_true z] at this
    exact Nat.lt_irrefl _ this
  rw [this, List.find?_cons, decide_eq_true rfl]
  rfl
/-- what the reader asks ahead of a body -/
structure RdOk (M : ShM) (seen : List Str) (d h : Nat) (dec : List Str) : Prop where
  seen : ∀ x ∈ seen, seenM M x = true
  last : M.nest.getLast? = some h
  deep : M.nest.length + d = 6
  ar : ∀ p ∈ M.around, p.1 < M.rows.length
  pos : M.rows.length ≠ 0
  nm : ∀ x ∈ dec, isName x = true
  nd : dec.Nodup
  fr : ∀ x ∈ dec, homeOf M.homes x = none
  h5 : M.homes.length + dec.length ≤ 5
theorem op_notelse (o : Op) : o.word ≠ ("else" : Str) := match o with
  | .block => (by decide : ("block" : Str) ≠ "else")
  | .loop => (by decide : ("loop" : Str) ≠ "else")
  | .maybe => (by decide : ("maybe" : Str) ≠ "else")
  | .same _ _ => (by decide : ("same" : Str) ≠ "else")
theorem op_two (o : Op) (h : o.two = true) : twoL.contains o.word = true := match o, h with
  | .maybe, _ => (by decide : twoL.contains ("maybe" : Str) = true)
  | .same _ _, _ => (by decide : twoL.contains ("same" : Str) = true)
theorem op_loop (o : Op) : (o.word = ("loop" : Str)) ↔ o = .loop := by
  cases o with
  | block => exact ⟨fun z => absurd z (by decide), fun z => by cases z⟩
  | loop => exact ⟨fun _ => rfl, fun _ => rfl⟩
  | maybe => exact ⟨fun z => absurd z (by decide), fun z => by cases z⟩
  | same a b => exact ⟨fun z => absurd z (by show ¬ (("same" : Str) = "loop"); decide), fun z => by cases z⟩
/-- behind the opening of a side and its cells -/
theorem RdOk.inner {M : ShM} {seen dec : List Str} {d h : Nat} {rows : List RowM} {around : List (Nat × Nat)} {homes : List (Str × Nat)} {nest : List Nat} {k : Nat} (cs : List Str) {db : List Str} (hs : ∀ x ∈ seen, ∃ y, homeOf homes x = some y ∧ y ∈ nest)
    (hd : nest.length + (d + 1) = 6) (har : ∀ p ∈ around, p.1 < rows.length) (hp : rows.length ≠ 0) (hnm : ∀ x ∈ cs ++ db, isName x = true) (hnd : (cs ++ db).Nodup) (hfr : ∀ x ∈ cs ++ db, homeOf homes x = none) (h5 : homes.length + (cs ++ db).length ≤ 5) :
    RdOk ⟨rows, homes ++ cs.map (·, k), around, nest ++ [k]⟩ (seen ++ cs) d k db := by
  have hnd' := List.nodup_append.mp hnd
  refine ⟨fun x hx => seen_iff.mpr ?_, List.getLast?_concat, ?_, har, hp, fun x hx => hnm x (List.mem_append_right _ hx), hnd'.2.1, fun x hx => ?_, ?_⟩
  · rcases List.mem_append.mp hx with z | z
    · obtain ⟨y, h1, h2⟩ := hs x z
      exact ⟨y, homeOf_app h1, List.mem_append_left _ h2⟩
    · exact ⟨k, by show homeOf (homes ++ _) x = _; rw [homeOf_app_none (hfr x (List.mem_append_left _ z)), homeOf_map z], List.mem_append_right _ (List.mem_singleton.mpr rfl)⟩
  · show (nest ++ [k]).length + d = 6
    rw [List.length_append, List.length_singleton]; omega
  · show homeOf (homes ++ cs.map (·, k)) x = none
    rw [homeOf_app_none (hfr x (List.mem_append_right _ hx)), homeOf_none]
    intro z
    obtain ⟨p, hp, e⟩ := List.mem_map.mp z
    obtain ⟨c, hc, rfl⟩ := List.mem_map.mp hp
    have e' : c = x := e
    exact hnd'.2.2 c hc x hx e'
  · show (homes ++ cs.map (·, k)).length + db.length ≤ 5
    rw [List.length_append] at h5 ⊢
    rw [List.length_map]; omega
theorem bindS {α β : Type} {o : Option α} {f : α → Option β} {a : α} (h : o = some a) : o.bind f = f a := by rw [h]; rfl
theorem read_T : ∀ (t : T) (M : ShM) (seen : List Str) (d h : Nat), wfT seen d t → RdOk M seen d h (declT t) →
    readLines M (linesT t) = some ⟨M.rows ++ rowsT M.rows.length t, M.homes ++ homesT M.rows.length t, M.around ++ aroundT M.rows.length h t, M.nest⟩
  | .nil, M, seen, d, h, _, _ => by simp [linesT, rowsT, homesT, aroundT, readLines]
  | .deed k r, M, seen, d, h, wf, R => by
    have wf' : (∀ x ∈ k.names, x ∈ seen) ∧ wfT seen d r := by cases d <;> exact wf
    rw [linesT, readLines_cons, bindS (take_deed k fun x hx => R.seen x (wf'.1 x hx))]
    have hl : (addRow M ⟨k.word, k.names, M.rows.length + 1, 0⟩).rows.length = M.rows.length + 1 := by
      show (M.rows ++ [_]).length = _
      rw [List.length_append, List.length_singleton]
    have R1 : RdOk (addRow M ⟨k.word, k.names, M.rows.length + 1, 0⟩) seen d h (declT r) :=
      ⟨R.seen, R.last, R.deep, fun p hp => by rw [hl]; exact Nat.lt_succ_of_lt (R.ar p hp), by rw [hl]; omega, R.nm, R.nd, R.fr, R.h5⟩
    rw [read_T r _ seen d h wf'.2 R1, hl]
    show some (⟨(M.rows ++ [_]) ++ _, _, _, _⟩ : ShM) = _
    rw [List.append_assoc]
    rfl
  | .one o cs b r, M, seen, 0, h, wf, R => wf.elim
  | .one o cs b r, M, seen, d + 1, h, wf, R => by
    obtain ⟨w1, w2, w3⟩ := wf
    have hcb : ∀ x ∈ cs ++ declT b, x ∈ declT (.one o cs b r) := fun x hx => List.mem_append_left _ hx
    have nd0 := List.nodup_append.mp R.nd
    have h50 := R.h5
    rw [declT, List.length_append] at h50
    rw [linesT, readLines_cons, bindS (take_open o (fun x hx => R.seen x (w1 x hx)) R.last (by have := R.deep; omega) R.ar), List.append_assoc, readLines_app]
    have hl1 : (M.rows ++ [(⟨o.word, o.names, M.rows.length + 1, 0⟩ : RowM)]).length = M.rows.length + 1 := by rw [List.length_append, List.length_singleton]
    have nd1 := List.nodup_append.mp nd0.1
    rw [bindS (read_loc (M := ⟨M.rows ++ [(⟨o.word, o.names, M.rows.length + 1, 0⟩ : RowM)], M.homes, M.around ++ [(M.rows.length, h)], M.nest ++ [M.rows.length]⟩) (h := M.rows.length) cs (fun x hx => R.nm x (hcb x (List.mem_append_left _ hx))) nd1.1 (fun x hx => R.fr x (hcb x (List.mem_append_left _ hx))) (by rw [List.length_append] at h50; show M.homes.length + _ ≤ 5; omega) hl1 List.getLast?_concat), readLines_app]
    have hl2 : ((M.rows ++ [(⟨o.word, o.names, M.rows.length + 1, 0⟩ : RowM)]) ++ locRows (M.rows.length + 1) cs).length = M.rows.length + 1 + locN cs := by rw [List.length_append, hl1, locRows_len]
    have R2 : RdOk ⟨(M.rows ++ [(⟨o.word, o.names, M.rows.length + 1, 0⟩ : RowM)]) ++ locRows (M.rows.length + 1) cs, M.homes ++ cs.map (·, M.rows.length), M.around ++ [(M.rows.length, h)], M.nest ++ [M.rows.length]⟩ (seen ++ cs) d M.rows.length (declT b) := by
      refine RdOk.inner (M := M) (dec := []) (h := h) cs (fun x hx => seen_iff.mp (R.seen x hx)) R.deep (fun p hp => ?_) (by rw [hl2]; omega) (fun x hx => R.nm x (hcb x hx)) nd0.1 (fun x hx => R.fr x (hcb x hx)) (by omega)
      rw [hl2]
      rcases List.mem_append.mp hp with z | z
      · have := R.ar p z; omega
      · rw [List.mem_singleton.mp z]
        show M.rows.length < _
        omega
    rw [bindS (read_T b _ (seen ++ cs) d M.rows.length w2 R2)]
    dsimp only
    rw [hl2, readLines_cons]
    have hrows : ((M.rows ++ [(⟨o.word, o.names, M.rows.length + 1, 0⟩ : RowM)]) ++ locRows (M.rows.length + 1) cs) ++ rowsT (M.rows.length + 1 + locN cs) b = M.rows ++ ⟨o.word, o.names, M.rows.length + 1, 0⟩ :: (locRows (M.rows.length + 1) cs ++ rowsT (M.rows.length + 1 + locN cs) b) := by
      rw [List.append_assoc, List.append_assoc]; rfl
    have hl3 : (M.rows ++ (⟨o.word, o.names, M.rows.length + 1, 0⟩ : RowM) :: (locRows (M.rows.length + 1) cs ++ rowsT (M.rows.length + 1 + locN cs) b)).length = M.rows.length + 1 + (locN cs + sizeT b) := by
      rw [List.length_append, List.length_cons, List.length_append, locRows_len, rows_len]; omega
    rw [hrows]
    rw [bindS (take_end (M := ⟨M.rows ++ ⟨o.word, o.names, M.rows.length + 1, 0⟩ :: (locRows (M.rows.length + 1) cs ++ rowsT (M.rows.length + 1 + locN cs) b), _, _, _⟩) rfl rfl R.pos)]
    dsimp only
    rw [hl3, if_neg (op_notelse o)]
    have hl4 : (M.rows ++ (⟨o.word, o.names, M.rows.length + 1, M.rows.length + 1 + (locN cs + sizeT b) + 1⟩ : RowM) :: (locRows (M.rows.length + 1) cs ++ rowsT (M.rows.length + 1 + locN cs) b) ++ [(⟨"end", [], if o.word = ("loop" : Str) then M.rows.length else M.rows.length + 1 + (locN cs + sizeT b) + 1, 0⟩ : RowM)]).length = M.rows.length + 1 + (locN cs + sizeT b) + 1 := by
      rw [List.length_append, List.length_append, List.length_cons, List.length_append, locRows_len, rows_len, List.length_singleton]; omega
    have hnames : (M.homes ++ cs.map (·, M.rows.length) ++ homesT (M.rows.length + 1 + locN cs) b).map (·.1) = M.homes.map (·.1) ++ (cs ++ declT b) := by
      rw [List.map_append, List.map_append, homes_names, List.map_map, List.append_assoc]
      congr 2
      exact (List.map_congr_left fun _ _ => rfl).trans (List.map_id cs)
    have R4 : RdOk ⟨M.rows ++ (⟨o.word, o.names, M.rows.length + 1, M.rows.length + 1 + (locN cs + sizeT b) + 1⟩ : RowM) :: (locRows (M.rows.length + 1) cs ++ rowsT (M.rows.length + 1 + locN cs) b) ++ [⟨"end", [], if o.word = ("loop" : Str) then M.rows.length else M.rows.length + 1 + (locN cs + sizeT b) + 1, 0⟩], M.homes ++ cs.map (·, M.rows.length) ++ homesT (M.rows.length + 1 + locN cs) b, M.around ++ [(M.rows.length, h)] ++ aroundT (M.rows.length + 1 + locN cs) M.rows.length b, M.nest⟩ seen (d + 1) h (declT r) := by
      refine ⟨fun x hx => ?_, R.last, R.deep, fun p hp => ?_, by rw [hl4]; omega, fun x hx => R.nm x (List.mem_append_right _ hx), nd0.2.1, fun x hx => ?_, ?_⟩
      · obtain ⟨y, h1, h2⟩ := seen_iff.mp (R.seen x hx)
        exact seen_iff.mpr ⟨y, homeOf_app (homeOf_app h1), h2⟩
      · rw [hl4]
        rcases List.mem_append.mp hp with z | z
        · rcases List.mem_append.mp z with z | z
          · have := R.ar p z; omega
          · rw [List.mem_singleton.mp z]; show M.rows.length < _; omega
        · have := around_lt b _ _ p z
          omega
      · rw [homeOf_none, hnames]
        intro z
        rcases List.mem_append.mp z with z | z
        · exact homeOf_none.mp (R.fr x (List.mem_append_right _ hx)) z
        · exact nd0.2.2 x z x hx rfl
      · show (M.homes ++ cs.map (·, M.rows.length) ++ homesT _ b).length + _ ≤ 5
        have := congrArg List.length hnames
        simp only [List.length_map, List.length_append] at this h50 ⊢
        omega
    rw [read_T r _ seen (d + 1) h w3 R4]
    dsimp only
    rw [hl4]
    refine congrArg some ?_
    have hend : (if o.word = ("loop" : Str) then M.rows.length else M.rows.length + 1 + (locN cs + sizeT b) + 1) = if o = .loop then M.rows.length else M.rows.length + 1 + (locN cs + sizeT b) + 1 := by
      by_cases c : o = .loop
      · rw [if_pos c, if_pos ((op_loop o).mpr c)]
      · rw [if_neg c, if_neg (fun z => c ((op_loop o).mp z))]
    rw [hend]
    simp only [rowsT, homesT, aroundT, List.append_assoc, List.cons_append, List.nil_append]
  | .two o cs b cs' b' r, M, seen, 0, h, wf, R => wf.elim
  | .two o cs b cs' b' r, M, seen, d + 1, h, wf, R => by
    obtain ⟨w0, w1, w2, w2', w3⟩ := wf
    have hcb : ∀ x ∈ cs ++ declT b, x ∈ declT (.two o cs b cs' b' r) := fun x hx => List.mem_append_left _ hx
    have hcb' : ∀ x ∈ cs' ++ declT b', x ∈ declT (.two o cs b cs' b' r) := fun x hx => List.mem_append_right _ (List.mem_append_left _ hx)
    have nd0 := List.nodup_append.mp R.nd
    have nd00 := List.nodup_append.mp nd0.2.1
    have h50 := R.h5
    rw [declT, List.length_append, List.length_append (as := cs' ++ declT b')] at h50
    rw [linesT, readLines_cons, bindS (take_open o (fun x hx => R.seen x (w1 x hx)) R.last (by have := R.deep; omega) R.ar), List.append_assoc, readLines_app]
    have hl1 : (M.rows ++ [(⟨o.word, o.names, M.rows.length + 1, 0⟩ : RowM)]).length = M.rows.length + 1 := by rw [List.length_append, List.length_singleton]
    have nd1 := List.nodup_append.mp nd0.1
    rw [bindS (read_loc (M := ⟨M.rows ++ [(⟨o.word, o.names, M.rows.length + 1, 0⟩ : RowM)], M.homes, M.around ++ [(M.rows.length, h)], M.nest ++ [M.rows.length]⟩) (h := M.rows.length) cs (fun x hx => R.nm x (hcb x (List.mem_append_left _ hx))) nd1.1 (fun x hx => R.fr x (hcb x (List.mem_append_left _ hx))) (by rw [List.length_append] at h50; show M.homes.length + _ ≤ 5; omega) hl1 List.getLast?_concat), readLines_app]
    have hl2 : ((M.rows ++ [(⟨o.word, o.names, M.rows.length + 1, 0⟩ : RowM)]) ++ locRows (M.rows.length + 1) cs).length = M.rows.length + 1 + locN cs := by rw [List.length_append, hl1, locRows_len]
    have R2 : RdOk ⟨(M.rows ++ [(⟨o.word, o.names, M.rows.length + 1, 0⟩ : RowM)]) ++ locRows (M.rows.length + 1) cs, M.homes ++ cs.map (·, M.rows.length), M.around ++ [(M.rows.length, h)], M.nest ++ [M.rows.length]⟩ (seen ++ cs) d M.rows.length (declT b) := by
      refine RdOk.inner (M := M) (dec := []) (h := h) cs (fun x hx => seen_iff.mp (R.seen x hx)) R.deep (fun p hp => ?_) (by rw [hl2]; omega) (fun x hx => R.nm x (hcb x hx)) nd0.1 (fun x hx => R.fr x (hcb x hx)) (by omega)
      rw [hl2]
      rcases List.mem_append.mp hp with z | z
      · have := R.ar p z; omega
      · rw [List.mem_singleton.mp z]
        show M.rows.length < _
        omega
    rw [bindS (read_T b _ (seen ++ cs) d M.rows.length w2 R2)]
    dsimp only
    rw [hl2, readLines_cons]
    have hrows : ((M.rows ++ [(⟨o.word, o.names, M.rows.length + 1, 0⟩ : RowM)]) ++ locRows (M.rows.length + 1) cs) ++ rowsT (M.rows.length + 1 + locN cs) b = M.rows ++ ⟨o.word, o.names, M.rows.length + 1, 0⟩ :: (locRows (M.rows.length + 1) cs ++ rowsT (M.rows.length + 1 + locN cs) b) := by
      rw [List.append_assoc, List.append_assoc]; rfl
    have hl3 : (M.rows ++ (⟨o.word, o.names, M.rows.length + 1, 0⟩ : RowM) :: (locRows (M.rows.length + 1) cs ++ rowsT (M.rows.length + 1 + locN cs) b)).length = M.rows.length + 1 + (locN cs + sizeT b) := by
      rw [List.length_append, List.length_cons, List.length_append, locRows_len, rows_len]; omega
    rw [hrows]
    have hal : ∀ p ∈ M.around ++ [(M.rows.length, h)] ++ aroundT (M.rows.length + 1 + locN cs) M.rows.length b, p.1 < M.rows.length + 1 + (locN cs + sizeT b) := fun p hp => by
      rcases List.mem_append.mp hp with z | z
      · rcases List.mem_append.mp z with z | z
        · have := R.ar p z; omega
        · rw [List.mem_singleton.mp z]; show M.rows.length < _; omega
      · have := around_lt b _ _ p z
        omega
    rw [bindS (take_else (M := ⟨M.rows ++ ⟨o.word, o.names, M.rows.length + 1, 0⟩ :: (locRows (M.rows.length + 1) cs ++ rowsT (M.rows.length + 1 + locN cs) b), _, M.around ++ [(M.rows.length, h)] ++ aroundT (M.rows.length + 1 + locN cs) M.rows.length b, _⟩) (a := h) rfl rfl (op_two o w0) (by have z := getN_app (m := aroundT (M.rows.length + 1 + locN cs) M.rows.length b) (v := h) R.ar; simpa only [List.append_assoc, List.cons_append, List.nil_append] using z) (by rw [hl3]; exact hal))]
    dsimp only
    rw [hl3]
    -- the second side
    have hl4 : (M.rows ++ (⟨o.word, o.names, M.rows.length + 1, M.rows.length + 1 + (locN cs + sizeT b) + 1⟩ : RowM) :: (locRows (M.rows.length + 1) cs ++ rowsT (M.rows.length + 1 + locN cs) b) ++ [(⟨"else", [], M.rows.length + 1 + (locN cs + sizeT b) + 1, 0⟩ : RowM)]).length = M.rows.length + 1 + (locN cs + sizeT b) + 1 := by
      rw [List.length_append, List.length_append, List.length_cons, List.length_append, locRows_len, rows_len, List.length_singleton]; omega
    have hnames : (M.homes ++ cs.map (·, M.rows.length) ++ homesT (M.rows.length + 1 + locN cs) b).map (·.1) = M.homes.map (·.1) ++ (cs ++ declT b) := by
      rw [List.map_append, List.map_append, homes_names, List.map_map, List.append_assoc]
      congr 2
      exact (List.map_congr_left fun _ _ => rfl).trans (List.map_id cs)
    have hlen4 : (M.homes ++ cs.map (·, M.rows.length) ++ homesT (M.rows.length + 1 + locN cs) b).length = M.homes.length + (cs ++ declT b).length := by
      have := congrArg List.length hnames
      simp only [List.length_map, List.length_append] at this ⊢
      omega
    have fr4 : ∀ x ∈ cs' ++ declT b' ++ declT r, homeOf (M.homes ++ cs.map (·, M.rows.length) ++ homesT (M.rows.length + 1 + locN cs) b) x = none := fun x hx => by
      rw [homeOf_none, hnames]
      intro z
      rcases List.mem_append.mp z with z | z
      · exact homeOf_none.mp (R.fr x (List.mem_append_right _ hx)) z
      · exact nd0.2.2 x z x hx rfl
    generalize hH4 : M.homes ++ cs.map (·, M.rows.length) ++ homesT (M.rows.length + 1 + locN cs) b = H4 at hlen4 fr4 hnames
    have seen4 : ∀ x ∈ seen, ∃ y, homeOf H4 x = some y ∧ y ∈ M.nest := fun x hx => by
      obtain ⟨y, h1, h2⟩ := seen_iff.mp (R.seen x hx)
      exact ⟨y, by rw [← hH4]; exact homeOf_app (homeOf_app h1), h2⟩
    rw [List.append_assoc (as := loc cs'), readLines_app]
    rw [bindS (read_loc (M := ⟨M.rows ++ (⟨o.word, o.names, M.rows.length + 1, M.rows.length + 1 + (locN cs + sizeT b) + 1⟩ : RowM) :: (locRows (M.rows.length + 1) cs ++ rowsT (M.rows.length + 1 + locN cs) b) ++ [(⟨"else", [], M.rows.length + 1 + (locN cs + sizeT b) + 1, 0⟩ : RowM)], H4, _, _⟩) (h := M.rows.length + 1 + (locN cs + sizeT b)) cs' (fun x hx => R.nm x (hcb' x (List.mem_append_left _ hx))) (List.nodup_append.mp nd00.1).1 (fun x hx => fr4 x (List.mem_append_left _ (List.mem_append_left _ hx)))
      (by show H4.length + _ ≤ 5; rw [hlen4]; rw [List.length_append (as := cs')] at h50; omega) hl4 List.getLast?_concat), readLines_app]
    dsimp only
    have hl5 : (M.rows ++ (⟨o.word, o.names, M.rows.length + 1, M.rows.length + 1 + (locN cs + sizeT b) + 1⟩ : RowM) :: (locRows (M.rows.length + 1) cs ++ rowsT (M.rows.length + 1 + locN cs) b) ++ [(⟨"else", [], M.rows.length + 1 + (locN cs + sizeT b) + 1, 0⟩ : RowM)] ++ locRows (M.rows.length + 1 + (locN cs + sizeT b) + 1) cs').length = M.rows.length + 1 + (locN cs + sizeT b) + 1 + locN cs' := by rw [List.length_append, hl4, locRows_len]
    have har5 : ∀ p ∈ M.around ++ [(M.rows.length, h)] ++ aroundT (M.rows.length + 1 + locN cs) M.rows.length b ++ [(M.rows.length + 1 + (locN cs + sizeT b), h)], p.1 < M.rows.length + 1 + (locN cs + sizeT b) + 1 + locN cs' := fun p hp => by
      rcases List.mem_append.mp hp with z | z
      · have := hal p z; omega
      · rw [List.mem_singleton.mp z]; show M.rows.length + 1 + (locN cs + sizeT b) < _; omega
    have R5 : RdOk ⟨M.rows ++ (⟨o.word, o.names, M.rows.length + 1, M.rows.length + 1 + (locN cs + sizeT b) + 1⟩ : RowM) :: (locRows (M.rows.length + 1) cs ++ rowsT (M.rows.length + 1 + locN cs) b) ++ [⟨"else", [], M.rows.length + 1 + (locN cs + sizeT b) + 1, 0⟩] ++ locRows (M.rows.length + 1 + (locN cs + sizeT b) + 1) cs', H4 ++ cs'.map (·, M.rows.length + 1 + (locN cs + sizeT b)), M.around ++ [(M.rows.length, h)] ++ aroundT (M.rows.length + 1 + locN cs) M.rows.length b ++ [(M.rows.length + 1 + (locN cs + sizeT b), h)], M.nest ++ [M.rows.length + 1 + (locN cs + sizeT b)]⟩ (seen ++ cs') d (M.rows.length + 1 + (locN cs + sizeT b)) (declT b') :=
      RdOk.inner (M := M) (dec := []) (h := h) cs' seen4 R.deep (by rw [hl5]; exact har5) (by rw [hl5]; omega) (fun x hx => R.nm x (hcb' x hx)) nd00.1 (fun x hx => fr4 x (List.mem_append_left _ hx)) (by rw [hlen4]; omega)
    rw [bindS (read_T b' _ (seen ++ cs') d _ w2' R5)]
    dsimp only
    rw [hl5, readLines_cons]
    have hrows6 : (M.rows ++ (⟨o.word, o.names, M.rows.length + 1, M.rows.length + 1 + (locN cs + sizeT b) + 1⟩ : RowM) :: (locRows (M.rows.length + 1) cs ++ rowsT (M.rows.length + 1 + locN cs) b) ++ [(⟨"else", [], M.rows.length + 1 + (locN cs + sizeT b) + 1, 0⟩ : RowM)] ++ locRows (M.rows.length + 1 + (locN cs + sizeT b) + 1) cs') ++ rowsT (M.rows.length + 1 + (locN cs + sizeT b) + 1 + locN cs') b' =
        (M.rows ++ (⟨o.word, o.names, M.rows.length + 1, M.rows.length + 1 + (locN cs + sizeT b) + 1⟩ : RowM) :: (locRows (M.rows.length + 1) cs ++ rowsT (M.rows.length + 1 + locN cs) b)) ++ (⟨"else", [], M.rows.length + 1 + (locN cs + sizeT b) + 1, 0⟩ : RowM) :: (locRows (M.rows.length + 1 + (locN cs + sizeT b) + 1) cs' ++ rowsT (M.rows.length + 1 + (locN cs + sizeT b) + 1 + locN cs') b') := by
      simp only [List.append_assoc, List.cons_append, List.nil_append]
    have hpre : (M.rows ++ (⟨o.word, o.names, M.rows.length + 1, M.rows.length + 1 + (locN cs + sizeT b) + 1⟩ : RowM) :: (locRows (M.rows.length + 1) cs ++ rowsT (M.rows.length + 1 + locN cs) b)).length = M.rows.length + 1 + (locN cs + sizeT b) := by
      rw [List.length_append, List.length_cons, List.length_append, locRows_len, rows_len]; omega
    rw [hrows6]
    have hl6 : ((M.rows ++ (⟨o.word, o.names, M.rows.length + 1, M.rows.length + 1 + (locN cs + sizeT b) + 1⟩ : RowM) :: (locRows (M.rows.length + 1) cs ++ rowsT (M.rows.length + 1 + locN cs) b)) ++ (⟨"else", [], M.rows.length + 1 + (locN cs + sizeT b) + 1, 0⟩ : RowM) :: (locRows (M.rows.length + 1 + (locN cs + sizeT b) + 1) cs' ++ rowsT (M.rows.length + 1 + (locN cs + sizeT b) + 1 + locN cs') b')).length = M.rows.length + 1 + (locN cs + sizeT b) + 1 + (locN cs' + sizeT b') := by
      rw [List.length_append, hpre, List.length_cons, List.length_append, locRows_len, rows_len]; omega
    rw [bindS (take_end (M := ⟨(M.rows ++ (⟨o.word, o.names, M.rows.length + 1, M.rows.length + 1 + (locN cs + sizeT b) + 1⟩ : RowM) :: (locRows (M.rows.length + 1) cs ++ rowsT (M.rows.length + 1 + locN cs) b)) ++ (⟨"else", [], M.rows.length + 1 + (locN cs + sizeT b) + 1, 0⟩ : RowM) :: (locRows (M.rows.length + 1 + (locN cs + sizeT b) + 1) cs' ++ rowsT (M.rows.length + 1 + (locN cs + sizeT b) + 1 + locN cs') b'), _, _, M.nest ++ [M.rows.length + 1 + (locN cs + sizeT b)]⟩) (b := M.nest) rfl (by rw [hpre]) (by rw [hpre]; omega))]
    dsimp only
    rw [hl6, if_pos rfl, if_neg (show ¬ ("else" : Str) = "loop" by decide)]
    have hl7 : ((M.rows ++ (⟨o.word, o.names, M.rows.length + 1, M.rows.length + 1 + (locN cs + sizeT b) + 1⟩ : RowM) :: (locRows (M.rows.length + 1) cs ++ rowsT (M.rows.length + 1 + locN cs) b)) ++ (⟨"else", [], M.rows.length + 1 + (locN cs + sizeT b) + 1 + (locN cs' + sizeT b'), 0⟩ : RowM) :: (locRows (M.rows.length + 1 + (locN cs + sizeT b) + 1) cs' ++ rowsT (M.rows.length + 1 + (locN cs + sizeT b) + 1 + locN cs') b') ++ [(⟨"end", [], M.rows.length + 1 + (locN cs + sizeT b) + 1 + (locN cs' + sizeT b') + 1, 0⟩ : RowM)]).length = M.rows.length + 1 + (locN cs + sizeT b) + 1 + (locN cs' + sizeT b') + 1 := by
      rw [List.length_append, List.length_append, hpre, List.length_cons, List.length_append, locRows_len, rows_len, List.length_singleton]; omega
    have hnames7 : (H4 ++ cs'.map (·, M.rows.length + 1 + (locN cs + sizeT b)) ++ homesT (M.rows.length + 1 + (locN cs + sizeT b) + 1 + locN cs') b').map (·.1) = M.homes.map (·.1) ++ (cs ++ declT b) ++ (cs' ++ declT b') := by
      rw [List.map_append, List.map_append, homes_names, List.map_map, List.append_assoc, hnames]
      congr 2
      exact (List.map_congr_left fun _ _ => rfl).trans (List.map_id cs')
    have R7 : RdOk ⟨(M.rows ++ (⟨o.word, o.names, M.rows.length + 1, M.rows.length + 1 + (locN cs + sizeT b) + 1⟩ : RowM) :: (locRows (M.rows.length + 1) cs ++ rowsT (M.rows.length + 1 + locN cs) b)) ++ (⟨"else", [], M.rows.length + 1 + (locN cs + sizeT b) + 1 + (locN cs' + sizeT b'), 0⟩ : RowM) :: (locRows (M.rows.length + 1 + (locN cs + sizeT b) + 1) cs' ++ rowsT (M.rows.length + 1 + (locN cs + sizeT b) + 1 + locN cs') b') ++ [⟨"end", [], M.rows.length + 1 + (locN cs + sizeT b) + 1 + (locN cs' + sizeT b') + 1, 0⟩], H4 ++ cs'.map (·, M.rows.length + 1 + (locN cs + sizeT b)) ++ homesT (M.rows.length + 1 + (locN cs + sizeT b) + 1 + locN cs') b',
        M.around ++ [(M.rows.length, h)] ++ aroundT (M.rows.length + 1 + locN cs) M.rows.length b ++ [(M.rows.length + 1 + (locN cs + sizeT b), h)] ++ aroundT (M.rows.length + 1 + (locN cs + sizeT b) + 1 + locN cs') (M.rows.length + 1 + (locN cs + sizeT b)) b', M.nest⟩ seen (d + 1) h (declT r) := by
      refine ⟨fun x hx => ?_, R.last, R.deep, fun p hp => ?_, by rw [hl7]; omega, fun x hx => R.nm x (List.mem_append_right _ (List.mem_append_right _ hx)), nd00.2.1, fun x hx => ?_, ?_⟩
      · obtain ⟨y, h1, h2⟩ := seen4 x hx
        exact seen_iff.mpr ⟨y, homeOf_app (homeOf_app h1), h2⟩
      · rw [hl7]
        rcases List.mem_append.mp hp with z | z
        · have := har5 p z; omega
        · have := around_lt b' _ _ p z
          omega
      · rw [homeOf_none, hnames7]
        intro z
        rcases List.mem_append.mp z with z | z
        · rcases List.mem_append.mp z with z | z
          · exact homeOf_none.mp (R.fr x (List.mem_append_right _ (List.mem_append_right _ hx))) z
          · exact nd0.2.2 x z x (List.mem_append_right _ hx) rfl
        · exact nd00.2.2 x z x hx rfl
      · have := congrArg List.length hnames7
        simp only [List.length_map, List.length_append] at this h50 ⊢
        omega
    rw [read_T r _ seen (d + 1) h w3 R7]
    dsimp only
    rw [hl7]
    refine congrArg some ?_
    rw [← hH4]
    simp only [rowsT, homesT, aroundT, List.append_assoc, List.cons_append, List.nil_append]
end FP
set_option Elab.async false
set_option linter.all false
set_option maxRecDepth 100000
set_option maxHeartbeats 4000000
namespace FP
open PySem TL
/-- a word without a space and a newline -/
def plainW (w : Str) : Prop := 1 ≤ (tl w).length ∧ (tl w).length ≤ 12 ∧ ∀ c ∈ tl w, c ≠ 10 ∧ c ≠ 32
instance (w : Str) : Decidable (plainW w) := by unfold plainW; infer_instance
theorem plain_name {x : Str} (h : isName x = true) : plainW x := by
  unfold isName at h
  rw [Bool.and_eq_true, Bool.and_eq_true, Bool.and_eq_true] at h
  obtain ⟨⟨_, h1, h2⟩, h3⟩ := h
  refine ⟨by rw [← len_tl]; exact of_decide_eq_true h1, by rw [← len_tl]; exact of_decide_eq_true h2, fun c hc => ?_⟩
  have := List.all_eq_true.mp h3 c hc
  unfold letter at this
  rw [Bool.and_eq_true] at this
  have := of_decide_eq_true this.1
  omega
/-- a line's words -/
def plainL (ws : List Str) : Prop := ws ≠ [] ∧ ws.length ≤ 6 ∧ ∀ w ∈ ws, plainW w
theorem plain_deed {seen : List Str} (hs : ∀ x ∈ seen, plainW x) (k : Deed) (h : ∀ x ∈ k.names, x ∈ seen) : plainL k.words := by
  have two : ∀ (w a t b : Str), plainW w → plainW t → a ∈ seen → b ∈ seen → plainL [w, a, t, b] := fun w a t b h1 h2 h3 h4 => by
    refine ⟨by simp, by simp, fun x hx => ?_⟩
    rcases List.mem_cons.mp hx with z | hx
    · rw [z]; exact h1
    rcases List.mem_cons.mp hx with z | hx
    · rw [z]; exact hs a h3
    rcases List.mem_cons.mp hx with z | hx
    · rw [z]; exact h2
    · rw [List.mem_singleton.mp hx]; exact hs b h4
  have one : ∀ (w a : Str), plainW w → a ∈ seen → plainL [w, a] := fun w a h1 h3 => by
    refine ⟨by simp, by simp, fun x hx => ?_⟩
    rcases List.mem_cons.mp hx with z | hx
    · rw [z]; exact h1
    · rw [List.mem_singleton.mp hx]; exact hs a h3
  cases k with
  | input a => exact one _ a (by decide) (h a (by simp [Deed.names]))
  | copy a b => exact two _ a _ b (by decide) (by decide) (h a (by simp [Deed.names])) (h b (by simp [Deed.names]))
  | point a b => exact two _ a _ b (by decide) (by decide) (h a (by simp [Deed.names])) (h b (by simp [Deed.names]))
  | load a b => exact two _ a _ b (by decide) (by decide) (h a (by simp [Deed.names])) (h b (by simp [Deed.names]))
  | store a b => exact two _ a _ b (by decide) (by decide) (h a (by simp [Deed.names])) (h b (by simp [Deed.names]))
  | use a => exact one _ a (by decide) (h a (by simp [Deed.names]))
  | call p => exact one _ p (by decide) (h p (by simp [Deed.names]))
theorem plain_op {seen : List Str} (hs : ∀ x ∈ seen, plainW x) (o : Op) (h : ∀ x ∈ o.names, x ∈ seen) : plainL (o.word :: o.names) := by
  have none_ : ∀ (w : Str), plainW w → plainL [w] := fun w h1 => ⟨by simp, by simp, fun x hx => by rw [List.mem_singleton.mp hx]; exact h1⟩
  cases o with
  | block => exact none_ _ (by decide)
  | loop => exact none_ _ (by decide)
  | maybe => exact none_ _ (by decide)
  | same a b =>
    refine ⟨by simp, by show 3 ≤ 6; decide, fun x hx => ?_⟩
    rcases List.mem_cons.mp hx with z | hx
    · rw [z]; exact (by decide : plainW "same")
    · exact hs x (h x hx)
theorem plain_loc {cs : List Str} (hs : ∀ x ∈ cs, plainW x) (h5 : cs.length ≤ 5) : ∀ ws ∈ loc cs, plainL ws := by
  intro ws h
  unfold loc at h
  split at h
  · cases h
  · rw [List.mem_singleton.mp h]
    refine ⟨by simp, by rw [List.length_cons]; omega, fun x hx => ?_⟩
    rcases List.mem_cons.mp hx with z | hx
    · rw [z]; exact (by decide : plainW "local")
    · exact hs x hx
theorem plain_T : ∀ (t : T) (seen : List Str) (d : Nat), wfT seen d t → (∀ x ∈ seen, plainW x) → (∀ x ∈ declT t, plainW x) → (declT t).length ≤ 5 → ∀ ws ∈ linesT t, plainL ws
  | .nil, _, _, _, _, _, _, ws, h => by cases h
  | .deed k r, seen, d, wf, hs, hd, hl, ws, h => by
    have wf' : (∀ x ∈ k.names, x ∈ seen) ∧ wfT seen d r := by cases d <;> exact wf
    rcases List.mem_cons.mp h with z | z
    · rw [z]; exact plain_deed hs k wf'.1
    · exact plain_T r seen d wf'.2 hs hd hl ws z
  | .one o cs b r, _, 0, wf, _, _, _, _, _ => wf.elim
  | .one o cs b r, seen, d + 1, wf, hs, hd, hl, ws, h => by
    obtain ⟨w1, w2, w3⟩ := wf
    rw [declT, List.length_append, List.length_append] at hl
    have dcs : ∀ x ∈ cs, plainW x := fun x hx => hd x (List.mem_append_left _ (List.mem_append_left _ hx))
    rw [linesT] at h
    rcases List.mem_cons.mp h with z | z
    · rw [z]; exact plain_op hs o w1
    rcases List.mem_append.mp z with z | z
    · rcases List.mem_append.mp z with z | z
      · exact plain_loc dcs (by omega) ws z
      · exact plain_T b _ d w2 (fun x hx => (List.mem_append.mp hx).elim (hs x) (dcs x)) (fun x hx => hd x (List.mem_append_left _ (List.mem_append_right _ hx))) (by omega) ws z
    rcases List.mem_cons.mp z with z | z
    · rw [z]
      exact ⟨by decide, by decide, by decide⟩
    · exact plain_T r seen (d + 1) w3 hs (fun x hx => hd x (List.mem_append_right _ hx)) (by omega) ws z
  | .two o cs b cs' b' r, _, 0, wf, _, _, _, _, _ => wf.elim
  | .two o cs b cs' b' r, seen, d + 1, wf, hs, hd, hl, ws, h => by
    obtain ⟨w0, w1, w2, w2', w3⟩ := wf
    rw [declT, List.length_append, List.length_append, List.length_append (as := cs' ++ declT b'), List.length_append] at hl
    have dcs : ∀ x ∈ cs, plainW x := fun x hx => hd x (List.mem_append_left _ (List.mem_append_left _ hx))
    have dcs' : ∀ x ∈ cs', plainW x := fun x hx => hd x (List.mem_append_right _ (List.mem_append_left _ (List.mem_append_left _ hx)))
    rw [linesT] at h
    rcases List.mem_cons.mp h with z | z
    · rw [z]; exact plain_op hs o w1
    rcases List.mem_append.mp z with z | z
    · rcases List.mem_append.mp z with z | z
      · exact plain_loc dcs (by omega) ws z
      · exact plain_T b _ d w2 (fun x hx => (List.mem_append.mp hx).elim (hs x) (dcs x)) (fun x hx => hd x (List.mem_append_left _ (List.mem_append_right _ hx))) (by omega) ws z
    rcases List.mem_cons.mp z with z | z
    · rw [z]
      exact ⟨by decide, by decide, by decide⟩
    rcases List.mem_append.mp z with z | z
    · rcases List.mem_append.mp z with z | z
      · exact plain_loc dcs' (by omega) ws z
      · exact plain_T b' _ d w2' (fun x hx => (List.mem_append.mp hx).elim (hs x) (dcs' x)) (fun x hx => hd x (List.mem_append_right _ (List.mem_append_left _ (List.mem_append_right _ hx)))) (by omega) ws z
    rcases List.mem_cons.mp z with z | z
    · rw [z]
      exact ⟨by decide, by decide, by decide⟩
    · exact plain_T r seen (d + 1) w3 hs (fun x hx => hd x (List.mem_append_right _ (List.mem_append_right _ hx))) (by omega) ws z
/-! ### the text -/
def textL (ls : List (List Str)) : Str := Txt.join "\n" (ls.map (Txt.join " "))
theorem joinL_mem {S : List Nat} {c : Nat} : ∀ {l : List (List Nat)}, c ∈ joinL S l → c ∈ S ∨ ∃ p ∈ l, c ∈ p
  | [], h => by cases h
  | [p], h => .inr ⟨p, by simp, h⟩
  | p :: q :: r, h => by
    have h' : c ∈ p ++ (S ++ joinL S (q :: r)) := h
    rcases List.mem_append.mp h' with z | z
    · exact .inr ⟨p, by simp, z⟩
    rcases List.mem_append.mp z with z | z
    · exact .inl z
    · rcases joinL_mem z with y | ⟨x, hx, hc⟩
      · exact .inl y
      · exact .inr ⟨x, List.mem_cons_of_mem _ hx, hc⟩
theorem joinL_len {S : List Nat} {k : Nat} : ∀ {l : List (List Nat)}, (∀ p ∈ l, p.length ≤ k) → (joinL S l).length ≤ l.length * (k + S.length)
  | [], _ => Nat.zero_le _
  | [p], h => by
    show p.length ≤ 1 * _
    have := h p (by simp)
    omega
  | p :: q :: r, h => by
    show (p ++ (S ++ joinL S (q :: r))).length ≤ (q :: r).length.succ * _
    have h1 := h p (by simp)
    have h2 := joinL_len (S := S) (l := q :: r) fun x hx => h x (List.mem_cons_of_mem _ hx)
    rw [List.length_append, List.length_append, Nat.succ_mul]
    omega
theorem tl_tjoin (y : Str) (l : List Str) : tl (Txt.join y l) = joinL (tl y) (l.map tl) := by rw [join_eq, tl_join]
theorem line_words {ws : List Str} (h : plainL ws) : Txt.split (Txt.join " " ws) " " = ws :=
  split_join (s := 32) (S := []) rfl (by decide +kernel) h.1 fun w hw c => ((h.2.2 w hw).2.2 _ c).2 rfl
theorem line_nonl {ws : List Str} (h : plainL ws) : (10 : Nat) ∉ tl (Txt.join " " ws) := by
  rw [tl_tjoin]
  intro z
  rcases joinL_mem z with y | ⟨p, hp, hc⟩
  · exact absurd y (by decide)
  · obtain ⟨w, hw, rfl⟩ := List.mem_map.mp hp
    exact ((h.2.2 w hw).2.2 _ hc).1 rfl
theorem line_ne {ws : List Str} (h : plainL ws) : tl (Txt.join " " ws) ≠ [] := by
  rw [tl_tjoin]
  obtain ⟨h1, _, h3⟩ := h
  cases ws with
  | nil => exact absurd rfl h1
  | cons w r =>
    have hw := (h3 w (by simp)).1
    intro z
    have z' : joinL (tl " ") (tl w :: r.map tl) = [] := z
    cases hr : r.map tl with
    | nil =>
      rw [hr] at z'
      have : tl w = [] := z'
      rw [this] at hw
      exact absurd hw (by decide)
    | cons x y =>
      rw [hr] at z'
      have : tl w ++ _ = [] := z'
      have := (List.append_eq_nil_iff.mp this).1
      rw [this] at hw
      exact absurd hw (by decide)
theorem lines_text {ls : List (List Str)} (h : ∀ ws ∈ ls, plainL ws) : linesM (textL ls) = ls.map (Txt.join " ") := by
  unfold linesM textL
  cases ls with
  | nil => rfl
  | cons ws r =>
    have ne : Txt.join "\n" ((ws :: r).map (Txt.join " ")) ≠ "" := fun z => by
      have z' := congrArg tl z
      rw [tl_tjoin] at z'
      have h1 := line_ne (h ws (by simp))
      rw [List.map_cons, List.map_cons] at z'
      cases hr : (r.map (Txt.join " ")).map tl with
      | nil => rw [hr] at z'; exact h1 z'
      | cons x y =>
        rw [hr] at z'
        have z2 : tl (Txt.join " " ws) ++ _ = [] := z'
        exact h1 (List.append_eq_nil_iff.mp z2).1
    rw [if_neg ne]
    refine split_join (s := 10) (S := []) rfl (by decide +kernel) (by simp) fun p hp => ?_
    obtain ⟨w, hw, rfl⟩ := List.mem_map.mp hp
    exact line_nonl (h w hw)
theorem words_text {ls : List (List Str)} (h : ∀ ws ∈ ls, plainL ws) : (linesM (textL ls)).map (fun l => Txt.split l " ") = ls := by
  rw [lines_text h, List.map_map]
  exact (List.map_congr_left fun ws hw => line_words (h ws hw)).trans (List.map_id ls)
theorem text_len {ls : List (List Str)} (h : ∀ ws ∈ ls, plainL ws) : (textL ls).length ≤ ls.length * 79 := by
  unfold textL
  rw [len_tl, tl_tjoin]
  refine Nat.le_trans (joinL_len (k := 78) fun p hp => ?_) ?_
  · obtain ⟨l, hl, rfl⟩ := List.mem_map.mp hp
    obtain ⟨ws, hw, rfl⟩ := List.mem_map.mp hl
    rw [tl_tjoin]
    obtain ⟨_, h2, h3⟩ := h ws hw
    refine Nat.le_trans (joinL_len (k := 12) fun p hp => ?_) ?_
    · obtain ⟨w, hw, rfl⟩ := List.mem_map.mp hp
      exact (h3 w hw).2.1
    · rw [List.length_map]
      show ws.length * 13 ≤ 78
      omega
  · rw [List.length_map, List.length_map]
    exact Nat.le_refl _
/-- a program: the cells of the text, its orders -/
structure WfP (cs : List Str) (t : T) : Prop where
  wf : wfT cs 5 t
  nm : ∀ x ∈ cs ++ declT t, isName x = true
  nd : (cs ++ declT t).Nodup
  h5 : (cs ++ declT t).length ≤ 5
def linesP (cs : List Str) (t : T) : List (List Str) := loc cs ++ linesT t
def textP (cs : List Str) (t : T) : Str := textL (linesP cs t)
def sizeP (cs : List Str) (t : T) : Nat := locN cs + sizeT t
theorem linesP_len (cs : List Str) (t : T) : (linesP cs t).length = sizeP cs t := by unfold linesP sizeP; rw [List.length_append, loc_len, lines_len]
theorem WfP.plain {cs : List Str} {t : T} (W : WfP cs t) : ∀ ws ∈ linesP cs t, plainL ws := fun ws h => by
  have h5 := W.h5
  rw [List.length_append] at h5
  rcases List.mem_append.mp h with z | z
  · exact plain_loc (fun x hx => plain_name (W.nm x (List.mem_append_left _ hx))) (by omega) ws z
  · exact plain_T t cs 5 W.wf (fun x hx => plain_name (W.nm x (List.mem_append_left _ hx))) (fun x hx => plain_name (W.nm x (List.mem_append_right _ hx))) (by omega) ws z
def rows0 (cs : List Str) (t : T) : List RowM := ⟨"", [], 1, 0⟩ :: (locRows 1 cs ++ rowsT (1 + locN cs) t)
def homesP (cs : List Str) (t : T) : List (Str × Nat) := cs.map (·, 0) ++ homesT (1 + locN cs) t
def aroundP (cs : List Str) (t : T) : List (Nat × Nat) := aroundT (1 + locN cs) 0 t
theorem rows0_len (cs : List Str) (t : T) : (rows0 cs t).length = 1 + sizeP cs t := by
  unfold rows0 sizeP
  rw [List.length_cons, List.length_append, locRows_len, rows_len]; omega
theorem homesP_names (cs : List Str) (t : T) : (homesP cs t).map (·.1) = cs ++ declT t := by
  unfold homesP
  rw [List.map_append, homes_names, List.map_map]
  congr 1
  exact (List.map_congr_left fun _ _ => rfl).trans (List.map_id cs)
theorem readLines_P {cs : List Str} {t : T} (W : WfP cs t) : readLines ShM.new (linesP cs t) = some ⟨rows0 cs t, homesP cs t, aroundP cs t, [0]⟩ := by
  have h5 := W.h5
  rw [List.length_append] at h5
  have nd := List.nodup_append.mp W.nd
  unfold linesP
  rw [readLines_app, bindS (read_loc (M := ShM.new) (h := 0) cs (fun x hx => W.nm x (List.mem_append_left _ hx)) nd.1 (fun x _ => rfl) (by show 0 + cs.length ≤ 5; omega) rfl rfl)]
  have hl : (ShM.new.rows ++ locRows (0 + 1) cs).length = 1 + locN cs := by
    rw [List.length_append, locRows_len]; rfl
  have R : RdOk ⟨ShM.new.rows ++ locRows (0 + 1) cs, ShM.new.homes ++ cs.map (·, 0), ShM.new.around, ShM.new.nest⟩ cs 5 0 (declT t) := by
    refine ⟨fun x hx => seen_iff.mpr ⟨0, homeOf_map hx, by show 0 ∈ [0]; simp⟩, rfl, rfl, (fun p hp => by cases hp), by rw [hl]; omega, fun x hx => W.nm x (List.mem_append_right _ hx), nd.2.1, fun x hx => ?_, ?_⟩
    · show homeOf (cs.map (·, 0)) x = none
      rw [homeOf_none]
      intro z
      obtain ⟨p, hp, e⟩ := List.mem_map.mp z
      obtain ⟨c, hc, rfl⟩ := List.mem_map.mp hp
      have e' : c = x := e
      exact nd.2.2 c hc x hx e'
    · show (cs.map (·, 0)).length + _ ≤ 5
      rw [List.length_map]; omega
  rw [read_T t _ cs 5 0 W.wf R]
  dsimp only
  rw [hl]
  rfl
theorem readM_P {cs : List Str} {t : T} {most : Nat} (W : WfP cs t) (hm : sizeP cs t ≤ most) : readM (textP cs t) most = (waysM 100 (1 + sizeP cs t) 0 (rows0 cs t)).map fun rows => ⟨rows, homesP cs t, aroundP cs t, [0]⟩ := by
  unfold readM
  have hw := words_text W.plain
  have hl : (linesM (textP cs t)).length ≤ most := by
    have := congrArg List.length hw
    rw [List.length_map, linesP_len] at this
    show (linesM (textL (linesP cs t))).length ≤ most
    omega
  rw [if_pos hl]
  show (readLines ShM.new ((linesM (textL (linesP cs t))).map fun l => Txt.split l " ")).bind _ = _
  rw [hw, bindS (readLines_P W)]
  dsimp only
  rw [if_pos (show [0].length = 1 from rfl), rows0_len]
theorem textP_len {cs : List Str} {t : T} (W : WfP cs t) : (textP cs t).length ≤ sizeP cs t * 79 := by
  have := text_len W.plain
  rwa [linesP_len] at this
end FP
set_option Elab.async false
set_option linter.all false
set_option maxRecDepth 100000
set_option maxHeartbeats 4000000
/-! Which line is done after which. -/
namespace FP
open PySem TL
def passR (r : RowM) : Bool := passL.contains r.word
theorem land_succ (R : List RowM) (k n : Nat) : landM R (k + 1) n = if n < R.length then (match R[n]? with
      | some r => if passL.contains r.word = true then landM R k r.after else some n
      | none => none) else some 0 := rfl
theorem land_mono {R : List RowM} : ∀ {k n m : Nat}, landM R k n = some m → landM R (k + 1) n = some m
  | 0, n, m, h => by cases h
  | k + 1, n, m, h => by
    rw [land_succ] at h ⊢
    split at h
    · rename_i hn
      rw [if_pos hn]
      split at h
      · rename_i r e
        split at h
        · rename_i c
          rw [if_pos c]
          exact land_mono h
        · rename_i c
          rw [if_neg c]
          exact h
      · cases h
    · rename_i hn
      rw [if_neg hn]
      exact h
theorem land_le {R : List RowM} {k k' n m : Nat} (h : landM R k n = some m) (hk : k ≤ k') : landM R k' n = some m := by
  obtain ⟨d, rfl⟩ := Nat.exists_eq_add_of_le hk
  induction d with
  | zero => exact h
  | succ d ih => exact land_mono (ih (Nat.le_add_right _ _))
/-- from line n one comes to line m -/
structure LandP (R : List RowM) (n m : Nat) : Prop where
  le : n ≤ R.length
  to : landM R (R.length + 2 - n) n = some m
section
variable {R : List RowM}
theorem LandP.last : LandP R R.length 0 := by
  refine ⟨Nat.le_refl _, ?_⟩
  rw [show R.length + 2 - R.length = 1 + 1 by omega, land_succ, if_neg (Nat.lt_irrefl _)]
theorem LandP.stop {n : Nat} {r : RowM} (h : R[n]? = some r) (hp : passR r = false) : LandP R n n := by
  have hn : n < R.length := (List.getElem?_eq_some_iff.mp h).1
  refine ⟨by omega, ?_⟩
  rw [show R.length + 2 - n = (R.length + 1 - n) + 1 by omega, land_succ, if_pos hn, h]
  show (if passR r = true then _ else some n) = _
  rw [hp, if_neg Bool.false_ne_true]
theorem LandP.pass {n m : Nat} {r : RowM} (h : R[n]? = some r) (hp : passR r = true) (hlt : n < r.after) (hl : LandP R r.after m) : LandP R n m := by
  have hn : n < R.length := (List.getElem?_eq_some_iff.mp h).1
  refine ⟨by omega, ?_⟩
  rw [show R.length + 2 - n = (R.length + 1 - n) + 1 by omega, land_succ, if_pos hn, h]
  show (if passR r = true then landM R _ r.after else some n) = _
  rw [if_pos hp]
  exact land_le hl.to (by omega)
theorem LandP.back {n : Nat} {r q : RowM} (h : R[n]? = some r) (hp : passR r = true) (hq : R[r.after]? = some q) (hqp : passR q = false) : LandP R n r.after := by
  have hn : n < R.length := (List.getElem?_eq_some_iff.mp h).1
  have hm : r.after < R.length := (List.getElem?_eq_some_iff.mp hq).1
  refine ⟨by omega, ?_⟩
  rw [show R.length + 2 - n = (R.length - n + 1) + 1 by omega, land_succ, if_pos hn, h]
  show (if passR r = true then landM R _ r.after else some n) = _
  rw [if_pos hp, land_succ, if_pos hm, hq]
  show (if passR q = true then _ else some r.after) = _
  rw [hqp, if_neg Bool.false_ne_true]
theorem LandP.run {n m : Nat} (h : LandP R n m) (hl : R.length ≤ 98) : landM R 100 n = some m := land_le h.to (by omega)
end
/-! ### the first line that is done, the rows at the end -/
def firstT : Nat → T → Nat → Nat
  | _, .nil, g => g
  | n, .deed _ _, _ => n
  | n, .one .block cs b r, g => firstT (n + 1 + locN cs) b (firstT (n + 1 + (locN cs + sizeT b) + 1) r g)
  | n, .one _ _ _ _, _ => n
  | n, .two .., _ => n
/-- the line that opens a block n, e behind its end, b the first line of the body with what follows at g, bl with what follows at n -/
def opRow (o : Op) (n e b bl g : Nat) : RowM := match o with
  | .block => ⟨"block", [], n + 1, e⟩
  | .loop => ⟨"loop", [], bl, g⟩
  | .maybe => ⟨"maybe", [], b, g⟩
  | .same x y => ⟨"same", [x, y], b, g⟩
def finT : Nat → T → Nat → List RowM
  | _, .nil, _ => []
  | n, .deed d r, g => ⟨d.word, d.names, firstT (n + 1) r g, 0⟩ :: finT (n + 1) r g
  | n, .one o cs b r, g =>
    opRow o n (n + 1 + (locN cs + sizeT b) + 1) (firstT (n + 1 + locN cs) b (firstT (n + 1 + (locN cs + sizeT b) + 1) r g)) (firstT (n + 1 + locN cs) b n) (firstT (n + 1 + (locN cs + sizeT b) + 1) r g) ::
    (locRows (n + 1) cs ++ finT (n + 1 + locN cs) b (if o = .loop then n else firstT (n + 1 + (locN cs + sizeT b) + 1) r g) ++
      ⟨"end", [], if o = .loop then n else n + 1 + (locN cs + sizeT b) + 1, 0⟩ :: finT (n + 1 + (locN cs + sizeT b) + 1) r g)
  | n, .two o cs b cs' b' r, g =>
    ⟨o.word, o.names, firstT (n + 1 + locN cs) b (firstT (n + 1 + (locN cs + sizeT b) + 1 + (locN cs' + sizeT b') + 1) r g), firstT (n + 1 + (locN cs + sizeT b) + 1 + locN cs') b' (firstT (n + 1 + (locN cs + sizeT b) + 1 + (locN cs' + sizeT b') + 1) r g)⟩ ::
    (locRows (n + 1) cs ++ finT (n + 1 + locN cs) b (firstT (n + 1 + (locN cs + sizeT b) + 1 + (locN cs' + sizeT b') + 1) r g) ++
      ⟨"else", [], n + 1 + (locN cs + sizeT b) + 1 + (locN cs' + sizeT b'), 0⟩ :: (locRows (n + 1 + (locN cs + sizeT b) + 1) cs' ++ finT (n + 1 + (locN cs + sizeT b) + 1 + locN cs') b' (firstT (n + 1 + (locN cs + sizeT b) + 1 + (locN cs' + sizeT b') + 1) r g) ++
        ⟨"end", [], n + 1 + (locN cs + sizeT b) + 1 + (locN cs' + sizeT b') + 1, 0⟩ :: finT (n + 1 + (locN cs + sizeT b) + 1 + (locN cs' + sizeT b') + 1) r g))
/-- l stands in R from n on -/
def AtR (R : List RowM) (n : Nat) (l : List RowM) : Prop := ∃ pre post, R = pre ++ (l ++ post) ∧ pre.length = n
theorem AtR.app {R : List RowM} {n : Nat} {l m : List RowM} (h : AtR R n (l ++ m)) : AtR R n l ∧ AtR R (n + l.length) m := by
  obtain ⟨pre, post, rfl, rfl⟩ := h
  exact ⟨⟨pre, m ++ post, by rw [List.append_assoc], rfl⟩, ⟨pre ++ l, post, by simp only [List.append_assoc], by rw [List.length_append]⟩⟩
theorem AtR.cons {R : List RowM} {n : Nat} {r : RowM} {m : List RowM} (h : AtR R n (r :: m)) : R[n]? = some r ∧ AtR R (n + 1) m := by
  have h2 : AtR R n ([r] ++ m) := h
  refine ⟨?_, h2.app.2⟩
  obtain ⟨pre, post, rfl, rfl⟩ := h
  rw [List.getElem?_append_right (Nat.le_refl _), Nat.sub_self]
  rfl
theorem AtR.len {R : List RowM} {n : Nat} {l : List RowM} (h : AtR R n l) : n + l.length ≤ R.length := by
  obtain ⟨pre, post, rfl, rfl⟩ := h
  simp only [List.length_append]
  omega
theorem pass_deed (d : Deed) (a b : Nat) : passR ⟨d.word, d.names, a, b⟩ = false := match d with
  | .input _ => (by decide : passL.contains ("input" : Str) = false)
  | .copy _ _ => (by decide : passL.contains ("copy" : Str) = false)
  | .point _ _ => (by decide : passL.contains ("point" : Str) = false)
  | .load _ _ => (by decide : passL.contains ("load" : Str) = false)
  | .store _ _ => (by decide : passL.contains ("store" : Str) = false)
  | .use _ => (by decide : passL.contains ("use" : Str) = false)
  | .call _ => (by decide : passL.contains ("call" : Str) = false)
theorem pass_op (o : Op) (a b : Nat) : passR ⟨o.word, o.names, a, b⟩ = decide (o = .block) := match o with
  | .block => (by decide : passL.contains ("block" : Str) = true)
  | .loop => (by decide : passL.contains ("loop" : Str) = false)
  | .maybe => (by decide : passL.contains ("maybe" : Str) = false)
  | .same a b => (by decide : passL.contains ("same" : Str) = false)
theorem pass_end (a b : Nat) (ns : List Str) : passR ⟨"end", ns, a, b⟩ = true := (by decide : passL.contains ("end" : Str) = true)
theorem pass_else (a b : Nat) (ns : List Str) : passR ⟨"else", ns, a, b⟩ = true := (by decide : passL.contains ("else" : Str) = true)
theorem pass_local (a b : Nat) (ns : List Str) : passR ⟨"local", ns, a, b⟩ = true := (by decide : passL.contains ("local" : Str) = true)
theorem pass_text (a b : Nat) (ns : List Str) : passR ⟨"", ns, a, b⟩ = false := (by decide : passL.contains ("" : Str) = false)
theorem land_loc {R : List RowM} {n m : Nat} {cs : List Str} (h : AtR R n (locRows n cs)) (hl : LandP R (n + locN cs) m) : LandP R n m := by
  unfold locRows at h
  unfold locN at hl
  by_cases c : cs = []
  · rw [if_pos c] at hl
    exact hl
  · rw [if_neg c] at h hl
    exact .pass h.cons.1 (pass_local _ _ _) (Nat.lt_succ_self n) hl
/-- sides are sides -/
def ok2 : T → Prop
  | .nil => True
  | .deed _ r => ok2 r
  | .one _ _ b r => ok2 b ∧ ok2 r
  | .two o _ b _ b' r => o.two = true ∧ ok2 b ∧ ok2 b' ∧ ok2 r
theorem ok2_wf : ∀ (t : T) (seen : List Str) (d : Nat), wfT seen d t → ok2 t
  | .nil, _, _, _ => trivial
  | .deed k r, seen, d, wf => by
    have wf' : (∀ x ∈ k.names, x ∈ seen) ∧ wfT seen d r := by cases d <;> exact wf
    exact ok2_wf r seen d wf'.2
  | .one _ _ _ _, _, 0, wf => wf.elim
  | .one o cs b r, seen, d + 1, wf => ⟨ok2_wf b _ d wf.2.1, ok2_wf r _ (d + 1) wf.2.2⟩
  | .two _ _ _ _ _ _, _, 0, wf => wf.elim
  | .two o cs b cs' b' r, seen, d + 1, wf => ⟨wf.1, ok2_wf b _ d wf.2.2.1, ok2_wf b' _ d wf.2.2.2.1, ok2_wf r _ (d + 1) wf.2.2.2.2⟩
/-- the parts of what stands in R -/
theorem at_one {R : List RowM} {n : Nat} {o : Op} {cs : List Str} {b r : T} (h : AtR R n (rowsT n (.one o cs b r))) :
    R[n]? = some ⟨o.word, o.names, n + 1, n + 1 + (locN cs + sizeT b) + 1⟩ ∧ AtR R (n + 1) (locRows (n + 1) cs) ∧ AtR R (n + 1 + locN cs) (rowsT (n + 1 + locN cs) b) ∧
      R[n + 1 + (locN cs + sizeT b)]? = some ⟨"end", [], if o = .loop then n else n + 1 + (locN cs + sizeT b) + 1, 0⟩ ∧ AtR R (n + 1 + (locN cs + sizeT b) + 1) (rowsT (n + 1 + (locN cs + sizeT b) + 1) r) := by
  rw [rowsT] at h
  obtain ⟨h0, h1⟩ := h.cons
  rw [List.append_assoc] at h1
  obtain ⟨h2, h3⟩ := h1.app
  rw [locRows_len] at h3
  obtain ⟨h4, h5⟩ := h3.app
  rw [rows_len, Nat.add_assoc (n + 1)] at h5
  obtain ⟨h6, h7⟩ := h5.cons
  exact ⟨h0, h2, h4, h6, h7⟩
theorem at_two {R : List RowM} {n : Nat} {o : Op} {cs cs' : List Str} {b b' r : T} (h : AtR R n (rowsT n (.two o cs b cs' b' r))) :
    R[n]? = some ⟨o.word, o.names, n + 1, n + 1 + (locN cs + sizeT b) + 1⟩ ∧ AtR R (n + 1) (locRows (n + 1) cs) ∧ AtR R (n + 1 + locN cs) (rowsT (n + 1 + locN cs) b) ∧
      R[n + 1 + (locN cs + sizeT b)]? = some ⟨"else", [], n + 1 + (locN cs + sizeT b) + 1 + (locN cs' + sizeT b'), 0⟩ ∧ AtR R (n + 1 + (locN cs + sizeT b) + 1) (locRows (n + 1 + (locN cs + sizeT b) + 1) cs') ∧
      AtR R (n + 1 + (locN cs + sizeT b) + 1 + locN cs') (rowsT (n + 1 + (locN cs + sizeT b) + 1 + locN cs') b') ∧ R[n + 1 + (locN cs + sizeT b) + 1 + (locN cs' + sizeT b')]? = some ⟨"end", [], n + 1 + (locN cs + sizeT b) + 1 + (locN cs' + sizeT b') + 1, 0⟩ ∧
      AtR R (n + 1 + (locN cs + sizeT b) + 1 + (locN cs' + sizeT b') + 1) (rowsT (n + 1 + (locN cs + sizeT b) + 1 + (locN cs' + sizeT b') + 1) r) := by
  rw [rowsT] at h
  obtain ⟨h0, h1⟩ := h.cons
  rw [List.append_assoc] at h1
  obtain ⟨h2, h3⟩ := h1.app
  rw [locRows_len] at h3
  obtain ⟨h4, h5⟩ := h3.app
  rw [rows_len, Nat.add_assoc (n + 1)] at h5
  obtain ⟨h6, h7⟩ := h5.cons
  rw [List.append_assoc] at h7
  obtain ⟨h8, h9⟩ := h7.app
  rw [locRows_len] at h9
  obtain ⟨h10, h11⟩ := h9.app
  rw [rows_len, Nat.add_assoc (n + 1 + (locN cs + sizeT b) + 1)] at h11
  obtain ⟨h12, h13⟩ := h11.cons
  exact ⟨h0, h2, h4, h6, h8, h10, h12, h13⟩
/-- from a body's beginning one comes to its first line -/
theorem land_T {R : List RowM} : ∀ (t : T) (n g : Nat), ok2 t → AtR R n (rowsT n t) → LandP R (n + sizeT t) g → LandP R n (firstT n t g)
  | .nil, n, g, _, _, hl => hl
  | .deed d r, n, g, _, h, hl => by
    rw [rowsT] at h
    exact .stop h.cons.1 (pass_deed d _ _)
  | .one o cs b r, n, g, ok, h, hl => by
    obtain ⟨h0, h1, h2, h3, h4⟩ := at_one h
    cases o with
    | block =>
      rw [sizeT] at hl
      have hr := land_T r (n + 1 + (locN cs + sizeT b) + 1) g ok.2 h4 (by rw [show n + 1 + (locN cs + sizeT b) + 1 + sizeT r = n + (1 + (locN cs + sizeT b) + 1 + sizeT r) by omega]; exact hl)
      rw [if_neg (show ¬ Op.block = .loop by intro z; cases z)] at h3
      have he : LandP R (n + 1 + (locN cs + sizeT b)) (firstT (n + 1 + (locN cs + sizeT b) + 1) r g) := .pass h3 (pass_end _ _ _) (Nat.lt_succ_self _) hr
      have hb := land_T b (n + 1 + locN cs) _ ok.1 h2 (by rw [Nat.add_assoc (n + 1)]; exact he)
      exact .pass h0 (pass_op .block _ _) (Nat.lt_succ_self n) (land_loc h1 hb)
    | loop => exact .stop h0 (pass_op .loop _ _)
    | maybe => exact .stop h0 (pass_op .maybe _ _)
    | same x y => exact .stop h0 (pass_op (.same x y) _ _)
  | .two o cs b cs' b' r, n, g, ok, h, hl => by
    obtain ⟨h0, _⟩ := at_two h
    cases o with
    | block => cases ok.1
    | loop => cases ok.1
    | maybe => exact .stop h0 (pass_op .maybe _ _)
    | same x y => exact .stop h0 (pass_op (.same x y) _ _)
/-! ### find_ways -/
def wayRow (R : List RowM) (r : RowM) : RowM := if passR r = true then r else { r with after := (landM R 100 r.after).getD 0, other := (landM R 100 r.other).getD 0 }
/-- as far as one lands, two sheets of rows are the same -/
structure Agree (R S : List RowM) : Prop where
  len : R.length = S.length
  at_ : ∀ (i : Nat) (r : RowM), R[i]? = some r → ∃ s, S[i]? = some s ∧ s.word = r.word ∧ (passR r = true → s = r)
theorem Agree.land {R S : List RowM} (A : Agree R S) : ∀ (k n : Nat), landM S k n = landM R k n
  | 0, _ => rfl
  | k + 1, n => by
    rw [land_succ, land_succ, A.len]
    by_cases hn : n < S.length
    · rw [if_pos hn, if_pos hn]
      have hr : n < R.length := by rw [A.len]; exact hn
      obtain ⟨s, hs, hw, hp⟩ := A.at_ n _ (List.getElem?_eq_getElem hr)
      rw [hs, List.getElem?_eq_getElem hr]
      dsimp only
      rw [hw]
      by_cases c : passL.contains R[n].word = true
      · rw [if_pos c, if_pos c, hp c]
        exact A.land k _
      · rw [if_neg c, if_neg c]
    · rw [if_neg hn, if_neg hn]
theorem ways_map {R : List RowM} (h : ∀ (i : Nat) (r : RowM), R[i]? = some r → passR r = false → (landM R 100 r.after).isSome = true ∧ (landM R 100 r.other).isSome = true) : ∀ (k i : Nat), i + k = R.length →
    waysM 100 k i ((R.take i).map (wayRow R) ++ R.drop i) = some (R.map (wayRow R)) := by
  have ag : ∀ (i : Nat), Agree R ((R.take i).map (wayRow R) ++ R.drop i) := fun i => by
    refine ⟨by rw [List.length_append, List.length_map, List.length_take, List.length_drop]; omega, fun j r hj => ?_⟩
    have hjl := (List.getElem?_eq_some_iff.mp hj).1
    by_cases c : j < i
    · refine ⟨wayRow R r, ?_, ?_, ?_⟩
      · rw [List.getElem?_append_left (by rw [List.length_map, List.length_take]; omega), List.getElem?_map, List.getElem?_take, if_pos c, hj]
        rfl
      · unfold wayRow; split <;> rfl
      · intro hp; unfold wayRow; rw [if_pos hp]
    · refine ⟨r, ?_, rfl, fun _ => rfl⟩
      rw [List.getElem?_append_right (by rw [List.length_map, List.length_take]; omega), List.length_map, List.length_take, List.getElem?_drop, ← hj]
      congr 1
      omega
  intro k
  induction k with
  | zero =>
    intro i hi
    have : i = R.length := by omega
    subst this
    show some _ = _
    rw [List.take_length, List.drop_length, List.append_nil]
  | succ k ih =>
    intro i hi
    have hil : i < R.length := by omega
    have hlen : ((R.take i).map (wayRow R)).length = i := by rw [List.length_map, List.length_take]; omega
    have ed : R.drop i = R[i] :: R.drop (i + 1) := List.drop_eq_getElem_cons hil
    have eRi := List.getElem?_eq_getElem hil
    have et : R.take (i + 1) = R.take i ++ [R[i]] := by rw [List.take_add_one, eRi]; rfl
    have eS : ((R.take i).map (wayRow R) ++ R.drop i)[i]? = some R[i] := by
      rw [ed, List.getElem?_append_right (by omega), hlen, Nat.sub_self]
      rfl
    have key : wayM 100 ((R.take i).map (wayRow R) ++ R.drop i) i = some ((R.take (i + 1)).map (wayRow R) ++ R.drop (i + 1)) := by
      unfold wayM
      rw [eS]
      dsimp only
      by_cases c : passL.contains R[i].word = true
      · rw [if_pos c, et, List.map_append, List.append_assoc, ed]
        show some (_ ++ R[i] :: _) = some (_ ++ ([wayRow R R[i]] ++ _))
        have : wayRow R R[i] = R[i] := by unfold wayRow; rw [if_pos (show passR R[i] = true from c)]
        rw [this]
        rfl
      · rw [if_neg c]
        have cp : passR R[i] = false := by
          cases e : passR R[i] with
          | false => rfl
          | true => exact absurd e c
        obtain ⟨ha, ho⟩ := h i R[i] eRi cp
        rw [(ag i).land 100]
        obtain ⟨a, ea⟩ := Option.isSome_iff_exists.mp ha
        obtain ⟨o, eo⟩ := Option.isSome_iff_exists.mp ho
        rw [ea]
        show (landM (((R.take i).map (wayRow R) ++ R.drop i).set i { R[i] with after := a }) 100 R[i].other).map _ = _
        have ag2 : Agree R (((R.take i).map (wayRow R) ++ R.drop i).set i { R[i] with after := a }) := by
          refine ⟨by rw [List.length_set]; exact (ag i).len, fun j r hj => ?_⟩
          by_cases cj : j = i
          · subst cj
            rw [eRi] at hj
            cases hj
            exact ⟨_, List.getElem?_set_self (by rw [← (ag j).len]; exact hil), rfl, fun z => by rw [cp] at z; cases z⟩
          · rw [List.getElem?_set_ne (Ne.symm cj)]
            exact (ag i).at_ j r hj
        rw [ag2.land 100, eo]
        show some (((R.take i).map (wayRow R) ++ R.drop i).set i _) = _
        rw [ed, List.set_append_right _ _ (by omega), hlen, Nat.sub_self, et, List.map_append, List.append_assoc]
        have : wayRow R R[i] = { R[i] with after := a, other := o } := by
          unfold wayRow
          rw [cp, if_neg Bool.false_ne_true, ea, eo]
          rfl
        show some (_ ++ _ :: _) = some (_ ++ ([wayRow R R[i]] ++ _))
        rw [this]
        rfl
    show (wayM 100 _ i).bind (fun r => waysM 100 k (i + 1) r) = _
    rw [key]
    exact ih (i + 1) (by omega)
end FP
set_option Elab.async false
set_option linter.all false
set_option maxRecDepth 100000
set_option maxHeartbeats 4000000
namespace FP
open PySem TL
def Fine (R : List RowM) (r : RowM) : Prop := passR r = false → (landM R 100 r.after).isSome = true ∧ (landM R 100 r.other).isSome = true
theorem way_pass {R : List RowM} {r : RowM} (h : passR r = true) : wayRow R r = r := by unfold wayRow; rw [if_pos h]
theorem way_ok {R : List RowM} {r : RowM} {a o : Nat} (h : passR r = false) (ha : landM R 100 r.after = some a) (ho : landM R 100 r.other = some o) : wayRow R r = ⟨r.word, r.names, a, o⟩ := by
  unfold wayRow
  rw [h, if_neg Bool.false_ne_true, ha, ho]
  rfl
theorem fine_pass {R : List RowM} {r : RowM} (h : passR r = true) : Fine R r := fun z => by rw [h] at z; cases z
theorem fine_ok {R : List RowM} {r : RowM} {a o : Nat} (ha : landM R 100 r.after = some a) (ho : landM R 100 r.other = some o) : Fine R r := fun _ => by rw [ha, ho]; exact ⟨rfl, rfl⟩
theorem fin_loc (R : List RowM) (n : Nat) (cs : List Str) : (locRows n cs).map (wayRow R) = locRows n cs ∧ ∀ r ∈ locRows n cs, Fine R r := by
  unfold locRows
  split
  · exact ⟨rfl, fun r h => by cases h⟩
  · refine ⟨?_, fun r h => by rw [List.mem_singleton.mp h]; exact fine_pass (pass_local _ _ _)⟩
    rw [List.map_singleton, way_pass (pass_local _ _ _)]
theorem fin_T {R : List RowM} (hR : R.length ≤ 98) (h0 : landM R 100 0 = some 0) : ∀ (t : T) (n g : Nat), ok2 t → AtR R n (rowsT n t) → LandP R (n + sizeT t) g →
    (rowsT n t).map (wayRow R) = finT n t g ∧ ∀ r ∈ rowsT n t, Fine R r
  | .nil, n, g, _, _, _ => ⟨rfl, fun r h => by cases h⟩
  | .deed d r, n, g, ok, h, hl => by
    rw [rowsT] at h ⊢
    rw [sizeT] at hl
    obtain ⟨h1, h2⟩ := h.cons
    have hl' : LandP R (n + 1 + sizeT r) g := by rw [Nat.add_assoc]; exact hl
    obtain ⟨e, f⟩ := fin_T hR h0 r (n + 1) g ok h2 hl'
    have ha := (land_T r (n + 1) g ok h2 hl').run hR
    refine ⟨?_, fun x hx => ?_⟩
    · rw [List.map_cons, e, finT, way_ok (pass_deed d _ _) ha h0]
    · rcases List.mem_cons.mp hx with z | z
      · rw [z]; exact fine_ok ha h0
      · exact f x z
  | .one o cs b r, n, g, ok, h, hl => by
    obtain ⟨q0, q1, q2, q3, q4⟩ := at_one h
    rw [sizeT] at hl
    have hl' : LandP R (n + 1 + (locN cs + sizeT b) + 1 + sizeT r) g := by rw [show n + 1 + (locN cs + sizeT b) + 1 + sizeT r = n + (1 + (locN cs + sizeT b) + 1 + sizeT r) by omega]; exact hl
    have hr := land_T r (n + 1 + (locN cs + sizeT b) + 1) g ok.2 q4 hl'
    obtain ⟨er, fr⟩ := fin_T hR h0 r (n + 1 + (locN cs + sizeT b) + 1) g ok.2 q4 hl'
    -- the line that closes, and the body
    have hend : LandP R (n + 1 + (locN cs + sizeT b)) (if o = .loop then n else firstT (n + 1 + (locN cs + sizeT b) + 1) r g) := by
      by_cases c : o = .loop
      · subst c
        rw [if_pos rfl] at q3 ⊢
        exact .back q3 (pass_end _ _ _) q0 (pass_op .loop _ _)
      · rw [if_neg c] at q3 ⊢
        exact .pass q3 (pass_end _ _ _) (Nat.lt_succ_self _) hr
    have hend' : LandP R (n + 1 + locN cs + sizeT b) (if o = .loop then n else firstT (n + 1 + (locN cs + sizeT b) + 1) r g) := by rw [Nat.add_assoc (n + 1)]; exact hend
    obtain ⟨eb, fb⟩ := fin_T hR h0 b (n + 1 + locN cs) _ ok.1 q2 hend'
    have hb := land_loc q1 (land_T b (n + 1 + locN cs) _ ok.1 q2 hend')
    obtain ⟨el, fl⟩ := fin_loc R (n + 1) cs
    have top : wayRow R ⟨o.word, o.names, n + 1, n + 1 + (locN cs + sizeT b) + 1⟩ = opRow o n (n + 1 + (locN cs + sizeT b) + 1) (firstT (n + 1 + locN cs) b (firstT (n + 1 + (locN cs + sizeT b) + 1) r g)) (firstT (n + 1 + locN cs) b n) (firstT (n + 1 + (locN cs + sizeT b) + 1) r g) ∧ Fine R ⟨o.word, o.names, n + 1, n + 1 + (locN cs + sizeT b) + 1⟩ := by
      cases o with
      | block => exact ⟨way_pass (pass_op .block _ _), fine_pass (pass_op .block _ _)⟩
      | loop =>
        rw [if_pos rfl] at hb
        exact ⟨way_ok (pass_op .loop _ _) (hb.run hR) (hr.run hR), fine_ok (hb.run hR) (hr.run hR)⟩
      | maybe =>
        rw [if_neg (by intro z; cases z)] at hb
        exact ⟨way_ok (pass_op .maybe _ _) (hb.run hR) (hr.run hR), fine_ok (hb.run hR) (hr.run hR)⟩
      | same x y =>
        rw [if_neg (by intro z; cases z)] at hb
        exact ⟨way_ok (pass_op (.same x y) _ _) (hb.run hR) (hr.run hR), fine_ok (hb.run hR) (hr.run hR)⟩
    rw [rowsT, finT]
    refine ⟨?_, fun x hx => ?_⟩
    · rw [List.map_cons, top.1, List.map_append, List.map_append, List.map_cons, el, eb, er, way_pass (pass_end _ _ _)]
    · rcases List.mem_cons.mp hx with z | z
      · rw [z]; exact top.2
      rcases List.mem_append.mp z with z | z
      · rcases List.mem_append.mp z with z | z
        · exact fl x z
        · exact fb x z
      rcases List.mem_cons.mp z with z | z
      · rw [z]; exact fine_pass (pass_end _ _ _)
      · exact fr x z
  | .two o cs b cs' b' r, n, g, ok, h, hl => by
    obtain ⟨q0, q1, q2, q3, q4, q5, q6, q7⟩ := at_two h
    obtain ⟨ok0, ok1, ok1', ok3⟩ := ok
    rw [sizeT] at hl
    have hl' : LandP R (n + 1 + (locN cs + sizeT b) + 1 + (locN cs' + sizeT b') + 1 + sizeT r) g := by
      rw [show n + 1 + (locN cs + sizeT b) + 1 + (locN cs' + sizeT b') + 1 + sizeT r = n + (1 + (locN cs + sizeT b) + 1 + (locN cs' + sizeT b') + 1 + sizeT r) by omega]; exact hl
    have hr := land_T r _ g ok3 q7 hl'
    obtain ⟨er, fr⟩ := fin_T hR h0 r _ g ok3 q7 hl'
    have hend : LandP R (n + 1 + (locN cs + sizeT b) + 1 + (locN cs' + sizeT b')) (firstT (n + 1 + (locN cs + sizeT b) + 1 + (locN cs' + sizeT b') + 1) r g) := .pass q6 (pass_end _ _ _) (Nat.lt_succ_self _) hr
    have helse : LandP R (n + 1 + (locN cs + sizeT b)) (firstT (n + 1 + (locN cs + sizeT b) + 1 + (locN cs' + sizeT b') + 1) r g) := .pass q3 (pass_else _ _ _) (by show n + 1 + (locN cs + sizeT b) < n + 1 + (locN cs + sizeT b) + 1 + (locN cs' + sizeT b'); omega) hend
    have helse' : LandP R (n + 1 + locN cs + sizeT b) (firstT (n + 1 + (locN cs + sizeT b) + 1 + (locN cs' + sizeT b') + 1) r g) := by rw [Nat.add_assoc (n + 1)]; exact helse
    have hend' : LandP R (n + 1 + (locN cs + sizeT b) + 1 + locN cs' + sizeT b') (firstT (n + 1 + (locN cs + sizeT b) + 1 + (locN cs' + sizeT b') + 1) r g) := by rw [Nat.add_assoc (n + 1 + (locN cs + sizeT b) + 1)]; exact hend
    obtain ⟨eb, fb⟩ := fin_T hR h0 b (n + 1 + locN cs) _ ok1 q2 helse'
    obtain ⟨eb', fb'⟩ := fin_T hR h0 b' _ _ ok1' q5 hend'
    have hb := land_loc q1 (land_T b (n + 1 + locN cs) _ ok1 q2 helse')
    have hb' := land_loc q4 (land_T b' _ _ ok1' q5 hend')
    obtain ⟨el, fl⟩ := fin_loc R (n + 1) cs
    obtain ⟨el', fl'⟩ := fin_loc R (n + 1 + (locN cs + sizeT b) + 1) cs'
    have np : passR ⟨o.word, o.names, n + 1, n + 1 + (locN cs + sizeT b) + 1⟩ = false := by
      rw [pass_op]
      cases o with
      | block => cases ok0
      | loop => cases ok0
      | maybe => rfl
      | same x y => exact decide_eq_false (by intro z; cases z)
    rw [rowsT, finT]
    refine ⟨?_, fun x hx => ?_⟩
    · rw [List.map_cons, way_ok np (hb.run hR) (hb'.run hR), List.map_append, List.map_append, List.map_cons, List.map_append, List.map_append, List.map_cons, el, eb, el', eb', er, way_pass (pass_end _ _ _), way_pass (pass_else _ _ _)]
    · rcases List.mem_cons.mp hx with z | z
      · rw [z]; exact fine_ok (hb.run hR) (hb'.run hR)
      rcases List.mem_append.mp z with z | z
      · rcases List.mem_append.mp z with z | z
        · exact fl x z
        · exact fb x z
      rcases List.mem_cons.mp z with z | z
      · rw [z]; exact fine_pass (pass_else _ _ _)
      rcases List.mem_append.mp z with z | z
      · rcases List.mem_append.mp z with z | z
        · exact fl' x z
        · exact fb' x z
      rcases List.mem_cons.mp z with z | z
      · rw [z]; exact fine_pass (pass_end _ _ _)
      · exact fr x z
/-- the rows of a program, at the end -/
def rowsP (cs : List Str) (t : T) : List RowM := ⟨"", [], firstT (1 + locN cs) t 0, 0⟩ :: (locRows 1 cs ++ finT (1 + locN cs) t 0)
def sheetP (cs : List Str) (t : T) : ShM := ⟨rowsP cs t, homesP cs t, aroundP cs t, [0]⟩
theorem at_self (pre l : List RowM) : AtR (pre ++ l) pre.length l := ⟨pre, [], by rw [List.append_nil], rfl⟩
theorem read_P {cs : List Str} {t : T} {most : Nat} (W : WfP cs t) (hm : sizeP cs t ≤ most) (h90 : sizeP cs t ≤ 90) : readM (textP cs t) most = some (sheetP cs t) := by
  rw [readM_P W hm]
  have ok := ok2_wf t cs 5 W.wf
  have hlen : (rows0 cs t).length = 1 + sizeP cs t := rows0_len cs t
  have hR : (rows0 cs t).length ≤ 98 := by rw [hlen]; omega
  have r0 : (rows0 cs t)[0]? = some ⟨"", [], 1, 0⟩ := rfl
  have h0 : landM (rows0 cs t) 100 0 = some 0 := (LandP.stop r0 (pass_text _ _ _)).run hR
  have hat : AtR (rows0 cs t) 1 (locRows 1 cs ++ rowsT (1 + locN cs) t) := at_self [⟨"", [], 1, 0⟩] _
  obtain ⟨a1, a2⟩ := hat.app
  rw [locRows_len] at a2
  have hlast : LandP (rows0 cs t) (1 + locN cs + sizeT t) 0 := by
    have := LandP.last (R := rows0 cs t)
    rw [hlen] at this
    unfold sizeP at this
    rw [Nat.add_assoc]
    exact this
  obtain ⟨e, f⟩ := fin_T hR h0 t (1 + locN cs) 0 ok a2 hlast
  have hfirst := (land_loc a1 (land_T t (1 + locN cs) 0 ok a2 hlast)).run hR
  obtain ⟨el, fl⟩ := fin_loc (rows0 cs t) 1 cs
  have fine : ∀ r ∈ rows0 cs t, Fine (rows0 cs t) r := fun r hr => by
    rcases List.mem_cons.mp hr with z | z
    · rw [z]; exact fine_ok hfirst h0
    rcases List.mem_append.mp z with z | z
    · exact fl r z
    · exact f r z
  have hw := ways_map (R := rows0 cs t) (fun i r hi hp => fine r (List.mem_of_getElem? hi) hp) (rows0 cs t).length 0 (by omega)
  rw [List.take_zero, List.map_nil, List.nil_append, List.drop_zero, hlen] at hw
  rw [hw]
  show some (⟨(rows0 cs t).map (wayRow (rows0 cs t)), _, _, _⟩ : ShM) = some (sheetP cs t)
  have er : (rows0 cs t).map (wayRow (rows0 cs t)) = rowsP cs t := by
    conv => lhs; arg 2; unfold rows0
    rw [List.map_cons, List.map_append, el, e, way_ok (pass_text _ _ _) hfirst h0]
    rfl
  rw [er]
  rfl
end FP
set_option Elab.async false
set_option linter.all false
set_option maxRecDepth 100000
set_option maxHeartbeats 4000000
/-! Runs, step by step. -/
namespace FP
open PySem PySem.Spec PyProof.Rows L2 TL
/-- from M with xs to M' with ys, telling evs -/
def Reach (rows : List RowM) (M : RunM) (xs : List Int) (evs : List Ev) (M' : RunM) (ys : List Int) : Prop := ∀ f r, goM rows f M' ys = some r → ∃ f', goM rows f' M xs = some (evs ++ r)
theorem Reach.refl {rows : List RowM} {M : RunM} {xs : List Int} : Reach rows M xs [] M xs := fun f r h => ⟨f, h⟩
theorem Reach.trans {rows : List RowM} {M M1 M2 : RunM} {xs ys zs : List Int} {e1 e2 : List Ev} (a : Reach rows M xs e1 M1 ys) (b : Reach rows M1 ys e2 M2 zs) : Reach rows M xs (e1 ++ e2) M2 zs := by
  intro f r h
  obtain ⟨f1, h1⟩ := b f r h
  obtain ⟨f2, h2⟩ := a f1 _ h1
  exact ⟨f2, by rw [List.append_assoc]; exact h2⟩
theorem Reach.step {rows : List RowM} {M M' : RunM} {xs ys : List Int} {m : RowM} {evs : List Ev} (h0 : M.line ≠ 0) (hm : rows[M.line]? = some m) (hg : okG m M xs = true) (hs : advM m M xs = some (evs, M', ys)) : Reach rows M xs evs M' ys := by
  intro f r h
  refine ⟨f + 1, ?_⟩
  show (if M.line = 0 then some [] else (match rows[M.line]? with
      | some m => if okG m M xs = true then (advM m M xs).bind fun r => (goM rows f r.2.1 r.2.2).map (r.1 ++ ·) else none
      | none => none)) = _
  rw [if_neg h0, hm]
  dsimp only
  rw [if_pos hg, hs]
  show (goM rows f M' ys).map (evs ++ ·) = _
  rw [h]
  rfl
theorem Reach.run {rows : List RowM} {M M' : RunM} {xs ys : List Int} {evs : List Ev} (a : Reach rows M xs evs M' ys) (h0 : M'.line = 0) : ∃ f, goM rows f M xs = some evs := by
  obtain ⟨f, h⟩ := a 1 [] (by show (if M'.line = 0 then some [] else _) = _; rw [if_pos h0])
  exact ⟨f, by rw [List.append_nil] at h; exact h⟩
theorem line_input {ns : List Str} {a b : Nat} (M : RunM) (xs : List Int) : lineM ⟨"input", ns, a, b⟩ M xs = inputM ⟨"input", ns, a, b⟩ M xs := by
  unfold lineM
  dsimp only
  rw [if_pos rfl]
theorem line_copy {ns : List Str} {a b : Nat} (M : RunM) (xs : List Int) : lineM ⟨"copy", ns, a, b⟩ M xs = copyM ⟨"copy", ns, a, b⟩ M xs := by
  unfold lineM
  dsimp only
  rw [if_neg (show ¬ ("copy" : Str) = "input" by decide), if_pos rfl]
theorem line_point {ns : List Str} {a b : Nat} (M : RunM) (xs : List Int) : lineM ⟨"point", ns, a, b⟩ M xs = pointM ⟨"point", ns, a, b⟩ M xs := by
  unfold lineM
  dsimp only
  rw [if_neg (show ¬ ("point" : Str) = "input" by decide), if_neg (show ¬ ("point" : Str) = "copy" by decide), if_pos rfl]
theorem line_load {ns : List Str} {a b : Nat} (M : RunM) (xs : List Int) : lineM ⟨"load", ns, a, b⟩ M xs = loadM ⟨"load", ns, a, b⟩ M xs := by
  unfold lineM
  dsimp only
  rw [if_neg (show ¬ ("load" : Str) = "input" by decide), if_neg (show ¬ ("load" : Str) = "copy" by decide), if_neg (show ¬ ("load" : Str) = "point" by decide), if_pos rfl]
theorem line_store {ns : List Str} {a b : Nat} (M : RunM) (xs : List Int) : lineM ⟨"store", ns, a, b⟩ M xs = storeM ⟨"store", ns, a, b⟩ M xs := by
  unfold lineM
  dsimp only
  rw [if_neg (show ¬ ("store" : Str) = "input" by decide), if_neg (show ¬ ("store" : Str) = "copy" by decide), if_neg (show ¬ ("store" : Str) = "point" by decide), if_neg (show ¬ ("store" : Str) = "load" by decide), if_pos rfl]
theorem line_use {ns : List Str} {a b : Nat} (M : RunM) (xs : List Int) : lineM ⟨"use", ns, a, b⟩ M xs = useM ⟨"use", ns, a, b⟩ M xs := by
  unfold lineM
  dsimp only
  rw [if_neg (show ¬ ("use" : Str) = "input" by decide), if_neg (show ¬ ("use" : Str) = "copy" by decide), if_neg (show ¬ ("use" : Str) = "point" by decide), if_neg (show ¬ ("use" : Str) = "load" by decide), if_neg (show ¬ ("use" : Str) = "store" by decide), if_pos rfl]
theorem line_call {ns : List Str} {a b : Nat} (M : RunM) (xs : List Int) : lineM ⟨"call", ns, a, b⟩ M xs = callM ⟨"call", ns, a, b⟩ M xs := by
  unfold lineM
  dsimp only
  rw [if_neg (show ¬ ("call" : Str) = "input" by decide), if_neg (show ¬ ("call" : Str) = "copy" by decide), if_neg (show ¬ ("call" : Str) = "point" by decide), if_neg (show ¬ ("call" : Str) = "load" by decide), if_neg (show ¬ ("call" : Str) = "store" by decide), if_neg (show ¬ ("call" : Str) = "use" by decide), if_pos rfl]
theorem line_same {ns : List Str} {a b : Nat} (M : RunM) (xs : List Int) : lineM ⟨"same", ns, a, b⟩ M xs = sameLM ⟨"same", ns, a, b⟩ M xs := by
  unfold lineM
  dsimp only
  rw [if_neg (show ¬ ("same" : Str) = "input" by decide), if_neg (show ¬ ("same" : Str) = "copy" by decide), if_neg (show ¬ ("same" : Str) = "point" by decide), if_neg (show ¬ ("same" : Str) = "load" by decide), if_neg (show ¬ ("same" : Str) = "store" by decide), if_neg (show ¬ ("same" : Str) = "use" by decide), if_neg (show ¬ ("same" : Str) = "call" by decide), if_pos rfl]
theorem line_loop {ns : List Str} {a b : Nat} (M : RunM) (xs : List Int) : lineM ⟨"loop", ns, a, b⟩ M xs = loopM ⟨"loop", ns, a, b⟩ M xs := by
  unfold lineM
  dsimp only
  rw [if_neg (show ¬ ("loop" : Str) = "input" by decide), if_neg (show ¬ ("loop" : Str) = "copy" by decide), if_neg (show ¬ ("loop" : Str) = "point" by decide), if_neg (show ¬ ("loop" : Str) = "load" by decide), if_neg (show ¬ ("loop" : Str) = "store" by decide), if_neg (show ¬ ("loop" : Str) = "use" by decide), if_neg (show ¬ ("loop" : Str) = "call" by decide), if_neg (show ¬ ("loop" : Str) = "same" by decide), if_pos rfl]
theorem line_maybe {ns : List Str} {a b : Nat} (M : RunM) (xs : List Int) : lineM ⟨"maybe", ns, a, b⟩ M xs = maybeM ⟨"maybe", ns, a, b⟩ M xs := by
  unfold lineM
  dsimp only
  rw [if_neg (show ¬ ("maybe" : Str) = "input" by decide), if_neg (show ¬ ("maybe" : Str) = "copy" by decide), if_neg (show ¬ ("maybe" : Str) = "point" by decide), if_neg (show ¬ ("maybe" : Str) = "load" by decide), if_neg (show ¬ ("maybe" : Str) = "store" by decide), if_neg (show ¬ ("maybe" : Str) = "use" by decide), if_neg (show ¬ ("maybe" : Str) = "call" by decide), if_neg (show ¬ ("maybe" : Str) = "same" by decide), if_neg (show ¬ ("maybe" : Str) = "loop" by decide), if_pos rfl]
theorem okG_of {m : RowM} {M : RunM} {xs : List Int} (h : M.okB = true) (hx : xs.length ≤ 1000000) (hn : ∀ x ∈ m.names, x.length ≤ 1000) : okG m M xs = true := by
  unfold okG
  rw [h, decide_eq_true hx, Bool.true_and, Bool.true_and, List.all_eq_true]
  exact fun x hx => decide_eq_true (hn x hx)
/-- a state from which a line is done -/
structure On (rows : List RowM) (M : RunM) (xs : List Int) (m : RowM) : Prop where
  cal : M.calling = false
  ln : M.line ≠ 0
  ok : M.okB = true
  xl : xs.length ≤ 1000000
  row : rows[M.line]? = some m
  nm : ∀ x ∈ m.names, x.length ≤ 1000
section
variable {rows : List RowM} {M M1 : RunM} {xs : List Int} {m : RowM} {n o : Nat} {c d : Str} {x y : W}
theorem On.step {evs : List Ev} {M' : RunM} {ys : List Int} (h : On rows M xs m) (hs : lineM m M xs = some (evs, M', ys)) : Reach rows M xs evs M' ys :=
  .step h.ln h.row (okG_of h.ok h.xl h.nm) (by unfold advM; rw [h.cal, if_neg Bool.false_ne_true]; exact hs)
theorem Reach.use (h : On rows M xs ⟨"use", [c], n, o⟩) (hx : worthM M c = some x) : Reach rows M xs [.rd M.line c x] (goR M n) xs :=
  h.step (by
    rw [line_use]
    unfold useM
    dsimp only
    rw [hx]
    rfl)
theorem Reach.input {v : Int} (h : On rows M (v :: xs) ⟨"input", [c], n, o⟩) (hw : writeM M c (.i v) = some M1) : Reach rows M (v :: xs) [.wr M.line c (.i v)] (goR M1 n) xs :=
  h.step (by
    rw [line_input]
    unfold inputM
    dsimp only
    rw [hw]
    rfl)
theorem Reach.inputStop (h : On rows M [] ⟨"input", [c], n, o⟩) : Reach rows M [] [] (stopR M) [] := h.step (by rw [line_input]; rfl)
theorem Reach.copy (h : On rows M xs ⟨"copy", [c, d], n, o⟩) (hx : worthM M c = some x) (hw : writeM M d x = some M1) : Reach rows M xs [.rd M.line c x, .wr M.line d x] (goR M1 n) xs :=
  h.step (by
    rw [line_copy]
    unfold copyM trM
    dsimp only
    rw [hx]
    show (((writeM M d x).map _).map _) = _
    rw [hw]
    rfl)
theorem Reach.point (h : On rows M xs ⟨"point", [c, d], n, o⟩) (hw : writeM M c (.a d) = some M1) : Reach rows M xs [.wr M.line c (.a d)] (goR M1 n) xs :=
  h.step (by
    rw [line_point]
    unfold pointM
    dsimp only
    rw [hw]
    rfl)
theorem Reach.load {s : Str} (h : On rows M xs ⟨"load", [c, d], n, o⟩) (hp : worthM M d = some (.a s)) (hx : worthM M s = some x) (hw : writeM M c x = some M1) : Reach rows M xs [.rd M.line d (.a s), .rd M.line s x, .wr M.line c x] (goR M1 n) xs :=
  h.step (by
    rw [line_load]
    unfold loadM trM
    dsimp only
    rw [hp]
    show ((worthM M s).bind _).map _ = _
    rw [hx]
    show (((writeM M c x).map _).map _) = _
    rw [hw]
    rfl)
theorem Reach.loadStop (h : On rows M xs ⟨"load", [c, d], n, o⟩) (hp : worthM M d = some x) (hx : x.cell = none) : Reach rows M xs [.rd M.line d x] (stopR M) xs :=
  h.step (by
    rw [line_load]
    unfold loadM
    dsimp only
    rw [hp]
    show (match x.cell with | none => _ | some s => _) = _
    rw [hx])
theorem Reach.store {s : Str} (h : On rows M xs ⟨"store", [c, d], n, o⟩) (hp : worthM M d = some (.a s)) (hx : worthM M c = some x) (hw : writeM M s x = some M1) : Reach rows M xs [.rd M.line d (.a s), .rd M.line c x, .wr M.line s x] (goR M1 n) xs :=
  h.step (by
    rw [line_store]
    unfold storeM trM
    dsimp only
    rw [hp]
    show ((worthM M c).bind _).map _ = _
    rw [hx]
    show (((writeM M s x).map _).map _) = _
    rw [hw]
    rfl)
theorem Reach.storeStop (h : On rows M xs ⟨"store", [c, d], n, o⟩) (hp : worthM M d = some x) (hx : x.cell = none) : Reach rows M xs [.rd M.line d x] (stopR M) xs :=
  h.step (by
    rw [line_store]
    unfold storeM
    dsimp only
    rw [hp]
    show (match x.cell with | none => _ | some s => _) = _
    rw [hx])
theorem Reach.same {k : Bool} (h : On rows M xs ⟨"same", [c, d], n, o⟩) (hx : worthM M c = some x) (hy : worthM M d = some y) (hk : sameM M x y = some k) : Reach rows M xs [.rd M.line c x, .rd M.line d y, .sm M.line k] (goR M (if k = true then n else o)) xs :=
  h.step (by
    rw [line_same]
    unfold sameLM
    dsimp only
    rw [hx, hy]
    show (sameM M x y).map _ = _
    rw [hk]
    rfl)
theorem Reach.loop {v : Int} (h : On rows M (v :: xs) ⟨"loop", [], n, o⟩) : Reach rows M (v :: xs) [] (goR M (if v = 0 then o else n)) xs := h.step (by rw [line_loop]; rfl)
theorem Reach.maybe {v : Int} (h : On rows M (v :: xs) ⟨"maybe", [], n, o⟩) : Reach rows M (v :: xs) [] (goR M (if v = 0 then n else o)) xs := h.step (by rw [line_maybe]; rfl)
theorem Reach.loopStop (h : On rows M [] ⟨"loop", [], n, o⟩) : Reach rows M [] [] (stopR M) [] := h.step (by rw [line_loop]; rfl)
theorem Reach.maybeStop (h : On rows M [] ⟨"maybe", [], n, o⟩) : Reach rows M [] [] (stopR M) [] := h.step (by rw [line_maybe]; rfl)
end
end FP
set_option Elab.async false
set_option linter.all false
set_option maxRecDepth 100000
set_option maxHeartbeats 4000000
/-! Where each line of a tree leads. -/
namespace FP
open PySem PySem.Spec PyProof.Rows L2 TL
theorem finT_len : ∀ (t : T) (n g : Nat), (finT n t g).length = sizeT t
  | .nil, _, _ => rfl
  | .deed d r, n, g => by rw [finT, sizeT, List.length_cons, finT_len r]; omega
  | .one o cs b r, n, g => by rw [finT, sizeT, List.length_cons, List.length_append, List.length_append, List.length_cons, finT_len r, finT_len b, locRows_len]; omega
  | .two o cs b cs' b' r, n, g => by rw [finT, sizeT, List.length_cons, List.length_append, List.length_append, List.length_cons, List.length_append, List.length_append, List.length_cons, finT_len r, finT_len b, finT_len b', locRows_len, locRows_len]; omega
/-- a line that is done next: none, a later one, or a loop's -/
def Tgt (R : List RowM) (lo y : Nat) : Prop := y = 0 ∨ ∃ r, R[y]? = some r ∧ passR r = false ∧ (lo ≤ y ∨ r.word = ("loop" : Str))
theorem Tgt.mono {R : List RowM} {lo lo' y : Nat} (h : Tgt R lo y) (hl : lo' ≤ lo) : Tgt R lo' y := by
  rcases h with h | ⟨r, h1, h2, h3⟩
  · exact .inl h
  · exact .inr ⟨r, h1, h2, h3.imp (Nat.le_trans hl) id⟩
inductive RowV (R : List RowM) (cells : List Str) (m : Nat) : RowM → Prop where
  | deed (d : Deed) (a : Nat) (h : ∀ x ∈ d.names, x ∈ cells) (ha : Tgt R (m + 1) a) : RowV R cells m ⟨d.word, d.names, a, 0⟩
  | op (o : Op) (ho : o ≠ .block) (a b : Nat) (h : ∀ x ∈ o.names, x ∈ cells) (ha : Tgt R (m + 1) a) (hb : Tgt R (m + 1) b) : RowV R cells m ⟨o.word, o.names, a, b⟩
theorem at_fin1 {R : List RowM} {n g : Nat} {o : Op} {cs : List Str} {b r : T} (h : AtR R n (finT n (.one o cs b r) g)) :
    R[n]? = some (opRow o n (n + 1 + (locN cs + sizeT b) + 1) (firstT (n + 1 + locN cs) b (firstT (n + 1 + (locN cs + sizeT b) + 1) r g)) (firstT (n + 1 + locN cs) b n) (firstT (n + 1 + (locN cs + sizeT b) + 1) r g)) ∧ AtR R (n + 1) (locRows (n + 1) cs) ∧
      AtR R (n + 1 + locN cs) (finT (n + 1 + locN cs) b (if o = .loop then n else firstT (n + 1 + (locN cs + sizeT b) + 1) r g)) ∧ (∃ a, R[n + 1 + (locN cs + sizeT b)]? = some ⟨"end", [], a, 0⟩) ∧ AtR R (n + 1 + (locN cs + sizeT b) + 1) (finT (n + 1 + (locN cs + sizeT b) + 1) r g) := by
  rw [finT] at h
  obtain ⟨h0, h1⟩ := h.cons
  rw [List.append_assoc] at h1
  obtain ⟨h2, h3⟩ := h1.app
  rw [locRows_len] at h3
  obtain ⟨h4, h5⟩ := h3.app
  rw [finT_len, Nat.add_assoc (n + 1)] at h5
  obtain ⟨h6, h7⟩ := h5.cons
  exact ⟨h0, h2, h4, ⟨_, h6⟩, h7⟩
theorem at_fin2 {R : List RowM} {n g : Nat} {o : Op} {cs cs' : List Str} {b b' r : T} (h : AtR R n (finT n (.two o cs b cs' b' r) g)) :
    R[n]? = some ⟨o.word, o.names, firstT (n + 1 + locN cs) b (firstT (n + 1 + (locN cs + sizeT b) + 1 + (locN cs' + sizeT b') + 1) r g), firstT (n + 1 + (locN cs + sizeT b) + 1 + locN cs') b' (firstT (n + 1 + (locN cs + sizeT b) + 1 + (locN cs' + sizeT b') + 1) r g)⟩ ∧ AtR R (n + 1) (locRows (n + 1) cs) ∧
      AtR R (n + 1 + locN cs) (finT (n + 1 + locN cs) b (firstT (n + 1 + (locN cs + sizeT b) + 1 + (locN cs' + sizeT b') + 1) r g)) ∧ (∃ a, R[n + 1 + (locN cs + sizeT b)]? = some ⟨"else", [], a, 0⟩) ∧ AtR R (n + 1 + (locN cs + sizeT b) + 1) (locRows (n + 1 + (locN cs + sizeT b) + 1) cs') ∧
      AtR R (n + 1 + (locN cs + sizeT b) + 1 + locN cs') (finT (n + 1 + (locN cs + sizeT b) + 1 + locN cs') b' (firstT (n + 1 + (locN cs + sizeT b) + 1 + (locN cs' + sizeT b') + 1) r g)) ∧ (∃ a, R[n + 1 + (locN cs + sizeT b) + 1 + (locN cs' + sizeT b')]? = some ⟨"end", [], a, 0⟩) ∧
      AtR R (n + 1 + (locN cs + sizeT b) + 1 + (locN cs' + sizeT b') + 1) (finT (n + 1 + (locN cs + sizeT b) + 1 + (locN cs' + sizeT b') + 1) r g) := by
  rw [finT] at h
  obtain ⟨h0, h1⟩ := h.cons
  rw [List.append_assoc] at h1
  obtain ⟨h2, h3⟩ := h1.app
  rw [locRows_len] at h3
  obtain ⟨h4, h5⟩ := h3.app
  rw [finT_len, Nat.add_assoc (n + 1)] at h5
  obtain ⟨h6, h7⟩ := h5.cons
  rw [List.append_assoc] at h7
  obtain ⟨h8, h9⟩ := h7.app
  rw [locRows_len] at h9
  obtain ⟨h10, h11⟩ := h9.app
  rw [finT_len, Nat.add_assoc (n + 1 + (locN cs + sizeT b) + 1)] at h11
  obtain ⟨h12, h13⟩ := h11.cons
  exact ⟨h0, h2, h4, ⟨_, h6⟩, h8, h10, ⟨_, h12⟩, h13⟩
theorem fin_first {R : List RowM} : ∀ (t : T) (n g : Nat), ok2 t → AtR R n (finT n t g) → Tgt R (n + sizeT t) g → Tgt R n (firstT n t g)
  | .nil, n, g, _, _, h => h
  | .deed d r, n, g, _, h, _ => by
    rw [finT] at h
    exact .inr ⟨_, h.cons.1, pass_deed d _ _, .inl (Nat.le_refl _)⟩
  | .one o cs b r, n, g, ok, h, hg => by
    obtain ⟨h0, _, h2, _, h4⟩ := at_fin1 h
    cases o with
    | block =>
      rw [sizeT] at hg
      have hr := fin_first r _ g ok.2 h4 (hg.mono (by omega))
      exact (fin_first b _ _ ok.1 h2 (hr.mono (by omega))).mono (by omega)
    | loop => exact .inr ⟨_, h0, pass_op .loop _ _, .inl (Nat.le_refl _)⟩
    | maybe => exact .inr ⟨_, h0, pass_op .maybe _ _, .inl (Nat.le_refl _)⟩
    | same x y => exact .inr ⟨_, h0, pass_op (.same x y) _ _, .inl (Nat.le_refl _)⟩
  | .two o cs b cs' b' r, n, g, ok, h, hg => by
    obtain ⟨h0, _⟩ := at_fin2 h
    cases o with
    | block => cases ok.1
    | loop => cases ok.1
    | maybe => exact .inr ⟨_, h0, pass_op .maybe _ _, .inl (Nat.le_refl _)⟩
    | same x y => exact .inr ⟨_, h0, pass_op (.same x y) _ _, .inl (Nat.le_refl _)⟩
theorem loc_pass {R : List RowM} {n : Nat} {cs : List Str} (h : AtR R n (locRows n cs)) {m : Nat} {r : RowM} (h1 : n ≤ m) (h2 : m < n + locN cs) (hm : R[m]? = some r) (hp : passR r = false) : False := by
  unfold locN at h2
  unfold locRows at h
  by_cases c : cs = []
  · rw [if_pos c] at h2; omega
  · rw [if_neg c] at h h2
    obtain rfl : m = n := by omega
    rw [h.cons.1] at hm
    cases hm
    rw [pass_local] at hp
    cases hp
theorem fin_rows {R : List RowM} {cells : List Str} : ∀ (t : T) (n g : Nat) (seen : List Str) (d : Nat), wfT seen d t → (∀ x ∈ seen, x ∈ cells) → (∀ x ∈ declT t, x ∈ cells) → AtR R n (finT n t g) → Tgt R (n + sizeT t) g →
    ∀ (m : Nat) (r : RowM), n ≤ m → m < n + sizeT t → R[m]? = some r → passR r = false → RowV R cells m r
  | .nil, n, g, _, _, _, _, _, _, _, m, r, h1, h2, _, _ => absurd h2 (by show ¬ m < n + 0; omega)
  | .deed k r, n, g, seen, d, wf, hs, hd, h, hg, m, q, h1, h2, hm, hp => by
    have wf' : (∀ x ∈ k.names, x ∈ seen) ∧ wfT seen d r := by cases d <;> exact wf
    rw [sizeT] at h2 hg
    have hh := h
    rw [finT] at hh
    obtain ⟨h0, h4⟩ := hh.cons
    have ok := ok2_wf r seen d wf'.2
    have hr := fin_first r (n + 1) g ok h4 (hg.mono (by omega))
    by_cases e : m = n
    · subst e
      rw [h0] at hm
      cases hm
      exact .deed k _ (fun x hx => hs x (wf'.1 x hx)) hr
    · exact fin_rows r (n + 1) g seen d wf'.2 hs (fun x hx => hd x hx) h4 (hg.mono (by omega)) m q (by omega) (by omega) hm hp
  | .one .., _, _, _, 0, wf, _, _, _, _, _, _, _, _, _, _ => wf.elim
  | .two .., _, _, _, 0, wf, _, _, _, _, _, _, _, _, _, _ => wf.elim
  | .one o cs b r, n, g, seen, d + 1, wf, hs, hd, h, hg, m, q, h1, h2, hm, hp => by
    obtain ⟨w1, w2, w3⟩ := wf
    rw [sizeT] at h2 hg
    obtain ⟨h0, hl, hb, ⟨a, he⟩, hr⟩ := at_fin1 h
    have okb := ok2_wf b _ d w2
    have okr := ok2_wf r _ (d + 1) w3
    have hdb : ∀ x ∈ cs ++ declT b, x ∈ cells := fun x hx => hd x (by rw [declT]; exact List.mem_append_left _ hx)
    have hdr : ∀ x ∈ declT r, x ∈ cells := fun x hx => hd x (by rw [declT]; exact List.mem_append_right _ hx)
    have tr := fin_first r _ g okr hr (hg.mono (by omega))
    have tb0 : Tgt R (n + 1 + locN cs + sizeT b) (if o = .loop then n else firstT (n + 1 + (locN cs + sizeT b) + 1) r g) := by
      by_cases c : o = .loop
      · subst c
        rw [if_pos rfl]
        exact .inr ⟨_, h0, pass_op .loop _ _, .inr rfl⟩
      · rw [if_neg c]
        exact tr.mono (by omega)
    have tb := fin_first b _ _ okb hb tb0
    by_cases e0 : m = n
    · subst e0
      rw [h0] at hm
      cases hm
      cases o with
      | block => rw [show passR (opRow .block m _ _ _ _) = true from pass_op .block _ _] at hp; cases hp
      | loop => exact .op .loop (by intro z; cases z) _ _ (fun x hx => (by cases hx)) (tb.mono (by omega)) (tr.mono (by omega))
      | maybe => exact .op .maybe (by intro z; cases z) _ _ (fun x hx => (by cases hx)) (tb.mono (by omega)) (tr.mono (by omega))
      | same x y => exact .op (.same x y) (by intro z; cases z) _ _ (fun x hx => hs x (w1 x hx)) (tb.mono (by omega)) (tr.mono (by omega))
    by_cases e1 : m < n + 1 + locN cs
    · exact (loc_pass hl (by omega) e1 hm hp).elim
    by_cases e2 : m < n + 1 + locN cs + sizeT b
    · exact fin_rows b _ _ (seen ++ cs) d w2 (fun x hx => (List.mem_append.mp hx).elim (hs x) fun z => hdb x (List.mem_append_left _ z)) (fun x hx => hdb x (List.mem_append_right _ hx)) hb tb0 m q (by omega) e2 hm hp
    by_cases e3 : m = n + 1 + (locN cs + sizeT b)
    · subst e3
      rw [he] at hm
      cases hm
      rw [pass_end] at hp
      cases hp
    exact fin_rows r _ g seen (d + 1) w3 hs hdr hr (hg.mono (by omega)) m q (by omega) (by omega) hm hp
  | .two o cs b cs' b' r, n, g, seen, d + 1, wf, hs, hd, h, hg, m, q, h1, h2, hm, hp => by
    obtain ⟨w0, w1, w2, w2', w3⟩ := wf
    rw [sizeT] at h2 hg
    obtain ⟨h0, hl, hb, ⟨a, he⟩, hl', hb', ⟨a', he'⟩, hr⟩ := at_fin2 h
    have okb := ok2_wf b _ d w2
    have okb' := ok2_wf b' _ d w2'
    have okr := ok2_wf r _ (d + 1) w3
    have hdb : ∀ x ∈ cs ++ declT b, x ∈ cells := fun x hx => hd x (by
      rw [declT]
      simp only [List.mem_append] at hx ⊢
      rcases hx with z | z
      · exact .inl (.inl z)
      · exact .inl (.inr z))
    have hdb' : ∀ x ∈ cs' ++ declT b', x ∈ cells := fun x hx => hd x (by
      rw [declT]
      simp only [List.mem_append] at hx ⊢
      rcases hx with z | z
      · exact .inr (.inl (.inl z))
      · exact .inr (.inl (.inr z)))
    have hdr : ∀ x ∈ declT r, x ∈ cells := fun x hx => hd x (by
      rw [declT]
      simp only [List.mem_append]
      exact .inr (.inr hx))
    have tr := fin_first r _ g okr hr (hg.mono (by omega))
    have tb := fin_first b _ _ okb hb (tr.mono (by omega))
    have tb' := fin_first b' _ _ okb' hb' (tr.mono (by omega))
    by_cases e0 : m = n
    · subst e0
      rw [h0] at hm
      cases hm
      exact .op o (by intro z; rw [z] at w0; cases w0) _ _ (fun x hx => hs x (w1 x hx)) (tb.mono (by omega)) (tb'.mono (by omega))
    by_cases e1 : m < n + 1 + locN cs
    · exact (loc_pass hl (by omega) e1 hm hp).elim
    by_cases e2 : m < n + 1 + locN cs + sizeT b
    · exact fin_rows b _ _ (seen ++ cs) d w2 (fun x hx => (List.mem_append.mp hx).elim (hs x) fun z => hdb x (List.mem_append_left _ z)) (fun x hx => hdb x (List.mem_append_right _ hx)) hb (tr.mono (by omega)) m q (by omega) e2 hm hp
    by_cases e3 : m = n + 1 + (locN cs + sizeT b)
    · subst e3
      rw [he] at hm
      cases hm
      rw [pass_else] at hp
      cases hp
    by_cases e4 : m < n + 1 + (locN cs + sizeT b) + 1 + locN cs'
    · exact (loc_pass hl' (by omega) e4 hm hp).elim
    by_cases e5 : m < n + 1 + (locN cs + sizeT b) + 1 + locN cs' + sizeT b'
    · exact fin_rows b' _ _ (seen ++ cs') d w2' (fun x hx => (List.mem_append.mp hx).elim (hs x) fun z => hdb' x (List.mem_append_left _ z)) (fun x hx => hdb' x (List.mem_append_right _ hx)) hb' (tr.mono (by omega)) m q (by omega) e5 hm hp
    by_cases e6 : m = n + 1 + (locN cs + sizeT b) + 1 + (locN cs' + sizeT b')
    · subst e6
      rw [he'] at hm
      cases hm
      rw [pass_end] at hp
      cases hp
    exact fin_rows r _ g seen (d + 1) w3 hs hdr hr (hg.mono (by omega)) m q (by omega) (by omega) hm hp
/-- the lines of a program -/
theorem rows_P {cs : List Str} {t : T} (W : WfP cs t) : (∀ (m : Nat) (r : RowM), 1 ≤ m → (rowsP cs t)[m]? = some r → passR r = false → RowV (rowsP cs t) (cs ++ declT t) m r) ∧ Tgt (rowsP cs t) 1 (firstT (1 + locN cs) t 0) ∧ (rowsP cs t).length = 1 + sizeP cs t := by
  have hat : AtR (rowsP cs t) 1 (locRows 1 cs ++ finT (1 + locN cs) t 0) := at_self [⟨"", [], firstT (1 + locN cs) t 0, 0⟩] _
  obtain ⟨a1, a2⟩ := hat.app
  rw [locRows_len] at a2
  have len : (rowsP cs t).length = 1 + sizeP cs t := by
    unfold rowsP sizeP
    rw [List.length_cons, List.length_append, locRows_len, finT_len]
    omega
  refine ⟨fun m r h1 hm hp => ?_, (fin_first t _ 0 (ok2_wf t cs 5 W.wf) a2 (.inl rfl)).mono (by omega), len⟩
  by_cases e1 : m < 1 + locN cs
  · exact (loc_pass a1 h1 e1 hm hp).elim
  have hl := (List.getElem?_eq_some_iff.mp hm).1
  rw [len] at hl
  unfold sizeP at hl
  exact fin_rows t _ 0 cs 5 W.wf (fun x hx => List.mem_append_left _ hx) (fun x hx => List.mem_append_right _ hx) a2 (.inl rfl) m r (by omega) (by omega) hm hp
end FP
set_option Elab.async false
set_option linter.all false
set_option maxRecDepth 100000
set_option maxHeartbeats 4000000
set_option exponentiation.threshold 2000
/-! Events as data: compared, shown. -/
namespace FP
open PySem PySem.Spec PyProof.Rows L2 TL
def dW : W → PyData
  | .un => .none
  | .i n => .int n
  | .a c => .str ("&" ++ c)
def evT : Ev → PyData
  | .rd l c w => .tuple [.str "read", .int (l : Nat), .str c, dW w]
  | .wr l c w => .tuple [.str "write", .int (l : Nat), .str c, dW w]
  | .sm l b => .tuple [.str "same", .int (l : Nat), .none, .bool b]
def evD (evs : List Ev) : PyData := .list (evs.map evT)
theorem dp_w (K : PySem.W.Frag) (H : Hp) (w : W) : Dp K H w.v (dW w) := match w with
  | .un => .non
  | .i n => .int n
  | .a c => .str _
theorem dp_ev {K : PySem.W.Frag} {H : Hp} {t : Addr} {e : Ev} (h : H t = some (.tup e.v)) : Dp K H (.ref t) (evT e) := match e, h with
  | .rd l c w, h => .tup (SqT.of h) (.cons (.str _) (.cons (.int _) (.cons (.str _) (.cons (dp_w K H w) .nil))))
  | .wr l c w, h => .tup (SqT.of h) (.cons (.str _) (.cons (.int _) (.cons (.str _) (.cons (dp_w K H w) .nil))))
  | .sm l b, h => .tup (SqT.of h) (.cons (.str _) (.cons (.int _) (.cons .non (.cons (.bl b) .nil))))
theorem dp_evs {K : PySem.W.Frag} {H : Hp} : ∀ {ts : List Addr} {evs : List Ev}, Tups H ts evs → DpAll K H (ts.map V.ref) (evs.map evT)
  | [], [], _ => .nil
  | _ :: _, _ :: _, h => .cons (dp_ev h.1) (dp_evs h.2)
  | [], _ :: _, h => h.elim
  | _ :: _, [], h => h.elim
theorem dp_evD {K : PySem.W.Frag} {H : Hp} {e : Addr} {evs : List Ev} (h : EvAt H e evs) : Dp K H (.ref e) (evD evs) := by
  obtain ⟨ts, h1, h2⟩ := h
  exact .lst (SqL.of h1) (dp_evs h2)
/-- a name's signs, few of them; numbers of few digits -/
def shortS (c : Str) : Prop := c.length ≤ 20 ∧ PyData.strOk c = true
def W.fit : W → Prop
  | .un => True
  | .i n => n.natAbs < 10 ^ 60
  | .a c => shortS c
def Ev.fit : Ev → Prop
  | .rd l c w => l < 10 ^ 60 ∧ shortS c ∧ w.fit
  | .wr l c w => l < 10 ^ 60 ∧ shortS c ∧ w.fit
  | .sm l _ => l < 10 ^ 60
theorem strOk_amp {c : Str} (h : PyData.strOk c = true) : PyData.strOk ("&" ++ c) = true := by
  have e : ∀ x : Str, PyData.strOk x = (tl x).all (· < 0x110000) := fun x => by
    show x.cps.all _ = x.cps.toList.all _
    rw [Array.all_toList]
  rw [e] at h ⊢
  rw [tl_append, List.all_append, h]
  decide +kernel
theorem lay_w {w : W} (h : w.fit) : PyData.canLay0 (dW w) = true := by
  cases w with
  | un => rfl
  | i n => rfl
  | a c => exact strOk_amp h.2
theorem lay_ev {e : Ev} (h : e.fit) : PyData.canLay0 (evT e) = true := by
  have s1 : PyData.strOk "read" = true := by decide +kernel
  have s2 : PyData.strOk "write" = true := by decide +kernel
  have s3 : PyData.strOk "same" = true := by decide +kernel
  cases e with
  | rd l c w => simp only [evT, PyData.canLay0, PyData.canLayAll0, s1, h.2.1.2, lay_w h.2.2, Bool.and_self]
  | wr l c w => simp only [evT, PyData.canLay0, PyData.canLayAll0, s2, h.2.1.2, lay_w h.2.2, Bool.and_self]
  | sm l b => simp only [evT, PyData.canLay0, PyData.canLayAll0, s3, Bool.and_self]
theorem dep_w (w : W) : (dW w).depth = 0 := by cases w <;> rfl
theorem dep_ev (e : Ev) : (evT e).depth ≤ 1 := by
  cases e <;> simp [evT, PyData.depth, PyData.depthAll, dep_w]
theorem dep_evs : ∀ evs : List Ev, PyData.depthAll (evs.map evT) ≤ 1
  | [] => by simp [PyData.depthAll]
  | e :: r => by
    have h1 := dep_ev e
    have h2 := dep_evs r
    simp only [List.map_cons, PyData.depthAll]
    omega
theorem lay_evs : ∀ {evs : List Ev}, (∀ e ∈ evs, e.fit) → PyData.canLayAll0 (evs.map evT) = true
  | [], _ => rfl
  | e :: r, h => by
    simp only [List.map_cons, PyData.canLayAll0, lay_ev (h e List.mem_cons_self), lay_evs fun x hx => h x (List.mem_cons_of_mem _ hx), Bool.and_self]
theorem ev_shaped {evs : List Ev} (h : ∀ e ∈ evs, e.fit) : SeqAt.shaped (evD evs) = true := by
  have h1 := lay_evs h
  have h2 := dep_evs evs
  unfold SeqAt.shaped evD
  rw [Bool.and_eq_true]
  refine ⟨by simpa only [PyData.canLay0] using h1, decide_eq_true ?_⟩
  simp only [PyData.depth]
  omega
theorem ev_refl {evs : List Ev} (h : ∀ e ∈ evs, e.fit) : PyData.eqv (evD evs) (evD evs) = true := SeqAt.eqv_refl _ (SeqAt.canLay_of_shaped (ev_shaped h))
/-! shown -/
theorem log_fit {n : Int} (h : n.natAbs < 10 ^ 60) : n.natAbs.log2 < 1920 := by
  by_cases z : n.natAbs = 0
  · rw [z]; decide
  · exact (Nat.log2_lt z).mpr (Nat.lt_of_lt_of_le h (by decide))
theorem show_w {w : W} (h : w.fit) : (dW w).showable = true := by
  cases w with
  | un => rfl
  | i n => exact decide_eq_true (log_fit h)
  | a c => rfl
theorem show_ev {e : Ev} (h : e.fit) : (evT e).showable = true := by
  have nat : ∀ l : Nat, l < 10 ^ 60 → decide (((l : Nat) : Int).natAbs.log2 < 1920) = true := fun l hl => decide_eq_true (log_fit (by rw [Int.natAbs_natCast]; exact hl))
  cases e with
  | rd l c w => simp only [evT, PyData.showable, PyData.showableAll, nat l h.1, show_w h.2.2, Bool.and_self]
  | wr l c w => simp only [evT, PyData.showable, PyData.showableAll, nat l h.1, show_w h.2.2, Bool.and_self]
  | sm l b => simp only [evT, PyData.showable, PyData.showableAll, nat l h, Bool.and_self]
theorem show_evs : ∀ {evs : List Ev}, (∀ e ∈ evs, e.fit) → PyData.showableAll (evs.map evT) = true
  | [], _ => rfl
  | e :: r, h => by
    simp only [List.map_cons, PyData.showableAll, show_ev (h e List.mem_cons_self), show_evs fun x hx => h x (List.mem_cons_of_mem _ hx), Bool.and_self]
theorem nd_w (w : W) : (dW w).hasDict = false := by cases w <;> rfl
theorem nd_ev (e : Ev) : (evT e).hasDict = false := by cases e <;> simp [evT, PyData.hasDict, PyData.hasDictAll, nd_w]
theorem nd_evs : ∀ evs : List Ev, PyData.hasDictAll (evs.map evT) = false
  | [] => rfl
  | e :: r => by simp only [List.map_cons, PyData.hasDictAll, nd_ev, nd_evs r, Bool.or_self]
theorem len_int {n : Int} (h : n.natAbs < 10 ^ 60) : (PyData.int n).shown.length ≤ 61 := by
  have e : (PyData.int n).shown = Str.ofString (toString n) := rfl
  rw [e, PySem.ofString_length]
  exact int_text_length_le10 (by decide) h
theorem len_str {c : Str} {k : Nat} (h : c.length ≤ k) (ok : PyData.strOk c = true) : (PyData.str c).shown.length ≤ 10 * k + 2 := by
  have := StrLaws.reprText_len c fun x hx => by
    have e : PyData.strOk c = (tl c).all (· < 0x110000) := by
      show c.cps.all _ = c.cps.toList.all _
      rw [Array.all_toList]
    rw [e] at ok
    have := of_decide_eq_true (List.all_eq_true.mp ok x hx)
    omega
  show (reprText c).length ≤ _
  omega
theorem len_w {w : W} (h : w.fit) : (dW w).shown.length ≤ 212 := by
  cases w with
  | un => exact (by decide +kernel : (PyData.none).shown.length ≤ 212)
  | i n => exact Nat.le_trans (len_int h) (by decide)
  | a c => exact len_str (k := 21) (by rw [len_tl, tl_append, List.length_append, ← len_tl, ← len_tl]; have := h.1; show 1 + c.length ≤ 21; omega) (strOk_amp h.2)
theorem len_ev {e : Ev} (h : e.fit) : (evT e).shown.length ≤ 600 := by
  have nat : ∀ l : Nat, l < 10 ^ 60 → (PyData.int ((l : Nat) : Int)).shown.length ≤ 61 := fun l hl => len_int (by rw [Int.natAbs_natCast]; exact hl)
  have s1 : (PyData.str "read").shown.length ≤ 60 := by decide +kernel
  have s2 : (PyData.str "write").shown.length ≤ 60 := by decide +kernel
  have s3 : (PyData.str "same").shown.length ≤ 60 := by decide +kernel
  have s4 : (PyData.none).shown.length ≤ 60 := by decide +kernel
  have s5 : ∀ b, (PyData.bool b).shown.length ≤ 60 := by decide +kernel
  cases e with
  | rd l c w =>
    have := tupleText_len_le (PyData.shownAll [.str "read", .int (l : Nat), .str c, dW w])
    have h1 := nat l h.1
    have h2 := len_str h.2.1.1 h.2.1.2
    have h3 := len_w h.2.2
    simp only [PyData.shownAll, List.map_cons, List.map_nil, List.sum_cons, List.sum_nil, List.length_cons, List.length_nil] at this
    show (tupleText (PyData.shownAll [.str "read", .int (l : Nat), .str c, dW w])).length ≤ 600
    simp only [PyData.shownAll]
    omega
  | wr l c w =>
    have := tupleText_len_le (PyData.shownAll [.str "write", .int (l : Nat), .str c, dW w])
    have h1 := nat l h.1
    have h2 := len_str h.2.1.1 h.2.1.2
    have h3 := len_w h.2.2
    simp only [PyData.shownAll, List.map_cons, List.map_nil, List.sum_cons, List.sum_nil, List.length_cons, List.length_nil] at this
    show (tupleText (PyData.shownAll [.str "write", .int (l : Nat), .str c, dW w])).length ≤ 600
    simp only [PyData.shownAll]
    omega
  | sm l b =>
    have := tupleText_len_le (PyData.shownAll [.str "same", .int (l : Nat), .none, .bool b])
    have h1 := nat l h
    have h2 := s5 b
    simp only [PyData.shownAll, List.map_cons, List.map_nil, List.sum_cons, List.sum_nil, List.length_cons, List.length_nil] at this
    show (tupleText (PyData.shownAll [.str "same", .int (l : Nat), .none, .bool b])).length ≤ 600
    simp only [PyData.shownAll]
    omega
theorem len_evs : ∀ {evs : List Ev}, (∀ e ∈ evs, e.fit) → ((PyData.shownAll (evs.map evT)).map (·.length)).sum ≤ 600 * evs.length ∧ (PyData.shownAll (evs.map evT)).length = evs.length
  | [], _ => ⟨Nat.zero_le _, rfl⟩
  | e :: r, h => by
    obtain ⟨h1, h2⟩ := len_evs fun x hx => h x (List.mem_cons_of_mem _ hx)
    have h3 := len_ev (h e List.mem_cons_self)
    simp only [List.map_cons, PyData.shownAll, List.sum_cons, List.length_cons]
    omega
theorem ev_shown {evs : List Ev} (h : ∀ e ∈ evs, e.fit) (hl : evs.length ≤ 20000) : (evD evs).shown.length ≤ sizeLine := by
  obtain ⟨h1, h2⟩ := len_evs h
  have := listText_len_le (PyData.shownAll (evs.map evT))
  show (listText (PyData.shownAll (evs.map evT))).length ≤ _
  rw [sizeLine_eq]
  omega
/-- repr of a list of events -/
theorem use_repr {K : PySem.W.Frag} {H : Hp} {e : Addr} {evs : List Ev} {Q : VK} (h : EvAt H e evs) (hf : ∀ x ∈ evs, x.fit) (hl : evs.length ≤ 20000) (k : Q (.str (evD evs).shown) H) : rReprD K [.ref e] H Q :=
  ⟨e, evD evs, rfl, dp_evD h, by simpa only [evD, PyData.showable] using show_evs hf, by simpa only [evD, PyData.hasDict] using nd_evs evs, by
    have := dep_evs evs
    simp only [evD, PyData.depth]
    omega, ev_shown hf hl, k⟩
end FP
set_option Elab.async false
set_option linter.all false
set_option maxRecDepth 100000
set_option maxHeartbeats 4000000
/-! A run of a tree's program always ends, and what its events are of. -/
namespace FP
open PySem PySem.Spec PyProof.Rows L2 TL
theorem nodupLenC {α : Type} [DecidableEq α] : ∀ {l m : List α}, l.Nodup → (∀ x ∈ l, x ∈ m) → l.length ≤ m.length
  | [], _, _, _ => Nat.zero_le _
  | x :: l, m, h, hs => by
    obtain ⟨h1, h2⟩ := List.nodup_cons.mp h
    have hx := hs x List.mem_cons_self
    have := nodupLenC (l := l) (m := m.erase x) h2 (fun y hy => (List.mem_erase_of_ne (fun z => h1 (by rw [← z]; exact hy))).mpr (hs y (List.mem_cons_of_mem _ hy)))
    rw [List.length_erase_of_mem hx] at this
    have := List.length_pos_of_mem hx
    rw [List.length_cons]
    omega
def W.inC (cells : List Str) : W → Prop
  | .un => True
  | .i n => n.natAbs < 10 ^ 60
  | .a c => c ∈ cells
def EvC (cells : List Str) : Ev → Prop
  | .rd l c w => l < 100 ∧ c ∈ cells ∧ w.inC cells
  | .wr l c w => l < 100 ∧ c ∈ cells ∧ w.inC cells
  | .sm l _ => l < 100
structure FC (R : List RowM) (cells : List Str) (pl : List (Str × Nat)) : Prop where
  rows : ∀ (m : Nat) (r : RowM), 1 ≤ m → R[m]? = some r → passR r = false → RowV R cells m r
  len : R.length ≤ 100
  cl : cells.length ≤ 5
  nm : ∀ c ∈ cells, shortS c
  pls : ∀ c ∈ cells, ∃ n, homeOf pl c = some n ∧ n < 5
structure RInv (R : List RowM) (cells : List Str) (pl : List (Str × Nat)) (M : RunM) : Prop where
  pl : M.places = pl
  ln : M.line = 0 ∨ (1 ≤ M.line ∧ ∃ r, R[M.line]? = some r ∧ passR r = false)
  kc : ∀ c ∈ M.known, c ∈ cells
  kn : M.known.Nodup
  hk : (M.held.map (·.1)).Nodup
  hb : ∀ q ∈ M.held, q.1 < 5 ∧ q.2.inC cells
def isLoop (R : List RowM) (l : Nat) : Bool := match R[l]? with
  | some r => decide (r.word = ("loop" : Str))
  | none => false
def Pot (R : List RowM) (M : RunM) (xs : List Int) : Nat := if M.line = 0 then 0 else xs.length * (R.length + 4) + (if M.calling = true then 1 else if isLoop R M.line = true then 2 else R.length + 3 - M.line)
theorem heldOf_mem {l : List (Nat × W)} {n : Nat} {x : W} (h : heldOf l n = some x) : (n, x) ∈ l := by
  unfold heldOf at h
  obtain ⟨p, hp, rfl⟩ := Option.map_eq_some_iff.mp h
  have := List.find?_some hp
  have e : p.1 = n := of_decide_eq_true this
  have m := List.mem_of_find?_eq_some hp
  obtain ⟨a, b⟩ := p
  cases e
  exact m
theorem putH_keys {d : List (Nat × W)} {k : Nat} {v : W} (h : (d.map (·.1)).Nodup) : ((putH d k v).map (·.1)).Nodup := by
  unfold putH
  split
  · rw [List.map_map, List.map_congr_left (g := (·.1)) (fun p _ => by show (if p.1 = k then (p.1, v) else p).1 = p.1; split <;> rfl)]
    exact h
  · rename_i c
    rw [List.map_append, List.nodup_append]
    refine ⟨h, by simp, fun a ha b hb z => c ?_⟩
    obtain ⟨p, hp, rfl⟩ := List.mem_map.mp ha
    rw [List.map_singleton, List.mem_singleton] at hb
    exact List.any_eq_true.mpr ⟨p, hp, decide_eq_true (by rw [z, hb])⟩
theorem putH_mem {d : List (Nat × W)} {k : Nat} {v : W} {q : Nat × W} (h : q ∈ putH d k v) : q ∈ d ∨ q = (k, v) := by
  unfold putH at h
  split at h
  · obtain ⟨p, hp, rfl⟩ := List.mem_map.mp h
    by_cases c : p.1 = k
    · rw [if_pos c]; exact .inr (by rw [← c])
    · rw [if_neg c]; exact .inl hp
  · rcases List.mem_append.mp h with z | z
    · exact .inl z
    · exact .inr (List.mem_singleton.mp z)
theorem heldOf_put (d : List (Nat × W)) (k : Nat) (v : W) : heldOf (putH d k v) k = some v := by
  unfold heldOf putH
  split
  · rename_i c
    induction d with
    | nil => cases c
    | cons p r ih =>
      rw [List.map_cons, List.find?_cons]
      by_cases e : p.1 = k
      · rw [if_pos e]; simp [e]
      · rw [if_neg e, decide_eq_false e]
        refine ih ?_
        rw [List.any_cons, decide_eq_false e, Bool.false_or] at c
        exact c
  · rename_i c
    rw [List.find?_append]
    have : d.find? (fun p => decide (p.1 = k)) = none := by
      rw [List.find?_eq_none]
      intro x hx hd
      exact c (List.any_eq_true.mpr ⟨x, hx, hd⟩)
    rw [this]
    simp
theorem heldOf_put_ne (d : List (Nat × W)) (k k' : Nat) (v : W) (h : k' ≠ k) : heldOf (putH d k v) k' = heldOf d k' := by
  unfold heldOf putH
  split
  · rename_i c
    clear c
    induction d with
    | nil => rfl
    | cons p r ih =>
      rw [List.map_cons, List.find?_cons, List.find?_cons]
      by_cases e : p.1 = k
      · rw [if_pos e]
        have : decide (p.1 = k') = false := decide_eq_false (by rw [e]; exact h.symm)
        rw [this]
        exact ih
      · rw [if_neg e]
        by_cases e2 : p.1 = k'
        · rw [decide_eq_true e2]
        · rw [decide_eq_false e2]
          exact ih
  · rw [List.find?_append]
    have : ([(k, v)] : List (Nat × W)).find? (fun p => decide (p.1 = k')) = none := by
      rw [List.find?_cons, decide_eq_false (fun z : k = k' => h z.symm)]
      rfl
    rw [this, Option.or_none]
section
variable {R : List RowM} {cells : List Str} {pl : List (Str × Nat)} {M : RunM}
theorem RInv.okB (F : FC R cells pl) (I : RInv R cells pl M) : M.okB = true := by
  have h1 : M.held.length ≤ 5 := by
    have := nodupLenC (m := List.range 5) I.hk (fun x hx => by obtain ⟨q, hq, rfl⟩ := List.mem_map.mp hx; exact List.mem_range.mpr (I.hb q hq).1)
    rwa [List.length_map, List.length_range] at this
  have h2 : M.known.length ≤ 5 := Nat.le_trans (nodupLenC I.kn I.kc) F.cl
  have short : ∀ c ∈ cells, c.length ≤ 1000 := fun c hc => Nat.le_trans (F.nm c hc).1 (by decide)
  unfold RunM.okB
  rw [decide_eq_true (show M.held.length ≤ 1000 by omega), decide_eq_true (show M.known.length ≤ 50 by omega), Bool.true_and, Bool.true_and, Bool.and_eq_true, List.all_eq_true, List.all_eq_true]
  refine ⟨fun q hq => ?_, fun c hc => decide_eq_true (short c (I.kc c hc))⟩
  have := (I.hb q hq).2
  cases e : q.2 with
  | un => rfl
  | i n => rfl
  | a c =>
    rw [e] at this
    exact decide_eq_true (short c this)
theorem RInv.rd (F : FC R cells pl) (I : RInv R cells pl M) {c : Str} (hc : c ∈ cells) : ∃ x, worthM M c = some x ∧ x.inC cells := by
  obtain ⟨n, hn, _⟩ := F.pls c hc
  refine ⟨worthAt M n, by unfold worthM; rw [I.pl, hn]; rfl, ?_⟩
  unfold worthAt
  cases e : heldOf M.held n with
  | none => exact trivial
  | some x => exact (I.hb _ (heldOf_mem e)).2
theorem RInv.wr (F : FC R cells pl) (I : RInv R cells pl M) {c : Str} {x : W} (hc : c ∈ cells) (hx : x.inC cells) : ∃ n, homeOf pl c = some n ∧ writeM M c x = some { M with held := putH M.held n x } ∧ RInv R cells pl { M with held := putH M.held n x } := by
  obtain ⟨n, hn, h5⟩ := F.pls c hc
  refine ⟨n, hn, by unfold writeM; rw [I.pl, hn]; rfl, I.pl, I.ln, I.kc, I.kn, putH_keys I.hk, fun q hq => ?_⟩
  rcases putH_mem hq with z | z
  · exact I.hb q z
  · rw [z]; exact ⟨h5, hx⟩
theorem RInv.learn (I : RInv R cells pl M) {x : W} (hx : x.inC cells) : RInv R cells pl (learnM M x) ∧ (learnM M x).line = M.line ∧ (learnM M x).calling = M.calling := by
  unfold learnM
  cases x with
  | un => exact ⟨I, rfl, rfl⟩
  | i n => exact ⟨I, rfl, rfl⟩
  | a c =>
    dsimp only
    by_cases h : c ∈ M.known
    · rw [if_pos h]; exact ⟨I, rfl, rfl⟩
    · rw [if_neg h]
      have pm := sortU_perm (M.known ++ [c])
      refine ⟨⟨I.pl, I.ln, fun y hy => ?_, ?_, I.hk, I.hb⟩, rfl, rfl⟩
      · rcases List.mem_append.mp (pm.mem_iff.mp hy) with z | z
        · exact I.kc y z
        · rw [List.mem_singleton.mp z]; exact hx
      · refine pm.nodup_iff.mpr (List.nodup_append.mpr ⟨I.kn, by simp, fun a ha b hb z => h ?_⟩)
        rw [List.mem_singleton] at hb
        rw [← hb, ← z]; exact ha
theorem RInv.go (I : RInv R cells pl M) {m y : Nat} (h : Tgt R (m + 1) y) : RInv R cells pl (goR M y) := by
  refine ⟨I.pl, ?_, I.kc, I.kn, I.hk, I.hb⟩
  rcases h with h | ⟨r, h1, h2, _⟩
  · exact .inl h
  · by_cases z : y = 0
    · exact .inl z
    · exact .inr ⟨Nat.pos_of_ne_zero z, r, h1, h2⟩
theorem RInv.stop (I : RInv R cells pl M) : RInv R cells pl (stopR M) := ⟨I.pl, .inl rfl, I.kc, I.kn, I.hk, I.hb⟩
theorem RInv.leave (I : RInv R cells pl M) {m y : Nat} (h : Tgt R (m + 1) y) : RInv R cells pl (leaveR M y) :=
  ⟨(I.go h).pl, (I.go h).ln, I.kc, I.kn, I.hk, I.hb⟩
theorem pot_go {xs : List Int} {m y : Nat} (h : Tgt R (m + 1) y) (hm : m < R.length) (hc : M.calling = false) (hl : M.line = y) : Pot R M xs ≤ xs.length * (R.length + 4) + (R.length + 2 - m) := by
  unfold Pot
  rw [hl, hc, if_neg Bool.false_ne_true]
  split
  · exact Nat.zero_le _
  rcases h with h | ⟨r, h1, h2, h3⟩
  · omega
  · split
    · omega
    · rename_i c
      rcases h3 with h3 | h3
      · omega
      · exact absurd (by unfold isLoop; rw [h1]; exact decide_eq_true h3) c
/-- one line done -/
structure Done (R : List RowM) (cells : List Str) (pl : List (Str × Nat)) (M : RunM) (xs : List Int) (evs : List Ev) (M' : RunM) (ys : List Int) : Prop where
  inv : RInv R cells pl M'
  pot : Pot R M' ys < Pot R M xs
  ev : evs.length ≤ 3
  evc : ∀ e ∈ evs, EvC cells e
  ys : ys.length ≤ xs.length ∧ ∀ y ∈ ys, y ∈ xs
theorem pot_stop {xs : List Int} : Pot R (stopR M) xs = 0 := if_pos rfl
theorem pot_pos {xs : List Int} (hl : M.line ≠ 0) (hm : M.line < R.length) : 0 < Pot R M xs := by
  unfold Pot
  rw [if_neg hl]
  split
  · omega
  · split <;> omega
theorem pot_line {xs : List Int} {r : RowM} (hl : M.line ≠ 0) (hr : R[M.line]? = some r) (hw : r.word ≠ ("loop" : Str)) (hc : M.calling = false) : Pot R M xs = xs.length * (R.length + 4) + (R.length + 3 - M.line) := by
  unfold Pot
  rw [if_neg hl, hc, if_neg Bool.false_ne_true, if_neg]
  unfold isLoop
  rw [hr]
  dsimp only
  rw [decide_eq_false hw]
  exact Bool.false_ne_true
theorem pot_any {xs : List Int} (hl : M.line ≠ 0) : xs.length * (R.length + 4) + 1 ≤ Pot R M xs + (if M.line < R.length + 3 then 0 else 1) := by
  unfold Pot
  rw [if_neg hl]
  split
  · omega
  · split
    · omega
    · split <;> omega
theorem all1 {p : Ev → Prop} {a : Ev} (h : p a) : ∀ e ∈ [a], p e := fun e he => by rw [List.mem_singleton.mp he]; exact h
theorem all2 {p : Ev → Prop} {a b : Ev} (h : p a) (h' : p b) : ∀ e ∈ [a, b], p e := fun e he => by
  rcases List.mem_cons.mp he with z | z
  · rw [z]; exact h
  · exact all1 h' e z
theorem all3 {p : Ev → Prop} {a b c : Ev} (h : p a) (h' : p b) (h2 : p c) : ∀ e ∈ [a, b, c], p e := fun e he => by
  rcases List.mem_cons.mp he with z | z
  · rw [z]; exact h
  · exact all2 h' h2 e z
theorem all0 {p : Ev → Prop} : ∀ e ∈ ([] : List Ev), p e := fun e he => nomatch he
end
end FP
set_option Elab.async false
set_option linter.all false
set_option maxRecDepth 100000
set_option maxHeartbeats 4000000
namespace FP
open PySem PySem.Spec PyProof.Rows L2 TL
section
variable {R : List RowM} {cells : List Str} {pl : List (Str × Nat)} {M : RunM}
theorem pot_call {xs : List Int} (hl : M.line ≠ 0) (hc : M.calling = true) : Pot R M xs = xs.length * (R.length + 4) + 1 := by
  unfold Pot
  rw [if_neg hl, if_pos hc]
theorem pot_loop {xs : List Int} {r : RowM} (hl : M.line ≠ 0) (hr : R[M.line]? = some r) (hw : r.word = ("loop" : Str)) (hc : M.calling = false) : Pot R M xs = xs.length * (R.length + 4) + 2 := by
  unfold Pot
  rw [if_neg hl, hc, if_neg Bool.false_ne_true, if_pos]
  unfold isLoop
  rw [hr]
  exact decide_eq_true hw
theorem len_mul {x : Int} {r : List Int} {k : Nat} : (x :: r).length * k = r.length * k + k := by rw [List.length_cons, Nat.succ_mul]
theorem Done.stop (F : FC R cells pl) (I : RInv R cells pl M) {xs ys : List Int} (hl : M.line ≠ 0) (hlt : M.line < R.length) (hy : ys.length ≤ xs.length ∧ ∀ y ∈ ys, y ∈ xs) : Done R cells pl M xs [] (stopR M) ys :=
  ⟨I.stop, by rw [pot_stop]; exact pot_pos hl hlt, Nat.zero_le _, all0, hy⟩
theorem nil_ys {xs : List Int} : ([] : List Int).length ≤ xs.length ∧ ∀ y ∈ ([] : List Int), y ∈ xs := ⟨Nat.zero_le _, fun y hy => nomatch hy⟩
theorem same_ys {xs : List Int} : xs.length ≤ xs.length ∧ ∀ y ∈ xs, y ∈ xs := ⟨Nat.le_refl _, fun y hy => hy⟩
theorem cons_ys {x : Int} {xs : List Int} : xs.length ≤ (x :: xs).length ∧ ∀ y ∈ xs, y ∈ (x :: xs) := ⟨Nat.le_succ _, fun y hy => List.mem_cons_of_mem _ hy⟩
theorem cons2_ys {x z : Int} {xs : List Int} : xs.length ≤ (x :: z :: xs).length ∧ ∀ y ∈ xs, y ∈ (x :: z :: xs) := ⟨Nat.le_trans (Nat.le_succ _) (Nat.le_succ _), fun y hy => List.mem_cons_of_mem _ (List.mem_cons_of_mem _ hy)⟩
theorem cons3_ys {x z u : Int} {xs : List Int} : xs.length ≤ (x :: z :: u :: xs).length ∧ ∀ y ∈ xs, y ∈ (x :: z :: u :: xs) := ⟨Nat.le_trans (Nat.le_succ _) (Nat.le_trans (Nat.le_succ _) (Nat.le_succ _)), fun y hy => List.mem_cons_of_mem _ (List.mem_cons_of_mem _ (List.mem_cons_of_mem _ hy))⟩
theorem act_done (F : FC R cells pl) (I : RInv R cells pl M) {xs : List Int} (hx : ∀ x ∈ xs, x.natAbs < 10 ^ 60) {m : RowM} (hl : M.line ≠ 0) (hlt : M.line < R.length) (ha : Tgt R (M.line + 1) m.after) (hc : M.calling = true) :
    ∃ evs M' ys, actM m M xs = some (evs, M', ys) ∧ Done R cells pl M xs evs M' ys := by
  have l100 : M.line < 100 := Nat.lt_of_lt_of_le hlt F.len
  have leave : ∀ {ys : List Int}, ys.length < xs.length → (∀ y ∈ ys, y ∈ xs) → Done R cells pl M xs [] (leaveR M m.after) ys := fun {ys} h1 h2 => by
    refine ⟨I.leave ha, ?_, Nat.zero_le _, all0, Nat.le_of_lt h1, h2⟩
    rw [pot_call hl hc]
    have := pot_go (M := leaveR M m.after) (xs := ys) ha hlt rfl rfl
    have e : (ys.length + 1) * (R.length + 4) ≤ xs.length * (R.length + 4) := Nat.mul_le_mul_right _ h1
    rw [Nat.succ_mul] at e
    omega
  have stay : ∀ {M' : RunM} {ys : List Int}, M'.line = M.line → M'.calling = M.calling → ys.length < xs.length → Pot R M' ys < Pot R M xs := fun {M' ys} e1 e2 h1 => by
    rw [pot_call hl hc, pot_call (by rw [e1]; exact hl) (by rw [e2]; exact hc)]
    have e : (ys.length + 1) * (R.length + 4) ≤ xs.length * (R.length + 4) := Nat.mul_le_mul_right _ h1
    rw [Nat.succ_mul] at e
    omega
  cases xs with
  | nil => exact ⟨[], stopR M, [], rfl, Done.stop F I hl hlt nil_ys⟩
  | cons k r =>
    show ∃ evs M' ys, (if 1 ≤ k ∧ k ≤ (M.known.length : Int) then (match M.known[(k - 1).toNat]? with
      | some c => (match r with
        | [] => some ([], stopR M, [])
        | j :: r2 => if j < 0 then (worthM M c).map fun x => ([Ev.rd M.line c x], learnM M x, r2) else actWriteM m M r2 c j)
      | none => none)
    else some ([], leaveR M m.after, r)) = some (evs, M', ys) ∧ _
    by_cases hk : 1 ≤ k ∧ k ≤ (M.known.length : Int)
    · rw [if_pos hk]
      have hi : (k - 1).toNat < M.known.length := by omega
      rw [List.getElem?_eq_getElem hi]
      have hcc := I.kc _ (List.getElem_mem hi)
      generalize M.known[(k - 1).toNat] = c at *
      dsimp only
      cases r with
      | nil => exact ⟨[], stopR M, [], rfl, Done.stop F I hl hlt nil_ys⟩
      | cons j r2 =>
        dsimp only
        by_cases hj : j < 0
        · rw [if_pos hj]
          obtain ⟨x, h1, h2⟩ := I.rd F hcc
          obtain ⟨i1, i2, i3⟩ := I.learn h2
          rw [h1]
          exact ⟨_, _, _, rfl, i1, stay i2 i3 (by simp only [List.length_cons]; omega), by show 1 ≤ 3; decide, all1 ⟨l100, hcc, h2⟩, cons2_ys⟩
        · rw [if_neg hj]
          unfold actWriteM
          have write : ∀ {x : W} {ys : List Int}, x.inC cells → ys.length < (k :: j :: r2).length → (∀ y ∈ ys, y ∈ k :: j :: r2) → ∃ evs M' zs, ((writeM M c x).map fun M1 => ([Ev.wr M.line c x], M1, ys)) = some (evs, M', zs) ∧ Done R cells pl M (k :: j :: r2) evs M' zs := fun {x ys} h2 h3 h4 => by
            obtain ⟨n, _, w1, w2⟩ := I.wr F hcc h2
            rw [w1]
            exact ⟨_, _, _, rfl, w2, stay rfl rfl h3, by show 1 ≤ 3; decide, all1 ⟨l100, hcc, h2⟩, Nat.le_of_lt h3, h4⟩
          have l2 : r2.length < (k :: j :: r2).length := by simp only [List.length_cons]; omega
          by_cases j1 : j > (M.known.length : Int) + 1
          · rw [if_pos j1]
            exact ⟨_, _, _, rfl, leave l2 (cons2_ys (x := k) (z := j)).2⟩
          rw [if_neg j1]
          by_cases j2 : j = (M.known.length : Int) + 1
          · rw [if_pos j2]
            exact write trivial l2 (cons2_ys (x := k) (z := j)).2
          rw [if_neg j2]
          by_cases j3 : j > 0
          · rw [if_pos j3]
            have hi2 : (j - 1).toNat < M.known.length := by omega
            rw [List.getElem?_eq_getElem hi2]
            dsimp only
            exact write (I.kc _ (List.getElem_mem hi2)) l2 (cons2_ys (x := k) (z := j)).2
          rw [if_neg j3]
          cases r2 with
          | nil => exact ⟨[], stopR M, [], rfl, Done.stop F I hl hlt nil_ys⟩
          | cons v r3 =>
            dsimp only
            exact write (show v.natAbs < 10 ^ 60 from hx v (by simp)) (by simp only [List.length_cons]; omega) (cons3_ys (x := k) (z := j) (u := v)).2
    · rw [if_neg hk]
      exact ⟨_, _, _, rfl, leave (by simp only [List.length_cons]; omega) (cons_ys (x := k)).2⟩
theorem tr_done (F : FC R cells pl) (I : RInv R cells pl M) {m : RowM} {s t : Str} (hs : s ∈ cells) (ht : t ∈ cells) : ∃ x n, worthM M s = some x ∧ x.inC cells ∧ trM m M s t = some ([.rd M.line s x, .wr M.line t x], goR { M with held := putH M.held n x } m.after) ∧ RInv R cells pl { M with held := putH M.held n x } ∧ homeOf pl t = some n := by
  obtain ⟨x, h1, h2⟩ := I.rd F hs
  obtain ⟨n, hn, w1, w2⟩ := I.wr F ht h2
  refine ⟨x, n, h1, h2, ?_, w2, hn⟩
  unfold trM
  rw [h1]
  show ((writeM M t x).map _) = _
  rw [w1]
  rfl
theorem go_pot {M' : RunM} {xs : List Int} {r : RowM} {y : Nat} (hl : M.line ≠ 0) (hlt : M.line < R.length) (hr : R[M.line]? = some r) (hw : r.word ≠ ("loop" : Str)) (hc : M.calling = false) (ht : Tgt R (M.line + 1) y) (h1 : M'.line = y) (h2 : M'.calling = false) {ys : List Int} (hy : ys.length ≤ xs.length) : Pot R M' ys < Pot R M xs := by
  rw [pot_line hl hr hw hc]
  have := pot_go (xs := ys) ht hlt h2 h1
  have e : ys.length * (R.length + 4) ≤ xs.length * (R.length + 4) := Nat.mul_le_mul_right _ hy
  omega
theorem step_done (F : FC R cells pl) (I : RInv R cells pl M) {xs : List Int} (hx : ∀ x ∈ xs, x.natAbs < 10 ^ 60) (hxl : xs.length ≤ 1000000) (hl : M.line ≠ 0) :
    ∃ m, R[M.line]? = some m ∧ okG m M xs = true ∧ RowV R cells M.line m ∧ ∃ evs M' ys, advM m M xs = some (evs, M', ys) ∧ Done R cells pl M xs evs M' ys := by
  obtain ⟨h1, m, hm, hp⟩ := I.ln.resolve_left hl
  have V := F.rows M.line m h1 hm hp
  have hlt : M.line < R.length := (List.getElem?_eq_some_iff.mp hm).1
  have l100 : M.line < 100 := Nat.lt_of_lt_of_le hlt F.len
  have nm : ∀ x ∈ m.names, x.length ≤ 1000 := fun x hx => by
    have : x ∈ cells := by cases V with
      | deed d a h _ => exact h x hx
      | op o ho a b h _ _ => exact h x hx
    exact Nat.le_trans (F.nm x this).1 (by decide)
  refine ⟨m, hm, okG_of (I.okB F) hxl nm, V, ?_⟩
  unfold advM
  by_cases hc : M.calling = true
  · rw [if_pos hc]
    refine act_done F I hx hl hlt ?_ hc
    cases V with
    | deed d a h ha => exact ha
    | op o ho a b h ha _ => exact ha
  rw [if_neg hc]
  have hc : M.calling = false := by
    cases e : M.calling with
    | false => rfl
    | true => exact absurd e hc
  cases V with
  | deed d a h ha =>
    cases d with
    | input c =>
      have cc := h c (by simp [Deed.names])
      show ∃ evs M' ys, lineM ⟨"input", [c], a, 0⟩ M xs = _ ∧ _
      rw [line_input]
      cases xs with
      | nil => exact ⟨[], stopR M, [], rfl, Done.stop F I hl hlt nil_ys⟩
      | cons v r =>
        have hv : (W.i v).inC cells := hx v (by simp)
        obtain ⟨n, _, w1, w2⟩ := I.wr F cc hv
        refine ⟨[.wr M.line c (.i v)], goR { M with held := putH M.held n (.i v) } a, r, by unfold inputM; dsimp only; rw [w1]; rfl, w2.go ha, ?_, by show 1 ≤ 3; decide, all1 ⟨l100, cc, hv⟩, cons_ys⟩
        exact go_pot hl hlt hm (show ¬ ("input" : Str) = "loop" by decide) hc ha (show (goR _ _).line = _ from rfl) (show (goR _ _).calling = false from hc) (by rw [List.length_cons]; exact Nat.le_succ _)
    | copy s t =>
      have cs := h s (by simp [Deed.names])
      have ct := h t (by simp [Deed.names])
      show ∃ evs M' ys, lineM ⟨"copy", [s, t], a, 0⟩ M xs = _ ∧ _
      rw [line_copy]
      obtain ⟨x, n, e1, e2, e3, e4, _⟩ := tr_done F I (m := ⟨"copy", [s, t], a, 0⟩) cs ct
      refine ⟨[.rd M.line s x, .wr M.line t x], goR { M with held := putH M.held n x } a, xs, by unfold copyM; dsimp only; rw [e3]; rfl, e4.go ha, ?_, by show 2 ≤ 3; decide, all2 ⟨l100, cs, e2⟩ ⟨l100, ct, e2⟩, same_ys⟩
      exact go_pot hl hlt hm (show ¬ ("copy" : Str) = "loop" by decide) hc ha (show (goR _ _).line = _ from rfl) (show (goR _ _).calling = false from hc) (Nat.le_refl _)
    | point p t =>
      have cs := h p (by simp [Deed.names])
      have ct := h t (by simp [Deed.names])
      show ∃ evs M' ys, lineM ⟨"point", [p, t], a, 0⟩ M xs = _ ∧ _
      rw [line_point]
      obtain ⟨n, _, w1, w2⟩ := I.wr F cs (show (W.a t).inC cells from ct)
      refine ⟨[.wr M.line p (.a t)], goR { M with held := putH M.held n (.a t) } a, xs, by unfold pointM; dsimp only; rw [w1]; rfl, w2.go ha, ?_, by show 1 ≤ 3; decide, all1 ⟨l100, cs, ct⟩, same_ys⟩
      exact go_pot hl hlt hm (show ¬ ("point" : Str) = "loop" by decide) hc ha (show (goR _ _).line = _ from rfl) (show (goR _ _).calling = false from hc) (Nat.le_refl _)
    | load t p =>
      have ct := h t (by simp [Deed.names])
      have cp := h p (by simp [Deed.names])
      show ∃ evs M' ys, lineM ⟨"load", [t, p], a, 0⟩ M xs = _ ∧ _
      rw [line_load]
      obtain ⟨x, h2, h3⟩ := I.rd F cp
      cases x with
      | un => exact ⟨[.rd M.line p .un], stopR M, xs, by unfold loadM; dsimp only; rw [h2]; rfl, I.stop, by rw [pot_stop]; exact pot_pos hl hlt, by show 1 ≤ 3; decide, all1 ⟨l100, cp, h3⟩, same_ys⟩
      | i n => exact ⟨[.rd M.line p (.i n)], stopR M, xs, by unfold loadM; dsimp only; rw [h2]; rfl, I.stop, by rw [pot_stop]; exact pot_pos hl hlt, by show 1 ≤ 3; decide, all1 ⟨l100, cp, h3⟩, same_ys⟩
      | a s =>
        obtain ⟨x, n, e1, e2, e3, e4, _⟩ := tr_done F I (m := ⟨"load", [t, p], a, 0⟩) (show s ∈ cells from h3) ct
        refine ⟨[.rd M.line p (.a s), .rd M.line s x, .wr M.line t x], goR { M with held := putH M.held n x } a, xs, by unfold loadM; dsimp only; rw [h2]; dsimp only [Option.bind, W.cell]; rw [e3]; rfl, e4.go ha, ?_, by show 3 ≤ 3; decide, all3 ⟨l100, cp, h3⟩ ⟨l100, h3, e2⟩ ⟨l100, ct, e2⟩, same_ys⟩
        exact go_pot hl hlt hm (show ¬ ("load" : Str) = "loop" by decide) hc ha (show (goR _ _).line = _ from rfl) (show (goR _ _).calling = false from hc) (Nat.le_refl _)
    | store s p =>
      have cs := h s (by simp [Deed.names])
      have cp := h p (by simp [Deed.names])
      show ∃ evs M' ys, lineM ⟨"store", [s, p], a, 0⟩ M xs = _ ∧ _
      rw [line_store]
      obtain ⟨x, h2, h3⟩ := I.rd F cp
      cases x with
      | un => exact ⟨[.rd M.line p .un], stopR M, xs, by unfold storeM; dsimp only; rw [h2]; rfl, I.stop, by rw [pot_stop]; exact pot_pos hl hlt, by show 1 ≤ 3; decide, all1 ⟨l100, cp, h3⟩, same_ys⟩
      | i n => exact ⟨[.rd M.line p (.i n)], stopR M, xs, by unfold storeM; dsimp only; rw [h2]; rfl, I.stop, by rw [pot_stop]; exact pot_pos hl hlt, by show 1 ≤ 3; decide, all1 ⟨l100, cp, h3⟩, same_ys⟩
      | a t =>
        obtain ⟨x, n, e1, e2, e3, e4, _⟩ := tr_done F I (m := ⟨"store", [s, p], a, 0⟩) cs (show t ∈ cells from h3)
        refine ⟨[.rd M.line p (.a t), .rd M.line s x, .wr M.line t x], goR { M with held := putH M.held n x } a, xs, by unfold storeM; dsimp only; rw [h2]; dsimp only [Option.bind, W.cell]; rw [e3]; rfl, e4.go ha, ?_, by show 3 ≤ 3; decide, all3 ⟨l100, cp, h3⟩ ⟨l100, cs, e2⟩ ⟨l100, h3, e2⟩, same_ys⟩
        exact go_pot hl hlt hm (show ¬ ("store" : Str) = "loop" by decide) hc ha (show (goR _ _).line = _ from rfl) (show (goR _ _).calling = false from hc) (Nat.le_refl _)
    | use c =>
      have cc := h c (by simp [Deed.names])
      show ∃ evs M' ys, lineM ⟨"use", [c], a, 0⟩ M xs = _ ∧ _
      rw [line_use]
      obtain ⟨x, h2, h3⟩ := I.rd F cc
      refine ⟨[.rd M.line c x], goR M a, xs, by unfold useM; dsimp only; rw [h2]; rfl, I.go ha, ?_, by show 1 ≤ 3; decide, all1 ⟨l100, cc, h3⟩, same_ys⟩
      exact go_pot hl hlt hm (show ¬ ("use" : Str) = "loop" by decide) hc ha (show (goR _ _).line = _ from rfl) (show (goR _ _).calling = false from hc) (Nat.le_refl _)
    | call p =>
      have cc := h p (by simp [Deed.names])
      show ∃ evs M' ys, lineM ⟨"call", [p], a, 0⟩ M xs = _ ∧ _
      rw [line_call]
      obtain ⟨x, h2, h3⟩ := I.rd F cc
      obtain ⟨i1, i2, i3⟩ := I.learn h3
      refine ⟨[.rd M.line p x], { learnM M x with calling := true }, xs, by unfold callM; dsimp only; rw [h2]; rfl, ⟨i1.pl, i1.ln, i1.kc, i1.kn, i1.hk, i1.hb⟩, ?_, by show 1 ≤ 3; decide, all1 ⟨l100, cc, h3⟩, same_ys⟩
      rw [pot_call (M := { learnM M x with calling := true }) (by show (learnM M x).line ≠ 0; rw [i2]; exact hl) rfl, pot_line hl hm (show ¬ ("call" : Str) = "loop" by decide) hc]
      omega
  | op o ho a b h ha hb =>
    cases o with
    | block => exact absurd rfl ho
    | loop =>
      show ∃ evs M' ys, lineM ⟨"loop", [], a, b⟩ M xs = _ ∧ _
      rw [line_loop]
      cases xs with
      | nil => exact ⟨[], stopR M, [], rfl, Done.stop F I hl hlt nil_ys⟩
      | cons v r =>
        have tg : Tgt R (M.line + 1) (if v = 0 then b else a) := by split; exact hb; exact ha
        refine ⟨_, _, _, rfl, I.go tg, ?_, Nat.zero_le _, all0, cons_ys⟩
        rw [pot_loop hl hm rfl hc, len_mul]
        have := pot_go (M := goR M (if v = 0 then b else a)) (xs := r) tg hlt hc rfl
        show Pot R (goR M (if v = 0 then b else a)) r < _
        omega
    | maybe =>
      show ∃ evs M' ys, lineM ⟨"maybe", [], a, b⟩ M xs = _ ∧ _
      rw [line_maybe]
      cases xs with
      | nil => exact ⟨[], stopR M, [], rfl, Done.stop F I hl hlt nil_ys⟩
      | cons v r =>
        have tg : Tgt R (M.line + 1) (if v = 0 then a else b) := by split; exact ha; exact hb
        refine ⟨_, _, _, rfl, I.go tg, ?_, Nat.zero_le _, all0, cons_ys⟩
        exact go_pot hl hlt hm (show ¬ ("maybe" : Str) = "loop" by decide) hc tg (show (goR _ _).line = _ from rfl) (show (goR _ _).calling = false from hc) (by rw [List.length_cons]; exact Nat.le_succ _)
    | same c d =>
      have cc := h c (by simp [Op.names])
      have cd := h d (by simp [Op.names])
      show ∃ evs M' ys, lineM ⟨"same", [c, d], a, b⟩ M xs = _ ∧ _
      rw [line_same]
      obtain ⟨x, h2, h3⟩ := I.rd F cc
      obtain ⟨y, h4, h5⟩ := I.rd F cd
      obtain ⟨k, hk⟩ : ∃ k, sameM M x y = some k := by
        unfold sameM
        cases x with
        | un => exact ⟨_, rfl⟩
        | i n => exact ⟨_, rfl⟩
        | a c1 =>
          cases y with
          | un => exact ⟨_, rfl⟩
          | i n => exact ⟨_, rfl⟩
          | a c2 =>
            obtain ⟨n1, hn1, _⟩ := F.pls c1 h3
            obtain ⟨n2, hn2, _⟩ := F.pls c2 h5
            exact ⟨decide (n1 = n2), by dsimp only [W.cell]; rw [I.pl, hn1, hn2]; rfl⟩
      have tg : Tgt R (M.line + 1) (if k = true then a else b) := by split; exact ha; exact hb
      refine ⟨[.rd M.line c x, .rd M.line d y, .sm M.line k], goR M (if k = true then a else b), xs, by unfold sameLM; dsimp only; rw [h2]; dsimp only [Option.bind]; rw [h4]; dsimp only [Option.bind]; rw [hk]; rfl, I.go tg, ?_, by show 3 ≤ 3; decide, all3 ⟨l100, cc, h3⟩ ⟨l100, cd, h5⟩ l100, same_ys⟩
      exact go_pot hl hlt hm (show ¬ ("same" : Str) = "loop" by decide) hc tg (show (goR _ _).line = _ from rfl) (show (goR _ _).calling = false from hc) (Nat.le_refl _)
/-- every run ends -/
theorem run_total (F : FC R cells pl) : ∀ (k : Nat) (M : RunM) (xs : List Int), RInv R cells pl M → (∀ x ∈ xs, x.natAbs < 10 ^ 60) → xs.length ≤ 1000000 → Pot R M xs ≤ k → ∃ evs, goM R (k + 1) M xs = some evs ∧ evs.length ≤ 3 * k ∧ ∀ e ∈ evs, EvC cells e := by
  intro k
  induction k with
  | zero =>
    intro M xs I hx hxl hp
    by_cases hl : M.line = 0
    · exact ⟨[], by show (if M.line = 0 then some [] else _) = _; rw [if_pos hl], Nat.zero_le _, all0⟩
    · obtain ⟨_, m, hm, _⟩ := I.ln.resolve_left hl
      have := pot_pos (R := R) (xs := xs) hl (List.getElem?_eq_some_iff.mp hm).1
      omega
  | succ k ih =>
    intro M xs I hx hxl hp
    by_cases hl : M.line = 0
    · exact ⟨[], by show (if M.line = 0 then some [] else _) = _; rw [if_pos hl], Nat.zero_le _, all0⟩
    obtain ⟨m, hm, hok, _, evs, M', ys, ha, D⟩ := step_done F I hx hxl hl
    obtain ⟨evs2, g1, g2, g3⟩ := ih M' ys D.inv (fun y hy => hx y (D.ys.2 y hy)) (Nat.le_trans D.ys.1 hxl) (by have := D.pot; omega)
    refine ⟨evs ++ evs2, ?_, by have := D.ev; rw [List.length_append]; omega, fun e he => (List.mem_append.mp he).elim (D.evc e) (g3 e)⟩
    show (if M.line = 0 then some [] else (match R[M.line]? with
      | some m => if okG m M xs = true then (advM m M xs).bind fun r => (goM R (k + 1) r.2.1 r.2.2).map (r.1 ++ ·) else none
      | none => none)) = _
    rw [if_neg hl, hm]
    dsimp only
    rw [if_pos hok, ha]
    show (goM R (k + 1) M' ys).map (evs ++ ·) = _
    rw [g1]
    rfl
end
end FP
set_option Elab.async false
set_option linter.all false
set_option maxRecDepth 100000
set_option maxHeartbeats 4000000
/-! The trees of a law, as they lie in the heap. -/
namespace FP
open PySem PySem.Spec PyProof.Rows L2 TL
def blkD (c l : Addr) : List (Key × V) := [(.inr "cells", .ref c), (.inr "body", .ref l)]
def Op.parts (o : Op) (x : Addr) : List V := o.names.map V.str ++ (.ref x :: if o.two = true then [.non] else [])
def Op.parts2 (o : Op) (x y : Addr) : List V := o.names.map V.str ++ [.ref x, .ref y]
def OrdsAt (H : Hp) : T → List Addr → Prop
  | .nil, os => os = []
  | .deed d r, os => ∃ o rest, os = o :: rest ∧ H o = some (.tup (d.words.map V.str)) ∧ OrdsAt H r rest
  | .one op cs b r, os => ∃ o x c l ors rest, os = o :: rest ∧ H o = some (.tup (.str op.word :: op.parts x)) ∧ H x = some (.dK (blkD c l)) ∧ H c = some (.lst (cs.map V.str)) ∧ H l = some (.lst (ors.map V.ref)) ∧ OrdsAt H b ors ∧ OrdsAt H r rest
  | .two op cs b cs' b' r, os => ∃ o x c l ors y c' l' ors' rest, os = o :: rest ∧ H o = some (.tup (.str op.word :: op.parts2 x y)) ∧ H x = some (.dK (blkD c l)) ∧ H c = some (.lst (cs.map V.str)) ∧ H l = some (.lst (ors.map V.ref)) ∧ OrdsAt H b ors ∧
      H y = some (.dK (blkD c' l')) ∧ H c' = some (.lst (cs'.map V.str)) ∧ H l' = some (.lst (ors'.map V.ref)) ∧ OrdsAt H b' ors' ∧ OrdsAt H r rest
theorem OrdsAt.same {H H' : Hp} (S : Same H H') : ∀ (t : T) {os : List Addr}, OrdsAt H t os → OrdsAt H' t os
  | .nil, _, h => h
  | .deed d r, _, ⟨o, rest, e, h1, h2⟩ => ⟨o, rest, e, S _ _ h1, OrdsAt.same S r h2⟩
  | .one op cs b r, _, ⟨o, x, c, l, ors, rest, e, h1, h2, h3, h4, h5, h6⟩ => ⟨o, x, c, l, ors, rest, e, S _ _ h1, S _ _ h2, S _ _ h3, S _ _ h4, OrdsAt.same S b h5, OrdsAt.same S r h6⟩
  | .two op cs b cs' b' r, _, ⟨o, x, c, l, ors, y, c', l', ors', rest, e, h1, h2, h3, h4, h5, h2', h3', h4', h5', h6⟩ =>
    ⟨o, x, c, l, ors, y, c', l', ors', rest, e, S _ _ h1, S _ _ h2, S _ _ h3, S _ _ h4, OrdsAt.same S b h5, S _ _ h2', S _ _ h3', S _ _ h4', OrdsAt.same S b' h5', OrdsAt.same S r h6⟩
def BlkAt (H : Hp) (x : Addr) (cs : List Str) (t : T) : Prop := ∃ c l ors, H x = some (.dK (blkD c l)) ∧ H c = some (.lst (cs.map V.str)) ∧ H l = some (.lst (ors.map V.ref)) ∧ OrdsAt H t ors
theorem BlkAt.same {H H' : Hp} {x : Addr} {cs : List Str} {t : T} (S : Same H H') (h : BlkAt H x cs t) : BlkAt H' x cs t := by
  obtain ⟨c, l, ors, h1, h2, h3, h4⟩ := h
  exact ⟨c, l, ors, S _ _ h1, S _ _ h2, S _ _ h3, h4.same S⟩
def depT : T → Nat
  | .nil => 0
  | .deed _ r => depT r
  | .one _ _ b r => max (depT b + 1) (depT r)
  | .two _ _ b _ b' r => max (max (depT b + 1) (depT b' + 1)) (depT r)
def lenT : T → Nat
  | .nil => 0
  | .deed _ r => lenT r + 1
  | .one _ _ _ r => lenT r + 1
  | .two _ _ _ _ _ r => lenT r + 1
theorem OrdsAt.len {H : Hp} : ∀ (t : T) {os : List Addr}, OrdsAt H t os → os.length = lenT t
  | .nil, _, h => by rw [h]; rfl
  | .deed d r, _, ⟨o, rest, e, h1, h2⟩ => by rw [e, List.length_cons, OrdsAt.len r h2]; rfl
  | .one op cs b r, _, ⟨o, x, c, l, ors, rest, e, h1, h2, h3, h4, h5, h6⟩ => by rw [e, List.length_cons, OrdsAt.len r h6]; rfl
  | .two op cs b cs' b' r, _, ⟨o, x, c, l, ors, y, c', l', ors', rest, e, h1, h2, h3, h4, h5, h2', h3', h4', h5', h6⟩ => by rw [e, List.length_cons, OrdsAt.len r h6]; rfl
theorem lenT_le : ∀ t : T, lenT t ≤ sizeT t
  | .nil => Nat.le_refl _
  | .deed _ r => by have := lenT_le r; rw [lenT, sizeT]; omega
  | .one _ cs b r => by have := lenT_le r; rw [lenT, sizeT]; omega
  | .two _ cs b cs' b' r => by have := lenT_le r; rw [lenT, sizeT]; omega
/-! ### parts of an order by their kinds -/
def isDv : V → Bool
  | .ref _ => true
  | _ => false
def isSv : V → Bool
  | .str _ => true
  | _ => false
def PartOk (H : Hp) (v : V) : Prop := (∃ s, v = .str s) ∨ (∃ x kvs, v = .ref x ∧ H x = some (.dK kvs)) ∨ v = .non
theorem PartOk.same {H H' : Hp} {v : V} (S : Same H H') (h : PartOk H v) : PartOk H' v := by
  rcases h with h | ⟨x, kvs, e, h⟩ | h
  · exact .inl h
  · exact .inr (.inl ⟨x, kvs, e, S _ _ h⟩)
  · exact .inr (.inr h)
theorem part_dict {K : PySem.W.Frag} {H : Hp} {v : V} (h : PartOk H v) : ∃ t, TyX K H v t ∧ PySem.W.kitOne K t (.type "dict") = some (isDv v) := by
  rcases h with ⟨s, rfl⟩ | ⟨x, kvs, rfl, h⟩ | rfl
  · exact ⟨_, .base (.str s), kit_ty (r := false) (by decide +kernel)⟩
  · exact ⟨_, .base (.dK h), kit_ty (r := true) (by decide +kernel)⟩
  · exact ⟨_, .base .non, kit_ty (r := false) (by decide +kernel)⟩
theorem part_str {K : PySem.W.Frag} {H : Hp} {v : V} (h : PartOk H v) : ∃ t, TyX K H v t ∧ PySem.W.kitOne K t (.type "str") = some (isSv v) := by
  rcases h with ⟨s, rfl⟩ | ⟨x, kvs, rfl, h⟩ | rfl
  · exact ⟨_, .base (.str s), kit_ty (r := true) (by decide +kernel)⟩
  · exact ⟨_, .base (.dK h), kit_ty (r := false) (by decide +kernel)⟩
  · exact ⟨_, .base .non, kit_ty (r := false) (by decide +kernel)⟩
theorem parts_ok {H : Hp} {o : Op} {x : Addr} {kvs : List (Key × V)} (h : H x = some (.dK kvs)) : ∀ v ∈ o.parts x, PartOk H v := by
  intro v hv
  rcases List.mem_append.mp hv with z | z
  · obtain ⟨s, _, rfl⟩ := List.mem_map.mp z
    exact .inl ⟨s, rfl⟩
  rcases List.mem_cons.mp z with z | z
  · exact .inr (.inl ⟨x, kvs, z, h⟩)
  · split at z
    · exact .inr (.inr (List.mem_singleton.mp z))
    · cases z
theorem parts2_ok {H : Hp} {o : Op} {x y : Addr} {kvs kvs' : List (Key × V)} (h : H x = some (.dK kvs)) (h' : H y = some (.dK kvs')) : ∀ v ∈ o.parts2 x y, PartOk H v := by
  intro v hv
  rcases List.mem_append.mp hv with z | z
  · obtain ⟨s, _, rfl⟩ := List.mem_map.mp z
    exact .inl ⟨s, rfl⟩
  rcases List.mem_cons.mp z with z | z
  · exact .inr (.inl ⟨x, kvs, z, h⟩)
  · exact .inr (.inl ⟨y, kvs', List.mem_singleton.mp z, h'⟩)
theorem parts_D (o : Op) (x : Addr) : (o.parts x).filter isDv = [.ref x] := by cases o <;> rfl
theorem parts_S (o : Op) (x : Addr) : (o.parts x).filter isSv = o.names.map V.str := by cases o <;> rfl
theorem parts2_D (o : Op) (x y : Addr) : (o.parts2 x y).filter isDv = [.ref x, .ref y] := by cases o <;> rfl
theorem parts2_S (o : Op) (x y : Addr) : (o.parts2 x y).filter isSv = o.names.map V.str := by cases o <;> rfl
theorem parts_len (o : Op) (x : Addr) : (o.parts x).length ≤ 4 := by cases o <;> (show _ ≤ 4) <;> simp [Op.parts, Op.names, Op.two]
theorem parts2_len (o : Op) (x y : Addr) : (o.parts2 x y).length ≤ 4 := by cases o <;> (show _ ≤ 4) <;> simp [Op.parts2, Op.names]
theorem filter_take {p : V → Bool} {ps : List V} {n : Nat} {v : V} (h : ps[n]? = some v) : (ps.take (n + 1)).filter p = (ps.take n).filter p ++ (if p v = true then [v] else []) := by
  rw [List.take_add_one, h, List.filter_append]
  congr 1
  show [v].filter p = _
  rw [List.filter_cons]
  rfl
theorem filter_len {p : V → Bool} {ps : List V} {n : Nat} (h : ps.length ≤ 4) : ((ps.take n).filter p).length < sizeLine := by
  have h1 := List.length_filter_le p (ps.take n)
  have h2 : (ps.take n).length ≤ ps.length := by rw [List.length_take]; omega
  rw [sizeLine_eq]
  omega
/-- t[1:] of a tuple that isn't empty -/
theorem cut_tl {v : V} {ps : List V} : ¬ (HT.sIx (v :: ps).length 0 (some (1 : Int)) = 0 ∧ HT.sIx (v :: ps).length (v :: ps).length none = (v :: ps).length) := by
  intro z
  have h1 : HT.sIx (v :: ps).length 0 (some ((1 : Nat) : Int)) = min 1 (v :: ps).length := HT.sIx_nat ..
  have h2 := z.1
  rw [show (some (1 : Int)) = some ((1 : Nat) : Int) from rfl, h1] at h2
  rw [List.length_cons] at h2
  omega
theorem deed_words (d : Deed) : ∃ ws, d.words = d.word :: ws ∧ ws.length ≤ 3 := by
  cases d <;> exact ⟨_, rfl, by simp⟩
def openW : List V := [.str "block", .str "loop", .str "maybe", .str "same"]
theorem deed_notopen (d : Deed) : inV (.str d.word) openW = false := match d with
  | .input _ => (by decide : inV (.str "input") openW = false)
  | .copy _ _ => (by decide : inV (.str "copy") openW = false)
  | .point _ _ => (by decide : inV (.str "point") openW = false)
  | .load _ _ => (by decide : inV (.str "load") openW = false)
  | .store _ _ => (by decide : inV (.str "store") openW = false)
  | .use _ => (by decide : inV (.str "use") openW = false)
  | .call _ => (by decide : inV (.str "call") openW = false)
theorem op_open (o : Op) : inV (.str o.word) openW = true := match o with
  | .block => (by decide : inV (.str "block") openW = true)
  | .loop => (by decide : inV (.str "loop") openW = true)
  | .maybe => (by decide : inV (.str "maybe") openW = true)
  | .same _ _ => (by decide : inV (.str "same") openW = true)
/-- the kinds of what comes next -/
inductive OrdV (H : Hp) (o : Addr) : T → T → Prop where
  | deed (d : Deed) (r : T) (h : H o = some (.tup (d.words.map V.str))) : OrdV H o (.deed d r) r
  | one (op : Op) (cs : List Str) (b r : T) (x : Addr) (h : H o = some (.tup (.str op.word :: op.parts x))) (hb : BlkAt H x cs b) : OrdV H o (.one op cs b r) r
  | two (op : Op) (cs : List Str) (b : T) (cs' : List Str) (b' r : T) (x y : Addr) (h : H o = some (.tup (.str op.word :: op.parts2 x y))) (hb : BlkAt H x cs b) (hb' : BlkAt H y cs' b') : OrdV H o (.two op cs b cs' b' r) r
theorem OrdsAt.step {H : Hp} {t : T} {o : Addr} {rest : List Addr} (h : OrdsAt H t (o :: rest)) : ∃ r, OrdV H o t r ∧ OrdsAt H r rest := by
  cases t with
  | nil => cases h
  | deed d r =>
    obtain ⟨o', rest', e, h1, h2⟩ := h
    cases e
    exact ⟨r, .deed d r h1, h2⟩
  | one op cs b r =>
    obtain ⟨o', x, c, l, ors, rest', e, h1, h2, h3, h4, h5, h6⟩ := h
    cases e
    exact ⟨r, .one op cs b r x h1 ⟨c, l, ors, h2, h3, h4, h5⟩, h6⟩
  | two op cs b cs' b' r =>
    obtain ⟨o', x, c, l, ors, y, c', l', ors', rest', e, h1, h2, h3, h4, h5, h2', h3', h4', h5', h6⟩ := h
    cases e
    exact ⟨r, .two op cs b cs' b' r x y h1 ⟨c, l, ors, h2, h3, h4, h5⟩ ⟨c', l', ors', h2', h3', h4', h5'⟩, h6⟩
theorem OrdsAt.end_ {H : Hp} {t : T} (h : OrdsAt H t []) : t = .nil := by
  cases t with
  | nil => rfl
  | deed d r => obtain ⟨_, _, e, _⟩ := h; cases e
  | one op cs b r => obtain ⟨_, _, _, _, _, _, e, _⟩ := h; cases e
  | two op cs b cs' b' r => obtain ⟨_, _, _, _, _, _, _, _, _, _, e, _⟩ := h; cases e
theorem drop_at {α β : Type} {l : List α} {f : α → β} {i : Nat} {v : β} (h : (l.map f)[i]? = some v) : ∃ x, v = f x ∧ l.drop i = x :: l.drop (i + 1) := by
  rw [List.getElem?_map] at h
  obtain ⟨x, hx, rfl⟩ := Option.map_eq_some_iff.mp h
  obtain ⟨hi, hx⟩ := List.getElem?_eq_some_iff.mp hx
  exact ⟨x, rfl, by rw [List.drop_eq_getElem_cons hi, hx]⟩
theorem blk_cells (c l : Addr) : valV (blkD c l) (.inr "cells") = some (.ref c) := rfl
theorem blk_body (c l : Addr) : valV (blkD c l) (.inr "body") = some (.ref l) := rfl
theorem get_cells {H : Hp} {x c l : Addr} (h : H x = some (.dK (blkD c l))) : DGet H x (.str "cells") (some (.ref c)) := DGet.k (k := .inr "cells") h
theorem get_body {H : Hp} {x c l : Addr} (h : H x = some (.dK (blkD c l))) : DGet H x (.str "body") (some (.ref l)) := DGet.k (k := .inr "body") h
theorem strs_nil (cs : List Str) : PyData.eqv (.list (cs.map PyData.str)) (.list []) = decide (cs = []) := by
  cases cs with
  | nil => rfl
  | cons c r =>
    rw [decide_eq_false (by intro e; cases e)]
    rfl
end FP
set_option Elab.async false
set_option linter.all false
set_option maxRecDepth 100000
set_option maxHeartbeats 4000000
set_option exponentiation.threshold 2000
/-! The lines of a law's tree. -/
namespace FP
open PySem PySem.Spec PyProof.Rows L2 TL
structure Blt3 (mg : Str → Option Value) : Prop where
  len : mg "len" = none
  list : mg "list" = none
  isi : mg "isinstance" = none
  dict : mg "dict" = none
  str : mg "str" = none
/-- the lines as texts -/
def lnJ (ls : List (List Str)) : List Str := ls.map (Txt.join " ")
/-- good lines: short words, few lines -/
structure OkB (cs : List Str) (t : T) : Prop where
  sz : sizeP cs t ≤ 1000
  pl : ∀ ws ∈ linesP cs t, plainL ws
  ok : ∀ x ∈ cs ++ declT t, PyData.strOk x = true
  dl : (cs ++ declT t).length ≤ 1000
theorem plain_join {ws : List Str} (h : plainL ws) (sep : Str) (hs : sep.length ≤ 1) : (ws.map (·.length)).sum + ws.length * sep.length ≤ 16777216 := by
  obtain ⟨_, h6, hw⟩ := h
  have : ∀ l : List Str, (∀ w ∈ l, plainW w) → (l.map (·.length)).sum ≤ l.length * 12 := by
    intro l
    induction l with
    | nil => intro _; exact Nat.le_refl _
    | cons w r ih =>
      intro hw
      have h1 := ih fun x hx => hw x (List.mem_cons_of_mem _ hx)
      have h2 := (hw w List.mem_cons_self).2.1
      rw [← len_tl] at h2
      rw [List.map_cons, List.sum_cons, List.length_cons]
      omega
  have h1 := this ws hw
  have h2 : ws.length * sep.length ≤ ws.length * 1 := Nat.mul_le_mul_left _ hs
  omega
/-- what is left of a block -/
structure OkT (t : T) : Prop where
  sz : sizeT t ≤ 1000
  pl : ∀ ws ∈ linesT t, plainL ws
  ok : ∀ x ∈ declT t, PyData.strOk x = true
  dl : (declT t).length ≤ 1000
theorem OkB.t {cs : List Str} {t : T} (O : OkB cs t) : OkT t :=
  ⟨by have := O.sz; unfold sizeP at this; omega, fun ws hw => O.pl ws (List.mem_append_right _ hw), fun x hx => O.ok x (List.mem_append_right _ hx), by have := O.dl; rw [List.length_append] at this; omega⟩
theorem OkT.deed {d : Deed} {r : T} (O : OkT (.deed d r)) : plainL d.words ∧ OkT r :=
  ⟨O.pl _ List.mem_cons_self, by have := O.sz; rw [sizeT] at this; omega, fun ws hw => O.pl ws (List.mem_cons_of_mem _ hw), fun x hx => O.ok x hx, O.dl⟩
theorem OkT.one {o : Op} {cs : List Str} {b r : T} (O : OkT (.one o cs b r)) : plainL (o.word :: o.names) ∧ OkB cs b ∧ OkT r := by
  have hs := O.sz
  rw [sizeT] at hs
  have hd := O.dl
  rw [declT, List.length_append] at hd
  refine ⟨O.pl _ List.mem_cons_self, ⟨by unfold sizeP; omega, fun ws hw => O.pl ws ?_, fun x hx => O.ok x ?_, by omega⟩, ⟨by omega, fun ws hw => O.pl ws ?_, fun x hx => O.ok x ?_, by omega⟩⟩
  · rw [linesT]
    exact List.mem_cons_of_mem _ (List.mem_append_left _ hw)
  · rw [declT]
    exact List.mem_append_left _ hx
  · rw [linesT]
    exact List.mem_cons_of_mem _ (List.mem_append_right _ (List.mem_cons_of_mem _ hw))
  · rw [declT]
    exact List.mem_append_right _ hx
theorem OkT.two {o : Op} {cs : List Str} {b : T} {cs' : List Str} {b' r : T} (O : OkT (.two o cs b cs' b' r)) : plainL (o.word :: o.names) ∧ OkB cs b ∧ OkB cs' b' ∧ OkT r := by
  have hs := O.sz
  rw [sizeT] at hs
  have hd := O.dl
  rw [declT] at hd
  simp only [List.length_append] at hd
  refine ⟨O.pl _ List.mem_cons_self, ⟨by unfold sizeP; omega, fun ws hw => O.pl ws ?_, fun x hx => O.ok x ?_, by rw [List.length_append]; omega⟩, ⟨by unfold sizeP; omega, fun ws hw => O.pl ws ?_, fun x hx => O.ok x ?_, by rw [List.length_append]; omega⟩, ⟨by omega, fun ws hw => O.pl ws ?_, fun x hx => O.ok x ?_, by omega⟩⟩
  · rw [linesT]
    exact List.mem_cons_of_mem _ (List.mem_append_left _ hw)
  · rw [declT]
    exact List.mem_append_left _ hx
  · rw [linesT]
    exact List.mem_cons_of_mem _ (List.mem_append_right _ (List.mem_cons_of_mem _ (List.mem_append_left _ hw)))
  · rw [declT]
    exact List.mem_append_right _ (List.mem_append_left _ hx)
  · rw [linesT]
    exact List.mem_cons_of_mem _ (List.mem_append_right _ (List.mem_cons_of_mem _ (List.mem_append_right _ (List.mem_cons_of_mem _ hw))))
  · rw [declT]
    exact List.mem_append_right _ (List.mem_append_right _ hx)
theorem boot_isi : bootBuiltins "isinstance" = some (.builtin "isinstance") := by decide +kernel
abbrev ttIsi (K : PySem.W.Frag) (i : Nat) (c : String) : TT := tB (tCB (rIsi K) (tCons (tVar i) (tCons (tC (.ty c)) tNil)))
/-- an order that opens blocks -/
structure OpAt (H : Hp) (o : Addr) (t r : T) (d : Nat) (op : Op) (ps : List V) (y : Addr) (cb : List Str) (b : T) (dr : List Addr) : Prop where
  at_ : H o = some (.tup (.str op.word :: ps))
  part : ∀ v ∈ ps, PartOk H v
  dv : ps.filter isDv = .ref y :: dr.map V.ref
  sv : ps.filter isSv = op.names.map V.str
  len : ps.length ≤ 4
  blk : BlkAt H y cb b
  dep : depT b < d
  okb : OkB cb b
  pl : plainL (op.word :: op.names)
  depr : depT r < d + 1
  okr : OkT r
  idx : ∀ n v, ps[n]? = some v → (n < op.names.length ∧ ∃ s, v = .str s) ∨ (n = op.names.length ∧ v = .ref y) ∨ (n = op.names.length + 1 ∧ ((dr = [] ∧ v = .non) ∨ ∃ z, dr = [z] ∧ v = .ref z))
  end_ : op.names.length + 1 ≤ ps.length ∧ ps.length ≤ op.names.length + 2 ∧ (dr ≠ [] → ps.length = op.names.length + 2)
  more : (dr = [] ∧ t = .one op cb b r) ∨ ∃ y' cb' b', dr = [y'] ∧ BlkAt H y' cb' b' ∧ depT b' < d ∧ OkB cb' b' ∧ t = .two op cb b cb' b' r
theorem blk_dict {H : Hp} {y : Addr} {cb : List Str} {b : T} (h : BlkAt H y cb b) : ∃ kvs, H y = some (.dK kvs) := let ⟨c, l, _, h, _⟩ := h; ⟨_, h⟩
theorem parts_idx (o : Op) (y : Addr) (n : Nat) (v : V) (h : (o.parts y)[n]? = some v) : (n < o.names.length ∧ ∃ s, v = .str s) ∨ (n = o.names.length ∧ v = .ref y) ∨ (n = o.names.length + 1 ∧ ((([] : List Addr) = [] ∧ v = .non) ∨ ∃ z, ([] : List Addr) = [z] ∧ v = .ref z)) := by
  unfold Op.parts at h
  by_cases h1 : n < o.names.length
  · rw [List.getElem?_append_left (by rw [List.length_map]; exact h1), List.getElem?_map] at h
    obtain ⟨s, _, rfl⟩ := Option.map_eq_some_iff.mp h
    exact .inl ⟨h1, s, rfl⟩
  · rw [List.getElem?_append_right (by rw [List.length_map]; omega), List.length_map] at h
    obtain ⟨k, rfl⟩ : ∃ k, n = o.names.length + k := ⟨n - o.names.length, by omega⟩
    rw [Nat.add_sub_cancel_left] at h
    match k, h with
    | 0, h => exact .inr (.inl ⟨rfl, (Option.some.inj h).symm⟩)
    | 1, h =>
      rw [List.getElem?_cons_succ] at h
      split at h
      · exact .inr (.inr ⟨rfl, .inl ⟨rfl, (Option.some.inj h).symm⟩⟩)
      · cases h
    | k + 2, h =>
      rw [List.getElem?_cons_succ] at h
      split at h <;> cases h
theorem parts2_idx (o : Op) (y y' : Addr) (n : Nat) (v : V) (h : (o.parts2 y y')[n]? = some v) : (n < o.names.length ∧ ∃ s, v = .str s) ∨ (n = o.names.length ∧ v = .ref y) ∨ (n = o.names.length + 1 ∧ (([y'] = ([] : List Addr) ∧ v = .non) ∨ ∃ z, [y'] = [z] ∧ v = .ref z)) := by
  unfold Op.parts2 at h
  by_cases h1 : n < o.names.length
  · rw [List.getElem?_append_left (by rw [List.length_map]; exact h1), List.getElem?_map] at h
    obtain ⟨s, _, rfl⟩ := Option.map_eq_some_iff.mp h
    exact .inl ⟨h1, s, rfl⟩
  · rw [List.getElem?_append_right (by rw [List.length_map]; omega), List.length_map] at h
    obtain ⟨k, rfl⟩ : ∃ k, n = o.names.length + k := ⟨n - o.names.length, by omega⟩
    rw [Nat.add_sub_cancel_left] at h
    match k, h with
    | 0, h => exact .inr (.inl ⟨rfl, (Option.some.inj h).symm⟩)
    | 1, h => exact .inr (.inr ⟨rfl, .inr ⟨y', rfl, (Option.some.inj h).symm⟩⟩)
    | k + 2, h => cases h
theorem parts_end (o : Op) (y : Addr) : o.names.length + 1 ≤ (o.parts y).length ∧ (o.parts y).length ≤ o.names.length + 2 := by
  unfold Op.parts
  rw [List.length_append, List.length_map, List.length_cons]
  split
  · exact ⟨by omega, Nat.le_refl _⟩
  · exact ⟨Nat.le_refl _, by show _ + (0 + 1) ≤ _; omega⟩
theorem parts2_end (o : Op) (y y' : Addr) : (o.parts2 y y').length = o.names.length + 2 := by
  unfold Op.parts2
  rw [List.length_append, List.length_map]
  rfl
theorem OrdV.open_ {H : Hp} {o : Addr} {t r : T} {d : Nat} (h : OrdV H o t r) (hd : depT t < d + 1) (O : OkT t) : (∃ k, t = .deed k r ∧ H o = some (.tup (k.words.map V.str))) ∨ ∃ op ps y cb b dr, OpAt H o t r d op ps y cb b dr := by
  cases h with
  | deed k _ h => exact .inl ⟨k, rfl, h⟩
  | one op cs b _ x h hb =>
    obtain ⟨h1, h2, h3⟩ := O.one
    obtain ⟨kvs, hk⟩ := blk_dict hb
    rw [depT] at hd
    exact .inr ⟨op, _, x, cs, b, [], h, parts_ok hk, parts_D op x, parts_S op x, parts_len op x, hb, by omega, h2, h1, by omega, h3, parts_idx op x, ⟨(parts_end op x).1, (parts_end op x).2, fun z => absurd rfl z⟩, .inl ⟨rfl, rfl⟩⟩
  | two op cs b cs' b' _ x y h hb hb' =>
    obtain ⟨h1, h2, h2', h3⟩ := O.two
    obtain ⟨kvs, hk⟩ := blk_dict hb
    obtain ⟨kvs', hk'⟩ := blk_dict hb'
    rw [depT] at hd
    exact .inr ⟨op, _, x, cs, b, [y], h, parts2_ok hk hk', parts2_D op x y, parts2_S op x y, parts2_len op x y, hb, by omega, h2, h1, by omega, h3, parts2_idx op x y, ⟨by rw [parts2_end]; omega, by rw [parts2_end]; exact Nat.le_refl _, fun _ => parts2_end op x y⟩, .inr ⟨y, cs', b', rfl, hb', by omega, h2', rfl⟩⟩
/-- a value that is made by one way or another -/
theorem seq_mid {te : TE} {g : TG} {tb : TS} {D : Ends} {σ : L2.St} {H : Hp} (R : V → Hp → Prop) (k : ∀ Qy : V → Hp → Prop, (∀ v H1, R v H1 → Qy v H1) → te σ H Qy) (m : ∀ v H1, R v H1 → g v σ H1 (tb D)) : tSeq (tAsg te g) tb D σ H := k _ m
theorem seq_drop {te : TE} {tb : TS} {D : Ends} {σ : L2.St} {H : Hp} (h : te σ H fun _ H1 => tb D σ H1) : tSeq (tDrop te) tb D σ H := h
theorem lnJ_app (a b : List (List Str)) : lnJ (a ++ b) = lnJ a ++ lnJ b := List.map_append ..
theorem lnJ_cons (a : List Str) (b : List (List Str)) : lnJ (a :: b) = Txt.join " " a :: lnJ b := rfl
theorem lnJ_len (a : List (List Str)) : (lnJ a).length = a.length := List.length_map ..
section
variable {P : Program} {w : World} {K : PySem.W.Frag} {mg : Str → Option Value} {base : Heap}
def spBL (d : Nat) : Sp := fun vs H Q _ => ∃ (x : Addr) (cs : List Str) (t : T), vs = [.ref x] ∧ BlkAt H x cs t ∧ depT t < d ∧ OkB cs t ∧ ∀ r H', Same H H' → H r = none → H' r = some (.lst ((lnJ (linesP cs t)).map V.str)) → Q (.ref r) H'
abbrev nBL : List Str := ["_law_block", "_law_found", "_law_order", "_law_inner", "_law_part"]
theorem scBL : FnScope nBL ["_law_block"] (defScope qBlockLines) := ⟨rfl, rfl, rfl, by decide +kernel, rfl, by decide +kernel, by decide +kernel⟩
theorem ok_bl {f : Addr} {fd : FuncData} (F : Fun K "_law_block_lines" "_law_block_lines" qBlockLines f fd) (B : Blt3 mg) (g : mg "_law_block_lines" = some (.ref f)) (kp : W.keepIn K (.ref f) = true) (b : Binds K fd ["_law_block"] []) :
    ∀ d, FnOk P w K mg base CX0 d f fd ["_law_block"] (spBL d)
  | 0 => ⟨fun vs H Q E h => (by obtain ⟨x, cs, t, _, _, h, _⟩ := h; exact absurd h (Nat.not_lt_zero _)), fun A outer s H args us vs Q E _ _ _ _ h => (by obtain ⟨x, cs, t, _, _, h, _⟩ := h; exact absurd h (Nat.not_lt_zero _))⟩
  | d + 1 => by
    have GD := ok_bl F B g kp b d
    refine F.ok scBL (fun vs H Q E h => ?_) (fun cdv A outer s H vs Q E hr h => ?_)
    · obtain ⟨x, cs, t, rfl, _⟩ := h
      rfl
    obtain ⟨x, cs, t, rfl, hx, hd, O, q⟩ := h
    have hu := hu_of hr
    refine ⟨_, pss_cons (ps_set (i := 1) scBL.nd rfl (.inl rfl) (pe_ifExp (pt_cmpR (op_neD hr.units) (pe_dget hu (pv 0) pe_str (fun _ _ => rfl)) (pe_lst pa_nil) (nomark _)) (pe_lst (pa_cons (pe_join pe_str (pe_op op_cat (pe_lst (pa_cons pe_str pa_nil)) (pe_dget hu (pv 0) pe_str (fun _ _ => rfl)))) pa_nil)) (pe_lst pa_nil)))
      (pss_cons (ps_for PassesOwn.never rfl (pi_list (pe_dget hu (pv 0) pe_str (fun _ _ => rfl))) (pg_name (i := 2) scBL.nd rfl (Or.inl rfl))
        (pss_cons (ps_if (pt_cmpR op_notIn_seq (pe_ix ix_tup (pv 2) pe_int (fun _ _ => rfl)) (pe_tup (pa_cons pe_str (pa_cons pe_str (pa_cons pe_str (pa_cons pe_str pa_nil))))) (by rfl))
          (pss_cons (ps_expr (pe_bm PySem.F.plainAttrs_list PySem.F.slot_list_append PySem.F.type_list_append mt_append (pv 1) (pa_cons (pe_join pe_str (pe_callTy call_list_of (by rfl) B.list (by decide +kernel) (pa_cons (pv 2) pa_nil))) pa_nil))) (pss_one ps_continue)) pss_nil)
        (pss_cons (ps_setLc (i := 3) (own := [("_law_part", 4)]) (g := gName 4) (tt := ttIsi K 4 "dict") (te := tVar 4) (by rfl) scBL.nd rfl rfl (sw_true rfl rfl rfl (by decide +kernel)) (pi_tup (pe_slice sl_tup (pv 2) (po_some pe_int) po_none)) (blkOk_by (own := [("_law_part", 4)]) (N := nBL) (sc := defScope qBlockLines) (by decide +kernel))
          (fun _ _ _ _ _ => pg_name (i := 4) scBL.nd rfl (Or.inl rfl)) (fun _ _ _ _ _ => pts_one (pt_val (pe_callB call_isi (by rfl) B.isi boot_isi (pa_cons (pv 4) (pa_cons (pe_bltn (v := .ty "dict") (by rfl) B.dict (by decide +kernel) rfl) pa_nil))))) (fun _ _ _ _ _ => pv 4))
        (pss_cons (ps_expr (pe_bm PySem.F.plainAttrs_list PySem.F.slot_list_append PySem.F.type_list_append mt_append (pv 1) (pa_cons (pe_join pe_str (pe_op op_cat (pe_lst (pa_cons (pe_ix ix_tup (pv 2) pe_int (fun _ _ => rfl)) pa_nil))
          (pe_lc (own := [("_law_part", 4)]) (g := gName 4) (tt := ttIsi K 4 "str") (te := tVar 4) (by rfl) scBL.nd (pi_tup (pe_slice sl_tup (pv 2) (po_some pe_int) po_none)) (blkOk_by (own := [("_law_part", 4)]) (N := nBL) (sc := defScope qBlockLines) (by decide +kernel))
            (fun _ _ _ _ _ => pg_name (i := 4) scBL.nd rfl (Or.inl rfl)) (fun _ _ _ _ _ => pts_one (pt_val (pe_callB call_isi (by rfl) B.isi boot_isi (pa_cons (pv 4) (pa_cons (pe_bltn (v := .ty "str") (by rfl) B.str (by decide +kernel) rfl) pa_nil))))) (fun _ _ _ _ _ => pv 4)))) pa_nil)))
        (pss_cons (ps_set (i := 1) scBL.nd rfl (.inl rfl) (pe_op op_cat (pv 1) (pe_call GD hr rfl g kp b .nil pass0 (pa_cons (pe_ix ix_list (pv 3) pe_int (fun _ _ => rfl)) pa_nil))))
        (pss_cons (ps_if (pt_cmpR op_eq (pe_callB call_len_seq (by rfl) B.len boot_len (pa_cons (pv 3) pa_nil)) pe_int (nomark _))
          (pss_one (ps_set (i := 1) scBL.nd rfl (.inl rfl) (pe_op op_cat (pe_op op_cat (pv 1) (pe_lst (pa_cons pe_str pa_nil))) (pe_call GD hr rfl g kp b .nil pass0 (pa_cons (pe_ix ix_list (pv 3) pe_int (fun _ _ => rfl)) pa_nil))))) pss_nil)
        (pss_one (ps_expr (pe_bm PySem.F.plainAttrs_list PySem.F.slot_list_append PySem.F.type_list_append mt_append (pv 1) (pa_cons pe_str pa_nil))))))))))
      (pss_one (ps_ret (pv 1)))), ?_⟩
    obtain ⟨c, l, ors, h1, h2, h3, h4⟩ := hx
    have hoks : ∀ y ∈ cs, PyData.strOk y = true := fun y hy => O.ok y (List.mem_append_left _ hy)
    refine seq_mid (fun v H1 => ∃ f, v = .ref f ∧ Same H H1 ∧ H f = none ∧ H1 f = some (.lst ((lnJ (loc cs)).map V.str))) (fun Qy hq => ?_) ?_
    · refine ⟨_, rfl, x, _, rfl, get_cells h1, Nat.zero_le _, fun z nz => ⟨_, _, .lst (SqL.of ((new_same nz) _ _ h2)) (strs_dp _ _ cs), .lst (SqL.of upd_same) .nil, strs_shaped _ hoks, rfl, _, rfl, ?_⟩⟩
      have S0 := new_same (o := .lst []) nz
      rw [strs_nil]
      by_cases hc : cs = []
      · rw [decide_eq_true hc]
        refine iteF ⟨Nat.zero_le _, fun f nf => hq _ _ ⟨f, rfl, S0.trans (new_same nf), S0.free nf, ?_⟩⟩
        rw [upd_same, loc, if_pos hc]
        rfl
      · rw [decide_eq_false hc]
        refine iteT ⟨⟨_, rfl⟩, sz1000 (by show 1 ≤ 1000; decide), fun l1 n1 => ?_⟩
        have S1 := S0.trans (new_same (o := .lst [.str "local"]) n1)
        have e1 := new_at (o := .lst [.str "local"]) n1
        have hpl : plainL ("local" :: cs) := O.pl _ (by unfold linesP; rw [loc, if_neg hc]; exact List.mem_append_left _ List.mem_cons_self)
        have h6 := hpl.2.1
        rw [List.length_cons] at h6
        refine ⟨_, rfl, x, _, rfl, get_cells (S1 _ _ h1), l1, c, [.str "local"], cs.map V.str, rfl, rfl, e1, S1 _ _ h2, sz1000 (by rw [List.length_map]; show 1 + cs.length ≤ 1000; omega), fun l2 n2 => ?_⟩
        have S2 := S1.trans (new_same (o := .lst ([.str "local"] ++ cs.map V.str)) n2)
        have e2 := new_at (o := .lst ([.str "local"] ++ cs.map V.str)) n2
        refine ⟨" ", l2, "local" :: cs, rfl, rfl, .inl (SqL.of e2), plain_join hpl _ (by decide), sz1000 (by show 1 ≤ 1000; decide), fun f nf => hq _ _ ⟨f, rfl, S2.trans (new_same nf), S2.free nf, ?_⟩⟩
        rw [upd_same, loc, if_neg hc]
        rfl
    rintro _ H1 ⟨f0, rfl, S1, hf0, e1⟩
    have hlen : (lnJ (linesP cs t)).length ≤ 1000 := by rw [lnJ_len, linesP_len]; exact O.sz
    refine ⟨_, rfl, x, _, rfl, get_body (S1 _ _ h1), l, rfl, ⟨_, SqL.of (S1 _ _ h3)⟩, for_it walk_list (fun i σ H' => ∃ f z2 z3 A rest, σ = [some (.ref x), some (.ref f), z2, z3, none] ∧ Same H H' ∧ H f = none ∧ OrdsAt H rest (ors.drop i) ∧ depT rest < d + 1 ∧ OkT rest ∧ H' f = some (.lst (List.map V.str A)) ∧ A ++ lnJ (linesT rest) = lnJ (linesP cs t))
      ⟨f0, _, _, _, t, rfl, S1, hf0, h4, hd, O.t, e1, by unfold linesP; rw [lnJ_app]⟩ (fun i σ H' _ z => by obtain ⟨f, z2, z3, A, rest, _, S, _⟩ := z; exact SqL.of (S _ _ h3)) ?_ ?_⟩
    · rintro i v σ H' H'' hi ⟨f, z2, z3, A, rest, rfl, S, hf, ho, hdr, hok, ef, eA⟩ ⟨rfl, hv⟩
      obtain ⟨o, rfl, edr⟩ := drop_at hv
      rw [edr] at ho
      obtain ⟨r, hk, ho'⟩ := ho.step
      have hAl : A.length + (linesT rest).length ≤ 1000 := by rw [← lnJ_len (linesT rest), ← List.length_append, eA]; exact hlen
      rcases hk.open_ hdr hok with ⟨k, rfl, hh⟩ | ⟨op, ps, y, cb, b, dr, V0⟩
      · obtain ⟨kpl, hokr⟩ := hok.deed
        have hh' := S _ _ hh
        refine ⟨_, rfl, o, _, 0, _, rfl, rfl, SqT.of hh', atI_nat (j := 0) (v := .str k.word) (by obtain ⟨ws, e, _⟩ := deed_words k; rw [e]; rfl), sz1000 (by show 4 ≤ 1000; decide), fun T nT => ?_⟩
        have S2 := S.trans (new_same (o := .tup openW) nT)
        have ef2 := (new_same (o := .tup openW) nT) _ _ ef
        refine ⟨T, openW, rfl, .inr (SqT.of upd_same), rfl, rfl, ?_⟩
        rw [if_pos rfl, deed_notopen]
        refine ⟨_, rfl, iteT ⟨_, rfl, .inl ⟨rfl, _, SqL.of ef2⟩, ⟨_, rfl⟩, _, rfl, o, _, rfl, .inr (SqT.of (S2 _ _ hh)), fun l1 n1 => ?_⟩⟩
        have S3 := S2.trans (new_same (o := .lst (k.words.map V.str)) n1)
        have ef3 := (new_same (o := .lst (k.words.map V.str)) n1) _ _ ef2
        have e3 := new_at (o := .lst (k.words.map V.str)) n1
        rw [linesT, List.length_cons] at hAl
        refine ⟨" ", l1, k.words, rfl, rfl, .inl (SqL.of e3), plain_join kpl _ (by decide), f, _, _, rfl, rfl, ef3, small1000 (by rw [List.length_map]; omega), f, _, _, A ++ [Txt.join " " k.words], r, rfl, Same.put S3 hf, hf, ho', hdr, hokr, ?_, ?_⟩
        · rw [upd_same, List.map_append]
          rfl
        · rw [← eA, linesT, lnJ_cons, List.append_assoc]
          rfl
      · have hh := V0.at_
        have hsz : A.length + (1 + sizeP cb b + (if dr = [] then 0 else 1) + 1) ≤ 1000 := by
          rw [lines_len] at hAl
          rcases V0.more with ⟨e, rfl⟩ | ⟨y', cb', b', e, _, _, _, rfl⟩
          · rw [sizeT] at hAl; rw [if_pos e]; unfold sizeP; omega
          · rw [sizeT] at hAl; rw [e, if_neg (by simp)]; unfold sizeP; omega
        refine ⟨_, rfl, o, _, 0, _, rfl, rfl, SqT.of (S _ _ hh), atI_nat (j := 0) (v := .str op.word) rfl, sz1000 (by show 4 ≤ 1000; decide), fun T nT => ?_⟩
        have S2 := S.trans (new_same (o := .tup openW) nT)
        have ef2 := (new_same (o := .tup openW) nT) _ _ ef
        refine ⟨T, openW, rfl, .inr (SqT.of upd_same), rfl, rfl, ?_⟩
        rw [if_pos rfl, op_open]
        refine ⟨_, rfl, iteF ?_⟩
        -- the blocks of the order
        refine ⟨_, rfl, 1, rfl, o, _, rfl, SqT.of (S2 _ _ hh), cut_tl, fun p np => ?_⟩
        rw [show cutV (V.str op.word :: ps) (some 1) none = ps from cut_drop1 _ _]
        have S3 := S2.trans (new_same (o := .tup ps) np)
        have ef3 := (new_same (o := .tup ps) np) _ _ ef2
        have ep := new_at (o := .tup ps) np
        refine ⟨p, rfl, ⟨_, SqT.of ep⟩, fun D nD => lc_it (walk_tup (xs := ps)) (fun n H' => Same (upd (upd H'' T (.tup openW)) p (.tup ps)) H' ∧ H' D = some (.lst ((ps.take n).filter isDv))) ⟨new_same nD, upd_same⟩ (fun _ H' _ z => SqT.of (z.1 _ _ ep)) ?_ ?_⟩
        · rintro n v H4 H5 hn ⟨S4, eD⟩ ⟨rfl, hv⟩
          have hp := (V0.part v (List.mem_of_getElem? hv)).same (S3.trans S4)
          obtain ⟨ty, h1, h2⟩ := part_dict (K := K) hp
          refine ⟨rfl, _, rfl, v, _, ty, _, _, rfl, .ty "dict", h1, h2, _, rfl, ?_⟩
          refine ite2 (fun c => ⟨_, rfl, _, eD, filter_len V0.len, Same.put S4 nD, ?_⟩) fun c => ⟨S4, ?_⟩
          · rw [upd_same, filter_take hv, if_pos c]
          · rw [filter_take hv, if_neg c, List.append_nil]
            exact eD
        rintro H4 ⟨S4, eD⟩
        rw [List.take_length, V0.dv] at eD
        have S4' := S3.trans S4
        have ef4 := S4 _ _ ef3
        -- its own line
        refine ⟨_, rfl, .inl ⟨rfl, _, SqL.of ef4⟩, ⟨_, rfl⟩, _, rfl, o, _, 0, _, rfl, rfl, SqT.of (S4' _ _ hh), atI_nat (j := 0) (v := .str op.word) rfl, sz1000 (by show 1 ≤ 1000; decide), fun l5 n5 => ?_⟩
        have S5 := new_same (o := .lst [.str op.word]) n5
        have e5 := new_at (o := .lst [.str op.word]) n5
        refine ⟨_, rfl, 1, rfl, o, _, rfl, SqT.of (S5 _ _ (S4' _ _ hh)), cut_tl, fun p6 n6 => ?_⟩
        rw [show cutV (V.str op.word :: ps) (some 1) none = ps from cut_drop1 _ _]
        have S6 := S5.trans (new_same (o := .tup ps) n6)
        have e6 := new_at (o := .tup ps) n6
        have e56 := (new_same (o := .tup ps) n6) _ _ e5
        have S46 := S4'.trans S6
        refine ⟨p6, rfl, ⟨_, SqT.of e6⟩, fun D7 n7 => lc_it (walk_tup (xs := ps)) (fun n H' => Same (upd (upd H4 l5 (.lst [.str op.word])) p6 (.tup ps)) H' ∧ H' D7 = some (.lst ((ps.take n).filter isSv))) ⟨new_same n7, upd_same⟩ (fun _ H' _ z => SqT.of (z.1 _ _ e6)) ?_ ?_⟩
        · rintro n v H7 H8 hn ⟨S7, eD7⟩ ⟨rfl, hv⟩
          have hp := (V0.part v (List.mem_of_getElem? hv)).same (S46.trans S7)
          obtain ⟨ty, h1, h2⟩ := part_str (K := K) hp
          refine ⟨rfl, _, rfl, v, _, ty, _, _, rfl, .ty "str", h1, h2, _, rfl, ?_⟩
          refine ite2 (fun c => ⟨_, rfl, _, eD7, filter_len V0.len, Same.put S7 n7, ?_⟩) fun c => ⟨S7, ?_⟩
          · rw [upd_same, filter_take hv, if_pos c]
          · rw [filter_take hv, if_neg c, List.append_nil]
            exact eD7
        rintro H7 ⟨S7, eD7⟩
        rw [List.take_length, V0.sv] at eD7
        have h6 := V0.pl.2.1
        rw [List.length_cons] at h6
        refine ⟨l5, D7, [.str op.word], op.names.map V.str, rfl, rfl, S7 _ _ e56, eD7, sz1000 (by rw [List.length_map]; show 1 + _ ≤ 1000; omega), fun l8 n8 => ?_⟩
        have S8 := (S6.trans S7).trans (new_same (o := .lst ([.str op.word] ++ op.names.map V.str)) n8)
        have e8 := new_at (o := .lst ([.str op.word] ++ op.names.map V.str)) n8
        refine ⟨" ", l8, op.word :: op.names, rfl, rfl, .inl (SqL.of e8), plain_join V0.pl _ (by decide), f, _, _, rfl, rfl, S8 _ _ ef4, small1000 (by rw [List.length_map]; omega), ?_⟩
        have nDf : D ≠ f := (ne_of_none ef3 nD).symm
        have S9 : Same H (upd (upd H7 l8 (.lst ([.str op.word] ++ op.names.map V.str))) f (.lst (A.map V.str ++ [.str (Txt.join " " (op.word :: op.names))]))) := Same.put (S4'.trans S8) hf
        have ef9 : (upd (upd H7 l8 (.lst ([.str op.word] ++ op.names.map V.str))) f (.lst (A.map V.str ++ [.str (Txt.join " " (op.word :: op.names))]))) f = some (.lst ((A ++ [Txt.join " " (op.word :: op.names)]).map V.str)) := by rw [upd_same, List.map_append]; rfl
        have eD9 : (upd (upd H7 l8 (.lst ([.str op.word] ++ op.names.map V.str))) f (.lst (A.map V.str ++ [.str (Txt.join " " (op.word :: op.names))]))) D = some (.lst (.ref y :: dr.map V.ref)) := (upd_ne nDf).trans (S8 _ _ eD)
        generalize upd (upd H7 l8 (.lst ([.str op.word] ++ op.names.map V.str))) f (.lst (A.map V.str ++ [.str (Txt.join " " (op.word :: op.names))])) = H9 at *
        -- the first block
        refine ⟨_, rfl, _, rfl, D, _, 0, _, rfl, rfl, SqL.of eD9, atI_nat (j := 0) (v := .ref y) rfl, tNil_i ⟨y, cb, b, rfl, V0.blk.same S9, V0.dep, V0.okb, fun r9 Ha Sa hr9 er9 => ⟨f, r9, _, _, rfl, rfl, Sa _ _ ef9, er9, ?_, fun f2 nf2 => ?_⟩⟩⟩
        · rw [List.length_map, List.length_map, lnJ_len, linesP_len, List.length_append, List.length_singleton]
          exact sz1000 (by omega)
        have hf2 : H f2 = none := (S9.trans Sa).free nf2
        have Sb : Same H9 (upd Ha f2 (.lst ((A ++ [Txt.join " " (op.word :: op.names)]).map V.str ++ (lnJ (linesP cb b)).map V.str))) := Sa.trans (new_same nf2)
        have eb : (upd Ha f2 (.lst ((A ++ [Txt.join " " (op.word :: op.names)]).map V.str ++ (lnJ (linesP cb b)).map V.str))) f2 = some (.lst ((A ++ [Txt.join " " (op.word :: op.names)] ++ lnJ (linesP cb b)).map V.str)) := by rw [upd_same, List.map_append (l₁ := A ++ _)]
        generalize upd Ha f2 (.lst ((A ++ [Txt.join " " (op.word :: op.names)]).map V.str ++ (lnJ (linesP cb b)).map V.str)) = Hb at *
        have eDb := Sb _ _ eD9
        have S9b := S9.trans Sb
        refine ⟨_, rfl, D, _, rfl, .inl (SqL.of eDb), rfl, _, rfl, ?_⟩
        rcases V0.more with ⟨ed, et⟩ | ⟨y', cb', b', ed, hb', hdb', hob', et⟩
        · subst ed
          rw [if_pos rfl] at hsz
          refine iteF ⟨_, rfl, .inl ⟨rfl, _, SqL.of eb⟩, f2, _, _, rfl, rfl, eb, ?_, f2, _, _, A ++ [Txt.join " " (op.word :: op.names)] ++ lnJ (linesP cb b) ++ [("end" : Str)], r, rfl, Same.put S9b hf2, hf2, ho', V0.depr, V0.okr, ?_, ?_⟩
          · rw [List.length_map, List.length_append, List.length_append, List.length_singleton, lnJ_len, linesP_len]
            exact small1000 (by omega)
          · rw [upd_same, List.map_append (l₂ := [("end" : Str)])]
            rfl
          · rw [← eA, et, linesT, lnJ_cons]
            simp only [lnJ_app, lnJ_cons, linesP, List.append_assoc]
            rfl
        · subst ed
          rw [if_neg (by simp)] at hsz
          have hs2 : A.length + (1 + sizeP cb b + 1 + sizeP cb' b' + 1) ≤ 1000 := by
            rw [lines_len, et, sizeT] at hAl; unfold sizeP; omega
          refine iteT ⟨_, rfl, sz1000 (by show 1 ≤ 1000; decide), fun lc nc => ?_⟩
          have Sc := new_same (o := .lst [.str "else"]) nc
          have ec := new_at (o := .lst [.str "else"]) nc
          refine ⟨f2, lc, _, _, rfl, rfl, Sc _ _ eb, ec, ?_, fun fd nd => ?_⟩
          · rw [List.length_map, List.length_append, List.length_append, List.length_singleton, lnJ_len, linesP_len]
            exact sz1000 (by show _ + 1 ≤ 1000; omega)
          have Sd := Sc.trans (new_same (o := .lst ((A ++ [Txt.join " " (op.word :: op.names)] ++ lnJ (linesP cb b)).map V.str ++ [.str "else"])) nd)
          have ed2 := new_at (o := .lst ((A ++ [Txt.join " " (op.word :: op.names)] ++ lnJ (linesP cb b)).map V.str ++ [.str "else"])) nd
          have S9d := S9b.trans Sd
          refine ⟨_, rfl, D, _, 1, _, rfl, rfl, SqL.of (Sd _ _ eDb), atI_nat (j := 1) (v := .ref y') rfl, tNil_i ⟨y', cb', b', rfl, hb'.same S9d, hdb', hob', fun re He Se hre ere => ⟨fd, re, _, _, rfl, rfl, Se _ _ ed2, ere, ?_, fun f3 nf3 => ?_⟩⟩⟩
          · rw [List.length_append, List.length_map, List.length_map, lnJ_len, linesP_len, List.length_append, List.length_append, List.length_singleton, lnJ_len, linesP_len]
            exact sz1000 (by show _ + 1 + _ ≤ 1000; omega)
          have S9e := S9d.trans Se
          have hf3 : H f3 = none := S9e.free nf3
          have S9f := S9e.trans (new_same (o := .lst ((A ++ [Txt.join " " (op.word :: op.names)] ++ lnJ (linesP cb b)).map V.str ++ [.str "else"] ++ (lnJ (linesP cb' b')).map V.str)) nf3)
          have ef3' := new_at (o := .lst ((A ++ [Txt.join " " (op.word :: op.names)] ++ lnJ (linesP cb b)).map V.str ++ [.str "else"] ++ (lnJ (linesP cb' b')).map V.str)) nf3
          refine ⟨_, rfl, .inl ⟨rfl, _, SqL.of ef3'⟩, f3, _, _, rfl, rfl, ef3', ?_, f3, _, _, A ++ [Txt.join " " (op.word :: op.names)] ++ lnJ (linesP cb b) ++ [("else" : Str)] ++ lnJ (linesP cb' b') ++ [("end" : Str)], r, rfl, Same.put S9f hf3, hf3, ho', V0.depr, V0.okr, ?_, ?_⟩
          · rw [List.length_append, List.length_append, List.length_map, List.length_map, lnJ_len, linesP_len, List.length_append, List.length_append, List.length_singleton, lnJ_len, linesP_len]
            exact small1000 (by show _ + 1 + _ ≤ 1000; omega)
          · rw [upd_same]
            simp only [List.map_append]
            rfl
          · rw [← eA, et, linesT, lnJ_cons]
            simp only [lnJ_app, lnJ_cons, linesP, List.append_assoc]
            rfl
    · rintro σ H' ⟨f, z2, z3, A, rest, rfl, S, hf, ho, hdr, hok, ef, eA⟩
      rw [List.length_map, List.drop_length] at ho
      rw [ho.end_] at eA
      rw [show lnJ (linesT .nil) = [] from rfl, List.append_nil] at eA
      exact ⟨_, rfl, q f H' S hf (by rw [ef, eA])⟩
end
end FP
set_option Elab.async false
set_option linter.all false
set_option maxRecDepth 100000
set_option maxHeartbeats 4000000
/-! tuple(d): the keys of a dict. -/
namespace FP
open PySem PySem.Spec PyProof.Rows L2
open PySem.W in
theorem tupD_code {prog : Program} {w : World} {A : Around} {E : Value → Shared → Prop} {s : Shared} {T : String} {r d : Addr} {n : Nat} {P : Nat → Value → Prop} {OK : Heap → Prop} {Q₁ : Value → Shared → Prop} (S : PySem.W.KdlSrc prog w T r d n P OK) (hh : A.handled = none) (hok : OK s.heap) (hn : n ≤ sizeLine)
    (h : ∀ (h' : Heap) (tk : Nat) (acc : Array Value), (∀ b o, s.heap.get? b = some o → h'.get? b = some o) → ItemsOf P acc n → Q₁ (.ref h'.objs.size) { s with heap := h'.push { cls := .type "tuple", data := .seq acc }, toks := tk }) :
    codeAny (model prog w) A (.call (.builtin "tuple.__new__") ⟨[.type "tuple", .ref r], []⟩) (wants Q₁ E) s := by
  refine codeAny_of_tree ?_
  show wpAny _ A.in1 (do checkBuiltinCall "tuple.__new__" ⟨[.type "tuple", .ref r], []⟩; again (.builtin "tuple.__new__" ⟨[.type "tuple", .ref r], []⟩)) _ _ s
  refine wpAny_bind (wpAny_of_eq (PySem.F.newCall_tuple_1 _) (wpAny_pure ⟨plainId_quiet PySem.F.plain_tuple_new _, codeAny_builtin PySem.F.entry_tuple_new ?_⟩))
  rw [Around.under_plainId PySem.F.plain_tuple_new _]
  have hsub := sub_tuple_self
  have hinit := init_tuple_lookup
  have hmh := madeHere_tuple
  have hTI : s.TypeIs (.ref r) T := S.type _ hok
  have hne := S.notTuple
  have hh1 : A.in1.handled = none := hh
  wp_walk using wpAny_typeOf hTI, PySem.W.kdu_collect (A := A.in1) S hh1 hok hn
  intro h' tk acc hk hacc
  show wpAny _ _ (Builtin.Tuple.tupleExact acc.toList.toArray >>= fun v => ret v) _ _ _
  unfold Builtin.Tuple.tupleExact
  refine wpAny_bind (wpAny_newObj_type ?_ (by show acc.toList.toArray.size ≤ sizeLine; simp only [Array.toArray_toList]; rw [hacc.1]; exact hn))
  refine wpAny_pure ?_
  have e : acc.toList.toArray = acc := by simp
  rw [e]
  exact h h' tk acc hk hacc
theorem call_tupD {prog : Program} {w : World} {A : Around} {E : Value → Shared → Prop} {s : Shared} {T : String} {r d : Addr} {n : Nat} {P : Nat → Value → Prop} {OK : Heap → Prop} {Q : Value → Shared → Prop} (S : PySem.W.KdlSrc prog w T r d n P OK) (hh : A.handled = none) (hok : OK s.heap) (hn : n ≤ sizeLine)
    (hQ : ∀ (h' : Heap) (tk : Nat) (acc : Array Value), (∀ b o, s.heap.get? b = some o → h'.get? b = some o) → ItemsOf P acc n → Q (.ref h'.objs.size) { s with heap := h'.push { cls := .type "tuple", data := .seq acc }, toks := tk }) :
    wpAny (model prog w) A (call (.type "tuple") [.ref r]) Q E s := by
  refine callType_codes (Q₁ := fun obj s₁ => s₁.TypeIs obj "tuple" ∧ Q obj s₁) PySem.F.called_tuple (PySem.F.typeCall_tuple_1 _) PySem.F.entry_object_init
    (tupD_code (A := A.in1) S hh hok hn fun h' tk acc hk hacc => ⟨⟨_, Heap.get?_push_size _ rfl, rfl⟩, hQ h' tk acc hk hacc⟩) fun obj s₁ h₁ => ?_
  exact ⟨h₁.1, PySem.F.args_object_init_2 obj _, object_init_meets PySem.F.called_tuple.init.lookup PySem.F.called_tuple.made (by decide) prog w A.in1 _ s₁ ⟨h₁.1, rfl, h₁.2⟩⟩
/-- tuple(d) of a dict of the heap -/
theorem cr_tupD {X : Cx} (hcalm : X.calm = true) : CallR X (.type "tuple") (fun xs H Q => ∃ (a : Addr) (kvs : List (Key × V)), xs = [.ref a] ∧ Rd H a (.dK kvs) ∧ ∀ p, H p = none → Q (.ref p) (upd H p (.tup (kvs.map fun kv => kV kv.1)))) := by
  intro pins s σ H xs us Q I r q
  obtain ⟨a, kvs, rfl, hd, q⟩ := q
  obtain ⟨u, rfl, rx⟩ := vals1 r
  cases rx
  obtain ⟨z, lo, vs, rel, dd⟩ := dk_rd I.hok hd
  obtain ⟨ep, hat⟩ := dd.dictAt
  have ek : (kvs.map fun kv => kV kv.1) = vs.map fun p => kV p.1 := by
    have e := congrArg (List.map kV) rel.keys
    rw [List.map_map, List.map_map] at e
    exact e
  refine call_tupD (PySem.W.kdl_dict (knd := mixKind X.prog X.w) (kvs := vs) (ep := ep) lo) (I.ok.hd hcalm) hat (by rw [← rel.length]; exact z) fun h' tk acc hk hacc => ?_
  have hv : Vals (vs.map fun p => kV p.1) acc.toList := keys_at (by rw [Array.length_toList]; exact hacc.1) fun j v e => hacc.2 j v (by rw [← Array.getElem?_toList]; exact e)
  have I1 : Inv X pins σ H { s with heap := h', toks := tk } := I.kept (t' := tk) hk
  have I2 : Inv X pins σ (upd H h'.objs.size (.tup (kvs.map fun kv => kV kv.1))) { s with heap := h'.push { cls := .type "tuple", data := .seq acc }, toks := tk } :=
    I1.laid (t' := tk) (fun b u e => Heap.get?_push_of_some _ e) (Nat.le_refl _)
      (show ObjOk X.prog X.w _ _ _ (.tup (kvs.map fun kv => kV kv.1)) from ⟨by rw [List.length_map]; exact z, acc.toList, by rw [ek]; exact hv, by simpa using IsTup.new h' acc⟩)
  exact ⟨.ref h'.objs.size, _, I2, rfl, q _ (I1.hok.fresh (Nat.le_refl _))⟩
end FP
set_option Elab.async false
set_option linter.all false
set_option maxRecDepth 100000
set_option maxHeartbeats 4000000
namespace FP
open PySem PySem.Spec PyProof.Rows L2 GenW
def pgF (x : Str) (t s : Addr) : List (Str × V) := [("text", .str x), ("cells", .ref t), ("sheet", .ref s)]
/-- a program at x -/
structure PgAt (Cp Cr Cs : Addr) (H : Hp) (x : Addr) (text : Str) (M : ShM) : Prop where
  ex : ∃ (dx t s : Addr) (p : Pt) (H0 : Hp), H x = some (.ins Cp dx (pgF text t s)) ∧ H t = some (.tup ((M.homes.map (·.1)).map V.str)) ∧ ShAt Cr Cs H0 H s p M
theorem PgAt.grow {Cp Cr Cs : Addr} {H H' : Hp} {x : Addr} {text : Str} {M : ShM} (A : PgAt Cp Cr Cs H x text M) (S : Same H H') : PgAt Cp Cr Cs H' x text M := by
  obtain ⟨dx, t, s, p, H0, e1, e2, e3⟩ := A.ex
  exact ⟨dx, t, s, p, H0, S _ _ e1, S _ _ e2, e3.grow S⟩
/-- .. whose parts are new since H0 -/
structure PgN (Cp Cr Cs : Addr) (H0 H : Hp) (x : Addr) (text : Str) (M : ShM) : Prop where
  ex : ∃ (dx t s : Addr) (p : Pt), H x = some (.ins Cp dx (pgF text t s)) ∧ H t = some (.tup ((M.homes.map (·.1)).map V.str)) ∧ ShAt Cr Cs H0 H s p M
theorem PgN.at_ {Cp Cr Cs : Addr} {H0 H : Hp} {x : Addr} {text : Str} {M : ShM} (A : PgN Cp Cr Cs H0 H x text M) : PgAt Cp Cr Cs H x text M := by
  obtain ⟨dx, t, s, p, e1, e2, e3⟩ := A.ex
  exact ⟨dx, t, s, p, H0, e1, e2, e3⟩
structure PgTxt (K : PySem.W.Frag) (mg : Str → Option Value) (Cp : Addr) : Prop where
  cp : Cls K Cp
  gp : mg "Program" = some (.ref Cp)
  nt : NoAttr K Cp "text"
  nc : NoAttr K Cp "cells"
  ns : NoAttr K Cp "sheet"
  ml : ∃ t, mg "MOST_LINES" = some (.int 40 t)
section
variable {P : Program} {w : World} {K : PySem.W.Frag} {mg : Str → Option Value} {base : Heap} {Cn Cc Cr Cs Cp aL : Addr}
def spHold (Cp Cr Cs : Addr) : Sp := fun vs H Q _ => ∃ (x dx s : Addr) (text : Str) (M : ShM) (H0 : Hp) (p : Pt), vs = [.ref x, .str text, .ref s] ∧ H x = some (.ins Cp dx []) ∧ ShAt Cr Cs H0 H s p M ∧ H0 x ≠ none ∧
  ∀ t H', H t = none → H' t = some (.tup ((M.homes.map (·.1)).map V.str)) → H' x = some (.ins Cp dx (pgF text t s)) → (∀ b o, H b = some o → b ≠ x → H' b = some o) → Q .non H'
theorem scHo : FnScope ["self", "text", "sheet"] ["self", "text", "sheet"] (defScope mProgram_hold) := ⟨rfl, rfl, rfl, by decide +kernel, rfl, by decide +kernel, by decide +kernel⟩
theorem ok_hold {f : Addr} {fd : FuncData} (F : Fun K "_hold" "Program._hold" mProgram_hold f fd) (T : PgTxt K mg Cp) (TS : ShTxt K mg Cr Cs) (B : Blt2 mg) : FnOk P w K mg base CX0 1 f fd ["self", "text", "sheet"] (spHold Cp Cr Cs) := by
  refine F.ok scHo (fun vs H Q E h => ?_) (fun cdv A outer s H vs Q E hr h => ?_)
  · obtain ⟨x, dx, s, text, M, H0, p, rfl, _⟩ := h
    rfl
  obtain ⟨x, dx, s, text, M, H0, p, rfl, hx, A0, h0x, q⟩ := h
  obtain ⟨ds, es⟩ := A0.sh
  refine ⟨_, pss_cons (ps_fld (pv 0) (pv 1) rfl) (pss_cons (ps_fld (pv 0) (pe_callTy (cr_tupD (by rfl)) (by rfl) B.tuple (by decide +kernel) (pa_cons (pe_fld (pv 2) rfl) pa_nil)) rfl) (pss_one (ps_fld (pv 0) (pv 2) rfl))), ?_⟩
  have nsx : s ≠ x := fun z => by
    rw [z, hx] at es
    cases es
  have nhx : p.h ≠ x := fun z => h0x (z ▸ A0.fh)
  refine ⟨_, rfl, _, rfl, x, Cp, dx, [], rfl, hx, T.cp, T.nt, (by show 0 < 1000; decide), ?_⟩
  refine ⟨_, rfl, s, Cs, ds, _, _, rfl, (upd_ne nsx).trans es, TS.cs, TS.sh, lkS2 p, p.h, _, rfl, .inl ((upd_ne nhx).trans A0.h), fun t ht => ?_⟩
  have ntx : t ≠ x := fun z => by rw [z, upd_same] at ht; cases ht
  rw [upd_ne ntx] at ht
  refine ⟨_, rfl, x, Cp, dx, _, rfl, (upd_ne ntx.symm).trans upd_same, T.cp, T.nc, (by show 1 < 1000; decide), ?_⟩
  refine ⟨_, rfl, _, rfl, x, Cp, dx, _, rfl, upd_same, T.cp, T.ns, (by show 2 < 1000; decide), ?_⟩
  refine q t _ ht ?_ upd_same fun b u e nb => ?_
  · rw [upd_ne ntx, upd_ne ntx, upd_same]
    have : (homesV M.homes).map (fun kv => kV kv.1) = (M.homes.map (·.1)).map V.str := by
      unfold homesV
      rw [List.map_map, List.map_map]
      rfl
    rw [this]
  · rw [upd_ne nb, upd_ne nb, upd_ne (ne_of_none e ht), upd_ne nb]
    exact e
def spProg (Cp Cr Cs : Addr) : Sp := fun vs H Q _ => ∃ (x dx : Addr) (text : Str) (M : ShM), vs = [.ref x, .str text] ∧ H x = some (.ins Cp dx []) ∧ text.length ≤ 80000 ∧ readM text 40 = some M ∧
  ∀ H', PgN Cp Cr Cs (fun b => if b = x then none else H b) H' x text M → (∀ b o, H b = some o → b ≠ x → H' b = some o) → Q .non H'
theorem scPI : FnScope ["self", "text"] ["self", "text"] (defScope mProgram_init) := ⟨rfl, rfl, rfl, by decide +kernel, rfl, by decide +kernel, by decide +kernel⟩
theorem ok_progInit {f : Addr} {fd : FuncData} (F : Fun K "__init__" "Program.__init__" mProgram_init f fd) (T : PgTxt K mg Cp) (DR : Def P w K mg base "read_sheet" 5 ["text", "most"] (spRead Cr Cs)) (DH : MDef P w K mg base Cp "_hold" 1 ["self", "text", "sheet"] (spHold Cp Cr Cs)) :
    FnOk P w K mg base CX0 6 f fd ["self", "text"] (spProg Cp Cr Cs) := by
  obtain ⟨fR, fdR, gR, kR, bR, GR⟩ := DR.ex
  obtain ⟨fH, fdH, mH, bH, GH⟩ := DH.ex
  obtain ⟨tm, gm⟩ := T.ml
  refine F.ok scPI (fun vs H Q E h => ?_) (fun cdv A outer s H vs Q E hr h => ?_)
  · obtain ⟨x, dx, text, M, rfl, _⟩ := h
    rfl
  obtain ⟨x, dx, text, M, rfl, hx, hl, hM, q⟩ := h
  refine ⟨_, pss_one (ps_expr (pe_meth (pv 0) T.cp mH GH (hr.mono (by decide)) bH .nil pass0 (pa_cons (pv 1) (pa_cons (pe_call GR hr rfl gR kR bR .nil pass0 (pa_cons (pv 1) (pa_cons (pe_glob (v := .int 40) (by rfl) gm ⟨_, rfl⟩) pa_nil))) pa_nil)))), ?_⟩
  refine ⟨_, rfl, x, dx, _, rfl, hx, rfl, _, rfl, _, rfl, text, 40, M, rfl, hl, hM, fun s p H1 A1 => ?_⟩
  have hx1 := A1.same _ _ hx
  refine ⟨x, dx, s, text, M, H, p, rfl, hx1, A1, by rw [hx]; exact Option.some_ne_none _, fun t H2 ht e1 e2 e3 => ?_⟩
  have K2 : ∀ b o, H1 b = some o → b ≠ x → H2 b = some o := e3
  have nx : ∀ {b}, H b = none → b ≠ x := fun z e => by rw [e, hx] at z; cases z
  have A2 : ShAt Cr Cs (fun b => if b = x then none else H b) H2 s p M := by
    obtain ⟨ds, es⟩ := A1.sh
    have nsx : s ≠ x := fun z => by rw [z, hx1] at es; cases es
    refine ⟨⟨ds, K2 _ _ es nsx⟩, K2 _ _ A1.R (nx A1.fR), K2 _ _ A1.h (nx A1.fh), K2 _ _ A1.ar (nx A1.far), K2 _ _ A1.n (nx A1.fn), A1.len, fun i r m g1 g2 => ?_, A1.nd, A1.Rn, A1.har, A1.sr, ?_, ?_, ?_, ?_, fun r hr => ?_, fun b u e => ?_⟩
    · obtain ⟨d9, t9, er, et⟩ := A1.rows i r m g1 g2
      exact ⟨d9, t9, K2 _ _ er (nx (A1.fr r (List.mem_iff_getElem?.mpr ⟨i, g1⟩))), K2 _ _ et (ne_of et hx1 (by intro z; cases z))⟩
    · show (if p.R = x then none else H p.R) = none
      rw [if_neg (nx A1.fR)]; exact A1.fR
    · show (if p.h = x then none else H p.h) = none
      rw [if_neg (nx A1.fh)]; exact A1.fh
    · show (if p.ar = x then none else H p.ar) = none
      rw [if_neg (nx A1.far)]; exact A1.far
    · show (if p.n = x then none else H p.n) = none
      rw [if_neg (nx A1.fn)]; exact A1.fn
    · show (if r = x then none else H r) = none
      rw [if_neg (nx (A1.fr r hr))]; exact A1.fr r hr
    · by_cases z : b = x
      · rw [if_pos z] at e; cases e
      · rw [if_neg z] at e
        exact K2 _ _ (A1.same _ _ e) z
  exact q _ ⟨dx, t, s, p, e2, e1, A2⟩ fun b u e nb => K2 _ _ (A1.same _ _ e) nb
end
end FP
set_option Elab.async false
set_option linter.all false
set_option maxRecDepth 100000
set_option maxHeartbeats 4000000
set_option exponentiation.threshold 2000
namespace FP
open PySem PySem.Spec PyProof.Rows L2
def twelve : List Str := ["p", "q", "a", "b", "x", "y", "low", "ends", "pointer", "sames", "callee", "abcdefghijkl"]
theorem twelve_ok : ∀ y ∈ twelve, PyData.strOk y = true := by decide +kernel
/-- some of the twelve names, in some order: a new list -/
def spNames : Sp := fun vs H Q _ => ∃ (p a : Addr) (ns : List Int) (t l m : Int), vs = [.ref p, .int m] ∧ PenAt H p a ns t l ∧ t ≤ 999000 ∧ 0 ≤ m ∧ m ≤ 12 ∧
  ∀ (r : Addr) (ys : List Str) (t' l' : Int) (H' : Hp), ys.Perm twelve → t ≤ t' → t' ≤ t + 12 → But p H H' → PenAt H' p a ns t' l' → H r = none → H' r = some (.lst ((ys.take m.toNat).map V.str)) → Q (.ref r) H'
/-- a new pen over the script -/
def spPen (K : W.Frag) : Sp := fun vs H Q _ => ∃ (o : Addr) (ns : List Int), vs = [.ref o] ∧ SqL K H o (ns.map V.int) ∧ ns.length ≤ 63 ∧
  ∀ (p a : Addr) (H' : Hp), H p = none → Same H H' → PenAt H' p a ns 0 0 → Q (.ref p) H'
section
variable {P : Program} {w : World} {K : W.Frag} {mg : Str → Option Value} {base : Heap}
theorem scN : FnScope ["_law_pen", "_law_many", "_law_found"] ["_law_pen", "_law_many"] (defScope sNames) := ⟨rfl, rfl, rfl, by decide +kernel, rfl, by decide +kernel, by decide +kernel⟩
theorem cut_take (xs : List V) (m : Int) (h : 0 ≤ m) : cutV xs none (some m) = xs.take m.toNat := by
  have e : HT.sIx xs.length 0 none = 0 := rfl
  unfold cutV
  rw [e, List.drop_zero, Nat.sub_zero]
  obtain ⟨n, rfl⟩ : ∃ n : Nat, m = (n : Int) := ⟨_, (Int.toNat_of_nonneg h).symm⟩
  rw [HT.sIx_nat, Int.toNat_natCast]
  rcases Nat.le_total n xs.length with z | z
  · rw [Nat.min_eq_left z]
  · rw [Nat.min_eq_right z, List.take_length, List.take_of_length_le z]
theorem ok_names {f : Addr} {fd : FuncData} (F : Fun K "_law_new_names" "_law_new_names" sNames f fd) (D : Def P w K mg base "_law_shuffled" 2 ["_law_pen", "_law_items"] spShuf) : FnOk P w K mg base CX0 3 f fd ["_law_pen", "_law_many"] spNames := by
  obtain ⟨fD, fdD, gD, kD, bD, GD⟩ := D.ex
  refine F.ok scN (fun vs H Q E h => ?_) (fun cdv A outer s H vs Q E hr h => ?_)
  · obtain ⟨p, a, ns, t, l, m, rfl, _⟩ := h
    rfl
  obtain ⟨p, a, ns, t, l, m, rfl, PA0, ht, h0, h1, k⟩ := h
  refine ⟨_, pss_cons (ps_set (i := 2) scN.nd rfl (.inl rfl) (pe_lst (pa_cons pe_str (pa_cons pe_str (pa_cons pe_str (pa_cons pe_str (pa_cons pe_str (pa_cons pe_str (pa_cons pe_str (pa_cons pe_str (pa_cons pe_str (pa_cons pe_str (pa_cons pe_str (pa_cons pe_str pa_nil))))))))))))))
    (pss_one (ps_ret (pe_slice sl_list (pe_call GD hr rfl gD kD bD .nil pass0 (pa_cons (pv 0) (pa_cons (pv 2) pa_nil))) po_none (po_some (pv 1))))), ?_⟩
  refine ⟨(by rw [sizeLine_eq]; exact (by decide : 12 ≤ 16777216)), fun o ho => ?_⟩
  have nop : o ≠ p := (ne_of_none PA0.p ho).symm
  refine ⟨_, rfl, _, rfl, p, a, o, ns, t, l, twelve, rfl, PA0.new ho, by show t + 12 ≤ 1000000; omega, nop, upd_same, by show 12 ≤ 1000; decide, twelve_ok, ?_⟩
  intro r ys t' l' H' pm t1 t2 b PA1 hr0 er
  have nro : r ≠ o := fun z => by rw [z, upd_same] at hr0; cases hr0
  rw [upd_ne nro] at hr0
  have b0 : But p H H' := fun c u n e => b c u n ((upd_ne (ne_of_none e ho)).trans e)
  refine ⟨_, rfl, m, rfl, r, _, rfl, SqL.of er, fun z hz => ?_⟩
  rw [cut_take _ _ h0, ← List.map_take]
  have hz0 : H z = none := by
    cases e : H z with
    | none => rfl
    | some u => by_cases zp : z = p
                · rw [zp, PA1.p] at hz; cases hz
                · rw [b0 z u zp e] at hz; cases hz
  exact k z ys t' l' _ pm t1 (by have : t' ≤ t + 12 := t2; omega) (b0.new hz) (PA1.new hz) hz0 upd_same
theorem scB : FnScope ["_law_script"] ["_law_script"] (defScope sPen) := ⟨rfl, rfl, rfl, by decide +kernel, rfl, by decide +kernel, by decide +kernel⟩
theorem ok_pen {f : Addr} {fd : FuncData} (F : Fun K "_law_begun_pen" "_law_begun_pen" sPen f fd) (B : Blt mg) : FnOk P w K mg base CX0 1 f fd ["_law_script"] (spPen K) := by
  refine F.ok scB (fun vs H Q E h => ?_) (fun cdv A outer s H vs Q E hr h => ?_)
  · obtain ⟨o, ns, rfl, _⟩ := h
    rfl
  obtain ⟨o, ns, rfl, hS, hl, k⟩ := h
  refine ⟨_, pss_one (ps_ret (pe_disp (pps_cons pe_str (pe_callTy call_list_of (by rfl) B.list (by decide +kernel) (pa_cons (pe_slice sl_list (pv 0) po_none (po_some pe_int)) pa_nil)) (pps_cons pe_str pe_int (pps_cons pe_str pe_int pps_nil)))
    (by rfl) (by rfl) (fun z => by cases z) (by decide))), ?_⟩
  intro p hp
  have S1 : ∀ {b : Addr} {u : HO}, H b = some u → upd H p (.dK []) b = some u := fun {b u} e => (upd_ne (ne_of_none e hp)).trans e
  have S2 : Same H (upd H p (.dK [])) := fun b u e => S1 e
  refine ⟨_, rfl, 63, rfl, o, _, rfl, S2.seq hS, fun z hz => ⟨z, _, rfl, .inl (SqL.of upd_same), fun l hl0 => ?_⟩⟩
  have nzp : z ≠ p := fun e => by rw [e, upd_same] at hz; cases hz
  have nlz : l ≠ z := fun e => by rw [e, upd_same] at hl0; cases hl0
  rw [upd_ne nlz] at hl0
  have nlp : l ≠ p := fun e => by rw [e, upd_same] at hl0; cases hl0
  have hl1 : H l = none := by rwa [upd_ne nlp] at hl0
  have hz1 : H z = none := by rwa [upd_ne nzp] at hz
  have cut : cutV (ns.map V.int) none (some 63) = ns.map V.int := by
    rw [cut_take _ _ (by decide)]
    exact List.take_of_length_le (by rw [List.length_map]; exact hl)
  refine ⟨(upd_ne nlp.symm).trans ((upd_ne nzp.symm).trans upd_same), penD l 0 0, rfl, by show 3 ≤ 15; decide, k p l _ hp (fun b u e => ?_) ⟨upd_same, ?_, hl, Int.le_refl _, Int.le_refl _⟩⟩
  · rw [upd_ne (ne_of_none e hp), upd_ne (ne_of_none e hl1), upd_ne (ne_of_none e hz1), upd_ne (ne_of_none e hp)]
    exact e
  · rw [upd_ne nlp, upd_same, cut]
end
end FP
set_option Elab.async false
set_option linter.all false
set_option maxRecDepth 100000
set_option maxHeartbeats 4000000
set_option exponentiation.threshold 2000
/-! What a law says of Program. -/
namespace FP
open PySem PySem.Spec PyProof.Rows L2 TL
theorem new_same' {H : Hp} {l : Addr} {o : HO} (n : H l = none) : Same H (upd H l o) := Same.new (Same.refl H) n
theorem made_same {H H' : Hp} {x dx C : Addr} (nx : H x = none) (ndx : H dx = none) (eo : ∀ b o, (upd (upd H dx (.own x)) x (.ins C dx [])) b = some o → b ≠ x → H' b = some o) : Same H H' :=
  fun b u e => eo b u ((upd_ne (ne_of_none e nx)).trans ((upd_ne (ne_of_none e ndx)).trans e)) (ne_of_none e nx)
/-- a program of two or three cells declared at the top -/
theorem wf_twelve {cs : List Str} {t : T} (hc : ∀ x ∈ cs, x ∈ twelve) (hn : cs.Nodup) (h5 : cs.length ≤ 5) (hd : declT t = []) (wf : wfT cs 5 t) : WfP cs t := by
  have nm : ∀ x ∈ twelve, isName x = true := by decide +kernel
  refine ⟨wf, ?_, ?_, ?_⟩
  · rw [hd, List.append_nil]
    exact fun x hx => nm x (hc x hx)
  · rw [hd, List.append_nil]; exact hn
  · rw [hd, List.append_nil]; exact h5
theorem twelve_len : ∀ c ∈ twelve, c.length ≤ 12 := by decide +kernel
/-- a program made of a text -/
theorem use_made {cs : List Str} {t : T} {text : Str} (W : WfP cs t) (hs : sizeP cs t ≤ 40) (e : text = textP cs t) : text.length ≤ 80000 ∧ readM text 40 = some (sheetP cs t) := by
  rw [e]
  refine ⟨?_, read_P W hs (by omega)⟩
  have := textP_len W
  have h2 : sizeP cs t * 79 ≤ 40 * 79 := Nat.mul_le_mul_right _ hs
  omega
end FP
set_option Elab.async false
set_option linter.all false
set_option maxRecDepth 100000
set_option maxHeartbeats 4000000
set_option exponentiation.threshold 2000
/-! Sizes and cells of a law's tree. -/
namespace FP
open PySem PySem.Spec PyProof.Rows L2 TL
section
variable {P : Program} {w : World} {K : PySem.W.Frag} {mg : Str → Option Value} {base : Heap}
def spBS (d : Nat) : Sp := fun vs H Q _ => ∃ (x : Addr) (cs : List Str) (t : T), vs = [.ref x] ∧ BlkAt H x cs t ∧ depT t < d ∧ OkB cs t ∧ ∀ H', Same H H' → Q (.int (sizeP cs t : Nat)) H'
theorem scBS : FnScope ["_law_block"] ["_law_block"] (defScope qBlockSize) := ⟨rfl, rfl, rfl, by decide +kernel, rfl, by decide +kernel, by decide +kernel⟩
theorem ok_bs {f : Addr} {fd : FuncData} (F : Fun K "_law_block_size" "_law_block_size" qBlockSize f fd) (B : Blt3 mg) {d : Nat} (D : Def P w K mg base "_law_block_lines" d ["_law_block"] (spBL d)) :
    FnOk P w K mg base CX0 (d + 1) f fd ["_law_block"] (spBS d) := by
  obtain ⟨fD, fdD, gD, kD, bD, GD⟩ := D.ex
  refine F.ok scBS (fun vs H Q E h => ?_) (fun cdv A outer s H vs Q E hr h => ?_)
  · obtain ⟨x, cs, t, rfl, _⟩ := h
    rfl
  obtain ⟨x, cs, t, rfl, hx, hd, O, q⟩ := h
  refine ⟨_, pss_one (ps_ret (pe_callB call_len_seq (by rfl) B.len boot_len (pa_cons (pe_call GD hr rfl gD kD bD .nil pass0 (pa_cons (pv 0) pa_nil)) pa_nil))), ?_⟩
  refine ⟨_, rfl, tNil_i ⟨x, cs, t, rfl, hx, hd, O, fun r H' S hr er => ⟨r, _, rfl, .inl (SqL.of er), ?_⟩⟩⟩
  rw [List.length_map, lnJ_len, linesP_len]
  exact q H' S
end
theorem OkT.b {t : T} (O : OkT t) : OkB [] t :=
  ⟨by unfold sizeP; rw [show locN [] = 0 from rfl, Nat.zero_add]; exact O.sz, fun ws hw => O.pl ws hw, fun x hx => O.ok x hx, O.dl⟩
end FP
set_option Elab.async false
set_option linter.all false
set_option maxRecDepth 100000
set_option maxHeartbeats 4000000
set_option exponentiation.threshold 2000
/-! Sizes and cells of a law's tree. -/
namespace FP
open PySem PySem.Spec PyProof.Rows L2 TL
section
variable {P : Program} {w : World} {K : PySem.W.Frag} {mg : Str → Option Value} {base : Heap}
/-- one order alone -/
def isOne (t : T) : Prop := lenT t = 1
def spOS (d : Nat) : Sp := fun vs H Q _ => ∃ (o : Addr) (t : T), vs = [.ref o] ∧ OrdsAt H t [o] ∧ depT t < d ∧ OkT t ∧ ∀ H', Same H H' → Q (.int (sizeT t : Nat)) H'
theorem scOS : FnScope ["_law_order"] ["_law_order"] (defScope qOrderSize) := ⟨rfl, rfl, rfl, by decide +kernel, rfl, by decide +kernel, by decide +kernel⟩
theorem ok_os {f : Addr} {fd : FuncData} (F : Fun K "_law_order_size" "_law_order_size" qOrderSize f fd) {d : Nat} (D : Def P w K mg base "_law_block_size" (d + 1) ["_law_block"] (spBS d)) :
    FnOk P w K mg base CX0 (d + 2) f fd ["_law_order"] (spOS d) := by
  obtain ⟨fD, fdD, gD, kD, bD, GD⟩ := D.ex
  refine F.ok scOS (fun vs H Q E h => ?_) (fun cdv A outer s H vs Q E hr h => ?_)
  · obtain ⟨x, t, rfl, _⟩ := h
    rfl
  obtain ⟨o, t, rfl, ho, hd, O, q⟩ := h
  refine ⟨_, pss_one (ps_ret (pe_call GD hr rfl gD kD bD .nil pass0 (pa_cons (pe_disp (pps_cons pe_str (pe_lst pa_nil) (pps_cons pe_str (pe_lst (pa_cons (pv 0) pa_nil)) pps_nil)) (by rfl) (by rfl) (fun z => by cases z) (by decide)) pa_nil))), ?_⟩
  intro p hp
  have S1 := new_same (o := .dK []) hp
  have e1 := new_at (o := .dK []) hp
  refine ⟨Nat.zero_le _, fun c nc => ?_⟩
  have S2 := new_same (o := .lst []) nc
  have e2 := new_at (o := .lst []) nc
  refine ⟨_, rfl, sz1000 (by show 1 ≤ 1000; decide), fun l nl => ?_⟩
  have S3 := new_same (o := .lst [.ref o]) nl
  have e3 := new_at (o := .lst [.ref o]) nl
  have ep := S3 _ _ (S2 _ _ e1)
  have ec := S3 _ _ e2
  have nlp : l ≠ p := (ne_of_none (S2 _ _ e1) nl).symm
  have ncp : c ≠ p := (ne_of_none e1 nc).symm
  have S4 : Same H _ := Same.put (o := .dK (blkD c l)) (S1.trans (S2.trans S3)) hp
  refine ⟨ep, blkD c l, rfl, by show 2 ≤ 15; decide, tNil_i ⟨p, [], t, rfl, ⟨c, l, [o], upd_same, (upd_ne ncp).trans ec, (upd_ne nlp).trans e3, ho.same S4⟩, hd, O.b, fun H' S => ?_⟩⟩
  have := q H' (S4.trans S)
  rwa [show sizeP [] t = sizeT t from by unfold sizeP; rw [show locN [] = 0 from rfl, Nat.zero_add]]
end
end FP
set_option Elab.async false
set_option linter.all false
set_option maxRecDepth 100000
set_option maxHeartbeats 4000000
/-! The nodes of a law's tree: pure. -/
namespace FP
open PySem PySem.Spec PyProof.Rows L2 TL
def headT : T → T
  | .nil => .nil
  | .deed d _ => .deed d .nil
  | .one o cs b _ => .one o cs b .nil
  | .two o cs b cs' b' _ => .two o cs b cs' b' .nil
def restT : T → T
  | .nil => .nil
  | .deed _ r => r
  | .one _ _ _ r => r
  | .two _ _ _ _ _ r => r
theorem size_head : ∀ t : T, sizeT t = sizeT (headT t) + sizeT (restT t)
  | .nil => rfl
  | .deed _ r => by show _ = (1 + sizeT .nil) + sizeT r; rw [show sizeT .nil = 0 from rfl, sizeT]
  | .one _ cs b r => by show _ = (1 + (locN cs + sizeT b) + 1 + sizeT .nil) + sizeT r; rw [show sizeT .nil = 0 from rfl, sizeT]
  | .two _ cs b cs' b' r => by show _ = (1 + (locN cs + sizeT b) + 1 + (locN cs' + sizeT b') + 1 + sizeT .nil) + sizeT r; rw [show sizeT .nil = 0 from rfl, sizeT]
theorem first_head : ∀ (t : T) (n g : Nat), firstT n t g = firstT n (headT t) (firstT (n + sizeT (headT t)) (restT t) g)
  | .nil, _, _ => rfl
  | .deed _ _, _, _ => rfl
  | .one o cs b r, n, g => by
    have e : n + sizeT (headT (.one o cs b r)) = n + 1 + (locN cs + sizeT b) + 1 := by show n + (1 + (locN cs + sizeT b) + 1 + sizeT .nil) = _; rw [show sizeT .nil = 0 from rfl]; omega
    rw [e]
    cases o <;> rfl
  | .two o cs b cs' b' r, n, g => rfl
/-- what a node's entry is: line, kind, words, the two ways -/
abbrev NE := Nat → Str → List Str → Nat → Nat → Prop
def NodT (E : NE) : Nat → T → Nat → Prop
  | _, .nil, _ => True
  | n, .deed d r, g => E n d.word d.words.tail (firstT (n + 1) r g) (firstT (n + 1) r g) ∧ NodT E (n + 1) r g
  | n, .one o cs b r, g =>
    (o ≠ .block → E n o.word o.names (firstT (n + 1 + locN cs) b (if o = .loop then n else firstT (n + 1 + (locN cs + sizeT b) + 1) r g)) (firstT (n + 1 + (locN cs + sizeT b) + 1) r g)) ∧
      NodT E (n + 1 + locN cs) b (if o = .loop then n else firstT (n + 1 + (locN cs + sizeT b) + 1) r g) ∧ NodT E (n + 1 + (locN cs + sizeT b) + 1) r g
  | n, .two o cs b cs' b' r, g =>
    E n o.word o.names (firstT (n + 1 + locN cs) b (firstT (n + 1 + (locN cs + sizeT b) + 1 + (locN cs' + sizeT b') + 1) r g)) (firstT (n + 1 + (locN cs + sizeT b) + 1 + locN cs') b' (firstT (n + 1 + (locN cs + sizeT b) + 1 + (locN cs' + sizeT b') + 1) r g)) ∧
      NodT E (n + 1 + locN cs) b (firstT (n + 1 + (locN cs + sizeT b) + 1 + (locN cs' + sizeT b') + 1) r g) ∧ NodT E (n + 1 + (locN cs + sizeT b) + 1 + locN cs') b' (firstT (n + 1 + (locN cs + sizeT b) + 1 + (locN cs' + sizeT b') + 1) r g) ∧
      NodT E (n + 1 + (locN cs + sizeT b) + 1 + (locN cs' + sizeT b') + 1) r g
theorem NodT.mono {E E' : NE} : ∀ (t : T) {n g : Nat}, (∀ m k ws a b, n ≤ m → m < n + sizeT t → E m k ws a b → E' m k ws a b) → NodT E n t g → NodT E' n t g
  | .nil, _, _, _, _ => trivial
  | .deed d r, n, g, h, hh => by
    have hs : sizeT (.deed d r) = sizeT r + 1 := by rw [sizeT]; omega
    exact ⟨h _ _ _ _ _ (Nat.le_refl _) (by omega) hh.1, NodT.mono r (fun m k ws a b h1 h2 => h m k ws a b (by omega) (by omega)) hh.2⟩
  | .one o cs b r, n, g, h, hh => by
    have hs : sizeT (.one o cs b r) = 1 + (locN cs + sizeT b) + 1 + sizeT r := by rw [sizeT]
    exact ⟨fun z => h _ _ _ _ _ (Nat.le_refl _) (by omega) (hh.1 z), NodT.mono b (fun m k ws a b h1 h2 => h m k ws a b (by omega) (by omega)) hh.2.1, NodT.mono r (fun m k ws a b h1 h2 => h m k ws a b (by omega) (by omega)) hh.2.2⟩
  | .two o cs b cs' b' r, n, g, h, hh => by
    have hs : sizeT (.two o cs b cs' b' r) = 1 + (locN cs + sizeT b) + 1 + (locN cs' + sizeT b') + 1 + sizeT r := by rw [sizeT]
    exact ⟨h _ _ _ _ _ (Nat.le_refl _) (by omega) hh.1, NodT.mono b (fun m k ws a b h1 h2 => h m k ws a b (by omega) (by omega)) hh.2.1, NodT.mono b' (fun m k ws a b h1 h2 => h m k ws a b (by omega) (by omega)) hh.2.2.1, NodT.mono r (fun m k ws a b h1 h2 => h m k ws a b (by omega) (by omega)) hh.2.2.2⟩
theorem NodT.join {E : NE} : ∀ (t : T) {n g : Nat}, NodT E n (headT t) (firstT (n + sizeT (headT t)) (restT t) g) → NodT E (n + sizeT (headT t)) (restT t) g → NodT E n t g
  | .nil, _, _, _, _ => trivial
  | .deed d r, n, g, h, hh => ⟨h.1, hh⟩
  | .one o cs b r, n, g, h, hh => by
    have e : n + sizeT (headT (.one o cs b r)) = n + 1 + (locN cs + sizeT b) + 1 := by show n + (1 + (locN cs + sizeT b) + 1 + sizeT .nil) = _; rw [show sizeT .nil = 0 from rfl]; omega
    rw [e] at h hh
    exact ⟨h.1, h.2.1, hh⟩
  | .two o cs b cs' b' r, n, g, h, hh => by
    have e : n + sizeT (headT (.two o cs b cs' b' r)) = n + 1 + (locN cs + sizeT b) + 1 + (locN cs' + sizeT b') + 1 := by show n + (1 + (locN cs + sizeT b) + 1 + (locN cs' + sizeT b') + 1 + sizeT .nil) = _; rw [show sizeT .nil = 0 from rfl]; omega
    rw [e] at h hh
    exact ⟨h.1, h.2.1, h.2.2.1, hh⟩
/-- what is left behind k orders, and where it begins -/
def sufT : Nat → T → Nat → Nat × T
  | n, t, 0 => (n, t)
  | n, t, k + 1 => sufT (n + sizeT (headT t)) (restT t) k
theorem suf_succ : ∀ (k n : Nat) (t : T), sufT n t (k + 1) = ((sufT n t k).1 + sizeT (headT (sufT n t k).2), restT (sufT n t k).2)
  | 0, _, _ => rfl
  | k + 1, n, t => suf_succ k (n + sizeT (headT t)) (restT t)
def numsT : Nat → T → List Nat
  | _, .nil => []
  | n, .deed d r => n :: numsT (n + sizeT (headT (.deed d r))) r
  | n, .one o cs b r => n :: numsT (n + sizeT (headT (.one o cs b r))) r
  | n, .two o cs b cs' b' r => n :: numsT (n + sizeT (headT (.two o cs b cs' b' r))) r
theorem nums_at : ∀ (t : T) (n k : Nat), k < lenT t → (numsT n t)[k]? = some (sufT n t k).1
  | .nil, _, _, h => absurd h (Nat.not_lt_zero _)
  | .deed d r, n, 0, _ => rfl
  | .one o cs b r, n, 0, _ => rfl
  | .two o cs b cs' b' r, n, 0, _ => rfl
  | .deed d r, n, k + 1, h => nums_at r _ k (Nat.lt_of_succ_lt_succ h)
  | .one o cs b r, n, k + 1, h => nums_at r _ k (Nat.lt_of_succ_lt_succ h)
  | .two o cs b cs' b' r, n, k + 1, h => nums_at r _ k (Nat.lt_of_succ_lt_succ h)
theorem nums_len : ∀ (t : T) (n : Nat), (numsT n t).length = lenT t
  | .nil, _ => rfl
  | .deed d r, n => congrArg (· + 1) (nums_len r _)
  | .one o cs b r, n => congrArg (· + 1) (nums_len r _)
  | .two o cs b cs' b' r, n => congrArg (· + 1) (nums_len r _)
theorem suf_end : ∀ (t : T) (n : Nat), (sufT n t (lenT t)).2 = .nil
  | .nil, _ => rfl
  | .deed d r, n => suf_end r _
  | .one o cs b r, n => suf_end r _
  | .two o cs b cs' b' r, n => suf_end r _
theorem suf_size : ∀ (k n : Nat) (t : T), (sufT n t k).1 + sizeT (sufT n t k).2 = n + sizeT t
  | 0, _, _ => rfl
  | k + 1, n, t => by
    show (sufT (n + sizeT (headT t)) (restT t) k).1 + sizeT (sufT (n + sizeT (headT t)) (restT t) k).2 = _
    rw [suf_size k, size_head t]
    omega
theorem OrdsAt.head {H : Hp} {t : T} {o : Addr} {os : List Addr} (h : OrdsAt H t (o :: os)) : OrdsAt H (headT t) [o] ∧ OrdsAt H (restT t) os := by
  cases t with
  | nil => cases h
  | deed d r => obtain ⟨_, _, e, h1, h2⟩ := h; cases e; exact ⟨⟨_, [], rfl, h1, rfl⟩, h2⟩
  | one op cs b r => obtain ⟨_, x, c, l, ors, rest, e, h1, h2, h3, h4, h5, h6⟩ := h; cases e; exact ⟨⟨_, x, c, l, ors, [], rfl, h1, h2, h3, h4, h5, rfl⟩, h6⟩
  | two op cs b cs' b' r => obtain ⟨_, x, c, l, ors, y, c', l', ors', rest, e, h1, h2, h3, h4, h5, h2', h3', h4', h5', h6⟩ := h; cases e; exact ⟨⟨_, x, c, l, ors, y, c', l', ors', [], rfl, h1, h2, h3, h4, h5, h2', h3', h4', h5', rfl⟩, h6⟩
theorem OrdsAt.suf {H : Hp} : ∀ (k n : Nat) (t : T) {os : List Addr}, OrdsAt H t os → k ≤ lenT t → OrdsAt H (sufT n t k).2 (os.drop k)
  | 0, _, _, _, h, _ => by rw [List.drop_zero]; exact h
  | k + 1, n, t, [], h, hk => by rw [h.end_] at hk; exact absurd hk (Nat.not_succ_le_zero _)
  | k + 1, n, t, o :: os, h, hk => by
    rw [List.drop_succ_cons]
    refine OrdsAt.suf k _ (restT t) h.head.2 ?_
    cases t <;> first | exact Nat.le_of_succ_le_succ hk | exact absurd hk (Nat.not_succ_le_zero _)
theorem dep_head : ∀ t : T, depT (headT t) ≤ depT t ∧ depT (restT t) ≤ depT t
  | .nil => ⟨Nat.le_refl _, Nat.le_refl _⟩
  | .deed _ r => ⟨Nat.zero_le _, Nat.le_refl _⟩
  | .one _ _ b r => by
    show max (depT b + 1) (depT .nil) ≤ max (depT b + 1) (depT r) ∧ depT r ≤ max (depT b + 1) (depT r)
    rw [show depT .nil = 0 from rfl]; omega
  | .two _ _ b _ b' r => by
    show max (max (depT b + 1) (depT b' + 1)) (depT .nil) ≤ max (max (depT b + 1) (depT b' + 1)) (depT r) ∧ depT r ≤ max (max (depT b + 1) (depT b' + 1)) (depT r)
    rw [show depT .nil = 0 from rfl]; omega
theorem ok2_head : ∀ t : T, ok2 t → ok2 (headT t) ∧ ok2 (restT t)
  | .nil, _ => ⟨trivial, trivial⟩
  | .deed _ r, h => ⟨trivial, h⟩
  | .one _ _ b r, h => ⟨⟨h.1, trivial⟩, h.2⟩
  | .two _ _ b _ b' r, h => ⟨⟨h.1, h.2.1, h.2.2.1, trivial⟩, h.2.2.2⟩
theorem OkT.head : ∀ {t : T}, OkT t → OkT (headT t) ∧ OkT (restT t)
  | .nil, O => ⟨O, O⟩
  | .deed d r, O => ⟨⟨(by show sizeT (.deed d .nil) ≤ 1000; rw [sizeT, show sizeT .nil = 0 from rfl]; omega), fun ws hw => (by
      rcases List.mem_cons.mp hw with rfl | z
      · exact O.deed.1
      · cases z), fun x hx => (by cases hx), by show 0 ≤ 1000; omega⟩, O.deed.2⟩
  | .one o cs b r, O => ⟨⟨by
      show sizeT (.one o cs b .nil) ≤ _
      have := O.sz
      rw [sizeT] at this ⊢
      rw [show sizeT .nil = 0 from rfl]
      omega, fun ws hw => O.pl ws (by
      have hw' : ws ∈ linesT (.one o cs b .nil) := hw
      rw [linesT] at hw' ⊢
      rcases List.mem_cons.mp hw' with z | z
      · exact List.mem_cons.mpr (.inl z)
      rcases List.mem_append.mp z with z | z
      · exact List.mem_cons_of_mem _ (List.mem_append_left _ z)
      rcases List.mem_cons.mp z with z | z
      · exact List.mem_cons_of_mem _ (List.mem_append_right _ (List.mem_cons.mpr (.inl z)))
      · cases z), fun x hx => O.ok x (by
      have hx' : x ∈ declT (.one o cs b .nil) := hx
      rw [declT, show declT .nil = [] from rfl, List.append_nil] at hx'
      rw [declT]
      exact List.mem_append_left _ hx'), by
      have := O.dl
      show (declT (.one o cs b .nil)).length ≤ _
      rw [declT, List.length_append] at this
      rw [declT, show declT .nil = [] from rfl, List.append_nil]
      omega⟩, O.one.2.2⟩
  | .two o cs b cs' b' r, O => ⟨⟨by
      show sizeT (.two o cs b cs' b' .nil) ≤ _
      have := O.sz
      rw [sizeT] at this ⊢
      rw [show sizeT .nil = 0 from rfl]
      omega, fun ws hw => O.pl ws (by
      have hw' : ws ∈ linesT (.two o cs b cs' b' .nil) := hw
      rw [linesT] at hw' ⊢
      rcases List.mem_cons.mp hw' with z | z
      · exact List.mem_cons.mpr (.inl z)
      rcases List.mem_append.mp z with z | z
      · exact List.mem_cons_of_mem _ (List.mem_append_left _ z)
      rcases List.mem_cons.mp z with z | z
      · exact List.mem_cons_of_mem _ (List.mem_append_right _ (List.mem_cons.mpr (.inl z)))
      rcases List.mem_append.mp z with z | z
      · exact List.mem_cons_of_mem _ (List.mem_append_right _ (List.mem_cons_of_mem _ (List.mem_append_left _ z)))
      rcases List.mem_cons.mp z with z | z
      · exact List.mem_cons_of_mem _ (List.mem_append_right _ (List.mem_cons_of_mem _ (List.mem_append_right _ (List.mem_cons.mpr (.inl z)))))
      · cases z), fun x hx => O.ok x (by
      have hx' : x ∈ declT (.two o cs b cs' b' .nil) := hx
      rw [declT, show declT .nil = [] from rfl, List.append_nil] at hx'
      rw [declT]
      simp only [List.mem_append] at hx' ⊢
      rcases hx' with z | z
      · exact .inl z
      · exact .inr (.inl z)), by
      have := O.dl
      show (declT (.two o cs b cs' b' .nil)).length ≤ _
      rw [declT] at this
      rw [declT, show declT .nil = [] from rfl, List.append_nil]
      simp only [List.length_append] at this ⊢
      omega⟩, O.two.2.2.2⟩
theorem suf_ok : ∀ (k n : Nat) (t : T), OkT t → ok2 t → OkT (sufT n t k).2 ∧ ok2 (sufT n t k).2 ∧ depT (sufT n t k).2 ≤ depT t
  | 0, _, _, O, o2 => ⟨O, o2, Nat.le_refl _⟩
  | k + 1, n, t, O, o2 => by
    obtain ⟨h1, h2, h3⟩ := suf_ok k (n + sizeT (headT t)) (restT t) O.head.2 (ok2_head t o2).2
    exact ⟨h1, h2, Nat.le_trans h3 (dep_head t).2⟩
/-- in the heap -/
def NdAt (H : Hp) (kvs : List (Key × V)) : NE := fun m k ws a b => ∃ t w, valV kvs (.inl (m : Int)) = some (.ref t) ∧ H t = some (.tup [.str k, .ref w, .int (a : Nat), .int (b : Nat)]) ∧ H w = some (.tup (ws.map V.str))
theorem NdAt.mono {H H' : Hp} {kvs kvs' : List (Key × V)} {m a b : Nat} {k : Str} {ws : List Str} (h : NdAt H kvs m k ws a b) (e : valV kvs' (.inl (m : Int)) = valV kvs (.inl (m : Int))) (S : ∀ x v, H x = some (.tup v) → H' x = some (.tup v)) : NdAt H' kvs' m k ws a b := by
  obtain ⟨t, w, h1, h2, h3⟩ := h
  exact ⟨t, w, e.trans h1, S _ _ h2, S _ _ h3⟩
theorem val_putK (kvs : List (Key × V)) (k : Key) (v : V) : valV (putK kvs k v) k = some v := by
  unfold valV putK
  split
  · rename_i c
    induction kvs with
    | nil => cases c
    | cons p r ih =>
      rw [List.map_cons, List.find?_cons]
      by_cases e : p.1 = k
      · rw [if_pos e]
        simp [e]
      · rw [if_neg e]
        rw [decide_eq_false e]
        refine ih ?_
        rw [List.any_cons, decide_eq_false e, Bool.false_or] at c
        exact c
  · rename_i c
    rw [List.find?_append]
    have : kvs.find? (fun kv => decide (kv.1 = k)) = none := by
      rw [List.find?_eq_none]
      intro x hx hd
      exact c (List.any_eq_true.mpr ⟨x, hx, hd⟩)
    rw [this]
    simp
theorem val_putK_ne (kvs : List (Key × V)) (k k' : Key) (v : V) (h : k' ≠ k) : valV (putK kvs k v) k' = valV kvs k' := by
  unfold valV putK
  split
  · induction kvs with
    | nil => rfl
    | cons p r ih =>
      rename_i c
      rw [List.map_cons, List.find?_cons, List.find?_cons]
      by_cases e : p.1 = k
      · rw [if_pos e]
        have : decide (p.1 = k') = false := decide_eq_false (by rw [e]; exact h.symm)
        rw [this]
        by_cases c2 : (r.any fun kv => decide (kv.1 = k)) = true
        · exact ih c2
        · rw [List.map_congr_left (g := id) (fun x hx => ?_), List.map_id]
          rw [if_neg fun z => c2 (List.any_eq_true.mpr ⟨x, hx, decide_eq_true z⟩)]
          rfl
      · rw [if_neg e]
        by_cases e2 : p.1 = k'
        · rw [decide_eq_true e2]
        · rw [decide_eq_false e2]
          refine ih ?_
          rw [List.any_cons, decide_eq_false e, Bool.false_or] at c
          exact c
  · rw [List.find?_append]
    have : ([(k, v)] : List (Key × V)).find? (fun kv => decide (kv.1 = k')) = none := by
      rw [List.find?_cons, decide_eq_false (fun z : k = k' => h z.symm)]
      rfl
    rw [this, Option.or_none]
theorem len_putK (kvs : List (Key × V)) (k : Key) (v : V) : (putK kvs k v).length ≤ kvs.length + 1 := by
  unfold putK
  split
  · rw [List.length_map]; omega
  · rw [List.length_append]; exact Nat.le_refl _
end FP
set_option Elab.async false
set_option linter.all false
set_option maxRecDepth 100000
set_option maxHeartbeats 4000000
/-! Two runs of one program, with own places and in the layout of one lot: how their events go together. -/
namespace FP
open PySem PySem.Spec PyProof.Rows L2 TL
abbrev Kvs := List (Key × V)
/-- what the cell of the lot holds that was written last -/
def dueV (hd : Kvs) : Option Str → V
  | none => .non
  | some l => (valV hd (.inr l)).getD .non
/-- the events of both runs, told so far: pp (the last one first) -/
inductive Holds (lot : List Str) : Kvs → Option Str → List Ev → List Ev → List Ev → Prop where
  | fin {hd last pp} : Holds lot hd last pp [] []
  | rdIn {hd last pp l c w w' r r'} (hc : c ∈ lot) (hw : w'.v = dueV hd last) (hn : w' ≠ w) : Holds lot hd last pp (.rd l c w :: r) (.rd l c w' :: r')
  | rdSame {hd last pp l c w r r'} (hc : c ∈ lot) (hw : w.v = dueV hd last) (h : Holds lot hd last (.rd l c w :: pp) r r') : Holds lot hd last pp (.rd l c w :: r) (.rd l c w :: r')
  | rdOut {hd last pp l c w r r'} (hc : c ∉ lot) (h : Holds lot hd last (.rd l c w :: pp) r r') : Holds lot hd last pp (.rd l c w :: r) (.rd l c w :: r')
  | wr {hd last pp l c w r r'} (h : Holds lot (putK hd (.inr c) w.v) (if c ∈ lot then some c else last) (.wr l c w :: pp) r r') : Holds lot hd last pp (.wr l c w :: r) (.wr l c w :: r')
  | smSame {hd last pp l b r r'} (h : Holds lot hd last (.sm l b :: pp) r r') : Holds lot hd last pp (.sm l b :: r) (.sm l b :: r')
  | smDiff {hd last pp l a b c d l1 l2 r r'} (ha : a ∈ lot) (hb : b ∈ lot) (hn : a ≠ b) : Holds lot hd last (.rd l1 c (.a b) :: .rd l2 d (.a a) :: pp) (.sm l false :: r) (.sm l true :: r')
structure Rel (lot cells : List Str) (M N : RunM) (hd : Kvs) (last : Option Str) : Prop where
  line : M.line = N.line
  cal : M.calling = N.calling
  known : M.known = N.known
  own : ∀ c ∈ cells, ∀ w, worthM M c = some w → (valV hd (.inr c)).getD .non = w.v
  out : ∀ c ∈ cells, c ∉ lot → worthM M c = worthM N c
  inn : ∀ c ∈ lot, ∀ w, worthM N c = some w → w.v = dueV hd last
  lst : ∀ l, last = some l → l ∈ lot
/-- the two ways to lay cells -/
structure Two (lot cells : List Str) (pl pl' : List (Str × Nat)) : Prop where
  sub : ∀ c ∈ lot, c ∈ cells
  inj : ∀ a ∈ cells, ∀ b ∈ cells, homeOf pl a = homeOf pl b → a = b
  lay : ∀ a ∈ cells, ∀ b ∈ cells, homeOf pl' a = homeOf pl' b → a = b ∨ (a ∈ lot ∧ b ∈ lot)
  one : ∀ a ∈ lot, ∀ b ∈ lot, homeOf pl' a = homeOf pl' b
section
variable {R : List RowM} {cells lot : List Str} {pl pl' : List (Str × Nat)} {M N : RunM} {hd : Kvs} {last : Option Str} {pp : List Ev}
theorem worth_put (hp : M.places = pl) {c c' : Str} {n : Nat} {x : W} (hn : homeOf pl c = some n) : worthM { M with held := putH M.held n x } c' = if homeOf pl c' = some n then some x else worthM M c' := by
  unfold worthM
  rw [hp]
  show (homeOf pl c').map (worthAt { M with held := putH M.held n x }) = _
  cases e : homeOf pl c' with
  | none => rw [if_neg (by intro z; cases z)]; rfl
  | some n' =>
    show some ((heldOf (putH M.held n x) n').getD .un) = _
    by_cases z : n' = n
    · subst z
      rw [if_pos rfl, heldOf_put]
      rfl
    · rw [if_neg (fun q => z (Option.some.inj q)), heldOf_put_ne _ _ _ _ z]
      rfl
theorem Rel.wr (F : FC R cells pl) (F' : FC R cells pl') (T : Two lot cells pl pl') (I : RInv R cells pl M) (J : RInv R cells pl' N) (h : Rel lot cells M N hd last) {c : Str} {x : W} (hc : c ∈ cells) (hx : x.inC cells) :
    ∃ n n', writeM M c x = some { M with held := putH M.held n x } ∧ writeM N c x = some { N with held := putH N.held n' x } ∧ RInv R cells pl { M with held := putH M.held n x } ∧ RInv R cells pl' { N with held := putH N.held n' x } ∧ Rel lot cells { M with held := putH M.held n x } { N with held := putH N.held n' x } (putK hd (.inr c) x.v) (if c ∈ lot then some c else last) := by
  obtain ⟨n, hn, w1, i1⟩ := I.wr F hc hx
  obtain ⟨n', hn', w2, i2⟩ := J.wr F' hc hx
  refine ⟨n, n', w1, w2, i1, i2, h.line, h.cal, h.known, fun c' hc' w hw => ?_, fun c' hc' hl => ?_, fun c' hc' w hw => ?_, fun l hl => ?_⟩
  · rw [worth_put I.pl hn] at hw
    by_cases e : c' = c
    · subst e
      rw [if_pos hn] at hw
      rw [val_putK, ← Option.some.inj hw]
      rfl
    · rw [if_neg (fun z => e (T.inj c' hc' c hc (z.trans hn.symm)))] at hw
      rw [val_putK_ne _ _ _ _ (fun z => e (Sum.inr.inj z))]
      exact h.own c' hc' w hw
  · rw [worth_put I.pl hn, worth_put J.pl hn']
    by_cases e : c' = c
    · subst e
      rw [if_pos hn, if_pos hn']
    · rw [if_neg (fun z => e (T.inj c' hc' c hc (z.trans hn.symm))), if_neg]
      · exact h.out c' hc' hl
      · intro z
        rcases T.lay c' hc' c hc (z.trans hn'.symm) with q | q
        · exact e q
        · exact hl q.1
  · rw [worth_put J.pl hn'] at hw
    by_cases e : c ∈ lot
    · rw [if_pos e]
      rw [if_pos ((T.one c' hc' c e).trans hn')] at hw
      show w.v = (valV (putK hd (.inr c) x.v) (.inr c)).getD .non
      rw [val_putK, ← Option.some.inj hw]
      rfl
    · rw [if_neg e]
      rw [if_neg] at hw
      · have := h.inn c' hc' w hw
        rw [this]
        cases e2 : last with
        | none => rfl
        | some l =>
          show (valV hd (.inr l)).getD .non = (valV (putK hd (.inr c) x.v) (.inr l)).getD .non
          rw [val_putK_ne _ _ _ _ (fun z => e (by rw [← Sum.inr.inj z]; exact h.lst l e2))]
      · intro z
        rcases T.lay c' (T.sub c' hc') c hc (z.trans hn'.symm) with q | q
        · exact e (by rw [← q]; exact hc')
        · exact e q.2
  · by_cases e : c ∈ lot
    · rw [if_pos e] at hl
      cases hl
      exact e
    · rw [if_neg e] at hl
      exact h.lst l hl
theorem Rel.learn (h : Rel lot cells M N hd last) (x : W) : Rel lot cells (learnM M x) (learnM N x) hd last := by
  cases x with
  | un => exact h
  | i n => exact h
  | a c =>
    unfold learnM
    dsimp only
    by_cases e : c ∈ M.known
    · rw [if_pos e, if_pos (by rw [← h.known]; exact e)]
      exact h
    · rw [if_neg e, if_neg (by rw [← h.known]; exact e)]
      exact ⟨h.line, h.cal, by show sortU (M.known ++ [c]) = sortU (N.known ++ [c]); rw [h.known], h.own, h.out, h.inn, h.lst⟩
theorem Rel.go (h : Rel lot cells M N hd last) (y : Nat) : Rel lot cells (goR M y) (goR N y) hd last := ⟨rfl, h.cal, h.known, h.own, h.out, h.inn, h.lst⟩
theorem Rel.stop (h : Rel lot cells M N hd last) : Rel lot cells (stopR M) (stopR N) hd last := ⟨rfl, rfl, h.known, h.own, h.out, h.inn, h.lst⟩
theorem Rel.leave (h : Rel lot cells M N hd last) (y : Nat) : Rel lot cells (leaveR M y) (leaveR N y) hd last := ⟨rfl, rfl, h.known, h.own, h.out, h.inn, h.lst⟩
/-- a cell is read in both -/
theorem Rel.rd (F : FC R cells pl) (F' : FC R cells pl') (I : RInv R cells pl M) (J : RInv R cells pl' N) (h : Rel lot cells M N hd last) {c : Str} (hc : c ∈ cells) (l : Nat) :
    ∃ x x', worthM M c = some x ∧ worthM N c = some x' ∧ x.inC cells ∧ x'.inC cells ∧ ((∀ pp r1 r2, Holds lot hd last pp (.rd l c x :: r1) (.rd l c x' :: r2)) ∨ (x' = x ∧ ∀ pp r1 r2, Holds lot hd last (.rd l c x :: pp) r1 r2 → Holds lot hd last pp (.rd l c x :: r1) (.rd l c x :: r2))) := by
  obtain ⟨x, h1, h2⟩ := I.rd F hc
  obtain ⟨x', h3, h4⟩ := J.rd F' hc
  refine ⟨x, x', h1, h3, h2, h4, ?_⟩
  by_cases e : c ∈ lot
  · have due := h.inn c e x' h3
    by_cases e2 : x' = x
    · subst e2
      exact .inr ⟨rfl, fun pp r1 r2 q => .rdSame e due q⟩
    · exact .inl fun pp r1 r2 => .rdIn e due e2
  · have := h.out c hc e
    rw [h1, h3] at this
    cases this
    exact .inr ⟨rfl, fun pp r1 r2 q => .rdOut e q⟩
/-- one line in both -/
def SimS (R : List RowM) (lot cells : List Str) (hd : Kvs) (last : Option Str) (ev1 : List Ev) (M' : RunM) (ys : List Int) (ev2 : List Ev) (N' : RunM) (zs : List Int) : Prop :=
  (∀ pp r1 r2, Holds lot hd last pp (ev1 ++ r1) (ev2 ++ r2)) ∨ (ys = zs ∧ ∃ hd' last', Rel lot cells M' N' hd' last' ∧ ∀ pp r1 r2, Holds lot hd' last' (ev1.reverse ++ pp) r1 r2 → Holds lot hd last pp (ev1 ++ r1) (ev2 ++ r2))
def SimO (R : List RowM) (lot cells : List Str) (hd : Kvs) (last : Option Str) (o1 o2 : Option (List Ev × RunM × List Int)) : Prop := ∃ ev1 M' ys ev2 N' zs, o1 = some (ev1, M', ys) ∧ o2 = some (ev2, N', zs) ∧ SimS R lot cells hd last ev1 M' ys ev2 N' zs
theorem SimO.none_ {M' N' : RunM} {ys : List Int} (h : Rel lot cells M' N' hd last) : SimO R lot cells hd last (some ([], M', ys)) (some ([], N', ys)) :=
  ⟨_, _, _, _, _, _, rfl, rfl, .inr ⟨rfl, hd, last, h, fun pp r1 r2 q => q⟩⟩
theorem SimO.write {M' N' : RunM} {ys : List Int} {l : Nat} {c : Str} {x : W} (h : Rel lot cells M' N' (putK hd (.inr c) x.v) (if c ∈ lot then some c else last)) : SimO R lot cells hd last (some ([.wr l c x], M', ys)) (some ([.wr l c x], N', ys)) :=
  ⟨_, _, _, _, _, _, rfl, rfl, .inr ⟨rfl, _, _, h, fun pp r1 r2 q => .wr q⟩⟩
/-- from a cell to a cell, in both -/
theorem tr_sim (F : FC R cells pl) (F' : FC R cells pl') (T : Two lot cells pl pl') (I : RInv R cells pl M) (J : RInv R cells pl' N) (h : Rel lot cells M N hd last) {m : RowM} {s t : Str} (hs : s ∈ cells) (ht : t ∈ cells) :
    ∃ e1 M' e2 N', trM m M s t = some (e1, M') ∧ trM m N s t = some (e2, N') ∧ ∀ xs, SimS R lot cells hd last e1 M' xs e2 N' xs := by
  obtain ⟨x, x', h1, h2, h3, h4, h5⟩ := h.rd F F' I J hs M.line
  obtain ⟨n1, hn1, w1, i1⟩ := I.wr F ht h3
  obtain ⟨n2, hn2, w2, i2⟩ := J.wr F' ht h4
  have hl := h.line
  refine ⟨[.rd M.line s x, .wr M.line t x], goR { M with held := putH M.held n1 x } m.after, [.rd M.line s x', .wr M.line t x'], goR { N with held := putH N.held n2 x' } m.after, ?_, ?_, fun xs => ?_⟩
  · unfold trM; rw [h1]; show ((writeM M t x).map _) = _; rw [w1]; rfl
  · unfold trM; rw [h2]; show ((writeM N t x').map _) = _; rw [w2, ← hl]; rfl
  rcases h5 with h5 | ⟨rfl, h5⟩
  · exact .inl fun pp r1 r2 => h5 _ _ _
  · obtain ⟨n, n', q1, q2, _, _, q5⟩ := h.wr F F' T I J ht h3
    rw [w1] at q1
    rw [w2] at q2
    rw [Option.some.inj q1, Option.some.inj q2]
    exact .inr ⟨rfl, _, _, q5.go _, fun pp r1 r2 q => h5 _ _ _ (.wr q)⟩
end
end FP
set_option Elab.async false
set_option linter.all false
set_option maxRecDepth 100000
set_option maxHeartbeats 4000000
namespace FP
open PySem PySem.Spec PyProof.Rows L2 TL
section
variable {R : List RowM} {cells lot : List Str} {pl pl' : List (Str × Nat)} {M N : RunM} {hd : Kvs} {last : Option Str} {pp : List Ev}
/-- a row of events behind a read -/
theorem SimO.behind {l : Nat} {c : Str} {x : W} {e1 : List Ev} {M' : RunM} {ys : List Int} {e2 : List Ev} {N' : RunM} {zs : List Int} (h : SimS R lot cells hd last e1 M' ys e2 N' zs) (q : ∀ pp r1 r2, Holds lot hd last (.rd l c x :: pp) r1 r2 → Holds lot hd last pp (.rd l c x :: r1) (.rd l c x :: r2)) :
    SimS R lot cells hd last (.rd l c x :: e1) M' ys (.rd l c x :: e2) N' zs := by
  rcases h with h | ⟨h1, hd', last', h2, h3⟩
  · exact .inl fun pp r1 r2 => q _ _ _ (h _ _ _)
  · refine .inr ⟨h1, hd', last', h2, fun pp r1 r2 z => q _ _ _ (h3 _ _ _ ?_)⟩
    rw [List.reverse_cons, List.append_assoc] at z
    exact z
theorem SimO.stopRd {l : Nat} {c : Str} {x : W} {xs : List Int} (h : Rel lot cells M N hd last) (q : ∀ pp r1 r2, Holds lot hd last (.rd l c x :: pp) r1 r2 → Holds lot hd last pp (.rd l c x :: r1) (.rd l c x :: r2)) :
    SimS R lot cells hd last [.rd l c x] (stopR M) xs [.rd l c x] (stopR N) xs := SimO.behind (e1 := []) (e2 := []) (.inr ⟨rfl, _, _, h.stop, fun pp r1 r2 z => z⟩) q
theorem actM_cons (m : RowM) (M : RunM) (k : Int) (r : List Int) : actM m M (k :: r) = (if 1 ≤ k ∧ k ≤ (M.known.length : Int) then (match M.known[(k - 1).toNat]? with
      | some c => (match r with
        | [] => some ([], stopR M, [])
        | j :: r2 => if j < 0 then (worthM M c).map fun x => ([Ev.rd M.line c x], learnM M x, r2) else actWriteM m M r2 c j)
      | none => none)
    else some ([], leaveR M m.after, r)) := rfl
theorem act_sim (F : FC R cells pl) (F' : FC R cells pl') (T : Two lot cells pl pl') (I : RInv R cells pl M) (J : RInv R cells pl' N) (h : Rel lot cells M N hd last) {m : RowM} {xs : List Int} (hx : ∀ x ∈ xs, x.natAbs < 10 ^ 60) : SimO R lot cells hd last (actM m M xs) (actM m N xs) := by
  have hl := h.line
  have hk := h.known
  cases xs with
  | nil => exact SimO.none_ h.stop
  | cons k r =>
    rw [actM_cons, actM_cons]
    unfold actWriteM
    rw [← hl, ← hk]
    by_cases hk1 : 1 ≤ k ∧ k ≤ (M.known.length : Int)
    · rw [if_pos hk1, if_pos hk1]
      have hi : (k - 1).toNat < M.known.length := by omega
      rw [List.getElem?_eq_getElem hi]
      have hcc := I.kc _ (List.getElem_mem hi)
      generalize M.known[(k - 1).toNat] = c at *
      dsimp only
      cases r with
      | nil => exact SimO.none_ h.stop
      | cons j r2 =>
        dsimp only
        have write : ∀ {x : W} {ys : List Int}, x.inC cells → SimO R lot cells hd last ((writeM M c x).map fun M1 => ([Ev.wr M.line c x], M1, ys)) ((writeM N c x).map fun M1 => ([Ev.wr M.line c x], M1, ys)) := fun {x ys} h2 => by
          obtain ⟨n, n', q1, q2, _, _, q5⟩ := h.wr F F' T I J hcc h2
          rw [q1, q2]
          exact SimO.write q5
        by_cases hj : j < 0
        · rw [if_pos hj, if_pos hj]
          obtain ⟨x, x', h1, h2, h3, h4, h5⟩ := h.rd F F' I J hcc M.line
          rw [h1, h2]
          rcases h5 with h5 | ⟨rfl, h5⟩
          · exact ⟨_, _, _, _, _, _, rfl, rfl, .inl fun pp r1 r2 => h5 _ _ _⟩
          · exact ⟨_, _, _, _, _, _, rfl, rfl, .inr ⟨rfl, _, _, h.learn _, fun pp r1 r2 z => h5 _ _ _ z⟩⟩
        · rw [if_neg hj, if_neg hj]
          by_cases j1 : j > (M.known.length : Int) + 1
          · rw [if_pos j1, if_pos j1]
            exact SimO.none_ (h.leave _)
          rw [if_neg j1, if_neg j1]
          by_cases j2 : j = (M.known.length : Int) + 1
          · rw [if_pos j2, if_pos j2]
            exact write trivial
          rw [if_neg j2, if_neg j2]
          by_cases j3 : j > 0
          · rw [if_pos j3, if_pos j3]
            have hi2 : (j - 1).toNat < M.known.length := by omega
            rw [List.getElem?_eq_getElem hi2]
            dsimp only
            exact write (I.kc _ (List.getElem_mem hi2))
          rw [if_neg j3, if_neg j3]
          cases r2 with
          | nil => exact SimO.none_ h.stop
          | cons v r3 =>
            dsimp only
            exact write (show v.natAbs < 10 ^ 60 from hx v (by simp))
    · rw [if_neg hk1, if_neg hk1]
      exact SimO.none_ (h.leave _)
theorem same_two (F : FC R cells pl) (F' : FC R cells pl') (T : Two lot cells pl pl') (I : RInv R cells pl M) (J : RInv R cells pl' N) {x y : W} (hx : x.inC cells) (hy : y.inC cells) :
    (∃ k, sameM M x y = some k ∧ sameM N x y = some k) ∨ (sameM M x y = some false ∧ sameM N x y = some true ∧ ∃ a b, x = .a a ∧ y = .a b ∧ a ≠ b ∧ a ∈ lot ∧ b ∈ lot) := by
  unfold sameM
  cases x with
  | un => exact .inl ⟨_, rfl, rfl⟩
  | i n => exact .inl ⟨_, rfl, rfl⟩
  | a c1 =>
    cases y with
    | un => exact .inl ⟨_, rfl, rfl⟩
    | i n => exact .inl ⟨_, rfl, rfl⟩
    | a c2 =>
      have h1 : c1 ∈ cells := hx
      have h2 : c2 ∈ cells := hy
      obtain ⟨n1, e1, _⟩ := F.pls c1 h1
      obtain ⟨n2, e2, _⟩ := F.pls c2 h2
      obtain ⟨m1, d1, _⟩ := F'.pls c1 h1
      obtain ⟨m2, d2, _⟩ := F'.pls c2 h2
      dsimp only [W.cell]
      rw [I.pl, J.pl, e1, e2, d1, d2]
      show (∃ k, some (decide (n1 = n2)) = some k ∧ some (decide (m1 = m2)) = some k) ∨ (some (decide (n1 = n2)) = some false ∧ some (decide (m1 = m2)) = some true ∧ _)
      by_cases q : c1 = c2
      · subst q
        rw [e1] at e2
        rw [d1] at d2
        rw [decide_eq_true (Option.some.inj e2), decide_eq_true (Option.some.inj d2)]
        exact .inl ⟨_, rfl, rfl⟩
      · have n12 : ¬ n1 = n2 := fun z => q (T.inj c1 h1 c2 h2 (by rw [e1, e2, z]))
        rw [decide_eq_false n12]
        by_cases m12 : m1 = m2
        · rw [decide_eq_true m12]
          rcases T.lay c1 h1 c2 h2 (by rw [d1, d2, m12]) with z | z
          · exact absurd z q
          · exact .inr ⟨rfl, rfl, c1, c2, rfl, rfl, q, z.1, z.2⟩
        · rw [decide_eq_false m12]
          exact .inl ⟨_, rfl, rfl⟩
theorem line_sim (F : FC R cells pl) (F' : FC R cells pl') (T : Two lot cells pl pl') (I : RInv R cells pl M) (J : RInv R cells pl' N) (h : Rel lot cells M N hd last) {m : RowM} {xs : List Int} (hx : ∀ x ∈ xs, x.natAbs < 10 ^ 60) {l : Nat} (V : RowV R cells l m) : SimO R lot cells hd last (lineM m M xs) (lineM m N xs) := by
  have hl := h.line
  cases V with
  | deed d a hh ha =>
    cases d with
    | input c =>
      have cc := hh c (by simp [Deed.names])
      show SimO R lot cells hd last (lineM ⟨"input", [c], a, 0⟩ M xs) (lineM ⟨"input", [c], a, 0⟩ N xs)
      rw [line_input, line_input]
      cases xs with
      | nil => exact SimO.none_ h.stop
      | cons v r =>
        obtain ⟨n, n', q1, q2, _, _, q5⟩ := h.wr F F' T I J cc (show (W.i v).inC cells from hx v (by simp))
        unfold inputM
        dsimp only
        rw [q1, q2, ← hl]
        exact SimO.write (q5.go _)
    | copy s t =>
      show SimO R lot cells hd last (lineM ⟨"copy", [s, t], a, 0⟩ M xs) (lineM ⟨"copy", [s, t], a, 0⟩ N xs)
      rw [line_copy, line_copy]
      obtain ⟨e1, M', e2, N', t1, t2, t3⟩ := tr_sim F F' T I J h (m := ⟨"copy", [s, t], a, 0⟩) (hh s (by simp [Deed.names])) (hh t (by simp [Deed.names]))
      unfold copyM
      dsimp only
      rw [t1, t2]
      exact ⟨_, _, _, _, _, _, rfl, rfl, t3 xs⟩
    | point p t =>
      show SimO R lot cells hd last (lineM ⟨"point", [p, t], a, 0⟩ M xs) (lineM ⟨"point", [p, t], a, 0⟩ N xs)
      rw [line_point, line_point]
      obtain ⟨n, n', q1, q2, _, _, q5⟩ := h.wr F F' T I J (hh p (by simp [Deed.names])) (show (W.a t).inC cells from hh t (by simp [Deed.names]))
      unfold pointM
      dsimp only
      rw [q1, q2, ← hl]
      exact SimO.write (q5.go _)
    | load t p =>
      show SimO R lot cells hd last (lineM ⟨"load", [t, p], a, 0⟩ M xs) (lineM ⟨"load", [t, p], a, 0⟩ N xs)
      rw [line_load, line_load]
      obtain ⟨x, x', h1, h2, h3, h4, h5⟩ := h.rd F F' I J (hh p (by simp [Deed.names])) M.line
      have shape : ∀ {M : RunM} {pl : List (Str × Nat)}, FC R cells pl → RInv R cells pl M → ∀ x, worthM M p = some x → x.inC cells → ∃ e M' ys, loadM ⟨"load", [t, p], a, 0⟩ M xs = some (.rd M.line p x :: e, M', ys) := fun {M pl} F I x h1 h3 => by
        unfold loadM
        dsimp only
        rw [h1]
        cases x with
        | un => exact ⟨_, _, _, rfl⟩
        | i n => exact ⟨_, _, _, rfl⟩
        | a s =>
          obtain ⟨x, n, e1, e2, e3, e4, _⟩ := tr_done F I (m := ⟨"load", [t, p], a, 0⟩) (show s ∈ cells from h3) (hh t (by simp [Deed.names]))
          dsimp only [Option.bind, W.cell]
          rw [e3]
          exact ⟨_, _, _, rfl⟩
      rcases h5 with h5 | ⟨rfl, h5⟩
      · obtain ⟨e, M', ys, z1⟩ := shape F I x h1 h3
        obtain ⟨e', N', zs, z2⟩ := shape F' J x' h2 h4
        rw [z1, z2, ← hl]
        exact ⟨_, _, _, _, _, _, rfl, rfl, .inl fun pp r1 r2 => h5 _ _ _⟩
      · unfold loadM
        dsimp only
        rw [h1, h2, ← hl]
        cases x' with
        | un => exact ⟨_, _, _, _, _, _, rfl, rfl, SimO.stopRd h h5⟩
        | i n => exact ⟨_, _, _, _, _, _, rfl, rfl, SimO.stopRd h h5⟩
        | a s =>
          obtain ⟨e1, M', e2, N', t1, t2, t3⟩ := tr_sim F F' T I J h (m := ⟨"load", [t, p], a, 0⟩) (show s ∈ cells from h3) (hh t (by simp [Deed.names]))
          dsimp only [Option.bind, W.cell]
          rw [t1, t2]
          exact ⟨_, _, _, _, _, _, rfl, rfl, SimO.behind (t3 xs) h5⟩
    | store s p =>
      show SimO R lot cells hd last (lineM ⟨"store", [s, p], a, 0⟩ M xs) (lineM ⟨"store", [s, p], a, 0⟩ N xs)
      rw [line_store, line_store]
      obtain ⟨x, x', h1, h2, h3, h4, h5⟩ := h.rd F F' I J (hh p (by simp [Deed.names])) M.line
      have shape : ∀ {M : RunM} {pl : List (Str × Nat)}, FC R cells pl → RInv R cells pl M → ∀ x, worthM M p = some x → x.inC cells → ∃ e M' ys, storeM ⟨"store", [s, p], a, 0⟩ M xs = some (.rd M.line p x :: e, M', ys) := fun {M pl} F I x h1 h3 => by
        unfold storeM
        dsimp only
        rw [h1]
        cases x with
        | un => exact ⟨_, _, _, rfl⟩
        | i n => exact ⟨_, _, _, rfl⟩
        | a t =>
          obtain ⟨x, n, e1, e2, e3, e4, _⟩ := tr_done F I (m := ⟨"store", [s, p], a, 0⟩) (hh s (by simp [Deed.names])) (show t ∈ cells from h3)
          dsimp only [Option.bind, W.cell]
          rw [e3]
          exact ⟨_, _, _, rfl⟩
      rcases h5 with h5 | ⟨rfl, h5⟩
      · obtain ⟨e, M', ys, z1⟩ := shape F I x h1 h3
        obtain ⟨e', N', zs, z2⟩ := shape F' J x' h2 h4
        rw [z1, z2, ← hl]
        exact ⟨_, _, _, _, _, _, rfl, rfl, .inl fun pp r1 r2 => h5 _ _ _⟩
      · unfold storeM
        dsimp only
        rw [h1, h2, ← hl]
        cases x' with
        | un => exact ⟨_, _, _, _, _, _, rfl, rfl, SimO.stopRd h h5⟩
        | i n => exact ⟨_, _, _, _, _, _, rfl, rfl, SimO.stopRd h h5⟩
        | a t =>
          obtain ⟨e1, M', e2, N', t1, t2, t3⟩ := tr_sim F F' T I J h (m := ⟨"store", [s, p], a, 0⟩) (hh s (by simp [Deed.names])) (show t ∈ cells from h3)
          dsimp only [Option.bind, W.cell]
          rw [t1, t2]
          exact ⟨_, _, _, _, _, _, rfl, rfl, SimO.behind (t3 xs) h5⟩
    | use c =>
      show SimO R lot cells hd last (lineM ⟨"use", [c], a, 0⟩ M xs) (lineM ⟨"use", [c], a, 0⟩ N xs)
      rw [line_use, line_use]
      obtain ⟨x, x', h1, h2, h3, h4, h5⟩ := h.rd F F' I J (hh c (by simp [Deed.names])) M.line
      unfold useM
      dsimp only
      rw [h1, h2, ← hl]
      rcases h5 with h5 | ⟨rfl, h5⟩
      · exact ⟨_, _, _, _, _, _, rfl, rfl, .inl fun pp r1 r2 => h5 _ _ _⟩
      · exact ⟨_, _, _, _, _, _, rfl, rfl, .inr ⟨rfl, _, _, h.go _, fun pp r1 r2 z => h5 _ _ _ z⟩⟩
    | call p =>
      show SimO R lot cells hd last (lineM ⟨"call", [p], a, 0⟩ M xs) (lineM ⟨"call", [p], a, 0⟩ N xs)
      rw [line_call, line_call]
      obtain ⟨x, x', h1, h2, h3, h4, h5⟩ := h.rd F F' I J (hh p (by simp [Deed.names])) M.line
      unfold callM
      dsimp only
      rw [h1, h2, ← hl]
      rcases h5 with h5 | ⟨rfl, h5⟩
      · exact ⟨_, _, _, _, _, _, rfl, rfl, .inl fun pp r1 r2 => h5 _ _ _⟩
      · have q := h.learn x'
        exact ⟨_, _, _, _, _, _, rfl, rfl, .inr ⟨rfl, _, _, ⟨q.line, rfl, q.known, q.own, q.out, q.inn, q.lst⟩, fun pp r1 r2 z => h5 _ _ _ z⟩⟩
  | op o ho a b hh ha hb =>
    cases o with
    | block => exact absurd rfl ho
    | loop =>
      show SimO R lot cells hd last (lineM ⟨"loop", [], a, b⟩ M xs) (lineM ⟨"loop", [], a, b⟩ N xs)
      rw [line_loop, line_loop]
      cases xs with
      | nil => exact SimO.none_ h.stop
      | cons v r => exact SimO.none_ (h.go _)
    | maybe =>
      show SimO R lot cells hd last (lineM ⟨"maybe", [], a, b⟩ M xs) (lineM ⟨"maybe", [], a, b⟩ N xs)
      rw [line_maybe, line_maybe]
      cases xs with
      | nil => exact SimO.none_ h.stop
      | cons v r => exact SimO.none_ (h.go _)
    | same c d =>
      show SimO R lot cells hd last (lineM ⟨"same", [c, d], a, b⟩ M xs) (lineM ⟨"same", [c, d], a, b⟩ N xs)
      rw [line_same, line_same]
      obtain ⟨x, x', h1, h2, h3, h4, h5⟩ := h.rd F F' I J (hh c (by simp [Op.names])) M.line
      obtain ⟨y, y', g1, g2, g3, g4, g5⟩ := h.rd F F' I J (hh d (by simp [Op.names])) M.line
      have some_ : ∀ {M : RunM} {pl : List (Str × Nat)}, FC R cells pl → RInv R cells pl M → ∀ x y : W, x.inC cells → y.inC cells → ∃ k, sameM M x y = some k := fun {M pl} F I x y h3 h5 => by
        unfold sameM
        cases x with
        | un => exact ⟨_, rfl⟩
        | i n => exact ⟨_, rfl⟩
        | a c1 =>
          cases y with
          | un => exact ⟨_, rfl⟩
          | i n => exact ⟨_, rfl⟩
          | a c2 =>
            obtain ⟨n1, hn1, _⟩ := F.pls c1 h3
            obtain ⟨n2, hn2, _⟩ := F.pls c2 h5
            exact ⟨decide (n1 = n2), by dsimp only [W.cell]; rw [I.pl, hn1, hn2]; rfl⟩
      unfold sameLM
      dsimp only
      rw [h1, h2, ← hl]
      dsimp only [Option.bind]
      rw [g1, g2]
      dsimp only [Option.bind]
      rcases h5 with h5 | ⟨rfl, h5⟩
      · obtain ⟨k, e1⟩ := some_ F I x y h3 g3
        obtain ⟨k', e2⟩ := some_ F' J x' y' h4 g4
        rw [e1, e2]
        exact ⟨_, _, _, _, _, _, rfl, rfl, .inl fun pp r1 r2 => h5 _ _ _⟩
      rcases g5 with g5 | ⟨rfl, g5⟩
      · obtain ⟨k, e1⟩ := some_ F I x' y h3 g3
        obtain ⟨k', e2⟩ := some_ F' J x' y' h4 g4
        rw [e1, e2]
        exact ⟨_, _, _, _, _, _, rfl, rfl, .inl fun pp r1 r2 => h5 _ _ _ (g5 _ _ _)⟩
      rcases same_two F F' T I J h3 g3 with ⟨k, e1, e2⟩ | ⟨e1, e2, a', b', rfl, rfl, hn, ma, mb⟩
      · rw [e1, e2]
        exact ⟨_, _, _, _, _, _, rfl, rfl, .inr ⟨rfl, _, _, h.go _, fun pp r1 r2 z => h5 _ _ _ (g5 _ _ _ (.smSame z))⟩⟩
      · rw [e1, e2]
        exact ⟨_, _, _, _, _, _, rfl, rfl, .inl fun pp r1 r2 => h5 _ _ _ (g5 _ _ _ (.smDiff ma mb hn))⟩
theorem go_step {f : Nat} {xs : List Int} {evs : List Ev} (hl : M.line ≠ 0) (hg : goM R f M xs = some evs) {m : RowM} (hm : R[M.line]? = some m) {e1 : List Ev} {M' : RunM} {ys : List Int} (ha : advM m M xs = some (e1, M', ys)) : ∃ f' r, goM R f' M' ys = some r ∧ evs = e1 ++ r := by
  cases f with
  | zero => cases hg
  | succ f =>
    have hg' : (if M.line = 0 then some [] else (match R[M.line]? with
      | some m => if okG m M xs = true then (advM m M xs).bind fun r => (goM R f r.2.1 r.2.2).map (r.1 ++ ·) else none
      | none => none)) = some evs := hg
    rw [if_neg hl, hm] at hg'
    dsimp only at hg'
    split at hg'
    · rw [ha] at hg'
      have : (goM R f M' ys).map (e1 ++ ·) = some evs := hg'
      obtain ⟨r, h1, h2⟩ := Option.map_eq_some_iff.mp this
      exact ⟨f, r, h1, h2.symm⟩
    · cases hg'
theorem sim_all (F : FC R cells pl) (F' : FC R cells pl') (T : Two lot cells pl pl') : ∀ (k : Nat) (M N : RunM) (xs : List Int) (hd : Kvs) (last : Option Str) (pp : List Ev) (f1 f2 : Nat) (evs evs' : List Ev), RInv R cells pl M → RInv R cells pl' N → Rel lot cells M N hd last → (∀ x ∈ xs, x.natAbs < 10 ^ 60) → xs.length ≤ 1000000 → Pot R M xs ≤ k →
    goM R f1 M xs = some evs → goM R f2 N xs = some evs' → Holds lot hd last pp evs evs' := by
  intro k
  induction k with
  | zero =>
    intro M N xs hd last pp f1 f2 evs evs' I J h hx hxl hp g1 g2
    by_cases hl : M.line = 0
    · have e : ∀ {M : RunM} {f : Nat} {evs : List Ev}, M.line = 0 → goM R f M xs = some evs → evs = [] := fun {M f evs} hl g => by
        cases f with
        | zero => cases g
        | succ f =>
          have g' : (if M.line = 0 then some [] else _) = some evs := g
          rw [if_pos hl] at g'
          exact (Option.some.inj g').symm
      rw [e hl g1, e (h.line.symm.trans hl) g2]
      exact .fin
    · obtain ⟨_, m, hm, _⟩ := I.ln.resolve_left hl
      have := pot_pos (R := R) (xs := xs) hl (List.getElem?_eq_some_iff.mp hm).1
      omega
  | succ k ih =>
    intro M N xs hd last pp f1 f2 evs evs' I J h hx hxl hp g1 g2
    by_cases hl : M.line = 0
    · have e : ∀ {M : RunM} {f : Nat} {evs : List Ev}, M.line = 0 → goM R f M xs = some evs → evs = [] := fun {M f evs} hl g => by
        cases f with
        | zero => cases g
        | succ f =>
          have g' : (if M.line = 0 then some [] else _) = some evs := g
          rw [if_pos hl] at g'
          exact (Option.some.inj g').symm
      rw [e hl g1, e (h.line.symm.trans hl) g2]
      exact .fin
    have hl' : N.line ≠ 0 := by rw [← h.line]; exact hl
    obtain ⟨m, hm, _, V, ev1, M', ys, a1, D1⟩ := step_done F I hx hxl hl
    obtain ⟨m', hm', _, _, ev2, N', zs, a2, D2⟩ := step_done F' J hx hxl hl'
    rw [← h.line, hm] at hm'
    cases hm'
    obtain ⟨f1', r1, q1, rfl⟩ := go_step hl g1 hm a1
    obtain ⟨f2', r2, q2, rfl⟩ := go_step hl' g2 (by rw [← h.line]; exact hm) a2
    have S : SimO R lot cells hd last (advM m M xs) (advM m N xs) := by
      unfold advM
      rw [← h.cal]
      by_cases c : M.calling = true
      · rw [if_pos c, if_pos c]
        exact act_sim F F' T I J h hx
      · rw [if_neg c, if_neg c]
        exact line_sim F F' T I J h hx V
    obtain ⟨_, _, _, _, _, _, b1, b2, S⟩ := S
    rw [a1] at b1
    rw [a2] at b2
    cases b1
    cases b2
    rcases S with S | ⟨rfl, hd', last', h', S⟩
    · exact S _ _ _
    · exact S _ _ _ (ih M' N' ys hd' last' _ f1' f2' r1 r2 D1.inv D2.inv h' (fun y hy => hx y (D1.ys.2 y hy)) (Nat.le_trans D1.ys.1 hxl) (by have := D1.pot; omega) q1 q2)
end
end FP
set_option Elab.async false
set_option linter.all false
set_option maxRecDepth 100000
set_option maxHeartbeats 4000000
namespace FP
open PySem PySem.Spec PyProof.Rows L2 TL
section
variable {P : Program} {w : World} {K : PySem.W.Frag} {mg : Str → Option Value} {base : Heap} {Cn Cc Cr : Addr}
/-- the methods of Run and Choices -/
structure RunDefs (P : Program) (w : World) (K : PySem.W.Frag) (mg : Str → Option Value) (base : Heap) (Cn Cc Cr : Addr) : Prop where
  take : MDef P w K mg base Cc "take" 1 ["self"] (spTake Cn Cc)
  worth : MDef P w K mg base Cn "worth" 1 ["self", "cell"] (spWorth Cn)
  read : MDef P w K mg base Cn "read" 2 ["self", "cell"] (spReadC Cn)
  write : MDef P w K mg base Cn "write" 1 ["self", "cell", "worth"] (spWriteC Cn)
  stop : MDef P w K mg base Cn "stop" 1 ["self"] (spStop Cn Cc)
  leave : MDef P w K mg base Cn "leave_call" 1 ["self", "row"] (spLeave Cn Cc Cr)
  learn : MDef P w K mg base Cn "learn" 2 ["self", "worth"] (spLearn Cn Cc)
  same : MDef P w K mg base Cn "finds_same" 2 ["self", "worth", "other"] (spSameW Cn Cc)
  cellAt : Def P w K mg base "cell_at" 1 ["worth"] spCellAt
/-- what a line's def keeps -/
structure RowIn (Cn Cc Cr : Addr) (H : Hp) (q : Rt) (c : Ct) (row : Addr) (m : RowM) (M : RunM) (xs : List Int) : Prop where
  bt : BtAt Cn Cc H q c M xs
  rat : RowAt Cr H row m
  ne : row ≠ q.r
  xl : xs.length ≤ 1000000
  ok : RunOk M
  nl : ∀ x ∈ m.names, x.length ≤ 1000
theorem RowIn.to {Cn Cc Cr : Addr} {H H' : Hp} {q : Rt} {c : Ct} {row : Addr} {m : RowM} {M M' : RunM} {xs ys : List Int} (R : RowIn Cn Cc Cr H q c row m M xs) (A : BtAt Cn Cc H' q c M' ys) (b : But3 q c H H') (ok : RunOk M') (hl : ys.length ≤ 1000000) : RowIn Cn Cc Cr H' q c row m M' ys :=
  ⟨A, R.rat.but R.bt R.ne b, R.ne, hl, ok, R.nl⟩
theorem RowIn.ev {Cn Cc Cr : Addr} {H : Hp} {q : Rt} {c : Ct} {row : Addr} {m : RowM} {M : RunM} {xs : List Int} (R : RowIn Cn Cc Cr H q c row m M xs) : ∃ dw t, H row = some (.ins Cr dw (rowF m t)) ∧ H t = some (.tup (m.names.map V.str)) := R.rat
def DoK0 (Cn Cc : Addr) (H : Hp) (q : Rt) (c : Ct) (evs : List Ev) (M' : RunM) (ys : List Int) (Q : VK) : Prop := ∀ e H', H e = none → EvAt H' e evs → BtAt Cn Cc H' q c M' ys → But3 q c H H' → Q (.ref e) H'
def DoK (Cn Cc : Addr) (H : Hp) (q : Rt) (c : Ct) (evs : List Ev) (M' : RunM) (ys : List Int) (Q : VK) : Prop := ∀ c' e H', Kin c c' H → H e = none → EvAt H' e evs → BtAt Cn Cc H' q c' M' ys → But3 q c H H' → Q (.ref e) H'
theorem DoK.zero {Cn Cc : Addr} {H : Hp} {q : Rt} {c : Ct} {evs : List Ev} {M' : RunM} {ys : List Int} {Q : VK} (k : DoK Cn Cc H q c evs M' ys Q) : DoK0 Cn Cc H q c evs M' ys Q := fun e H' a b d f => k c e H' (Kin.refl _ _) a b d f
/-- one line done -/
def spDo (Cn Cc Cr : Addr) (F : StepM) : Sp := fun vs H Q _ => ∃ (q : Rt) (c : Ct) (row : Addr) (M : RunM) (xs : List Int) (m : RowM) (evs : List Ev) (M' : RunM) (ys : List Int), vs = [.ref q.r, .ref row, .ref c.c] ∧ RowIn Cn Cc Cr H q c row m M xs ∧
  F m M xs = some (evs, M', ys) ∧ DoK Cn Cc H q c evs M' ys Q
def spTrans (Cn Cc Cr : Addr) : Sp := fun vs H Q _ => ∃ (q : Rt) (c : Ct) (row : Addr) (M : RunM) (xs : List Int) (m : RowM) (s t : Str) (evs : List Ev) (M' : RunM), vs = [.ref q.r, .ref row, .str s, .str t] ∧ RowIn Cn Cc Cr H q c row m M xs ∧
  trM m M s t = some (evs, M') ∧ DoK0 Cn Cc H q c evs M' xs Q
/-- the end of most of them: the new list of the events, the next line, the list told -/
theorem nl_none {H : Hp} {e : Addr} {xs : List V} {o : HO} (he : H e = none) : Same H (upd H e o) := Same.new (Same.refl H) he
abbrev nTf : List Str := ["run", "row", "source", "target", "events"]
theorem scTf : FnScope nTf ["run", "row", "source", "target"] (defScope sTransfer) := ⟨rfl, rfl, rfl, by decide +kernel, rfl, by decide +kernel, by decide +kernel⟩
/-- from the heap with the events' tuples to the end -/
theorem set_line {H H1 : Hp} {q : Rt} {c : Ct} {evs : List Ev} {M1 : RunM} {ys : List Int} {Q : VK} {n : Nat} {ts : List Addr} {e d : Addr} (kk : DoK0 Cn Cc H q c evs (goR M1 n) ys Q) (A1 : BtAt Cn Cc H1 q c M1 ys) (b1 : But3 q c H H1) (tt : Tups H1 ts evs) (he : H1 e = none)
    (er : (upd H1 e (.lst (ts.map V.ref))) q.r = some (.ins Cn d (rnF M1 q c.k))) :
    Q (.ref e) (upd (upd H1 e (.lst (ts.map V.ref))) q.r (.ins Cn d (rnF (goR M1 n) q c.k))) := by
  have S : Same H1 (upd H1 e (.lst (ts.map V.ref))) := Same.new (Same.refl H1) he
  have A2 := A1.grow S
  have A3 := A2.setR (dx := d) (M' := goR M1 n) rfl rfl rfl
  have ne : e ≠ q.r := fun z => by
    obtain ⟨d9, e9⟩ := A1.r
    rw [z, e9] at he; cases he
  refine kk e _ (but_none A1 b1 he) ⟨ts, (upd_ne ne).trans upd_same, tt.mono fun t xs et => (upd_ne (ne_of (S _ _ et) er (by intro z; cases z))).trans (S _ _ et)⟩ A3 (b1.trans ((But3.same S).trans But3.r))
theorem ok_transfer {f : Addr} {fd : FuncData} (F : Fun K "_transfer" "_transfer" sTransfer f fd) (T : RnTxt K mg Cn Cc) (TR : RwTxt K Cr) (D : RunDefs P w K mg base Cn Cc Cr) : FnOk P w K mg base CX0 3 f fd ["run", "row", "source", "target"] (spTrans Cn Cc Cr) := by
  obtain ⟨fW, fdW, mW, bW, GW⟩ := D.write.ex
  obtain ⟨fR, fdR, mR, bR, GR⟩ := D.read.ex
  obtain ⟨fO, fdO, mO, bO, GO⟩ := D.worth.ex
  refine F.ok scTf (fun vs H Q E h => ?_) (fun cdv A outer s H vs Q E hr h => ?_)
  · obtain ⟨q, c, row, M, xs, m, s, t, evs, M', rfl, _⟩ := h
    rfl
  obtain ⟨q, c, row, M, xs, m, s, t, evs, M', rfl, R0, hF, k⟩ := h
  have hr1 := hr.mono (show 1 ≤ 2 by decide)
  refine ⟨_, pss_cons (ps_set (i := 4) scTf.nd rfl (.inl rfl) (pe_lst (pa_cons (pe_meth (pv 0) T.cn mR GR hr bR .nil pass0 (pa_cons (pv 2) pa_nil)) (pa_cons (pe_meth (pv 0) T.cn mW GW hr1 bW .nil pass0 (pa_cons (pv 3) (pa_cons (pe_meth (pv 0) T.cn mO GO hr1 bO .nil pass0 (pa_cons (pv 2) pa_nil)) pa_nil))) pa_nil))))
    (pss_cons (ps_fld (pv 0) (pe_fld (pv 1) rfl) rfl) (pss_one (ps_ret (pv 4)))), ?_⟩
  obtain ⟨x, hx, hF⟩ := Option.bind_eq_some_iff.mp hF
  obtain ⟨M1, hw, hF⟩ := Option.map_eq_some_iff.mp hF
  cases hF
  obtain ⟨dr, er⟩ := R0.bt.r
  refine ⟨_, rfl, q.r, dr, _, rfl, er, rfl, _, rfl, tNil_i ?_⟩
  refine use_read R0.bt hx fun t1 H1 n1 e1 A1 S1 => ?_
  refine ⟨_, rfl, q.r, dr, _, rfl, S1 _ _ er, rfl, _, rfl, _, rfl, q.r, dr, _, rfl, S1 _ _ er, rfl, _, rfl, tNil_i ?_⟩
  refine use_worth A1 hx ?_
  refine tNil_i ?_
  refine use_write A1 rfl hw R0.ok.hl fun t2 H2 n2 e2 A2 b2 => ⟨sz1000 (by show 2 ≤ 1000; decide), fun e he => ?_⟩
  have S3 : Same H2 (upd H2 e (.lst [V.ref t1, .ref t2])) := Same.new (Same.refl H2) he
  have A3 := A2.grow S3
  obtain ⟨d3, er3⟩ := A3.r
  have b12 := (But3.same S1).trans b2
  obtain ⟨dw, tw, ew, _⟩ := (R0.rat.but R0.bt R0.ne (b12.trans (But3.same S3)))
  refine ⟨_, rfl, row, Cr, dw, _, _, rfl, ew, TR.cr, TR.ra, lkR3 m tw, _, rfl, q.r, Cn, d3, _, rfl, er3, T.cn, T.nl, (by show 5 < 1000; decide), _, rfl, ?_⟩
  exact set_line (ts := [t1, t2]) k A2 b12 ⟨tup_but A1 b2 e1, e2, trivial⟩ he er3
/-! ### the lines -/
theorem scDI : FnScope ["run", "row", "choices", "choice", "events"] ["run", "row", "choices"] (defScope sDoInput) := ⟨rfl, rfl, rfl, by decide +kernel, rfl, by decide +kernel, by decide +kernel⟩
theorem no_events {H H1 : Hp} {q : Rt} {c : Ct} {M' : RunM} {ys : List Int} {Q : VK} (k : DoK0 Cn Cc H q c [] M' ys Q) (A1 : BtAt Cn Cc H1 q c M' ys) (b1 : But3 q c H H1) (e : Addr) (he : H1 e = none) : Q (.ref e) (upd H1 e (.lst [])) :=
  k e _ (but_none A1 b1 he) ⟨[], upd_same, trivial⟩ (A1.grow (Same.new (Same.refl H1) he)) (b1.trans (But3.same (Same.new (Same.refl H1) he)))
theorem ok_doInput {f : Addr} {fd : FuncData} (F : Fun K "_do_input" "_do_input" sDoInput f fd) (T : RnTxt K mg Cn Cc) (TR : RwTxt K Cr) (D : RunDefs P w K mg base Cn Cc Cr) : FnOk P w K mg base CX0 4 f fd ["run", "row", "choices"] (spDo Cn Cc Cr inputM) := by
  obtain ⟨fT, fdT, mT, bT, GT⟩ := D.take.ex
  obtain ⟨fS, fdS, mS, bS, GS⟩ := D.stop.ex
  obtain ⟨fW, fdW, mW, bW, GW⟩ := D.write.ex
  refine F.ok scDI (fun vs H Q E h => ?_) (fun cdv A outer s H vs Q E hr h => ?_)
  · obtain ⟨q, c, row, M, xs, m, evs, M', ys, rfl, _⟩ := h
    rfl
  obtain ⟨q, c, row, M, xs, m, evs, M', ys, rfl, R0, hF, k⟩ := h
  obtain ⟨dr, er⟩ := R0.bt.r
  obtain ⟨dc, ec⟩ := R0.bt.ch
  have hr1 := hr.mono (show 1 ≤ 3 by decide)
  refine ⟨_, pss_cons (ps_set (i := 3) scDI.nd rfl (.inl rfl) (pe_meth0 (pv 2) T.cc mT GT hr1 bT .nil pass0))
    (pss_cons (ps_if (pt_cmpR op_isN (pv 3) pe_non (nomark _)) (pss_cons (ps_expr (pe_meth0 (pv 0) T.cn mS GS hr1 bS .nil pass0)) (pss_one (ps_ret (pe_lst pa_nil)))) pss_nil)
    (pss_cons (ps_set (i := 4) scDI.nd rfl (.inl rfl) (pe_lst (pa_cons (pe_meth (pv 0) T.cn mW GW hr1 bW .nil pass0 (pa_cons (pe_ix ix_tup (pe_fld (pv 1) rfl) pe_int (fun _ _ => rfl)) (pa_cons (pv 3) pa_nil))) pa_nil)))
    (pss_cons (ps_fld (pv 0) (pe_fld (pv 1) rfl) rfl) (pss_one (ps_ret (pv 4)))))), ?_⟩
  refine ⟨_, rfl, c.c, dc, _, rfl, ec, rfl, tNil_i ?_⟩
  refine use_take R0.bt R0.xl (fun hx => ?_) fun x r H1 hx A1 b1 => ?_
  · subst hx
    cases hF
    refine ⟨_, rfl, rfl, _, rfl, iteT ⟨_, rfl, q.r, dr, _, rfl, er, rfl, tNil_i ?_⟩⟩
    exact use_stop R0.bt fun H1 A1 b1 => ⟨Nat.zero_le _, fun e he => no_events k.zero A1 b1 e he⟩
  · subst hx
    unfold inputM at hF
    dsimp only at hF
    split at hF
    · rename_i cc hc
      obtain ⟨M1, hw, hF⟩ := Option.map_eq_some_iff.mp hF
      cases hF
      obtain ⟨d1, e1⟩ := A1.r
      obtain ⟨dw, t, ew, et⟩ := R0.rat.but R0.bt R0.ne b1
      rw [hc] at et
      refine ⟨_, rfl, rfl, _, rfl, iteF ⟨_, rfl, q.r, d1, _, rfl, e1, rfl, _, rfl, row, Cr, dw, _, _, rfl, ew, TR.cr, TR.rn, lkR2 m t, t, _, _, V.str cc, rfl, rfl, SqT.of et, atI_nat (j := 0) rfl, _, rfl, ?_⟩⟩
      refine tNil_i ?_
      refine use_write (x := .i x) A1 rfl hw R0.ok.hl fun t1 H2 n2 e2 A2 b2 => ⟨sz1000 (by show 1 ≤ 1000; decide), fun e he => ?_⟩
      have S3 : Same H2 (upd H2 e (.lst [V.ref t1])) := Same.new (Same.refl H2) he
      obtain ⟨d3, er3⟩ := (A2.grow S3).r
      obtain ⟨dw, tw, ew, _⟩ := R0.rat.but R0.bt R0.ne ((b1.trans b2).trans (But3.same S3))
      refine ⟨_, rfl, row, Cr, dw, _, _, rfl, ew, TR.cr, TR.ra, lkR3 m tw, _, rfl, q.r, Cn, d3, _, rfl, er3, T.cn, T.nl, (by show 5 < 1000; decide), _, rfl, ?_⟩
      exact set_line (ts := [t1]) k.zero A2 (b1.trans b2) ⟨e2, trivial⟩ he er3
    · cases hF
theorem scDC : FnScope ["run", "row", "choices", "source", "target"] ["run", "row", "choices"] (defScope sDoCopy) := ⟨rfl, rfl, rfl, by decide +kernel, rfl, by decide +kernel, by decide +kernel⟩
theorem ok_doCopy {f : Addr} {fd : FuncData} (F : Fun K "_do_copy" "_do_copy" sDoCopy f fd) (TR : RwTxt K Cr) (DT : Def P w K mg base "_transfer" 3 ["run", "row", "source", "target"] (spTrans Cn Cc Cr)) : FnOk P w K mg base CX0 4 f fd ["run", "row", "choices"] (spDo Cn Cc Cr copyM) := by
  obtain ⟨fT, fdT, gT, kT, bT, GT⟩ := DT.ex
  refine F.ok scDC (fun vs H Q E h => ?_) (fun cdv A outer s H vs Q E hr h => ?_)
  · obtain ⟨q, c, row, M, xs, m, evs, M', ys, rfl, _⟩ := h
    rfl
  obtain ⟨q, c, row, M, xs, m, evs, M', ys, rfl, R0, hF, k⟩ := h
  obtain ⟨dw, t, ew, et⟩ := R0.rat
  refine ⟨_, pss_cons (ps_asg (pe_fld (pv 1) rfl) (pg_tup (by rfl) (pgs_cons (pg_name (i := 3) scDC.nd rfl (.inl rfl)) (pgs_cons (pg_name (i := 4) scDC.nd rfl (.inl rfl)) pgs_nil))))
    (pss_one (ps_ret (pe_call GT hr rfl gT kT bT .nil pass0 (pa_cons (pv 0) (pa_cons (pv 1) (pa_cons (pv 3) (pa_cons (pv 4) pa_nil))))))), ?_⟩
  unfold copyM at hF
  split at hF
  · rename_i s1 t1 hn
    obtain ⟨⟨ev, M1⟩, hT, hF⟩ := Option.map_eq_some_iff.mp hF
    cases hF
    rw [hn] at et
    exact ⟨_, rfl, row, Cr, dw, _, _, rfl, ew, TR.cr, TR.rn, lkR2 m t, t, _, rfl, SqT.of et, rfl, _, _, rfl, _, _, rfl, rfl, _, rfl, _, rfl, _, rfl, _, rfl, q, c, row, M, xs, m, s1, t1, _, _, rfl, R0, hT, k.zero⟩
  · cases hF
theorem scDP : FnScope ["run", "row", "choices", "pointer", "target", "events"] ["run", "row", "choices"] (defScope sDoPoint) := ⟨rfl, rfl, rfl, by decide +kernel, rfl, by decide +kernel, by decide +kernel⟩
theorem ok_doPoint {f : Addr} {fd : FuncData} (F : Fun K "_do_point" "_do_point" sDoPoint f fd) (T : RnTxt K mg Cn Cc) (TR : RwTxt K Cr) (D : RunDefs P w K mg base Cn Cc Cr) : FnOk P w K mg base CX0 4 f fd ["run", "row", "choices"] (spDo Cn Cc Cr pointM) := by
  obtain ⟨fW, fdW, mW, bW, GW⟩ := D.write.ex
  refine F.ok scDP (fun vs H Q E h => ?_) (fun cdv A outer s H vs Q E hr h => ?_)
  · obtain ⟨q, c, row, M, xs, m, evs, M', ys, rfl, _⟩ := h
    rfl
  obtain ⟨q, c, row, M, xs, m, evs, M', ys, rfl, R0, hF, k⟩ := h
  obtain ⟨dw, t, ew, et⟩ := R0.rat
  obtain ⟨dr, er⟩ := R0.bt.r
  refine ⟨_, pss_cons (ps_asg (pe_fld (pv 1) rfl) (pg_tup (by rfl) (pgs_cons (pg_name (i := 3) scDP.nd rfl (.inl rfl)) (pgs_cons (pg_name (i := 4) scDP.nd rfl (.inl rfl)) pgs_nil))))
    (pss_cons (ps_set (i := 5) scDP.nd rfl (.inl rfl) (pe_lst (pa_cons (pe_meth (pv 0) T.cn mW GW (hr.mono (by decide)) bW .nil pass0 (pa_cons (pv 3) (pa_cons (pe_joined (.cons pe_str (.cons (pe_fmt (pv 4)) .nil))) pa_nil))) pa_nil)))
    (pss_cons (ps_fld (pv 0) (pe_fld (pv 1) rfl) rfl) (pss_one (ps_ret (pv 5))))), ?_⟩
  unfold pointM at hF
  split at hF
  · rename_i p1 t1 hn
    obtain ⟨M1, hw, hF⟩ := Option.map_eq_some_iff.mp hF
    cases hF
    have ht1 : t1.length ≤ 1000 := R0.nl t1 (by rw [hn]; simp)
    rw [hn] at et
    refine ⟨_, rfl, row, Cr, dw, _, _, rfl, ew, TR.cr, TR.rn, lkR2 m t, t, _, rfl, SqT.of et, rfl, _, _, rfl, _, _, rfl, rfl, ?_⟩
    refine ⟨_, rfl, q.r, dr, _, rfl, er, rfl, _, rfl, _, rfl, by decide, _, rfl, .inl ⟨t1, rfl, sz1000 ht1, _, rfl, ?_, ?_⟩⟩
    · exact Nat.le_trans (amp_len ht1) (by decide)
    refine tJs_i (tNil_i ?_)
    refine use_write (x := .a t1) R0.bt (congrArg V.str (amp_e t1)) hw R0.ok.hl fun t1 H2 n2 e2 A2 b2 => ⟨sz1000 (by show 1 ≤ 1000; decide), fun e he => ?_⟩
    have S3 : Same H2 (upd H2 e (.lst [V.ref t1])) := Same.new (Same.refl H2) he
    obtain ⟨d3, er3⟩ := (A2.grow S3).r
    obtain ⟨dw, tw, ew, _⟩ := R0.rat.but R0.bt R0.ne (b2.trans (But3.same S3))
    refine ⟨_, rfl, row, Cr, dw, _, _, rfl, ew, TR.cr, TR.ra, lkR3 m tw, _, rfl, q.r, Cn, d3, _, rfl, er3, T.cn, T.nl, (by show 5 < 1000; decide), _, rfl, ?_⟩
    exact set_line (ts := [t1]) k.zero A2 b2 ⟨e2, trivial⟩ he er3
  · cases hF
theorem scDU : FnScope ["run", "row", "choices", "events"] ["run", "row", "choices"] (defScope sDoUse) := ⟨rfl, rfl, rfl, by decide +kernel, rfl, by decide +kernel, by decide +kernel⟩
theorem ok_doUse {f : Addr} {fd : FuncData} (F : Fun K "_do_use" "_do_use" sDoUse f fd) (T : RnTxt K mg Cn Cc) (TR : RwTxt K Cr) (D : RunDefs P w K mg base Cn Cc Cr) : FnOk P w K mg base CX0 4 f fd ["run", "row", "choices"] (spDo Cn Cc Cr useM) := by
  obtain ⟨fR, fdR, mR, bR, GR⟩ := D.read.ex
  refine F.ok scDU (fun vs H Q E h => ?_) (fun cdv A outer s H vs Q E hr h => ?_)
  · obtain ⟨q, c, row, M, xs, m, evs, M', ys, rfl, _⟩ := h
    rfl
  obtain ⟨q, c, row, M, xs, m, evs, M', ys, rfl, R0, hF, k⟩ := h
  obtain ⟨dw, t, ew, et⟩ := R0.rat
  obtain ⟨dr, er⟩ := R0.bt.r
  refine ⟨_, pss_cons (ps_set (i := 3) scDU.nd rfl (.inl rfl) (pe_lst (pa_cons (pe_meth (pv 0) T.cn mR GR (hr.mono (by decide)) bR .nil pass0 (pa_cons (pe_ix ix_tup (pe_fld (pv 1) rfl) pe_int (fun _ _ => rfl)) pa_nil)) pa_nil)))
    (pss_cons (ps_fld (pv 0) (pe_fld (pv 1) rfl) rfl) (pss_one (ps_ret (pv 3)))), ?_⟩
  unfold useM at hF
  split at hF
  · rename_i cc hc
    obtain ⟨x, hx, hF⟩ := Option.map_eq_some_iff.mp hF
    cases hF
    rw [hc] at et
    refine ⟨_, rfl, q.r, dr, _, rfl, er, rfl, _, rfl, row, Cr, dw, _, _, rfl, ew, TR.cr, TR.rn, lkR2 m t, t, _, _, V.str cc, rfl, rfl, SqT.of et, atI_nat (j := 0) rfl, ?_⟩
    refine tNil_i ?_
    refine use_read R0.bt hx fun t1 H2 n2 e2 A2 S2 => ⟨sz1000 (by show 1 ≤ 1000; decide), fun e he => ?_⟩
    have S3 : Same H2 (upd H2 e (.lst [V.ref t1])) := Same.new (Same.refl H2) he
    obtain ⟨d3, er3⟩ := (A2.grow S3).r
    have S23 := S2.trans S3
    refine ⟨_, rfl, row, Cr, dw, _, _, rfl, S23 _ _ ew, TR.cr, TR.ra, lkR3 m t, _, rfl, q.r, Cn, d3, _, rfl, er3, T.cn, T.nl, (by show 5 < 1000; decide), _, rfl, ?_⟩
    exact set_line (ts := [t1]) k.zero A2 (But3.same S2) ⟨e2, trivial⟩ he er3
  · cases hF
end
end FP
set_option Elab.async false
set_option linter.all false
set_option maxRecDepth 100000
set_option maxHeartbeats 4000000
namespace FP
open PySem PySem.Spec PyProof.Rows L2 TL
theorem RunOk.worth {M : RunM} {c : Str} {x : W} (R : RunOk M) (h : worthM M c = some x) : x.ok := by
  obtain ⟨n, _, rfl⟩ := Option.map_eq_some_iff.mp h
  unfold worthAt
  cases e : heldOf M.held n with
  | none => exact trivial
  | some x => exact R.ok n x e
theorem learn_worth (M : RunM) (x : W) (c : Str) : worthM (learnM M x) c = worthM M c := by
  unfold learnM
  split
  · split <;> rfl
  · rfl
theorem learn_line (M : RunM) (x : W) : (learnM M x).line = M.line := by
  unfold learnM
  split
  · split <;> rfl
  · rfl
theorem cellV_none {x : W} (h : x.cell = none) : cellV x = .non := by cases x <;> first | rfl | cases h
theorem cellV_some {x : W} {c : Str} (h : x.cell = some c) : cellV x = .str c := by cases x <;> cases h; rfl
section
variable {P : Program} {w : World} {K : PySem.W.Frag} {mg : Str → Option Value} {base : Heap} {Cn Cc Cr : Addr}
/-- the events one behind the other -/
theorem load_end {H H3 H4 : Hp} {q : Rt} {c : Ct} {ev : Ev} {evs : List Ev} {M M' : RunM} {xs ys : List Int} {Q : VK} {t1 e e2 : Addr} (k : DoK0 Cn Cc H q c (ev :: evs) M' ys Q) (A3 : BtAt Cn Cc H3 q c M xs) (b3 : But3 q c H H3) (he : H e = none) (ee : H3 e = some (.lst [.ref t1])) (et : H3 t1 = some (.tup ev.v))
    (A4 : BtAt Cn Cc H4 q c M' ys) (b4 : But3 q c H3 H4) (hev : EvAt H4 e2 evs) (n2 : H3 e2 = none) (nk : e ≠ c.k) (nl : e ≠ c.l) (hlen : evs.length ≤ 1000) : rExtend (.ref e) [.ref e2] H4 fun _ H' => Q (.ref e) H' := by
  obtain ⟨ts, h1, h2⟩ := hev
  obtain ⟨dr, er⟩ := A3.r
  have er' : e ≠ q.r := ne_of ee er (by intro z; cases z)
  have eh' : e ≠ q.h := ne_of ee A3.h (by intro z; cases z)
  have e4 := b4 _ _ er' eh' nl ee
  refine ⟨e, e2, _, _, rfl, rfl, e4, h1, ?_, ?_⟩
  · rw [List.length_map, h2.len, sizeLine_eq]
    show 1 + evs.length ≤ 16777216
    omega
  · have A5 : BtAt Cn Cc (upd H4 e (.lst ([.ref t1] ++ ts.map V.ref))) q c M' ys := by
      obtain ⟨d, e9⟩ := A4.r
      obtain ⟨d2, e10⟩ := A4.ch
      exact ⟨⟨d, (upd_ne er'.symm).trans e9⟩, (upd_ne nk.symm).trans A4.k, A4.kl, (upd_ne (ne_of A4.p e4 (by intro z; cases z))).trans A4.p, (upd_ne eh'.symm).trans A4.h, A4.hp, ⟨d2, (upd_ne (ne_of e10 e4 (by intro z; cases z))).trans e10⟩, (upd_ne nl.symm).trans A4.ll, A4.rc⟩
    have tp : ∀ t xs, H4 t = some (.tup xs) → (upd H4 e (.lst ([.ref t1] ++ ts.map V.ref))) t = some (.tup xs) := fun t xs q => (upd_ne (ne_of q e4 (by intro z; cases z))).trans q
    refine k e _ he ⟨t1 :: ts, ?_, tp _ _ (tup_but A3 b4 et), h2.mono tp⟩ A5 fun b o n1 n2 n3 eb => ?_
    · rw [upd_same]; rfl
    · rw [upd_ne (ne_of_none eb he)]
      exact b4 b o n1 n2 n3 (b3 b o n1 n2 n3 eb)
theorem trM_len {m : RowM} {M M' : RunM} {s t : Str} {evs : List Ev} (h : trM m M s t = some (evs, M')) : evs.length ≤ 1000 := by
  obtain ⟨x, _, h⟩ := Option.bind_eq_some_iff.mp h
  obtain ⟨M1, _, h⟩ := Option.map_eq_some_iff.mp h
  cases h
  exact (by decide : 2 ≤ 1000)
abbrev nLo : List Str := ["run", "row", "choices", "target", "pointer", "source", "events"]
theorem scLo : FnScope nLo ["run", "row", "choices"] (defScope sDoLoad) := ⟨rfl, rfl, rfl, by decide +kernel, rfl, by decide +kernel, by decide +kernel⟩
theorem ok_doLoad {f : Addr} {fd : FuncData} (F : Fun K "_do_load" "_do_load" sDoLoad f fd) (T : RnTxt K mg Cn Cc) (TR : RwTxt K Cr) (D : RunDefs P w K mg base Cn Cc Cr) (DT : Def P w K mg base "_transfer" 3 ["run", "row", "source", "target"] (spTrans Cn Cc Cr)) :
    FnOk P w K mg base CX0 4 f fd ["run", "row", "choices"] (spDo Cn Cc Cr loadM) := by
  obtain ⟨fT, fdT, gT, kT, bT, GT⟩ := DT.ex
  obtain ⟨fC, fdC, gC, kC, bC, GC⟩ := D.cellAt.ex
  obtain ⟨fR, fdR, mR, bR, GR⟩ := D.read.ex
  obtain ⟨fO, fdO, mO, bO, GO⟩ := D.worth.ex
  obtain ⟨fS, fdS, mS, bS, GS⟩ := D.stop.ex
  refine F.ok scLo (fun vs H Q E h => ?_) (fun cdv A outer s H vs Q E hr h => ?_)
  · obtain ⟨q, c, row, M, xs, m, evs, M', ys, rfl, _⟩ := h
    rfl
  obtain ⟨q, c, row, M, xs, m, evs, M', ys, rfl, R0, hF, k⟩ := h
  obtain ⟨dw, t, ew, et⟩ := R0.rat
  obtain ⟨dr, er⟩ := R0.bt.r
  have hr1 := hr.mono (show 1 ≤ 3 by decide)
  have hr2 := hr.mono (show 2 ≤ 3 by decide)
  refine ⟨_, pss_cons (ps_asg (pe_fld (pv 1) rfl) (pg_tup (by rfl) (pgs_cons (pg_name (i := 3) scLo.nd rfl (.inl rfl)) (pgs_cons (pg_name (i := 4) scLo.nd rfl (.inl rfl)) pgs_nil))))
    (pss_cons (ps_set (i := 5) scLo.nd rfl (.inl rfl) (pe_call GC hr1 rfl gC kC bC .nil pass0 (pa_cons (pe_meth (pv 0) T.cn mO GO hr1 bO .nil pass0 (pa_cons (pv 4) pa_nil)) pa_nil)))
    (pss_cons (ps_set (i := 6) scLo.nd rfl (.inl rfl) (pe_lst (pa_cons (pe_meth (pv 0) T.cn mR GR hr2 bR .nil pass0 (pa_cons (pv 4) pa_nil)) pa_nil)))
    (pss_cons (ps_if (pt_cmpR op_isN (pv 5) pe_non (nomark _)) (pss_one (ps_expr (pe_meth0 (pv 0) T.cn mS GS hr1 bS .nil pass0)))
      (pss_one (ps_expr (pe_bm PySem.F.plainAttrs_list PySem.F.slot_list_extend PySem.F.type_list_extend mt_extend (pv 6) (pa_cons (pe_call GT hr rfl gT kT bT .nil pass0 (pa_cons (pv 0) (pa_cons (pv 1) (pa_cons (pv 5) (pa_cons (pv 3) pa_nil))))) pa_nil)))))
    (pss_one (ps_ret (pv 6)))))), ?_⟩
  unfold loadM at hF
  split at hF
  case h_2 => cases hF
  rename_i tg pt hn
  obtain ⟨x, hx, hF⟩ := Option.bind_eq_some_iff.mp hF
  rw [hn] at et
  refine ⟨_, rfl, row, Cr, dw, _, _, rfl, ew, TR.cr, TR.rn, lkR2 m t, t, _, rfl, SqT.of et, rfl, _, _, rfl, _, _, rfl, rfl, ?_⟩
  refine ⟨_, rfl, q.r, dr, _, rfl, er, rfl, _, rfl, tNil_i ?_⟩
  refine use_worth R0.bt hx (tNil_i ⟨x, rfl, R0.ok.worth hx, ?_⟩)
  refine ⟨_, rfl, q.r, dr, _, rfl, er, rfl, _, rfl, tNil_i ?_⟩
  refine use_read R0.bt hx fun t1 H2 n2 e2 A2 S2 => ⟨sz1000 (by show 1 ≤ 1000; decide), fun e he => ?_⟩
  have S3 : Same H2 (upd H2 e (.lst [V.ref t1])) := Same.new (Same.refl H2) he
  have A3 := A2.grow S3
  have S23 := S2.trans S3
  have ee : (upd H2 e (.lst [V.ref t1])) e = some (.lst [V.ref t1]) := upd_same
  have nk : e ≠ c.k := fun z => by rw [z, A2.k] at he; cases he
  have nl : e ≠ c.l := fun z => by rw [z, A2.ll] at he; cases he
  have he0 : H e = none := S2.free he
  generalize upd H2 e (.lst [V.ref t1]) = H3 at *
  cases hc : x.cell with
  | none =>
    rw [hc] at hF
    cases hF
    refine ⟨_, rfl, rfl, _, rfl, ?_⟩
    rw [cellV_none hc]
    obtain ⟨d3, e3⟩ := A3.r
    refine iteT ⟨_, rfl, q.r, d3, _, rfl, e3, rfl, tNil_i (use_stop A3 fun H4 A4 b4 => ⟨_, rfl, ?_⟩)⟩
    exact k.zero e H4 he0 ⟨[t1], b4 _ _ (ne_of ee e3 (by intro z; cases z)) (ne_of ee A3.h (by intro z; cases z)) nl ee, tup_but A3 b4 (S3 _ _ e2), trivial⟩ A4 ((But3.same S23).trans b4)
  | some sc =>
    rw [hc] at hF
    obtain ⟨⟨ev, M1⟩, hT, hF⟩ := Option.map_eq_some_iff.mp hF
    cases hF
    refine ⟨_, rfl, rfl, _, rfl, ?_⟩
    rw [cellV_some hc]
    refine iteF ⟨_, rfl, .inl ⟨rfl, _, SqL.of ee⟩, _, rfl, _, rfl, _, rfl, _, rfl, tNil_i ⟨q, c, row, M, xs, m, sc, tg, ev, _, rfl, R0.to A3 (But3.same S23) R0.ok R0.xl, hT, fun e4 H4 n4 hev A4 b4 => ?_⟩⟩
    have := load_end k.zero A3 (But3.same S23) he0 ee (S3 _ _ e2) A4 b4 hev n4 nk nl (trM_len hT)
    obtain ⟨l, b, xs1, zs, r1, r2, r3, r4, r5, r6⟩ := this
    exact ⟨l, b, xs1, zs, r1, r2, r3, r4, r5, _, rfl, r6⟩
abbrev nSt : List Str := ["run", "row", "choices", "source", "pointer", "target", "events"]
theorem scSo : FnScope nSt ["run", "row", "choices"] (defScope sDoStore) := ⟨rfl, rfl, rfl, by decide +kernel, rfl, by decide +kernel, by decide +kernel⟩
theorem ok_doStore {f : Addr} {fd : FuncData} (F : Fun K "_do_store" "_do_store" sDoStore f fd) (T : RnTxt K mg Cn Cc) (TR : RwTxt K Cr) (D : RunDefs P w K mg base Cn Cc Cr) (DT : Def P w K mg base "_transfer" 3 ["run", "row", "source", "target"] (spTrans Cn Cc Cr)) :
    FnOk P w K mg base CX0 4 f fd ["run", "row", "choices"] (spDo Cn Cc Cr storeM) := by
  obtain ⟨fT, fdT, gT, kT, bT, GT⟩ := DT.ex
  obtain ⟨fC, fdC, gC, kC, bC, GC⟩ := D.cellAt.ex
  obtain ⟨fR, fdR, mR, bR, GR⟩ := D.read.ex
  obtain ⟨fO, fdO, mO, bO, GO⟩ := D.worth.ex
  obtain ⟨fS, fdS, mS, bS, GS⟩ := D.stop.ex
  refine F.ok scSo (fun vs H Q E h => ?_) (fun cdv A outer s H vs Q E hr h => ?_)
  · obtain ⟨q, c, row, M, xs, m, evs, M', ys, rfl, _⟩ := h
    rfl
  obtain ⟨q, c, row, M, xs, m, evs, M', ys, rfl, R0, hF, k⟩ := h
  obtain ⟨dw, t, ew, et⟩ := R0.rat
  obtain ⟨dr, er⟩ := R0.bt.r
  have hr1 := hr.mono (show 1 ≤ 3 by decide)
  have hr2 := hr.mono (show 2 ≤ 3 by decide)
  refine ⟨_, pss_cons (ps_asg (pe_fld (pv 1) rfl) (pg_tup (by rfl) (pgs_cons (pg_name (i := 3) scSo.nd rfl (.inl rfl)) (pgs_cons (pg_name (i := 4) scSo.nd rfl (.inl rfl)) pgs_nil))))
    (pss_cons (ps_set (i := 5) scSo.nd rfl (.inl rfl) (pe_call GC hr1 rfl gC kC bC .nil pass0 (pa_cons (pe_meth (pv 0) T.cn mO GO hr1 bO .nil pass0 (pa_cons (pv 4) pa_nil)) pa_nil)))
    (pss_cons (ps_set (i := 6) scSo.nd rfl (.inl rfl) (pe_lst (pa_cons (pe_meth (pv 0) T.cn mR GR hr2 bR .nil pass0 (pa_cons (pv 4) pa_nil)) pa_nil)))
    (pss_cons (ps_if (pt_cmpR op_isN (pv 5) pe_non (nomark _)) (pss_one (ps_expr (pe_meth0 (pv 0) T.cn mS GS hr1 bS .nil pass0)))
      (pss_one (ps_expr (pe_bm PySem.F.plainAttrs_list PySem.F.slot_list_extend PySem.F.type_list_extend mt_extend (pv 6) (pa_cons (pe_call GT hr rfl gT kT bT .nil pass0 (pa_cons (pv 0) (pa_cons (pv 1) (pa_cons (pv 3) (pa_cons (pv 5) pa_nil))))) pa_nil)))))
    (pss_one (ps_ret (pv 6)))))), ?_⟩
  unfold storeM at hF
  split at hF
  case h_2 => cases hF
  rename_i sr pt hn
  obtain ⟨x, hx, hF⟩ := Option.bind_eq_some_iff.mp hF
  rw [hn] at et
  refine ⟨_, rfl, row, Cr, dw, _, _, rfl, ew, TR.cr, TR.rn, lkR2 m t, t, _, rfl, SqT.of et, rfl, _, _, rfl, _, _, rfl, rfl, ?_⟩
  refine ⟨_, rfl, q.r, dr, _, rfl, er, rfl, _, rfl, tNil_i ?_⟩
  refine use_worth R0.bt hx (tNil_i ⟨x, rfl, R0.ok.worth hx, ?_⟩)
  refine ⟨_, rfl, q.r, dr, _, rfl, er, rfl, _, rfl, tNil_i ?_⟩
  refine use_read R0.bt hx fun t1 H2 n2 e2 A2 S2 => ⟨sz1000 (by show 1 ≤ 1000; decide), fun e he => ?_⟩
  have S3 : Same H2 (upd H2 e (.lst [V.ref t1])) := Same.new (Same.refl H2) he
  have A3 := A2.grow S3
  have S23 := S2.trans S3
  have ee : (upd H2 e (.lst [V.ref t1])) e = some (.lst [V.ref t1]) := upd_same
  have nk : e ≠ c.k := fun z => by rw [z, A2.k] at he; cases he
  have nl : e ≠ c.l := fun z => by rw [z, A2.ll] at he; cases he
  have he0 : H e = none := S2.free he
  generalize upd H2 e (.lst [V.ref t1]) = H3 at *
  cases hc : x.cell with
  | none =>
    rw [hc] at hF
    cases hF
    refine ⟨_, rfl, rfl, _, rfl, ?_⟩
    rw [cellV_none hc]
    obtain ⟨d3, e3⟩ := A3.r
    refine iteT ⟨_, rfl, q.r, d3, _, rfl, e3, rfl, tNil_i (use_stop A3 fun H4 A4 b4 => ⟨_, rfl, ?_⟩)⟩
    exact k.zero e H4 he0 ⟨[t1], b4 _ _ (ne_of ee e3 (by intro z; cases z)) (ne_of ee A3.h (by intro z; cases z)) nl ee, tup_but A3 b4 (S3 _ _ e2), trivial⟩ A4 ((But3.same S23).trans b4)
  | some sc =>
    rw [hc] at hF
    obtain ⟨⟨ev, M1⟩, hT, hF⟩ := Option.map_eq_some_iff.mp hF
    cases hF
    refine ⟨_, rfl, rfl, _, rfl, ?_⟩
    rw [cellV_some hc]
    refine iteF ⟨_, rfl, .inl ⟨rfl, _, SqL.of ee⟩, _, rfl, _, rfl, _, rfl, _, rfl, tNil_i ⟨q, c, row, M, xs, m, sr, sc, ev, _, rfl, R0.to A3 (But3.same S23) R0.ok R0.xl, hT, fun e4 H4 n4 hev A4 b4 => ?_⟩⟩
    have := load_end k.zero A3 (But3.same S23) he0 ee (S3 _ _ e2) A4 b4 hev n4 nk nl (trM_len hT)
    obtain ⟨l, b, xs1, zs, r1, r2, r3, r4, r5, r6⟩ := this
    exact ⟨l, b, xs1, zs, r1, r2, r3, r4, r5, _, rfl, r6⟩
end
end FP
set_option Elab.async false
set_option linter.all false
set_option maxRecDepth 100000
set_option maxHeartbeats 4000000
namespace FP
open PySem PySem.Spec PyProof.Rows L2 TL
theorem RunOk.go {M : RunM} (R : RunOk M) (n : Nat) : RunOk (goR M n) := ⟨R.hl, R.kl, R.ok, R.kn⟩
section
variable {P : Program} {w : World} {K : PySem.W.Frag} {mg : Str → Option Value} {base : Heap} {Cn Cc Cr : Addr}
theorem BtAt.fields {H : Hp} {q : Rt} {c : Ct} {M : RunM} {xs : List Int} (A : BtAt Cn Cc H q c M xs) : ∃ d, H q.r = some (.ins Cn d (rnF M q c.k)) := A.r
theorem scDCl : FnScope ["run", "row", "choices", "pointer"] ["run", "row", "choices"] (defScope sDoCall) := ⟨rfl, rfl, rfl, by decide +kernel, rfl, by decide +kernel, by decide +kernel⟩
theorem ok_doCall {f : Addr} {fd : FuncData} (F : Fun K "_do_call" "_do_call" sDoCall f fd) (T : RnTxt K mg Cn Cc) (TR : RwTxt K Cr) (D : RunDefs P w K mg base Cn Cc Cr) : FnOk P w K mg base CX0 4 f fd ["run", "row", "choices"] (spDo Cn Cc Cr callM) := by
  obtain ⟨fR, fdR, mR, bR, GR⟩ := D.read.ex
  obtain ⟨fO, fdO, mO, bO, GO⟩ := D.worth.ex
  obtain ⟨fL, fdL, mL, bL, GL⟩ := D.learn.ex
  refine F.ok scDCl (fun vs H Q E h => ?_) (fun cdv A outer s H vs Q E hr h => ?_)
  · obtain ⟨q, c, row, M, xs, m, evs, M', ys, rfl, _⟩ := h
    rfl
  obtain ⟨q, c, row, M, xs, m, evs, M', ys, rfl, R0, hF, k⟩ := h
  obtain ⟨dw, t, ew, et⟩ := R0.rat
  obtain ⟨dr, er⟩ := R0.bt.r
  have hr1 := hr.mono (show 1 ≤ 3 by decide)
  have hr2 := hr.mono (show 2 ≤ 3 by decide)
  refine ⟨_, pss_cons (ps_set (i := 3) scDCl.nd rfl (.inl rfl) (pe_ix ix_tup (pe_fld (pv 1) rfl) pe_int (fun _ _ => rfl)))
    (pss_cons (ps_expr (pe_meth (pv 0) T.cn mL GL hr2 bL .nil pass0 (pa_cons (pe_meth (pv 0) T.cn mO GO hr1 bO .nil pass0 (pa_cons (pv 3) pa_nil)) pa_nil)))
    (pss_cons (ps_fld (pv 0) pe_bl rfl)
    (pss_one (ps_ret (pe_lst (pa_cons (pe_meth (pv 0) T.cn mR GR hr2 bR .nil pass0 (pa_cons (pv 3) pa_nil)) pa_nil)))))), ?_⟩
  unfold callM at hF
  split at hF
  case h_2 => cases hF
  rename_i p1 hn
  obtain ⟨x, hx, hF⟩ := Option.map_eq_some_iff.mp hF
  cases hF
  rw [hn] at et
  refine ⟨_, rfl, row, Cr, dw, _, _, rfl, ew, TR.cr, TR.rn, lkR2 m t, t, _, _, V.str p1, rfl, rfl, SqT.of et, atI_nat (j := 0) rfl, ?_⟩
  refine ⟨_, rfl, q.r, dr, _, rfl, er, rfl, _, rfl, q.r, dr, _, rfl, er, rfl, _, rfl, tNil_i ?_⟩
  refine use_worth R0.bt hx (tNil_i ⟨q, c, M, xs, x, rfl, R0.bt, R0.ok.worth hx, R0.ok.kl, fun c' H1 hc A1 b1 => ?_⟩)
  obtain ⟨d1, e1⟩ := A1.r
  refine ⟨_, rfl, q.r, Cn, d1, _, rfl, e1, T.cn, T.nc, (by show 5 < 1000; decide), ?_⟩
  have A2 := A1.setR (dx := d1) (M' := { learnM M x with calling := true }) rfl rfl rfl
  have b2 : But3 q c H1 (upd H1 q.r (.ins Cn d1 (rnF { learnM M x with calling := true } q c'.k))) := But3.r
  have hx2 : worthM { learnM M x with calling := true } p1 = some x := (learn_worth M x p1).trans hx
  refine ⟨_, rfl, q.r, d1, _, rfl, upd_same, rfl, _, rfl, tNil_i ?_⟩
  refine use_read A2 hx2 fun t1 H3 n3 e3 A3 S3 => ⟨sz1000 (by show 1 ≤ 1000; decide), fun e he => ?_⟩
  have S4 : Same H3 (upd H3 e (.lst [V.ref t1])) := Same.new (Same.refl H3) he
  have b13 := (b1.trans b2).trans (But3.same S3)
  have hb3 : But3 q c H H3 := b13
  have he0 : H e = none := by
    cases e0 : H e with
    | none => rfl
    | some u =>
      by_cases z1 : e = q.r
      · obtain ⟨d, ed⟩ := A3.r; rw [z1, ed] at he; cases he
      by_cases z2 : e = q.h
      · rw [z2, A3.h] at he; cases he
      by_cases z3 : e = c.l
      · have := A3.ll; rw [hc.2.1] at this; rw [z3, this] at he; cases he
      rw [hb3 e u z1 z2 z3 e0] at he; cases he
  refine k c' e _ hc he0 ⟨[t1], upd_same, ?_, trivial⟩ (A3.grow S4) (hb3.trans (But3.same S4))
  have := S4 _ _ e3
  rw [show ({ learnM M x with calling := true } : RunM).line = M.line from learn_line M x] at this
  exact this
theorem scDS : FnScope ["run", "row", "choices", "one", "other", "answer", "events"] ["run", "row", "choices"] (defScope sDoSame) := ⟨rfl, rfl, rfl, by decide +kernel, rfl, by decide +kernel, by decide +kernel⟩
theorem ok_doSame {f : Addr} {fd : FuncData} (F : Fun K "_do_same" "_do_same" sDoSame f fd) (T : RnTxt K mg Cn Cc) (TR : RwTxt K Cr) (D : RunDefs P w K mg base Cn Cc Cr) : FnOk P w K mg base CX0 4 f fd ["run", "row", "choices"] (spDo Cn Cc Cr sameLM) := by
  obtain ⟨fR, fdR, mR, bR, GR⟩ := D.read.ex
  obtain ⟨fO, fdO, mO, bO, GO⟩ := D.worth.ex
  obtain ⟨fS, fdS, mS, bS, GS⟩ := D.same.ex
  refine F.ok scDS (fun vs H Q E h => ?_) (fun cdv A outer s H vs Q E hr h => ?_)
  · obtain ⟨q, c, row, M, xs, m, evs, M', ys, rfl, _⟩ := h
    rfl
  obtain ⟨q, c, row, M, xs, m, evs, M', ys, rfl, R0, hF, k⟩ := h
  obtain ⟨dw, t, ew, et⟩ := R0.rat
  obtain ⟨dr, er⟩ := R0.bt.r
  have hr1 := hr.mono (show 1 ≤ 3 by decide)
  have hr2 := hr.mono (show 2 ≤ 3 by decide)
  refine ⟨_, pss_cons (ps_asg (pe_fld (pv 1) rfl) (pg_tup (by rfl) (pgs_cons (pg_name (i := 3) scDS.nd rfl (.inl rfl)) (pgs_cons (pg_name (i := 4) scDS.nd rfl (.inl rfl)) pgs_nil))))
    (pss_cons (ps_set (i := 5) scDS.nd rfl (.inl rfl) (pe_meth (pv 0) T.cn mS GS hr2 bS .nil pass0 (pa_cons (pe_meth (pv 0) T.cn mO GO hr1 bO .nil pass0 (pa_cons (pv 3) pa_nil)) (pa_cons (pe_meth (pv 0) T.cn mO GO hr1 bO .nil pass0 (pa_cons (pv 4) pa_nil)) pa_nil))))
    (pss_cons (ps_set (i := 6) scDS.nd rfl (.inl rfl) (pe_lst (pa_cons (pe_meth (pv 0) T.cn mR GR hr2 bR .nil pass0 (pa_cons (pv 3) pa_nil)) (pa_cons (pe_meth (pv 0) T.cn mR GR hr2 bR .nil pass0 (pa_cons (pv 4) pa_nil))
      (pa_cons (pe_tup (pa_cons pe_str (pa_cons (pe_fld (pv 0) rfl) (pa_cons pe_non (pa_cons (pv 5) pa_nil))))) pa_nil)))))
    (pss_cons (ps_fld (pv 0) (pe_ifExp (pt_val (pv 5)) (pe_fld (pv 1) rfl) (pe_fld (pv 1) rfl)) rfl) (pss_one (ps_ret (pv 6)))))), ?_⟩
  unfold sameLM at hF
  split at hF
  case h_2 => cases hF
  rename_i a1 b1 hn
  obtain ⟨x, hx, hF⟩ := Option.bind_eq_some_iff.mp hF
  obtain ⟨y, hy, hF⟩ := Option.bind_eq_some_iff.mp hF
  obtain ⟨b, hb, hF⟩ := Option.map_eq_some_iff.mp hF
  cases hF
  rw [hn] at et
  refine ⟨_, rfl, row, Cr, dw, _, _, rfl, ew, TR.cr, TR.rn, lkR2 m t, t, _, rfl, SqT.of et, rfl, _, _, rfl, _, _, rfl, rfl, ?_⟩
  refine ⟨_, rfl, q.r, dr, _, rfl, er, rfl, _, rfl, q.r, dr, _, rfl, er, rfl, _, rfl, tNil_i ?_⟩
  refine use_worth R0.bt hx ⟨_, rfl, q.r, dr, _, rfl, er, rfl, _, rfl, tNil_i ?_⟩
  refine use_worth R0.bt hy (tNil_i ⟨q, c, M, xs, x, y, b, rfl, R0.bt, R0.ok.worth hx, R0.ok.worth hy, hb, ?_⟩)
  refine ⟨_, rfl, q.r, dr, _, rfl, er, rfl, _, rfl, tNil_i ?_⟩
  refine use_read R0.bt hx fun t1 H1 n1 e1 A1 S1 => ⟨_, rfl, q.r, dr, _, rfl, S1 _ _ er, rfl, _, rfl, tNil_i ?_⟩
  refine use_read A1 hy fun t2 H2 n2 e2 A2 S2 => ⟨_, rfl, q.r, Cn, dr, _, _, rfl, S2 _ _ (S1 _ _ er), T.cn, T.nl, lkN1 M q c.k, _, rfl, sz1000 (by show 4 ≤ 1000; decide), fun t3 h3 => ⟨sz1000 (by show 3 ≤ 1000; decide), fun e he => ?_⟩⟩
  have S3 : Same H2 (upd H2 t3 (.tup (Ev.sm M.line b).v)) := Same.new (Same.refl H2) h3
  have e3 : (upd H2 t3 (.tup (Ev.sm M.line b).v)) t3 = some (.tup (Ev.sm M.line b).v) := upd_same
  have A3 := A2.grow S3
  have S13 := (S1.trans S2).trans S3
  replace he : (upd H2 t3 (.tup (Ev.sm M.line b).v)) e = none := he
  have S4 : Same (upd H2 t3 (.tup (Ev.sm M.line b).v)) (upd (upd H2 t3 (.tup (Ev.sm M.line b).v)) e (.lst [V.ref t1, .ref t2, .ref t3])) := Same.new (Same.refl _) he
  have S14 := S13.trans S4
  have tt : Tups (upd H2 t3 (.tup (Ev.sm M.line b).v)) [t1, t2, t3] [.rd M.line a1 x, .rd M.line b1 y, .sm M.line b] := ⟨S3 _ _ (S2 _ _ e1), S3 _ _ e2, e3, trivial⟩
  cases b with
  | true =>
    refine ⟨_, rfl, _, rfl, iteT ⟨_, rfl, row, Cr, dw, _, _, rfl, S14 _ _ ew, TR.cr, TR.ra, lkR3 m t, _, rfl, q.r, Cn, dr, _, rfl, S14 _ _ er, T.cn, T.nl, (by show 5 < 1000; decide), _, rfl, ?_⟩⟩
    exact set_line (ts := [t1, t2, t3]) k.zero A3 (But3.same S13) tt he (S14 _ _ er)
  | false =>
    refine ⟨_, rfl, _, rfl, iteF ⟨_, rfl, row, Cr, dw, _, _, rfl, S14 _ _ ew, TR.cr, TR.ro, lkR4 m t, _, rfl, q.r, Cn, dr, _, rfl, S14 _ _ er, T.cn, T.nl, (by show 5 < 1000; decide), _, rfl, ?_⟩⟩
    exact set_line (ts := [t1, t2, t3]) k.zero A3 (But3.same S13) tt he (S14 _ _ er)
theorem scDL : FnScope ["run", "row", "choices", "choice"] ["run", "row", "choices"] (defScope sDoLoop) := ⟨rfl, rfl, rfl, by decide +kernel, rfl, by decide +kernel, by decide +kernel⟩
theorem ok_doLoop {f : Addr} {fd : FuncData} (F : Fun K "_do_loop" "_do_loop" sDoLoop f fd) (T : RnTxt K mg Cn Cc) (TR : RwTxt K Cr) (D : RunDefs P w K mg base Cn Cc Cr) : FnOk P w K mg base CX0 4 f fd ["run", "row", "choices"] (spDo Cn Cc Cr loopM) := by
  obtain ⟨fT, fdT, mT, bT, GT⟩ := D.take.ex
  obtain ⟨fS, fdS, mS, bS, GS⟩ := D.stop.ex
  refine F.ok scDL (fun vs H Q E h => ?_) (fun cdv A outer s H vs Q E hr h => ?_)
  · obtain ⟨q, c, row, M, xs, m, evs, M', ys, rfl, _⟩ := h
    rfl
  obtain ⟨q, c, row, M, xs, m, evs, M', ys, rfl, R0, hF, k⟩ := h
  obtain ⟨dr, er⟩ := R0.bt.r
  obtain ⟨dc, ec⟩ := R0.bt.ch
  have hr1 := hr.mono (show 1 ≤ 3 by decide)
  refine ⟨_, pss_cons (ps_set (i := 3) scDL.nd rfl (.inl rfl) (pe_meth0 (pv 2) T.cc mT GT hr1 bT .nil pass0))
    (pss_cons (ps_if (pt_cmpR op_isN (pv 3) pe_non (nomark _)) (pss_one (ps_expr (pe_meth0 (pv 0) T.cn mS GS hr1 bS .nil pass0)))
      (pss_one (ps_fld (pv 0) (pe_ifExp (pt_cmpR op_eq (pv 3) pe_int (nomark _)) (pe_fld (pv 1) rfl) (pe_fld (pv 1) rfl)) rfl)))
    (pss_one (ps_ret (pe_lst pa_nil)))), ?_⟩
  refine ⟨_, rfl, c.c, dc, _, rfl, ec, rfl, tNil_i (use_take R0.bt R0.xl (fun hx => ?_) fun x r H1 hx A1 b1 => ?_)⟩
  · subst hx
    cases hF
    exact ⟨_, rfl, rfl, _, rfl, iteT ⟨_, rfl, q.r, dr, _, rfl, er, rfl, tNil_i (use_stop R0.bt fun H1 A1 b1 => ⟨Nat.zero_le _, fun e he => no_events k.zero A1 b1 e he⟩)⟩⟩
  · subst hx
    cases hF
    obtain ⟨d1, e1⟩ := A1.r
    obtain ⟨dw, t, ew, et⟩ := R0.rat.but R0.bt R0.ne b1
    refine ⟨_, rfl, rfl, _, rfl, iteF ⟨_, rfl, rfl, _, rfl, ?_⟩⟩
    have hx : decide (V.int x = V.int 0) = decide (x = 0) := decide_eq_decide.mpr ⟨fun z => V.int.inj z, fun z => congrArg V.int z⟩
    rw [hx]
    have A2 := A1.setR (dx := d1) (M' := goR M (if x = 0 then m.other else m.after)) rfl rfl rfl
    by_cases cz : x = 0
    · rw [decide_eq_true cz]
      rw [if_pos cz] at A2 k
      exact iteT ⟨_, rfl, row, Cr, dw, _, _, rfl, ew, TR.cr, TR.ro, lkR4 m t, _, rfl, q.r, Cn, d1, _, rfl, e1, T.cn, T.nl, (by show 5 < 1000; decide), Nat.zero_le _, fun e he => no_events k.zero A2 (b1.trans But3.r) e he⟩
    · rw [decide_eq_false cz]
      rw [if_neg cz] at A2 k
      exact iteF ⟨_, rfl, row, Cr, dw, _, _, rfl, ew, TR.cr, TR.ra, lkR3 m t, _, rfl, q.r, Cn, d1, _, rfl, e1, T.cn, T.nl, (by show 5 < 1000; decide), Nat.zero_le _, fun e he => no_events k.zero A2 (b1.trans But3.r) e he⟩
theorem scDM : FnScope ["run", "row", "choices", "choice"] ["run", "row", "choices"] (defScope sDoMaybe) := ⟨rfl, rfl, rfl, by decide +kernel, rfl, by decide +kernel, by decide +kernel⟩
theorem ok_doMaybe {f : Addr} {fd : FuncData} (F : Fun K "_do_maybe" "_do_maybe" sDoMaybe f fd) (T : RnTxt K mg Cn Cc) (TR : RwTxt K Cr) (D : RunDefs P w K mg base Cn Cc Cr) : FnOk P w K mg base CX0 4 f fd ["run", "row", "choices"] (spDo Cn Cc Cr maybeM) := by
  obtain ⟨fT, fdT, mT, bT, GT⟩ := D.take.ex
  obtain ⟨fS, fdS, mS, bS, GS⟩ := D.stop.ex
  refine F.ok scDM (fun vs H Q E h => ?_) (fun cdv A outer s H vs Q E hr h => ?_)
  · obtain ⟨q, c, row, M, xs, m, evs, M', ys, rfl, _⟩ := h
    rfl
  obtain ⟨q, c, row, M, xs, m, evs, M', ys, rfl, R0, hF, k⟩ := h
  obtain ⟨dr, er⟩ := R0.bt.r
  obtain ⟨dc, ec⟩ := R0.bt.ch
  have hr1 := hr.mono (show 1 ≤ 3 by decide)
  refine ⟨_, pss_cons (ps_set (i := 3) scDM.nd rfl (.inl rfl) (pe_meth0 (pv 2) T.cc mT GT hr1 bT .nil pass0))
    (pss_cons (ps_if (pt_cmpR op_isN (pv 3) pe_non (nomark _)) (pss_one (ps_expr (pe_meth0 (pv 0) T.cn mS GS hr1 bS .nil pass0)))
      (pss_one (ps_fld (pv 0) (pe_ifExp (pt_cmpR op_eq (pv 3) pe_int (nomark _)) (pe_fld (pv 1) rfl) (pe_fld (pv 1) rfl)) rfl)))
    (pss_one (ps_ret (pe_lst pa_nil)))), ?_⟩
  refine ⟨_, rfl, c.c, dc, _, rfl, ec, rfl, tNil_i (use_take R0.bt R0.xl (fun hx => ?_) fun x r H1 hx A1 b1 => ?_)⟩
  · subst hx
    cases hF
    exact ⟨_, rfl, rfl, _, rfl, iteT ⟨_, rfl, q.r, dr, _, rfl, er, rfl, tNil_i (use_stop R0.bt fun H1 A1 b1 => ⟨Nat.zero_le _, fun e he => no_events k.zero A1 b1 e he⟩)⟩⟩
  · subst hx
    cases hF
    obtain ⟨d1, e1⟩ := A1.r
    obtain ⟨dw, t, ew, et⟩ := R0.rat.but R0.bt R0.ne b1
    refine ⟨_, rfl, rfl, _, rfl, iteF ⟨_, rfl, rfl, _, rfl, ?_⟩⟩
    have hx : decide (V.int x = V.int 0) = decide (x = 0) := decide_eq_decide.mpr ⟨fun z => V.int.inj z, fun z => congrArg V.int z⟩
    rw [hx]
    have A2 := A1.setR (dx := d1) (M' := goR M (if x = 0 then m.after else m.other)) rfl rfl rfl
    by_cases cz : x = 0
    · rw [decide_eq_true cz]
      rw [if_pos cz] at A2 k
      exact iteT ⟨_, rfl, row, Cr, dw, _, _, rfl, ew, TR.cr, TR.ra, lkR3 m t, _, rfl, q.r, Cn, d1, _, rfl, e1, T.cn, T.nl, (by show 5 < 1000; decide), Nat.zero_le _, fun e he => no_events k.zero A2 (b1.trans But3.r) e he⟩
    · rw [decide_eq_false cz]
      rw [if_neg cz] at A2 k
      exact iteF ⟨_, rfl, row, Cr, dw, _, _, rfl, ew, TR.cr, TR.ro, lkR4 m t, _, rfl, q.r, Cn, d1, _, rfl, e1, T.cn, T.nl, (by show 5 < 1000; decide), Nat.zero_le _, fun e he => no_events k.zero A2 (b1.trans But3.r) e he⟩
end
end FP
set_option Elab.async false
set_option linter.all false
set_option maxRecDepth 100000
set_option maxHeartbeats 4000000
namespace FP
open PySem PySem.Spec PyProof.Rows L2 TL
section
variable {P : Program} {w : World} {K : PySem.W.Frag} {mg : Str → Option Value} {base : Heap} {Cn Cc Cr : Addr}
/-- a write alone -/
theorem one_event {H H1 : Hp} {q : Rt} {c : Ct} {ev : Ev} {M' : RunM} {ys : List Int} {Q : VK} {t1 : Addr} (k : DoK0 Cn Cc H q c [ev] M' ys Q) (A1 : BtAt Cn Cc H1 q c M' ys) (b1 : But3 q c H H1) (et : H1 t1 = some (.tup ev.v)) (e : Addr) (he : H1 e = none) : Q (.ref e) (upd H1 e (.lst [.ref t1])) := by
  have S : Same H1 (upd H1 e (.lst [.ref t1])) := Same.new (Same.refl H1) he
  exact k e _ (but_none A1 b1 he) ⟨[t1], upd_same, S _ _ et, trivial⟩ (A1.grow S) (b1.trans (But3.same S))
def spActW (Cn Cc Cr : Addr) : Sp := fun vs H Q _ => ∃ (q : Rt) (c : Ct) (row : Addr) (M : RunM) (xs : List Int) (m : RowM) (cell : Str) (j : Int) (evs : List Ev) (M' : RunM) (ys : List Int), vs = [.ref q.r, .ref row, .ref c.c, .str cell, .int j] ∧ RowIn Cn Cc Cr H q c row m M xs ∧
  0 ≤ j ∧ actWriteM m M xs cell j = some (evs, M', ys) ∧ DoK0 Cn Cc H q c evs M' ys Q
abbrev nAW : List Str := ["run", "row", "choices", "cell", "deed", "many", "choice"]
theorem scAW : FnScope nAW ["run", "row", "choices", "cell", "deed"] (defScope sActWrite) := ⟨rfl, rfl, rfl, by decide +kernel, rfl, by decide +kernel, by decide +kernel⟩
theorem ok_actWrite {f : Addr} {fd : FuncData} (F : Fun K "_act_write" "_act_write" sActWrite f fd) (T : RnTxt K mg Cn Cc) (B : Blt2 mg) (D : RunDefs P w K mg base Cn Cc Cr) : FnOk P w K mg base CX0 2 f fd ["run", "row", "choices", "cell", "deed"] (spActW Cn Cc Cr) := by
  obtain ⟨fT, fdT, mT, bT, GT⟩ := D.take.ex
  obtain ⟨fS, fdS, mS, bS, GS⟩ := D.stop.ex
  obtain ⟨fW, fdW, mW, bW, GW⟩ := D.write.ex
  obtain ⟨fL, fdL, mL, bL, GL⟩ := D.leave.ex
  refine F.ok scAW (fun vs H Q E h => ?_) (fun cdv A outer s H vs Q E hr h => ?_)
  · obtain ⟨q, c, row, M, xs, m, cell, j, evs, M', ys, rfl, _⟩ := h
    rfl
  obtain ⟨q, c, row, M, xs, m, cell, j, evs, M', ys, rfl, R0, hj, hF, k⟩ := h
  obtain ⟨dr, er⟩ := R0.bt.r
  obtain ⟨dc, ec⟩ := R0.bt.ch
  refine ⟨_, pss_cons (ps_set (i := 5) scAW.nd rfl (.inl rfl) (pe_callB call_len_seq (by rfl) B.len boot_len (pa_cons (pe_fld (pv 0) rfl) pa_nil)))
    (pss_cons (ps_if (pt_cmpR op_gt (pv 4) (pe_op op_add (pv 5) pe_int) (nomark _)) (pss_cons (ps_expr (pe_meth (pv 0) T.cn mL GL hr bL .nil pass0 (pa_cons (pv 1) pa_nil))) (pss_one (ps_ret (pe_lst pa_nil)))) pss_nil)
    (pss_cons (ps_if (pt_cmpR op_eq (pv 4) (pe_op op_add (pv 5) pe_int) (nomark _)) (pss_one (ps_ret (pe_lst (pa_cons (pe_meth (pv 0) T.cn mW GW hr bW .nil pass0 (pa_cons (pv 3) (pa_cons pe_non pa_nil))) pa_nil)))) pss_nil)
    (pss_cons (ps_if (pt_cmpR op_gt (pv 4) pe_int (nomark _)) (pss_one (ps_ret (pe_lst (pa_cons (pe_meth (pv 0) T.cn mW GW hr bW .nil pass0 (pa_cons (pv 3) (pa_cons (pe_joined (.cons pe_str (.cons (pe_fmt (pe_ix ix_list (pe_fld (pv 0) rfl) (pe_op op_sub (pv 4) pe_int) (fun _ _ => rfl))) .nil))) pa_nil))) pa_nil)))) pss_nil)
    (pss_cons (ps_set (i := 6) scAW.nd rfl (.inl rfl) (pe_meth0 (pv 2) T.cc mT GT hr bT .nil pass0))
    (pss_cons (ps_if (pt_cmpR op_isN (pv 6) pe_non (nomark _)) (pss_cons (ps_expr (pe_meth0 (pv 0) T.cn mS GS hr bS .nil pass0)) (pss_one (ps_ret (pe_lst pa_nil)))) pss_nil)
    (pss_one (ps_ret (pe_lst (pa_cons (pe_meth (pv 0) T.cn mW GW hr bW .nil pass0 (pa_cons (pv 3) (pa_cons (pv 6) pa_nil))) pa_nil))))))))), ?_⟩
  refine ⟨_, rfl, q.r, Cn, dr, _, _, rfl, er, T.cn, T.nk, lkN3 M q c.k, c.k, _, rfl, .inl (SqL.of R0.bt.k), ?_⟩
  rw [List.length_map]
  refine ⟨_, rfl, _, rfl, _, _, rfl, rfl, _, _, rfl, rfl, _, rfl, ?_⟩
  unfold actWriteM at hF
  by_cases c1 : j > (M.known.length : Int) + 1
  · rw [if_pos c1] at hF
    cases hF
    rw [decide_eq_true (show (M.known.length : Int) + 1 < j from c1)]
    exact iteT ⟨_, rfl, q.r, dr, _, rfl, er, rfl, _, rfl, tNil_i (use_leave R0.bt R0.rat R0.ne fun H1 A1 b1 => ⟨Nat.zero_le _, fun e he => no_events k A1 b1 e he⟩)⟩
  rw [if_neg c1] at hF
  rw [decide_eq_false (show ¬ (M.known.length : Int) + 1 < j from c1)]
  refine iteF ⟨_, rfl, _, rfl, _, _, rfl, rfl, rfl, _, rfl, ?_⟩
  have d2 : decide (V.int j = V.int ((M.known.length : Int) + 1)) = decide (j = (M.known.length : Int) + 1) := decide_eq_decide.mpr ⟨fun z => V.int.inj z, fun z => congrArg V.int z⟩
  rw [d2]
  by_cases c2 : j = (M.known.length : Int) + 1
  · rw [if_pos c2] at hF
    obtain ⟨M1, hw, hF⟩ := Option.map_eq_some_iff.mp hF
    cases hF
    rw [decide_eq_true c2]
    refine iteT ⟨_, rfl, q.r, dr, _, rfl, er, rfl, _, rfl, tConsC_i (tNil_i ?_)⟩
    exact use_write (x := .un) R0.bt rfl hw R0.ok.hl fun t1 H2 n2 e2 A2 b2 => ⟨sz1000 (by show 1 ≤ 1000; decide), fun e he => one_event k A2 b2 e2 e he⟩
  rw [if_neg c2] at hF
  rw [decide_eq_false c2]
  refine iteF ⟨_, rfl, _, _, rfl, rfl, _, rfl, ?_⟩
  by_cases c3 : j > 0
  · rw [if_pos c3] at hF
    split at hF
    case h_2 => cases hF
    rename_i b hb
    obtain ⟨M1, hw, hF⟩ := Option.map_eq_some_iff.mp hF
    cases hF
    rw [decide_eq_true (show (0 : Int) < j from c3)]
    have hbl : b.length ≤ 1000 := R0.ok.kn b (List.mem_of_getElem? hb)
    have hat : atI (M.known.map V.str) (j - 1) = some (.str b) := by
      obtain ⟨n, hn⟩ : ∃ n : Nat, j - 1 = (n : Int) := ⟨(j - 1).toNat, by omega⟩
      rw [hn] at hb ⊢
      refine atI_nat ?_
      rw [List.getElem?_map, show M.known[n]? = some b from hb]
      rfl
    refine iteT ⟨_, rfl, q.r, dr, _, rfl, er, rfl, _, rfl, _, rfl, by decide, _, rfl, q.r, Cn, dr, _, _, rfl, er, T.cn, T.nk, lkN3 M q c.k, _, rfl, _, _, rfl, rfl, c.k, _, _, V.str b, rfl, rfl, SqL.of R0.bt.k, hat, .inl ⟨b, rfl, sz1000 hbl, _, rfl, ?_, tJs_i (tNil_i ?_)⟩⟩
    · exact Nat.le_trans (amp_len hbl) (by decide)
    · exact use_write (x := .a b) R0.bt (congrArg V.str (amp_e b)) hw R0.ok.hl fun t1 H2 n2 e2 A2 b2 => ⟨sz1000 (by show 1 ≤ 1000; decide), fun e he => one_event k A2 b2 e2 e he⟩
  rw [if_neg c3] at hF
  rw [decide_eq_false (show ¬ (0 : Int) < j from c3)]
  refine iteF ⟨_, rfl, c.c, dc, _, rfl, ec, rfl, tNil_i (use_take R0.bt R0.xl (fun hx => ?_) fun x r H1 hx A1 b1 => ?_)⟩
  · subst hx
    cases hF
    exact ⟨_, rfl, rfl, _, rfl, iteT ⟨_, rfl, q.r, dr, _, rfl, er, rfl, tNil_i (use_stop R0.bt fun H1 A1 b1 => ⟨Nat.zero_le _, fun e he => no_events k A1 b1 e he⟩)⟩⟩
  · subst hx
    obtain ⟨M1, hw, hF⟩ := Option.map_eq_some_iff.mp hF
    cases hF
    obtain ⟨d1, e1⟩ := A1.r
    refine ⟨_, rfl, rfl, _, rfl, iteF ⟨_, rfl, q.r, d1, _, rfl, e1, rfl, _, rfl, _, rfl, tNil_i ?_⟩⟩
    exact use_write (x := .i x) A1 rfl hw R0.ok.hl fun t1 H2 n2 e2 A2 b2 => ⟨sz1000 (by show 1 ≤ 1000; decide), fun e he => one_event k A2 (b1.trans b2) e2 e he⟩
abbrev nAc : List Str := ["run", "row", "choices", "choice", "cell", "deed"]
theorem scAc : FnScope nAc ["run", "row", "choices"] (defScope sAct) := ⟨rfl, rfl, rfl, by decide +kernel, rfl, by decide +kernel, by decide +kernel⟩
theorem ok_act {f : Addr} {fd : FuncData} (F : Fun K "_act" "_act" sAct f fd) (T : RnTxt K mg Cn Cc) (B : Blt2 mg) (D : RunDefs P w K mg base Cn Cc Cr) (DW : Def P w K mg base "_act_write" 2 ["run", "row", "choices", "cell", "deed"] (spActW Cn Cc Cr)) :
    FnOk P w K mg base CX0 4 f fd ["run", "row", "choices"] (spDo Cn Cc Cr actM) := by
  obtain ⟨fT, fdT, mT, bT, GT⟩ := D.take.ex
  obtain ⟨fS, fdS, mS, bS, GS⟩ := D.stop.ex
  obtain ⟨fO, fdO, mO, bO, GO⟩ := D.worth.ex
  obtain ⟨fR, fdR, mR, bR, GR⟩ := D.read.ex
  obtain ⟨fL, fdL, mL, bL, GL⟩ := D.leave.ex
  obtain ⟨fN, fdN, mN, bN, GN⟩ := D.learn.ex
  obtain ⟨fW, fdW, gW, kW, bW, GW⟩ := DW.ex
  refine F.ok scAc (fun vs H Q E h => ?_) (fun cdv A outer s H vs Q E hr h => ?_)
  · obtain ⟨q, c, row, M, xs, m, evs, M', ys, rfl, _⟩ := h
    rfl
  obtain ⟨q, c, row, M, xs, m, evs, M', ys, rfl, R0, hF, k⟩ := h
  obtain ⟨dr, er⟩ := R0.bt.r
  obtain ⟨dc, ec⟩ := R0.bt.ch
  have hr1 := hr.mono (show 1 ≤ 3 by decide)
  have hr2 := hr.mono (show 2 ≤ 3 by decide)
  refine ⟨_, pss_cons (ps_set (i := 3) scAc.nd rfl (.inl rfl) (pe_meth0 (pv 2) T.cc mT GT hr1 bT .nil pass0))
    (pss_cons (ps_if (pt_cmpR op_isN (pv 3) pe_non (nomark _)) (pss_cons (ps_expr (pe_meth0 (pv 0) T.cn mS GS hr1 bS .nil pass0)) (pss_one (ps_ret (pe_lst pa_nil)))) pss_nil)
    (pss_cons (ps_if (pt_not (pt_chain op_le op_le pe_int (pv 3) (pe_callB call_len_seq (by rfl) B.len boot_len (pa_cons (pe_fld (pv 0) rfl) pa_nil)))) (pss_cons (ps_expr (pe_meth (pv 0) T.cn mL GL hr1 bL .nil pass0 (pa_cons (pv 1) pa_nil))) (pss_one (ps_ret (pe_lst pa_nil)))) pss_nil)
    (pss_cons (ps_set (i := 4) scAc.nd rfl (.inl rfl) (pe_ix ix_list (pe_fld (pv 0) rfl) (pe_op op_sub (pv 3) pe_int) (fun _ _ => rfl)))
    (pss_cons (ps_set (i := 5) scAc.nd rfl (.inl rfl) (pe_meth0 (pv 2) T.cc mT GT hr1 bT .nil pass0))
    (pss_cons (ps_if (pt_cmpR op_isN (pv 5) pe_non (nomark _)) (pss_cons (ps_expr (pe_meth0 (pv 0) T.cn mS GS hr1 bS .nil pass0)) (pss_one (ps_ret (pe_lst pa_nil)))) pss_nil)
    (pss_cons (ps_if (pt_cmpR op_lt (pv 5) pe_int (nomark _)) (pss_cons (ps_expr (pe_meth (pv 0) T.cn mN GN hr2 bN .nil pass0 (pa_cons (pe_meth (pv 0) T.cn mO GO hr1 bO .nil pass0 (pa_cons (pv 4) pa_nil)) pa_nil)))
      (pss_one (ps_ret (pe_lst (pa_cons (pe_meth (pv 0) T.cn mR GR hr2 bR .nil pass0 (pa_cons (pv 4) pa_nil)) pa_nil))))) pss_nil)
    (pss_one (ps_ret (pe_call GW hr2 rfl gW kW bW .nil pass0 (pa_cons (pv 0) (pa_cons (pv 1) (pa_cons (pv 2) (pa_cons (pv 4) (pa_cons (pv 5) pa_nil)))))))))))))), ?_⟩
  refine ⟨_, rfl, c.c, dc, _, rfl, ec, rfl, tNil_i (use_take R0.bt R0.xl (fun hx => ?_) fun x r H1 hx A1 b1 => ?_)⟩
  · subst hx
    cases hF
    exact ⟨_, rfl, rfl, _, rfl, iteT ⟨_, rfl, q.r, dr, _, rfl, er, rfl, tNil_i (use_stop R0.bt fun H1 A1 b1 => ⟨Nat.zero_le _, fun e he => no_events k.zero A1 b1 e he⟩)⟩⟩
  subst hx
  obtain ⟨d1, e1⟩ := A1.r
  obtain ⟨dc1, ec1⟩ := A1.ch
  have hrl : r.length ≤ 1000000 := Nat.le_trans (Nat.le_succ _) R0.xl
  refine ⟨_, rfl, rfl, _, rfl, iteF ⟨_, rfl, _, _, rfl, rfl, _, rfl, ?_⟩⟩
  have hF' : (if 1 ≤ x ∧ x ≤ (M.known.length : Int) then (match M.known[(x - 1).toNat]? with
      | some cc => (match r with
        | [] => some ([], stopR M, [])
        | j :: r2 => if j < 0 then (worthM M cc).map fun y => ([.rd M.line cc y], learnM M y, r2) else actWriteM m M r2 cc j)
      | none => none) else some ([], leaveR M m.after, r)) = some (evs, M', ys) := hF
  have out : ¬ (1 ≤ x ∧ x ≤ (M.known.length : Int)) → evs = [] ∧ M' = leaveR M m.after ∧ ys = r := fun z => by
    rw [if_neg z] at hF'
    cases hF'
    exact ⟨rfl, rfl, rfl⟩
  by_cases c1 : 1 ≤ x
  case neg =>
    obtain ⟨rfl, rfl, rfl⟩ := out (fun z => c1 z.1)
    rw [decide_eq_false c1]
    exact iteF ⟨_, rfl, iteT ⟨_, rfl, q.r, d1, _, rfl, e1, rfl, _, rfl, tNil_i (use_leave A1 (R0.rat.but R0.bt R0.ne b1) R0.ne fun H2 A2 b2 => ⟨Nat.zero_le _, fun e he => no_events k.zero A2 (b1.trans b2) e he⟩)⟩⟩
  rw [decide_eq_true c1]
  refine iteT ⟨_, rfl, q.r, Cn, d1, _, _, rfl, e1, T.cn, T.nk, lkN3 M q c.k, c.k, _, rfl, .inl (SqL.of A1.k), _, _, rfl, rfl, _, rfl, ?_⟩
  rw [List.length_map]
  by_cases c2 : x ≤ (M.known.length : Int)
  case neg =>
    obtain ⟨rfl, rfl, rfl⟩ := out (fun z => c2 z.2)
    rw [decide_eq_false c2]
    exact iteT ⟨_, rfl, q.r, d1, _, rfl, e1, rfl, _, rfl, tNil_i (use_leave A1 (R0.rat.but R0.bt R0.ne b1) R0.ne fun H2 A2 b2 => ⟨Nat.zero_le _, fun e he => no_events k.zero A2 (b1.trans b2) e he⟩)⟩
  rw [decide_eq_true c2]
  rw [if_pos ⟨c1, c2⟩] at hF'
  split at hF'
  case h_2 => cases hF'
  rename_i cc hcc
  have hat : atI (M.known.map V.str) (x - 1) = some (.str cc) := by
    obtain ⟨n, hn⟩ : ∃ n : Nat, x - 1 = (n : Int) := ⟨(x - 1).toNat, by omega⟩
    rw [hn] at hcc ⊢
    refine atI_nat ?_
    rw [List.getElem?_map, show M.known[n]? = some cc from hcc]
    rfl
  refine iteF ⟨_, rfl, q.r, Cn, d1, _, _, rfl, e1, T.cn, T.nk, lkN3 M q c.k, _, rfl, _, _, rfl, rfl, c.k, _, _, V.str cc, rfl, rfl, SqL.of A1.k, hat, ?_⟩
  refine ⟨_, rfl, c.c, dc1, _, rfl, ec1, rfl, tNil_i (use_take A1 hrl (fun hx => ?_) fun j r2 H2 hx A2 b2 => ?_)⟩
  · subst hx
    cases hF'
    exact ⟨_, rfl, rfl, _, rfl, iteT ⟨_, rfl, q.r, d1, _, rfl, e1, rfl, tNil_i (use_stop A1 fun H2 A2 b2 => ⟨Nat.zero_le _, fun e he => no_events k.zero A2 (b1.trans b2) e he⟩)⟩⟩
  subst hx
  obtain ⟨d2, e2⟩ := A2.r
  have b12 := b1.trans b2
  refine ⟨_, rfl, rfl, _, rfl, iteF ⟨_, rfl, _, _, rfl, rfl, _, rfl, ?_⟩⟩
  by_cases c3 : j < 0
  case neg =>
    rw [decide_eq_false c3]
    dsimp only at hF'
    rw [if_neg c3] at hF'
    exact iteF ⟨_, rfl, _, rfl, _, rfl, _, rfl, _, rfl, tNil_i ⟨q, c, row, M, r2, m, cc, j, evs, M', ys, rfl, R0.to A2 b12 R0.ok (Nat.le_trans (Nat.le_succ _) hrl), by omega, hF', fun e H3 he hev A3 b3 => k.zero e H3 (but_none A2 b12 he) hev A3 (b12.trans b3)⟩⟩
  rw [decide_eq_true c3]
  dsimp only at hF'
  rw [if_pos c3] at hF'
  obtain ⟨y, hy, hF'⟩ := Option.map_eq_some_iff.mp hF'
  cases hF'
  refine iteT ⟨_, rfl, q.r, d2, _, rfl, e2, rfl, _, rfl, q.r, d2, _, rfl, e2, rfl, _, rfl, tNil_i (use_worth A2 hy (tNil_i ⟨q, c, M, _, y, rfl, A2, R0.ok.worth hy, R0.ok.kl, fun c' H3 hc A3 b3 => ?_⟩))⟩
  obtain ⟨d3, e3⟩ := A3.r
  refine ⟨_, rfl, q.r, d3, _, rfl, e3, rfl, _, rfl, tNil_i (use_read A3 ((learn_worth M y cc).trans hy) fun t1 H4 n4 e4 A4 S4 => ⟨sz1000 (by show 1 ≤ 1000; decide), fun e he => ?_⟩)⟩
  have S5 : Same H4 (upd H4 e (.lst [V.ref t1])) := Same.new (Same.refl H4) he
  have b14 : But3 q c H H4 := (b12.trans b3).trans (But3.same S4)
  have he0 : H e = none := by
    cases e0 : H e with
    | none => rfl
    | some u =>
      by_cases z1 : e = q.r
      · obtain ⟨d, ed⟩ := A4.r; rw [z1, ed] at he; cases he
      by_cases z2 : e = q.h
      · rw [z2, A4.h] at he; cases he
      by_cases z3 : e = c.l
      · have := A4.ll; rw [hc.2.1] at this; rw [z3, this] at he; cases he
      rw [b14 e u z1 z2 z3 e0] at he; cases he
  have hc0 : Kin c c' H := ⟨hc.1, hc.2.1, hc.2.2.imp id fun z => but_none A2 b12 z⟩
  refine k c' e _ hc0 he0 ⟨[t1], upd_same, ?_, trivial⟩ (A4.grow S5) (b14.trans (But3.same S5))
  have := S5 _ _ e4
  rw [learn_line] at this
  exact this
end
end FP
set_option Elab.async false
set_option linter.all false
set_option maxRecDepth 100000
set_option maxHeartbeats 4000000
namespace FP
open PySem PySem.Spec PyProof.Rows L2 TL
section
variable {P : Program} {w : World} {K : PySem.W.Frag} {mg : Str → Option Value} {base : Heap} {Cn Cc Cr aL : Addr}
/-- a def that the table holds at a word -/
structure Act (P : Program) (w : World) (K : PySem.W.Frag) (mg : Str → Option Value) (base : Heap) (Cn Cc Cr aL : Addr) (wd : Str) (F : StepM) : Prop where
  ex : ∃ (f : Addr) (fd : FuncData), KDct K w aL wd (.ref f) ∧ PySem.W.keepIn K (.ref f) = true ∧ Binds K fd ["run", "row", "choices"] [] ∧ FnOk P w K mg base CX0 4 f fd ["run", "row", "choices"] (spDo Cn Cc Cr F)
structure Acts (P : Program) (w : World) (K : PySem.W.Frag) (mg : Str → Option Value) (base : Heap) (Cn Cc Cr aL : Addr) : Prop where
  inp : Act P w K mg base Cn Cc Cr aL "input" inputM
  cpy : Act P w K mg base Cn Cc Cr aL "copy" copyM
  pnt : Act P w K mg base Cn Cc Cr aL "point" pointM
  lod : Act P w K mg base Cn Cc Cr aL "load" loadM
  sto : Act P w K mg base Cn Cc Cr aL "store" storeM
  use : Act P w K mg base Cn Cc Cr aL "use" useM
  cal : Act P w K mg base Cn Cc Cr aL "call" callM
  sam : Act P w K mg base Cn Cc Cr aL "same" sameLM
  lop : Act P w K mg base Cn Cc Cr aL "loop" loopM
  mab : Act P w K mg base Cn Cc Cr aL "maybe" maybeM
  act : Def P w K mg base "_act" 4 ["run", "row", "choices"] (spDo Cn Cc Cr actM)
def spAdv (Cn Cc Cr : Addr) : Sp := fun vs H Q _ => ∃ (q : Rt) (c : Ct) (R row : Addr) (ras : List Addr) (M : RunM) (xs : List Int) (m : RowM) (evs : List Ev) (M' : RunM) (ys : List Int), vs = [.ref q.r, .ref R, .ref c.c] ∧ H R = some (.lst (ras.map V.ref)) ∧ ras[M.line]? = some row ∧
  RowIn Cn Cc Cr H q c row m M xs ∧ advM m M xs = some (evs, M', ys) ∧ DoK Cn Cc H q c evs M' ys Q
abbrev nAD : List Str := ["run", "rows", "choices", "row", "action"]
theorem scAD : FnScope nAD ["run", "rows", "choices"] (defScope sAdvance) := ⟨rfl, rfl, rfl, by decide +kernel, rfl, by decide +kernel, by decide +kernel⟩
theorem ok_advance {f : Addr} {fd : FuncData} (F : Fun K "advance" "advance" sAdvance f fd) (T : RnTxt K mg Cn Cc) (TR : RwTxt K Cr) (gL : mg "LINES" = some (.ref aL)) (DA : Acts P w K mg base Cn Cc Cr aL) :
    FnOk P w K mg base CX0 5 f fd ["run", "rows", "choices"] (spAdv Cn Cc Cr) := by
  obtain ⟨fT, fdT, gT, kT, bT, GT⟩ := DA.act.ex
  refine F.ok scAD (fun vs H Q E h => ?_) (fun cdv A outer s H vs Q E hr h => ?_)
  · obtain ⟨q, c, R, row, ras, M, xs, m, evs, M', ys, rfl, _⟩ := h
    rfl
  obtain ⟨q, c, R, row, ras, M, xs, m, evs, M', ys, rfl, hR, hrow, R0, hF, k⟩ := h
  obtain ⟨dr, er⟩ := R0.bt.r
  obtain ⟨dw, t, ew, et⟩ := R0.rat
  cases hcal : M.calling with
  | true =>
    have hA : actM m M xs = some (evs, M', ys) := by
      unfold advM at hF
      rw [if_pos hcal] at hF
      exact hF
    refine ⟨_, pss_cons (ps_set (i := 3) scAD.nd rfl (.inl rfl) (pe_ix ix_list (pv 1) (pe_fld (pv 0) rfl) (fun _ _ => rfl)))
      (pss_cons (ps_if (pt_val (pe_fld (pv 0) rfl)) (pss_one (ps_ret (pe_call GT hr rfl gT kT bT .nil pass0 (pa_cons (pv 0) (pa_cons (pv 3) (pa_cons (pv 2) pa_nil)))))) pss_nil)
      (PSs.nox (pss_cons ps_never (pss_one ps_never)))), ?_⟩
    refine ⟨_, rfl, _, rfl, q.r, Cn, dr, _, _, rfl, er, T.cn, T.nl, lkN1 M q c.k, R, _, _, V.ref row, rfl, rfl, SqL.of hR, atI_nat (by rw [List.getElem?_map, hrow]; rfl), ?_⟩
    refine ⟨_, rfl, q.r, Cn, dr, _, _, rfl, er, T.cn, T.nc, lkN2 M q c.k, _, rfl, ?_⟩
    rw [hcal]
    exact iteT ⟨_, rfl, _, rfl, _, rfl, tNil_i ⟨q, c, row, M, xs, m, evs, M', ys, rfl, R0, hA, k⟩⟩
  | false =>
  have main : ∀ G : StepM, Act P w K mg base Cn Cc Cr aL m.word G → G m M xs = some (evs, M', ys) → ∃ t, PSs (cxOf CX0 P w K mg base nAD "advance" (defScope sAdvance) f cdv A outer s H E).nox (defBody sAdvance) t ∧ t { nx := fun _ H' => Q .non H', rt := Q } (start nAD [.ref q.r, .ref R, .ref c.c]) H := by
    intro G D hG
    obtain ⟨fA, fdA, kd, kA, bA, GA⟩ := D.ex
    refine ⟨_, pss_cons (ps_set (i := 3) scAD.nd rfl (.inl rfl) (pe_ix ix_list (pv 1) (pe_fld (pv 0) rfl) (fun _ _ => rfl)))
      (pss_cons (ps_if (pt_val (pe_fld (pv 0) rfl)) (pss_one ps_never) pss_nil)
      (pss_cons (ps_set (i := 4) scAD.nd rfl (.inl rfl) (pe_ix ix_kdict (pe_glob (v := .ref aL) (by rfl) gL rfl) (pe_fld (pv 3) rfl) (fun _ _ => rfl)))
      (pss_one (ps_ret (pe_callL (i := 4) GA hr rfl (.inl rfl) kA bA .nil pass0 (pa_cons (pv 0) (pa_cons (pv 3) (pa_cons (pv 2) pa_nil)))))))), ?_⟩
    refine ⟨_, rfl, _, rfl, q.r, Cn, dr, _, _, rfl, er, T.cn, T.nl, lkN1 M q c.k, R, _, _, V.ref row, rfl, rfl, SqL.of hR, atI_nat (by rw [List.getElem?_map, hrow]; rfl), ?_⟩
    refine ⟨_, rfl, q.r, Cn, dr, _, _, rfl, er, T.cn, T.nc, lkN2 M q c.k, _, rfl, ?_⟩
    rw [hcal]
    exact iteF ⟨_, rfl, row, Cr, dw, _, _, rfl, ew, TR.cr, TR.rw, lkR1 m t, aL, m.word, .ref fA, rfl, rfl, kd, rfl, _, rfl, _, rfl, _, rfl, q, c, row, M, xs, m, evs, M', ys, rfl, R0, hG, k⟩
  have hA : lineM m M xs = some (evs, M', ys) := by
    unfold advM at hF
    rw [if_neg (by rw [hcal]; exact Bool.false_ne_true)] at hF
    exact hF
  unfold lineM at hA
  by_cases c1 : m.word = ("input" : Str)
  · rw [if_pos c1] at hA
    exact main inputM (c1 ▸ DA.inp) hA
  rw [if_neg c1] at hA
  by_cases c2 : m.word = ("copy" : Str)
  · rw [if_pos c2] at hA
    exact main copyM (c2 ▸ DA.cpy) hA
  rw [if_neg c2] at hA
  by_cases c3 : m.word = ("point" : Str)
  · rw [if_pos c3] at hA
    exact main pointM (c3 ▸ DA.pnt) hA
  rw [if_neg c3] at hA
  by_cases c4 : m.word = ("load" : Str)
  · rw [if_pos c4] at hA
    exact main loadM (c4 ▸ DA.lod) hA
  rw [if_neg c4] at hA
  by_cases c5 : m.word = ("store" : Str)
  · rw [if_pos c5] at hA
    exact main storeM (c5 ▸ DA.sto) hA
  rw [if_neg c5] at hA
  by_cases c6 : m.word = ("use" : Str)
  · rw [if_pos c6] at hA
    exact main useM (c6 ▸ DA.use) hA
  rw [if_neg c6] at hA
  by_cases c7 : m.word = ("call" : Str)
  · rw [if_pos c7] at hA
    exact main callM (c7 ▸ DA.cal) hA
  rw [if_neg c7] at hA
  by_cases c8 : m.word = ("same" : Str)
  · rw [if_pos c8] at hA
    exact main sameLM (c8 ▸ DA.sam) hA
  rw [if_neg c8] at hA
  by_cases c9 : m.word = ("loop" : Str)
  · rw [if_pos c9] at hA
    exact main loopM (c9 ▸ DA.lop) hA
  rw [if_neg c9] at hA
  by_cases c10 : m.word = ("maybe" : Str)
  · rw [if_pos c10] at hA
    exact main maybeM (c10 ▸ DA.mab) hA
  rw [if_neg c10] at hA
  cases hA
end
end FP
set_option Elab.async false
set_option linter.all false
set_option maxRecDepth 100000
set_option maxHeartbeats 4000000
namespace FP
open PySem PySem.Spec PyProof.Rows L2
theorem swD_true {kx vx : Expr} {gs : List Comprehension} {scope : Scope} {pos py : Pos} {y : Str} {l : Nat} {env : Env} (hk : env.scope.kind = .function) (hy : env.scope.names.lookup y = some .local) (hl : (py.line == pos.line) = true)
    (ha : (scope.names.any fun (n, k) => n == y && (k == .local || k == .cell)) = false) : swapsWith (.DictComp kx vx gs scope pos) (some (.Name y py)) l env = pure true := by
  have ky : env.kindOf y = some .local := hy
  have hb : env.blockKind = .function := by unfold Env.blockKind; rw [hk]; rfl
  unfold swapsWith
  simp only [hb, ky, ha, Expr.pos, hl]
  rfl
section
variable {X : Cx}
/-- y = {k: v for ..} -/
theorem ps_setDc {i : Nat} {y : Str} {py : Pos} {kx vx tg iter : Expr} {ifs : List Expr} {scope : Scope} {own : List (Str × Nat)} {pos spos : Pos} {wi : TI} {g : TG} {tt : TT} {tk tv : TE} (hc : X.calm = true) (hN : X.N.Nodup) (hy : X.N[i]? = some y) (hyl : X.env.scope.names.lookup y = some .local)
    (hsw : swapsWith (.DictComp kx vx [⟨tg, iter, ifs, 0⟩] scope pos) (some (.Name y py)) spos.line X.env = pure true) (hi : PI X tg iter wi) (ok : BlkOk X.N X.env.scope scope own)
    (hg : ∀ (s : Shared) (H : Hp) (C : Addr) (cl : List (Str × Addr)) (fp : List Addr), PG (X.blk s H scope (compEnvC scope cl C X.env) fp) tg g) (ht : ∀ (s : Shared) (H : Hp) (C : Addr) (cl : List (Str × Addr)) (fp : List Addr), PTs (X.blk s H scope (compEnvC scope cl C X.env) fp) ifs tt)
    (hk : ∀ (s : Shared) (H : Hp) (C : Addr) (cl : List (Str × Addr)) (fp : List Addr), PE (X.blk s H scope (compEnvC scope cl C X.env) fp) kx tk)
    (he : ∀ (s : Shared) (H : Hp) (C : Addr) (cl : List (Str × Addr)) (fp : List Addr), PE (X.blk s H scope (compEnvC scope cl C X.env) fp) vx tv) (hs : ∀ x, foldedSetIterable iter X.env x = pure x := by intro _; rfl) :
    PS X (.Assign [.Name y py] (.DictComp kx vx [⟨tg, iter, ifs, 0⟩] scope pos) spos) (tAsg (tDc wi g tt tk tv (own.map (·.2))) (gName i)) := by
  refine ⟨fun pins s σ H D I h => ?_⟩
  rw [exec_Assign_Name_used _ _ _ _ hsw]
  refine wpAny_bind (wpAny_standAt (wpAny_bind ?_))
  show wpAny _ X.A (do let _ ← comprehension (.DictComp kx vx [⟨tg, iter, ifs, 0⟩] scope pos) scope X.env (firstIterPos [⟨tg, iter, ifs, 0⟩] pos) newDict false (eval iter X.env) (some (assign (.Name y py) X.env))) _ _ s
  have h : tDc wi g tt tk tv (own.map (·.2)) σ H (fun x H1 => gName i x σ H1 D.nx) := h
  refine wpAny_bind (thn (dc_core (Qf := fun _ s' => SP X pins D .next s') hc hN I hi ok hg ht hk he hs h fun L C s' m H' I' q hn f => ?_) fun _ s' hq => wpAny_pure (wpAny_pure hq))
  show wpAny _ _ (assign (.Name y py) X.env (.ref L)) _ _ _
  refine wpAny_assign_Name (store_ok2 (v := V.ref L) I' hN hy (.inl hyl) rfl (fun s2 I2 ⟨a, sb, ha⟩ => ?_) (.inr hyl))
  obtain ⟨f0, f1, f2, f3, f4, f5⟩ := f
  have haC : C ≠ a := by
    rcases ha with z | z
    · rw [z]; exact f1
    · exact fun e => f4 y a z e.symm
  refine ⟨m, hn.sameBut sb haC, fun h3 sb3 => ?_⟩
  exact ⟨_, H', I2.turned (t' := s2.toks) (fun b o hb e => (sb3.2 b hb).trans e) f0 f1 f3 f4 f5, q⟩
end
/-- a dict comprehension over a walk -/
theorem dc_it {J : It} {n : Nat} {G : Hp → Prop} {Y : Nat → Hp → V → Hp → Prop} (wk : L2.Walk J n G Y) {g : TG} {tt : TT} {tk tv : TE} {vs : List Nat} {σ : L2.St} {H1 : Hp} {D : Addr} {Qd : Hp → Prop} (Pv : Nat → Hp → Prop) (h0 : Pv 0 (upd H1 D (.dK []))) (hG : ∀ i H, i ≤ n → Pv i H → G H)
    (hs : ∀ i x H H', i < n → Pv i H → Y i H x H' → g x (wipe σ vs) H' fun σ2 H2 => wipe σ2 vs = wipe σ vs ∧ tt σ2 H2 fun b H3 =>
      if b = true then tk σ2 H3 fun y H4 => tv σ2 H4 fun z H5 => ∃ kvs k, y = kV k ∧ H5 D = some (.dK kvs) ∧ kvs.length < sizeLine ∧ Pv (i + 1) (upd H5 D (.dK (putK kvs k z))) else Pv (i + 1) H3) (hd : ∀ H, Pv n H → Qd H) :
    ∃ W : Nat → Nat → Hp → Prop, (∃ m, W 0 m (upd H1 D (.dK []))) ∧ ∀ i m H, W i m H →
      (J.stop i H ∧ Qd H) ∨ (J.go i H ∧ ∃ Nx : Hp → Prop, (∀ H', Nx H' → ∃ m', m' < m ∧ W (i + 1) m' H') ∧ ∀ x H', J.yld i H x H' → g x (wipe σ vs) H' fun σ2 H2 => wipe σ2 vs = wipe σ vs ∧ tt σ2 H2 fun b H3 =>
        if b = true then tk σ2 H3 fun y H4 => tv σ2 H4 fun z H5 => ∃ kvs k, y = kV k ∧ H5 D = some (.dK kvs) ∧ kvs.length < sizeLine ∧ Nx (upd H5 D (.dK (putK kvs k z))) else Nx H3) := by
  refine ⟨fun i m H => m = n - i ∧ i ≤ n ∧ Pv i H, ⟨n, by simp, Nat.zero_le _, h0⟩, ?_⟩
  rintro i m H ⟨rfl, hi, p⟩
  have q := hG i H hi p
  by_cases hlt : i < n
  · exact .inr ⟨wk.goes i H hlt q, Pv (i + 1), fun H' p' => ⟨n - (i + 1), by omega, rfl, hlt, p'⟩, fun x H' y => hs i x H H' hlt p (wk.yields i H x H' hlt q y)⟩
  · have e : i = n := by omega
    subst e
    exact .inl ⟨wk.stops H q, hd H p⟩
theorem homeOf_fresh {l : List (Str × Nat)} {x : Str} (h : ∀ q ∈ l, q.1 ≠ x) : homeOf l x = none := by
  unfold homeOf
  rw [Option.map_eq_none_iff, List.find?_eq_none]
  intro q hq z
  exact h q hq (of_decide_eq_true z)
/-! ### lists or tuples -/
theorem PI.ex {ι : Type} {X : Cx} {tg iter : Expr} {wi : ι → TI} (h : ∀ i, PI X tg iter (wi i)) : PI X tg iter (fun σ H R => ∃ i, wi i σ H R) :=
  ⟨fun pins s σ H R I z => let ⟨i, q⟩ := z; (h i).run pins s σ H R I q⟩
def ItA (K : PySem.W.Frag) (l : Bool) (a : Addr) : It := match l with
  | true => Itl K a
  | false => Itt K a
def iSeqB (K : PySem.W.Frag) (te : TE) (l : Bool) : TI := fun σ H R => te σ H fun x H1 => ∃ a, x = .ref a ∧ (∃ xs, SqB K l H1 a xs) ∧ R (ItA K l a) H1
theorem pi_any {X : Cx} {tg e : Expr} {te : TE} (he : PE X e te) : PI X tg e (fun σ H R => ∃ l, iSeqB X.K te l σ H R) :=
  PI.ex fun l => match l with
    | true => pi_list he
    | false => pi_tup he
theorem walk_seqB {K : PySem.W.Frag} {l : Bool} {a : Addr} {xs : List V} : L2.Walk (ItA K l a) xs.length (fun H => SqB K l H a xs) (YAt xs) := match l with
  | true => walk_list
  | false => walk_tup
theorem pi_enumA {X : Cx} {e : Expr} {ta : TA} {p pos tpos : Pos} {elts : List Expr} {kk : Nat} (hg : Gl X "enumerate") (hm : X.mg "enumerate" = none) (ha : PA X [e] ta) (hs : starEach [e] X.env = [(false, eval e X.env)] := by rfl) :
    PI X (.Tuple elts kk tpos) (.Call (.Name "enumerate" p) [e] [] pos) (fun σ H R => ∃ l, iEnumB X.K l ta σ H R) := PI.ex fun l => pi_enumB l hg hm ha hs
theorem SqB.or {K : PySem.W.Frag} {l : Bool} {H : Hp} {a : Addr} {xs : List V} (h : SqB K l H a xs) : SqL K H a xs ∨ SqT K H a xs := match l, h with
  | true, h => .inl h
  | false, h => .inr h
theorem Same.seqT {K : PySem.W.Frag} {H H' : Hp} {a : Addr} {xs : List V} (e : Same H H') (h : SqT K H a xs) : SqT K H' a xs := by
  rcases h with (h | ⟨o, h⟩) | h
  · exact .inl (.inl (e _ _ h))
  · exact .inl (.inr ⟨o, e _ _ h⟩)
  · exact .inr h
theorem SqB.same {K : PySem.W.Frag} {l : Bool} {H H' : Hp} {a : Addr} {xs : List V} (S : Same H H') (h : SqB K l H a xs) : SqB K l H' a xs := match l, h with
  | true, h => Same.seq S h
  | false, h => Same.seqT S h
/-! ### layouts -/
def LotsAt (K : PySem.W.Frag) (H : Hp) : List Addr → List (List Str) → Prop
  | [], [] => True
  | a :: r, l :: ls => (∃ b, SqB K b H a (l.map V.str)) ∧ LotsAt K H r ls
  | _, _ => False
def LayAt (K : PySem.W.Frag) (H : Hp) (lay : Addr) (ls : List (List Str)) : Prop := ∃ b las, SqB K b H lay (las.map V.ref) ∧ LotsAt K H las ls
theorem LotsAt.same {K : PySem.W.Frag} {H H' : Hp} (S : Same H H') : ∀ {las : List Addr} {ls : List (List Str)}, LotsAt K H las ls → LotsAt K H' las ls
  | [], [], _ => trivial
  | _ :: _, _ :: _, ⟨⟨b, h⟩, r⟩ => ⟨⟨b, h.same S⟩, LotsAt.same S r⟩
  | [], _ :: _, h => h.elim
  | _ :: _, [], h => h.elim
theorem LayAt.same {K : PySem.W.Frag} {H H' : Hp} {lay : Addr} {ls : List (List Str)} (h : LayAt K H lay ls) (S : Same H H') : LayAt K H' lay ls := by
  obtain ⟨b, las, h1, h2⟩ := h
  exact ⟨b, las, h1.same S, h2.same S⟩
theorem LotsAt.len {K : PySem.W.Frag} {H : Hp} : ∀ {las : List Addr} {ls : List (List Str)}, LotsAt K H las ls → las.length = ls.length
  | [], [], _ => rfl
  | _ :: _, _ :: _, ⟨_, r⟩ => congrArg (· + 1) (LotsAt.len r)
  | [], _ :: _, h => h.elim
  | _ :: _, [], h => h.elim
theorem LotsAt.get {K : PySem.W.Frag} {H : Hp} : ∀ {las : List Addr} {ls : List (List Str)}, LotsAt K H las ls → ∀ {i : Nat} {v : V}, (las.map V.ref)[i]? = some v → ∃ a l, v = .ref a ∧ ls[i]? = some l ∧ ∃ b, SqB K b H a (l.map V.str)
  | _ :: _, _ :: _, ⟨h, _⟩, 0, v, e => by cases e; exact ⟨_, _, rfl, rfl, h⟩
  | _ :: _, _ :: _, ⟨_, r⟩, i + 1, v, e => LotsAt.get r (i := i) e
  | [], [], _, i, v, e => by cases e
  | [], _ :: _, h, _, _, _ => h.elim
  | _ :: _, [], h, _, _, _ => h.elim
structure GoodLay (cells : List Str) (ls : List (List Str)) : Prop where
  lots : ∀ lot ∈ ls, lot ≠ [] ∧ ∀ x ∈ lot, x ∈ cells
  nd : ls.flatten.Nodup
theorem good_nil (cells : List Str) : GoodLay cells [] := ⟨fun _ h => (by cases h), .nil⟩
theorem nodup_len : ∀ {l m : List Str}, l.Nodup → (∀ x ∈ l, x ∈ m) → l.length ≤ m.length
  | [], m, _, _ => Nat.zero_le _
  | x :: r, m, h, s => by
    have hx := s x List.mem_cons_self
    obtain ⟨hn, hr⟩ := List.nodup_cons.mp h
    have := nodup_len (m := m.erase x) hr fun y hy => by
      have : y ≠ x := fun z => hn (z ▸ hy)
      exact (List.mem_erase_of_ne this).mpr (s y (List.mem_cons_of_mem _ hy))
    rw [List.length_erase_of_mem hx] at this
    have h0 : 0 < m.length := List.length_pos_of_mem hx
    rw [List.length_cons]
    omega
theorem GoodLay.small {cells : List Str} {ls : List (List Str)} (G : GoodLay cells ls) : ls.flatten.length ≤ cells.length := by
  refine nodup_len G.nd fun x hx => ?_
  obtain ⟨lot, h1, h2⟩ := List.mem_flatten.mp hx
  exact (G.lots lot h1).2 x h2
theorem flat_sub (ls : List (List Str)) (n : Nat) : ((ls.take n).flatten).Sublist ls.flatten := by
  have e : ls.flatten = (ls.take n).flatten ++ (ls.drop n).flatten := by rw [← List.flatten_append, List.take_append_drop]
  rw [e]
  exact List.sublist_append_left _ _
def metV (l : List Str) : List (Key × V) := l.map fun x => (Sum.inr x, V.bl true)
theorem val_met (l : List Str) (x : Str) : valV (metV l) (Sum.inr x : Key) = if x ∈ l then some (.bl true) else none := by
  unfold valV metV
  rw [List.find?_map]
  induction l with
  | nil => rfl
  | cons y r ih =>
    rw [List.find?_cons]
    have e : ((fun kv : Key × V => decide (kv.1 = Sum.inr x)) ∘ fun z : Str => (Sum.inr z, V.bl true)) y = decide (y = x) := decide_eq_decide.mpr ⟨fun z => Sum.inr.inj z, fun z => congrArg Sum.inr z⟩
    rw [e]
    by_cases c : y = x
    · rw [decide_eq_true c, if_pos (by rw [c]; exact List.mem_cons_self)]
      rfl
    · rw [decide_eq_false c]
      rw [ih]
      have : x ∈ y :: r ↔ x ∈ r := ⟨fun z => (List.mem_cons.mp z).resolve_left fun w => c w.symm, List.mem_cons_of_mem _⟩
      by_cases d : x ∈ r
      · rw [if_pos d, if_pos (this.mpr d)]
      · rw [if_neg d, if_neg fun z => d (this.mp z)]
section
variable {P : Program} {w : World} {K : PySem.W.Frag} {mg : Str → Option Value} {base : Heap}
def spCheck (K : PySem.W.Frag) : Sp := fun vs H Q _ => ∃ (a b : Addr) (cells : List Str) (ls : List (List Str)), vs = [.ref a, .ref b] ∧ H a = some (.tup (cells.map V.str)) ∧ cells.length ≤ 1000 ∧ LayAt K H b ls ∧ GoodLay cells ls ∧ ∀ H', Same H H' → Q .non H'
abbrev nCL : List Str := ["cells", "layout", "lot", "name", "met", "index"]
theorem scCL : FnScope nCL ["cells", "layout"] (defScope sCheck) := ⟨rfl, rfl, rfl, by decide +kernel, rfl, by decide +kernel, by decide +kernel⟩
theorem ok_check {f : Addr} {fd : FuncData} (F : Fun K "check_layout" "check_layout" sCheck f fd) (B : Blt2 mg) : FnOk P w K mg base CX0 1 f fd ["cells", "layout"] (spCheck K) := by
  refine F.ok scCL (fun vs H Q E h => ?_) (fun cdv A outer s H vs Q E hr h => ?_)
  · obtain ⟨a, b, cells, ls, rfl, _⟩ := h
    rfl
  obtain ⟨a, b, cells, ls, rfl, ha, hcl, hlay, good, q⟩ := h
  have hu := hu_of hr
  refine ⟨_, pss_cons (ps_for PassesOwn.never rfl (pi_any (pv 1)) (pg_name (i := 2) scCL.nd rfl (Or.inl rfl))
      (pss_one (ps_for PassesOwn.never rfl (pi_any (pv 2)) (pg_name (i := 3) scCL.nd rfl (Or.inl rfl)) (pss_one (ps_if (pt_cmpR op_notIn_seq (pv 3) (pv 0) (by rfl)) (pss_one ps_never) pss_nil)))))
    (pss_cons (ps_set (i := 4) scCL.nd rfl (.inl rfl) pe_dnewK)
    (pss_one (ps_for PassesOwn.never rfl (pi_enumA (by rfl) B.enum (pa_cons (pv 1) pa_nil)) (pg_tup (by rfl) (pgs_cons (pg_name (i := 5) scCL.nd rfl (Or.inl rfl)) (pgs_cons (pg_name (i := 2) scCL.nd rfl (Or.inl rfl)) pgs_nil)))
      (pss_cons (ps_if (pt_cmpR op_eq (pe_callB call_len_seq (by rfl) B.len boot_len (pa_cons (pv 2) pa_nil)) pe_int (nomark _)) (pss_one ps_never) pss_nil)
      (pss_one (ps_for PassesOwn.never rfl (pi_any (pv 2)) (pg_name (i := 3) scCL.nd rfl (Or.inl rfl))
        (pss_cons (ps_if (pt_cmp (pc_din hu (pv 3) (pv 4))) (pss_one ps_never) pss_nil) (pss_one (ps_dput hu (pv 4) (pv 3) pe_bl rfl))))))))), ?_⟩
  obtain ⟨l, las, hl, hlots⟩ := hlay
  have hll := hlots.len
  refine ⟨l, _, rfl, b, rfl, ⟨_, hl⟩, for_it walk_seqB (fun i σ H' => (∃ z2 z3, σ = [some (.ref a), some (.ref b), z2, z3, none, none]) ∧ H' = H) ⟨⟨none, none, rfl⟩, rfl⟩ (fun _ _ H' _ z => by rw [z.2]; exact hl) ?_ ?_⟩
  · rintro i v σ H' H'' hi ⟨⟨z2, z3, rfl⟩, rfl⟩ ⟨rfl, hv⟩
    obtain ⟨x, lot, rfl, hlot, bb, hx⟩ := hlots.get hv
    have hg := (good.lots lot (List.mem_of_getElem? hlot)).2
    refine ⟨bb, _, rfl, x, rfl, ⟨_, hx⟩, for_it walk_seqB (fun j σ H2 => (∃ z3, σ = [some (.ref a), some (.ref b), some (.ref x), z3, none, none]) ∧ H2 = H'') ⟨⟨z3, rfl⟩, rfl⟩ (fun _ _ H2 _ z => by rw [z.2]; exact hx) ?_ ?_⟩
    · rintro j v σ H2 H3 hj ⟨⟨z3, rfl⟩, rfl⟩ ⟨rfl, hv⟩
      rw [List.getElem?_map] at hv
      obtain ⟨nm, h1, rfl⟩ := Option.map_eq_some_iff.mp hv
      refine ⟨_, rfl, _, rfl, a, _, rfl, .inr (SqT.of ha), rfl, str_flat _, ?_⟩
      rw [if_pos rfl, inV_str, decide_eq_true (hg nm (List.mem_of_getElem? h1))]
      exact ⟨_, rfl, iteF ⟨⟨_, rfl⟩, rfl⟩⟩
    · rintro σ H2 ⟨⟨z3, rfl⟩, rfl⟩
      exact ⟨⟨_, _, rfl⟩, rfl⟩
  rintro σ H' ⟨⟨z2, z3, rfl⟩, rfl⟩
  refine fun d hd => ?_
  have S0 : Same H' (upd H' d (.dK [])) := Same.new (Same.refl H') hd
  refine ⟨l, _, rfl, b, _, rfl, hl.same S0, for_it walk_enumB (fun i σ H2 => (∃ z2 z3 z5, σ = [some (.ref a), some (.ref b), z2, z3, some (.ref d), z5]) ∧ Same H' H2 ∧ H2 d = some (.dK (metV ((ls.take i).flatten)))) ⟨⟨_, _, _, rfl⟩, S0, upd_same⟩ (fun _ _ H2 _ z => hl.same z.2.1) ?_ ?_⟩
  · rintro i v σ H2 H3 hi ⟨⟨z2, z3, z5, rfl⟩, S2, e2⟩ ⟨T, x, y, rfl, hT, rfl, hx, hy⟩
    obtain ⟨ax, lot, rfl, hlot, bb, hsx⟩ := hlots.get hy
    have S3 : Same H' (upd H2 T (.tup [x, .ref ax])) := Same.new S2 hT
    have e3 : (upd H2 T (.tup [x, .ref ax])) d = _ := (upd_ne (ne_of_none e2 hT)).trans e2
    have hne := (good.lots lot (List.mem_of_getElem? hlot)).1
    have htk : (ls.take (i + 1)).flatten = (ls.take i).flatten ++ lot := by rw [List.take_add_one, hlot]; simp
    refine ⟨T, _, rfl, SqT.of upd_same, rfl, _, _, rfl, _, _, rfl, rfl, ?_⟩
    generalize upd H2 T (.tup [x, .ref ax]) = H4 at *
    refine ⟨_, rfl, ax, _, rfl, (hsx.same S3).or, rfl, _, rfl, ?_⟩
    rw [List.length_map]
    have hz : decide (V.int ((lot.length : Nat) : Int) = V.int 0) = false := decide_eq_false fun z => hne (List.length_eq_zero_iff.mp (by have := V.int.inj z; omega))
    rw [hz]
    refine iteF ⟨bb, _, rfl, ax, rfl, ⟨_, hsx.same S3⟩, for_it walk_seqB (fun j σ H5 => (∃ z3, σ = [some (.ref a), some (.ref b), some (.ref ax), z3, some (.ref d), some x]) ∧ Same H' H5 ∧ H5 d = some (.dK (metV ((ls.take i).flatten ++ lot.take j)))) ⟨⟨_, rfl⟩, S3, by rw [List.take_zero, List.append_nil]; exact e3⟩ (fun _ _ H5 _ z => hsx.same z.2.1) ?_ ?_⟩
    · rintro j v σ H5 H6 hj ⟨⟨z3, rfl⟩, S5, e5⟩ ⟨rfl, hv⟩
      rw [List.getElem?_map] at hv
      obtain ⟨nm, h1, rfl⟩ := Option.map_eq_some_iff.mp hv
      have hjl := (List.getElem?_eq_some_iff.mp h1).1
      have hfresh : nm ∉ (ls.take i).flatten ++ lot.take j := by
        have nd2 : ((ls.take i).flatten ++ lot).Nodup := by
          rw [← htk]
          exact good.nd.sublist (flat_sub _ _)
        have e : lot = lot.take j ++ lot.drop j := (List.take_append_drop j lot).symm
        rw [e, ← List.append_assoc, List.nodup_append] at nd2
        have hmem : nm ∈ lot.drop j := by rw [List.mem_iff_getElem?]; exact ⟨0, by rw [List.getElem?_drop]; simpa using h1⟩
        intro z
        exact nd2.2.2 nm z nm hmem rfl
      have g := DGet.k (k := Sum.inr nm) e5
      rw [val_met, if_neg hfresh] at g
      have hlen : ((ls.take i).flatten ++ lot.take j).length ≤ 1000 := by
        have h1 : ((ls.take i).flatten ++ lot.take j).length ≤ ((ls.take (i + 1)).flatten).length := by rw [htk, List.length_append, List.length_append, List.length_take]; omega
        have h2 : ((ls.take (i + 1)).flatten).length ≤ ls.flatten.length := (flat_sub _ _).length_le
        have := good.small
        omega
      refine ⟨_, rfl, _, rfl, d, _, rfl, g, _, rfl, iteF ⟨_, rfl, _, rfl, d, _, rfl, DPut.k (k := Sum.inr nm) e5 ?_, ?_⟩⟩
      · unfold metV
        rw [List.length_map, sizeLine_eq]
        omega
      have hput : putK (metV ((ls.take i).flatten ++ lot.take j)) (Sum.inr nm) (.bl true) = metV ((ls.take i).flatten ++ lot.take (j + 1)) := by
        rw [putK_new _ (by rw [val_met, if_neg hfresh]), List.take_add_one, h1, ← List.append_assoc]
        unfold metV
        simp only [List.map_append]
        rfl
      rw [hput]
      refine ⟨⟨_, rfl⟩, fun u o e => ?_, upd_same⟩
      exact (upd_ne (ne_of_none e hd)).trans (S5 u o e)
    · rintro σ H5 ⟨⟨z3, rfl⟩, S5, e5⟩
      rw [List.length_map, List.take_length] at e5
      exact ⟨⟨_, _, _, rfl⟩, S5, by rw [htk]; exact e5⟩
  · rintro σ H2 ⟨_, S2, _⟩
    exact q _ S2
end
end FP
set_option Elab.async false
set_option linter.all false
set_option maxRecDepth 100000
set_option maxHeartbeats 4000000
namespace FP
open PySem PySem.Spec PyProof.Rows L2
theorem put_homes (l : List (Str × Nat)) (k : Str) (v : Nat) : putK (homesV l) (Sum.inr k : Key) (V.int (v : Nat)) = homesV (placesM.putS l k v) := by
  unfold putK homesV placesM.putS
  have e : ∀ q : Str × Nat, ((Sum.inr q.1 : Key) = Sum.inr k) ↔ q.1 = k := fun q => ⟨fun z => Sum.inr.inj z, fun z => by rw [z]⟩
  rw [List.any_map]
  have e2 : ((fun kv : Key × V => decide (kv.1 = Sum.inr k)) ∘ fun q : Str × Nat => (Sum.inr q.1, V.int (q.2 : Nat))) = fun q : Str × Nat => decide (q.1 = k) := by
    funext q
    exact decide_eq_decide.mpr (e q)
  rw [e2]
  split
  · rw [List.map_map, List.map_map]
    refine List.map_congr_left fun q _ => ?_
    show (if (Sum.inr q.1 : Key) = Sum.inr k then _ else _) = _
    by_cases c : q.1 = k
    · rw [if_pos ((e q).mpr c)]
      show _ = (fun q : Str × Nat => ((Sum.inr q.1 : Key), V.int (q.2 : Nat))) (if q.1 = k then (q.1, v) else q)
      rw [if_pos c]
    · rw [if_neg (fun z => c ((e q).mp z))]
      show _ = (fun q : Str × Nat => ((Sum.inr q.1 : Key), V.int (q.2 : Nat))) (if q.1 = k then (q.1, v) else q)
      rw [if_neg c]
  · rw [List.map_append]
    rfl
def cellStep (h : Str) (d : List (Str × Nat)) (c : Str) : Option (List (Str × Nat)) := (homeOf d h).map fun n => placesM.putS d c n
def lotStep (d : List (Str × Nat)) (lot : List Str) : Option (List (Str × Nat)) := lot.foldlM (fun d c => match lot with
    | [] => none
    | h :: _ => (homeOf d h).map fun n => placesM.putS d c n) d
theorem places_eq (cells : List Str) (ls : List (List Str)) : placesM cells ls = ls.foldlM lotStep cells.zipIdx := rfl
theorem lotStep_cons (d : List (Str × Nat)) (h : Str) (r : List Str) : lotStep d (h :: r) = (h :: r).foldlM (cellStep h) d := rfl
theorem putS_keys {d : List (Str × Nat)} {k : Str} {v : Nat} (h : k ∈ d.map (·.1)) : (placesM.putS d k v).map (·.1) = d.map (·.1) := by
  unfold placesM.putS
  obtain ⟨q, hq, rfl⟩ := List.mem_map.mp h
  rw [if_pos (List.any_eq_true.mpr ⟨q, hq, decide_eq_true rfl⟩), List.map_map]
  refine List.map_congr_left fun p _ => ?_
  show (if p.1 = q.1 then (p.1, v) else p).1 = p.1
  split <;> rfl
theorem homeOf_mem {d : List (Str × Nat)} {k : Str} (h : k ∈ d.map (·.1)) : ∃ n, homeOf d k = some n := by
  obtain ⟨q, hq, rfl⟩ := List.mem_map.mp h
  unfold homeOf
  cases e : d.find? (fun p => decide (p.1 = q.1)) with
  | some p => exact ⟨p.2, rfl⟩
  | none =>
    rw [List.find?_eq_none] at e
    exact absurd (decide_eq_true rfl) (e q hq)
theorem foldlM_take {β : Type} {α : Type} (f : β → α → Option β) (d : β) (l : List α) {i : Nat} {x : α} (h : l[i]? = some x) : (l.take (i + 1)).foldlM f d = ((l.take i).foldlM f d).bind fun e => f e x := by
  rw [List.take_add_one, h, List.foldlM_append]
  congr 1
  funext e
  show [x].foldlM f e = f e x
  rw [List.foldlM_cons]
  cases f e x <;> rfl
section
variable {P : Program} {w : World} {K : PySem.W.Frag} {mg : Str → Option Value} {base : Heap}
def spPlaces (K : PySem.W.Frag) : Sp := fun vs H Q _ => ∃ (a b : Addr) (cells : List Str) (ls : List (List Str)), vs = [.ref a, .ref b] ∧ H a = some (.tup (cells.map V.str)) ∧ cells.Nodup ∧ cells.length ≤ 1000 ∧ LayAt K H b ls ∧ GoodLay cells ls ∧
  ∀ d H' pl, Same H H' → H d = none → placesM cells ls = some pl → H' d = some (.dK (homesV pl)) → Q (.ref d) H'
abbrev nPL : List Str := ["cells", "layout", "places", "lot", "cell", "number"]
theorem scPL : FnScope nPL ["cells", "layout"] (defScope sPlaces) := ⟨rfl, rfl, rfl, by decide +kernel, rfl, by decide +kernel, by decide +kernel⟩
theorem ok_places {f : Addr} {fd : FuncData} (F : Fun K "places_in" "places_in" sPlaces f fd) (B : Blt2 mg) : FnOk P w K mg base CX0 1 f fd ["cells", "layout"] (spPlaces K) := by
  refine F.ok scPL (fun vs H Q E h => ?_) (fun cdv A outer s H vs Q E hr h => ?_)
  · obtain ⟨a, b, cells, ls, rfl, _⟩ := h
    rfl
  obtain ⟨a, b, cells, ls, rfl, ha, hnd, hl, hlay, good, q⟩ := h
  have hu := hu_of hr
  refine ⟨_, pss_cons (ps_setDc (i := 2) (own := [("number", 5), ("cell", 4)]) (g := gTup K 2 (gCons (gName 5) (gCons (gName 4) gNil))) (tt := tYes) (tk := tVar 4) (tv := tVar 5) (by rfl) scPL.nd rfl rfl (swD_true rfl rfl rfl (by decide +kernel))
      (pi_enumB false (by rfl) B.enum (pa_cons (pv 0) pa_nil)) (blkOk_by (own := [("number", 5), ("cell", 4)]) (N := nPL) (sc := defScope sPlaces) (by decide +kernel))
      (fun _ _ _ _ _ => pg_tup (by rfl) (pgs_cons (pg_name (i := 5) scPL.nd rfl (Or.inl rfl)) (pgs_cons (pg_name (i := 4) scPL.nd rfl (Or.inl rfl)) pgs_nil))) (fun _ _ _ _ _ => pts_nil) (fun _ _ _ _ _ => pv 4) (fun _ _ _ _ _ => pv 5))
    (pss_cons (ps_for PassesOwn.never rfl (pi_any (pv 1)) (pg_name (i := 3) scPL.nd rfl (Or.inl rfl))
      (pss_one (ps_for PassesOwn.never rfl (pi_any (pv 3)) (pg_name (i := 4) scPL.nd rfl (Or.inl rfl)) (pss_one (ps_dput hu (pv 2) (pv 4) (pe_dget hu (pv 2) (pe_ix ix_seq (pv 3) pe_int (fun _ _ => rfl)) (fun _ _ => rfl)) rfl)))))
    (pss_one (ps_ret (pv 2)))), ?_⟩
  refine ⟨_, rfl, a, _, rfl, SqT.of ha, fun D hD => dc_it (walk_enumB (K := K) (l := false) (k := 0) (a := a) (xs := cells.map V.str)) (fun n H' => Same H H' ∧ H' D = some (.dK (homesV (cells.zipIdx.take n)))) ⟨Same.new (Same.refl H) hD, upd_same⟩ (fun _ H' _ z => SqT.of (z.1 _ _ ha)) ?_ ?_⟩
  · rintro n v H' H'' hn ⟨S1, eD⟩ ⟨T, x, y, rfl, hT, rfl, hx, hy⟩
    rw [List.length_map] at hn
    obtain rfl : V.int (0 + (n : Nat)) = x := Option.some.inj hx
    replace hy : (cells.map V.str)[n]? = some y := hy
    rw [List.getElem?_map, List.getElem?_eq_getElem hn] at hy
    obtain rfl : V.str cells[n] = y := Option.some.inj hy
    have eD2 : (upd H' T (.tup [.int (0 + (n : Nat)), .str cells[n]])) D = _ := (upd_ne (ne_of_none eD hT)).trans eD
    have htk : cells.zipIdx.take (n + 1) = cells.zipIdx.take n ++ [(cells[n], n)] := by
      rw [List.take_add_one, List.getElem?_eq_getElem (by rw [List.length_zipIdx]; exact hn), List.getElem_zipIdx]
      simp
    refine ⟨T, _, rfl, SqT.of upd_same, rfl, _, _, rfl, _, _, rfl, rfl, rfl, _, rfl, _, rfl, _, Sum.inr cells[n], rfl, eD2, ?_, ?_, ?_⟩
    · unfold homesV
      rw [List.length_map, List.length_take, List.length_zipIdx, sizeLine_eq]
      omega
    · intro c o e
      rw [upd_ne (ne_of_none e hD)]
      have e1 := S1 c o e
      exact (upd_ne (ne_of_none e1 hT)).trans e1
    · rw [upd_same, putK_new, htk]
      · unfold homesV
        rw [List.map_append, Int.zero_add]
        rfl
      · rw [val_homes, homeOf_fresh]
        · rfl
        · intro q hq
          obtain ⟨i, hi⟩ := List.mem_iff_getElem?.mp hq
          have hil := (List.getElem?_eq_some_iff.mp hi).1
          rw [List.length_take, List.length_zipIdx] at hil
          rw [List.getElem?_take, if_pos (by omega), List.getElem?_eq_getElem (by rw [List.length_zipIdx]; omega), List.getElem_zipIdx] at hi
          rw [← Option.some.inj hi]
          intro z
          have := (List.getElem?_inj (show i < cells.length by omega) hnd).mp ((List.getElem?_eq_getElem (show i < cells.length by omega)).trans ((congrArg some z).trans (List.getElem?_eq_getElem hn).symm))
          omega
  · rintro H' ⟨S1, eD⟩
    rw [List.length_map, List.take_of_length_le (by rw [List.length_zipIdx]; exact Nat.le_refl _)] at eD
    obtain ⟨l, las, hlv, hlots⟩ := hlay
    have hll := hlots.len
    have keys0 : (cells.zipIdx.map (·.1)) = cells := by simp
    have sml : ∀ d : List (Str × Nat), d.map (·.1) = cells → (homesV d).length < sizeLine := fun d hd => by
      have := congrArg List.length hd
      rw [List.length_map] at this
      unfold homesV
      rw [List.length_map, sizeLine_eq]
      omega
    refine ⟨l, _, rfl, b, rfl, ⟨_, hlv.same S1⟩, for_it walk_seqB (fun i σ H2 => (∃ z3 z4, σ = [some (.ref a), some (.ref b), some (.ref D), z3, z4, none]) ∧ Same H H2 ∧ ∃ d, (ls.take i).foldlM lotStep cells.zipIdx = some d ∧ d.map (·.1) = cells ∧ H2 D = some (.dK (homesV d))) ⟨⟨_, _, rfl⟩, S1, _, rfl, keys0, eD⟩ (fun _ _ H2 _ z => hlv.same z.2.1) ?_ ?_⟩
    · rintro i v σ H2 H3 hi ⟨⟨z3, z4, rfl⟩, S2, d, hd, hk, e2⟩ ⟨rfl, hv⟩
      obtain ⟨ax, lot, rfl, hlot, bb, hsx⟩ := hlots.get hv
      obtain ⟨hne, hg⟩ := good.lots lot (List.mem_of_getElem? hlot)
      cases lot with
      | nil => exact absurd rfl hne
      | cons h0 r0 =>
      refine ⟨bb, _, rfl, ax, rfl, ⟨_, hsx.same S2⟩, for_it walk_seqB (fun j σ H5 => (∃ z4, σ = [some (.ref a), some (.ref b), some (.ref D), some (.ref ax), z4, none]) ∧ Same H H5 ∧ ∃ d', ((h0 :: r0).take j).foldlM (cellStep h0) d = some d' ∧ d'.map (·.1) = cells ∧ H5 D = some (.dK (homesV d'))) ⟨⟨_, rfl⟩, S2, _, rfl, hk, e2⟩ (fun _ _ H5 _ z => hsx.same z.2.1) ?_ ?_⟩
      · rintro j v σ H5 H6 hj ⟨⟨z4, rfl⟩, S5, d', hd', hk', e5⟩ ⟨rfl, hv⟩
        rw [List.getElem?_map] at hv
        obtain ⟨nm, h1, rfl⟩ := Option.map_eq_some_iff.mp hv
        obtain ⟨n0, hn0⟩ := homeOf_mem (d := d') (k := h0) (by rw [hk']; exact hg h0 List.mem_cons_self)
        have g1 := DGet.k (k := Sum.inr h0) e5
        rw [val_homes, hn0] at g1
        have at0 : atI ((h0 :: r0).map V.str) (0 : Int) = some (.str h0) := atI_nat (j := 0) rfl
        have hix : (∃ p items i v, V.ref ax = .ref p ∧ V.int 0 = .int i ∧ SqL K H6 p items ∧ atI items i = some v ∧ v = .str h0) ∨ (∃ p items i v, V.ref ax = .ref p ∧ V.int 0 = .int i ∧ SqT K H6 p items ∧ atI items i = some v ∧ v = .str h0) := by
          rcases (hsx.same S5).or with z | z
          · exact .inl ⟨ax, _, 0, _, rfl, rfl, z, at0, rfl⟩
          · exact .inr ⟨ax, _, 0, _, rfl, rfl, z, at0, rfl⟩
        have fin : ∃ a H4, V.ref D = .ref a ∧ DPut H6 a (.str nm) (.int (n0 : Nat)) H4 ∧ ((∃ z4, [some (V.ref a), some (.ref b), some (.ref D), some (.ref ax), some (.str nm), none] = [some (V.ref a), some (.ref b), some (.ref D), some (.ref ax), z4, none]) ∧ Same H H4 ∧ ∃ d'', ((h0 :: r0).take (j + 1)).foldlM (cellStep h0) d = some d'' ∧ d''.map (·.1) = cells ∧ H4 D = some (.dK (homesV d''))) := by
          refine ⟨D, _, rfl, DPut.k (k := Sum.inr nm) e5 (sml d' hk'), ⟨_, rfl⟩, fun u o e => (upd_ne (ne_of_none e hD)).trans (S5 u o e), placesM.putS d' nm n0, ?_, ?_, ?_⟩
          · rw [foldlM_take _ _ _ h1, hd']
            show cellStep h0 d' nm = _
            unfold cellStep
            rw [hn0]
            rfl
          · rw [putS_keys (by rw [hk']; exact hg nm (List.mem_of_getElem? h1)), hk']
          · rw [upd_same, put_homes]
        obtain ⟨aD, H4, f1, f2, f3⟩ := fin
        cases f1
        rcases (hsx.same S5).or with z | z
        · exact ⟨_, rfl, _, rfl, .inl ⟨ax, _, _, _, rfl, rfl, z, at0, D, _, rfl, g1, _, rfl, _, rfl, D, H4, rfl, f2, ⟨_, rfl⟩, f3.2⟩⟩
        · exact ⟨_, rfl, _, rfl, .inr (.inl ⟨ax, _, _, _, rfl, rfl, z, at0, D, _, rfl, g1, _, rfl, _, rfl, D, H4, rfl, f2, ⟨_, rfl⟩, f3.2⟩)⟩
      · rintro σ H5 ⟨⟨z4, rfl⟩, S5, d', hd', hk', e5⟩
        rw [List.length_map, List.take_length] at hd'
        exact ⟨⟨_, _, rfl⟩, S5, d', by rw [foldlM_take _ _ _ hlot, hd]; exact hd', hk', e5⟩
    · rintro σ H2 ⟨⟨z3, z4, rfl⟩, S2, d, hd, hk, e2⟩
      rw [List.length_map, hll, List.take_length] at hd
      exact ⟨_, rfl, q D _ d S2 hD hd e2⟩
end
end FP
set_option Elab.async false
set_option linter.all false
set_option maxRecDepth 100000
set_option maxHeartbeats 4000000
namespace FP
open PySem PySem.Spec PyProof.Rows L2 GenW
theorem okG_ok {m : RowM} {M : RunM} {xs : List Int} (h : okG m M xs = true) : RunOk M ∧ xs.length ≤ 1000000 ∧ ∀ x ∈ m.names, x.length ≤ 1000 := by
  unfold okG RunM.okB at h
  rw [Bool.and_eq_true, Bool.and_eq_true, Bool.and_eq_true, Bool.and_eq_true, Bool.and_eq_true] at h
  obtain ⟨⟨⟨⟨⟨h1, h2⟩, h3⟩, h4⟩, h5⟩, h6⟩ := h
  refine ⟨⟨of_decide_eq_true h1, of_decide_eq_true h2, fun n x hx => ?_, fun c hc => of_decide_eq_true (List.all_eq_true.mp h4 c hc)⟩, of_decide_eq_true h5, fun x hx => of_decide_eq_true (List.all_eq_true.mp h6 x hx)⟩
  unfold heldOf at hx
  obtain ⟨p, hp, rfl⟩ := Option.map_eq_some_iff.mp hx
  have := List.all_eq_true.mp h3 p (List.mem_of_find?_eq_some hp)
  cases e : p.2 with
  | un => exact trivial
  | i n => exact trivial
  | a c =>
    rw [e] at this
    show c.length ≤ 1000
    exact of_decide_eq_true this
/-- the events, as they lie in the heap -/
def OutAt (H : Hp) (out : List V) (evs : List Ev) : Prop := ∃ ts : List Addr, out = ts.map V.ref ∧ Tups H ts evs
theorem OutAt.app {H : Hp} {o1 o2 : List V} {e1 e2 : List Ev} (a : OutAt H o1 e1) (b : OutAt H o2 e2) : OutAt H (o1 ++ o2) (e1 ++ e2) := by
  obtain ⟨t1, rfl, f1⟩ := a
  obtain ⟨t2, rfl, f2⟩ := b
  exact ⟨t1 ++ t2, by rw [List.map_append], f1.app f2⟩
theorem OutAt.same {H H' : Hp} {o : List V} {e : List Ev} (a : OutAt H o e) (S : ∀ b xs, H b = some (.tup xs) → H' b = some (.tup xs)) : OutAt H' o e := by
  obtain ⟨t, rfl, f⟩ := a
  exact ⟨t, rfl, f.mono S⟩
section
variable {P : Program} {w : World} {K : PySem.W.Frag} {mg : Str → Option Value} {base : Heap} {Cn Cc Cr Cs Cp aL : Addr}
def spSteps (K : PySem.W.Frag) (Cp Cr Cs : Addr) : SpG := fun vs H Q _ => ∃ (x o lay : Addr) (text : Str) (M : ShM) (xs : List Int) (ls : List (List Str)) (f : Nat) (evs : List Ev), vs = [.ref x, .ref o, .ref lay] ∧ PgAt Cp Cr Cs H x text M ∧ (SqL K H o (xs.map V.int) ∨ SqT K H o (xs.map V.int)) ∧ LayAt K H lay ls ∧ GoodLay (M.homes.map (·.1)) ls ∧ xs.length ≤ 1000000 ∧
  (M.homes.map (·.1)).Nodup ∧ M.homes.length ≤ 5 ∧ runM M ls f xs = some evs ∧ evs.length ≤ 1000000 ∧ ∀ out H', Same H H' → OutAt H' out evs → Q out H'
abbrev nST : List Str := ["self", "choices", "layout", "rows", "state", "left", "events"]
theorem scST : GScope nST ["self", "choices", "layout"] (defScope mProgram_steps) := ⟨rfl, rfl, rfl, by decide +kernel, rfl, by decide +kernel, by decide +kernel⟩
theorem goM_app {rows : List RowM} : ∀ {f : Nat} {M : RunM} {xs : List Int} {evs : List Ev}, goM rows f M xs = some evs → ∃ g, f = g + 1 := by
  intro f M xs evs h
  cases f with
  | zero => cases h
  | succ g => exact ⟨g, rfl⟩
theorem ok_stepsBody {f : Addr} {cdv : Value} {A : Around} {outer : List Env} {s0 : Shared} {H : Hp} {vs : List V} {Q : List V → Hp → Prop} {E : XK} {pn : List (Addr × Obj)} (hr : Room 5 (gcxOf P w K mg base nST "Program.steps" (defScope mProgram_steps) f cdv A outer s0 H E pn).A)
    (T : PgTxt K mg Cp) (TS : ShTxt K mg Cr Cs) (TN : RnTxt K mg Cn Cc) (B : Blt2 mg)
    (DC : Def P w K mg base "check_layout" 1 ["cells", "layout"] (spCheck K)) (DP : Def P w K mg base "places_in" 1 ["cells", "layout"] (spPlaces K)) (DR : CDef P w K mg base Cn 1 ["self", "places", "line"] (spRunInit Cn)) (DL : CDef P w K mg base Cc 1 ["self", "choices"] (spChoices K Cc))
    (DA : Def P w K mg base "advance" 5 ["run", "rows", "choices"] (spAdv Cn Cc Cr)) (h : spSteps K Cp Cr Cs vs H Q E) :
    ∃ t, GSs (gcxOf P w K mg base nST "Program.steps" (defScope mProgram_steps) f cdv A outer s0 H E pn) (defBody mProgram_steps) t ∧ t { nx := fun ys _ H' => Q ys H', rt := fun ys v H' => v = .non ∧ Q ys H' } [] (L2.start nST vs) H := by
  obtain ⟨fC, fdC, gC, kC, bC, GC⟩ := DC.ex
  obtain ⟨fP, fdP, gP, kP, bP, GP⟩ := DP.ex
  obtain ⟨fR, fdR, mR, bR, GR⟩ := DR.ex
  obtain ⟨fL, fdL, mL, bL, GL⟩ := DL.ex
  obtain ⟨fA, fdA, gA, kA, bA, GA⟩ := DA.ex
  obtain ⟨x, o, lay, text, M, xs, ls, fu, evs, rfl, PA, ho, hlay, good, hxl, hnd, h5, hrun, hevl, k⟩ := h
  have hr1 := hr.mono (show 1 ≤ 5 by decide)
  have hr2 := hr.mono (show 2 ≤ 5 by decide)
  refine ⟨_, gss_cons (gs_ps (ps_expr (pe_call GC hr1 rfl gC kC bC .nil pass0 (pa_cons (pe_fld (pv 0) rfl) (pa_cons (pv 2) pa_nil)))))
    (gss_cons (gs_ps (ps_set (i := 3) scST.nd rfl (.inl rfl) (pe_fld (pe_fld (pv 0) rfl) rfl)))
    (gss_cons (gs_ps (ps_set (i := 4) scST.nd rfl (.inl rfl) (pe_make mR GR hr2 rfl TN.gn bR .nil pass0 (pa_cons (pe_call GP hr1 rfl gP kP bP .nil pass0 (pa_cons (pe_fld (pv 0) rfl) (pa_cons (pv 2) pa_nil))) (pa_cons (pe_fld (pe_ix ix_list (pv 3) pe_int (fun _ _ => rfl)) rfl) pa_nil)))))
    (gss_cons (gs_ps (ps_set (i := 5) scST.nd rfl (.inl rfl) (pe_make mL GL hr2 rfl TN.gc bL .nil pass0 (pa_cons (pv 1) pa_nil))))
    (gss_cons (gs_while owns_gcx (pt_cmpR op_gt (pe_fld (pv 4) rfl) pe_int (nomark _))
      (gss_cons (gs_ps (ps_set (i := 6) scST.nd rfl (.inl rfl) (pe_call GA hr rfl gA kA bA .nil pass0 (pa_cons (pv 4) (pa_cons (pv 3) (pa_cons (pv 5) pa_nil))))))
        (gss_cons (gs_yieldFrom (yf_lst (pv 6)) hr.hd) gss_nil)))
    gss_nil)))), ?_⟩
  obtain ⟨dx, t, s, p, H0, ex, et, ASh⟩ := PA.ex
  obtain ⟨ds, es⟩ := ASh.sh
  obtain ⟨m0, pl, hm0, hpl, hgo⟩ : ∃ m0 pl, M.rows[0]? = some m0 ∧ placesM (M.homes.map (·.1)) ls = some pl ∧ goM M.rows fu ⟨m0.after, false, [], pl, []⟩ xs = some evs := by
    unfold runM at hrun
    split at hrun
    · rename_i m pl e1 e2
      exact ⟨m, pl, e1, e2, hrun⟩
    · cases hrun
  obtain ⟨r0, dr0, t0, hr0, eat0, er0, et0⟩ := ASh.rowsAt hm0
  have h5c : (M.homes.map (·.1)).length ≤ 1000 := by rw [List.length_map]; omega
  refine ⟨_, rfl, x, Cp, dx, _, _, rfl, ex, T.cp, T.nc, rfl, _, rfl, t, lay, M.homes.map (·.1), ls, rfl, et, h5c, hlay, good, fun H1 S1 => ?_⟩
  refine ⟨_, rfl, x, Cp, dx, _, _, rfl, S1 _ _ ex, T.cp, T.ns, rfl, s, Cs, ds, _, _, rfl, S1 _ _ es, TS.cs, TS.sr, lkS1 p, ?_⟩
  refine ⟨_, rfl, x, Cp, dx, _, _, rfl, S1 _ _ ex, T.cp, T.nc, rfl, _, rfl, t, lay, M.homes.map (·.1), ls, rfl, S1 _ _ et, hnd, h5c, hlay.same S1, good, fun d H2 pl' S2 hd hpl' ed => ?_⟩
  rw [hpl] at hpl'
  obtain rfl := Option.some.inj hpl'
  have S12 := S1.trans S2
  refine ⟨_, rfl, p.R, _, _, V.ref r0, rfl, rfl, SqL.of (S12 _ _ ASh.R), eat0, r0, Cr, dr0, _, _, rfl, S12 _ _ er0, TS.cr, TS.ra, lkR3 m0 t0, ?_⟩
  refine fun r rx nr nrx ne => ⟨r, rx, d, m0.after, rfl, upd_same, fun k' h H3 hk hh hkh ek eh er eo => ⟨rfl, ?_⟩⟩
  have S3 : Same H2 H3 := fun b u e => eo b u ((upd_ne (ne_of_none e nr)).trans ((upd_ne (ne_of_none e nrx)).trans e)) (ne_of_none e nr)
  have S13 := S12.trans S3
  have SS : ∀ {H' : Hp}, Same H3 H' → (SqL K H' o (xs.map V.int) ∨ SqT K H' o (xs.map V.int)) := fun S => ho.imp (Same.seq (S13.trans S)) (Same.seqT (S13.trans S))
  refine ⟨_, rfl, fun c cx nc ncx nec => ⟨c, cx, o, xs, rfl, upd_same, SS fun b u e => ?_, fun l H4 hl el ec eo4 => ⟨rfl, ?_⟩⟩⟩
  · exact (upd_ne (ne_of_none e nc)).trans ((upd_ne (ne_of_none e ncx)).trans e)
  have S4 : Same H3 H4 := fun b u e => eo4 b u ((upd_ne (ne_of_none e nc)).trans ((upd_ne (ne_of_none e ncx)).trans e)) (ne_of_none e nc)
  have S14 := S13.trans S4
  have hl3 : H3 l = none := by
    have nlc : l ≠ c := fun z => by rw [z, upd_same] at hl; cases hl
    rw [upd_ne nlc] at hl
    by_cases z : l = cx
    · rw [z, upd_same] at hl; cases hl
    · rwa [upd_ne z] at hl
  have hh2 : H2 h = none := by
    have n1 : h ≠ r := fun z => by rw [z, upd_same] at hh; cases hh
    rw [upd_ne n1] at hh
    by_cases z : h = rx
    · rw [z, upd_same] at hh; cases hh
    · rwa [upd_ne z] at hh
  -- the run, as it begins
  have A0 : BtAt Cn Cc H4 ⟨r, d, h⟩ ⟨c, l, k'⟩ ⟨m0.after, false, [], pl, []⟩ xs := by
    refine ⟨⟨rx, S4 _ _ er⟩, S4 _ _ ek, ne_of_none ek hl3, S4 _ _ (S3 _ _ ed), S4 _ _ eh, (ne_of_none ed hh2).symm, ⟨cx, ec⟩, el, ?_⟩
    intro z
    have z' : r = c := z
    rw [z', nc] at er
    cases er
  have fr1 : H r = none := S12.free nr
  have fr2 : H h = none := S12.free hh2
  have fr3 : H l = none := S13.free hl3
  have butS : ∀ {Ha Hb : Hp} {kk : Addr}, But3 ⟨r, d, h⟩ ⟨c, l, kk⟩ Ha Hb → Same H Ha → Same H Hb := fun b S b' u e => b b' u (ne_of_none e fr1) (ne_of_none e fr2) (ne_of_none e fr3) (S b' u e)
  generalize hq : (⟨r, d, h⟩ : Rt) = q at A0 butS
  have hqr : q.r = r := by rw [← hq]
  refine ⟨fun m ys σ H' => ∃ Mr xs' done rest kk, (∃ z, σ = [some (.ref x), some (.ref o), some (.ref lay), some (.ref p.R), some (.ref q.r), some (.ref c), z]) ∧ BtAt Cn Cc H' q ⟨c, l, kk⟩ Mr xs' ∧ goM M.rows m Mr xs' = some rest ∧ OutAt H' ys done ∧ done ++ rest = evs ∧ Same H H' ∧ ys.length = done.length,
    ⟨fu, _, xs, [], evs, k', ⟨none, by rw [hqr]; rfl⟩, A0, hgo, ⟨[], rfl, trivial⟩, rfl, S14, rfl⟩, ?_⟩
  rintro m ys σ H' ⟨Mr, xs', done, rest, kk, ⟨z, rfl⟩, A1, hgo1, hout, hde, SH, hyl⟩
  obtain ⟨dr, erq⟩ := A1.r
  obtain ⟨g, rfl⟩ := goM_app hgo1
  have hun : goM M.rows (g + 1) Mr xs' = if Mr.line = 0 then some [] else (match M.rows[Mr.line]? with
      | some m => if okG m Mr xs' = true then (advM m Mr xs').bind fun r => (goM M.rows g r.2.1 r.2.2).map (r.1 ++ ·) else none
      | none => none) := rfl
  rw [hun] at hgo1
  refine ⟨_, rfl, q.r, Cn, dr, _, _, rfl, erq, TN.cn, TN.nl, lkN1 Mr q kk, _, _, rfl, rfl, _, rfl, ?_⟩
  by_cases hz : Mr.line = 0
  · rw [if_pos hz] at hgo1
    obtain rfl := Option.some.inj hgo1
    rw [decide_eq_false (show ¬ (0 : Int) < (Mr.line : Nat) by omega)]
    rw [List.append_nil] at hde
    rw [← hde] at k
    exact iteF (k ys H' SH hout)
  · rw [if_neg hz] at hgo1
    cases em : M.rows[Mr.line]? with
    | none => rw [em] at hgo1; cases hgo1
    | some m1 =>
      rw [em] at hgo1
      dsimp only at hgo1
      by_cases hg : okG m1 Mr xs' = true
      case neg => rw [if_neg hg] at hgo1; cases hgo1
      rw [if_pos hg] at hgo1
      obtain ⟨hok, hxl', hnl⟩ := okG_ok hg
      obtain ⟨⟨ev1, M2, ys2⟩, hst, hgo2⟩ := Option.bind_eq_some_iff.mp hgo1
      obtain ⟨rest2, hgo3, hrest⟩ := Option.map_eq_some_iff.mp hgo2
      have ASh' := ASh.grow SH
      obtain ⟨row, drw, trw, hrow, eatr, erw, etw⟩ := ASh'.rowsAt em
      have hne : row ≠ q.r := by
        obtain ⟨d9, t9, m9, e9⟩ := ASh.mem (List.mem_iff_getElem?.mpr ⟨_, hrow⟩)
        rw [hqr]
        exact ne_of_none e9 fr1
      rw [decide_eq_true (show (0 : Int) < (Mr.line : Nat) by omega)]
      refine iteT ⟨fun ys σ H' => ∃ Mr xs' done rest kk, (∃ z, σ = [some (.ref x), some (.ref o), some (.ref lay), some (.ref p.R), some (.ref q.r), some (.ref c), z]) ∧ BtAt Cn Cc H' q ⟨c, l, kk⟩ Mr xs' ∧ goM M.rows g Mr xs' = some rest ∧ OutAt H' ys done ∧ done ++ rest = evs ∧ Same H H' ∧ ys.length = done.length, fun _ _ _ z => ⟨g, Nat.lt_succ_self _, z⟩, ?_⟩
      refine ⟨_, rfl, _, rfl, _, rfl, tNil_i ⟨q, ⟨c, l, kk⟩, p.R, row, p.ras, Mr, xs', m1, ev1, M2, ys2, rfl, ASh'.R, hrow, ⟨A1, ⟨drw, trw, erw, etw⟩, hne, hxl', hok, hnl⟩, hst, fun c5 e H5 hc5 he hev A5 b5 => ?_⟩⟩
      obtain ⟨ts, e1, e2⟩ := hev
      obtain ⟨c5c, c5l, c5k⟩ := c5
      obtain ⟨rfl, rfl, _⟩ := hc5
      have S5 := butS b5 SH
      have hevs : done ++ (ev1 ++ rest2) = evs := by rw [← hde, ← hrest]
      have hlen : (done ++ ev1).length ≤ 1000000 := by
        have := congrArg List.length hevs
        rw [List.length_append, List.length_append] at this
        rw [List.length_append]
        omega
      refine ⟨_, rfl, e, _, rfl, e1, ?_, M2, ys2, done ++ ev1, rest2, c5k, ⟨_, rfl⟩, A5, hgo3, ?_, by rw [List.append_assoc]; exact hevs, S5, ?_⟩
      · rw [List.length_map, e2.len, hyl, sizeLine_eq]
        rw [List.length_append] at hlen
        omega
      · exact OutAt.app (hout.same fun b xs eb => tup_but A1 b5 eb) ⟨ts, rfl, e2⟩
      · rw [List.length_append, List.length_append, List.length_map, e2.len, hyl]
end
end FP
set_option Elab.async false
set_option linter.all false
set_option maxRecDepth 100000
set_option maxHeartbeats 4000000
namespace FP
open PySem PySem.Spec PyProof.Rows L2 GenW
theorem passCX0 {P : Program} {w : World} {X : Cx} : Passes (L2.CX P w) X E0 := fun pins σ H s e s' I h => by
  obtain ⟨a, B, H', cls, d, z⟩ := h
  exact False.elim (by simp [E0] at z)
section
variable {P : Program} {w : World} {K : PySem.W.Frag} {mg : Str → Option Value} {base : Heap} {Cn Cc Cr Cs Cp aL : Addr}
abbrev pSt : List Str := ["self", "choices", "layout"]
theorem ok_steps {f : Addr} {fd : FuncData} {lv : V} (F : FunD K "steps" "Program.steps" (defArgs mProgram_steps) (defBody mProgram_steps) (defScope mProgram_steps) [] [("layout", lv)] f fd)
    (T : PgTxt K mg Cp) (TS : ShTxt K mg Cr Cs) (TN : RnTxt K mg Cn Cc) (B : Blt2 mg)
    (DC : Def P w K mg base "check_layout" 1 ["cells", "layout"] (spCheck K)) (DP : Def P w K mg base "places_in" 1 ["cells", "layout"] (spPlaces K)) (DR : CDef P w K mg base Cn 1 ["self", "places", "line"] (spRunInit Cn)) (DL : CDef P w K mg base Cc 1 ["self", "choices"] (spChoices K Cc))
    (DA : Def P w K mg base "advance" 5 ["run", "rows", "choices"] (spAdv Cn Cc Cr)) : GFn P w K mg base 6 f fd pSt (spSteps K Cp Cr Cs) ∧ ∃ mv : List Value, KBn K fd pSt 2 ["layout"] (fun us ws => us ++ ws) (fun vs zs => vs ++ zs) := by
  refine ⟨?_, ?_⟩
  · obtain ⟨oc, od, dV, kV, doc, pm, an, cdv, ct, osl, rfl, lk, hcd, _, _⟩ := F.ex
    refine gfn_of lk hcd scST (fun vs H Q E h => ?_) (fun A outer s H vs Q E pn hr h => ?_)
    · obtain ⟨x, o, lay, text, M, xs, ls, fu, evs, rfl, _⟩ := h
      rfl
    · exact ok_stepsBody hr T TS TN B DC DP DR DL DA h
  · exact FunD.kbinds0 F 2 ["layout"] [] (fun us mv ws => us ++ ws) (by simp) (fun q hq => by cases hq) (fun a b c => a.append c) (fun D doc pm an cdv ct us mv ws h1 h2 h3 => by
      match us, h1, ws, h3 with
      | [a, b], _, [c], _ => exact rfl)
def spRunP (K : PySem.W.Frag) (Cp Cr Cs : Addr) : Sp := fun vs H Q _ => ∃ (x o lay : Addr) (text : Str) (M : ShM) (xs : List Int) (ls : List (List Str)) (f : Nat) (evs : List Ev), vs = [.ref x, .ref o, .ref lay] ∧ PgAt Cp Cr Cs H x text M ∧ (SqL K H o (xs.map V.int) ∨ SqT K H o (xs.map V.int)) ∧ LayAt K H lay ls ∧ GoodLay (M.homes.map (·.1)) ls ∧ xs.length ≤ 1000000 ∧
  (M.homes.map (·.1)).Nodup ∧ M.homes.length ≤ 5 ∧ runM M ls f xs = some evs ∧ evs.length ≤ 1000000 ∧ ∀ e H', H e = none → Same H H' → EvAt H' e evs → Q (.ref e) H'
theorem scRU : FnScope pSt pSt (defScope mProgram_run) := ⟨rfl, rfl, rfl, by decide +kernel, rfl, by decide +kernel, by decide +kernel⟩
theorem ok_runP {f fS : Addr} {fd fdS : FuncData} {lv : V} (F : FunD K "run" "Program.run" (defArgs mProgram_run) (defBody mProgram_run) (defScope mProgram_run) [] [("layout", lv)] f fd) (T : PgTxt K mg Cp) (B : Blt2 mg) (mS : Meth K Cp "steps" fS)
    (GS_ : GFn P w K mg base 6 fS fdS pSt (spSteps K Cp Cr Cs)) (bS : KBn K fdS pSt 2 ["layout"] (fun us ws => us ++ ws) (fun vs zs => vs ++ zs)) :
    FnOk P w K mg base CX0 10 f fd pSt (spRunP K Cp Cr Cs) ∧ ∃ ds, Vals [lv] ds ∧ Binds K fd pSt ds := by
  refine ⟨?_, ?_⟩
  · refine F.ok scRU (fun vs H Q E h => ?_) (fun cdv A outer s H vs Q E hr h => ?_)
    · obtain ⟨x, o, lay, text, M, xs, ls, fu, evs, rfl, _⟩ := h
      rfl
    obtain ⟨x, o, lay, text, M, xs, ls, fu, evs, rfl, PA, ho, hlay, good, hxl, hnd, h5, hrun, hevl, k⟩ := h
    obtain ⟨dx, t, s', p, H0, ex, et, ASh⟩ := PA.ex
    refine ⟨_, pss_one (ps_ret (pe_listG (pgen_methK (pv 0) T.cp mS GS_ (hr.mono (by decide)) bS (pa_cons (pv 1) pa_nil) (pk_cons (pv 2) pk_nil)) passCX0 (fun _ _ _ z => z.elim) hr (by rfl) B.list boot_list)), ?_⟩
    refine ⟨_, rfl, x, dx, _, rfl, ex, rfl, _, rfl, _, rfl, rfl, rfl, x, o, lay, text, M, xs, ls, fu, evs, rfl, PA, ho, hlay, good, hxl, hnd, h5, hrun, hevl, fun out H' S hout e he => ?_⟩
    obtain ⟨ts, rfl, f1⟩ := hout
    exact k e _ (S.free he) (fun b u eb => (upd_ne (ne_of_none (S _ _ eb) he)).trans (S _ _ eb)) ⟨ts, upd_same, f1.mono fun t xs eb => (upd_ne (ne_of_none eb he)).trans eb⟩
  · exact F.binds0 2 (by simp) rfl (fun D doc pm an cdv ct us ks h1 h2 => by
      match us, h1, ks, h2 with
      | [a, b], _, [c], _ => exact ⟨_, _, _, _, _, _, rfl, rfl, rfl⟩)
/-- run, as callers find it: its layout given or the empty tuple of the top -/
structure RunDef (P : Program) (w : World) (K : PySem.W.Frag) (mg : Str → Option Value) (base : Heap) (Cp Cr Cs lay : Addr) : Prop where
  ex : ∃ (f : Addr) (fd : FuncData) (ds : List Value), Meth K Cp "run" f ∧ Vals [V.ref lay] ds ∧ Binds K fd pSt ds ∧ FnOk P w K mg base CX0 10 f fd pSt (spRunP K Cp Cr Cs)
  lay : ∀ H, SqT K H lay []
end
end FP
set_option Elab.async false
set_option linter.all false
set_option maxRecDepth 100000
set_option maxHeartbeats 4000000
set_option exponentiation.threshold 2000
/-! What a law says of Program and run. -/
namespace FP
open PySem PySem.Spec PyProof.Rows L2 TL
theorem placesM_nil (cells : List Str) : placesM cells [] = some cells.zipIdx := rfl
theorem runM_nil {cs : List Str} {t : T} {f : Nat} {xs : List Int} : runM (sheetP cs t) [] f xs = goM (rowsP cs t) f ⟨firstT (1 + locN cs) t 0, false, [], (cs ++ declT t).zipIdx, []⟩ xs := by
  unfold runM
  rw [show (sheetP cs t).homes.map (·.1) = cs ++ declT t from homesP_names cs t, placesM_nil]
  rfl
section
variable {K : PySem.W.Frag} {Cp Cr Cs lay : Addr} {H : Hp} {x o : Addr} {cs : List Str} {t : T} {xs : List Int} {evs : List Ev} {text : Str}
theorem use_run {Q : VK} {E : XK} (W : WfP cs t) (PA : PgAt Cp Cr Cs H x text (sheetP cs t)) (hl : ∀ H, SqT K H lay []) (ho : SqL K H o (xs.map V.int) ∨ SqT K H o (xs.map V.int)) (hx : xs.length ≤ 1000000) (hr : ∃ f, goM (rowsP cs t) f ⟨firstT (1 + locN cs) t 0, false, [], (cs ++ declT t).zipIdx, []⟩ xs = some evs) (he : evs.length ≤ 1000000)
    (k : ∀ e H', H e = none → Same H H' → EvAt H' e evs → Q (.ref e) H') : spRunP K Cp Cr Cs [.ref x, .ref o, .ref lay] H Q E := by
  obtain ⟨f, hf⟩ := hr
  have hn : (sheetP cs t).homes.map (·.1) = cs ++ declT t := homesP_names cs t
  refine ⟨x, o, lay, text, sheetP cs t, xs, [], f, evs, rfl, PA, ho, ⟨false, [], hl H, trivial⟩, good_nil _, hx, by rw [hn]; exact W.nd, ?_, by rw [runM_nil]; exact hf, he, k⟩
  have := congrArg List.length hn
  rw [List.length_map] at this
  rw [this]
  exact W.h5
end
theorem twelve_short {c : Str} (h : c ∈ twelve) : shortS c := ⟨Nat.le_trans (twelve_len c h) (by decide), twelve_ok c h⟩
theorem EvAt.take {H H' : Hp} {e p : Addr} {evs : List Ev} (h : EvAt H e evs) (n : Nat) (S : Same H H') : ∃ ts : List Addr, H e = some (.lst (ts.map V.ref)) ∧ (H' p = some (.lst ((ts.take n).map V.ref)) → EvAt H' p (evs.take n)) := by
  obtain ⟨ts, h1, h2⟩ := h
  refine ⟨ts, h1, fun hp => ⟨_, hp, ?_⟩⟩
  have tk : ∀ {n : Nat} {ts : List Addr} {evs : List Ev}, Tups H ts evs → Tups H (ts.take n) (evs.take n) := by
    intro n
    induction n with
    | zero => intro ts evs _; rw [List.take_zero, List.take_zero]; trivial
    | succ n ih =>
      intro ts evs h
      cases ts with
      | nil =>
        cases evs with
        | nil => trivial
        | cons _ _ => exact h.elim
      | cons t r =>
        cases evs with
        | nil => exact h.elim
        | cons _ _ => exact ⟨h.1, ih h.2⟩
  exact (tk h2).mono fun t xs e => S _ _ e
end FP
set_option Elab.async false
set_option linter.all false
set_option maxRecDepth 100000
set_option maxHeartbeats 4000000
/-! The places of a layout of one lot; both runs of a program. -/
namespace FP
open PySem PySem.Spec PyProof.Rows L2 TL
theorem homeOf_put (d : List (Str × Nat)) (k : Str) (v : Nat) : homeOf (placesM.putS d k v) k = some v := by
  unfold homeOf placesM.putS
  split
  · rename_i c
    induction d with
    | nil => cases c
    | cons p r ih =>
      rw [List.map_cons, List.find?_cons]
      by_cases e : p.1 = k
      · rw [if_pos e]; simp [e]
      · rw [if_neg e, decide_eq_false e]
        refine ih ?_
        rw [List.any_cons, decide_eq_false e, Bool.false_or] at c
        exact c
  · rename_i c
    rw [List.find?_append]
    have : d.find? (fun p => decide (p.1 = k)) = none := by
      rw [List.find?_eq_none]
      intro x hx hd
      exact c (List.any_eq_true.mpr ⟨x, hx, hd⟩)
    rw [this]
    simp
theorem homeOf_put_ne (d : List (Str × Nat)) (k k' : Str) (v : Nat) (h : k' ≠ k) : homeOf (placesM.putS d k v) k' = homeOf d k' := by
  unfold homeOf placesM.putS
  split
  · rename_i c
    clear c
    induction d with
    | nil => rfl
    | cons p r ih =>
      rw [List.map_cons, List.find?_cons, List.find?_cons]
      by_cases e : p.1 = k
      · rw [if_pos e]
        have : decide (p.1 = k') = false := decide_eq_false (by rw [e]; exact h.symm)
        rw [this]
        exact ih
      · rw [if_neg e]
        by_cases e2 : p.1 = k'
        · rw [decide_eq_true e2]
        · rw [decide_eq_false e2]
          exact ih
  · rw [List.find?_append]
    have : ([(k, v)] : List (Str × Nat)).find? (fun p => decide (p.1 = k')) = none := by
      rw [List.find?_cons, decide_eq_false (fun z : k = k' => h z.symm)]
      rfl
    rw [this, Option.or_none]
theorem lot_fold (h : Str) (n0 : Nat) : ∀ (l : List Str) (d : List (Str × Nat)), homeOf d h = some n0 → ∃ d', l.foldlM (cellStep h) d = some d' ∧ ∀ c, homeOf d' c = if c ∈ l then some n0 else homeOf d c
  | [], d, _ => ⟨d, rfl, fun c => by rw [if_neg (by simp)]⟩
  | x :: l, d, hd => by
    have h1 : cellStep h d x = some (placesM.putS d x n0) := by unfold cellStep; rw [hd]; rfl
    have hd2 : homeOf (placesM.putS d x n0) h = some n0 := by
      by_cases e : h = x
      · rw [e]; exact homeOf_put _ _ _
      · rw [homeOf_put_ne _ _ _ _ e]; exact hd
    obtain ⟨d', g1, g2⟩ := lot_fold h n0 l _ hd2
    refine ⟨d', by rw [List.foldlM_cons, h1]; exact g1, fun c => ?_⟩
    rw [g2 c]
    by_cases e : c ∈ l
    · rw [if_pos e, if_pos (List.mem_cons_of_mem _ e)]
    · rw [if_neg e]
      by_cases e2 : c = x
      · subst e2
        rw [if_pos List.mem_cons_self]
        exact homeOf_put _ _ _
      · rw [if_neg (fun z => (List.mem_cons.mp z).elim e2 e), homeOf_put_ne _ _ _ _ e2]
theorem home_zip {cells : List Str} {c : Str} {n : Nat} (h : homeOf cells.zipIdx c = some n) : cells[n]? = some c := by
  unfold homeOf at h
  obtain ⟨p, hp, rfl⟩ := Option.map_eq_some_iff.mp h
  have e0 := List.find?_some hp
  have e : p.1 = c := of_decide_eq_true e0
  have m := List.mem_of_find?_eq_some hp
  rw [List.mem_zipIdx_iff_getElem?] at m
  rw [m, e]
theorem home_cells {cells : List Str} {c : Str} (hc : c ∈ cells) : ∃ n, homeOf cells.zipIdx c = some n ∧ n < cells.length := by
  have hk : c ∈ cells.zipIdx.map (·.1) := by rw [show (fun x : Str × Nat => x.1) = Prod.fst from rfl, List.zipIdx_map_fst]; exact hc
  obtain ⟨n, hn⟩ := homeOf_mem hk
  exact ⟨n, hn, (List.getElem?_eq_some_iff.mp (home_zip hn)).1⟩
theorem lot_places {cells lot : List Str} (nd : cells.Nodup) (h5 : cells.length ≤ 5) (sub : ∀ c ∈ lot, c ∈ cells) (ne : lot ≠ []) :
    ∃ pl', placesM cells [lot] = some pl' ∧ (∀ c ∈ cells, ∃ n, homeOf pl' c = some n ∧ n < 5) ∧ Two lot cells cells.zipIdx pl' := by
  cases lot with
  | nil => exact absurd rfl ne
  | cons h r =>
    obtain ⟨n0, hn0, l0⟩ := home_cells (sub h List.mem_cons_self)
    obtain ⟨pl', g1, g2⟩ := lot_fold h n0 (h :: r) cells.zipIdx hn0
    have at_ : ∀ c ∈ cells, ∃ n, homeOf cells.zipIdx c = some n ∧ n < cells.length := fun c hc => home_cells hc
    refine ⟨pl', by rw [places_eq, List.foldlM_cons, lotStep_cons, g1]; rfl, fun c hc => ?_, sub, fun a ha b hb e => ?_, fun a ha b hb e => ?_, fun a ha b hb => ?_⟩
    · rw [g2]
      split
      · exact ⟨n0, rfl, by omega⟩
      · obtain ⟨n, h1, h2⟩ := at_ c hc
        exact ⟨n, h1, by omega⟩
    · obtain ⟨n, h1, _⟩ := at_ a ha
      have h2 := home_zip h1
      rw [home_zip (e.symm.trans h1)] at h2
      exact (Option.some.inj h2).symm
    · rw [g2, g2] at e
      obtain ⟨n, h1, _⟩ := at_ a ha
      obtain ⟨n', h1', _⟩ := at_ b hb
      by_cases ea : a ∈ h :: r
      · by_cases eb : b ∈ h :: r
        · exact .inr ⟨ea, eb⟩
        · rw [if_pos ea, if_neg eb] at e
          have h2 := home_zip e.symm
          rw [home_zip hn0] at h2
          exact absurd (by rw [← Option.some.inj h2]; exact List.mem_cons_self) eb
      · by_cases eb : b ∈ h :: r
        · rw [if_neg ea, if_pos eb] at e
          have h2 := home_zip e
          rw [home_zip hn0] at h2
          exact absurd (by rw [← Option.some.inj h2]; exact List.mem_cons_self) ea
        · rw [if_neg ea, if_neg eb] at e
          have h2 := home_zip h1
          rw [home_zip (e.symm.trans h1)] at h2
          exact .inl (Option.some.inj h2).symm
    · rw [g2, g2, if_pos ha, if_pos hb]
theorem own_pls {cells : List Str} (h5 : cells.length ≤ 5) : ∀ c ∈ cells, ∃ n, homeOf cells.zipIdx c = some n ∧ n < 5 := fun c hc => by
  obtain ⟨n, h1, h2⟩ := home_cells hc
  exact ⟨n, h1, by omega⟩
theorem inv_start {R : List RowM} {cells : List Str} {pl : List (Str × Nat)} {y : Nat} (h : Tgt R 1 y) : RInv R cells pl ⟨y, false, [], pl, []⟩ := by
  refine ⟨rfl, ?_, fun c hc => (by cases hc), .nil, .nil, fun q hq => (by cases hq)⟩
  rcases h with h | ⟨r, h1, h2, _⟩
  · exact .inl h
  · by_cases z : y = 0
    · exact .inl z
    · exact .inr ⟨Nat.pos_of_ne_zero z, r, h1, h2⟩
theorem fc_P {cs : List Str} {t : T} (W : WfP cs t) (hs : sizeP cs t ≤ 40) (nm : ∀ c ∈ cs ++ declT t, shortS c) {pl : List (Str × Nat)} (hp : ∀ c ∈ cs ++ declT t, ∃ n, homeOf pl c = some n ∧ n < 5) : FC (rowsP cs t) (cs ++ declT t) pl := by
  obtain ⟨h1, _, h3⟩ := rows_P W
  exact ⟨h1, by omega, W.h5, nm, hp⟩
theorem pot_start {R : List RowM} {pl : List (Str × Nat)} {y : Nat} {xs : List Int} (h : R.length ≤ 100) (hx : xs.length ≤ 100) : Pot R ⟨y, false, [], pl, []⟩ xs ≤ 20000 := by
  unfold Pot
  have h1 : xs.length * (R.length + 4) ≤ 100 * 104 := Nat.mul_le_mul hx (by omega)
  split
  · omega
  · rw [if_neg Bool.false_ne_true]
    split <;> omega
/-- a run ends, with own places or any of good cells -/
theorem run_P {cs : List Str} {t : T} (W : WfP cs t) (hs : sizeP cs t ≤ 40) (nm : ∀ c ∈ cs ++ declT t, shortS c) {pl : List (Str × Nat)} (hp : ∀ c ∈ cs ++ declT t, ∃ n, homeOf pl c = some n ∧ n < 5) {xs : List Int} (hx : ∀ x ∈ xs, x.natAbs < 10 ^ 60) (hl : xs.length ≤ 100) :
    ∃ f evs, goM (rowsP cs t) f ⟨firstT (1 + locN cs) t 0, false, [], pl, []⟩ xs = some evs ∧ evs.length ≤ 60000 ∧ ∀ e ∈ evs, EvC (cs ++ declT t) e := by
  obtain ⟨_, h2, h3⟩ := rows_P W
  obtain ⟨evs, g1, g2, g3⟩ := run_total (fc_P W hs nm hp) 20000 _ xs (inv_start h2) hx (by omega) (pot_start (by omega) hl)
  exact ⟨_, evs, g1, by omega, g3⟩
/-- both runs -/
theorem two_runs {cs : List Str} {t : T} (Wf : WfP cs t) (hs : sizeP cs t ≤ 40) (nm : ∀ c ∈ cs ++ declT t, shortS c) {lot : List Str} (sub : ∀ c ∈ lot, c ∈ cs ++ declT t) (ne : lot ≠ []) {xs : List Int} (hx : ∀ x ∈ xs, x.natAbs < 10 ^ 60) (hl : xs.length ≤ 100) :
    ∃ f evs f' evs', runM (sheetP cs t) [] f xs = some evs ∧ runM (sheetP cs t) [lot] f' xs = some evs' ∧ evs.length ≤ 60000 ∧ evs'.length ≤ 60000 ∧ (∀ e ∈ evs, EvC (cs ++ declT t) e) ∧ (∀ e ∈ evs', EvC (cs ++ declT t) e) ∧ Holds lot [] none [] evs evs' := by
  obtain ⟨pl', p1, p2, T2⟩ := lot_places Wf.nd Wf.h5 sub ne
  have p0 := own_pls Wf.h5
  obtain ⟨_, h2, h3⟩ := rows_P Wf
  obtain ⟨f, evs, g1, g2, g3⟩ := run_P Wf hs nm p0 hx hl
  obtain ⟨f', evs', k1, k2, k3⟩ := run_P Wf hs nm p2 hx hl
  have un : ∀ (pl : List (Str × Nat)) (c : Str) (w : W) (y : Nat), worthM ⟨y, false, [], pl, []⟩ c = some w → w = .un := fun pl c w y h => by
    obtain ⟨n, _, e⟩ := Option.map_eq_some_iff.mp h
    exact e.symm
  refine ⟨f, evs, f', evs', by rw [runM_nil]; exact g1, ?_, g2, k2, g3, k3, ?_⟩
  · unfold runM
    rw [show (sheetP cs t).homes.map (·.1) = cs ++ declT t from homesP_names cs t, p1]
    exact k1
  · refine sim_all (fc_P Wf hs nm p0) (fc_P Wf hs nm p2) T2 20000 _ _ xs [] none [] f f' evs evs' (inv_start h2) (inv_start h2) ⟨rfl, rfl, rfl, fun c _ w h => ?_, fun c hc _ => ?_, fun c _ w h => ?_, fun l h => by cases h⟩ hx (by omega) (pot_start (by omega) hl) g1 k1
    · rw [un _ _ _ _ h]; rfl
    · obtain ⟨n, e1, _⟩ := p0 c hc
      obtain ⟨n', e2, _⟩ := p2 c hc
      show (homeOf (cs ++ declT t).zipIdx c).map (fun _ => W.un) = (homeOf pl' c).map (fun _ => W.un)
      rw [e1, e2]
      rfl
    · rw [un _ _ _ _ h]; rfl
end FP
set_option Elab.async false
set_option linter.all false
set_option maxRecDepth 100000
set_option maxHeartbeats 4000000
set_option exponentiation.threshold 2000
namespace FP
open PySem PySem.Spec PyProof.Rows L2 TL
/-- all stays but what stands at some addresses -/
def Kp (ms : List Addr) (H H' : Hp) : Prop := ∀ b u, b ∉ ms → H b = some u → H' b = some u
/-- the heap without some addresses -/
def hid (ms : List Addr) (H : Hp) : Hp := fun b => if b ∈ ms then none else H b
theorem Kp.refl (ms : List Addr) (H : Hp) : Kp ms H H := fun _ _ _ e => e
theorem Kp.trans {ms : List Addr} {H H1 H2 : Hp} (a : Kp ms H H1) (b : Kp ms H1 H2) : Kp ms H H2 := fun c u n e => b c u n (a c u n e)
theorem Kp.of {ms : List Addr} {H H1 : Hp} (a : Same H H1) : Kp ms H H1 := fun c u _ e => a c u e
theorem Kp.but {ms : List Addr} {p : Addr} {H H1 : Hp} (a : But p H H1) (h : p ∈ ms) : Kp ms H H1 := fun c u n e => a c u (fun z => n (by rw [z]; exact h)) e
theorem Kp.put {ms : List Addr} {m : Addr} {H H1 : Hp} {o : HO} (a : Kp ms H H1) (h : m ∈ ms) : Kp ms H (upd H1 m o) := fun c u n e => (upd_ne (fun z => n (by rw [z]; exact h))).trans (a c u n e)
theorem Kp.put0 {ms : List Addr} {m : Addr} {H H1 : Hp} {o : HO} (a : Kp ms H H1) (h : H m = none) : Kp ms H (upd H1 m o) := fun c u n e => (upd_ne (ne_of_none e h)).trans (a c u n e)
theorem Kp.sub {ms ms' : List Addr} {H H1 : Hp} (a : Kp ms H H1) (h : ∀ m ∈ ms, m ∈ ms') : Kp ms' H H1 := fun c u n e => a c u (fun z => n (h c z)) e
theorem Kp.hid {ms : List Addr} {H H1 : Hp} (a : Kp ms H H1) : Same (hid ms H) (hid ms H1) := fun b u e => by
  unfold FP.hid at e ⊢
  by_cases h : b ∈ ms
  · rw [if_pos h] at e; cases e
  · rw [if_neg h] at e ⊢
    exact a b u h e
theorem hid_at {ms : List Addr} {H : Hp} {b : Addr} {u : HO} (h : b ∉ ms) (e : H b = some u) : hid ms H b = some u := (if_neg h).trans e
theorem hid_le {ms : List Addr} {H : Hp} : Same (hid ms H) H := fun b u e => by
  unfold FP.hid at e
  by_cases h : b ∈ ms
  · rw [if_pos h] at e; cases e
  · rwa [if_neg h] at e
theorem hid_sub {ms ms' : List Addr} {H : Hp} (h : ∀ m ∈ ms, m ∈ ms') : Same (hid ms' H) (hid ms H) := fun b u e => by
  unfold FP.hid at e ⊢
  by_cases c : b ∈ ms'
  · rw [if_pos c] at e; cases e
  · rw [if_neg c] at e
    rw [if_neg fun z => c (h b z)]
    exact e
/-- a test that is asked one way or another -/
theorem seq_if {c : TT} {t tb : TS} {D : Ends} {σ : L2.St} {H : Hp} (R R' : Hp → Prop) (k : ∀ Qy : Bool → Hp → Prop, (∀ H1, R H1 → Qy true H1) → (∀ H1, R' H1 → Qy false H1) → c σ H Qy) (y : ∀ H1, R H1 → t { D with nx := tb D } σ H1)
    (n : ∀ H1, R' H1 → tb D σ H1) : tSeq (tIfS c t tNext) tb D σ H := k (fun b H1 => if b = true then t { D with nx := tb D } σ H1 else tNext { D with nx := tb D } σ H1) (fun H1 h => (if_pos rfl).mpr (y H1 h)) (fun H1 h => n H1 h)
/-- what a law may still give out -/
def leftD (lo ca : Int) : List (Key × V) := [(.inr "loop", .int lo), (.inr "call", .int ca)]
theorem get_loop {H : Hp} {x : Addr} {lo ca : Int} (h : H x = some (.dK (leftD lo ca))) : DGet H x (.str "loop") (some (.int lo)) := DGet.k (k := .inr "loop") h
theorem get_call {H : Hp} {x : Addr} {lo ca : Int} (h : H x = some (.dK (leftD lo ca))) : DGet H x (.str "call") (some (.int ca)) := DGet.k (k := .inr "call") h
theorem left_len (lo ca : Int) : (leftD lo ca).length < sizeLine := by rw [sizeLine_eq]; show 2 < _; omega
theorem put_loop {H : Hp} {x : Addr} {lo ca lo' : Int} (h : H x = some (.dK (leftD lo ca))) : DPut H x (.str "loop") (.int lo') (upd H x (.dK (leftD lo' ca))) := DPut.k (k := .inr "loop") h (left_len lo ca)
theorem put_call {H : Hp} {x : Addr} {lo ca ca' : Int} (h : H x = some (.dK (leftD lo ca))) : DPut H x (.str "call") (.int ca') (upd H x (.dK (leftD lo ca'))) := DPut.k (k := .inr "call") h (left_len lo ca)
/-- pen, pointed names, what is left -/
structure NoAt (H0 H : Hp) (p a po lf : Addr) (ns : List Int) (t0 t : Int) (pt : List Str) (lo ca : Int) : Prop where
  kp : Kp [p, po, lf] H0 H
  pen : ∃ l, PenAt H p a ns t l
  lo_ : t0 ≤ t
  hi_ : t ≤ t0 + 4
  po : H po = some (.lst (pt.map V.str))
  lf : H lf = some (.dK (leftD lo ca))
section
variable {P : Program} {w : World} {K : PySem.W.Frag} {mg : Str → Option Value} {base : Heap}
def spNO : Sp := fun vs H Q _ => ∃ (p a nA po lf : Addr) (ns : List Int) (t l lo ca : Int) (nm pt : List Str), vs = [.ref p, .ref nA, .ref po, .ref lf] ∧ PenAt H p a ns t l ∧ t ≤ 999000 ∧ H nA = some (.lst (nm.map V.str)) ∧ 0 < nm.length ∧ nm.length ≤ 1000 ∧
  H po = some (.lst (pt.map V.str)) ∧ pt.length ≤ 900 ∧ (∀ y ∈ nm, PyData.strOk y = true) ∧ (∀ y ∈ pt, y ∈ nm) ∧ nA ≠ po ∧ a ≠ po ∧ lf ≠ p ∧ H lf = some (.dK (leftD lo ca)) ∧
  ∀ (k : Deed) (r : Addr) (pt' : List Str) (t' ca' : Int) (H' : Hp), (∀ y ∈ k.names, y ∈ nm) → NoAt H H' p a po lf ns t t' pt' lo ca' → pt'.length ≤ pt.length + 1 → (∀ y ∈ pt', y ∈ nm) → H r = none → H' r = some (.tup (k.words.map V.str)) → Q (.ref r) H'
abbrev nNO : List Str := ["_law_pen", "_law_names", "_law_pointed", "_law_left", "_law_way", "_law_a", "_law_b", "_law_p"]
theorem scNO : FnScope nNO ["_law_pen", "_law_names", "_law_pointed", "_law_left"] (defScope qNewOrder) := ⟨rfl, rfl, rfl, by decide +kernel, rfl, by decide +kernel, by decide +kernel⟩
theorem ok_no {f : Addr} {fd : FuncData} (F : Fun K "_law_new_order" "_law_new_order" qNewOrder f fd) (DD : Def P w K mg base "_law_draw" 1 ["_law_pen", "_law_span"] spDraw) (DP : Def P w K mg base "_law_pick" 2 ["_law_pen", "_law_options"] spPick) :
    FnOk P w K mg base CX0 3 f fd ["_law_pen", "_law_names", "_law_pointed", "_law_left"] spNO := by
  obtain ⟨fD, fdD, gD, kD, bD, GD⟩ := DD.ex
  obtain ⟨fP, fdP, gP, kP, bP, GP⟩ := DP.ex
  refine F.ok scNO (fun vs H Q E h => ?_) (fun cdv A outer s H vs Q E hr h => ?_)
  · obtain ⟨p, a, nA, po, lf, ns, t, l, lo, ca, nm, pt, rfl, _⟩ := h
    rfl
  obtain ⟨p, a, nA, po, lf, ns, t, l, lo, ca, nm, pt, rfl, PA0, ht, hn, hn0, hnl, hpo, hptl, hok, hsub, nnp, nap, nlp, hlf, q⟩ := h
  have hu := hu_of hr
  have hr1 := hr.mono (show 1 ≤ 2 by decide)
  refine ⟨_, pss_cons (ps_par3 (i := 4) (j := 5) (l := 6) (by rfl) scNO.nd rfl rfl rfl (by decide) (by decide) (by decide) rfl rfl rfl (pa_cons (pe_call GD hr1 rfl gD kD bD .nil pass0 (pa_cons (pv 0) (pa_cons pe_int pa_nil)))
        (pa_cons (pe_call GP hr rfl gP kP bP .nil pass0 (pa_cons (pv 0) (pa_cons (pv 1) pa_nil))) (pa_cons (pe_call GP hr rfl gP kP bP .nil pass0 (pa_cons (pv 0) (pa_cons (pv 1) pa_nil))) pa_nil))) (by rfl))
    (pss_cons (ps_set (i := 7) scNO.nd rfl (.inl rfl) (pe_ifExp (pt_cmpR (op_neD hr.units) (pv 2) (pe_lst pa_nil) (nomark _)) (pe_call GP hr rfl gP kP bP .nil pass0 (pa_cons (pv 0) (pa_cons (pv 2) pa_nil))) (pv 6)))
    (pss_cons (ps_if (pt_cmpR op_lt (pv 4) pe_int (nomark _)) (pss_one (ps_ret (pe_tup (pa_cons pe_str (pa_cons (pv 5) pa_nil))))) pss_nil)
    (pss_cons (ps_if (pt_cmpR op_lt (pv 4) pe_int (nomark _)) (pss_one (ps_ret (pe_tup (pa_cons pe_str (pa_cons (pv 5) (pa_cons pe_str (pa_cons (pv 6) pa_nil))))))) pss_nil)
    (pss_cons (ps_if (PW.pt (pw_or (pt_cmpR op_lt (pv 4) pe_int (nomark _)) (pw_or1 (PW.pt (pw_and (pt_cmpR op_lt (pv 4) pe_int (nomark _)) (pw_and1 (pt_cmpR (op_eqD hr.units) (pv 2) (pe_lst pa_nil) (nomark _))))))))
      (pss_cons (ps_expr (pe_bm PySem.F.plainAttrs_list PySem.F.slot_list_append PySem.F.type_list_append mt_append (pv 2) (pa_cons (pv 5) pa_nil))) (pss_one (ps_ret (pe_tup (pa_cons pe_str (pa_cons (pv 5) (pa_cons pe_str (pa_cons (pv 6) pa_nil)))))))) pss_nil)
    (pss_cons (ps_if (pt_cmpR op_lt (pv 4) pe_int (nomark _)) (pss_one (ps_ret (pe_tup (pa_cons pe_str (pa_cons (pv 5) (pa_cons pe_str (pa_cons (pv 7) pa_nil))))))) pss_nil)
    (pss_cons (ps_if (pt_cmpR op_lt (pv 4) pe_int (nomark _)) (pss_one (ps_ret (pe_tup (pa_cons pe_str (pa_cons (pv 5) (pa_cons pe_str (pa_cons (pv 7) pa_nil))))))) pss_nil)
    (pss_cons (ps_if (PW.pt (pw_and (pt_cmpR op_lt (pv 4) pe_int (nomark _)) (pw_and1 (pt_cmpR op_gt (pe_dget hu (pv 3) pe_str (fun _ _ => rfl)) pe_int (nomark _)))))
      (pss_cons (ps_dput hu (pv 3) pe_str (pe_op op_sub (pe_dget hu (pv 3) pe_str (fun _ _ => rfl)) pe_int) rfl) (pss_one (ps_ret (pe_tup (pa_cons pe_str (pa_cons (pv 7) pa_nil)))))) pss_nil)
    (pss_one (ps_ret (pe_tup (pa_cons pe_str (pa_cons (pv 5) pa_nil)))))))))))), ?_⟩
  have npp : po ≠ p := ne_of hpo PA0.p (by intro z; cases z)
  have nnp' : nA ≠ p := ne_of hn PA0.p (by intro z; cases z)
  have nlo : lf ≠ po := ne_of hlf hpo (by intro z; cases z)
  have nal : a ≠ lf := ne_of PA0.a hlf (by intro z; cases z)
  have hnV : (nm.map V.str).length = nm.length := List.length_map ..
  refine ⟨_, rfl, tConsC_i (tNil_i ⟨p, a, ns, t, l, 16, rfl, PA0, by omega, by decide, by decide, fun way t1 l1 H1 w0 w1 u0 u1 b1 PA1 => ?_⟩)⟩
  have hn1 := b1 nA _ nnp' hn
  refine ⟨_, rfl, _, rfl, tNil_i ⟨p, a, nA, ns, t1, l1, _, rfl, PA1, by omega, nnp', hn1, by rw [hnV]; exact hn0, by rw [hnV]; exact hnl, fun i1 v1 t2 l2 H2 hv1 u2 u3 b2 PA2 => ?_⟩⟩
  have hn2 := b2 nA _ nnp' hn1
  refine ⟨_, rfl, _, rfl, tNil_i ⟨p, a, nA, ns, t2, l2, _, rfl, PA2, by omega, nnp', hn2, by rw [hnV]; exact hn0, by rw [hnV]; exact hnl, fun i2 v2 t3 l3 H3 hv2 u4 u5 b3 PA3 => tNil_i ⟨_, _, _, rfl, ?_⟩⟩⟩
  rw [List.getElem?_map] at hv1 hv2
  obtain ⟨sa, hsa, rfl⟩ := Option.map_eq_some_iff.mp hv1
  obtain ⟨sb, hsb, rfl⟩ := Option.map_eq_some_iff.mp hv2
  have ma := List.mem_of_getElem? hsa
  have mb := List.mem_of_getElem? hsb
  have B3 : But p H H3 := (b1.trans b2).trans b3
  have hok' : ∀ y ∈ pt, PyData.strOk y = true := fun y hy => hok y (hsub y hy)
  dsimp only
  refine seq_mid (fun v H4 => ∃ (sp : Str) (t4 : Int), v = .str sp ∧ sp ∈ nm ∧ NoAt H H4 p a po lf ns t t4 pt lo ca) (fun Qy hq => ?_) ?_
  · have hp3 := B3 po _ npp hpo
    refine ⟨_, rfl, Nat.zero_le _, fun z nz => ⟨_, _, .lst (SqL.of ((new_same nz) _ _ hp3)) (strs_dp _ _ pt), .lst (SqL.of upd_same) .nil, strs_shaped _ hok', rfl, _, rfl, ?_⟩⟩
    have S4 := new_same (o := .lst []) nz
    have PA4 := PA3.new (o := .lst []) nz
    have B4 : But p H (upd H3 z (.lst [])) := B3.new nz
    rw [strs_nil]
    by_cases hc : pt = []
    · rw [decide_eq_true hc]
      exact iteF ⟨_, rfl, hq _ _ ⟨sb, t3, rfl, mb, Kp.but B4 List.mem_cons_self, ⟨l3, PA4⟩, by omega, by omega, B4 po _ npp hpo, B4 lf _ nlp hlf⟩⟩
    · rw [decide_eq_false hc]
      have hp0 : 0 < pt.length := List.length_pos_iff.mpr hc
      refine iteT ⟨_, rfl, _, rfl, tNil_i ⟨p, a, po, ns, t3, l3, _, rfl, PA4, by omega, npp, B4 po _ npp hpo, by rw [List.length_map]; exact hp0, by rw [List.length_map]; omega, fun i3 v3 t4 l4 H4 hv3 u6 u7 b5 PA5 => ?_⟩⟩
      rw [List.getElem?_map] at hv3
      obtain ⟨sp, hsp, rfl⟩ := Option.map_eq_some_iff.mp hv3
      have B5 := B4.trans b5
      exact hq _ _ ⟨sp, t4, rfl, hsub _ (List.mem_of_getElem? hsp), Kp.but B5 List.mem_cons_self, ⟨l4, PA5⟩, by omega, by omega, B5 po _ npp hpo, B5 lf _ nlp hlf⟩
  rintro _ H4 ⟨sp, t4, rfl, mp, N4⟩
  -- a new order behind whatever else was laid
  have fin : ∀ (k : Deed) (H5 : Hp) (pt' : List Str) (ca' : Int), (∀ y ∈ k.names, y ∈ nm) → NoAt H H5 p a po lf ns t t4 pt' lo ca' → pt'.length ≤ pt.length + 1 → (∀ y ∈ pt', y ∈ nm) → k.words.length ≤ 1000 ∧ ∀ r, H5 r = none → Q (.ref r) (upd H5 r (.tup (k.words.map V.str))) := by
    intro k H5 pt' ca' hk N hl hs
    obtain ⟨ws, e, hw⟩ := deed_words k
    refine ⟨by rw [e, List.length_cons]; omega, fun r nr => ?_⟩
    obtain ⟨l5, PA5⟩ := N.pen
    have nr0 : H r = none := by
      cases e0 : H r with
      | none => rfl
      | some u =>
        by_cases h : r ∈ [p, po, lf]
        · rcases List.mem_cons.mp h with rfl | h
          · rw [PA5.p] at nr; cases nr
          rcases List.mem_cons.mp h with rfl | h
          · rw [N.po] at nr; cases nr
          · rw [List.mem_singleton.mp h, N.lf] at nr; cases nr
        · rw [N.kp r u h e0] at nr; cases nr
    exact q k r pt' t4 ca' _ hk ⟨N.kp.trans (Kp.of (new_same nr)), ⟨l5, PA5.new nr⟩, N.lo_, N.hi_, (new_same nr) _ _ N.po, (new_same nr) _ _ N.lf⟩ hl hs nr0 upd_same
  have one : ∀ x : Str, x ∈ nm → ∀ y ∈ [x], y ∈ nm := fun x hx y hy => by rw [List.mem_singleton.mp hy]; exact hx
  have two : ∀ x z : Str, x ∈ nm → z ∈ nm → ∀ y ∈ [x, z], y ∈ nm := fun x z hx hz y hy => by
    rcases List.mem_cons.mp hy with rfl | hy
    · exact hx
    · rw [List.mem_singleton.mp hy]; exact hz
  have s2 : 2 ≤ sizeLine := sz1000 (by decide)
  have s4 : 4 ≤ sizeLine := sz1000 (by decide)
  refine ⟨_, rfl, _, _, rfl, rfl, _, rfl, ite2 (fun _ => ⟨_, rfl, s2, (fin (.input sa) H4 pt ca (one _ ma) N4 (by omega) hsub).2⟩) fun c3 => ?_⟩
  refine ⟨_, rfl, _, _, rfl, rfl, _, rfl, ite2 (fun _ => ⟨_, rfl, _, rfl, s4, (fin (.copy sa sb) H4 pt ca (two _ _ ma mb) N4 (by omega) hsub).2⟩) fun c6 => ?_⟩
  -- a pointer
  have pnt : ∀ H5, Same H4 H5 → tSeq (tDrop (tBM K "list" rAppend (tVar 2) (tCons (tVar 5) tNil))) (tRet (tTup (tCons (tC (.str "point")) (tCons (tVar 5) (tCons (tC (.str "to")) (tCons (tVar 6) tNil))))))
      { nx := fun _ H' => Q .non H', rt := Q } [some (.ref p), some (.ref nA), some (.ref po), some (.ref lf), some (.int way), some (.str sa), some (.str sb), some (.str sp)] H5 := by
    intro H5 S5
    have hp5 := S5 _ _ N4.po
    refine ⟨_, rfl, .inl ⟨rfl, _, SqL.of hp5⟩, _, rfl, po, _, _, rfl, rfl, hp5, small1000 (by rw [List.length_map]; omega), _, rfl, _, rfl, s4, ?_⟩
    obtain ⟨l5, PA5⟩ := N4.pen
    refine (fin (.point sa sb) _ (pt ++ [sa]) ca (two _ _ ma mb) ⟨(N4.kp.trans (Kp.of S5)).put (by simp), ⟨l5, ⟨(upd_ne npp.symm).trans (S5 _ _ PA5.p), (upd_ne nap).trans (S5 _ _ PA5.a), PA5.n, PA5.t0, PA5.l0⟩⟩, N4.lo_, N4.hi_, ?_, (upd_ne nlo).trans (S5 _ _ N4.lf)⟩ (by simp) ?_).2
    · rw [upd_same, List.map_append]
      rfl
    · intro y hy
      rcases List.mem_append.mp hy with z | z
      · exact hsub y z
      · rw [List.mem_singleton.mp z]; exact ma
  dsimp only [tNext]
  refine seq_if (fun H5 => Same H4 H5) (fun H5 => Same H4 H5) (fun Qy hy hn => ?_) (fun H5 S5 => ?_) fun H5 S5 => ?_
  rotate_left
  · exact pnt H5 S5
  rotate_left
  · refine ⟨_, rfl, _, _, rfl, rfl, _, rfl, ite2 (fun _ => hy _ (Same.refl _)) fun _ => ⟨_, rfl, _, _, rfl, rfl, _, rfl, ite2 (fun _ => ?_) fun _ => hn _ (Same.refl _)⟩⟩
    refine ⟨_, rfl, Nat.zero_le _, fun z nz => ⟨_, _, .lst (SqL.of ((new_same nz) _ _ N4.po)) (strs_dp _ _ pt), .lst (SqL.of upd_same) .nil, strs_shaped _ hok', rfl, _, rfl, ?_⟩⟩
    rw [strs_nil]
    by_cases hc : pt = []
    · rw [decide_eq_true hc]
      exact hy _ (new_same nz)
    · rw [decide_eq_false hc]
      exact hn _ (new_same nz)
  obtain ⟨l4, PA4⟩ := N4.pen
  have N5 : NoAt H H5 p a po lf ns t t4 pt lo ca := ⟨N4.kp.trans (Kp.of S5), ⟨l4, ⟨S5 _ _ PA4.p, S5 _ _ PA4.a, PA4.n, PA4.t0, PA4.l0⟩⟩, N4.lo_, N4.hi_, S5 _ _ N4.po, S5 _ _ N4.lf⟩
  refine ⟨_, rfl, _, _, rfl, rfl, _, rfl, ite2 (fun _ => ⟨_, rfl, _, rfl, s4, (fin (.load sa sp) H5 pt ca (two _ _ ma mp) N5 (by omega) hsub).2⟩) fun c10 => ?_⟩
  refine ⟨_, rfl, _, _, rfl, rfl, _, rfl, ite2 (fun _ => ⟨_, rfl, _, rfl, s4, (fin (.store sa sp) H5 pt ca (two _ _ ma mp) N5 (by omega) hsub).2⟩) fun c12 => ?_⟩
  have use_ : ∀ (D : Ends), D.rt = Q → tRet (tTup (tCons (tC (.str "use")) (tCons (tVar 5) tNil))) D [some (.ref p), some (.ref nA), some (.ref po), some (.ref lf), some (.int way), some (.str sa), some (.str sb), some (.str sp)] H5 := by
    intro D eD
    refine ⟨_, rfl, s2, ?_⟩
    rw [eD]
    exact (fin (.use sa) H5 pt ca (one _ ma) N5 (by omega) hsub).2
  refine ⟨_, rfl, _, _, rfl, rfl, _, rfl, ite2 (fun _ => ?_) fun _ => use_ _ rfl⟩
  refine ⟨_, rfl, lf, _, rfl, get_call N5.lf, _, _, rfl, rfl, _, rfl, ite2 (fun _ => ?_) fun _ => use_ _ rfl⟩
  refine ⟨_, rfl, lf, _, rfl, get_call N5.lf, _, _, rfl, rfl, _, rfl, lf, _, rfl, put_call N5.lf, _, rfl, s2, ?_⟩
  obtain ⟨l5, PA5⟩ := N5.pen
  exact (fin (.call sp) _ pt (ca - 1) (one _ mp) ⟨N5.kp.put (by simp), ⟨l5, ⟨(upd_ne nlp.symm).trans PA5.p, (upd_ne nal).trans PA5.a, PA5.n, PA5.t0, PA5.l0⟩⟩, N5.lo_, N5.hi_, (upd_ne nlo.symm).trans N5.po, upd_same⟩ (by omega) hsub).2
end
end FP
set_option Elab.async false
set_option linter.all false
set_option maxRecDepth 100000
set_option maxHeartbeats 8000000
set_option exponentiation.threshold 2000
/-! The law's look at both runs. -/
namespace FP
open PySem PySem.Spec PyProof.Rows L2 TL
theorem tups_at {H : Hp} : ∀ {ts : List Addr} {evs : List Ev} {k : Nat} {e : Ev}, Tups H ts evs → evs[k]? = some e → ∃ t, ts[k]? = some t ∧ H t = some (.tup e.v)
  | [], [], _, _, _, h => by cases h
  | t :: _, e :: _, 0, _, h, hk => by cases hk; exact ⟨t, rfl, h.1⟩
  | _ :: _, _ :: _, k + 1, _, h, hk => tups_at (k := k) h.2 hk
  | [], _ :: _, _, _, h, _ => h.elim
  | _ :: _, [], _, _, h, _ => h.elim
theorem w_fit {cells : List Str} (nm : ∀ c ∈ cells, shortS c) {w : W} (h : w.inC cells) : w.fit := by
  cases w with
  | un => trivial
  | i n => exact h
  | a c => exact nm c h
theorem ev_fit {cells : List Str} (nm : ∀ c ∈ cells, shortS c) {e : Ev} (h : EvC cells e) : e.fit := by
  have big : ∀ l : Nat, l < 100 → l < 10 ^ 60 := fun l hl => Nat.lt_of_lt_of_le hl (by decide)
  cases e with
  | rd l c w => exact ⟨big l h.1, nm c h.2.1, w_fit nm h.2.2⟩
  | wr l c w => exact ⟨big l h.1, nm c h.2.1, w_fit nm h.2.2⟩
  | sm l b => exact big l h
theorem evT_shaped {e : Ev} (h : e.fit) : SeqAt.shaped (evT e) = true := by
  have h1 := lay_ev h
  have h2 := dep_ev e
  unfold SeqAt.shaped
  rw [Bool.and_eq_true]
  exact ⟨h1, decide_eq_true (by omega)⟩
theorem evT_refl {e : Ev} (h : e.fit) : PyData.eqv (evT e) (evT e) = true := SeqAt.eqv_refl _ (SeqAt.canLay_of_shaped (evT_shaped h))
theorem sm_ne (l : Nat) : PyData.eqv (evT (.sm l true)) (evT (.sm l false)) = false := by
  show (PyData.eqv (.str "same") (.str "same") && (PyData.eqv (.int l) (.int l) && (true && (PyData.eqv (.bool true) (.bool false) && true)))) = false
  rw [show PyData.eqv (.bool true) (.bool false) = false from rfl]
  simp
theorem scal_w (a b : W) : scal a.v b.v = true := by cases a <;> cases b <;> rfl
def wT (K : PySem.W.Frag) (H : Hp) (w : W) : ∃ t, TyX K H w.v t ∧ PySem.W.kitOne K t (.type "str") = some (match w with | .a _ => true | _ => false) := match w with
  | .un => ⟨_, .base .non, kit_ty (r := false) (by decide +kernel)⟩
  | .i n => ⟨_, .base (.int n), kit_ty (r := false) (by decide +kernel)⟩
  | .a c => ⟨_, .base (.str _), kit_ty (r := true) (by decide +kernel)⟩
def lastV : Option Str → V
  | none => .non
  | some l => .str l
theorem in_strs (c : Str) (l : List Str) : inV (.str c) (l.map V.str) = decide (c ∈ l) := by
  unfold inV
  rw [List.any_map, Bool.eq_iff_iff, List.any_eq_true, decide_eq_true_iff]
  constructor
  · rintro ⟨x, hx, e⟩
    have : (x == c) = true := e
    rw [beq_iff_eq] at this
    rw [← this]; exact hx
  · intro h
    exact ⟨c, h, beq_self_eq_true c⟩
theorem drop_cons {α : Type} {l : List α} {i : Nat} {e : α} {r : List α} (h : l.drop i = e :: r) : i < l.length ∧ l[i]? = some e ∧ l.drop (i + 1) = r ∧ (l.take (i + 1)).reverse = e :: (l.take i).reverse := by
  have hi : i < l.length := by
    by_cases c : i < l.length
    · exact c
    · rw [List.drop_of_length_le (by omega)] at h; cases h
  have h2 := List.drop_eq_getElem_cons hi
  rw [h] at h2
  obtain ⟨h3, h4⟩ := List.cons.inj h2
  have h5 : l[i]? = some e := by rw [List.getElem?_eq_getElem hi, h3]
  exact ⟨hi, h5, h4.symm, by rw [List.take_add_one, h5, List.reverse_append]; rfl⟩
theorem two_back {α : Type} {l : List α} {i : Nat} {x y : α} {r : List α} (h : (l.take i).reverse = x :: y :: r) (hi : i < l.length) : 2 ≤ i ∧ l[i - 2]? = some y ∧ l[i - 1]? = some x := by
  have h1 : l.take i = r.reverse ++ [y, x] := by
    have := congrArg List.reverse h
    rw [List.reverse_reverse] at this
    rw [this]
    simp
  have hl := congrArg List.length h1
  rw [List.length_take, List.length_append, List.length_reverse] at hl
  have hl2 : i = r.length + 2 := by
    have e : [y, x].length = 2 := rfl
    omega
  refine ⟨by omega, ?_, ?_⟩
  · rw [show l[i - 2]? = (l.take i)[i - 2]? from by rw [List.getElem?_take, if_pos (by omega)], h1, List.getElem?_append_right (by rw [List.length_reverse]; omega), List.length_reverse, show i - 2 - r.length = 0 by omega]
    rfl
  · rw [show l[i - 1]? = (l.take i)[i - 1]? from by rw [List.getElem?_take, if_pos (by omega)], h1, List.getElem?_append_right (by rw [List.length_reverse]; omega), List.length_reverse, show i - 1 - r.length = 1 by omega]
    rfl
section
variable {P : Program} {w : World} {K : PySem.W.Frag} {mg : Str → Option Value} {base : Heap}
def spHolds (K : PySem.W.Frag) : Sp := fun vs H Q _ => ∃ (a b l : Addr) (own seen : List Ev) (lot cells : List Str), vs = [.ref a, .ref b, .ref l] ∧ EvAt H a own ∧ EvAt H b seen ∧ H l = some (.lst (lot.map V.str)) ∧ (∀ c ∈ cells, shortS c) ∧ (∀ e ∈ own, EvC cells e) ∧ (∀ e ∈ seen, EvC cells e) ∧ own.length ≤ 100000 ∧ seen.length ≤ 100000 ∧
  Holds lot [] none [] own seen ∧ ∀ H', Same H H' → Q (.bl true) H'
abbrev nHo : List Str := ["_law_own", "_law_seen", "_law_lot", "_law_held", "_law_last", "_law_k", "_law_kind", "_law_line", "_law_cell", "_law_worth", "_law_due", "_law_one", "_law_two"]
abbrev pHo : List Str := ["_law_own", "_law_seen", "_law_lot"]
theorem scHol : FnScope nHo pHo (defScope qHolds) := ⟨rfl, rfl, rfl, by decide +kernel, rfl, by decide +kernel, by decide +kernel⟩
theorem ok_holds {f : Addr} {fd : FuncData} (F : Fun K "_law_holds" "_law_holds" qHolds f fd) (B : Blt3 mg) (hrg : mg "range" = none) (hmx : mg "max" = none) : FnOk P w K mg base CX0 1 f fd pHo (spHolds K) := by
  refine F.ok scHol (fun vs H Q E h => ?_) (fun cdv A outer s H vs Q E hr h => ?_)
  · obtain ⟨a, b, l, own, seen, lot, cells, rfl, _⟩ := h
    rfl
  obtain ⟨a, b, l, own, seen, lot, cells, rfl, ha, hb, hl, nm, co, ce, lo, ls, hh, q⟩ := h
  have hu := hu_of hr
  have hn := hr.units
  have nd := scHol.nd
  refine ⟨_, pss_cons (ps_par (i := 3) (j := 4) (by rfl) nd rfl rfl (by decide) rfl rfl (pa_cons pe_dnewK (pa_cons pe_non pa_nil)) (by rfl))
    (pss_cons (ps_for PassesOwn.never rfl (pi_range1 (by rfl) hrg (pa_cons (pe_callB (call_max2 (by rfl)) (by rfl) hmx (by decide +kernel) (pa_cons (pe_callB call_len_seq (by rfl) B.len boot_len (pa_cons (pv 0) pa_nil)) (pa_cons (pe_callB call_len_seq (by rfl) B.len boot_len (pa_cons (pv 1) pa_nil)) pa_nil))) pa_nil)) (pg_name (i := 5) nd rfl (Or.inl rfl))
      (pss_cons (ps_if (PW.pt (pw_or (pt_cmpR op_ge (pv 5) (pe_callB call_len_seq (by rfl) B.len boot_len (pa_cons (pv 0) pa_nil)) (nomark _)) (pw_or1 (pt_cmpR op_ge (pv 5) (pe_callB call_len_seq (by rfl) B.len boot_len (pa_cons (pv 1) pa_nil)) (nomark _))))) (pss_one ps_never) pss_nil)
      (pss_cons (ps_asg (pe_ix ix_list (pv 0) (pv 5) (fun _ _ => rfl)) (pg_tup (by rfl) (pgs_cons (pg_name (i := 6) nd rfl (.inl rfl)) (pgs_cons (pg_name (i := 7) nd rfl (.inl rfl)) (pgs_cons (pg_name (i := 8) nd rfl (.inl rfl)) (pgs_cons (pg_name (i := 9) nd rfl (.inl rfl)) pgs_nil))))))
      (pss_cons (ps_if (PW.pt (pw_and (pt_cmpR op_eq (pv 6) pe_str (nomark _)) (pw_and1 (pt_cmpR op_in_seq (pv 8) (pv 2) (by rfl)))))
        (pss_cons (ps_set (i := 10) nd rfl (.inl rfl) (pe_getN hu (pv 3) (pv 4) ⟨rfl, rfl, rfl, rfl⟩))
        (pss_cons (ps_if (pt_cmpR (op_neD hn) (pe_ix ix_list (pv 1) (pv 5) (fun _ _ => rfl)) (pe_tup (pa_cons pe_str (pa_cons (pv 7) (pa_cons (pv 8) (pa_cons (pv 10) pa_nil))))) (nomark _)) (pss_one ps_never) pss_nil)
        (pss_one (ps_if (pt_cmpR op_ne (pv 10) (pv 9) (nomark _)) (pss_one (ps_ret pe_bl)) pss_nil))))
        (pss_one (ps_if (pt_cmpR (op_neD hn) (pe_ix ix_list (pv 1) (pv 5) (fun _ _ => rfl)) (pe_ix ix_list (pv 0) (pv 5) (fun _ _ => rfl)) (nomark _))
          (pss_cons (ps_if (PW.pt (pw_or (pt_cmpR op_ne (pv 6) pe_str (nomark _)) (pw_or (pt_val (pv 9)) (pw_or1 (pt_cmpR (op_neD hn) (pe_ix ix_list (pv 1) (pv 5) (fun _ _ => rfl)) (pe_tup (pa_cons pe_str (pa_cons (pv 7) (pa_cons pe_non (pa_cons pe_bl pa_nil))))) (nomark _)))))) (pss_one ps_never) pss_nil)
          (pss_cons (ps_par (i := 11) (j := 12) (by rfl) nd rfl rfl (by decide) rfl rfl (pa_cons (pe_ix ix_tup (pe_ix ix_list (pv 0) (pe_op op_sub (pv 5) pe_int) (fun _ _ => rfl)) pe_int (fun _ _ => rfl)) (pa_cons (pe_ix ix_tup (pe_ix ix_list (pv 0) (pe_op op_sub (pv 5) pe_int) (fun _ _ => rfl)) pe_int (fun _ _ => rfl)) pa_nil)) (by rfl))
          (pss_cons (ps_if (PW.pt (pw_or (pt_not (pt_val (pe_callB call_isi (by rfl) B.isi boot_isi (pa_cons (pv 11) (pa_cons (pe_bltn (v := .ty "str") (by rfl) B.str (by decide +kernel) rfl) pa_nil))))) (pw_or (pt_not (pt_val (pe_callB call_isi (by rfl) B.isi boot_isi (pa_cons (pv 12) (pa_cons (pe_bltn (v := .ty "str") (by rfl) B.str (by decide +kernel) rfl) pa_nil))))) (pw_or1 (pt_cmpR op_eq (pv 11) (pv 12) (nomark _)))))) (pss_one ps_never) pss_nil)
          (pss_one (ps_ret (pe_and (pe_cmpR op_in_seq (pe_slice sl_str (pv 11) (po_some pe_int) po_none) (pv 2) (by rfl)) (pe_one (pe_cmpR op_in_seq (pe_slice sl_str (pv 12) (po_some pe_int) po_none) (pv 2) (by rfl))))))))) pss_nil)))
      (pss_one (ps_if (pt_cmpR op_eq (pv 6) pe_str (nomark _))
        (pss_cons (ps_dput hu (pv 3) (pv 8) (pv 9) rfl) (pss_one (ps_set (i := 4) nd rfl (.inl rfl) (pe_ifExp (pt_cmpR op_in_seq (pv 8) (pv 2) (by rfl)) (pv 8) (pv 4))))) pss_nil))))))
    (pss_one (ps_ret pe_bl))), ?_⟩
  obtain ⟨ts, ea, ta⟩ := ha
  obtain ⟨us, eb, tb⟩ := hb
  have lts : (ts.map V.ref).length = own.length := by rw [List.length_map]; exact ta.len
  have lus : (us.map V.ref).length = seen.length := by rw [List.length_map]; exact tb.len
  refine fun hA nA => tConsC_i (tNil_i ⟨_, _, rfl, ?_⟩)
  have S1 := new_same (o := .dK []) nA
  have e1 := new_at (o := .dK []) nA
  have ea1 := S1 _ _ ea
  have eb1 := S1 _ _ eb
  have el1 := S1 _ _ hl
  have ta1 := ta.mono fun t xs e => S1 t _ e
  have tb1 := tb.mono fun t xs e => S1 t _ e
  generalize upd H hA (.dK []) = H1 at *
  have naA : a ∉ [hA] := fun z => ne_of ea1 e1 (by intro z; cases z) (List.mem_singleton.mp z)
  have nbA : b ∉ [hA] := fun z => ne_of eb1 e1 (by intro z; cases z) (List.mem_singleton.mp z)
  have nlA : l ∉ [hA] := fun z => ne_of el1 e1 (by intro z; cases z) (List.mem_singleton.mp z)
  have em : (if ((us.map V.ref).length : Int) > ((ts.map V.ref).length : Int) then ((us.map V.ref).length : Int) else ((ts.map V.ref).length : Int)) = ((max own.length seen.length : Nat) : Int) := by
    rw [lts, lus]
    split <;> omega
  refine ⟨_, rfl, a, _, rfl, .inl (SqL.of ea1), _, rfl, b, _, rfl, .inl (SqL.of eb1), tNil_i ⟨_, _, rfl, ?_⟩⟩
  rw [em]
  refine tNil_i ⟨_, rfl, by omega, by omega, ?_⟩
  rw [Int.toNat_natCast]
  refine for_it (walk_range (lo := 0) (n := max own.length seen.length)) (fun i σ H' => ∃ (z5 z6 z7 z8 z9 z10 z11 z12 : Option V) (hd : Kvs) (last : Option Str), σ = [some (.ref a), some (.ref b), some (.ref l), some (.ref hA), some (lastV last), z5, z6, z7, z8, z9, z10, z11, z12] ∧ Kp [hA] H1 H' ∧ H' hA = some (.dK hd) ∧ hd.length ≤ i ∧ Holds lot hd last (own.take i).reverse (own.drop i) (seen.drop i))
    ⟨_, _, _, _, _, _, _, _, [], none, rfl, Kp.refl _ _, e1, Nat.zero_le _, hh⟩ (fun _ _ _ _ _ => True.intro) ?_ ?_
  · rintro i v σ H2 H3 hi ⟨z5, z6, z7, z8, z9, z10, z11, z12, hd, last, rfl, kp, eh, hdl, hol⟩ ⟨rfl, rfl⟩
    have SH : ∀ H', Kp [hA] H1 H' → Same H H' := fun H' kp b u e => kp b u (fun z => by rw [List.mem_singleton.mp z, nA] at e; cases e) (S1 _ _ e)
    have ea2 := kp _ _ naA ea1
    have eb2 := kp _ _ nbA eb1
    have el2 := kp _ _ nlA el1
    have tpk : ∀ t xs, H1 t = some (.tup xs) → H3 t = some (.tup xs) := fun t xs e => kp _ _ (fun z => ne_of e e1 (by intro z; cases z) (List.mem_singleton.mp z)) e
    -- both events at hand
    have at_ : ∀ {e e' : Ev} {r r' : List Ev}, own.drop i = e :: r → seen.drop i = e' :: r' → ∃ t u, i < own.length ∧ i < seen.length ∧ atI (ts.map V.ref) (0 + (i : Int)) = some (.ref t) ∧ atI (us.map V.ref) (0 + (i : Int)) = some (.ref u) ∧ H3 t = some (.tup e.v) ∧ H3 u = some (.tup e'.v) ∧ e.fit ∧ e'.fit := by
      intro e e' r r' h1 h2
      obtain ⟨a1, a2, _, _⟩ := drop_cons h1
      obtain ⟨b1, b2, _, _⟩ := drop_cons h2
      obtain ⟨t, t1, t2⟩ := tups_at ta1 a2
      obtain ⟨u, u1, u2⟩ := tups_at tb1 b2
      refine ⟨t, u, a1, b1, ?_, ?_, tpk _ _ t2, tpk _ _ u2, ev_fit nm (co e (List.mem_of_getElem? a2)), ev_fit nm (ce e' (List.mem_of_getElem? b2))⟩
      · rw [Int.zero_add]; exact atI_nat (by rw [List.getElem?_map, t1]; rfl)
      · rw [Int.zero_add]; exact atI_nat (by rw [List.getElem?_map, u1]; rfl)
    generalize eo : own.drop i = r1 at hol
    generalize es : seen.drop i = r2 at hol
    generalize ep : (own.take i).reverse = pp at hol
    cases hol with
    | fin =>
      have h1 : own.length ≤ i := List.drop_eq_nil_iff.mp eo
      have h2 : seen.length ≤ i := List.drop_eq_nil_iff.mp es
      omega
    | @rdIn _ _ _ ln c x x' r r' hc hw hx =>
      obtain ⟨t, u, i1, i2, g1, g2, g3, g4, f1, f2⟩ := at_ eo es
      refine ⟨_, rfl, _, rfl, a, _, rfl, .inl (SqL.of ea2), _, _, rfl, rfl, _, rfl, ite2 (fun z => absurd (of_decide_eq_true z) (by rw [lts]; omega)) fun _ => ?_⟩
      refine ⟨_, rfl, _, rfl, b, _, rfl, .inl (SqL.of eb2), _, _, rfl, rfl, _, rfl, ite2 (fun z => absurd (of_decide_eq_true z) (by rw [lus]; omega)) fun _ => ?_⟩
      refine ⟨_, rfl, _, rfl, a, _, _, _, rfl, rfl, SqL.of ea2, g1, t, _, rfl, SqT.of g3, rfl, _, _, rfl, _, _, rfl, _, _, rfl, _, _, rfl, rfl, ?_⟩
      refine ⟨_, rfl, rfl, _, rfl, ?_⟩
      rw [decide_eq_true (rfl : V.str "read" = V.str "read")]
      refine iteT ⟨_, rfl, _, rfl, l, _, rfl, .inl (SqL.of el2), rfl, flat_strs _, ?_⟩
      rw [if_neg Bool.false_ne_true, in_strs, decide_eq_true hc]
      refine ⟨_, rfl, iteT ?_⟩
      refine seq_mid (fun v H' => v = dueV hd last ∧ H' = H3) (fun Qy hq => ?_) ?_
      · refine ⟨_, rfl, hA, rfl, .inl ⟨_, .inl eh⟩, _, rfl, ?_⟩
        cases last with
        | none => exact .inr ⟨rfl, ⟨_, eh⟩, hq _ _ ⟨rfl, rfl⟩⟩
        | some l' => exact .inl ⟨_, DGet.k (k := .inr l') eh, hq _ _ ⟨rfl, rfl⟩⟩
      rintro _ _ ⟨rfl, rfl⟩
      rw [← hw]
      dsimp only [gName]
      refine ⟨_, rfl, _, rfl, b, _, _, _, rfl, rfl, SqL.of eb2, g2, _, rfl, _, rfl, _, rfl, sz1000 (by show 4 ≤ 1000; decide), fun p np => ?_⟩
      have S4 := new_same (o := .tup (Ev.rd ln c x').v) np
      have e4 := new_at (o := .tup (Ev.rd ln c x').v) np
      refine ⟨_, _, dp_ev (S4 _ _ g4), dp_ev e4, evT_shaped f2, evT_shaped f2, ?_⟩
      rw [evT_refl f2]
      refine ⟨_, rfl, iteF ?_⟩
      refine ⟨_, rfl, _, rfl, scal_w x' x, _, rfl, ?_⟩
      rw [decide_eq_false (fun z => hx (W.v_inj z))]
      exact iteT (q _ (SH _ (kp.trans (Kp.of S4))))
    | @rdSame _ _ _ ln c x r r' hc hw h =>
      obtain ⟨t, u, i1, i2, g1, g2, g3, g4, f1, f2⟩ := at_ eo es
      refine ⟨_, rfl, _, rfl, a, _, rfl, .inl (SqL.of ea2), _, _, rfl, rfl, _, rfl, ite2 (fun z => absurd (of_decide_eq_true z) (by rw [lts]; omega)) fun _ => ?_⟩
      refine ⟨_, rfl, _, rfl, b, _, rfl, .inl (SqL.of eb2), _, _, rfl, rfl, _, rfl, ite2 (fun z => absurd (of_decide_eq_true z) (by rw [lus]; omega)) fun _ => ?_⟩
      refine ⟨_, rfl, _, rfl, a, _, _, _, rfl, rfl, SqL.of ea2, g1, t, _, rfl, SqT.of g3, rfl, _, _, rfl, _, _, rfl, _, _, rfl, _, _, rfl, rfl, ?_⟩
      refine ⟨_, rfl, rfl, _, rfl, ?_⟩
      rw [decide_eq_true (rfl : V.str "read" = V.str "read")]
      refine iteT ⟨_, rfl, _, rfl, l, _, rfl, .inl (SqL.of el2), rfl, flat_strs _, ?_⟩
      rw [if_neg Bool.false_ne_true, in_strs, decide_eq_true hc]
      refine ⟨_, rfl, iteT ?_⟩
      refine seq_mid (fun v H' => v = dueV hd last ∧ H' = H3) (fun Qy hq => ?_) ?_
      · refine ⟨_, rfl, hA, rfl, .inl ⟨_, .inl eh⟩, _, rfl, ?_⟩
        cases last with
        | none => exact .inr ⟨rfl, ⟨_, eh⟩, hq _ _ ⟨rfl, rfl⟩⟩
        | some l' => exact .inl ⟨_, DGet.k (k := .inr l') eh, hq _ _ ⟨rfl, rfl⟩⟩
      rintro _ _ ⟨rfl, rfl⟩
      rw [← hw]
      dsimp only [gName]
      refine ⟨_, rfl, _, rfl, b, _, _, _, rfl, rfl, SqL.of eb2, g2, _, rfl, _, rfl, _, rfl, sz1000 (by show 4 ≤ 1000; decide), fun p np => ?_⟩
      have S4 := new_same (o := .tup (Ev.rd ln c x).v) np
      have e4 := new_at (o := .tup (Ev.rd ln c x).v) np
      refine ⟨_, _, dp_ev (S4 _ _ g4), dp_ev e4, evT_shaped f2, evT_shaped f2, ?_⟩
      rw [evT_refl f2]
      refine ⟨_, rfl, iteF ?_⟩
      refine ⟨_, rfl, _, rfl, scal_w x x, _, rfl, ?_⟩
      rw [decide_eq_true (rfl : x.v = x.v)]
      refine iteF ?_
      refine ⟨_, rfl, rfl, _, rfl, ?_⟩
      rw [show decide (V.str "read" = V.str "write") = false from by decide]
      obtain ⟨_, _, d1, d2⟩ := drop_cons eo
      obtain ⟨_, _, d3, _⟩ := drop_cons es
      refine iteF ⟨_, _, _, _, _, _, _, _, hd, last, rfl, kp.trans (Kp.of S4), S4 _ _ eh, by omega, ?_⟩
      rw [d1, d2, d3, ep]
      exact h
    | @rdOut _ _ _ ln c x r r' hc h =>
      obtain ⟨t, u, i1, i2, g1, g2, g3, g4, f1, f2⟩ := at_ eo es
      refine ⟨_, rfl, _, rfl, a, _, rfl, .inl (SqL.of ea2), _, _, rfl, rfl, _, rfl, ite2 (fun z => absurd (of_decide_eq_true z) (by rw [lts]; omega)) fun _ => ?_⟩
      refine ⟨_, rfl, _, rfl, b, _, rfl, .inl (SqL.of eb2), _, _, rfl, rfl, _, rfl, ite2 (fun z => absurd (of_decide_eq_true z) (by rw [lus]; omega)) fun _ => ?_⟩
      refine ⟨_, rfl, _, rfl, a, _, _, _, rfl, rfl, SqL.of ea2, g1, t, _, rfl, SqT.of g3, rfl, _, _, rfl, _, _, rfl, _, _, rfl, _, _, rfl, rfl, ?_⟩
      refine ⟨_, rfl, rfl, _, rfl, ?_⟩
      rw [decide_eq_true (rfl : V.str "read" = V.str "read")]
      refine iteT ⟨_, rfl, _, rfl, l, _, rfl, .inl (SqL.of el2), rfl, flat_strs _, ?_⟩
      rw [if_neg Bool.false_ne_true, in_strs, decide_eq_false hc]
      refine ⟨_, rfl, iteF ?_⟩
      refine ⟨_, rfl, _, rfl, b, _, _, _, rfl, rfl, SqL.of eb2, g2, _, rfl, _, rfl, a, _, _, _, rfl, rfl, SqL.of ea2, g1, ?_⟩
      refine ⟨_, _, dp_ev g4, dp_ev g3, evT_shaped f2, evT_shaped f1, ?_⟩
      rw [evT_refl f1]
      refine ⟨_, rfl, iteF ?_⟩
      refine ⟨_, rfl, rfl, _, rfl, ?_⟩
      rw [show decide (V.str "read" = V.str "write") = false from by decide]
      obtain ⟨_, _, d1, d2⟩ := drop_cons eo
      obtain ⟨_, _, d3, _⟩ := drop_cons es
      refine iteF ⟨_, _, _, _, _, _, _, _, hd, last, rfl, kp, eh, by omega, ?_⟩
      rw [d1, d2, d3, ep]
      exact h
    | @smSame _ _ _ ln bb r r' h =>
      obtain ⟨t, u, i1, i2, g1, g2, g3, g4, f1, f2⟩ := at_ eo es
      refine ⟨_, rfl, _, rfl, a, _, rfl, .inl (SqL.of ea2), _, _, rfl, rfl, _, rfl, ite2 (fun z => absurd (of_decide_eq_true z) (by rw [lts]; omega)) fun _ => ?_⟩
      refine ⟨_, rfl, _, rfl, b, _, rfl, .inl (SqL.of eb2), _, _, rfl, rfl, _, rfl, ite2 (fun z => absurd (of_decide_eq_true z) (by rw [lus]; omega)) fun _ => ?_⟩
      refine ⟨_, rfl, _, rfl, a, _, _, _, rfl, rfl, SqL.of ea2, g1, t, _, rfl, SqT.of g3, rfl, _, _, rfl, _, _, rfl, _, _, rfl, _, _, rfl, rfl, ?_⟩
      refine ⟨_, rfl, rfl, _, rfl, ?_⟩
      rw [show decide (V.str "same" = V.str "read") = false from by decide]
      refine iteF ?_
      refine ⟨_, rfl, _, rfl, b, _, _, _, rfl, rfl, SqL.of eb2, g2, _, rfl, _, rfl, a, _, _, _, rfl, rfl, SqL.of ea2, g1, ?_⟩
      refine ⟨_, _, dp_ev g4, dp_ev g3, evT_shaped f2, evT_shaped f1, ?_⟩
      rw [evT_refl f1]
      refine ⟨_, rfl, iteF ?_⟩
      refine ⟨_, rfl, rfl, _, rfl, ?_⟩
      rw [show decide (V.str "same" = V.str "write") = false from by decide]
      obtain ⟨_, _, d1, d2⟩ := drop_cons eo
      obtain ⟨_, _, d3, _⟩ := drop_cons es
      refine iteF ⟨_, _, _, _, _, _, _, _, hd, last, rfl, kp, eh, by omega, ?_⟩
      rw [d1, d2, d3, ep]
      exact h
    | @wr _ _ _ ln c x r r' h =>
      obtain ⟨t, u, i1, i2, g1, g2, g3, g4, f1, f2⟩ := at_ eo es
      refine ⟨_, rfl, _, rfl, a, _, rfl, .inl (SqL.of ea2), _, _, rfl, rfl, _, rfl, ite2 (fun z => absurd (of_decide_eq_true z) (by rw [lts]; omega)) fun _ => ?_⟩
      refine ⟨_, rfl, _, rfl, b, _, rfl, .inl (SqL.of eb2), _, _, rfl, rfl, _, rfl, ite2 (fun z => absurd (of_decide_eq_true z) (by rw [lus]; omega)) fun _ => ?_⟩
      refine ⟨_, rfl, _, rfl, a, _, _, _, rfl, rfl, SqL.of ea2, g1, t, _, rfl, SqT.of g3, rfl, _, _, rfl, _, _, rfl, _, _, rfl, _, _, rfl, rfl, ?_⟩
      refine ⟨_, rfl, rfl, _, rfl, ?_⟩
      rw [show decide (V.str "write" = V.str "read") = false from by decide]
      refine iteF ?_
      refine ⟨_, rfl, _, rfl, b, _, _, _, rfl, rfl, SqL.of eb2, g2, _, rfl, _, rfl, a, _, _, _, rfl, rfl, SqL.of ea2, g1, ?_⟩
      refine ⟨_, _, dp_ev g4, dp_ev g3, evT_shaped f2, evT_shaped f1, ?_⟩
      rw [evT_refl f1]
      refine ⟨_, rfl, iteF ?_⟩
      refine ⟨_, rfl, rfl, _, rfl, ?_⟩
      rw [decide_eq_true (rfl : V.str "write" = V.str "write")]
      refine iteT ?_
      refine ⟨_, rfl, _, rfl, _, rfl, hA, _, rfl, DPut.k (k := .inr c) eh (by rw [sizeLine_eq]; omega), ?_⟩
      have k4 := kp.put (o := .dK (putK hd (.inr c) x.v)) (m := hA) (List.mem_singleton.mpr rfl)
      have eh4 : upd H3 hA (.dK (putK hd (.inr c) x.v)) hA = some (.dK (putK hd (.inr c) x.v)) := upd_same
      generalize upd H3 hA (.dK (putK hd (.inr c) x.v)) = H4 at *
      have el4 := k4 _ _ nlA el1
      obtain ⟨_, _, d1, d2⟩ := drop_cons eo
      obtain ⟨_, _, d3, _⟩ := drop_cons es
      have ln4 := len_putK hd (.inr c) x.v
      have hfin : Holds lot (putK hd (.inr c) x.v) (if c ∈ lot then some c else last) (own.take (i + 1)).reverse (own.drop (i + 1)) (seen.drop (i + 1)) := by
        rw [d1, d2, d3, ep]
        exact h
      dsimp only
      refine ⟨_, rfl, _, rfl, l, _, rfl, .inl (SqL.of el4), rfl, flat_strs _, ?_⟩
      rw [if_neg Bool.false_ne_true, in_strs]
      refine ⟨_, rfl, ite2 (fun z => ⟨_, rfl, ?_⟩) fun z => ⟨_, rfl, ?_⟩⟩
      · rw [if_pos (of_decide_eq_true z)] at hfin
        exact ⟨_, _, _, _, _, _, _, _, putK hd (.inr c) x.v, some c, rfl, k4, eh4, by omega, hfin⟩
      · rw [if_neg (fun w => z (decide_eq_true w))] at hfin
        exact ⟨_, _, _, _, _, _, _, _, putK hd (.inr c) x.v, last, rfl, k4, eh4, by omega, hfin⟩
    | @smDiff _ _ _ ln p1 p2 c d l1 l2 r r' ha hb hn2 =>
      obtain ⟨t, u, i1, i2, g1, g2, g3, g4, f1, f2⟩ := at_ eo es
      refine ⟨_, rfl, _, rfl, a, _, rfl, .inl (SqL.of ea2), _, _, rfl, rfl, _, rfl, ite2 (fun z => absurd (of_decide_eq_true z) (by rw [lts]; omega)) fun _ => ?_⟩
      refine ⟨_, rfl, _, rfl, b, _, rfl, .inl (SqL.of eb2), _, _, rfl, rfl, _, rfl, ite2 (fun z => absurd (of_decide_eq_true z) (by rw [lus]; omega)) fun _ => ?_⟩
      refine ⟨_, rfl, _, rfl, a, _, _, _, rfl, rfl, SqL.of ea2, g1, t, _, rfl, SqT.of g3, rfl, _, _, rfl, _, _, rfl, _, _, rfl, _, _, rfl, rfl, ?_⟩
      refine ⟨_, rfl, rfl, _, rfl, ?_⟩
      rw [show decide (V.str "same" = V.str "read") = false from by decide]
      refine iteF ?_
      refine ⟨_, rfl, _, rfl, b, _, _, _, rfl, rfl, SqL.of eb2, g2, _, rfl, _, rfl, a, _, _, _, rfl, rfl, SqL.of ea2, g1, ?_⟩
      refine ⟨_, _, dp_ev g4, dp_ev g3, evT_shaped f2, evT_shaped f1, ?_⟩
      rw [sm_ne]
      refine ⟨_, rfl, iteT ?_⟩
      refine ⟨_, rfl, rfl, _, rfl, ?_⟩
      rw [decide_eq_true (rfl : V.str "same" = V.str "same")]
      refine iteF ⟨_, rfl, _, rfl, iteF ?_⟩
      refine ⟨_, rfl, _, rfl, b, _, _, _, rfl, rfl, SqL.of eb2, g2, _, rfl, sz1000 (by show 4 ≤ 1000; decide), fun p np => ?_⟩
      have S4 := new_same (o := .tup [.str "same", .int (ln : Nat), .non, .bl true]) np
      have e4 := new_at (o := .tup [.str "same", .int (ln : Nat), .non, .bl true]) np
      refine ⟨_, _, dp_ev (S4 _ _ g4), dp_ev (e := .sm ln true) e4, evT_shaped f2, evT_shaped f2, ?_⟩
      rw [evT_refl f2]
      refine ⟨_, rfl, iteF ?_⟩
      have S04 := SH _ (kp.trans (Kp.of S4))
      have ea4 := S4 _ _ ea2
      have el4 := S4 _ _ el2
      obtain ⟨b1, b2, b3⟩ := two_back ep i1
      obtain ⟨t2, q1, q2⟩ := tups_at ta1 b2
      obtain ⟨t1, q3, q4⟩ := tups_at ta1 b3
      have q2' := S4 _ _ (tpk _ _ q2)
      have q4' := S4 _ _ (tpk _ _ q4)
      have at2 : atI (ts.map V.ref) (0 + (i : Int) - 2) = some (.ref t2) := by
        rw [show 0 + (i : Int) - 2 = ((i - 2 : Nat) : Int) by omega]
        exact atI_nat (by rw [List.getElem?_map, q1]; rfl)
      have at1 : atI (ts.map V.ref) (0 + (i : Int) - 1) = some (.ref t1) := by
        rw [show 0 + (i : Int) - 1 = ((i - 1 : Nat) : Int) by omega]
        exact atI_nat (by rw [List.getElem?_map, q3]; rfl)
      have z1 := co _ (List.mem_of_getElem? b2)
      have z2 := co _ (List.mem_of_getElem? b3)
      have s1 : ("&" ++ p1 : Str).length ≤ 1000 := by rw [len_app]; have := (nm p1 z1.2.2).1; show 1 + p1.length ≤ 1000; omega
      have s2 : ("&" ++ p2 : Str).length ≤ 1000 := by rw [len_app]; have := (nm p2 z2.2.2).1; show 1 + p2.length ≤ 1000; omega
      generalize upd H3 p (.tup [.str "same", .int (ln : Nat), .non, .bl true]) = H4 at *
      refine ⟨_, rfl, _, rfl, _, _, rfl, rfl, a, _, _, _, rfl, rfl, SqL.of ea4, at2, t2, _, 3, _, rfl, rfl, SqT.of q2', atI_nat (j := 3) rfl, _, rfl, _, rfl, _, _, rfl, rfl, a, _, _, _, rfl, rfl, SqL.of ea4, at1, t1, _, 3, _, rfl, rfl, SqT.of q4', atI_nat (j := 3) rfl, tNil_i ⟨_, _, rfl, ?_⟩⟩
      obtain ⟨y1, k1, k2⟩ := wT K H4 (.a p1)
      obtain ⟨y2, k3, k4⟩ := wT K H4 (.a p2)
      refine ⟨_, rfl, _, _, y1, _, _, rfl, .ty "str", k1, k2, _, rfl, iteF ?_⟩
      refine ⟨_, rfl, _, _, y2, _, _, rfl, .ty "str", k3, k4, _, rfl, iteF ?_⟩
      refine ⟨_, rfl, _, rfl, rfl, _, rfl, ite2 (fun z => absurd (of_decide_eq_true z) fun z => hn2 (amp_inj (V.str.inj z))) fun _ => ?_⟩
      refine ⟨_, rfl, 1, rfl, _, rfl, sz1000 s1, ?_⟩
      rw [cut_amp]
      refine ⟨_, rfl, l, _, rfl, .inl (SqL.of el4), rfl, flat_strs _, ?_⟩
      rw [if_neg Bool.false_ne_true, in_strs, decide_eq_true ha]
      refine ⟨_, rfl, iteT ⟨_, rfl, 1, rfl, _, rfl, sz1000 s2, ?_⟩⟩
      rw [cut_amp]
      refine ⟨_, rfl, l, _, rfl, .inl (SqL.of el4), rfl, flat_strs _, ?_⟩
      rw [if_neg Bool.false_ne_true, in_strs, decide_eq_true hb]
      exact q _ S04
  · rintro σ H2 ⟨z5, z6, z7, z8, z9, z10, z11, z12, hd, last, rfl, kp, eh, hdl, hol⟩
    exact q _ fun b u e => kp b u (fun z => by rw [List.mem_singleton.mp z, nA] at e; cases e) (S1 _ _ e)
end
end FP
set_option Elab.async false
set_option linter.all false
set_option maxRecDepth 100000
set_option maxHeartbeats 4000000
set_option exponentiation.threshold 2000
namespace FP
open PySem PySem.Spec PyProof.Rows L2 TL
/-- orders behind one another -/
def T.app : T → T → T
  | .nil, u => u
  | .deed d r, u => .deed d (r.app u)
  | .one o cs b r, u => .one o cs b (r.app u)
  | .two o cs b cs' b' r, u => .two o cs b cs' b' (r.app u)
theorem OrdsAt.app {H : Hp} {u : T} {us : List Addr} (hu : OrdsAt H u us) : ∀ (t : T) {os : List Addr}, OrdsAt H t os → OrdsAt H (t.app u) (os ++ us)
  | .nil, _, h => by rw [h]; exact hu
  | .deed d r, _, ⟨o, rest, e, h1, h2⟩ => ⟨o, rest ++ us, by rw [e]; rfl, h1, OrdsAt.app hu r h2⟩
  | .one op cs b r, _, ⟨o, x, c, l, ors, rest, e, h1, h2, h3, h4, h5, h6⟩ => ⟨o, x, c, l, ors, rest ++ us, by rw [e]; rfl, h1, h2, h3, h4, h5, OrdsAt.app hu r h6⟩
  | .two op cs b cs' b' r, _, ⟨o, x, c, l, ors, y, c', l', ors', rest, e, h1, h2, h3, h4, h5, h2', h3', h4', h5', h6⟩ =>
    ⟨o, x, c, l, ors, y, c', l', ors', rest ++ us, by rw [e]; rfl, h1, h2, h3, h4, h5, h2', h3', h4', h5', OrdsAt.app hu r h6⟩
theorem size_app (u : T) : ∀ t : T, sizeT (t.app u) = sizeT t + sizeT u
  | .nil => by rw [T.app, sizeT]; omega
  | .deed _ r => by rw [T.app, sizeT, sizeT, size_app u r]; omega
  | .one _ cs b r => by rw [T.app, sizeT, sizeT, size_app u r]; omega
  | .two _ cs b cs' b' r => by rw [T.app, sizeT, sizeT, size_app u r]; omega
theorem decl_app (u : T) : ∀ t : T, declT (t.app u) = declT t ++ declT u
  | .nil => rfl
  | .deed _ r => decl_app u r
  | .one _ cs b r => by rw [T.app, declT, declT, decl_app u r]; simp only [List.append_assoc]
  | .two _ cs b cs' b' r => by rw [T.app, declT, declT, decl_app u r]; simp only [List.append_assoc]
theorem dep_app (u : T) : ∀ t : T, depT (t.app u) = max (depT t) (depT u)
  | .nil => by rw [T.app, depT]; omega
  | .deed _ r => by rw [T.app, depT, depT, dep_app u r]
  | .one _ cs b r => by rw [T.app, depT, depT, dep_app u r]; omega
  | .two _ cs b cs' b' r => by rw [T.app, depT, depT, dep_app u r]; omega
theorem wf_app {seen : List Str} {u : T} : ∀ (t : T) {d : Nat}, wfT seen d u → wfT seen d t → wfT seen d (t.app u)
  | .nil, d, hu, _ => hu
  | .deed k r, 0, hu, ⟨h1, h2⟩ => ⟨h1, wf_app r hu h2⟩
  | .deed k r, d + 1, hu, ⟨h1, h2⟩ => ⟨h1, wf_app r hu h2⟩
  | .one .., 0, _, h => h.elim
  | .two .., 0, _, h => h.elim
  | .one o cs b r, d + 1, hu, ⟨h1, h2, h3⟩ => ⟨h1, h2, wf_app r hu h3⟩
  | .two o cs b cs' b' r, d + 1, hu, ⟨h1, h2, h3, h4, h5⟩ => ⟨h1, h2, h3, h4, wf_app r hu h5⟩
/-- how many draws, how many lines -/
def wdr : Nat → Nat → Nat
  | 0, s => 1 + 8 * s
  | d + 1, s => 1 + s * (8 + wdr d 3 + wdr d 2)
def wsz : Nat → Nat → Nat
  | 0, s => s
  | d + 1, s => s * (5 + wsz d 3 + wsz d 2)
theorem wdr_le {d s s' : Nat} (h : s ≤ s') : wdr d s ≤ wdr d s' := by
  cases d with
  | zero => unfold wdr; omega
  | succ d => unfold wdr; have := Nat.mul_le_mul_right (8 + wdr d 3 + wdr d 2) h; omega
theorem wsz_le {d s s' : Nat} (h : s ≤ s') : wsz d s ≤ wsz d s' := by
  cases d with
  | zero => exact h
  | succ d => exact Nat.mul_le_mul_right _ h
/-- the draws of one turn, the lines of one turn -/
def wdr1 (d : Nat) : Nat := match d with | 0 => 8 | d + 1 => 8 + wdr d 3 + wdr d 2
def wsz1 (d : Nat) : Nat := match d with | 0 => 1 | d + 1 => 5 + wsz d 3 + wsz d 2
theorem wdr_eq (d s : Nat) : wdr d s = 1 + s * wdr1 d := by cases d <;> simp only [wdr, wdr1] <;> omega
theorem wsz_eq (d s : Nat) : wsz d s = s * wsz1 d := by cases d <;> simp only [wsz, wsz1] <;> omega
/-- a block in the heap without some addresses, whose body's list no order of it names -/
def BlkH (ms : List Addr) (H0 H : Hp) (x : Addr) (cs : List Str) (t : T) : Prop := ∃ c l ors, H0 l = none ∧ x ∉ ms ∧ c ∉ ms ∧ l ∉ ms ∧ H x = some (.dK (blkD c l)) ∧ H c = some (.lst (cs.map V.str)) ∧ H l = some (.lst (ors.map V.ref)) ∧ c ≠ l ∧ OrdsAt (hid (l :: ms) H) t ors
theorem BlkH.at_ {ms : List Addr} {H0 H : Hp} {x : Addr} {cs : List Str} {t : T} (h : BlkH ms H0 H x cs t) : BlkAt (hid ms H) x cs t := by
  obtain ⟨c, l, ors, _, h1, h2, h3, h4, h5, h6, _, h7⟩ := h
  exact ⟨c, l, ors, hid_at h1 h4, hid_at h2 h5, hid_at h3 h6, h7.same (hid_sub fun m hm => List.mem_cons_of_mem _ hm)⟩
/-- a popped list -/
theorem pop_split {α : Type} (l : List α) (h : l ≠ []) : ∃ y, l[l.length - 1]? = some y ∧ l = l.dropLast ++ [y] :=
  ⟨l.getLast h, by rw [← List.getLast?_eq_getElem?, List.getLast?_eq_some_getLast h], (List.dropLast_concat_getLast h).symm⟩
theorem strs_flatB (l : List Str) : (l.map V.str).all flatV = true := by
  rw [List.all_eq_true]
  intro v hv
  obtain ⟨s, _, rfl⟩ := List.mem_map.mp hv
  rfl
theorem inV_strB (c : Str) (l : List Str) : inV (.str c) (l.map V.str) = decide (c ∈ l) := by
  unfold inV
  rw [List.any_map]
  induction l with
  | nil => rfl
  | cons x r ih =>
    rw [List.any_cons, ih, Bool.eq_iff_iff, Bool.or_eq_true, decide_eq_true_iff, decide_eq_true_iff, List.mem_cons]
    have : ((fun y => eqV y (V.str c)) ∘ V.str) x = true ↔ c = x := by
      show (x == c) = true ↔ _
      rw [beq_iff_eq]
      exact eq_comm
    rw [this]
theorem Kp.free {ms : List Addr} {H H1 : Hp} {x : Addr} (k : Kp ms H H1) (hm : ∀ m ∈ ms, H1 m ≠ none) (n : H1 x = none) : H x = none := by
  cases e : H x with
  | none => rfl
  | some u =>
    by_cases h : x ∈ ms
    · exact absurd n (hm x h)
    · rw [k x u h e] at n; cases n
theorem Kp.alive {ms : List Addr} {H H1 : Hp} (k : Kp ms H H1) (hm : ∀ m ∈ ms, H1 m ≠ none) {x : Addr} (h : H x ≠ none) : H1 x ≠ none := fun z => h (k.free hm z)
theorem some_ne {H : Hp} {x : Addr} {u : HO} (e : H x = some u) : H x ≠ none := fun z => by rw [e] at z; cases z
theorem PenAt.kp {ms : List Addr} {H H' : Hp} {p a : Addr} {ns : List Int} {t l : Int} (h : PenAt H p a ns t l) (k : Kp ms H H') (hp : p ∉ ms) (ha : a ∉ ms) : PenAt H' p a ns t l := ⟨k _ _ hp h.p, k _ _ ha h.a, h.n, h.t0, h.l0⟩
theorem PenAt.upd' {H : Hp} {p a m : Addr} {ns : List Int} {t l : Int} {o : HO} (h : PenAt H p a ns t l) (hp : p ≠ m) (ha : a ≠ m) : PenAt (upd H m o) p a ns t l := ⟨(upd_ne hp).trans h.p, (upd_ne ha).trans h.a, h.n, h.t0, h.l0⟩
/-- a drawn block under way -/
structure WbAt (ms : List Addr) (Hb H' : Hp) (p a sp lf so bd : Addr) (ns : List Int) (tb : Int) (nm own spr : List Str) (pl d k : Nat) (t lo ca : Int) (rem lost pts : List Str) (tr : T) (ors : List Addr) : Prop where
  kb : Kp [bd, so, p, sp, lf] Hb H'
  pen : ∃ l, PenAt H' p a ns t l
  lo_ : tb ≤ t
  hi_ : t ≤ tb + (k * wdr1 d : Nat)
  esp : H' sp = some (.lst (rem.map V.str))
  elf : H' lf = some (.dK (leftD lo ca))
  eso : H' so = some (.lst (pts.map V.str))
  ebd : H' bd = some (.lst (ors.map V.ref))
  ords : OrdsAt (hid (bd :: so :: ms) H') tr ors
  perm : (own ++ declT tr ++ rem ++ lost).Perm spr
  wf : wfT (nm ++ own) d tr
  dep : depT tr ≤ d
  sz : sizeT tr ≤ k * wsz1 d
  ptm : ∀ y ∈ pts, y ∈ nm ++ own
  ptl : pts.length ≤ pl + k
  orl : ors.length ≤ k
theorem seq_midS {t tb : TS} {D : Ends} {σ : L2.St} {H : Hp} (R : L2.St → Hp → Prop) (k : ∀ D' : Ends, (∀ σ' H', R σ' H' → D'.nx σ' H') → t D' σ H) (m : ∀ σ' H', R σ' H' → tb D σ' H') : tSeq t tb D σ H := k _ m
theorem if_mid {c : TT} {t u : TS} {D : Ends} {σ : L2.St} {H : Hp} (Ry Rn : Hp → Prop) (k : ∀ Qy : Bool → Hp → Prop, (∀ H1, Ry H1 → Qy true H1) → (∀ H1, Rn H1 → Qy false H1) → c σ H Qy) (y : ∀ H1, Ry H1 → t D σ H1) (n : ∀ H1, Rn H1 → u D σ H1) : tIfS c t u D σ H :=
  k (fun b H1 => if b = true then t D σ H1 else u D σ H1) (fun H1 h => (if_pos rfl).mpr (y H1 h)) (fun H1 h => n H1 h)
theorem ords_one {H : Hp} {op : Op} {y o : Addr} {cb : List Str} {b : T} (h : H o = some (.tup (.str op.word :: op.parts y))) (hb : BlkAt H y cb b) : OrdsAt H (.one op cb b .nil) [o] :=
  let ⟨c, l, ors, h1, h2, h3, h4⟩ := hb
  ⟨o, y, c, l, ors, [], rfl, h, h1, h2, h3, h4, rfl⟩
theorem ords_two {H : Hp} {op : Op} {y y' o : Addr} {cb cb' : List Str} {b b' : T} (h : H o = some (.tup (.str op.word :: op.parts2 y y'))) (hb : BlkAt H y cb b) (hb' : BlkAt H y' cb' b') : OrdsAt H (.two op cb b cb' b' .nil) [o] :=
  let ⟨c, l, ors, h1, h2, h3, h4⟩ := hb
  let ⟨c', l', ors', h1', h2', h3', h4'⟩ := hb'
  ⟨o, y, c, l, ors, y', c', l', ors', [], rfl, h, h1, h2, h3, h4, h1', h2', h3', h4', rfl⟩
/-- the other side of an order, if there is one -/
def othV : Option (Addr × List Str × T) → V
  | none => .non
  | some q => .ref q.1
def othC : Option (Addr × List Str × T) → List Str
  | none => []
  | some q => q.2.1 ++ declT q.2.2
/-- an order with one side or two -/
def mkT (op : Op) (cb : List Str) (b : T) : Option (Addr × List Str × T) → T
  | none => .one op cb b .nil
  | some q => .two op cb b q.2.1 q.2.2 .nil
theorem mk_decl (op : Op) (cb : List Str) (b : T) (ot : Option (Addr × List Str × T)) : declT (mkT op cb b ot) = cb ++ declT b ++ othC ot := by
  cases ot with
  | none => rfl
  | some q => simp only [mkT, declT, othC, List.append_nil]
theorem mk_ords {H : Hp} {op : Op} {y o : Addr} {cb : List Str} {b : T} {ot : Option (Addr × List Str × T)} (h2 : op.two = true) (h : H o = some (.tup (.str op.word :: (op.names.map V.str ++ [.ref y, othV ot])))) (hb : BlkAt H y cb b) (ho : ∀ q, ot = some q → BlkAt H q.1 q.2.1 q.2.2) : OrdsAt H (mkT op cb b ot) [o] := by
  cases ot with
  | none => exact ords_one (by unfold Op.parts; rw [h2, if_pos rfl]; exact h) hb
  | some q => exact ords_two h hb (ho q rfl)
theorem mk_wf {seen : List Str} {d : Nat} {op : Op} {cb : List Str} {b : T} {ot : Option (Addr × List Str × T)} (h2 : op.two = true) (hn : ∀ x ∈ op.names, x ∈ seen) (hb : wfT (seen ++ cb) d b) (ho : ∀ q, ot = some q → wfT (seen ++ q.2.1) d q.2.2) : wfT seen (d + 1) (mkT op cb b ot) := by
  cases ot with
  | none => exact ⟨hn, hb, trivial⟩
  | some q => exact ⟨h2, hn, hb, ho q rfl, trivial⟩
theorem mk_dep {op : Op} {cb : List Str} {b : T} {ot : Option (Addr × List Str × T)} {d : Nat} (hb : depT b ≤ d) (ho : ∀ q, ot = some q → depT q.2.2 ≤ d) : depT (mkT op cb b ot) ≤ d + 1 := by
  cases ot with
  | none => simp only [mkT, depT]; omega
  | some q => have := ho q rfl; simp only [mkT, depT]; omega
theorem mk_size {op : Op} {cb : List Str} {b : T} {ot : Option (Addr × List Str × T)} {x y : Nat} (hb : locN cb + sizeT b ≤ 1 + x) (ho : ∀ q, ot = some q → locN q.2.1 + sizeT q.2.2 ≤ 1 + y) : sizeT (mkT op cb b ot) ≤ 5 + x + y := by
  cases ot with
  | none => simp only [mkT, sizeT]; omega
  | some q => have := ho q rfl; simp only [mkT, sizeT]; omega
theorem loc_le (cs : List Str) : locN cs ≤ 1 := by unfold locN; split <;> omega
/-- one more order -/
theorem WbAt.add {ms : List Addr} {Hb H' H2 : Hp} {p a sp lf so bd : Addr} {ns : List Int} {tb : Int} {nm own spr : List Str} {pl d k : Nat} {t lo ca : Int} {rem lost pts : List Str} {tr : T} {ors : List Addr}
    (W : WbAt ms Hb H' p a sp lf so bd ns tb nm own spr pl d k t lo ca rem lost pts tr ors) (hms : ∀ m ∈ [p, sp, lf], m ∈ ms) (nb : bd ≠ p ∧ bd ≠ sp ∧ bd ≠ lf ∧ bd ≠ a ∧ bd ≠ so)
    {t2 lo2 ca2 : Int} {rem2 lost2 pts2 : List Str} {u : T} {o : Addr} (k2 : Kp [so, p, sp, lf] H' H2) (pen2 : ∃ l, PenAt H2 p a ns t2 l) (h0 : t ≤ t2) (h1 : t2 ≤ t + (wdr1 d : Nat)) (esp : H2 sp = some (.lst (rem2.map V.str))) (elf : H2 lf = some (.dK (leftD lo2 ca2)))
    (eso : H2 so = some (.lst (pts2.map V.str))) (hu : OrdsAt (hid (bd :: so :: ms) H2) u [o]) (pm : (declT u ++ rem2 ++ lost2).Perm rem) (wf : wfT (nm ++ own) d u) (dp : depT u ≤ d) (sz : sizeT u ≤ wsz1 d) (ptm : ∀ y ∈ pts2, y ∈ nm ++ own) (ptl : pts2.length ≤ pts.length + 1) :
    WbAt ms Hb (upd H2 bd (.lst (ors.map V.ref ++ [.ref o]))) p a sp lf so bd ns tb nm own spr pl d (k + 1) t2 lo2 ca2 rem2 (lost2 ++ lost) pts2 (tr.app u) (ors ++ [o]) := by
  obtain ⟨n1, n2, n3, n4, n5⟩ := nb
  obtain ⟨l2, PA2⟩ := pen2
  have e : (k + 1) * wdr1 d = k * wdr1 d + wdr1 d := Nat.succ_mul _ _
  have e2 : (k + 1) * wsz1 d = k * wsz1 d + wsz1 d := Nat.succ_mul _ _
  have h3 := W.lo_
  have h4 := W.hi_
  have sub : ∀ m ∈ [so, p, sp, lf], m ∈ bd :: so :: ms := fun m hm => by
    rcases List.mem_cons.mp hm with rfl | hm
    · simp
    · exact List.mem_cons_of_mem _ (List.mem_cons_of_mem _ (hms m hm))
  have S : Same (hid (bd :: so :: ms) H') (hid (bd :: so :: ms) (upd H2 bd (.lst (ors.map V.ref ++ [.ref o])))) := ((k2.sub sub).put List.mem_cons_self).hid
  have S2 : Same (hid (bd :: so :: ms) H2) (hid (bd :: so :: ms) (upd H2 bd (.lst (ors.map V.ref ++ [.ref o])))) := ((Kp.refl _ H2).put List.mem_cons_self).hid
  refine ⟨?_, ⟨l2, PA2.upd' n1.symm n4.symm⟩, by omega, by rw [e]; omega, (upd_ne n2.symm).trans esp, (upd_ne n3.symm).trans elf, (upd_ne n5.symm).trans eso, by rw [upd_same, List.map_append]; rfl, (hu.same S2).app tr (W.ords.same S), ?_, wf_app tr wf W.wf, ?_, ?_, ptm, ?_, ?_⟩
  · exact (W.kb.trans (k2.sub fun m hm => List.mem_cons_of_mem _ hm)).put List.mem_cons_self
  · rw [decl_app]
    refine List.Perm.trans ?_ W.perm
    have h5 : (own ++ (declT tr ++ declT u) ++ rem2 ++ (lost2 ++ lost)) = (own ++ declT tr) ++ (declT u ++ rem2 ++ lost2) ++ lost := by simp only [List.append_assoc]
    rw [h5]
    exact (List.Perm.append_left _ pm).append_right _
  · rw [dep_app]
    have := W.dep
    omega
  · rw [size_app, e2]
    have := W.sz
    omega
  · have := W.ptl
    omega
  · rw [List.length_append]
    exact Nat.add_le_add_right W.orl 1
structure Blt4 (mg : Str → Option Value) : Prop where
  mn : mg "min" = none
  rg : mg "range" = none
  len : mg "len" = none
section
variable {P : Program} {w : World} {K : PySem.W.Frag} {mg : Str → Option Value} {base : Heap}
/-- a drawn block -/
def spWB (e : Nat) : Sp := fun vs H Q _ => ∃ (p a nA sp po lf : Addr) (ns : List Int) (t l lo ca : Int) (nm spr pt : List Str) (d size : Nat) (ms : List Addr), d < e ∧
  vs = [.ref p, .ref nA, .ref sp, .ref po, .int (size : Nat), .int (d : Nat), .ref lf] ∧ PenAt H p a ns t l ∧ t + wdr d size ≤ 999000 ∧ H nA = some (.lst (nm.map V.str)) ∧ 0 < nm.length ∧ nm.length + spr.length ≤ 900 ∧
  H sp = some (.lst (spr.map V.str)) ∧ H po = some (.lst (pt.map V.str)) ∧ size ≤ 10 ∧ pt.length + 10 * (d + 1) ≤ 800 ∧ (∀ y ∈ nm, PyData.strOk y = true) ∧ (∀ y ∈ spr, PyData.strOk y = true) ∧
  nA ≠ sp ∧ a ≠ sp ∧ po ≠ sp ∧ lf ≠ p ∧ H lf = some (.dK (leftD lo ca)) ∧ (∀ m ∈ [p, sp, lf], m ∈ ms) ∧ (∀ m ∈ ms, H m ≠ none) ∧
  ∀ (x : Addr) (cs : List Str) (tr : T) (spr' lost : List Str) (t' lo' ca' : Int) (H' : Hp), Kp [p, sp, lf] H H' → (∃ l', PenAt H' p a ns t' l') → t ≤ t' → t' ≤ t + wdr d size → H' sp = some (.lst (spr'.map V.str)) → H' lf = some (.dK (leftD lo' ca')) →
    (cs ++ declT tr ++ spr' ++ lost).Perm spr → cs.length ≤ 1 → BlkH ms H H' x cs tr → H x = none → wfT (nm ++ cs) d tr → depT tr ≤ d → sizeT tr ≤ wsz d size → lenT tr ≤ size → Q (.ref x) H'
abbrev nWB : List Str := ["_law_pen", "_law_names", "_law_spare", "_law_pointed", "_law_size", "_law_deep", "_law_left", "_law_own", "_law_here", "_law_some", "_law_body", "_law_k", "_law_way", "_law_inner", "_law_other", "_law_name"]
abbrev pWB : List Str := ["_law_pen", "_law_names", "_law_spare", "_law_pointed", "_law_size", "_law_deep", "_law_left"]
theorem scWB : FnScope nWB pWB (defScope qWideBlock) := ⟨rfl, rfl, rfl, by decide +kernel, rfl, by decide +kernel, by decide +kernel⟩
theorem ok_wb {f : Addr} {fd : FuncData} (F : Fun K "_law_wide_block" "_law_wide_block" qWideBlock f fd) (B : Blt4 mg) (DD : Def P w K mg base "_law_draw" 1 ["_law_pen", "_law_span"] spDraw) (DP : Def P w K mg base "_law_pick" 2 ["_law_pen", "_law_options"] spPick)
    (DN : Def P w K mg base "_law_new_order" 3 ["_law_pen", "_law_names", "_law_pointed", "_law_left"] spNO) (g : mg "_law_wide_block" = some (.ref f)) (kp : W.keepIn K (.ref f) = true) (b : Binds K fd pWB []) :
    ∀ e, FnOk P w K mg base CX0 (e + 3) f fd pWB (spWB e)
  | 0 => ⟨fun vs H Q E h => (by obtain ⟨p, a, nA, sp, po, lf, ns, t, l, lo, ca, nm, spr, pt, d, size, ms, h, _⟩ := h; exact absurd h (Nat.not_lt_zero _)), fun A outer s H args us vs Q E _ _ _ _ h => (by obtain ⟨p, a, nA, sp, po, lf, ns, t, l, lo, ca, nm, spr, pt, d, size, ms, h, _⟩ := h; exact absurd h (Nat.not_lt_zero _))⟩
  | e + 1 => by
    have GW := ok_wb F B DD DP DN g kp b e
    obtain ⟨fD, fdD, gD, kD, bD, GD⟩ := DD.ex
    obtain ⟨fP, fdP, gP, kP, bP, GP⟩ := DP.ex
    obtain ⟨fN, fdN, gN, kN, bN, GN⟩ := DN.ex
    refine F.ok scWB (fun vs H Q E h => ?_) (fun cdv A outer s H vs Q E hr h => ?_)
    · obtain ⟨p, a, nA, sp, po, lf, ns, t, l, lo, ca, nm, spr, pt, d, size, ms, _, rfl, _⟩ := h
      rfl
    obtain ⟨p, a, nA, sp, po, lf, ns, t, l, lo, ca, nm, spr, pt, d, size, ms, hde, rfl, PA0, ht, hn, hn0, hnl, hsp, hpo, hsz, hpl, hok, hoks, nns, nas, nps, nlp, hlf, hms, hma, q⟩ := h
    have hu := hu_of hr
    have hr1 := hr.mono (show 1 ≤ e + 3 by omega)
    have hr2 := hr.mono (show 2 ≤ e + 3 by omega)
    have hr3 := hr.mono (show 3 ≤ e + 3 by omega)
    refine ⟨_, pss_cons (ps_setLc (i := 7) (own := [("_law_k", 11)]) (g := gName 11) (tt := tYes) (te := tBM K "list" rPop (tVar 2) tNil) (by rfl) scWB.nd rfl rfl (sw_true rfl rfl rfl (by decide +kernel))
        (pi_range1 (by rfl) B.rg (pa_cons (pe_callB (call_min2 (by rfl)) (by rfl) B.mn (by decide +kernel) (pa_cons (pe_callB call_len_seq (by rfl) B.len boot_len (pa_cons (pv 2) pa_nil)) (pa_cons (pe_call GD hr1 rfl gD kD bD .nil pass0 (pa_cons (pv 0) (pa_cons pe_int pa_nil))) pa_nil))) pa_nil))
        (blkOk_by (own := [("_law_k", 11)]) (N := nWB) (sc := defScope qWideBlock) (by decide +kernel)) (fun _ _ _ _ _ => pg_name (i := 11) scWB.nd rfl (Or.inl rfl)) (fun _ _ _ _ _ => pts_nil)
        (fun _ _ _ _ _ => pe_bm0 PySem.F.plainAttrs_list PySem.F.slot_list_pop PySem.F.type_list_pop mt_pop (pv 2)))
      (pss_cons (ps_par3 (i := 8) (j := 9) (l := 10) (by rfl) scWB.nd rfl rfl rfl (by decide) (by decide) (by decide) rfl rfl rfl (pa_cons (pe_op op_cat (pv 1) (pv 7))
          (pa_cons (pe_lc (own := [("_law_name", 15)]) (g := gName 15) (tt := tTest (tOp (rIn K false) (tVar 15) (tVar 1))) (te := tVar 15) (by rfl) scWB.nd (pi_list (pv 3)) (blkOk_by (own := [("_law_name", 15)]) (N := nWB) (sc := defScope qWideBlock) (by decide +kernel))
            (fun _ _ _ _ _ => pg_name (i := 15) scWB.nd rfl (Or.inl rfl)) (fun _ _ _ _ _ => pts_one (pt_cmpR op_in_seq (pv 15) (pv 1) (by rfl))) (fun _ _ _ _ _ => pv 15)) (pa_cons (pe_lst pa_nil) pa_nil))) (by rfl))
      (pss_cons (ps_for PassesOwn.never rfl (pi_range1 (by rfl) B.rg (pa_cons (pv 4) pa_nil)) (pg_name (i := 11) scWB.nd rfl (Or.inl rfl))
        (pss_cons (ps_set (i := 12) scWB.nd rfl (.inl rfl) (pe_ifExp (pt_cmpR op_gt (pv 5) pe_int (nomark _)) (pe_call GD hr1 rfl gD kD bD .nil pass0 (pa_cons (pv 0) (pa_cons pe_int pa_nil))) pe_int))
        (pss_cons (ps_if (pt_cmpR op_gt (pv 12) pe_int (nomark _)) (pss_cons (ps_expr (pe_bm PySem.F.plainAttrs_list PySem.F.slot_list_append PySem.F.type_list_append mt_append (pv 10)
            (pa_cons (pe_call GN hr3 rfl gN kN bN .nil pass0 (pa_cons (pv 0) (pa_cons (pv 8) (pa_cons (pv 9) (pa_cons (pv 6) pa_nil))))) pa_nil))) (pss_one ps_continue)) pss_nil)
        (pss_cons (ps_set (i := 13) scWB.nd rfl (.inl rfl) (pe_call GW hr rfl g kp b .nil pass0 (pa_cons (pv 0) (pa_cons (pv 8) (pa_cons (pv 2) (pa_cons (pv 9) (pa_cons (pe_op op_add pe_int (pe_call GD hr1 rfl gD kD bD .nil pass0 (pa_cons (pv 0) (pa_cons pe_int pa_nil)))) (pa_cons (pe_op op_sub (pv 5) pe_int) (pa_cons (pv 6) pa_nil)))))))))
        (pss_cons (ps_set (i := 14) scWB.nd rfl (.inl rfl) pe_non)
        (pss_cons (ps_if (pt_cmpR op_eq (pe_call GD hr1 rfl gD kD bD .nil pass0 (pa_cons (pv 0) (pa_cons pe_int pa_nil))) pe_int (nomark _))
          (pss_one (ps_set (i := 14) scWB.nd rfl (.inl rfl) (pe_call GW hr rfl g kp b .nil pass0 (pa_cons (pv 0) (pa_cons (pv 8) (pa_cons (pv 2) (pa_cons (pv 9) (pa_cons (pe_call GD hr1 rfl gD kD bD .nil pass0 (pa_cons (pv 0) (pa_cons pe_int pa_nil))) (pa_cons (pe_op op_sub (pv 5) pe_int) (pa_cons (pv 6) pa_nil)))))))))) pss_nil)
        (pss_one (ps_if (PW.pt (pw_and (pt_cmpR op_eq (pv 12) pe_int (nomark _)) (pw_and1 (pt_cmpR op_gt (pe_dget hu (pv 6) pe_str (fun _ _ => rfl)) pe_int (nomark _)))))
          (pss_cons (ps_dput hu (pv 6) pe_str (pe_op op_sub (pe_dget hu (pv 6) pe_str (fun _ _ => rfl)) pe_int) rfl) (pss_one (ps_expr (pe_bm PySem.F.plainAttrs_list PySem.F.slot_list_append PySem.F.type_list_append mt_append (pv 10) (pa_cons (pe_tup (pa_cons pe_str (pa_cons (pv 13) pa_nil))) pa_nil)))))
          (pss_one (ps_if (pt_cmpR op_lt (pv 12) pe_int (nomark _)) (pss_one (ps_expr (pe_bm PySem.F.plainAttrs_list PySem.F.slot_list_append PySem.F.type_list_append mt_append (pv 10) (pa_cons (pe_tup (pa_cons pe_str (pa_cons (pv 13) pa_nil))) pa_nil))))
          (pss_one (ps_if (pt_cmpR op_eq (pe_call GD hr1 rfl gD kD bD .nil pass0 (pa_cons (pv 0) (pa_cons pe_int pa_nil))) pe_int (nomark _))
            (pss_one (ps_expr (pe_bm PySem.F.plainAttrs_list PySem.F.slot_list_append PySem.F.type_list_append mt_append (pv 10) (pa_cons (pe_tup (pa_cons pe_str (pa_cons (pv 13) (pa_cons (pv 14) pa_nil)))) pa_nil))))
            (pss_one (ps_expr (pe_bm PySem.F.plainAttrs_list PySem.F.slot_list_append PySem.F.type_list_append mt_append (pv 10) (pa_cons (pe_tup (pa_cons pe_str (pa_cons (pe_call GP hr2 rfl gP kP bP .nil pass0 (pa_cons (pv 0) (pa_cons (pv 8) pa_nil)))
              (pa_cons (pe_call GP hr2 rfl gP kP bP .nil pass0 (pa_cons (pv 0) (pa_cons (pv 8) pa_nil))) (pa_cons (pv 13) (pa_cons (pv 14) pa_nil)))))) pa_nil))))))))))))))))
      (pss_one (ps_ret (pe_disp (pps_cons pe_str (pv 7) (pps_cons pe_str (pv 10) pps_nil)) (by rfl) (by rfl) (fun z => by cases z) (by decide)))))), ?_⟩
    have hsprl : (spr.map V.str).length = spr.length := List.length_map ..
    refine ⟨_, rfl, sp, _, rfl, .inl (SqL.of hsp), _, rfl, tConsC_i (tNil_i ⟨p, a, ns, t, l, 2, rfl, PA0, by omega, by decide, by decide, fun w1 t1 l1 H1 w0 w2 u0 u1 b1 PA1 => ?_⟩)⟩
    have npsp : sp ≠ p := ne_of hsp PA0.p (by intro z; cases z)
    have npoP : po ≠ p := ne_of hpo PA0.p (by intro z; cases z)
    have nnp' : nA ≠ p := ne_of hn PA0.p (by intro z; cases z)
    have nlsp : lf ≠ sp := ne_of hlf hsp (by intro z; cases z)
    have nalf : a ≠ lf := ne_of PA0.a hlf (by intro z; cases z)
    have npolf : po ≠ lf := ne_of hpo hlf (by intro z; cases z)
    have nnlf : nA ≠ lf := ne_of hn hlf (by intro z; cases z)
    have hsp1 := b1 sp _ npsp hsp
    have hlf1 := b1 lf _ nlp hlf
    rw [hsprl]
    obtain ⟨m0, em, hm1, hm2⟩ : ∃ m0 : Nat, (if w1 < (spr.length : Int) then w1 else (spr.length : Int)) = (m0 : Int) ∧ m0 ≤ 1 ∧ m0 ≤ spr.length := by
      split
      · exact ⟨w1.toNat, by omega, by omega, by omega⟩
      · exact ⟨spr.length, rfl, by omega, Nat.le_refl _⟩
    refine tNil_i ⟨_, _, rfl, ?_⟩
    rw [em]
    refine tNil_i ⟨_, rfl, by omega, by omega, fun D nD => ?_⟩
    rw [Int.toNat_natCast]
    have nDsp : D ≠ sp := (ne_of_none hsp1 nD).symm
    have nDp : D ≠ p := (ne_of_none PA1.p nD).symm
    have nDa : D ≠ a := (ne_of_none PA1.a nD).symm
    have nDlf : D ≠ lf := (ne_of_none hlf1 nD).symm
    refine lc_it walk_range (fun k H' => ∃ got rem, k ≤ m0 → (Kp [p, sp, lf] H1 H' ∧ PenAt H' p a ns t1 l1 ∧ H' sp = some (.lst (List.map V.str rem)) ∧ H' D = some (.lst (List.map V.str got)) ∧ H' lf = some (.dK (leftD lo ca)) ∧ (got ++ rem).Perm spr ∧ got.length = k)) ⟨[], spr, fun _ => ⟨Kp.of (new_same nD), PA1.new nD, (new_same nD) _ _ hsp1, upd_same, (new_same nD) _ _ hlf1, .refl _, rfl⟩⟩ (fun _ _ _ _ => True.intro) ?_ ?_
    · rintro k v H' H'' hk ⟨got, rem, hI⟩ ⟨rfl, rfl⟩
      obtain ⟨kp1, PA2, e1, e2, e3, pm, gl⟩ := hI (Nat.le_of_lt hk)
      have hne : rem ≠ [] := by
        intro z
        have := pm.length_eq
        rw [List.length_append, z, List.length_nil] at this
        omega
      obtain ⟨y, hy, ey⟩ := pop_split rem hne
      refine ⟨rfl, _, rfl, .inl ⟨rfl, _, SqL.of e1⟩, tNil_i ⟨sp, _, .str y, rfl, rfl, e1, ?_, got.map V.str, (upd_ne nDsp).trans e2, ?_, got ++ [y], rem.dropLast, fun _ => ⟨(kp1.put (by simp)).put0 nD, ?_, ?_, ?_, ?_, ?_, ?_⟩⟩⟩
      · rw [List.length_map, List.getElem?_map, hy]; rfl
      · rw [List.length_map, gl]; exact small1000 (by omega)
      · exact (PA2.upd' npsp.symm nas).upd' nDp.symm nDa.symm
      · rw [upd_ne nDsp.symm, upd_same, List.map_dropLast]
      · rw [upd_same, List.map_append]; rfl
      · exact (upd_ne nDlf.symm).trans ((upd_ne nlsp).trans e3)
      · refine List.Perm.trans ?_ pm
        conv => rhs; rw [ey]
        rw [List.append_assoc]
        exact List.Perm.append_left _ List.perm_append_comm
      · rw [List.length_append, gl]; rfl
    rintro H2 ⟨own, rem, hI⟩
    obtain ⟨kp2, PA2, esp2, eow2, elf2, pm2, ol⟩ := hI (Nat.le_refl _)
    have k02 : Kp [p, sp, lf] H H2 := (Kp.but b1 (by simp)).trans kp2
    have hms2 : ∀ m ∈ [p, sp, lf], H2 m ≠ none := fun m hm => by
      rcases List.mem_cons.mp hm with rfl | hm
      · exact some_ne PA2.p
      rcases List.mem_cons.mp hm with rfl | hm
      · exact some_ne esp2
      · rw [List.mem_singleton.mp hm]; exact some_ne elf2
    have nn3 : nA ∉ [p, sp, lf] := by simp [nnp', nns, nnlf]
    have np3 : po ∉ [p, sp, lf] := by simp [npoP, nps, npolf]
    have hn2 := k02 _ _ nn3 hn
    have hpo2 := k02 _ _ np3 hpo
    have hownl : own.length ≤ 1 := by omega
    -- what can be named here
    refine ⟨_, rfl, _, rfl, nA, D, _, _, rfl, rfl, hn2, eow2, sz1000 (by rw [List.length_map, List.length_map]; omega), fun he nhe => ?_⟩
    have S3 := new_same (o := .lst (nm.map V.str ++ own.map V.str)) nhe
    have ehe : (upd H2 he (.lst (nm.map V.str ++ own.map V.str))) he = some (.lst ((nm ++ own).map V.str)) := by rw [upd_same, List.map_append]
    generalize upd H2 he (.lst (nm.map V.str ++ own.map V.str)) = H3 at *
    refine ⟨_, rfl, po, rfl, ⟨_, SqL.of (S3 _ _ hpo2)⟩, fun so nso => lc_it (walk_list (xs := pt.map V.str)) (fun k H' => Same H3 H' ∧ ∃ pts, H' so = some (.lst (List.map V.str pts)) ∧ (∀ y ∈ pts, y ∈ nm) ∧ pts.length ≤ k) ⟨new_same nso, [], upd_same, fun _ z => (by cases z), Nat.le_refl _⟩ (fun _ H' _ z => SqL.of ((S3.trans z.1) _ _ hpo2)) ?_ ?_⟩
    · rintro k v H4 H5 hk ⟨S4, pts, e4, hp4, hl4⟩ ⟨rfl, hv⟩
      rw [List.getElem?_map] at hv
      obtain ⟨y, hy, rfl⟩ := Option.map_eq_some_iff.mp hv
      refine ⟨rfl, _, rfl, _, rfl, nA, _, rfl, .inl (SqL.of ((S3.trans S4) _ _ hn2)), rfl, strs_flatB _, ?_⟩
      rw [if_neg Bool.false_ne_true, inV_strB]
      rw [List.length_map] at hk
      refine ⟨_, rfl, ite2 (fun c => ⟨_, rfl, _, e4, by rw [List.length_map]; exact small1000 (by omega), Same.put S4 nso, pts ++ [y], by rw [upd_same, List.map_append]; rfl, fun z hz => ?_, by rw [List.length_append]; exact Nat.add_le_add_right hl4 1⟩) fun _ => ⟨S4, pts, e4, hp4, by omega⟩⟩
      rcases List.mem_append.mp hz with h | h
      · exact hp4 z h
      · rw [List.mem_singleton.mp h]; exact of_decide_eq_true c
    rintro H4 ⟨S4, pts, e4, hp4, hl4⟩
    rw [List.length_map] at hl4
    refine ⟨Nat.zero_le _, fun bd nbd => tNil_i ⟨_, _, _, rfl, ?_⟩⟩
    have S5 := S4.trans (new_same (o := .lst []) nbd)
    have S25 := S3.trans S5
    have k05 : Kp [p, sp, lf] H _ := k02.trans (Kp.of S25)
    have ebd := new_at (o := .lst []) nbd
    have ehe5 := S5 _ _ ehe
    have eow5 := S25 _ _ eow2
    have eso5 := (new_same (o := .lst []) nbd) _ _ e4
    have esp5 := S25 _ _ esp2
    have elf5 := S25 _ _ elf2
    have PA5 : PenAt _ p a ns t1 l1 := ⟨S25 _ _ PA2.p, S25 _ _ PA2.a, PA2.n, PA2.t0, PA2.l0⟩
    have fhe : H he = none := k02.free hms2 nhe
    have fso : H so = none := k02.free hms2 (S3.free nso)
    have fbd : H bd = none := k02.free hms2 ((S3.trans S4).free nbd)
    have fow : H D = none := (Kp.but b1 (ms := [p, sp, lf]) (by simp)).free (fun m hm => by
      rcases List.mem_cons.mp hm with rfl | hm
      · exact some_ne PA1.p
      rcases List.mem_cons.mp hm with rfl | hm
      · exact some_ne hsp1
      · rw [List.mem_singleton.mp hm]; exact some_ne hlf1) nD
    have nbdso : bd ≠ so := (ne_of_none e4 nbd).symm
    have nbdhe : bd ≠ he := (ne_of_none (S4 _ _ ehe) nbd).symm
    have nsohe : so ≠ he := (ne_of_none ehe nso).symm
    have nbdD : bd ≠ D := (ne_of_none ((S3.trans S4) _ _ eow2) nbd).symm
    have nsoD : so ≠ D := (ne_of_none (S3 _ _ eow2) nso).symm
    have nsp_ : ∀ {z : Addr}, H z = none → z ≠ p ∧ z ≠ sp ∧ z ≠ lf ∧ z ≠ a := fun {z} fz => ⟨(ne_of_none PA0.p fz).symm, (ne_of_none hsp fz).symm, (ne_of_none hlf fz).symm, (ne_of_none PA0.a fz).symm⟩
    generalize upd H4 bd (.lst []) = Hb at *
    have nb : bd ≠ p ∧ bd ≠ sp ∧ bd ≠ lf ∧ bd ≠ a ∧ bd ≠ so := ⟨(nsp_ fbd).1, (nsp_ fbd).2.1, (nsp_ fbd).2.2.1, (nsp_ fbd).2.2.2, nbdso⟩
    have hwe := wdr_eq d size
    have hse := wsz_eq d size
    refine ⟨_, rfl, tNil_i ⟨_, rfl, by omega, by omega, ?_⟩⟩
    rw [Int.toNat_natCast]
    refine for_it walk_range (fun k σ H' => ∃ z11 z12 z13 z14 t' lo' ca' rem' lost pts' tr ors, σ = [some (.ref p), some (.ref nA), some (.ref sp), some (.ref po), some (.int (size : Nat)), some (.int (d : Nat)), some (.ref lf), some (.ref D), some (.ref he), some (.ref so), some (.ref bd), z11, z12, z13, z14, none] ∧
      WbAt ms Hb H' p a sp lf so bd ns t1 nm own spr pt.length d k t' lo' ca' rem' lost pts' tr ors)
      ⟨_, _, _, _, t1, lo, ca, rem, [], pts, .nil, [], rfl, ⟨Kp.refl _ _, ⟨l1, PA5⟩, Int.le_refl _, by omega, esp5, elf5, eso5, ebd, rfl, by rw [show declT .nil = [] from rfl, List.append_nil, List.append_nil]; exact pm2, (by cases d <;> trivial), Nat.zero_le _, Nat.zero_le _, fun y hy => List.mem_append_left _ (hp4 y hy), by omega, Nat.zero_le _⟩⟩ (fun _ _ _ _ _ => True.intro) ?_ ?_
    · rintro k v σ H5 H6 hk ⟨z11, z12, z13, z14, t6, lo6, ca6, rem6, lost6, pts6, tr, ors, rfl, W⟩ ⟨rfl, rfl⟩
      have hk10 : (k + 1) * wdr1 d ≤ size * wdr1 d := Nat.mul_le_mul_right _ hk
      have hk1 : (k + 1) * wdr1 d = k * wdr1 d + wdr1 d := Nat.succ_mul _ _
      have w1 := W.hi_
      have w2 := W.lo_
      obtain ⟨l6, PA6⟩ := W.pen
      have nhe5 : he ∉ [bd, so, p, sp, lf] := by simp [nbdhe.symm, nsohe.symm, (nsp_ fhe).1, (nsp_ fhe).2.1, (nsp_ fhe).2.2.1]
      have ehe6 := W.kb _ _ nhe5 ehe5
      have nosp := nsp_ fso
      have hen0 : 0 < (nm ++ own).length := by rw [List.length_append]; omega
      have hokA : ∀ y ∈ nm ++ own, PyData.strOk y = true := fun y hy => by
        rcases List.mem_append.mp hy with h | h
        · exact hok y h
        · exact hoks y (W.perm.subset (by simp [h]))
      have hpml := W.perm.length_eq
      simp only [List.length_append] at hpml
      have wpl := W.ptl
      dsimp only
      refine seq_mid (fun v H7 => ∃ (w7 t7 l7 : Int), v = .int w7 ∧ 0 ≤ w7 ∧ (d = 0 → w7 = 9) ∧ But p H6 H7 ∧ PenAt H7 p a ns t7 l7 ∧ t6 ≤ t7 ∧ t7 ≤ t6 + 1) (fun Qy hq => ?_) ?_
      · refine ⟨_, rfl, _, _, rfl, rfl, _, rfl, ite2 (fun c => ?_) fun c => hq _ _ ⟨9, t6, l6, rfl, by omega, fun _ => rfl, But.refl _ _, PA6, Int.le_refl _, by omega⟩⟩
        refine ⟨_, rfl, tConsC_i (tNil_i ⟨p, a, ns, t6, l6, 9, rfl, PA6, by omega, by decide, by decide, fun w7 t7 l7 H7 z0 z1 z2 z3 b7 PA7 => hq _ _ ⟨w7, t7, l7, rfl, z0, fun hd0 => ?_, b7, PA7, z2, z3⟩⟩)⟩
        subst hd0
        exact absurd (of_decide_eq_true c) (by omega)
      rintro _ H7 ⟨w7, t7, l7, rfl, hw0, hw9, b7, PA7, q0, q1⟩
      have esp7 := b7 _ _ npsp W.esp
      have elf7 := b7 _ _ nlp W.elf
      have eso7 := b7 _ _ nosp.1 W.eso
      have ebd7 := b7 _ _ nb.1 W.ebd
      have ehe7 := b7 _ _ (nsp_ fhe).1 ehe6
      refine ⟨_, rfl, _, _, rfl, rfl, _, rfl, ite2 (fun c => ?_) fun c => ?_⟩
      · refine ⟨_, rfl, .inl ⟨rfl, _, SqL.of ebd7⟩, _, rfl, _, rfl, _, rfl, _, rfl, tNil_i ⟨p, a, he, so, lf, ns, t7, l7, lo6, ca6, nm ++ own, pts6, rfl, PA7, ?_, ehe7, hen0, by rw [List.length_append]; omega, eso7, by omega, hokA, W.ptm, nsohe.symm, nosp.2.2.2.symm, nlp, elf7, fun kd r pts8 t8 ca8 H8 hkd N hl8 hs8 hr8 er8 => ?_⟩⟩
        · have : wdr1 d ≥ 8 := by cases d <;> simp only [wdr1] <;> omega
          omega
        have ebd8 := N.kp _ _ (by simp [nb.1, nb.2.2.1, nb.2.2.2.2]) ebd7
        have hrMS : r ∉ bd :: so :: ms := by
          intro hm
          rcases List.mem_cons.mp hm with rfl | hm
          · rw [ebd7] at hr8; cases hr8
          rcases List.mem_cons.mp hm with rfl | hm
          · rw [eso7] at hr8; cases hr8
          · by_cases h3 : r ∈ [p, sp, lf]
            · rcases List.mem_cons.mp h3 with rfl | h3
              · rw [PA7.p] at hr8; cases hr8
              rcases List.mem_cons.mp h3 with rfl | h3
              · rw [esp7] at hr8; cases hr8
              · rw [List.mem_singleton.mp h3, elf7] at hr8; cases hr8
            · have hne := hma r hm
              cases e0 : H r with
              | none => exact hne e0
              | some u0 =>
                have := k05 r u0 h3 e0
                have h5 : r ∉ [bd, so, p, sp, lf] := fun h => by
                  rcases List.mem_cons.mp h with rfl | h
                  · exact hne fbd
                  rcases List.mem_cons.mp h with rfl | h
                  · exact hne fso
                  · exact h3 h
                have := b7 r u0 (fun z => h3 (by rw [z]; simp)) (W.kb r u0 h5 this)
                rw [hr8] at this
                cases this
        refine ⟨bd, _, _, rfl, rfl, ebd8, by rw [List.length_map]; exact small1000 (by have := W.orl; omega), ?_⟩
        refine ⟨_, _, _, _, t8, lo6, ca8, rem6, [] ++ lost6, pts8, tr.app (.deed kd .nil), ors ++ [r], rfl, W.add hms nb (H2 := H8) (((Kp.but b7 (by simp)).trans (N.kp.sub fun m hm => ?_))) N.pen (by have := N.lo_; omega) ?_ ?_ N.lf N.po ⟨r, [], rfl, hid_at hrMS er8, rfl⟩ (by simp [declT]) ?_ ?_ ?_ hs8 hl8⟩
        · rcases List.mem_cons.mp hm with rfl | hm
          · simp
          rcases List.mem_cons.mp hm with rfl | hm
          · simp
          · rw [List.mem_singleton.mp hm]; simp
        · have := N.hi_
          have : wdr1 d ≥ 8 := by cases d <;> simp only [wdr1] <;> omega
          omega
        · exact N.kp _ _ (by simp [npsp, nosp.2.1.symm, nlsp.symm]) esp7
        · cases d <;> exact ⟨hkd, trivial⟩
        · simp [depT]
        · cases d <;> simp only [sizeT, wsz1] <;> omega
      -- an order with blocks
      have alive6 : ∀ m ∈ bd :: so :: ms, H6 m ≠ none := by
        have h5 : ∀ m ∈ [bd, so, p, sp, lf], H6 m ≠ none := fun m hm => by
          rcases List.mem_cons.mp hm with rfl | hm
          · exact some_ne W.ebd
          rcases List.mem_cons.mp hm with rfl | hm
          · exact some_ne W.eso
          rcases List.mem_cons.mp hm with rfl | hm
          · exact some_ne PA6.p
          rcases List.mem_cons.mp hm with rfl | hm
          · exact some_ne W.esp
          · rw [List.mem_singleton.mp hm]; exact some_ne W.elf
        have h3 : ∀ m ∈ [p, sp, lf], Hb m ≠ none := fun m hm => by
          rcases List.mem_cons.mp hm with rfl | hm
          · exact some_ne PA5.p
          rcases List.mem_cons.mp hm with rfl | hm
          · exact some_ne esp5
          · rw [List.mem_singleton.mp hm]; exact some_ne elf5
        intro m hm
        rcases List.mem_cons.mp hm with rfl | hm
        · exact some_ne W.ebd
        rcases List.mem_cons.mp hm with rfl | hm
        · exact some_ne W.eso
        · exact W.kb.alive h5 (k05.alive h3 (hma m hm))
      have hms3 : ∀ m ∈ [p, sp, lf], m ∈ bd :: so :: ms := fun m hm => List.mem_cons_of_mem _ (List.mem_cons_of_mem _ (hms m hm))
      cases d with
      | zero =>
        have := hw9 rfl
        subst this
        exact absurd (by rfl) c
      | succ d' =>
      have hde' : d' < e := Nat.lt_of_succ_lt_succ hde
      have hd1 : wdr1 (d' + 1) = 8 + wdr d' 3 + wdr d' 2 := rfl
      have hs1 : wsz1 (d' + 1) = 5 + wsz d' 3 + wsz d' 2 := rfl
      have eS : (((d' + 1 : Nat) : Int) - 1) = (d' : Nat) := by omega
      have three : ∀ {H8 : Hp} {t8 l8 : Int} {rem8 : List Str} {lo8 ca8 : Int}, PenAt H8 p a ns t8 l8 → H8 sp = some (.lst (List.map V.str rem8)) → H8 lf = some (.dK (leftD lo8 ca8)) → ∀ m ∈ [p, sp, lf], H8 m ≠ none := fun h1 h2 h3 m hm => by
        rcases List.mem_cons.mp hm with rfl | hm
        · exact some_ne h1.p
        rcases List.mem_cons.mp hm with rfl | hm
        · exact some_ne h2
        · rw [List.mem_singleton.mp hm]; exact some_ne h3
      -- a block within, of at most three orders
      have inner : ∀ (H8 : Hp) (t8 l8 lo8 ca8 : Int) (rem8 : List Str) (n : Nat) (Qy : VK), Kp [p, sp, lf] H6 H8 → PenAt H8 p a ns t8 l8 → t8 + wdr d' n ≤ 999000 → n ≤ 3 → H8 sp = some (.lst (rem8.map V.str)) → H8 lf = some (.dK (leftD lo8 ca8)) → rem8.length ≤ rem6.length → (∀ y ∈ rem8, y ∈ rem6) →
          (∀ (x : Addr) (cs : List Str) (tr : T) (spr' lost : List Str) (t' lo' ca' : Int) (H' : Hp), Kp [p, sp, lf] H8 H' → (∃ l', PenAt H' p a ns t' l') → t8 ≤ t' → t' ≤ t8 + wdr d' n → H' sp = some (.lst (spr'.map V.str)) → H' lf = some (.dK (leftD lo' ca')) →
            (cs ++ declT tr ++ spr' ++ lost).Perm rem8 → BlkAt (hid (bd :: so :: ms) H') x cs tr → wfT (nm ++ own ++ cs) d' tr → depT tr ≤ d' → locN cs + sizeT tr ≤ 1 + wsz d' n → Qy (.ref x) H') →
          spWB e [.ref p, .ref he, .ref sp, .ref so, .int (n : Nat), .int (d' : Nat), .ref lf] H8 Qy E0 := by
        intro H8 t8 l8 lo8 ca8 rem8 n Qy k8 PA8 h1 h2 esp8 elf8 h3 h4 hk
        have ne3 : ∀ z, H z = none → z ∉ [p, sp, lf] := fun z fz => by simp [(nsp_ fz).1, (nsp_ fz).2.1, (nsp_ fz).2.2.1]
        refine ⟨p, a, he, sp, so, lf, ns, t8, l8, lo8, ca8, nm ++ own, rem8, pts6, d', n, bd :: so :: ms, hde', rfl, PA8, h1, k8 _ _ (ne3 _ fhe) ehe6, hen0, by rw [List.length_append]; omega, esp8, k8 _ _ (ne3 _ fso) W.eso, by omega, by omega, hokA, fun y hy => hoks y (W.perm.subset (by simp [h4 y hy])),
          (nsp_ fhe).2.1, nas, nosp.2.1, nlp, elf8, hms3, fun m hm => k8.alive (three PA8 esp8 elf8) (alive6 m hm), ?_⟩
        intro x cs tr spr' lost t' lo' ca' H' a1 a2 a3 a4 a5 a6 a7 a8 a9 a10 a11 a12 a13 _
        exact hk x cs tr spr' lost t' lo' ca' H' a1 a2 a3 a4 a5 a6 a7 a9.at_ a11 a12 (by have := loc_le cs; omega)
      have k67 : Kp [p, sp, lf] H6 H7 := Kp.but b7 (by simp)
      dsimp only [tNext]
      refine seq_mid (fun v H9 => ∃ (y : Addr) (cb : List Str) (bt : T) (rem9 lost9 : List Str) (t9 l9 lo9 ca9 : Int), v = .ref y ∧ Kp [p, sp, lf] H6 H9 ∧ PenAt H9 p a ns t9 l9 ∧ t6 ≤ t9 ∧ t9 ≤ t6 + 2 + wdr d' 3 ∧ H9 sp = some (.lst (rem9.map V.str)) ∧ H9 lf = some (.dK (leftD lo9 ca9)) ∧
        (cb ++ declT bt ++ rem9 ++ lost9).Perm rem6 ∧ BlkAt (hid (bd :: so :: ms) H9) y cb bt ∧ wfT (nm ++ own ++ cb) d' bt ∧ depT bt ≤ d' ∧ locN cb + sizeT bt ≤ 1 + wsz d' 3) (fun Qy hq => ?_) ?_
      · refine ⟨_, rfl, _, rfl, _, rfl, _, rfl, _, rfl, tConsC_i (tNil_i ⟨p, a, ns, t7, l7, 3, rfl, PA7, by omega, by decide, by decide, fun w8 t8 l8 H8 y0 y1 y2 y3 b8 PA8 => ⟨_, _, rfl, rfl, _, rfl, _, _, rfl, rfl, _, rfl, tNil_i ?_⟩⟩)⟩
        obtain ⟨n, rfl⟩ : ∃ n : Nat, w8 = (n : Int) := ⟨_, (Int.toNat_of_nonneg y0).symm⟩
        have hwm := wdr_le (d := d') (show 1 + n ≤ 3 by omega)
        have hzm := wsz_le (d := d') (show 1 + n ≤ 3 by omega)
        show spWB e [.ref p, .ref he, .ref sp, .ref so, .int (1 + (n : Int)), .int (((d' + 1 : Nat) : Int) - 1), .ref lf] H8 _ _
        rw [eS, show (1 + (n : Int)) = ((1 + n : Nat) : Int) from by omega]
        refine inner H8 t8 l8 lo6 ca6 rem6 (1 + n) _ (k67.trans (Kp.but b8 (by simp))) PA8 (by omega) (by omega) (b8 _ _ npsp esp7) (b8 _ _ nlp elf7) (Nat.le_refl _) (fun _ h => h) ?_
        intro x cs tr' spr' lost' t' lo' ca' H' a1 a2 a3 a4 a5 a6 a7 a8 a9 a10 a11
        obtain ⟨l', PA'⟩ := a2
        exact hq _ _ ⟨x, cs, tr', spr', lost', t', l', lo', ca', rfl, (k67.trans (Kp.but b8 (by simp))).trans a1, PA', by omega, by omega, a5, a6, a7, a8, a9, a10, by omega⟩
      rintro _ H9 ⟨y, cb, bt, rem9, lost9, t9, l9, lo9, ca9, rfl, k9, PA9, r0, r1, esp9, elf9, pm9, hb9, wf9, dp9, sz9⟩
      have pm9l := pm9.length_eq
      simp only [List.length_append] at pm9l
      have sub9 : ∀ z ∈ rem9, z ∈ rem6 := fun z hz => pm9.subset (by simp [hz])
      change tSeq _ (tSeq _ _) _ _ _
      refine seq_midS (fun σ' H' => σ' = [some (.ref p), some (.ref nA), some (.ref sp), some (.ref po), some (.int (size : Nat)), some (.int ((d' + 1 : Nat) : Int)), some (.ref lf), some (.ref D), some (.ref he), some (.ref so), some (.ref bd), some (.int (0 + (k : Nat))), some (.int w7), some (.ref y), some .non, none] ∧ H9 = H') (fun D' h => h _ _ ⟨rfl, rfl⟩) ?_
      rintro _ _ ⟨rfl, rfl⟩
      -- the other side
      refine seq_midS (fun σ' Ha => ∃ (ot : Option (Addr × List Str × T)) (rema losta : List Str) (ta la loa caa : Int), σ' = [some (.ref p), some (.ref nA), some (.ref sp), some (.ref po), some (.int (size : Nat)), some (.int ((d' + 1 : Nat) : Int)), some (.ref lf), some (.ref D), some (.ref he), some (.ref so), some (.ref bd), some (.int (0 + (k : Nat))), some (.int w7), some (.ref y), some (othV ot), none] ∧
        Kp [p, sp, lf] H6 Ha ∧ PenAt Ha p a ns ta la ∧ t6 ≤ ta ∧ ta ≤ t6 + 4 + wdr d' 3 + wdr d' 2 ∧ Ha sp = some (.lst (rema.map V.str)) ∧ Ha lf = some (.dK (leftD loa caa)) ∧ (cb ++ declT bt ++ othC ot ++ rema ++ losta).Perm rem6 ∧ BlkAt (hid (bd :: so :: ms) Ha) y cb bt ∧
        (∀ q, ot = some q → BlkAt (hid (bd :: so :: ms) Ha) q.1 q.2.1 q.2.2 ∧ wfT (nm ++ own ++ q.2.1) d' q.2.2 ∧ depT q.2.2 ≤ d' ∧ locN q.2.1 + sizeT q.2.2 ≤ 1 + wsz d' 2)) (fun D' hq => ?_) ?_
      · refine ⟨_, rfl, tConsC_i (tNil_i ⟨p, a, ns, t9, l9, 2, rfl, PA9, by omega, by decide, by decide, fun wa ta la Ha y0 y1 y2 y3 ba PAa => ?_⟩)⟩
        have k9a : Kp [p, sp, lf] H9 Ha := Kp.but ba (by simp)
        have espa := ba _ _ npsp esp9
        have elfa := ba _ _ nlp elf9
        have hba := hb9.same (k9a.sub hms3).hid
        refine ⟨rfl, _, rfl, ite2 (fun _ => ?_) fun _ => ?_⟩
        · refine ⟨_, rfl, _, rfl, _, rfl, _, rfl, _, rfl, tConsC_i (tNil_i ⟨p, a, ns, ta, la, 3, rfl, PAa, by omega, by decide, by decide, fun wb tb lb Hb2 x0 x1 x2 x3 bb PAb => ?_⟩)⟩
          obtain ⟨n, rfl⟩ : ∃ n : Nat, wb = (n : Int) := ⟨_, (Int.toNat_of_nonneg x0).symm⟩
          have hwm := wdr_le (d := d') (show n ≤ 2 by omega)
          have hzm := wsz_le (d := d') (show n ≤ 2 by omega)
          refine ⟨_, rfl, _, _, rfl, rfl, _, rfl, tNil_i ?_⟩
          show spWB e [.ref p, .ref he, .ref sp, .ref so, .int (n : Int), .int (((d' + 1 : Nat) : Int) - 1), .ref lf] Hb2 _ _
          rw [eS]
          refine inner Hb2 tb lb lo9 ca9 rem9 n _ (k9.trans (k9a.trans (Kp.but bb (by simp)))) PAb (by omega) (by omega) (bb _ _ npsp espa) (bb _ _ nlp elfa) (by omega) sub9 ?_
          intro x cs tr' spr' lost' t' lo' ca' H' a1 a2 a3 a4 a5 a6 a7 a8 a9 a10 a11
          obtain ⟨l', PA'⟩ := a2
          have kbb : Kp [p, sp, lf] Ha Hb2 := Kp.but bb (by simp)
          refine hq _ _ ⟨some (x, cs, tr'), spr', lost' ++ lost9, t', l', lo', ca', rfl, k9.trans (k9a.trans (kbb.trans a1)), PA', by omega, by omega, a5, a6, ?_, hba.same ((kbb.trans a1).sub hms3).hid, fun q hq => ?_⟩
          · refine List.Perm.trans ?_ pm9
            show (cb ++ declT bt ++ (cs ++ declT tr') ++ spr' ++ (lost' ++ lost9)).Perm _
            have h5 : (cb ++ declT bt ++ (cs ++ declT tr') ++ spr' ++ (lost' ++ lost9)) = (cb ++ declT bt) ++ (cs ++ declT tr' ++ spr' ++ lost') ++ lost9 := by simp only [List.append_assoc]
            rw [h5]
            exact (List.Perm.append_left _ a7).append_right _
          · cases hq
            exact ⟨a8, a9, a10, by show locN cs + sizeT tr' ≤ _; omega⟩
        · refine hq _ _ ⟨none, rem9, lost9, ta, la, lo9, ca9, rfl, k9.trans k9a, PAa, by omega, by omega, espa, elfa, ?_, hba, fun q hq => (by cases hq)⟩
          show (cb ++ declT bt ++ [] ++ rem9 ++ lost9).Perm _
          rw [List.append_nil]
          exact pm9
      rintro _ Ha ⟨ot, rema, losta, ta, la, loa, caa, rfl, ka, PAa, u2, u3, espa, elfa, pma, hba, hot⟩
      have ebda := ka _ _ (by simp [nb.1, nb.2.1, nb.2.2.1]) W.ebd
      have esoa := ka _ _ (by simp [nosp.1, nosp.2.1, nosp.2.2.1]) W.eso
      have ehea := ka _ _ (by simp [(nsp_ fhe).1, (nsp_ fhe).2.1, (nsp_ fhe).2.2.1]) ehe6
      have alivea : ∀ m ∈ bd :: so :: ms, Ha m ≠ none := fun m hm => ka.alive (three PAa espa elfa) (alive6 m hm)
      have hork := W.orl
      -- the order is made
      have fin : ∀ (Hc : Hp) (o : Addr) (u : T) (tc lc loc_ cac : Int) (lostc : List Str), Kp [p, sp, lf] Ha Hc → PenAt Hc p a ns tc lc → ta ≤ tc → tc ≤ ta + 3 → Hc sp = some (.lst (rema.map V.str)) → Hc lf = some (.dK (leftD loc_ cac)) → OrdsAt (hid (bd :: so :: ms) Hc) u [o] → (declT u ++ rema ++ lostc).Perm rem6 → wfT (nm ++ own) (d' + 1) u → depT u ≤ d' + 1 → sizeT u ≤ 5 + wsz d' 3 + wsz d' 2 →
          rAppend (.ref bd) [.ref o] Hc (fun _ H1 => ∃ z11 z12 z13 z14 t' lo' ca' rem' lost pts' tr ors, [some (.ref p), some (.ref nA), some (.ref sp), some (.ref po), some (.int (size : Nat)), some (.int ((d' + 1 : Nat) : Int)), some (.ref lf), some (.ref D), some (.ref he), some (.ref so), some (.ref bd), some (.int (0 + (k : Nat))), some (.int w7), some (.ref y), some (othV ot), none] = [some (.ref p), some (.ref nA), some (.ref sp), some (.ref po), some (.int (size : Nat)), some (.int ((d' + 1 : Nat) : Int)), some (.ref lf), some (.ref D), some (.ref he), some (.ref so), some (.ref bd), z11, z12, z13, z14, none] ∧
            WbAt ms Hb H1 p a sp lf so bd ns t1 nm own spr pt.length (d' + 1) (k + 1) t' lo' ca' rem' lost pts' tr ors) := by
        intro Hc o u tc lc loc_ cac lostc kc PAc v0 v1 espc elfc hu_ pmu wfu dpu szu
        have ebdc := kc _ _ (by simp [nb.1, nb.2.1, nb.2.2.1]) ebda
        have esoc := kc _ _ (by simp [nosp.1, nosp.2.1, nosp.2.2.1]) esoa
        refine ⟨bd, _, _, rfl, rfl, ebdc, by rw [List.length_map]; exact small1000 (by omega), _, _, _, _, tc, loc_, cac, rema, lostc ++ lost6, pts6, tr.app u, ors ++ [o], rfl, W.add hms nb (H2 := Hc) ((ka.trans kc).sub fun m hm => List.mem_cons_of_mem _ hm) ⟨lc, PAc⟩ (by omega) ?_ espc elfc esoc hu_ pmu wfu dpu ?_ W.ptm (by omega)⟩
        · rw [hd1]; omega
        · rw [hs1]; exact szu
      have pmA : ∀ (u : T), declT u = cb ++ declT bt → (declT u ++ rema ++ (othC ot ++ losta)).Perm rem6 := fun u eu => by
        refine List.Perm.trans ?_ pma
        rw [eu]
        have h5 : cb ++ declT bt ++ rema ++ (othC ot ++ losta) = (cb ++ declT bt) ++ (rema ++ othC ot) ++ losta := by simp only [List.append_assoc]
        have h6 : cb ++ declT bt ++ othC ot ++ rema ++ losta = (cb ++ declT bt) ++ (othC ot ++ rema) ++ losta := by simp only [List.append_assoc]
        rw [h5, h6]
        exact (List.Perm.append_left _ List.perm_append_comm).append_right _
      have s2 : 2 ≤ sizeLine := sz1000 (by decide)
      have s3 : 3 ≤ sizeLine := sz1000 (by decide)
      have s5 : 5 ≤ sizeLine := sz1000 (by decide)
      have sz1_ : ∀ op : Op, sizeT (.one op cb bt .nil) ≤ 5 + wsz d' 3 + wsz d' 2 := fun op => by rw [sizeT, sizeT]; omega
      have dp1_ : ∀ op : Op, depT (.one op cb bt .nil) ≤ d' + 1 := fun op => by rw [depT, depT]; omega
      have out_ : ∀ {Hc : Hp} {o : Addr}, Kp [p, sp, lf] Ha Hc → (∀ m ∈ [p, sp, lf], Hc m ≠ none) → Hc o = none → o ∉ bd :: so :: ms := fun kc h3 no hm => kc.alive h3 (alivea _ hm) no
      refine if_mid (fun H1 => Ha = H1) (fun H1 => Ha = H1) (fun Qy hy hn => ?_) (fun H1 e1 => ?_) (fun H1 e1 => ?_)
      · have both : ∀ b : Bool, Qy b Ha := fun b => by
          cases b with
          | true => exact hy _ rfl
          | false => exact hn _ rfl
        exact ⟨_, rfl, rfl, _, rfl, ite2 (fun _ => ⟨_, rfl, lf, _, rfl, get_loop elfa, _, _, rfl, rfl, _, rfl, both _⟩) fun _ => hn _ rfl⟩
      · subst e1
        refine ⟨_, rfl, lf, _, rfl, get_loop elfa, _, _, rfl, rfl, _, rfl, lf, _, rfl, put_loop elfa, ?_⟩
        have kc : Kp [p, sp, lf] Ha (upd Ha lf (.dK (leftD (loa - 1) caa))) := (Kp.refl _ _).put (by simp)
        have PAc : PenAt (upd Ha lf (.dK (leftD (loa - 1) caa))) p a ns ta la := PAa.upd' nlp.symm nalf
        have espc : (upd Ha lf (.dK (leftD (loa - 1) caa))) sp = some (.lst (rema.map V.str)) := (upd_ne nlsp.symm).trans espa
        have elfc : (upd Ha lf (.dK (leftD (loa - 1) caa))) lf = some (.dK (leftD (loa - 1) caa)) := upd_same
        refine ⟨_, rfl, .inl ⟨rfl, _, SqL.of (kc _ _ (by simp [nb.1, nb.2.1, nb.2.2.1]) ebda)⟩, _, rfl, s2, fun o no => tNil_i ?_⟩
        have So := new_same (o := .tup [.str "loop", .ref y]) no
        have ho := out_ kc (three PAc espc elfc) no
        exact fin _ o (.one .loop cb bt .nil) ta la (loa - 1) caa (othC ot ++ losta) (kc.trans (Kp.of So)) (PAc.new no) (Int.le_refl _) (by omega) (So _ _ espc) (So _ _ elfc) (ords_one (op := .loop) (hid_at ho upd_same) (hba.same ((kc.trans (Kp.of So)).sub hms3).hid)) (pmA _ (by simp only [declT, List.append_nil])) ⟨fun x hx => (by cases hx), wf9, trivial⟩ (dp1_ _) (sz1_ _)
      subst e1
      refine ⟨_, rfl, _, _, rfl, rfl, _, rfl, ite2 (fun _ => ?_) fun _ => ?_⟩
      · refine ⟨_, rfl, .inl ⟨rfl, _, SqL.of ebda⟩, _, rfl, s2, fun o no => tNil_i ?_⟩
        have So := new_same (o := .tup [.str "block", .ref y]) no
        have ho := out_ (Kp.refl _ _) (three PAa espa elfa) no
        exact fin _ o (.one .block cb bt .nil) ta la loa caa (othC ot ++ losta) (Kp.of So) (PAa.new no) (Int.le_refl _) (by omega) (So _ _ espa) (So _ _ elfa) (ords_one (op := .block) (hid_at ho upd_same) (hba.same (Kp.of So).hid)) (pmA _ (by simp only [declT, List.append_nil])) ⟨fun x hx => (by cases hx), wf9, trivial⟩ (dp1_ _) (sz1_ _)
      refine ⟨_, rfl, tConsC_i (tNil_i ⟨p, a, ns, ta, la, 2, rfl, PAa, by omega, by decide, by decide, fun wb tb lb Hc y0 y1 y2 y3 bc PAc => ?_⟩)⟩
      have kc : Kp [p, sp, lf] Ha Hc := Kp.but bc (by simp)
      have espc := bc _ _ npsp espa
      have elfc := bc _ _ nlp elfa
      have ebdc := bc _ _ nb.1 ebda
      have ehec := bc _ _ (nsp_ fhe).1 ehea
      have pmB : ∀ op : Op, (declT (mkT op cb bt ot) ++ rema ++ losta).Perm rem6 := fun op => by rw [mk_decl]; exact pma
      refine ⟨rfl, _, rfl, ite2 (fun _ => ?_) fun _ => ?_⟩
      · refine ⟨_, rfl, .inl ⟨rfl, _, SqL.of ebdc⟩, _, rfl, _, rfl, s3, fun o no => tNil_i ?_⟩
        have So := new_same (o := .tup [.str "maybe", .ref y, othV ot]) no
        have ho := out_ kc (three PAc espc elfc) no
        have kd := kc.trans (Kp.of So)
        exact fin _ o (mkT .maybe cb bt ot) tb lb loa caa losta kd (PAc.new no) y2 (by omega) (So _ _ espc) (So _ _ elfc) (mk_ords (op := .maybe) rfl (hid_at ho upd_same) (hba.same (kd.sub hms3).hid) fun q hq => (hot q hq).1.same (kd.sub hms3).hid) (pmB _) (mk_wf rfl (fun x hx => (by cases hx)) wf9 fun q hq => (hot q hq).2.1) (mk_dep dp9 fun q hq => (hot q hq).2.2.1) (mk_size sz9 fun q hq => (hot q hq).2.2.2)
      · have hneP : he ≠ p := (nsp_ fhe).1
        have hlA : ((nm ++ own).map V.str).length = (nm ++ own).length := List.length_map ..
        have hlB : (nm ++ own).length ≤ 1000 := by rw [List.length_append]; omega
        refine ⟨_, rfl, .inl ⟨rfl, _, SqL.of ebdc⟩, _, rfl, _, rfl, tNil_i ⟨p, a, he, ns, tb, lb, _, rfl, PAc, by omega, hneP, ehec, by rw [hlA]; exact hen0, by rw [hlA]; exact hlB, fun i1 v1 td ld Hd hv1 x0 x1 bdd PAd => ?_⟩⟩
        have ehed := bdd _ _ hneP ehec
        refine ⟨_, rfl, _, rfl, tNil_i ⟨p, a, he, ns, td, ld, _, rfl, PAd, by omega, hneP, ehed, by rw [hlA]; exact hen0, by rw [hlA]; exact hlB, fun i2 v2 te le He hv2 x2 x3 bee PAe => ?_⟩⟩
        rw [List.getElem?_map] at hv1 hv2
        obtain ⟨sa, hsa, rfl⟩ := Option.map_eq_some_iff.mp hv1
        obtain ⟨sb, hsb, rfl⟩ := Option.map_eq_some_iff.mp hv2
        have ke : Kp [p, sp, lf] Ha He := kc.trans (Kp.but (bdd.trans bee) (by simp))
        have espe := bee _ _ npsp (bdd _ _ npsp espc)
        have elfe := bee _ _ nlp (bdd _ _ nlp elfc)
        refine ⟨_, rfl, _, rfl, s5, fun o no => tNil_i ?_⟩
        have So := new_same (o := .tup [.str "same", .str sa, .str sb, .ref y, othV ot]) no
        have ho := out_ ke (three PAe espe elfe) no
        have kd := ke.trans (Kp.of So)
        refine fin _ o (mkT (.same sa sb) cb bt ot) te le loa caa losta kd (PAe.new no) (by omega) (by omega) (So _ _ espe) (So _ _ elfe) (mk_ords (op := .same sa sb) rfl (hid_at ho upd_same) (hba.same (kd.sub hms3).hid) fun q hq => (hot q hq).1.same (kd.sub hms3).hid) (pmB _) (mk_wf rfl (fun x hx => ?_) wf9 fun q hq => (hot q hq).2.1) (mk_dep dp9 fun q hq => (hot q hq).2.2.1) (mk_size sz9 fun q hq => (hot q hq).2.2.2)
        rcases List.mem_cons.mp hx with rfl | hx
        · exact List.mem_of_getElem? hsa
        · rw [List.mem_singleton.mp hx]; exact List.mem_of_getElem? hsb
    · rintro σ H6 ⟨z11, z12, z13, z14, t6, lo6, ca6, rem6, lost6, pts6, tr, ors, rfl, W⟩
      have k06 : Kp [p, sp, lf] H H6 := fun c u nc ec => W.kb c u (fun hc => by
        rcases List.mem_cons.mp hc with rfl | hc
        · rw [fbd] at ec; cases ec
        rcases List.mem_cons.mp hc with rfl | hc
        · rw [fso] at ec; cases ec
        · exact nc hc) (k05 c u nc ec)
      have nD5 : D ∉ [bd, so, p, sp, lf] := by simp [nDp, nDsp, nDlf, nbdD.symm, nsoD.symm]
      have eD6 := W.kb _ _ nD5 eow5
      intro x nx
      obtain ⟨l6, PA6⟩ := W.pen
      have hms6 : ∀ m ∈ [p, sp, lf], H6 m ≠ none := fun m hm => by
        rcases List.mem_cons.mp hm with rfl | hm
        · exact some_ne PA6.p
        rcases List.mem_cons.mp hm with rfl | hm
        · exact some_ne W.esp
        · rw [List.mem_singleton.mp hm]; exact some_ne W.elf
      have fx : H x = none := k06.free hms6 nx
      have out : ∀ {z : Addr}, H z = none → z ∉ ms := fun {z} fz hz => hma z hz fz
      refine ⟨_, rfl, _, rfl, (upd_same), blkD D bd, rfl, by show 2 ≤ 15; decide, ?_⟩
      have nxD : D ≠ x := ne_of_none eD6 nx
      have nxb : bd ≠ x := ne_of_none W.ebd nx
      have w1 := W.hi_
      have w2 := W.lo_
      have S7 : Same H6 (upd (upd H6 x (.dK [])) x (.dK (blkD D bd))) := Same.put (new_same nx) nx
      refine q x own tr rem6 lost6 t6 lo6 ca6 _ (k06.trans (Kp.of S7)) ⟨l6, ⟨S7 _ _ PA6.p, S7 _ _ PA6.a, PA6.n, PA6.t0, PA6.l0⟩⟩ (by omega) (by omega) (S7 _ _ W.esp) (S7 _ _ W.elf) W.perm (by omega) ?_ fx W.wf W.dep (by rw [hse]; exact W.sz) (by rw [← OrdsAt.len _ W.ords]; exact W.orl)
      exact ⟨D, bd, ors, fbd, out fx, out fow, out fbd, upd_same, S7 _ _ eD6, S7 _ _ W.ebd, nbdD.symm, (W.ords.same (Kp.of S7).hid).same (hid_sub fun m hm => by
        rcases List.mem_cons.mp hm with rfl | hm
        · exact List.mem_cons_self
        · exact List.mem_cons_of_mem _ (List.mem_cons_of_mem _ hm))⟩
end
end FP
set_option Elab.async false
set_option linter.all false
set_option maxRecDepth 100000
set_option maxHeartbeats 4000000
set_option exponentiation.threshold 2000
/-! A law's choices. -/
namespace FP
open PySem PySem.Spec PyProof.Rows L2 TL
section
variable {P : Program} {w : World} {K : PySem.W.Frag} {mg : Str → Option Value} {base : Heap}
def spNC : Sp := fun vs H Q _ => ∃ (p a : Addr) (ns : List Int) (t l : Int) (m : Nat), vs = [.ref p, .int (m : Nat)] ∧ PenAt H p a ns t l ∧ t ≤ 900000 ∧ m ≤ 100 ∧
  ∀ (r : Addr) (xs : List Int) (t' : Int) (H' : Hp), xs.length = m → (∀ x ∈ xs, x.natAbs < 10 ^ 60) → t ≤ t' → t' ≤ t + 4 * m → But p H H' → (∃ l', PenAt H' p a ns t' l') → H r = none → H' r = some (.lst (xs.map V.int)) → Q (.ref r) H'
abbrev nNC : List Str := ["_law_pen", "_law_many", "_law_found", "_law_k", "_law_way", "_law_number"]
theorem scNC : FnScope nNC ["_law_pen", "_law_many"] (defScope qNewChoices) := ⟨rfl, rfl, rfl, by decide +kernel, rfl, by decide +kernel, by decide +kernel⟩
theorem six_ok {i : Nat} {v : V} (h : [V.int 0, .int 0, .int 1, .int 1, .int 2, .int 3][i]? = some v) : ∃ n : Int, v = .int n ∧ n.natAbs < 10 ^ 60 := by
  match i, h with
  | 0, h => cases h; exact ⟨_, rfl, by decide⟩
  | 1, h => cases h; exact ⟨_, rfl, by decide⟩
  | 2, h => cases h; exact ⟨_, rfl, by decide⟩
  | 3, h => cases h; exact ⟨_, rfl, by decide⟩
  | 4, h => cases h; exact ⟨_, rfl, by decide⟩
  | 5, h => cases h; exact ⟨_, rfl, by decide⟩
  | i + 6, h => cases h
theorem small60 {n : Int} (h1 : -(10 ^ 20) ≤ n) (h2 : n ≤ 10 ^ 20) : n.natAbs < 10 ^ 60 := by
  have : n.natAbs ≤ 10 ^ 20 := by omega
  exact Nat.lt_of_le_of_lt this (by decide)
theorem ok_nc {f : Addr} {fd : FuncData} (F : Fun K "_law_new_choices" "_law_new_choices" qNewChoices f fd) (DD : Def P w K mg base "_law_draw" 1 ["_law_pen", "_law_span"] spDraw) (DP : Def P w K mg base "_law_pick" 2 ["_law_pen", "_law_options"] spPick) (hrg : mg "range" = none) :
    FnOk P w K mg base CX0 3 f fd ["_law_pen", "_law_many"] spNC := by
  obtain ⟨fD, fdD, gD, kD, bD, GD⟩ := DD.ex
  obtain ⟨fP, fdP, gP, kP, bP, GP⟩ := DP.ex
  refine F.ok scNC (fun vs H Q E h => ?_) (fun cdv A outer s H vs Q E hr h => ?_)
  · obtain ⟨p, a, ns, t, l, m, rfl, _⟩ := h
    rfl
  obtain ⟨p, a, ns, t, l, m, rfl, PA0, ht, hm, q⟩ := h
  have hr1 := hr.mono (show 1 ≤ 2 by decide)
  have nd := scNC.nd
  refine ⟨_, pss_cons (ps_set (i := 2) nd rfl (.inl rfl) (pe_lst pa_nil))
    (pss_cons (ps_for PassesOwn.never rfl (pi_range1 (by rfl) hrg (pa_cons (pv 1) pa_nil)) (pg_name (i := 3) nd rfl (Or.inl rfl))
      (pss_cons (ps_set (i := 4) nd rfl (.inl rfl) (pe_call GD hr1 rfl gD kD bD .nil pass0 (pa_cons (pv 0) (pa_cons pe_int pa_nil))))
      (pss_cons (ps_set (i := 5) nd rfl (.inl rfl) (pe_call GP hr rfl gP kP bP .nil pass0 (pa_cons (pv 0) (pa_cons (pe_lst (pa_cons pe_int (pa_cons pe_int (pa_cons pe_int (pa_cons pe_int (pa_cons pe_int (pa_cons pe_int pa_nil))))))) pa_nil))))
      (pss_cons (ps_if (pt_cmpR op_eq (pv 4) pe_int (nomark _)) (pss_one (ps_set (i := 5) nd rfl (.inl rfl) (pe_op op_sub (pe_un un_neg pe_int) (pe_call GD hr1 rfl gD kD bD .nil pass0 (pa_cons (pv 0) (pa_cons pe_int pa_nil)))))) pss_nil)
      (pss_cons (ps_if (pt_cmpR op_eq (pv 4) pe_int (nomark _)) (pss_one (ps_set (i := 5) nd rfl (.inl rfl) (pe_op op_sub (pe_op op_mul (pe_call GD hr1 rfl gD kD bD .nil pass0 (pa_cons (pv 0) (pa_cons (pe_op op_pow pe_int pe_int) pa_nil))) (pe_op op_pow pe_int pe_int)) (pe_op op_pow pe_int pe_int)))) pss_nil)
      (pss_one (ps_expr (pe_bm PySem.F.plainAttrs_list PySem.F.slot_list_append PySem.F.type_list_append mt_append (pv 2) (pa_cons (pv 5) pa_nil)))))))))
    (pss_one (ps_ret (pv 2)))), ?_⟩
  refine ⟨Nat.zero_le _, fun r nr => ?_⟩
  have b0 := (But.refl p H).new (o := .lst []) nr
  have P0 := PA0.new (o := .lst []) nr
  have e0 := new_at (o := .lst []) nr
  have nrp : r ≠ p := (ne_of_none PA0.p nr).symm
  have nra : a ≠ r := ne_of_none PA0.a nr
  generalize upd H r (.lst []) = H0 at *
  refine ⟨_, rfl, tNil_i ⟨_, rfl, by omega, by omega, ?_⟩⟩
  rw [Int.toNat_natCast]
  refine for_it (walk_range (lo := 0) (n := m)) (fun i σ H' => ∃ (z3 z4 z5 : Option V) (xs : List Int) (t1 l1 : Int), σ = [some (.ref p), some (.int (m : Nat)), some (.ref r), z3, z4, z5] ∧ PenAt H' p a ns t1 l1 ∧ t ≤ t1 ∧ t1 ≤ t + 4 * (i : Nat) ∧ But p H H' ∧ H' r = some (.lst (xs.map V.int)) ∧ xs.length = i ∧ ∀ x ∈ xs, x.natAbs < 10 ^ 60)
    ⟨_, _, _, [], t, l, rfl, P0, Int.le_refl _, by omega, b0, e0, rfl, fun x hx => by cases hx⟩ (fun _ _ _ _ _ => True.intro) ?_ ?_
  · rintro i v σ H1 H2 hi ⟨z3, z4, z5, xs, t1, l1, rfl, P1, u0, u1, b1, er, hl, hx⟩ ⟨rfl, rfl⟩
    dsimp only [gName]
    refine ⟨_, rfl, tConsC_i (tNil_i ⟨p, a, ns, t1, l1, 12, rfl, P1, by omega, by decide, by decide, fun way t2 l2 H3 w0 w1 u2 u3 b3 P3 => ?_⟩)⟩
    have er3 := b3 r _ nrp er
    refine ⟨_, rfl, sz1000 (by show 6 ≤ 1000; decide), fun o no => ?_⟩
    have nop : o ≠ p := (ne_of_none P3.p no).symm
    have er4 := (new_same (o := .lst [.int 0, .int 0, .int 1, .int 1, .int 2, .int 3]) no) _ _ er3
    refine tNil_i ⟨p, a, o, ns, t2, l2, _, rfl, P3.new no, by omega, nop, upd_same, by show 0 < 6; decide, by show 6 ≤ 1000; decide, fun i2 v2 t3 l3 H4 hv u4 u5 b4 P4 => ?_⟩
    obtain ⟨n, rfl, hn⟩ := six_ok hv
    have er5 := b4 r _ nrp er4
    have B4 : But p H H4 := ((b1.trans b3).new no).trans b4
    dsimp only [gName]
    change tSeq _ (tSeq _ _) _ _ _
    refine seq_midS (fun σ' H5 => ∃ (n5 : Int) (t5 l5 : Int), σ' = [some (.ref p), some (.int (m : Nat)), some (.ref r), some (.int (0 + (i : Int))), some (.int way), some (.int n5)] ∧ PenAt H5 p a ns t5 l5 ∧ t3 ≤ t5 ∧ t5 ≤ t3 + 1 ∧ But p H H5 ∧ H5 r = some (.lst (xs.map V.int)) ∧ n5.natAbs < 10 ^ 60) (fun D' hq => ?_) ?_
    · refine ⟨_, rfl, rfl, _, rfl, ite2 (fun _ => ?_) fun _ => hq _ _ ⟨n, t3, l3, rfl, P4, by omega, by omega, B4, er5, hn⟩⟩
      refine ⟨_, rfl, _, rfl, tConsC_i (tNil_i ⟨p, a, ns, t3, l3, 3, rfl, P4, by omega, by decide, by decide, fun d t5 l5 H5 d0 d1 u6 u7 b5 P5 => ⟨_, _, rfl, rfl, hq _ _ ⟨_, t5, l5, rfl, P5, by omega, by omega, B4.trans b5, b5 r _ nrp er5, small60 (by omega) (by omega)⟩⟩⟩)⟩
    rintro σ5 H5 ⟨n5, t5, l5, rfl, P5, u6, u7, B5, er6, hn5⟩
    refine seq_midS (fun σ' H6 => ∃ (n6 : Int) (t6 l6 : Int), σ' = [some (.ref p), some (.int (m : Nat)), some (.ref r), some (.int (0 + (i : Int))), some (.int way), some (.int n6)] ∧ PenAt H6 p a ns t6 l6 ∧ t5 ≤ t6 ∧ t6 ≤ t5 + 1 ∧ But p H H6 ∧ H6 r = some (.lst (xs.map V.int)) ∧ n6.natAbs < 10 ^ 60) (fun D' hq => ?_) ?_
    · refine ⟨_, rfl, rfl, _, rfl, ite2 (fun _ => ?_) fun _ => hq _ _ ⟨n5, t5, l5, rfl, P5, by omega, by omega, B5, er6, hn5⟩⟩
      refine ⟨_, rfl, _, _, rfl, rfl, ⟨by decide, by decide, by decide⟩, tNil_i ⟨p, a, ns, t5, l5, _, rfl, P5, by omega, by decide, by decide, fun d t6 l6 H6 d0 d1 u8 u9 b6 P6 => ?_⟩⟩
      refine ⟨_, _, rfl, rfl, ⟨by decide, by decide, by decide⟩, _, _, rfl, rfl, .inr ⟨by decide, by decide⟩, _, _, rfl, rfl, ⟨by decide, by decide, by decide⟩, _, _, rfl, rfl, ?_⟩
      refine hq _ _ ⟨_, t6, l6, rfl, P6, by omega, by omega, B5.trans b6, b6 r _ nrp er6, ?_⟩
      have e1 : (10 : Int) ^ (6 : Int).toNat = 1000000 := by decide
      have e2 : (10 : Int) ^ (9 : Int).toNat = 1000000000 := by decide
      have e3 : (10 : Int) ^ (14 : Int).toNat = 100000000000000 := by decide
      rw [e1] at d1
      rw [e2, e3]
      exact small60 (by omega) (by omega)
    rintro σ6 H6 ⟨n6, t6, l6, rfl, P6, u8, u9, B6, er7, hn6⟩
    refine ⟨_, rfl, .inl ⟨rfl, _, SqL.of er7⟩, _, rfl, r, _, _, rfl, rfl, er7, small1000 (by rw [List.length_map]; omega), _, _, _, xs ++ [n6], t6, l6, rfl, ?_, by omega, by omega, ?_, ?_, by rw [List.length_append, hl]; rfl, fun x hx' => ?_⟩
    · exact ⟨(upd_ne nrp.symm).trans P6.p, (upd_ne nra).trans P6.a, P6.n, P6.t0, P6.l0⟩
    · exact fun b u nb eb => (upd_ne (ne_of_none eb nr)).trans (B6 b u nb eb)
    · rw [upd_same, List.map_append]; rfl
    · rcases List.mem_append.mp hx' with z | z
      · exact hx x z
      · rw [List.mem_singleton.mp z]; exact hn6
  · rintro σ H' ⟨z3, z4, z5, xs, t1, l1, rfl, P1, u0, u1, b1, er, hl, hx⟩
    exact ⟨_, rfl, q r xs t1 _ hl hx u0 u1 b1 ⟨_, P1⟩ nr er⟩
end
end FP
set_option Elab.async false
set_option linter.all false
set_option maxRecDepth 100000
set_option maxHeartbeats 4000000
set_option exponentiation.threshold 2000
/-! The nodes of a law's tree, laid in a dict. -/
namespace FP
open PySem PySem.Spec PyProof.Rows L2 TL
section
variable {P : Program} {w : World} {K : PySem.W.Frag} {mg : Str → Option Value} {base : Heap}
abbrev nLO : List Str := ["_law_nodes", "_law_order", "_law_number", "_law_after", "_law_kind", "_law_one", "_law_two", "_law_first", "_law_other"]
abbrev pLO : List Str := ["_law_nodes", "_law_order", "_law_number", "_law_after"]
abbrev nLA : List Str := ["_law_nodes", "_law_block", "_law_start", "_law_after", "_law_numbers", "_law_at", "_law_order", "_law_goal", "_law_k"]
abbrev pLA : List Str := ["_law_nodes", "_law_block", "_law_start", "_law_after"]
theorem scLaO : FnScope nLO pLO (defScope qLaid) := ⟨rfl, rfl, rfl, by decide +kernel, rfl, by decide +kernel, by decide +kernel⟩
theorem scLaA : FnScope nLA pLA (defScope qLaidAll) := ⟨rfl, rfl, rfl, by decide +kernel, rfl, by decide +kernel, by decide +kernel⟩
def spLaid (d : Nat) : Sp := fun vs H Q _ => ∃ (nA o : Addr) (n g : Nat) (u : T) (kvs : List (Key × V)), vs = [.ref nA, .ref o, .int (n : Nat), .int (g : Nat)] ∧ H nA = some (.dK kvs) ∧ OrdsAt (hid [nA] H) u [o] ∧ depT u < d ∧ OkT u ∧ ok2 u ∧ kvs.length + sizeT u ≤ 10000 ∧
  ∀ kvs' H', Kp [nA] H H' → H' nA = some (.dK kvs') → NodT (NdAt H' kvs') n u g → (∀ key, (∀ m : Nat, n ≤ m → m < n + sizeT u → key ≠ .inl (m : Int)) → valV kvs' key = valV kvs key) → kvs'.length ≤ kvs.length + sizeT u → Q (.int (firstT n u g : Nat)) H'
def spLaidA (d : Nat) : Sp := fun vs H Q _ => ∃ (nA x : Addr) (n g : Nat) (cs : List Str) (t : T) (kvs : List (Key × V)), vs = [.ref nA, .ref x, .int (n : Nat), .int (g : Nat)] ∧ H nA = some (.dK kvs) ∧ BlkAt (hid [nA] H) x cs t ∧ depT t < d ∧ OkB cs t ∧ ok2 t ∧ kvs.length + sizeT t ≤ 10000 ∧
  ∀ kvs' H', Kp [nA] H H' → H' nA = some (.dK kvs') → NodT (NdAt H' kvs') (n + locN cs) t g → (∀ key, (∀ m : Nat, n + locN cs ≤ m → m < n + locN cs + sizeT t → key ≠ .inl (m : Int)) → valV kvs' key = valV kvs key) → kvs'.length ≤ kvs.length + sizeT t → Q (.int (firstT (n + locN cs) t g : Nat)) H'
theorem deed_kind (d : Deed) : decide (V.str d.word = V.str "block") = false ∧ decide (V.str d.word = V.str "loop") = false ∧ inV (.str d.word) [.str "maybe", .str "same"] = false := match d with
  | .input _ => (by decide : decide (V.str "input" = V.str "block") = false ∧ decide (V.str "input" = V.str "loop") = false ∧ inV (.str "input") [.str "maybe", .str "same"] = false)
  | .copy _ _ => (by decide : decide (V.str "copy" = V.str "block") = false ∧ decide (V.str "copy" = V.str "loop") = false ∧ inV (.str "copy") [.str "maybe", .str "same"] = false)
  | .point _ _ => (by decide : decide (V.str "point" = V.str "block") = false ∧ decide (V.str "point" = V.str "loop") = false ∧ inV (.str "point") [.str "maybe", .str "same"] = false)
  | .load _ _ => (by decide : decide (V.str "load" = V.str "block") = false ∧ decide (V.str "load" = V.str "loop") = false ∧ inV (.str "load") [.str "maybe", .str "same"] = false)
  | .store _ _ => (by decide : decide (V.str "store" = V.str "block") = false ∧ decide (V.str "store" = V.str "loop") = false ∧ inV (.str "store") [.str "maybe", .str "same"] = false)
  | .use _ => (by decide : decide (V.str "use" = V.str "block") = false ∧ decide (V.str "use" = V.str "loop") = false ∧ inV (.str "use") [.str "maybe", .str "same"] = false)
  | .call _ => (by decide : decide (V.str "call" = V.str "block") = false ∧ decide (V.str "call" = V.str "loop") = false ∧ inV (.str "call") [.str "maybe", .str "same"] = false)
theorem small1000' {kvs : List (Key × V)} {u : T} (h : kvs.length + sizeT u ≤ 10000) (h2 : sizeT u ≤ 1000) : kvs.length < sizeLine := by rw [sizeLine_eq]; omega
theorem nd_put {H2 : Hp} {nA p3 w : Addr} {kvs : List (Key × V)} {n a b : Nat} {k : Str} {ws : List Str} (en : H2 nA = some (.dK kvs)) (e3 : H2 p3 = some (.tup [.str k, .ref w, .int (a : Nat), .int (b : Nat)])) (ew : H2 w = some (.tup (ws.map V.str))) :
    NdAt (upd H2 nA (.dK (putK kvs (.inl (n : Int)) (.ref p3)))) (putK kvs (.inl (n : Int)) (.ref p3)) n k ws a b ∧ ∀ m k ws a b, m ≠ n → NdAt H2 kvs m k ws a b → NdAt (upd H2 nA (.dK (putK kvs (.inl (n : Int)) (.ref p3)))) (putK kvs (.inl (n : Int)) (.ref p3)) m k ws a b := by
  have tp : ∀ x v, H2 x = some (.tup v) → upd H2 nA (.dK (putK kvs (.inl (n : Int)) (.ref p3))) x = some (.tup v) := fun x v h => (upd_ne (ne_of h en (by intro z; cases z))).trans h
  exact ⟨⟨p3, w, val_putK _ _ _, tp _ _ e3, tp _ _ ew⟩, fun m k ws a b hm h => h.mono (val_putK_ne _ _ _ _ (fun z => hm (by have := Sum.inl.inj z; omega))) tp⟩
theorem op2_kind (op : Op) (h : op.two = true) : decide (V.str op.word = V.str "block") = false ∧ decide (V.str op.word = V.str "loop") = false ∧ inV (.str op.word) [.str "maybe", .str "same"] = true := by
  cases op with
  | block => cases h
  | loop => cases h
  | maybe => exact (by decide : decide (V.str "maybe" = V.str "block") = false ∧ decide (V.str "maybe" = V.str "loop") = false ∧ inV (.str "maybe") [.str "maybe", .str "same"] = true)
  | same a b => exact (by decide : decide (V.str "same" = V.str "block") = false ∧ decide (V.str "same" = V.str "loop") = false ∧ inV (.str "same") [.str "maybe", .str "same"] = true)
def parL (op : Op) (x : Addr) (z : V) : List V := V.str op.word :: (op.names.map V.str ++ [.ref x, z])
theorem parL_at (op : Op) (x : Addr) (z : V) : atI (parL op x z) (((parL op x z).length : Int) - 2) = some (.ref x) ∧ atI (parL op x z) (((parL op x z).length : Int) - 1) = some z ∧
    ¬ (HT.sIx (parL op x z).length 0 (some (1 : Int)) = 0 ∧ HT.sIx (parL op x z).length (parL op x z).length (some (((parL op x z).length : Int) - 2)) = (parL op x z).length) ∧ cutV (parL op x z) (some 1) (some (((parL op x z).length : Int) - 2)) = op.names.map V.str := by
  have hl : (parL op x z).length = op.names.length + 3 := by unfold parL; rw [List.length_cons, List.length_append, List.length_map]; rfl
  have e2 : ((parL op x z).length : Int) - 2 = ((op.names.length + 1 : Nat) : Int) := by rw [hl]; omega
  have e1 : ((parL op x z).length : Int) - 1 = ((op.names.length + 2 : Nat) : Int) := by rw [hl]; omega
  have s1 : HT.sIx (parL op x z).length 0 (some ((1 : Nat) : Int)) = min 1 (parL op x z).length := HT.sIx_nat ..
  have s2 : HT.sIx (parL op x z).length (parL op x z).length (some ((op.names.length + 1 : Nat) : Int)) = min (op.names.length + 1) (parL op x z).length := HT.sIx_nat ..
  rw [e1, e2]
  refine ⟨atI_nat ?_, atI_nat ?_, fun q => ?_, ?_⟩
  · unfold parL
    rw [List.getElem?_cons_succ, List.getElem?_append_right (by rw [List.length_map]; omega), List.length_map, Nat.sub_self]
    rfl
  · unfold parL
    rw [List.getElem?_cons_succ, List.getElem?_append_right (by rw [List.length_map]; omega), List.length_map, show op.names.length + 1 - op.names.length = 1 by omega]
    rfl
  · have := q.2
    rw [s2, hl] at this
    omega
  · unfold cutV
    rw [show (some (1 : Int)) = some ((1 : Nat) : Int) from rfl, s1, s2, hl, show min 1 (op.names.length + 3) = 1 by omega, show min (op.names.length + 1) (op.names.length + 3) = op.names.length + 1 by omega, show op.names.length + 1 - 1 = op.names.length by omega]
    unfold parL
    rw [List.drop_one, List.tail_cons, List.take_append_of_le_length (by rw [List.length_map]; omega), List.take_of_length_le (by rw [List.length_map]; omega)]
structure LaidG (P : Program) (w : World) (K : PySem.W.Frag) (mg : Str → Option Value) (base : Heap) (D : Nat) (fL fA : Addr) (fdL fdA : FuncData) : Prop where
  FL : Fun K "_law_laid" "_law_laid" qLaid fL fdL
  FA : Fun K "_law_laid_all" "_law_laid_all" qLaidAll fA fdA
  gL : mg "_law_laid" = some (.ref fL)
  kL : W.keepIn K (.ref fL) = true
  bL : Binds K fdL pLO []
  gA : mg "_law_laid_all" = some (.ref fA)
  kA : W.keepIn K (.ref fA) = true
  bA : Binds K fdA pLA []
  DS : Def P w K mg base "_law_block_size" (D + 1) ["_law_block"] (spBS D)
  DO : Def P w K mg base "_law_order_size" (D + 2) ["_law_order"] (spOS D)
theorem ok_laidL {D : Nat} {fL fA : Addr} {fdL fdA : FuncData} (G : LaidG P w K mg base D fL fA fdL fdA) (B : Blt3 mg) {d : Nat} (hd : d < D) (GA : FnOk P w K mg base CX0 (2 * d + D + 3) fA fdA pLA (spLaidA d)) : FnOk P w K mg base CX0 (2 * (d + 1) + D + 2) fL fdL pLO (spLaid (d + 1)) := by
  obtain ⟨fS, fdS, gS, kS, bS, GS⟩ := G.DS.ex
  have gA := G.gA
  have kA := G.kA
  have bA := G.bA
  refine G.FL.ok scLaO (fun vs H Q E h => ?_) (fun cdv A outer s H vs Q E hr h => ?_)
  · obtain ⟨nA, o, n, g, u, kvs, rfl, _⟩ := h
    rfl
  obtain ⟨nA, o, n, g, u, kvs, rfl, hn, ho, hdu, O, o2, hk, q⟩ := h
  have hu := hu_of hr
  have nd := scLaO.nd
  have hr' := hr.mono (show 2 * d + D + 3 ≤ 2 * (d + 1) + D + 1 by omega)
  have hrS := hr.mono (show D + 1 ≤ 2 * (d + 1) + D + 1 by omega)
  refine ⟨_, pss_cons (ps_set (i := 4) nd rfl (.inl rfl) (pe_ix ix_tup (pv 1) pe_int (fun _ _ => rfl)))
    (pss_cons (ps_if (pt_cmpR op_eq (pv 4) pe_str (nomark _)) (pss_one (ps_ret (pe_call GA hr' rfl gA kA bA .nil pass0 (pa_cons (pv 0) (pa_cons (pe_ix ix_tup (pv 1) pe_int (fun _ _ => rfl)) (pa_cons (pe_op op_add (pv 2) pe_int) (pa_cons (pv 3) pa_nil))))))) pss_nil)
    (pss_cons (ps_if (pt_cmpR op_eq (pv 4) pe_str (nomark _)) (pss_cons (ps_dput hu (pv 0) (pv 2) (pe_tup (pa_cons pe_str (pa_cons (pe_tup pa_nil) (pa_cons (pe_call GA hr' rfl gA kA bA .nil pass0 (pa_cons (pv 0) (pa_cons (pe_ix ix_tup (pv 1) pe_int (fun _ _ => rfl)) (pa_cons (pe_op op_add (pv 2) pe_int) (pa_cons (pv 2) pa_nil))))) (pa_cons (pv 3) pa_nil))))) rfl) (pss_one (ps_ret (pv 2)))) pss_nil)
    (pss_cons (ps_if (pt_cmpR op_in_seq (pv 4) (pe_tup (pa_cons pe_str (pa_cons pe_str pa_nil))) (by rfl))
      (pss_cons (ps_par (i := 5) (j := 6) (by rfl) nd rfl rfl (by decide) rfl rfl (pa_cons (pe_ix ix_tup (pv 1) (pe_op op_sub (pe_callB call_len_seq (by rfl) B.len boot_len (pa_cons (pv 1) pa_nil)) pe_int) (fun _ _ => rfl)) (pa_cons (pe_ix ix_tup (pv 1) (pe_op op_sub (pe_callB call_len_seq (by rfl) B.len boot_len (pa_cons (pv 1) pa_nil)) pe_int) (fun _ _ => rfl)) pa_nil)) (by rfl))
      (pss_cons (ps_par (i := 7) (j := 8) (by rfl) nd rfl rfl (by decide) rfl rfl (pa_cons (pe_call GA hr' rfl gA kA bA .nil pass0 (pa_cons (pv 0) (pa_cons (pv 5) (pa_cons (pe_op op_add (pv 2) pe_int) (pa_cons (pv 3) pa_nil))))) (pa_cons (pv 3) pa_nil)) (by rfl))
      (pss_cons (ps_if (pt_cmpR op_notN (pv 6) pe_non (nomark _)) (pss_one (ps_set (i := 8) nd rfl (.inl rfl) (pe_call GA hr' rfl gA kA bA .nil pass0 (pa_cons (pv 0) (pa_cons (pv 6) (pa_cons (pe_op op_add (pe_op op_add (pv 2) pe_int) (pe_call GS hrS rfl gS kS bS .nil pass0 (pa_cons (pv 5) pa_nil))) (pa_cons (pv 3) pa_nil))))))) pss_nil)
      (pss_cons (ps_dput hu (pv 0) (pv 2) (pe_tup (pa_cons (pv 4) (pa_cons (pe_slice sl_tup (pv 1) (po_some pe_int) (po_some (pe_op op_sub (pe_callB call_len_seq (by rfl) B.len boot_len (pa_cons (pv 1) pa_nil)) pe_int))) (pa_cons (pv 7) (pa_cons (pv 8) pa_nil))))) rfl)
      (pss_one (ps_ret (pv 2))))))) pss_nil)
    (pss_cons (ps_dput hu (pv 0) (pv 2) (pe_tup (pa_cons (pv 4) (pa_cons (pe_slice sl_tup (pv 1) (po_some pe_int) po_none) (pa_cons (pv 3) (pa_cons (pv 3) pa_nil))))) rfl)
    (pss_one (ps_ret (pv 2))))))), ?_⟩
  obtain ⟨r, hkd, hr0⟩ := ho.step
  obtain rfl := hr0.end_
  cases hkd with
  | deed k _ hh =>
    have hh' := hid_le _ _ hh
    obtain ⟨ws, ew, _⟩ := deed_words k
    rw [ew] at hh'
    obtain ⟨k1, k2, k3⟩ := deed_kind k
    refine ⟨_, rfl, o, _, 0, _, rfl, rfl, SqT.of hh', atI_nat (j := 0) (v := .str k.word) rfl, ?_⟩
    refine ⟨_, rfl, rfl, _, rfl, ?_⟩
    rw [k1]
    refine iteF ⟨_, rfl, rfl, _, rfl, ?_⟩
    rw [k2]
    refine iteF ⟨_, rfl, sz1000 (by show 2 ≤ 1000; decide), fun p1 n1 => ?_⟩
    refine ⟨p1, _, rfl, .inr (SqT.of upd_same), rfl, rfl, ?_⟩
    rw [if_neg Bool.false_ne_true, k3]
    have S1 := new_same (o := .tup [.str "maybe", .str "same"]) n1
    refine ⟨_, rfl, iteF ⟨_, rfl, _, rfl, 1, rfl, o, _, rfl, SqT.of (S1 _ _ hh'), cut_tl, fun p2 n2 => ?_⟩⟩
    rw [show cutV (List.map V.str (k.word :: ws)) (some 1) none = ws.map V.str from cut_drop1 _ _]
    have S2 := S1.trans (new_same (o := .tup (ws.map V.str)) n2)
    have e2 := new_at (o := .tup (ws.map V.str)) n2
    refine ⟨_, rfl, _, rfl, sz1000 (by show 4 ≤ 1000; decide), fun p3 n3 => ?_⟩
    have S3 := S2.trans (new_same (o := .tup [.str k.word, .ref p2, .int (g : Nat), .int (g : Nat)]) n3)
    have e3 := new_at (o := .tup [.str k.word, .ref p2, .int (g : Nat), .int (g : Nat)]) n3
    have e23 := (new_same (o := .tup [.str k.word, .ref p2, .int (g : Nat), .int (g : Nat)]) n3) _ _ e2
    generalize upd (upd (upd H p1 (.tup [.str "maybe", .str "same"])) p2 (.tup (ws.map V.str))) p3 (.tup [.str k.word, .ref p2, .int (g : Nat), .int (g : Nat)]) = H3 at *
    have n3A : p3 ≠ nA := ne_of e3 (S3 _ _ hn) (by intro z; cases z)
    have n2A : p2 ≠ nA := ne_of e23 (S3 _ _ hn) (by intro z; cases z)
    refine ⟨_, rfl, _, rfl, nA, _, rfl, DPut.k (k := .inl (n : Int)) (S3 _ _ hn) (small1000' hk O.sz), _, rfl, ?_⟩
    refine q _ _ (((Kp.of S3)).put (m := nA) (List.mem_singleton.mpr rfl)) upd_same ⟨⟨p3, p2, val_putK _ _ _, (upd_ne n3A).trans e3, ?_⟩, trivial⟩ (fun key hkey => val_putK_ne _ _ _ _ (hkey n (Nat.le_refl _) (by rw [sizeT]; omega))) (Nat.le_trans (len_putK _ _ _) (by rw [sizeT]; omega))
    rw [ew]
    exact (upd_ne n2A).trans e23
  | one op cs b _ x hh hb =>
    have hh' := hid_le _ _ hh
    have hsz : sizeT (.one op cs b .nil) = 2 + (locN cs + sizeT b) := by rw [sizeT, show sizeT .nil = 0 from rfl]; omega
    have hdb : depT b < d := by rw [depT, show depT .nil = 0 from rfl] at hdu; omega
    have hob := O.one.2.1
    cases op with
    | block =>
      refine ⟨_, rfl, o, _, 0, _, rfl, rfl, SqT.of hh', atI_nat (j := 0) (v := .str "block") rfl, ?_⟩
      refine ⟨_, rfl, rfl, _, rfl, ?_⟩
      rw [show decide (V.str "block" = V.str "block") = true from by decide]
      refine iteT ⟨_, rfl, _, rfl, o, _, 1, _, rfl, rfl, SqT.of hh', atI_nat (j := 1) (v := .ref x) rfl, _, rfl, _, _, rfl, rfl, _, rfl, tNil_i ?_⟩
      refine ⟨nA, x, n + 1, g, cs, b, kvs, rfl, hn, hb, hdb, hob, o2.1, by omega, fun kvs' H' kp e nn ky ln => ?_⟩
      exact q kvs' H' kp e ⟨fun z => absurd rfl z, nn, trivial⟩ (fun key hkey => ky key fun m h1 h2 => hkey m (by omega) (by omega)) (by omega)
    | loop =>
      refine ⟨_, rfl, o, _, 0, _, rfl, rfl, SqT.of hh', atI_nat (j := 0) (v := .str "loop") rfl, ?_⟩
      refine ⟨_, rfl, rfl, _, rfl, ?_⟩
      rw [show decide (V.str "loop" = V.str "block") = false from by decide]
      refine iteF ⟨_, rfl, rfl, _, rfl, ?_⟩
      rw [show decide (V.str "loop" = V.str "loop") = true from by decide]
      refine iteT ?_
      refine ⟨Nat.zero_le _, fun p1 n1 => ?_⟩
      have S1 := new_same (o := .tup []) n1
      have e1 := new_at (o := .tup []) n1
      have hn1 := S1 _ _ hn
      generalize upd H p1 (.tup []) = H1 at *
      refine ⟨_, rfl, _, rfl, o, _, 1, _, rfl, rfl, SqT.of (S1 _ _ hh'), atI_nat (j := 1) (v := .ref x) rfl, _, rfl, _, _, rfl, rfl, _, rfl, tNil_i ?_⟩
      refine ⟨nA, x, n + 1, n, cs, b, kvs, rfl, hn1, hb.same (Kp.of S1).hid, hdb, hob, o2.1, by omega, fun kvs' H' kp e nn ky ln => ?_⟩
      have e1' := kp _ _ (fun z => (ne_of e1 hn1 (by intro z; cases z)) (List.mem_singleton.mp z)) e1
      refine ⟨_, rfl, sz1000 (by show 4 ≤ 1000; decide), fun p3 n3 => ?_⟩
      have S3 := new_same (o := .tup [.str "loop", .ref p1, .int ((firstT (n + 1 + locN cs) b n : Nat) : Int), .int (g : Nat)]) n3
      have e3 := new_at (o := .tup [.str "loop", .ref p1, .int ((firstT (n + 1 + locN cs) b n : Nat) : Int), .int (g : Nat)]) n3
      generalize upd H' p3 (.tup [.str "loop", .ref p1, .int ((firstT (n + 1 + locN cs) b n : Nat) : Int), .int (g : Nat)]) = H3 at *
      refine ⟨_, rfl, _, rfl, nA, _, rfl, DPut.k (k := .inl (n : Int)) (S3 _ _ e) (by rw [sizeLine_eq]; omega), _, rfl, ?_⟩
      obtain ⟨m1, m2⟩ := nd_put (n := n) (k := "loop") (ws := []) (S3 _ _ e) e3 (S3 _ _ e1')
      refine q _ _ ((((Kp.of S1).trans kp).trans (Kp.of S3)).put (m := nA) (List.mem_singleton.mpr rfl)) upd_same ⟨fun _ => m1, NodT.mono b (fun m k ws a b h1 h2 h => m2 m k ws a b (by omega) (h.mono rfl fun x v hv => S3 _ _ hv)) nn, trivial⟩ (fun key hkey => ?_) (Nat.le_trans (len_putK _ _ _) (by omega))
      rw [val_putK_ne _ _ _ _ (hkey n (Nat.le_refl _) (by omega))]
      exact ky key fun m h1 h2 => hkey m (by omega) (by omega)
    | maybe =>
      have ob2 := o2.1
      have hh' : H o = some (.tup (parL (.maybe) x (.non))) := hid_le _ _ hh
      obtain ⟨k1, k2, k3⟩ := op2_kind (.maybe) rfl
      obtain ⟨a2, a1, nc, ec⟩ := parL_at (.maybe) x (.non)
      generalize hL : parL (.maybe) x (.non) = L at *
      refine ⟨_, rfl, o, _, 0, _, rfl, rfl, SqT.of hh', atI_nat (j := 0) (v := .str (.maybe : Op).word) (by rw [← hL]; rfl), ?_⟩
      refine ⟨_, rfl, rfl, _, rfl, ?_⟩
      rw [k1]
      refine iteF ⟨_, rfl, rfl, _, rfl, ?_⟩
      rw [k2]
      refine iteF ⟨_, rfl, sz1000 (by show 2 ≤ 1000; decide), fun p1 n1 => ?_⟩
      refine ⟨p1, _, rfl, .inr (SqT.of upd_same), rfl, rfl, ?_⟩
      rw [if_neg Bool.false_ne_true, k3]
      have S1 := new_same (o := .tup [.str "maybe", .str "same"]) n1
      have hh1 := S1 _ _ hh'
      have hn1 := S1 _ _ hn
      refine ⟨_, rfl, iteT ?_⟩
      generalize upd H p1 (.tup [.str "maybe", .str "same"]) = H1 at *
      refine ⟨_, rfl, _, rfl, o, _, rfl, .inr (SqT.of hh1), _, _, rfl, rfl, o, _, _, _, rfl, rfl, SqT.of hh1, a2, _, rfl, _, rfl, o, _, rfl, .inr (SqT.of hh1), _, _, rfl, rfl, o, _, _, _, rfl, rfl, SqT.of hh1, a1, tNil_i ⟨_, _, rfl, ?_⟩⟩
      refine ⟨_, rfl, _, rfl, _, rfl, _, _, rfl, rfl, _, rfl, tNil_i ?_⟩
      refine ⟨nA, x, n + 1, g, cs, b, kvs, rfl, hn1, hb.same (Kp.of S1).hid, hdb, hob, ob2, by omega, fun kvs1 H2 kp e nn ky ln => ⟨_, rfl, tNil_i ⟨_, _, rfl, ?_⟩⟩⟩
      have K2 : Kp [nA] H H2 := (Kp.of S1).trans kp
      have onA : o ≠ nA := ne_of hh1 hn1 (by intro z; cases z)
      refine ⟨_, rfl, rfl, _, rfl, ite2 (fun c => absurd c (by decide)) fun _ => ?_⟩
      have hh4 := K2 _ _ (fun z => onA (List.mem_singleton.mp z)) hh'
      refine ⟨_, rfl, _, rfl, 1, rfl, _, rfl, o, _, rfl, .inr (SqT.of hh4), _, _, rfl, rfl, _, rfl, o, _, rfl, SqT.of hh4, nc, fun p5 n5 => ?_⟩
      rw [ec]
      have S5 := new_same (o := .tup ((.maybe : Op).names.map V.str)) n5
      have e5 := new_at (o := .tup ((.maybe : Op).names.map V.str)) n5
      refine ⟨_, rfl, _, rfl, sz1000 (by show 4 ≤ 1000; decide), fun p6 n6 => ?_⟩
      have S6 := S5.trans (new_same (o := (.tup [.str (.maybe : Op).word, .ref p5, .int ((firstT (n + 1 + locN cs) b g : Nat) : Int), .int ((g : Nat) : Int)])) n6)
      have e56 := (new_same (o := (.tup [.str (.maybe : Op).word, .ref p5, .int ((firstT (n + 1 + locN cs) b g : Nat) : Int), .int ((g : Nat) : Int)])) n6) _ _ e5
      have e6 := new_at (o := (.tup [.str (.maybe : Op).word, .ref p5, .int ((firstT (n + 1 + locN cs) b g : Nat) : Int), .int ((g : Nat) : Int)])) n6
      generalize upd (upd H2 p5 (.tup ((.maybe : Op).names.map V.str))) p6 (.tup [.str (.maybe : Op).word, .ref p5, .int ((firstT (n + 1 + locN cs) b g : Nat) : Int), .int ((g : Nat) : Int)]) = H6 at *
      refine ⟨_, rfl, _, rfl, nA, _, rfl, DPut.k (k := .inl (n : Int)) (S6 _ _ e) (by rw [sizeLine_eq]; omega), _, rfl, ?_⟩
      obtain ⟨m1, m2⟩ := nd_put (n := n) (S6 _ _ e) e6 e56
      refine q _ _ ((K2.trans (Kp.of S6)).put (m := nA) (List.mem_singleton.mpr rfl)) upd_same ⟨fun _ => m1, NodT.mono b (fun m k ws a b h1 h2 h => m2 m k ws a b (by omega) (h.mono rfl fun x v hv => S6 _ _ hv)) nn, trivial⟩ (fun key hkey => ?_) (Nat.le_trans (len_putK _ _ _) (by omega))
      rw [val_putK_ne _ _ _ _ (hkey n (Nat.le_refl _) (by omega))]
      exact ky key fun m h1 h2 => hkey m (by omega) (by omega)
    | same sx sy =>
      have ob2 := o2.1
      have hh' : H o = some (.tup (parL (.same sx sy) x (.non))) := hid_le _ _ hh
      obtain ⟨k1, k2, k3⟩ := op2_kind (.same sx sy) rfl
      obtain ⟨a2, a1, nc, ec⟩ := parL_at (.same sx sy) x (.non)
      generalize hL : parL (.same sx sy) x (.non) = L at *
      refine ⟨_, rfl, o, _, 0, _, rfl, rfl, SqT.of hh', atI_nat (j := 0) (v := .str (.same sx sy : Op).word) (by rw [← hL]; rfl), ?_⟩
      refine ⟨_, rfl, rfl, _, rfl, ?_⟩
      rw [k1]
      refine iteF ⟨_, rfl, rfl, _, rfl, ?_⟩
      rw [k2]
      refine iteF ⟨_, rfl, sz1000 (by show 2 ≤ 1000; decide), fun p1 n1 => ?_⟩
      refine ⟨p1, _, rfl, .inr (SqT.of upd_same), rfl, rfl, ?_⟩
      rw [if_neg Bool.false_ne_true, k3]
      have S1 := new_same (o := .tup [.str "maybe", .str "same"]) n1
      have hh1 := S1 _ _ hh'
      have hn1 := S1 _ _ hn
      refine ⟨_, rfl, iteT ?_⟩
      generalize upd H p1 (.tup [.str "maybe", .str "same"]) = H1 at *
      refine ⟨_, rfl, _, rfl, o, _, rfl, .inr (SqT.of hh1), _, _, rfl, rfl, o, _, _, _, rfl, rfl, SqT.of hh1, a2, _, rfl, _, rfl, o, _, rfl, .inr (SqT.of hh1), _, _, rfl, rfl, o, _, _, _, rfl, rfl, SqT.of hh1, a1, tNil_i ⟨_, _, rfl, ?_⟩⟩
      refine ⟨_, rfl, _, rfl, _, rfl, _, _, rfl, rfl, _, rfl, tNil_i ?_⟩
      refine ⟨nA, x, n + 1, g, cs, b, kvs, rfl, hn1, hb.same (Kp.of S1).hid, hdb, hob, ob2, by omega, fun kvs1 H2 kp e nn ky ln => ⟨_, rfl, tNil_i ⟨_, _, rfl, ?_⟩⟩⟩
      have K2 : Kp [nA] H H2 := (Kp.of S1).trans kp
      have onA : o ≠ nA := ne_of hh1 hn1 (by intro z; cases z)
      refine ⟨_, rfl, rfl, _, rfl, ite2 (fun c => absurd c (by decide)) fun _ => ?_⟩
      have hh4 := K2 _ _ (fun z => onA (List.mem_singleton.mp z)) hh'
      refine ⟨_, rfl, _, rfl, 1, rfl, _, rfl, o, _, rfl, .inr (SqT.of hh4), _, _, rfl, rfl, _, rfl, o, _, rfl, SqT.of hh4, nc, fun p5 n5 => ?_⟩
      rw [ec]
      have S5 := new_same (o := .tup ((.same sx sy : Op).names.map V.str)) n5
      have e5 := new_at (o := .tup ((.same sx sy : Op).names.map V.str)) n5
      refine ⟨_, rfl, _, rfl, sz1000 (by show 4 ≤ 1000; decide), fun p6 n6 => ?_⟩
      have S6 := S5.trans (new_same (o := (.tup [.str (.same sx sy : Op).word, .ref p5, .int ((firstT (n + 1 + locN cs) b g : Nat) : Int), .int ((g : Nat) : Int)])) n6)
      have e56 := (new_same (o := (.tup [.str (.same sx sy : Op).word, .ref p5, .int ((firstT (n + 1 + locN cs) b g : Nat) : Int), .int ((g : Nat) : Int)])) n6) _ _ e5
      have e6 := new_at (o := (.tup [.str (.same sx sy : Op).word, .ref p5, .int ((firstT (n + 1 + locN cs) b g : Nat) : Int), .int ((g : Nat) : Int)])) n6
      generalize upd (upd H2 p5 (.tup ((.same sx sy : Op).names.map V.str))) p6 (.tup [.str (.same sx sy : Op).word, .ref p5, .int ((firstT (n + 1 + locN cs) b g : Nat) : Int), .int ((g : Nat) : Int)]) = H6 at *
      refine ⟨_, rfl, _, rfl, nA, _, rfl, DPut.k (k := .inl (n : Int)) (S6 _ _ e) (by rw [sizeLine_eq]; omega), _, rfl, ?_⟩
      obtain ⟨m1, m2⟩ := nd_put (n := n) (S6 _ _ e) e6 e56
      refine q _ _ ((K2.trans (Kp.of S6)).put (m := nA) (List.mem_singleton.mpr rfl)) upd_same ⟨fun _ => m1, NodT.mono b (fun m k ws a b h1 h2 h => m2 m k ws a b (by omega) (h.mono rfl fun x v hv => S6 _ _ hv)) nn, trivial⟩ (fun key hkey => ?_) (Nat.le_trans (len_putK _ _ _) (by omega))
      rw [val_putK_ne _ _ _ _ (hkey n (Nat.le_refl _) (by omega))]
      exact ky key fun m h1 h2 => hkey m (by omega) (by omega)
  | two op cs b cs' b' _ x y hh hb hb' =>
    obtain ⟨ho2, ob2, ob2', _⟩ := o2
    have hsz : sizeT (.two op cs b cs' b' .nil) = 2 + (locN cs + sizeT b) + 1 + (locN cs' + sizeT b') := by rw [sizeT, show sizeT .nil = 0 from rfl]; omega
    have hdb : depT b < d := by rw [depT, show depT .nil = 0 from rfl] at hdu; omega
    have hdb' : depT b' < d := by rw [depT, show depT .nil = 0 from rfl] at hdu; omega
    have hob := O.two.2.1
    have hob' := O.two.2.2.1
    have hh' : H o = some (.tup (parL (op) x (.ref y))) := hid_le _ _ hh
    obtain ⟨k1, k2, k3⟩ := op2_kind (op) ho2
    obtain ⟨a2, a1, nc, ec⟩ := parL_at (op) x (.ref y)
    generalize hL : parL (op) x (.ref y) = L at *
    refine ⟨_, rfl, o, _, 0, _, rfl, rfl, SqT.of hh', atI_nat (j := 0) (v := .str (op : Op).word) (by rw [← hL]; rfl), ?_⟩
    refine ⟨_, rfl, rfl, _, rfl, ?_⟩
    rw [k1]
    refine iteF ⟨_, rfl, rfl, _, rfl, ?_⟩
    rw [k2]
    refine iteF ⟨_, rfl, sz1000 (by show 2 ≤ 1000; decide), fun p1 n1 => ?_⟩
    refine ⟨p1, _, rfl, .inr (SqT.of upd_same), rfl, rfl, ?_⟩
    rw [if_neg Bool.false_ne_true, k3]
    have S1 := new_same (o := .tup [.str "maybe", .str "same"]) n1
    have hh1 := S1 _ _ hh'
    have hn1 := S1 _ _ hn
    refine ⟨_, rfl, iteT ?_⟩
    generalize upd H p1 (.tup [.str "maybe", .str "same"]) = H1 at *
    refine ⟨_, rfl, _, rfl, o, _, rfl, .inr (SqT.of hh1), _, _, rfl, rfl, o, _, _, _, rfl, rfl, SqT.of hh1, a2, _, rfl, _, rfl, o, _, rfl, .inr (SqT.of hh1), _, _, rfl, rfl, o, _, _, _, rfl, rfl, SqT.of hh1, a1, tNil_i ⟨_, _, rfl, ?_⟩⟩
    refine ⟨_, rfl, _, rfl, _, rfl, _, _, rfl, rfl, _, rfl, tNil_i ?_⟩
    refine ⟨nA, x, n + 1, g, cs, b, kvs, rfl, hn1, hb.same (Kp.of S1).hid, hdb, hob, ob2, by omega, fun kvs1 H2 kp e nn ky ln => ⟨_, rfl, tNil_i ⟨_, _, rfl, ?_⟩⟩⟩
    have K2 : Kp [nA] H H2 := (Kp.of S1).trans kp
    have onA : o ≠ nA := ne_of hh1 hn1 (by intro z; cases z)
    have eN : ((n : Int) + 2 + ((sizeP cs b : Nat) : Int)) = ((n + 1 + (locN cs + sizeT b) + 1 : Nat) : Int) := by unfold sizeP; omega
    refine ⟨_, rfl, rfl, _, rfl, ite2 (fun _ => ?_) fun c => absurd rfl c⟩
    refine ⟨_, rfl, _, rfl, _, rfl, _, _, rfl, rfl, _, rfl, tNil_i ?_⟩
    refine ⟨x, cs, b, rfl, (hb.same K2.hid).same hid_le, by omega, hob, fun H3 T3 => ⟨_, _, rfl, rfl, _, rfl, tNil_i ?_⟩⟩
    have e3 := T3 _ _ e
    have K3 : Kp [nA] H H3 := K2.trans (Kp.of T3)
    refine ⟨nA, y, n + 1 + (locN cs + sizeT b) + 1, g, cs', b', kvs1, (by show [V.ref nA, V.ref y, V.int ((n : Int) + 2 + ((sizeP cs b : Nat) : Int)), V.int (g : Int)] = _; rw [eN]), e3, hb'.same K3.hid, hdb', hob', ob2', by omega, fun kvs2 H4 kp4 e4 nn4 ky4 ln4 => ?_⟩
    have K4 : Kp [nA] H H4 := K3.trans kp4
    have hh4 := K4 _ _ (fun z => onA (List.mem_singleton.mp z)) hh'
    have nnb : NodT (NdAt H4 kvs2) (n + 1 + locN cs) b g := NodT.mono b (fun m k ws a b h1 h2 h => h.mono (ky4 _ fun m' h3 h4 z => by have := Sum.inl.inj z; omega) fun v w hv => kp4 _ _ (fun z => ne_of (T3 _ _ hv) e3 (by intro z; cases z) (List.mem_singleton.mp z)) (T3 _ _ hv)) nn
    refine ⟨_, rfl, _, rfl, 1, rfl, _, rfl, o, _, rfl, .inr (SqT.of hh4), _, _, rfl, rfl, _, rfl, o, _, rfl, SqT.of hh4, nc, fun p5 n5 => ?_⟩
    rw [ec]
    have S5 := new_same (o := .tup ((op : Op).names.map V.str)) n5
    have e5 := new_at (o := .tup ((op : Op).names.map V.str)) n5
    refine ⟨_, rfl, _, rfl, sz1000 (by show 4 ≤ 1000; decide), fun p6 n6 => ?_⟩
    have S6 := S5.trans (new_same (o := (.tup [.str (op : Op).word, .ref p5, .int ((firstT (n + 1 + locN cs) b g : Nat) : Int), .int ((firstT (n + 1 + (locN cs + sizeT b) + 1 + locN cs') b' g : Nat) : Int)])) n6)
    have e56 := (new_same (o := (.tup [.str (op : Op).word, .ref p5, .int ((firstT (n + 1 + locN cs) b g : Nat) : Int), .int ((firstT (n + 1 + (locN cs + sizeT b) + 1 + locN cs') b' g : Nat) : Int)])) n6) _ _ e5
    have e6 := new_at (o := (.tup [.str (op : Op).word, .ref p5, .int ((firstT (n + 1 + locN cs) b g : Nat) : Int), .int ((firstT (n + 1 + (locN cs + sizeT b) + 1 + locN cs') b' g : Nat) : Int)])) n6
    generalize upd (upd H4 p5 (.tup ((op : Op).names.map V.str))) p6 (.tup [.str (op : Op).word, .ref p5, .int ((firstT (n + 1 + locN cs) b g : Nat) : Int), .int ((firstT (n + 1 + (locN cs + sizeT b) + 1 + locN cs') b' g : Nat) : Int)]) = H6 at *
    refine ⟨_, rfl, _, rfl, nA, _, rfl, DPut.k (k := .inl (n : Int)) (S6 _ _ e4) (by rw [sizeLine_eq]; omega), _, rfl, ?_⟩
    obtain ⟨m1, m2⟩ := nd_put (n := n) (S6 _ _ e4) e6 e56
    refine q _ _ ((K4.trans (Kp.of S6)).put (m := nA) (List.mem_singleton.mpr rfl)) upd_same ⟨m1, NodT.mono b (fun m k ws a b h1 h2 h => m2 m k ws a b (by omega) (h.mono rfl fun x v hv => S6 _ _ hv)) nnb, NodT.mono b' (fun m k ws a b h1 h2 h => m2 m k ws a b (by omega) (h.mono rfl fun x v hv => S6 _ _ hv)) nn4, trivial⟩ (fun key hkey => ?_) (Nat.le_trans (len_putK _ _ _) (by omega))
    rw [val_putK_ne _ _ _ _ (hkey n (Nat.le_refl _) (by omega))]
    exact (ky4 key fun m h1 h2 => hkey m (by omega) (by omega)).trans (ky key fun m h1 h2 => hkey m (by omega) (by omega))
theorem nums_cons {n : Nat} {t : T} (h : t ≠ .nil) : numsT n t = n :: numsT (n + sizeT (headT t)) (restT t) := by
  cases t with
  | nil => exact absurd rfl h
  | deed _ _ => rfl
  | one _ _ _ _ => rfl
  | two _ _ _ _ _ _ => rfl
theorem len_rest (t : T) : lenT (restT t) ≤ lenT t := by
  cases t with
  | nil => exact Nat.le_refl _
  | deed _ r => exact Nat.le_succ _
  | one _ _ _ r => exact Nat.le_succ _
  | two _ _ _ _ _ r => exact Nat.le_succ _
theorem suf_ge : ∀ (k n : Nat) (t : T), n ≤ (sufT n t k).1
  | 0, _, _ => Nat.le_refl _
  | k + 1, n, t => Nat.le_trans (Nat.le_add_right _ _) (suf_ge k (n + sizeT (headT t)) (restT t))
theorem rg_rev {m i : Nat} {v : V} (h : (rgV 0 (m : Int)).reverse[i]? = some v) : i < m ∧ v = .int ((m - 1 - i : Nat) : Int) := by
  have hl : (rgV 0 (m : Int)).length = m := by rw [rgV_length]; omega
  have hi : i < m := by have := (List.getElem?_eq_some_iff.mp h).1; rwa [List.length_reverse, hl] at this
  refine ⟨hi, ?_⟩
  rw [List.getElem?_reverse (by rw [hl]; exact hi), hl] at h
  unfold rgV at h
  rw [List.getElem?_map, List.getElem?_range (by omega)] at h
  rw [← Option.some.inj h]
  show V.int (0 + _) = _
  rw [Int.zero_add]
theorem ok_laidA {D : Nat} {fL fA : Addr} {fdL fdA : FuncData} (G : LaidG P w K mg base D fL fA fdL fdA) (B : Blt3 mg) (hrg : mg "range" = none) (hin : mg "int" = none) {d : Nat} (hd : d < D) (GL : FnOk P w K mg base CX0 (2 * (d + 1) + D + 2) fL fdL pLO (spLaid (d + 1))) : FnOk P w K mg base CX0 (2 * (d + 1) + D + 3) fA fdA pLA (spLaidA (d + 1)) := by
  obtain ⟨fO, fdO, gO, kO, bO, GO⟩ := G.DO.ex
  have gL := G.gL
  have kL := G.kL
  have bL := G.bL
  refine G.FA.ok scLaA (fun vs H Q E h => ?_) (fun cdv A outer s H vs Q E hr h => ?_)
  · obtain ⟨nA, x, n, g, cs, t, kvs, rfl, _⟩ := h
    rfl
  obtain ⟨nA, x, n, g, cs, t, kvs, rfl, hn, hb, hdt, O, o2, hk, q⟩ := h
  have hu := hu_of hr
  have nd := scLaA.nd
  have hr' := hr.mono (show 2 * (d + 1) + D + 2 ≤ 2 * (d + 1) + D + 2 by omega)
  have hrO := hr.mono (show D + 2 ≤ 2 * (d + 1) + D + 2 by omega)
  refine ⟨_, pss_cons (ps_par (i := 4) (j := 5) (by rfl) nd rfl rfl (by decide) rfl rfl (pa_cons (pe_lst pa_nil) (pa_cons (pe_op op_add (pv 2) (pe_callTy call_int1 (by rfl) hin (by decide +kernel) (pa_cons (pe_cmpR (op_neD hr.units) (pe_dget hu (pv 1) pe_str (fun _ _ => rfl)) (pe_lst pa_nil) (nomark _)) pa_nil))) pa_nil)) (by rfl))
    (pss_cons (ps_for PassesOwn.never rfl (pi_list (pe_dget hu (pv 1) pe_str (fun _ _ => rfl))) (pg_name (i := 6) nd rfl (Or.inl rfl))
      (pss_cons (ps_expr (pe_bm PySem.F.plainAttrs_list PySem.F.slot_list_append PySem.F.type_list_append mt_append (pv 4) (pa_cons (pv 5) pa_nil)))
      (pss_one (ps_set (i := 5) nd rfl (.inl rfl) (pe_op op_add (pv 5) (pe_call GO hrO rfl gO kO bO .nil pass0 (pa_cons (pv 6) pa_nil)))))))
    (pss_cons (ps_set (i := 7) nd rfl (.inl rfl) (pv 3))
    (pss_cons (ps_for PassesOwn.never rfl (pi_list (pe_revL (pe_listRg (by rfl) (by rfl) B.list (prg_1 (by rfl) hrg (pe_callB call_len_seq (by rfl) B.len boot_len (pa_cons (pv 4) pa_nil)))))) (pg_name (i := 8) nd rfl (Or.inl rfl))
      (pss_one (ps_set (i := 7) nd rfl (.inl rfl) (pe_call GL hr' rfl gL kL bL .nil pass0 (pa_cons (pv 0) (pa_cons (pe_ix ix_list (pe_dget hu (pv 1) pe_str (fun _ _ => rfl)) (pv 8) (fun _ _ => rfl)) (pa_cons (pe_ix ix_list (pv 4) (pv 8) (fun _ _ => rfl)) (pa_cons (pv 7) pa_nil))))))))
    (pss_one (ps_ret (pv 7)))))), ?_⟩
  obtain ⟨c, l, ors, h1, h2, h3, h4⟩ := hb
  have g1 := hid_le _ _ h1
  have g2 := hid_le _ _ h2
  have g3 := hid_le _ _ h3
  have hoks : ∀ y ∈ cs, PyData.strOk y = true := fun y hy => O.ok y (List.mem_append_left _ hy)
  have olen := h4.len
  have hlen1000 : lenT t ≤ 1000 := by have := lenT_le t; have := O.t.sz; omega
  refine ⟨Nat.zero_le _, fun l0 n0 => ?_⟩
  have S0 := new_same (o := .lst []) n0
  refine ⟨_, rfl, _, rfl, x, _, rfl, get_cells (S0 _ _ g1), Nat.zero_le _, fun z nz => ⟨_, _, .lst (SqL.of ((S0.trans (new_same nz)) _ _ g2)) (strs_dp _ _ cs), .lst (SqL.of upd_same) .nil, strs_shaped _ hoks, rfl, tNil_i (.inr ⟨_, rfl, _, _, rfl, rfl, tNil_i ⟨_, _, rfl, ?_⟩⟩)⟩⟩
  rw [strs_nil]
  have eN : (n : Int) + (if (!decide (cs = [])) = true then 1 else 0) = ((n + locN cs : Nat) : Int) := by
    unfold locN
    by_cases c : cs = []
    · rw [if_pos c, decide_eq_true c]; rfl
    · rw [if_neg c, decide_eq_false c]; rfl
  dsimp only
  rw [eN]
  have e0 := (new_same (o := .lst []) nz) _ _ (new_at (o := .lst []) n0)
  have S1 := S0.trans (new_same (o := .lst []) nz)
  generalize upd (upd H l0 (.lst [])) z (.lst []) = H1 at *
  refine ⟨_, rfl, x, _, rfl, get_body (S1 _ _ g1), l, rfl, ⟨_, SqL.of (S1 _ _ g3)⟩, for_it walk_list (fun i σ H' => ∃ (z6 : Option V) (A : List Nat) (a : Nat) (rest : T), σ = [some (.ref nA), some (.ref x), some (.int n), some (.int g), some (.ref l0), some (.int (a : Nat)), z6, none, none] ∧ Same H H' ∧ H' l0 = some (.lst (A.map fun m => V.int (m : Nat))) ∧ OrdsAt (hid [nA] H) rest (ors.drop i) ∧ A ++ numsT a rest = numsT (n + locN cs) t ∧ OkT rest ∧ depT rest < d + 1 ∧ lenT rest ≤ lenT t)
    ⟨_, [], n + locN cs, t, rfl, S1, e0, h4, rfl, O.t, hdt, Nat.le_refl _⟩ (fun i σ H' _ z => by obtain ⟨_, _, _, _, _, S, _⟩ := z; exact SqL.of (S _ _ g3)) ?_ ?_⟩
  · rintro i v σ H' H'' hi ⟨z6, A, a, rest, rfl, S, el, ho, eA, hok, hdr, hlr⟩ ⟨rfl, hv⟩
    obtain ⟨o, rfl, edr⟩ := drop_at hv
    rw [edr] at ho
    obtain ⟨ho1, ho2⟩ := ho.head
    have hne : rest ≠ .nil := fun z => by rw [z] at ho; cases ho
    have eA' := eA
    rw [nums_cons hne] at eA'
    have hAl : A.length + lenT rest = lenT t := by
      have := congrArg List.length eA
      rwa [List.length_append, nums_len, nums_len] at this
    have hl0 := fun u (e : H u = some (.dK kvs)) => e
    refine ⟨_, rfl, .inl ⟨rfl, _, SqL.of el⟩, _, rfl, l0, _, _, rfl, rfl, el, small1000 (by rw [List.length_map]; omega), ?_⟩
    have S5 : Same H (upd H'' l0 (.lst (A.map (fun m => V.int (m : Nat)) ++ [.int (a : Nat)]))) := Same.put S n0
    have el5 : upd H'' l0 (.lst (A.map (fun m => V.int (m : Nat)) ++ [.int (a : Nat)])) l0 = some (.lst (A.map (fun m => V.int (m : Nat)) ++ [.int (a : Nat)])) := upd_same
    generalize upd H'' l0 (.lst (A.map (fun m => V.int (m : Nat)) ++ [.int (a : Nat)])) = H5 at *
    refine ⟨_, rfl, _, rfl, tNil_i ⟨o, headT rest, rfl, (ho1.same hid_le).same S5, by have := (dep_head rest).1; omega, hok.head.1, fun H6 S6 => ⟨_, _, rfl, rfl, ?_⟩⟩⟩
    exact ⟨_, A ++ [a], a + sizeT (headT rest), restT rest, rfl, S5.trans S6, by rw [S6 _ _ el5, List.map_append]; rfl, ho2, by rw [List.append_assoc]; exact eA', hok.head.2, by have := (dep_head rest).2; omega, by have := len_rest rest; omega⟩
  rintro σ H2 ⟨z6, A, a, rest, rfl, S2, el2, ho, eA, hok, hdr, _⟩
  rw [List.length_map, List.drop_length] at ho
  rw [ho.end_, show numsT a .nil = [] from rfl, List.append_nil] at eA
  subst eA
  have hn2 := S2 _ _ hn
  refine ⟨_, rfl, _, rfl, l0, _, rfl, .inl (SqL.of el2), _, rfl, ?_⟩
  rw [List.length_map, nums_len]
  refine ⟨RgOk.of_le (by decide) (by omega) (by decide) (by omega), fun q1 nq1 => ⟨q1, _, rfl, SqL.of upd_same, fun q2 nq2 => ?_⟩⟩
  have S3 := (new_same (o := .lst (rgV 0 ((lenT t : Nat) : Int))) nq1).trans (new_same (o := .lst (rgV 0 ((lenT t : Nat) : Int)).reverse) nq2)
  have eq2 := new_at (o := .lst (rgV 0 ((lenT t : Nat) : Int)).reverse) nq2
  have hlr : (rgV 0 ((lenT t : Nat) : Int)).reverse.length = lenT t := by rw [List.length_reverse, rgV_length]; omega
  generalize upd (upd H2 q1 (.lst (rgV 0 ((lenT t : Nat) : Int)))) q2 (.lst (rgV 0 ((lenT t : Nat) : Int)).reverse) = H3 at *
  have S03 := S2.trans S3
  have hn3 := S3 _ _ hn2
  have el3 := S3 _ _ el2
  have ne_nA : ∀ {u : Addr} {xs : List V}, H3 u = some (.lst xs) → u ∉ [nA] := fun e z => ne_of e hn3 (by intro z; cases z) (List.mem_singleton.mp z)
  have ne_x : x ∉ [nA] := fun z => by rw [List.mem_singleton.mp z] at h1; unfold hid at h1; rw [if_pos (List.mem_singleton.mpr rfl)] at h1; cases h1
  have ht0 := suf_end t (n + locN cs)
  refine ⟨q2, rfl, ⟨_, SqL.of eq2⟩, for_it walk_list (fun i σ H' => ∃ (z5 z6 z8 : Option V) (kvs' : List (Key × V)), σ = [some (.ref nA), some (.ref x), some (.int n), some (.int g), some (.ref l0), z5, z6, some (.int (firstT (sufT (n + locN cs) t (lenT t - i)).1 (sufT (n + locN cs) t (lenT t - i)).2 g : Nat)), z8] ∧ Kp [nA] H3 H' ∧ H' nA = some (.dK kvs') ∧
      NodT (NdAt H' kvs') (sufT (n + locN cs) t (lenT t - i)).1 (sufT (n + locN cs) t (lenT t - i)).2 g ∧ (∀ key, (∀ m : Nat, (sufT (n + locN cs) t (lenT t - i)).1 ≤ m → m < n + locN cs + sizeT t → key ≠ .inl (m : Int)) → valV kvs' key = valV kvs key) ∧ kvs'.length ≤ kvs.length + sizeT (sufT (n + locN cs) t (lenT t - i)).2)
    ⟨_, _, _, kvs, by rw [Nat.sub_zero, ht0]; rfl, Kp.refl _ _, hn3, by rw [Nat.sub_zero, ht0]; exact trivial, fun _ _ => rfl, Nat.le_add_right _ _⟩ (fun i σ H' _ z => by obtain ⟨_, _, _, _, _, kp, _⟩ := z; exact SqL.of (kp _ _ (ne_nA eq2) eq2)) ?_ ?_⟩
  · rintro i v σ H' H'' hi ⟨z5, z6, z8, kvs', rfl, kp, en, nn, ky, ln⟩ ⟨rfl, hv⟩
    obtain ⟨him, rfl⟩ := rg_rev hv
    obtain ⟨j, hj⟩ : ∃ j, lenT t - 1 - i = j := ⟨_, rfl⟩
    have hj1 : lenT t - i = j + 1 := by omega
    have hj2 : lenT t - (i + 1) = j := by omega
    have hjm : j < lenT t := by omega
    rw [hj1, suf_succ] at nn ky ln
    rw [hj1, suf_succ, hj, hj2]
    have sz := suf_size j (n + locN cs) t
    have sge := suf_ge j (n + locN cs) t
    have os := h4.suf j (n + locN cs) t (Nat.le_of_lt hjm)
    obtain ⟨ok1, ok3, dp3⟩ := suf_ok j (n + locN cs) t O.t o2
    have at1 := nums_at t (n + locN cs) j hjm
    generalize (sufT (n + locN cs) t j).1 = a at *
    generalize (sufT (n + locN cs) t j).2 = u at *
    dsimp only at nn ky ln ⊢
    obtain ⟨o, ho⟩ : ∃ o, ors[j]? = some o := ⟨_, List.getElem?_eq_getElem (by omega)⟩
    obtain ⟨hoj, ho⟩ := List.getElem?_eq_some_iff.mp ho
    rw [List.drop_eq_getElem_cons hoj, ho] at os
    have hu1 := size_head u
    have k3 : Kp [nA] H H'' := (Kp.of S03).trans kp
    refine ⟨_, rfl, _, rfl, x, _, rfl, get_body (k3 _ _ ne_x g1), _, rfl, l, _, j, _, rfl, rfl, SqL.of (k3 _ _ (ne_nA (S03 _ _ g3)) g3), atI_nat (v := .ref o) (by rw [List.getElem?_map, List.getElem?_eq_getElem hoj, ho]; rfl), _, rfl, _, rfl, l0, _, j, _, rfl, rfl, SqL.of (kp _ _ (ne_nA el3) el3), atI_nat (v := .int (a : Nat)) (by rw [List.getElem?_map, at1]; rfl), _, rfl, tNil_i ?_⟩
    refine ⟨nA, o, a, firstT (a + sizeT (headT u)) (restT u) g, headT u, kvs', rfl, en, os.head.1.same k3.hid, by have := (dep_head u).1; omega, ok1.head.1, (ok2_head u ok3).1, by omega, fun kvs2 H4 kp4 en4 nn4 ky4 ln4 => ?_⟩
    refine ⟨z5, z6, some (.int (j : Nat)), kvs2, by rw [first_head u a g]; rfl, kp.trans kp4, en4, NodT.join u nn4 (NodT.mono (restT u) (fun m k ws a' b' h1 h2 h => h.mono (ky4 _ fun m' h3 h4 z => by have := Sum.inl.inj z; omega) fun v w hv => kp4 _ _ (fun z => ne_of hv en (by intro z; cases z) (List.mem_singleton.mp z)) hv) nn), fun key hkey => ?_, by omega⟩
    rw [ky4 key fun m h1 h2 => hkey m h1 (by omega)]
    exact ky key fun m h1 h2 => hkey m (by omega) h2
  rintro σ H4 ⟨z5, z6, z8, kvs', rfl, kp, en, nn, ky, ln⟩
  rw [hlr, Nat.sub_self] at nn ky ln ⊢
  exact ⟨_, rfl, q _ _ ((Kp.of S03).trans kp) en nn ky ln⟩
theorem ok_laid {D : Nat} {fL fA : Addr} {fdL fdA : FuncData} (G : LaidG P w K mg base D fL fA fdL fdA) (B : Blt3 mg) (hrg : mg "range" = none) (hin : mg "int" = none) : ∀ d, d ≤ D → FnOk P w K mg base CX0 (2 * d + D + 3) fA fdA pLA (spLaidA d)
  | 0, _ => ⟨fun vs H Q E h => (by obtain ⟨_, _, _, _, _, _, _, _, _, _, h, _⟩ := h; exact absurd h (Nat.not_lt_zero _)), fun A outer s H args us vs Q E _ _ _ _ h => (by obtain ⟨_, _, _, _, _, _, _, _, _, _, h, _⟩ := h; exact absurd h (Nat.not_lt_zero _))⟩
  | d + 1, h => ok_laidA G B hrg hin h (ok_laidL G B h (ok_laid G B hrg hin d (Nat.le_of_succ_le h)))
end
end FP
set_option Elab.async false
set_option linter.all false
set_option maxRecDepth 100000
set_option maxHeartbeats 4000000
set_option exponentiation.threshold 2000
namespace FP
open PySem PySem.Spec PyProof.Rows L2 TL
def stepG {α : Type} (k : Nat) (X Y : List α) (n : Nat) : List α := if n ≤ k then [] else if n = k + 1 then X else X ++ Y
theorem stepG0 {α : Type} {k n : Nat} {X Y : List α} (h : n ≤ k) : stepG k X Y n = [] := if_pos h
theorem stepG1 {α : Type} {k : Nat} {X Y : List α} : stepG k X Y (k + 1) = X := by unfold stepG; rw [if_neg (by omega), if_pos rfl]
theorem stepG2 {α : Type} {k : Nat} {X Y : List α} : stepG k X Y (k + 2) = X ++ Y := by unfold stepG; rw [if_neg (by omega), if_neg (by omega)]
section
variable {P : Program} {w : World} {K : PySem.W.Frag} {mg : Str → Option Value} {base : Heap}
def spCO (d : Nat) : Sp := fun vs H Q _ => ∃ (x : Addr) (cs : List Str) (t : T), vs = [.ref x] ∧ BlkAt H x cs t ∧ depT t < d ∧ OkB cs t ∧ ∀ r H', Same H H' → H r = none → H' r = some (.lst ((cs ++ declT t).map V.str)) → Q (.ref r) H'
abbrev nCO : List Str := ["_law_block", "_law_found", "_law_order", "_law_part"]
theorem scCO : FnScope nCO ["_law_block"] (defScope qCellsOf) := ⟨rfl, rfl, rfl, by decide +kernel, rfl, by decide +kernel, by decide +kernel⟩
theorem ok_co {f : Addr} {fd : FuncData} (F : Fun K "_law_cells_of" "_law_cells_of" qCellsOf f fd) (B : Blt3 mg) (g : mg "_law_cells_of" = some (.ref f)) (kp : W.keepIn K (.ref f) = true) (b : Binds K fd ["_law_block"] []) :
    ∀ d, FnOk P w K mg base CX0 d f fd ["_law_block"] (spCO d)
  | 0 => ⟨fun vs H Q E h => (by obtain ⟨x, cs, t, _, _, h, _⟩ := h; exact absurd h (Nat.not_lt_zero _)), fun A outer s H args us vs Q E _ _ _ _ h => (by obtain ⟨x, cs, t, _, _, h, _⟩ := h; exact absurd h (Nat.not_lt_zero _))⟩
  | d + 1 => by
    have GD := ok_co F B g kp b d
    refine F.ok scCO (fun vs H Q E h => ?_) (fun cdv A outer s H vs Q E hr h => ?_)
    · obtain ⟨x, cs, t, rfl, _⟩ := h
      rfl
    obtain ⟨x, cs, t, rfl, hx, hd, O, q⟩ := h
    have hu := hu_of hr
    refine ⟨_, pss_cons (ps_set (i := 1) scCO.nd rfl (.inl rfl) (pe_callTy call_list_of (by rfl) B.list (by decide +kernel) (pa_cons (pe_dget hu (pv 0) pe_str (fun _ _ => rfl)) pa_nil)))
      (pss_cons (ps_for PassesOwn.never rfl (pi_list (pe_dget hu (pv 0) pe_str (fun _ _ => rfl))) (pg_name (i := 2) scCO.nd rfl (Or.inl rfl))
        (pss_one (ps_for PassesOwn.never rfl (pi_tup (pe_slice sl_tup (pv 2) (po_some pe_int) po_none)) (pg_name (i := 3) scCO.nd rfl (Or.inl rfl))
          (pss_one (ps_if (pt_val (pe_callB call_isi (by rfl) B.isi boot_isi (pa_cons (pv 3) (pa_cons (pe_bltn (v := .ty "dict") (by rfl) B.dict (by decide +kernel) rfl) pa_nil))))
            (pss_one (ps_set (i := 1) scCO.nd rfl (.inl rfl) (pe_op op_cat (pv 1) (pe_call GD hr rfl g kp b .nil pass0 (pa_cons (pv 3) pa_nil))))) pss_nil)))))
      (pss_one (ps_ret (pv 1)))), ?_⟩
    obtain ⟨c, l, ors, h1, h2, h3, h4⟩ := hx
    have hdl := O.dl
    refine ⟨_, rfl, x, _, rfl, get_cells h1, c, _, rfl, .inl (SqL.of h2), fun f0 nf0 => ?_⟩
    have S1 := new_same (o := .lst (cs.map V.str)) nf0
    have e1 := new_at (o := .lst (cs.map V.str)) nf0
    generalize upd H f0 (.lst (cs.map V.str)) = H1 at *
    refine ⟨_, rfl, x, _, rfl, get_body (S1 _ _ h1), l, rfl, ⟨_, SqL.of (S1 _ _ h3)⟩, for_it walk_list (fun i σ H' => ∃ f z2 z3 A rest, σ = [some (.ref x), some (.ref f), z2, z3] ∧ Same H H' ∧ H f = none ∧ OrdsAt H rest (ors.drop i) ∧ depT rest < d + 1 ∧ OkT rest ∧ H' f = some (.lst (List.map V.str A)) ∧ A ++ declT rest = cs ++ declT t)
      ⟨f0, _, _, cs, t, rfl, S1, nf0, h4, hd, O.t, e1, rfl⟩ (fun i σ H' _ z => by obtain ⟨f, z2, z3, A, rest, _, S, _⟩ := z; exact SqL.of (S _ _ h3)) ?_ ?_⟩
    · rintro i v σ H' H'' hi ⟨f, z2, z3, A, rest, rfl, S, hf, ho, hdr, hok, ef, eA⟩ ⟨rfl, hv⟩
      obtain ⟨o, rfl, edr⟩ := drop_at hv
      rw [edr] at ho
      obtain ⟨r, hk, ho'⟩ := ho.step
      have hAl : A.length + (declT rest).length ≤ 1000 := by rw [← List.length_append, eA]; exact hdl
      rcases hk.open_ hdr hok with ⟨k, rfl, hh⟩ | ⟨op, ps, y, cb, b, dr, V0⟩
      · obtain ⟨kpl, hokr⟩ := hok.deed
        obtain ⟨ws, ew, _⟩ := deed_words k
        rw [ew] at hh
        refine ⟨_, rfl, 1, rfl, o, _, rfl, SqT.of (S _ _ hh), cut_tl, fun p np => ?_⟩
        rw [show cutV ((k.word :: ws).map V.str) (some 1) none = ws.map V.str from cut_drop1 _ _]
        have S3 := new_same (o := .tup (ws.map V.str)) np
        have ep := new_at (o := .tup (ws.map V.str)) np
        generalize upd H'' p (.tup (ws.map V.str)) = H3 at *
        refine ⟨p, rfl, ⟨_, SqT.of ep⟩, for_it walk_tup (fun n σ H' => (∃ z3, σ = [some (.ref x), some (.ref f), some (.ref o), z3]) ∧ H' = H3) ⟨⟨_, rfl⟩, rfl⟩ (fun _ _ H' _ z => by rw [z.2]; exact SqT.of ep) ?_ ?_⟩
        · rintro n v σ H4 H5 hn ⟨⟨z3, rfl⟩, rfl⟩ ⟨rfl, hv⟩
          rw [List.getElem?_map] at hv
          obtain ⟨s, _, rfl⟩ := Option.map_eq_some_iff.mp hv
          obtain ⟨ty, h1, h2⟩ := part_dict (K := K) (H := H5) (v := .str s) (.inl ⟨s, rfl⟩)
          exact ⟨_, rfl, _, _, ty, _, _, rfl, .ty "dict", h1, h2, _, rfl, iteF ⟨⟨_, rfl⟩, rfl⟩⟩
        · rintro σ H4 ⟨⟨z3, rfl⟩, rfl⟩
          exact ⟨f, _, _, A, r, rfl, S.trans S3, hf, ho', hdr, hokr, S3 _ _ ef, eA⟩
      · have hh := V0.at_
        refine ⟨_, rfl, 1, rfl, o, _, rfl, SqT.of (S _ _ hh), cut_tl, fun p np => ?_⟩
        rw [show cutV (V.str op.word :: ps) (some 1) none = ps from cut_drop1 _ _]
        have S3 := new_same (o := .tup ps) np
        have ef3 := S3 _ _ ef
        have ep := new_at (o := .tup ps) np
        have S03 := S.trans S3
        generalize upd H'' p (.tup ps) = H3 at *
        -- what the blocks give
        obtain ⟨X, Y, G, hG0, hG1, hG2, hGe, hX, hXY⟩ : ∃ (X Y : List Str) (G : Nat → List Str), (∀ n, n ≤ op.names.length → G n = []) ∧ G (op.names.length + 1) = X ∧ G (op.names.length + 2) = X ++ Y ∧ (∀ n, op.names.length + 1 ≤ n → n ≤ op.names.length + 2 → (dr ≠ [] → n = op.names.length + 2) → A ++ G n ++ declT r = A ++ declT rest) ∧ X = cb ++ declT b ∧
            (dr = [] → Y = []) ∧ (∀ z, dr = [z] → ∃ cb' b', BlkAt H z cb' b' ∧ depT b' < d ∧ OkB cb' b' ∧ Y = cb' ++ declT b') := by
          rcases V0.more with ⟨ed, et⟩ | ⟨y', cb', b', ed, hb', hdb', hob', et⟩
          · refine ⟨cb ++ declT b, [], stepG op.names.length (cb ++ declT b) [], fun n hn => stepG0 hn, stepG1, stepG2, fun n h1 h2 _ => ?_, rfl, fun _ => rfl, fun z hz => ?_⟩
            · obtain rfl | rfl : n = op.names.length + 1 ∨ n = op.names.length + 2 := by omega
              · rw [stepG1, et, declT, List.append_assoc]
              · rw [stepG2, et, declT, List.append_assoc, List.append_nil]
            · rw [ed] at hz; cases hz
          · refine ⟨cb ++ declT b, cb' ++ declT b', stepG op.names.length (cb ++ declT b) (cb' ++ declT b'), fun n hn => stepG0 hn, stepG1, stepG2, fun n h1 h2 h3 => ?_, rfl, fun hz => ?_, fun z hz => ?_⟩
            · obtain rfl := h3 (by rw [ed]; simp)
              rw [stepG2, et, declT]
              simp only [List.append_assoc]
            · rw [ed] at hz; cases hz
            · rw [ed] at hz; cases hz
              exact ⟨cb', b', hb', hdb', hob', rfl⟩
        refine ⟨p, rfl, ⟨_, SqT.of ep⟩, for_it walk_tup (fun n σ H' => ∃ f2 z3, σ = [some (.ref x), some (.ref f2), some (.ref o), z3] ∧ Same H3 H' ∧ H f2 = none ∧ H' f2 = some (.lst ((A ++ G n).map V.str))) ⟨f, _, rfl, Same.refl _, hf, by rw [hG0 0 (Nat.zero_le _), List.append_nil]; exact ef3⟩ (fun _ _ H' _ z => by obtain ⟨f2, z3, _, S4, _⟩ := z; exact SqT.of (S4 _ _ ep)) ?_ ?_⟩
        · rintro n v σ H4 H5 hn ⟨f2, z3, rfl, S4, hf2, e4⟩ ⟨rfl, hv⟩
          have S04 := S03.trans S4
          have hp := (V0.part v (List.mem_of_getElem? hv)).same S04
          obtain ⟨ty, t1, t2⟩ := part_dict (K := K) hp
          refine ⟨_, rfl, v, _, ty, _, _, rfl, .ty "dict", t1, t2, _, rfl, ?_⟩
          -- a block's cells behind those that are there
          have one : ∀ (z : Addr) (cz : List Str) (bz : T), BlkAt H z cz bz → depT bz < d → OkB cz bz → A ++ G (n + 1) = A ++ G n ++ (cz ++ declT bz) → (A ++ G n).length + (cz ++ declT bz).length ≤ 1000 →
              tOp rCat (tVar 1) (tCall (spCO d) [] E0 (tCons (tVar 3) tNil)) [some (.ref x), some (.ref f2), some (.ref o), some (.ref z)] H5 fun v2 H2 => ∃ f2', [some (V.ref x), some v2, some (.ref o), some (.ref z)] = [some (V.ref x), some (.ref f2'), some (.ref o), some (.ref z)] ∧ Same H3 H2 ∧ H f2' = none ∧ H2 f2' = some (.lst ((A ++ G (n + 1)).map V.str)) := by
            intro z cz bz hz hdz hoz eG hsz
            refine ⟨_, rfl, _, rfl, tNil_i ⟨z, cz, bz, rfl, hz.same S04, hdz, hoz, fun r9 Ha Sa hr9 er9 => ⟨f2, r9, _, _, rfl, rfl, Sa _ _ e4, er9, ?_, fun f3 nf3 => ⟨f3, rfl, S4.trans (Sa.trans (new_same nf3)), (S04.trans Sa).free nf3, ?_⟩⟩⟩⟩
            · rw [List.length_map, List.length_map]; exact sz1000 hsz
            · rw [upd_same, eG, List.map_append (l₁ := A ++ G n)]
          rcases V0.idx n v hv with ⟨hn1, s, rfl⟩ | ⟨rfl, rfl⟩ | ⟨rfl, ⟨ed, rfl⟩ | ⟨z, ed, rfl⟩⟩
          · exact iteF ⟨f2, _, rfl, S4, hf2, by rw [hG0 (n + 1) hn1]; rw [hG0 n (Nat.le_of_lt hn1)] at e4; exact e4⟩
          · have hX2 : A ++ G (op.names.length + 1) = A ++ G op.names.length ++ (cb ++ declT b) := by rw [hG1, hG0 _ (Nat.le_refl _), List.append_nil, hX]
            have hle : (A ++ G op.names.length).length + (cb ++ declT b).length ≤ 1000 := by
              rw [hG0 _ (Nat.le_refl _), List.append_nil]
              have : (cb ++ declT b).length ≤ (declT rest).length := by
                rcases V0.more with ⟨_, et⟩ | ⟨y', cb', b', _, _, _, _, et⟩ <;> rw [et, declT] <;> simp only [List.length_append] <;> omega
              omega
            obtain ⟨_, e1, _, e2, h9⟩ := one y cb b V0.blk V0.dep V0.okb hX2 hle
            cases e1
            cases e2
            exact iteT ⟨_, rfl, _, rfl, let ⟨x, cs, t, e, h1, h2, h3, h4⟩ := h9; ⟨x, cs, t, e, h1, h2, h3, fun r H' S hr er => let ⟨l, b, xs, zs, e1, e2, h5, h6, h7, h8⟩ := h4 r H' S hr er; ⟨l, b, xs, zs, e1, e2, h5, h6, h7, fun p hp => let ⟨f2', h10, h11, h12, h13⟩ := h8 p hp; ⟨f2', _, h10, h11, h12, h13⟩⟩⟩⟩
          · exact iteF ⟨f2, _, rfl, S4, hf2, by rw [hG2]; rw [hG1] at e4; rw [hXY.1 ed, List.append_nil]; exact e4⟩
          · obtain ⟨cb', b', hb', hdb', hob', eY⟩ := hXY.2 z ed
            have hX2 : A ++ G (op.names.length + 1 + 1) = A ++ G (op.names.length + 1) ++ (cb' ++ declT b') := by rw [hG2, hG1, eY, List.append_assoc]
            have hle : (A ++ G (op.names.length + 1)).length + (cb' ++ declT b').length ≤ 1000 := by
              rw [← List.length_append, ← hX2]
              have := hGe (op.names.length + 2) (by omega) (Nat.le_refl _) (fun _ => rfl)
              have h2 := congrArg List.length this
              rw [List.length_append, List.length_append (as := A) (bs := declT rest)] at h2
              show (A ++ G (op.names.length + 2)).length ≤ _
              omega
            obtain ⟨_, e1, _, e2, h9⟩ := one z cb' b' hb' hdb' hob' hX2 hle
            cases e1
            cases e2
            exact iteT ⟨_, rfl, _, rfl, let ⟨x, cs, t, e, h1, h2, h3, h4⟩ := h9; ⟨x, cs, t, e, h1, h2, h3, fun r H' S hr er => let ⟨l, b, xs, zs, e1, e2, h5, h6, h7, h8⟩ := h4 r H' S hr er; ⟨l, b, xs, zs, e1, e2, h5, h6, h7, fun p hp => let ⟨f2', h10, h11, h12, h13⟩ := h8 p hp; ⟨f2', _, h10, h11, h12, h13⟩⟩⟩⟩
        · rintro σ H4 ⟨f2, z3, rfl, S4, hf2, e4⟩
          exact ⟨f2, _, _, A ++ G ps.length, r, rfl, S03.trans S4, hf2, ho', V0.depr, V0.okr, e4, (hGe _ V0.end_.1 V0.end_.2.1 V0.end_.2.2).trans eA⟩
    · rintro σ H' ⟨f, z2, z3, A, rest, rfl, S, hf, ho, hdr, hok, ef, eA⟩
      rw [List.length_map, List.drop_length] at ho
      rw [ho.end_, show declT .nil = [] from rfl, List.append_nil] at eA
      exact ⟨_, rfl, q f H' S hf (by rw [ef, eA])⟩
end
end FP
set_option Elab.async false
set_option linter.all false
set_option maxRecDepth 100000
set_option maxHeartbeats 4000000
set_option exponentiation.threshold 2000
/-! The joined lines. -/
namespace FP
open PySem PySem.Spec PyProof.Rows L2 TL
/-- the sum of the lines' lengths -/
theorem line_le {ws : List Str} (h : plainL ws) : (Txt.join " " ws).length ≤ 78 := by
  rw [len_tl, tl_tjoin]
  obtain ⟨_, h2, h3⟩ := h
  refine Nat.le_trans (joinL_len (k := 12) fun p hp => ?_) ?_
  · obtain ⟨w, hw, rfl⟩ := List.mem_map.mp hp
    exact (h3 w hw).2.1
  · rw [List.length_map]
    show ws.length * 13 ≤ 78
    omega
theorem lines_sum : ∀ {ls : List (List Str)}, (∀ ws ∈ ls, plainL ws) → ((lnJ ls).map (·.length)).sum ≤ 78 * ls.length
  | [], _ => Nat.le_refl _
  | ws :: r, h => by
    have h1 := lines_sum fun x hx => h x (List.mem_cons_of_mem _ hx)
    have h2 := line_le (h ws List.mem_cons_self)
    rw [lnJ_cons, List.map_cons, List.sum_cons, List.length_cons]
    omega
theorem lines_fit {ls : List (List Str)} (h : ∀ ws ∈ ls, plainL ws) (hl : ls.length ≤ 1000) : ((lnJ ls).map (·.length)).sum + (lnJ ls).length * ("\n" : Str).length ≤ 16777216 := by
  have := lines_sum h
  rw [lnJ_len, show ("\n" : Str).length = 1 from rfl]
  omega
theorem log_small {n : Nat} (h : n ≤ 1000) : ((n : Nat) : Int).natAbs.log2 < 1920 := by
  rw [Int.natAbs_natCast]
  have : n.log2 ≤ n := Nat.log2_le_self n
  omega
end FP
set_option Elab.async false
set_option linter.all false
set_option maxRecDepth 100000
set_option maxHeartbeats 4000000
set_option exponentiation.threshold 2000
/-! A law's plain program. -/
namespace FP
open PySem PySem.Spec PyProof.Rows L2 TL
def plD (c n : Addr) (f : Nat) (x : Str) : List (Key × V) := [(.inr "cells", .ref c), (.inr "nodes", .ref n), (.inr "first", .int (f : Nat)), (.inr "text", .str x)]
/-- a plain program in the heap -/
structure PlAt (H : Hp) (y c n : Addr) (cs : List Str) (t : T) : Prop where
  y : H y = some (.dK (plD c n (firstT (1 + locN cs) t 0) (textP cs t)))
  c : H c = some (.lst ((cs ++ declT t).map V.str))
  n : ∃ kvs, H n = some (.dK kvs) ∧ NodT (NdAt H kvs) (1 + locN cs) t 0
section
variable {P : Program} {w : World} {K : PySem.W.Frag} {mg : Str → Option Value} {base : Heap}
def spPlain (D : Nat) : Sp := fun vs H Q _ => ∃ (x : Addr) (cs : List Str) (t : T), vs = [.ref x] ∧ BlkAt H x cs t ∧ depT t < D ∧ OkB cs t ∧ ok2 t ∧
  ∀ y c n H', Same H H' → H y = none → H c = none → H n = none → PlAt H' y c n cs t → Q (.ref y) H'
abbrev nPlL : List Str := ["_law_block", "_law_nodes", "_law_first", "_law_text"]
theorem scPLn : FnScope nPlL ["_law_block"] (defScope qPlain) := ⟨rfl, rfl, rfl, by decide +kernel, rfl, by decide +kernel, by decide +kernel⟩
theorem ok_plain {f : Addr} {fd : FuncData} {D : Nat} (F : Fun K "_law_plain" "_law_plain" qPlain f fd) (DA : Def P w K mg base "_law_laid_all" (3 * D + 3) pLA (spLaidA D)) (DB : Def P w K mg base "_law_block_lines" D ["_law_block"] (spBL D)) (DC : Def P w K mg base "_law_cells_of" D ["_law_block"] (spCO D)) :
    FnOk P w K mg base CX0 (3 * D + 4) f fd ["_law_block"] (spPlain D) := by
  obtain ⟨fA, fdA, gA, kA, bA, GA⟩ := DA.ex
  obtain ⟨fB, fdB, gB, kB, bB, GB⟩ := DB.ex
  obtain ⟨fC, fdC, gC, kC, bC, GC⟩ := DC.ex
  refine F.ok scPLn (fun vs H Q E h => ?_) (fun cdv A outer s H vs Q E hr h => ?_)
  · obtain ⟨x, cs, t, rfl, _⟩ := h
    rfl
  obtain ⟨x, cs, t, rfl, hx, hd, O, o2, q⟩ := h
  have nd := scPLn.nd
  have hr1 := hr.mono (show D ≤ 3 * D + 3 by omega)
  refine ⟨_, pss_cons (ps_set (i := 1) nd rfl (.inl rfl) pe_dnewK)
    (pss_cons (ps_set (i := 2) nd rfl (.inl rfl) (pe_call GA hr rfl gA kA bA .nil pass0 (pa_cons (pv 1) (pa_cons (pv 0) (pa_cons pe_int (pa_cons pe_int pa_nil))))))
    (pss_cons (ps_set (i := 3) nd rfl (.inl rfl) (pe_join pe_str (pe_call GB hr1 rfl gB kB bB .nil pass0 (pa_cons (pv 0) pa_nil))))
    (pss_one (ps_ret (pe_disp (pps_cons pe_str (pe_call GC hr1 rfl gC kC bC .nil pass0 (pa_cons (pv 0) pa_nil)) (pps_cons pe_str (pv 1) (pps_cons pe_str (pv 2) (pps_cons pe_str (pv 3) pps_nil)))) (by rfl) (by rfl) (fun z => by cases z) (by decide)))))), ?_⟩
  intro nA nn
  have S1 := new_same (o := .dK []) nn
  have e1 := new_at (o := .dK []) nn
  generalize upd H nA (.dK []) = H1 at *
  have nx : nA ≠ x := by
    obtain ⟨c, l, ors, h1, _⟩ := hx
    exact (ne_of_none h1 nn).symm
  have hx1 : BlkAt (hid [nA] H1) x cs t := by
    have S : Same H (hid [nA] H1) := fun b u e => hid_at (fun z => by rw [List.mem_singleton.mp z, nn] at e; cases e) (S1 _ _ e)
    exact hx.same S
  refine ⟨_, rfl, _, rfl, tConsC_i (tConsC_i (tNil_i ?_))⟩
  refine ⟨nA, x, 1, 0, cs, t, [], rfl, e1, hx1, hd, O, o2, by have := O.t.sz; show 0 + _ ≤ _; omega, fun kvs H2 k2 e2 nod _ _ => ?_⟩
  have S2 : Same H H2 := fun b u e => k2 b u (fun z => by rw [List.mem_singleton.mp z, nn] at e; cases e) (S1 _ _ e)
  refine ⟨⟨_, rfl⟩, _, rfl, tNil_i ⟨x, cs, t, rfl, hx.same S2, hd, O, fun r H3 S3 nr er => ⟨"\n", r, lnJ (linesP cs t), rfl, rfl, .inl (SqL.of er), lines_fit O.pl (by rw [linesP_len]; exact O.sz), ?_⟩⟩⟩
  intro y ny
  have S4 := S3.trans (new_same (o := .dK []) ny)
  have e4 := new_at (o := .dK []) ny
  have ny2 := S3.free ny
  generalize upd H3 y (.dK []) = H4 at *
  have S24 := S2.trans S4
  refine ⟨_, rfl, tNil_i ⟨x, cs, t, rfl, hx.same S24, hd, O, fun c H5 S5 nc ec => ?_⟩⟩
  have e5 := S5 _ _ e4
  refine ⟨_, rfl, _, rfl, _, rfl, e5, plD c nA (firstT (1 + locN cs) t 0) (textP cs t), rfl, by show 4 ≤ 15; decide, ?_⟩
  have S25 := S24.trans S5
  have hy : H y = none := S2.free ny2
  have hc : H c = none := S24.free nc
  have S6 : Same H (upd H5 y (.dK (plD c nA (firstT (1 + locN cs) t 0) (textP cs t)))) := Same.put S25 hy
  have ncy : c ≠ y := (ne_of_none e4 nc).symm
  have nny : nA ≠ y := ne_of_none e2 ny2
  refine q y c nA _ S6 hy hc nn ⟨upd_same, (upd_ne ncy).trans ec, kvs, (upd_ne nny).trans ((S4.trans S5) _ _ e2), NodT.mono t (fun m k ws a b _ _ h => h.mono rfl fun x v hv => (upd_ne (ne_of ((S4.trans S5) _ _ hv) e5 (by intro z; cases z))).trans ((S4.trans S5) _ _ hv)) nod⟩
end
end FP
set_option Elab.async false
set_option linter.all false
set_option maxRecDepth 100000
set_option maxHeartbeats 4000000
set_option exponentiation.threshold 2000
namespace FP
open PySem PySem.Spec PyProof.Rows L2 TL
theorem wf_up {seen : List Str} : ∀ (t : T) {d d' : Nat}, d ≤ d' → wfT seen d t → wfT seen d' t
  | .nil, d, d', _, _ => by cases d' <;> trivial
  | .deed k r, 0, 0, h, w => w
  | .deed k r, 0, d' + 1, h, ⟨w1, w2⟩ => ⟨w1, wf_up r h w2⟩
  | .deed k r, d + 1, 0, h, _ => absurd h (by omega)
  | .deed k r, d + 1, d' + 1, h, ⟨w1, w2⟩ => ⟨w1, wf_up r h w2⟩
  | .one .., 0, _, _, w => w.elim
  | .two .., 0, _, _, w => w.elim
  | .one .., d + 1, 0, h, _ => absurd h (by omega)
  | .two .., d + 1, 0, h, _ => absurd h (by omega)
  | .one o cs b r, d + 1, d' + 1, h, ⟨w1, w2, w3⟩ => ⟨w1, wf_up b (by omega) w2, wf_up r h w3⟩
  | .two o cs b cs' b' r, d + 1, d' + 1, h, ⟨w1, w2, w3, w4, w5⟩ => ⟨w1, w2, wf_up b (by omega) w3, wf_up b' (by omega) w4, wf_up r h w5⟩
theorem wf_left {seen : List Str} {u : T} : ∀ (t : T) {d : Nat}, wfT seen d (t.app u) → wfT seen d t
  | .nil, d, _ => by cases d <;> trivial
  | .deed k r, 0, ⟨h1, h2⟩ => ⟨h1, wf_left r h2⟩
  | .deed k r, d + 1, ⟨h1, h2⟩ => ⟨h1, wf_left r h2⟩
  | .one .., 0, h => h.elim
  | .two .., 0, h => h.elim
  | .one o cs b r, d + 1, ⟨h1, h2, h3⟩ => ⟨h1, h2, wf_left r h3⟩
  | .two o cs b cs' b' r, d + 1, ⟨h1, h2, h3, h4, h5⟩ => ⟨h1, h2, h3, h4, wf_left r h5⟩
/-- without the last order -/
theorem OrdsAt.init {H : Hp} : ∀ (t : T) {os : List Addr}, OrdsAt H t os → os ≠ [] → ∃ t' u, t = t'.app u ∧ OrdsAt H t' os.dropLast
  | .nil, os, h, hn => absurd h hn
  | .deed d r, os, ⟨o, rest, e, h1, h2⟩, _ => by
    by_cases hr : rest = []
    · exact ⟨.nil, .deed d r, rfl, by rw [e, hr]; rfl⟩
    · obtain ⟨t', u, e2, h3⟩ := OrdsAt.init r h2 hr
      exact ⟨.deed d t', u, by rw [e2]; rfl, o, rest.dropLast, by rw [e, List.dropLast_cons_of_ne_nil hr], h1, h3⟩
  | .one op cs b r, os, ⟨o, x, c, l, ors, rest, e, h1, h2, h3, h4, h5, h6⟩, _ => by
    by_cases hr : rest = []
    · exact ⟨.nil, .one op cs b r, rfl, by rw [e, hr]; rfl⟩
    · obtain ⟨t', u, e2, h7⟩ := OrdsAt.init r h6 hr
      exact ⟨.one op cs b t', u, by rw [e2]; rfl, o, x, c, l, ors, rest.dropLast, by rw [e, List.dropLast_cons_of_ne_nil hr], h1, h2, h3, h4, h5, h7⟩
  | .two op cs b cs' b' r, os, ⟨o, x, c, l, ors, y, c', l', ors', rest, e, h1, h2, h3, h4, h5, h2', h3', h4', h5', h6⟩, _ => by
    by_cases hr : rest = []
    · exact ⟨.nil, .two op cs b cs' b' r, rfl, by rw [e, hr]; rfl⟩
    · obtain ⟨t', u, e2, h7⟩ := OrdsAt.init r h6 hr
      exact ⟨.two op cs b cs' b' t', u, by rw [e2]; rfl, o, x, c, l, ors, y, c', l', ors', rest.dropLast, by rw [e, List.dropLast_cons_of_ne_nil hr], h1, h2, h3, h4, h5, h2', h3', h4', h5', h7⟩
theorem twelve_name : ∀ x ∈ twelve, isName x = true := by decide +kernel
/-- what a law's own program is like -/
structure Mine (cs : List Str) (t : T) : Prop where
  wf : wfT cs 5 t
  tw : ∀ x ∈ cs ++ declT t, x ∈ twelve
  nd : (cs ++ declT t).Nodup
  h5 : (cs ++ declT t).length ≤ 5
theorem Mine.wfp {cs : List Str} {t : T} (M : Mine cs t) : WfP cs t := ⟨M.wf, fun x hx => twelve_name x (M.tw x hx), M.nd, M.h5⟩
theorem Mine.okb {cs : List Str} {t : T} (M : Mine cs t) (h : sizeP cs t ≤ 1000) : OkB cs t := ⟨h, M.wfp.plain, fun x hx => twelve_ok x (M.tw x hx), by have := M.h5; omega⟩
theorem Mine.left {cs : List Str} {t u : T} (M : Mine cs (t.app u)) : Mine cs t := by
  have e := decl_app u t
  have h5 := M.h5
  have nd := M.nd
  have tw := M.tw
  rw [e] at h5 nd tw
  rw [← List.append_assoc] at h5 nd tw
  rw [List.length_append] at h5
  exact ⟨wf_left t M.wf, fun x hx => tw x (List.mem_append_left _ hx), (List.nodup_append.mp nd).1, by omega⟩
theorem cut_dropN (xs : List V) (n : Nat) : cutV xs (some (n : Int)) none = xs.drop n := by
  unfold cutV
  rw [HT.sIx_nat, show HT.sIx xs.length xs.length none = xs.length from rfl]
  rcases Nat.le_total n xs.length with z | z
  · rw [Nat.min_eq_left z, List.take_of_length_le (by rw [List.length_drop]; omega)]
  · rw [Nat.min_eq_right z, List.drop_of_length_le z, List.drop_of_length_le (Nat.le_refl _)]
    simp
theorem Kp.drop {ms ms' : List Addr} {H H1 H2 : Hp} (k1 : Kp ms H H1) (k2 : Kp ms' H1 H2) (hf : ∀ m ∈ ms', m ∈ ms ∨ H m = none) : Kp ms H H2 := fun b u n e => k2 b u (fun hb => by
  rcases hf b hb with h | h
  · exact n h
  · rw [h] at e; cases e) (k1 b u n e)
theorem wdr10 : wdr 2 10 ≤ 3000 := by decide
theorem wsz10 : wsz 2 10 ≤ 900 := by decide
section
variable {P : Program} {w : World} {K : PySem.W.Frag} {mg : Str → Option Value} {base : Heap}
def spNP : Sp := fun vs H Q _ => ∃ (p a : Addr) (ns : List Int) (t l lo ca : Int) (m size : Nat) (ms : List Addr), vs = [.ref p, .int (m : Nat), .int (size : Nat), .int lo, .int ca] ∧ PenAt H p a ns t l ∧ t ≤ 900000 ∧ 1 ≤ m ∧ m ≤ 5 ∧ size ≤ 10 ∧ p ∈ ms ∧ (∀ m ∈ ms, H m ≠ none) ∧
  ∀ (x : Addr) (cs : List Str) (tr : T) (t' : Int) (H' : Hp), Kp [p] H H' → (∃ l', PenAt H' p a ns t' l') → t ≤ t' → t' ≤ t + 13 + wdr 2 size → BlkH ms H H' x cs tr → Mine cs tr → sizeP cs tr ≤ 36 → depT tr ≤ 2 → cs ≠ [] → H x = none → Q (.ref x) H'
abbrev nNP : List Str := ["_law_pen", "_law_many", "_law_size", "_law_loops", "_law_calls", "_law_names", "_law_first", "_law_left", "_law_found", "_law_made", "_law_k"]
abbrev pNP : List Str := ["_law_pen", "_law_many", "_law_size", "_law_loops", "_law_calls"]
theorem scNP : FnScope nNP pNP (defScope qNewProgram) := ⟨rfl, rfl, rfl, by decide +kernel, rfl, by decide +kernel, by decide +kernel⟩
theorem ok_np {f : Addr} {fd : FuncData} (F : Fun K "_law_new_program" "_law_new_program" qNewProgram f fd) (B : Blt4 mg) (DD : Def P w K mg base "_law_draw" 1 ["_law_pen", "_law_span"] spDraw) (DN : Def P w K mg base "_law_new_names" 3 ["_law_pen", "_law_many"] spNames)
    (DW : Def P w K mg base "_law_wide_block" 6 pWB (spWB 3)) (DS : Def P w K mg base "_law_block_size" 4 ["_law_block"] (spBS 3)) :
    FnOk P w K mg base CX0 7 f fd pNP spNP := by
  obtain ⟨fD, fdD, gD, kD, bD, GD⟩ := DD.ex
  obtain ⟨fN, fdN, gN, kN, bN, GN⟩ := DN.ex
  obtain ⟨fW, fdW, gW, kW, bW, GW⟩ := DW.ex
  obtain ⟨fS, fdS, gS, kS, bS, GS⟩ := DS.ex
  refine F.ok scNP (fun vs H Q E h => ?_) (fun cdv A outer s H vs Q E hr h => ?_)
  · obtain ⟨p, a, ns, t, l, lo, ca, m, size, ms, rfl, _⟩ := h
    rfl
  obtain ⟨p, a, ns, t, l, lo, ca, m, size, ms, rfl, PA0, ht, hm1, hm5, hsz, hpm, hma, q⟩ := h
  have hu := hu_of hr
  have hr1 := hr.mono (show 1 ≤ 6 by decide)
  have hr3 := hr.mono (show 3 ≤ 6 by decide)
  have hr4 := hr.mono (show 4 ≤ 6 by decide)
  refine ⟨_, pss_cons (ps_set (i := 5) scNP.nd rfl (.inl rfl) (pe_call GN hr3 rfl gN kN bN .nil pass0 (pa_cons (pv 0) (pa_cons (pv 1) pa_nil))))
    (pss_cons (ps_par (i := 6) (j := 7) (by rfl) scNP.nd rfl rfl (by decide) rfl rfl (pa_cons (pe_op op_add pe_int (pe_call GD hr1 rfl gD kD bD .nil pass0 (pa_cons (pv 0) (pa_cons (pv 1) pa_nil)))) (pa_cons (pe_disp (pps_cons pe_str (pv 3) (pps_cons pe_str (pv 4) pps_nil)) (by rfl) (by rfl) (fun z => by cases z) (by decide)) pa_nil)) (by rfl))
    (pss_cons (ps_set (i := 8) scNP.nd rfl (.inl rfl) (pe_call GW hr rfl gW kW bW .nil pass0 (pa_cons (pv 0) (pa_cons (pe_slice sl_list (pv 5) po_none (po_some (pv 6))) (pa_cons (pe_slice sl_list (pv 5) (po_some (pv 6)) po_none) (pa_cons (pe_lst pa_nil) (pa_cons (pv 2) (pa_cons pe_int (pa_cons (pv 7) pa_nil)))))))))
    (pss_cons (ps_set (i := 9) scNP.nd rfl (.inl rfl) (pe_disp (pps_cons pe_str (pe_op op_cat (pe_slice sl_list (pv 5) po_none (po_some (pv 6))) (pe_dget hu (pv 8) pe_str (fun _ _ => rfl))) (pps_cons pe_str (pe_dget hu (pv 8) pe_str (fun _ _ => rfl)) pps_nil)) (by rfl) (by rfl) (fun z => by cases z) (by decide)))
    (pss_cons (ps_for PassesOwn.never rfl (pi_range1 (by rfl) B.rg (pa_cons (pv 2) pa_nil)) (pg_name (i := 10) scNP.nd rfl (Or.inl rfl))
      (pss_one (ps_if (pt_cmpR op_gt (pe_call GS hr4 rfl gS kS bS .nil pass0 (pa_cons (pv 9) pa_nil)) pe_int (nomark _)) (pss_one (ps_expr (pe_bm0 PySem.F.plainAttrs_list PySem.F.slot_list_pop PySem.F.type_list_pop mt_pop (pe_dget hu (pv 9) pe_str (fun _ _ => rfl))))) pss_nil)))
    (pss_one (ps_ret (pv 9))))))), ?_⟩
  have hdr := Nat.le_trans (wdr_le (d := 2) hsz) wdr10
  have hds := Nat.le_trans (wsz_le (d := 2) hsz) wsz10
  refine ⟨_, rfl, _, rfl, tNil_i ⟨p, a, ns, t, l, (m : Int), rfl, PA0, by omega, by omega, by omega, fun r ys t1 l1 H1 pm u0 u1 b1 PA1 nr er => ?_⟩⟩
  rw [Int.toNat_natCast] at er
  have hyl : ys.length = 12 := pm.length_eq
  have hyn : ys.Nodup := pm.nodup_iff.mpr (by decide)
  have hyt : ∀ x ∈ ys, x ∈ twelve := fun x hx => pm.subset hx
  have hnl : (ys.take m).length = m := by rw [List.length_take]; omega
  have hnn : (ys.take m).Nodup := hyn.sublist (List.take_sublist _ _)
  have hnt : ∀ x ∈ ys.take m, x ∈ twelve := fun x hx => hyt x (List.mem_of_mem_take hx)
  generalize ys.take m = nm at *
  refine ⟨_, rfl, _, rfl, tNil_i ⟨p, a, ns, t1, l1, (m : Int), rfl, PA1, by omega, by omega, small_abs (by omega), fun w t2 l2 H2 w0 w1 u2 u3 b2 PA2 => ⟨_, _, rfl, rfl, fun lf nlf => ⟨_, rfl, _, rfl, upd_same, leftD lo ca, rfl, by show 2 ≤ 15; decide, tNil_i ⟨_, _, rfl, ?_⟩⟩⟩⟩⟩
  rw [show mergeK [] (leftD lo ca) = leftD lo ca from rfl]
  obtain ⟨f0, rfl⟩ : ∃ n : Nat, w = (n : Int) := ⟨_, (Int.toNat_of_nonneg w0).symm⟩
  have S3 : Same H2 (upd (upd H2 lf (.dK [])) lf (.dK (leftD lo ca))) := Same.put (new_same nlf) nlf
  have elf : (upd (upd H2 lf (.dK [])) lf (.dK (leftD lo ca))) lf = some (.dK (leftD lo ca)) := upd_same
  have nrp : r ≠ p := ne_of er PA1.p (by intro z; cases z)
  have er2 := b2 _ _ nrp er
  have PA3 : PenAt (upd (upd H2 lf (.dK [])) lf (.dK (leftD lo ca))) p a ns t2 l2 := ⟨S3 _ _ PA2.p, S3 _ _ PA2.a, PA2.n, PA2.t0, PA2.l0⟩
  have er3 := S3 _ _ er2
  have k03 : Kp [p] H (upd (upd H2 lf (.dK [])) lf (.dK (leftD lo ca))) := ((Kp.but b1 (by simp)).trans (Kp.but b2 (by simp))).trans (Kp.of S3)
  have nlp : lf ≠ p := (ne_of_none PA2.p nlf).symm
  have nrl : r ≠ lf := ne_of_none er2 nlf
  have nla : lf ≠ a := (ne_of_none PA2.a nlf).symm
  have flf : H lf = none := by
    have k02 : Kp [p] H H2 := (Kp.but b1 (by simp)).trans (Kp.but b2 (by simp))
    exact k02.free (fun z hz => by rw [List.mem_singleton.mp hz]; exact some_ne PA2.p) nlf
  generalize upd (upd H2 lf (.dK [])) lf (.dK (leftD lo ca)) = H3 at *
  have hp3 : ∀ z ∈ [p], H3 z ≠ none := fun z hz => by rw [List.mem_singleton.mp hz]; exact some_ne PA3.p
  have e1f : (1 + (f0 : Int)) = ((1 + f0 : Nat) : Int) := by omega
  refine ⟨_, rfl, _, rfl, _, rfl, _, rfl, r, _, rfl, SqL.of er3, fun n1 nn1 => ?_⟩
  rw [e1f, cut_take _ _ (by omega), Int.toNat_natCast, ← List.map_take]
  have S4 := new_same (o := .lst ((nm.take (1 + f0)).map V.str)) nn1
  have en1 := new_at (o := .lst ((nm.take (1 + f0)).map V.str)) nn1
  have fn1 : H n1 = none := k03.free hp3 nn1
  generalize upd H3 n1 (.lst ((nm.take (1 + f0)).map V.str)) = H4 at *
  refine ⟨_, rfl, _, rfl, _, rfl, r, _, rfl, SqL.of (S4 _ _ er3), fun s1 ns1 => ?_⟩
  rw [e1f, cut_dropN, ← List.map_drop]
  have S5 := S4.trans (new_same (o := .lst ((nm.drop (1 + f0)).map V.str)) ns1)
  have es1 := new_at (o := .lst ((nm.drop (1 + f0)).map V.str)) ns1
  have en15 := (new_same (o := .lst ((nm.drop (1 + f0)).map V.str)) ns1) _ _ en1
  have n1s : n1 ≠ s1 := ne_of_none en1 ns1
  have fs1 : H s1 = none := k03.free hp3 (S4.free ns1)
  have nrs : r ≠ s1 := ne_of_none (S4 _ _ er3) ns1
  have nsa : s1 ≠ a := (ne_of_none (S4 _ _ PA3.a) ns1).symm
  generalize upd H4 s1 (.lst ((nm.drop (1 + f0)).map V.str)) = H5 at *
  refine ⟨Nat.zero_le _, fun po npo => ?_⟩
  have S6 := new_same (o := .lst []) npo
  have epo := new_at (o := .lst []) npo
  have nps : po ≠ s1 := (ne_of_none es1 npo).symm
  have S36 := S5.trans S6
  have en16 := S6 _ _ en15
  have es16 := S6 _ _ es1
  generalize upd H5 po (.lst []) = H6 at *
  have PA6 : PenAt H6 p a ns t2 l2 := ⟨S36 _ _ PA3.p, S36 _ _ PA3.a, PA3.n, PA3.t0, PA3.l0⟩
  have k06 : Kp [p] H H6 := k03.trans (Kp.of S36)
  have htk : (nm.take (1 + f0)).length = 1 + f0 := by rw [List.length_take]; omega
  have hdk : (nm.drop (1 + f0)).length = m - (1 + f0) := by rw [List.length_drop]; omega
  refine ⟨_, rfl, _, rfl, tNil_i ⟨p, a, n1, s1, po, lf, ns, t2, l2, lo, ca, nm.take (1 + f0), nm.drop (1 + f0), [], 2, size, s1 :: lf :: ms, by decide, rfl, PA6, by omega, en16, by omega, by omega, es16, epo, hsz, by decide, fun y hy => twelve_ok y (hnt y (List.mem_of_mem_take hy)), fun y hy => twelve_ok y (hnt y (List.mem_of_mem_drop hy)), n1s, nsa.symm, nps, nlp, S36 _ _ elf, ?_, ?_, ?_⟩⟩
  · intro z hz
    rcases List.mem_cons.mp hz with rfl | hz
    · exact List.mem_cons_of_mem _ (List.mem_cons_of_mem _ hpm)
    rcases List.mem_cons.mp hz with rfl | hz
    · simp
    · rw [List.mem_singleton.mp hz]; simp
  · intro z hz
    rcases List.mem_cons.mp hz with rfl | hz
    · exact some_ne es16
    rcases List.mem_cons.mp hz with rfl | hz
    · exact some_ne (S36 _ _ elf)
    · exact k06.alive (fun z hz => by rw [List.mem_singleton.mp hz]; exact some_ne PA6.p) (hma z hz)
  intro x1 cs1 tr spr' lost t7 lo7 ca7 H7 k7 pen7 v0 v1 es7 el7 pm7 hc1 hb7 fx1 wf7 dp7 sz7 ln7
  obtain ⟨l7, PA7⟩ := pen7
  obtain ⟨c, lb, ors, f6, o1, o2, o3, ex1, ec, elb, ncl, ords7⟩ := hb7
  have k07 : Kp [p] H H7 := k06.drop k7 fun z hz => by
    rcases List.mem_cons.mp hz with rfl | hz
    · exact .inl (by simp)
    rcases List.mem_cons.mp hz with rfl | hz
    · exact .inr fs1
    · rw [List.mem_singleton.mp hz]; exact .inr flf
  have er7 := k7 _ _ (by simp [nrp, nrs, nrl]) (S36 _ _ er3)
  have hp7 : ∀ z ∈ [p], H7 z ≠ none := fun z hz => by rw [List.mem_singleton.mp hz]; exact some_ne PA7.p
  have alive7 : ∀ z ∈ ms, H7 z ≠ none := fun z hz => k07.alive hp7 (hma z hz)
  have hcl1 : cs1.length ≤ 1 := hc1
  have pmN : ((nm.take (1 + f0) ++ cs1 ++ declT tr) ++ (spr' ++ lost)).Perm nm := by
    have h5 : (nm.take (1 + f0) ++ cs1 ++ declT tr) ++ (spr' ++ lost) = nm.take (1 + f0) ++ (cs1 ++ declT tr ++ spr' ++ lost) := by simp only [List.append_assoc]
    rw [h5]
    exact (List.Perm.append_left _ pm7).trans (by rw [List.take_append_drop])
  have hM : Mine (nm.take (1 + f0) ++ cs1) tr := by
    have hl := pmN.length_eq
    rw [List.length_append] at hl
    exact ⟨wf_up tr (by decide) wf7, fun x hx => hnt x (pmN.subset (List.mem_append_left _ hx)), (List.nodup_append.mp (pmN.nodup_iff.mpr hnn)).1, by omega⟩
  -- the program's block
  intro x nx
  have S8 := new_same (o := .dK []) nx
  have ex8 := new_at (o := .dK []) nx
  have fx : H x = none := k07.free hp7 nx
  refine ⟨_, rfl, _, rfl, _, rfl, r, _, rfl, SqL.of (S8 _ _ er7), fun n2 nn2 => ?_⟩
  rw [e1f, cut_take _ _ (by omega), Int.toNat_natCast, ← List.map_take]
  have S9 := S8.trans (new_same (o := .lst ((nm.take (1 + f0)).map V.str)) nn2)
  have e92 := new_at (o := .lst ((nm.take (1 + f0)).map V.str)) nn2
  have ex9 := (new_same (o := .lst ((nm.take (1 + f0)).map V.str)) nn2) _ _ ex8
  refine ⟨_, rfl, x1, _, rfl, get_cells (S9 _ _ ex1), n2, c, _, _, rfl, rfl, e92, S9 _ _ ec, sz1000 (by rw [List.length_map, List.length_map]; omega), fun c2 nc2 => ?_⟩
  have S10 := S9.trans (new_same (o := .lst ((nm.take (1 + f0)).map V.str ++ cs1.map V.str)) nc2)
  have ec2 := new_at (o := .lst ((nm.take (1 + f0)).map V.str ++ cs1.map V.str)) nc2
  have exA := (new_same (o := .lst ((nm.take (1 + f0)).map V.str ++ cs1.map V.str)) nc2) _ _ ex9
  have fc2 : H c2 = none := k07.free hp7 (S9.free nc2)
  have nc2x : c2 ≠ x := (ne_of_none ex9 nc2).symm
  have nlx : lb ≠ x := ne_of_none elb nx
  have nc2l : c2 ≠ lb := (ne_of_none (S9 _ _ elb) nc2).symm
  refine ⟨_, rfl, x1, _, rfl, get_body (S10 _ _ ex1), exA, blkD c2 lb, rfl, by show 2 ≤ 15; decide, ?_⟩
  rw [show mergeK [] (blkD c2 lb) = blkD c2 lb from rfl]
  have elA := S10 _ _ elb
  generalize upd (upd (upd H7 x (.dK [])) n2 (.lst ((nm.take (1 + f0)).map V.str))) c2 (.lst ((nm.take (1 + f0)).map V.str ++ cs1.map V.str)) = HA at *
  have S11 : Same H7 (upd HA x (.dK (blkD c2 lb))) := Same.put S10 nx
  have exm : (upd HA x (.dK (blkD c2 lb))) x = some (.dK (blkD c2 lb)) := upd_same
  have ecm : (upd HA x (.dK (blkD c2 lb))) c2 = some (.lst ((nm.take (1 + f0) ++ cs1).map V.str)) := by rw [upd_ne nc2x, ec2, List.map_append]
  have elm : (upd HA x (.dK (blkD c2 lb))) lb = some (.lst (ors.map V.ref)) := (upd_ne nlx).trans elA
  generalize upd HA x (.dK (blkD c2 lb)) = Hm at *
  have fl : H lb = none := k06.free (fun z hz => by rw [List.mem_singleton.mp hz]; exact some_ne PA6.p) f6
  have ordm := ords7.same (Kp.of S11).hid
  have htn : (nm.take (1 + f0) ++ cs1) ≠ [] := fun z => by
    have := congrArg List.length z
    rw [List.length_append, htk] at this
    exact absurd this (by show ¬ (_ = 0); omega)
  have nlbx : lb ≠ x := nlx
  refine ⟨_, rfl, tNil_i ⟨_, rfl, by omega, by omega, ?_⟩⟩
  rw [Int.toNat_natCast]
  refine for_it walk_range (fun k σ H' => ∃ z10 tr' ors', σ = [some (.ref p), some (.int (m : Nat)), some (.int (size : Nat)), some (.int lo), some (.int ca), some (.ref r), some (.int (1 + (f0 : Int))), some (.ref lf), some (.ref x1), some (.ref x), z10] ∧ Kp [lb] Hm H' ∧ H' lb = some (.lst (List.map V.ref ors')) ∧
      OrdsAt (hid (lb :: s1 :: lf :: ms) H') tr' ors' ∧ Mine (nm.take (1 + f0) ++ cs1) tr' ∧ depT tr' ≤ 2 ∧ sizeP (nm.take (1 + f0) ++ cs1) tr' ≤ 1000 ∧ (sizeP (nm.take (1 + f0) ++ cs1) tr' ≤ 36 ∨ ors'.length + k ≤ size))
    ⟨_, tr, ors, rfl, Kp.refl _ _, elm, ordm, hM, dp7, by unfold sizeP; have := loc_le (nm.take (1 + f0) ++ cs1); omega, .inr (by rw [OrdsAt.len _ ords7]; omega)⟩ (fun _ _ _ _ _ => True.intro) ?_ ?_
  · rintro k v σ Hx H8 hk ⟨z10, tr', ors', rfl, kl, el', od', M', dp', sz', hor⟩ ⟨rfl, rfl⟩
    have ex' := kl _ _ (by simp [nlbx.symm]) exm
    have ec' := kl _ _ (by simp [nc2l]) ecm
    refine ⟨_, rfl, tNil_i ⟨x, nm.take (1 + f0) ++ cs1, tr', rfl, ⟨c2, lb, ors', ex', ec', el', od'.same hid_le⟩, by omega, M'.okb sz', fun H9 S9 => ⟨_, _, rfl, rfl, _, rfl, ite2 (fun c => ?_) fun c => ?_⟩⟩⟩
    · have c36 : 36 < sizeP (nm.take (1 + f0) ++ cs1) tr' := by have := of_decide_eq_true c; omega
      have hne : ors' ≠ [] := fun z => by
        rw [z] at od'
        rw [od'.end_] at c36
        unfold sizeP at c36
        have := loc_le (nm.take (1 + f0) ++ cs1)
        rw [sizeT] at c36
        omega
      have hlen : ors'.length + k ≤ size := by
        rcases hor with h | h
        · omega
        · exact h
      obtain ⟨y, hy, ey⟩ := pop_split ors' hne
      obtain ⟨t', u, et, od2⟩ := od'.init tr' hne
      subst et
      refine ⟨_, rfl, x, _, rfl, get_body (S9 _ _ ex'), .inl ⟨rfl, _, SqL.of (S9 _ _ el')⟩, lb, _, .ref y, rfl, rfl, S9 _ _ el', ?_, _, t', ors'.dropLast, rfl, (kl.trans (Kp.of S9)).put (by simp), ?_, ?_, M'.left, ?_, ?_, .inr ?_⟩
      · rw [List.length_map, List.getElem?_map, hy]; rfl
      · rw [upd_same, List.map_dropLast]
      · exact od2.same (((Kp.of S9).put (by simp)).hid)
      · rw [dep_app] at dp'; omega
      · unfold sizeP at sz' ⊢
        rw [size_app] at sz'
        omega
      · rw [List.length_dropLast]
        have := List.length_pos_iff.mpr hne
        omega
    · have c36 : sizeP (nm.take (1 + f0) ++ cs1) tr' ≤ 36 := by
        have : ¬ ((sizeP (nm.take (1 + f0) ++ cs1) tr' : Int) > 36) := fun z => c (decide_eq_true z)
        omega
      exact ⟨_, tr', ors', rfl, kl.trans (Kp.of S9), S9 _ _ el', od'.same (Kp.of S9).hid, M', dp', sz', .inl c36⟩
  · rintro σ H8 ⟨z10, tr', ors', rfl, kl, el', od', M', dp', sz', hor⟩
    have ex' := kl _ _ (by simp [nlbx.symm]) exm
    have ec' := kl _ _ (by simp [nc2l]) ecm
    have s36 : sizeP (nm.take (1 + f0) ++ cs1) tr' ≤ 36 := by
      rcases hor with h | h
      · exact h
      · have : ors' = [] := List.length_eq_zero_iff.mp (by omega)
        rw [this] at od'
        rw [od'.end_]
        unfold sizeP
        have := loc_le (nm.take (1 + f0) ++ cs1)
        rw [sizeT]
        omega
    have out : ∀ {z : Addr}, H z = none → z ∉ ms := fun {z} fz hz => hma z hz fz
    have nlp' : p ≠ lb := ne_of PA7.p elb (by intro z; cases z)
    have nla' : a ≠ lb := ne_of_none PA6.a f6
    refine ⟨_, rfl, q x (nm.take (1 + f0) ++ cs1) tr' t7 H8 ((k07.trans (Kp.of S11)).drop kl fun z hz => .inr (by rw [List.mem_singleton.mp hz]; exact fl)) ⟨l7, ⟨kl _ _ (by simp [nlp']) (S11 _ _ PA7.p), kl _ _ (by simp [nla']) (S11 _ _ PA7.a), PA7.n, PA7.t0, PA7.l0⟩⟩ (by omega) (by omega) ⟨c2, lb, ors', fl, out fx, out fc2, out fl, ex', ec', el', nc2l, od'.same (hid_sub fun z hz => ?_)⟩ M' s36 dp' htn fx⟩
    rcases List.mem_cons.mp hz with rfl | hz
    · simp
    · exact List.mem_cons_of_mem _ (List.mem_cons_of_mem _ (List.mem_cons_of_mem _ hz))
end
end FP
set_option Elab.async false
set_option linter.all false
set_option maxRecDepth 100000
set_option maxHeartbeats 4000000
/-! A method called with keywords; run with a layout. -/
namespace FP
open PySem PySem.Spec PyProof.Rows L2
def tMethK (C : Addr) (m : Str) (n kn : Nat) (sp : Sp) (gV : List V → List V → List V) (E : XK) (ta : TE) (t tk : TA) : TE := fun σ H Q => ta σ H fun x H1 =>
  ∃ a dx fs, x = .ref a ∧ H1 a = some (.ins C dx fs) ∧ fs.lookup m = none ∧ t σ H1 fun vs H2 => tk σ H2 fun zs H3 => (x :: vs).length = n ∧ zs.length = kn ∧ sp (gV (x :: vs) zs) H3 Q E
theorem pe_methK {X : Cx} {CX : CXT} {E : XK} {k n : Nat} {f C : Addr} {fd : FuncData} {ps ks : List Str} {sp : Sp} {g : List Value → List Value → List Value} {gV : List V → List V → List V} {m : Str} {o e : Expr} {es : List Expr} {kws : List Keyword} {ta : TE} {t tk : TA} {apos pos : Pos} {pl : Sem Bool}
    (po : PE X o ta) (cls : Cls X.K C) (mt : Meth X.K C m f) (F : FnOk X.prog X.w X.K X.mg X.base CX k f fd ps sp) (room : Room k X.A) (hb : KBn X.K fd ps n ks g gV) (hx : Passes CX X E) (pa : PA X (e :: es) t) (pk : PK X kws tk)
    (h1 : (backToKw pos (keywordEach kws X.env)).all (·.1.isSome) = true := by rfl) (h2 : (backToKw pos (keywordEach kws X.env)).filterMap (·.1) = ks := by rfl)
    (h3 : starEach (e :: es) X.env = (false, eval e X.env) :: starEach es X.env := by rfl) (h4 : ((backTo pos (starEach (e :: es) X.env)).any (·.1) || (backToKw pos (keywordEach kws X.env)).any (·.1.isNone)) = false := by rfl)
    (h5 : eval (.Call (.Attribute o m apos) (e :: es) kws pos) X.env = (do let ov ← eval o X.env; standAt apos.atName; let (f, first) ← holding [ov] (getMethod ov m pl); callWith pos f first (backTo pos (starEach (e :: es) X.env)) (backToKw pos (keywordEach kws X.env))) := by rfl) :
    PE X (.Call (.Attribute o m apos) (e :: es) kws pos) (tMethK C m n ks.length sp gV E ta t tk) := by
  constructor
  intro pins s σ H Q I h
  refine PySem.W.methodCall_KW (pl := pl) (thn (po.run pins s σ H _ I h) ?_) h5
  rintro u s1 ⟨x, H1, I1, rx, a, dx, fs, rfl, ea, l, q⟩
  obtain rfl : u = Value.ref a := rx
  refine getmeth_ok I1 ea cls mt l ?_
  refine PySem.W.callWith_KW (first := [.ref a]) (h₀ := X.base) I.ok.mod.kin mt.kp h1 (thn (pa.run pos pins s1 σ H1 _ I1 q) ?_) h4 h3
  rintro us s2 ⟨vs, H2, I2, r, q2⟩
  refine thn (pk.run pos pins s2 σ H2 _ I2 q2) ?_
  rintro ws s3 ⟨zs, H3, I3, rz, l1, l2, q3⟩
  refine ⟨I3.kIn, ?_⟩
  rw [h2]
  exact run_fnN (us := .ref a :: us) (vs := .ref a :: vs) F room hb hx I3 (.cons rfl r) rz l1 l2 q3
section
variable {P : Program} {w : World} {K : PySem.W.Frag} {mg : Str → Option Value} {base : Heap} {Cp Cr Cs lay : Addr}
theorem runK {fd : FuncData} {f : Addr} {lv : V} (F : FunD K "run" "Program.run" (defArgs mProgram_run) (defBody mProgram_run) (defScope mProgram_run) [] [("layout", lv)] f fd) : ∃ mv : List Value, KBn K fd pSt 2 ["layout"] (fun us ws => us ++ ws) (fun vs zs => vs ++ zs) :=
  FunD.kbinds0 F 2 ["layout"] [] (fun us mv ws => us ++ ws) (by simp) (fun q hq => by cases hq) (fun a b c => a.append c) (fun D doc pm an cdv ct us mv ws h1 h2 h3 => by
      match us, h1, ws, h3 with
      | [a, b], _, [c], _ => exact rfl)
/-- run, with its layout given by name -/
structure RunDefK (P : Program) (w : World) (K : PySem.W.Frag) (mg : Str → Option Value) (base : Heap) (Cp Cr Cs lay : Addr) : Prop where
  ex : ∃ (f : Addr) (fd : FuncData) (ds : List Value), Meth K Cp "run" f ∧ Vals [V.ref lay] ds ∧ Binds K fd pSt ds ∧ KBn K fd pSt 2 ["layout"] (fun us ws => us ++ ws) (fun vs zs => vs ++ zs) ∧ FnOk P w K mg base CX0 10 f fd pSt (spRunP K Cp Cr Cs)
  lay : ∀ H, SqT K H lay []
end
end FP
set_option Elab.async false
set_option linter.all false
set_option maxRecDepth 100000
set_option maxHeartbeats 8000000
set_option exponentiation.threshold 2000
namespace FP
open PySem PySem.Spec PyProof.Rows L2 TL NdefX
theorem pen_grow {H H' : Hp} {p a : Addr} {ns : List Int} {t l : Int} (h : PenAt H p a ns t l) (S : Same H H') : PenAt H' p a ns t l := ⟨S _ _ h.p, S _ _ h.a, h.n, h.t0, h.l0⟩
theorem but_of {p : Addr} {H H' : Hp} (S : Same H H') : But p H H' := fun b u _ e => S b u e
theorem pen_homes {a : Addr} {t l : Int} {h : List (Str × Nat)} (e : homesV h = penD a t l) : False := by
  cases h with
  | nil => cases e
  | cons q r =>
    have := congrArg (fun l : List (Key × V) => l.head?.map (·.2)) e
    cases this
theorem pen_around {a : Addr} {t l : Int} {h : List (Nat × Nat)} (e : aroundV h = penD a t l) : False := by
  cases h with
  | nil => cases e
  | cons q r =>
    have := congrArg (fun l : List (Key × V) => l.head?.map (·.1)) e
    cases this
theorem PgAt.but {Cp Cr Cs : Addr} {H H' : Hp} {x p a : Addr} {text : Str} {M : ShM} {t l : Int} (A : PgAt Cp Cr Cs H x text M) (hp : H p = some (.dK (penD a t l))) (B : But p H H') : PgAt Cp Cr Cs H' x text M := by
  obtain ⟨dx, tt, s, pt, H0, e1, e2, e3⟩ := A.ex
  have ins : ∀ {b : Addr} {C d : Addr} {fs : List (Str × V)}, H b = some (.ins C d fs) → H' b = some (.ins C d fs) := fun e => B _ _ (ne_of e hp (by intro z; cases z)) e
  have lst : ∀ {b : Addr} {xs : List V}, H b = some (.lst xs) → H' b = some (.lst xs) := fun e => B _ _ (ne_of e hp (by intro z; cases z)) e
  have tup : ∀ {b : Addr} {xs : List V}, H b = some (.tup xs) → H' b = some (.tup xs) := fun e => B _ _ (ne_of e hp (by intro z; cases z)) e
  refine ⟨dx, tt, s, pt, fun _ => none, ins e1, tup e2, ⟨let ⟨d, e⟩ := e3.sh; ⟨d, ins e⟩, lst e3.R, B _ _ (ne_of e3.h hp (fun z => pen_homes (HO.dK.inj z))) e3.h, B _ _ (ne_of e3.ar hp (fun z => pen_around (HO.dK.inj z))) e3.ar, lst e3.n, e3.len, fun i r m h1 h2 => let ⟨d, t', h3, h4⟩ := e3.rows i r m h1 h2; ⟨d, t', ins h3, tup h4⟩, e3.nd, e3.Rn, e3.har, e3.sr, rfl, rfl, rfl, rfl, fun r hr => rfl, fun b u e => by cases e⟩⟩
section
variable {P : Program} {w : World} {K : PySem.W.Frag} {mg : Str → Option Value} {base : Heap} {Cp Cr Cs lay : Addr}
def spLaw (K : PySem.W.Frag) : Sp := fun vs H Q _ => ∃ (a : Addr) (ns : List Int), vs = [.ref a] ∧ SqL K H a (ns.map V.int) ∧ ns.length ≤ 63 ∧ ∀ H', Q (.bl true) H'
abbrev nL9 : List Str := ["_law_script", "_law_pen", "_law_turn", "_law_plain_here", "_law_made", "_law_names", "_law_lot", "_law_again", "_law_choices", "_law_own", "_law_seen"]
theorem scL9 : NScope nL9 ["_law_script"] [] (defScope sLaw) := nscope_by (by decide +kernel)
structure Defs9 (P : Program) (w : World) (K : PySem.W.Frag) (mg : Str → Option Value) (base : Heap) (Cp Cr Cs lay : Addr) : Prop where
  pen : Def P w K mg base "_law_begun_pen" 1 ["_law_script"] (spPen K)
  draw : Def P w K mg base "_law_draw" 1 ["_law_pen", "_law_span"] spDraw
  shuf : Def P w K mg base "_law_shuffled" 2 ["_law_pen", "_law_items"] spShuf
  np : Def P w K mg base "_law_new_program" 7 pNP spNP
  plain : Def P w K mg base "_law_plain" 13 ["_law_block"] (spPlain 3)
  nc : Def P w K mg base "_law_new_choices" 3 ["_law_pen", "_law_many"] spNC
  holds : Def P w K mg base "_law_holds" 1 pHo (spHolds K)
  prog : CDef P w K mg base Cp 6 ["self", "text"] (spProg Cp Cr Cs)
  run : RunDefK P w K mg base Cp Cr Cs lay
theorem ok_law9 {f : Addr} {cda : Addr} {dV kV doc pm ct oc : Value} {an od : Option Addr} {osl : Array (Option Value)}
    (lk : K.lookup f = some ⟨oc, od, .func (W.fnOf "law" "law" (defArgs sLaw) (defBody sLaw) (defScope sLaw) dV kV doc pm an (.ref cda) ct), osl⟩) (hcd : W.codeIn K (.ref cda) "law" = true)
    (hrg : mg "range" = none) (hln : mg "len" = none) (hmn : mg "min" = none) (T : PgTxt K mg Cp) (D : Defs9 P w K mg base Cp Cr Cs lay) :
    LawOk P w K mg base 15 f (W.fnOf "law" "law" (defArgs sLaw) (defBody sLaw) (defScope sLaw) dV kV doc pm an (.ref cda) ct) "_law_script" (spLaw K) := by
  obtain ⟨fB, fdB, gB, kB, bB, GB⟩ := D.pen.ex
  obtain ⟨fD, fdD, gD, kD, bD, GD⟩ := D.draw.ex
  obtain ⟨fS, fdS, gS, kS, bS, GS⟩ := D.shuf.ex
  obtain ⟨fN, fdN, gN, kN, bN, GN⟩ := D.np.ex
  obtain ⟨fL, fdL, gL, kL, bL, GL⟩ := D.plain.ex
  obtain ⟨fC, fdC, gC, kC, bC, GC⟩ := D.nc.ex
  obtain ⟨fH, fdH, gH, kH, bH, GH⟩ := D.holds.ex
  obtain ⟨fP, fdP, mP, bP, GP⟩ := D.prog.ex
  obtain ⟨fR, fdR, ds, mR, vR, bR, bK, GR⟩ := D.run.ex
  refine law_fn lk hcd scL9 (fun vs H Q E h => ?_) fun A outer s H vs Q E hg hr h => ?_
  · obtain ⟨a, ns, rfl, _⟩ := h
    rfl
  obtain ⟨sc, ns, rfl, hS, hl, k⟩ := h
  have hr1 := hr.mono (show 1 ≤ 14 by decide)
  have hr2 := hr.mono (show 2 ≤ 14 by decide)
  have hr3 := hr.mono (show 3 ≤ 14 by decide)
  have hr7 := hr.mono (show 7 ≤ 14 by decide)
  have hr10 := hr.mono (show 10 ≤ 14 by decide)
  have hr13 := hr.mono (show 13 ≤ 14 by decide)
  have hu1 := hu_of (hr.mono (show 0 ≤ 14 by decide))
  have nd := scL9.nd
  refine ⟨_, pss_cons (ps_set (i := 1) nd rfl (.inl rfl) (pe_call GB hr1 rfl gB kB bB .nil pass0 (pa_cons (pv 0) pa_nil)))
    (pss_cons (ps_for PassesOwn.never rfl (pi_range1 (by rfl) hrg (pa_cons (pe_op op_add pe_int (pe_callB (call_min2 (by rfl)) (by rfl) hmn (by decide +kernel) (pa_cons pe_int (pa_cons (pe_callB call_len_seq (by rfl) hln boot_len (pa_cons (pv 0) pa_nil)) pa_nil)))) pa_nil)) (pg_name (i := 2) nd rfl (Or.inl rfl))
      (pss_cons (ps_set (i := 3) nd rfl (.inl rfl) (pe_call GL hr13 rfl gL kL bL .nil pass0 (pa_cons (pe_call GN hr7 rfl gN kN bN .nil pass0 (pa_cons (pv 1) (pa_cons (pe_op op_add pe_int (pe_call GD hr1 rfl gD kD bD .nil pass0 (pa_cons (pv 1) (pa_cons pe_int pa_nil)))) (pa_cons (pe_op op_add pe_int (pe_call GD hr1 rfl gD kD bD .nil pass0 (pa_cons (pv 1) (pa_cons pe_int pa_nil)))) (pa_cons pe_int (pa_cons pe_int pa_nil)))))) pa_nil)))
      (pss_cons (ps_par (i := 4) (j := 5) (by rfl) nd rfl rfl (by decide) rfl rfl (pa_cons (pe_make mP GP hr7 rfl T.gp bP .nil pass0 (pa_cons (pe_dget hu1 (pv 3) pe_str (fun _ _ => rfl)) pa_nil)) (pa_cons (pe_call GS hr2 rfl gS kS bS .nil pass0 (pa_cons (pv 1) (pa_cons (pe_dget hu1 (pv 3) pe_str (fun _ _ => rfl)) pa_nil))) pa_nil)) (by rfl))
      (pss_cons (ps_set (i := 6) nd rfl (.inl rfl) (pe_slice sl_list (pv 5) po_none (po_some (pe_callB (call_min2 (by rfl)) (by rfl) hmn (by decide +kernel) (pa_cons (pe_callB call_len_seq (by rfl) hln boot_len (pa_cons (pv 5) pa_nil)) (pa_cons (pe_op op_add pe_int (pe_call GD hr1 rfl gD kD bD .nil pass0 (pa_cons (pv 1) (pa_cons pe_int pa_nil)))) pa_nil))))))
      (pss_one (ps_for PassesOwn.never rfl (pi_range1 (by rfl) hrg (pa_cons pe_int pa_nil)) (pg_name (i := 7) nd rfl (Or.inl rfl))
        (pss_cons (ps_set (i := 8) nd rfl (.inl rfl) (pe_call GC hr3 rfl gC kC bC .nil pass0 (pa_cons (pv 1) (pa_cons pe_int pa_nil))))
        (pss_cons (ps_par (i := 9) (j := 10) (by rfl) nd rfl rfl (by decide) rfl rfl (pa_cons (pe_meth (pv 4) T.cp mR GR hr10 bR vR pass0 (pa_cons (pv 8) pa_nil)) (pa_cons (pe_methK (pv 4) T.cp mR GR hr10 bK pass0 (pa_cons (pv 8) pa_nil) (pk_cons (pe_lst (pa_cons (pv 6) pa_nil)) pk_nil)) pa_nil)) (by rfl))
        (pss_one (ps_if (pt_not (pt_val (pe_call GH hr1 rfl gH kH bH .nil pass0 (pa_cons (pv 9) (pa_cons (pv 10) (pa_cons (pv 6) pa_nil)))))) (pss_one ps_never) pss_nil))))))))))
    (pss_one (ps_ret pe_bl))), ?_⟩
  refine ⟨_, rfl, tNil_i ⟨sc, ns, rfl, hS, hl, fun p a H1 hp S1 P1 => ?_⟩⟩
  refine ⟨_, rfl, sc, _, rfl, .inl (S1.seq hS), tNil_i ⟨3, _, rfl, ?_⟩⟩
  obtain ⟨N, hN, hN7⟩ : ∃ N : Nat, (if (((ns.map V.int).length : Nat) : Int) < 3 then (((ns.map V.int).length : Nat) : Int) else 3) = (N : Int) ∧ N ≤ 3 := by
    split
    · exact ⟨_, rfl, by omega⟩
    · exact ⟨3, rfl, by omega⟩
  rw [hN]
  refine ⟨_, _, rfl, rfl, tNil_i ⟨((4 + N : Nat) : Int), rfl, by omega, by omega, ?_⟩⟩
  rw [Int.toNat_natCast]
  refine for_it (walk_range (lo := 0) (n := 4 + N)) (fun i σ H' => ∃ t l, (∃ z2 z3 z4 z5 z6 z7 z8 z9 z10, σ = [some (.ref sc), some (.ref p), z2, z3, z4, z5, z6, z7, z8, z9, z10]) ∧ PenAt H' p a ns t l ∧ 0 ≤ t ∧ t ≤ 4000 * i) ⟨0, 0, ⟨_, _, _, _, _, _, _, _, _, rfl⟩, P1, Int.le_refl _, by omega⟩ (fun _ _ _ _ _ => True.intro) ?_ (fun σ H' _ => k H')
  rintro i v σ H' H'' hi ⟨t, l, ⟨z2, z3, z4, z5, z6, z7, z8, z9, z10, rfl⟩, PA, w1, w2⟩ ⟨rfl, rfl⟩
  have hw10 : wdr 2 10 ≤ 3000 := wdr10
  dsimp only [gName]
  refine seq_mid (fun v H3 => ∃ y c nA cs tr t3 l3, v = .ref y ∧ PlAt H3 y c nA cs tr ∧ PenAt H3 p a ns t3 l3 ∧ t ≤ t3 ∧ t3 ≤ t + 3300 ∧ Mine cs tr ∧ sizeP cs tr ≤ 36 ∧ cs ≠ []) (fun Qy hq => ?_) ?_
  · refine ⟨_, rfl, _, rfl, tConsC_i (tNil_i ⟨p, a, ns, t, l, 4, rfl, PA, by omega, by decide, by decide, fun m1 t1 l1 H2 m0 m5 u0 u1 b1 P2 => ⟨_, _, rfl, rfl, _, rfl, tConsC_i (tNil_i ⟨p, a, ns, t1, l1, 7, rfl, P2, by omega, by decide, by decide, fun sz t2 l2 H3 s0 s8 u2 u3 b2 P3 => ⟨_, _, rfl, rfl, tConsC_i (tConsC_i (tNil_i ?_))⟩⟩)⟩⟩)⟩
    obtain ⟨m, rfl⟩ : ∃ n : Nat, m1 = (n : Int) := ⟨_, (Int.toNat_of_nonneg m0).symm⟩
    obtain ⟨size, rfl⟩ : ∃ n : Nat, sz = (n : Int) := ⟨_, (Int.toNat_of_nonneg s0).symm⟩
    show spNP [.ref p, .int (2 + (m : Int)), .int (4 + (size : Int)), .int 2, .int 1] H3 _ _
    rw [show (2 + (m : Int)) = ((2 + m : Nat) : Int) from by omega, show (4 + (size : Int)) = ((4 + size : Nat) : Int) from by omega]
    have hwz := wdr_le (d := 2) (show 4 + size ≤ 10 by omega)
    refine ⟨p, a, ns, t2, l2, 2, 1, 2 + m, 4 + size, [p], rfl, P3, by omega, by omega, by omega, by omega, by simp, fun z hz => by rw [List.mem_singleton.mp hz]; exact some_ne P3.p, ?_⟩
    intro x cs tr t4 H4 k4 pen4 v0 v1 hb M s36 dp hne fx
    obtain ⟨l4, P4⟩ := pen4
    refine tNil_i ⟨x, cs, tr, rfl, hb.at_.same hid_le, by omega, M.okb (by omega), ok2_wf tr cs 5 M.wf, fun y c nA H5 S5 ny nc nn PL => ?_⟩
    exact hq _ _ ⟨y, c, nA, cs, tr, t4, l4, rfl, PL, pen_grow P4 S5, by omega, by omega, M, s36, hne⟩
  rintro _ H3 ⟨y, c, nA, cs, tr, t3, l3, rfl, PL, P3, v0, v1, M, s36, hne⟩
  have W := M.wfp
  have um := use_made W (by omega : sizeP cs tr ≤ 40) (show textP cs tr = textP cs tr from rfl)
  have ncp : c ≠ p := ne_of PL.c P3.p (by intro z; cases z)
  have hcl : ∀ z ∈ cs ++ declT tr, PyData.strOk z = true := fun z hz => twelve_ok z (M.tw z hz)
  have h5 := M.h5
  have shortc : ∀ z ∈ cs ++ declT tr, shortS z := fun z hz => twelve_short (M.tw z hz)
  dsimp only [gName]
  -- the program, the cells in some order
  refine ⟨_, rfl, y, _, rfl, DGet.k (k := .inr "text") PL.y, tNil_i ?_⟩
  refine fun x dx nx ndx nexd => ⟨x, dx, _, sheetP cs tr, rfl, upd_same, um.1, um.2, fun H4 PN eo => ⟨rfl, ?_⟩⟩
  have S4 : Same H3 H4 := made_same nx ndx eo
  have PA4 := PN.at_
  obtain ⟨dxx, _, _, _, ex, _⟩ := PN.ex
  refine ⟨_, rfl, _, rfl, y, _, rfl, DGet.k (k := .inr "cells") (S4 _ _ PL.y), tNil_i ⟨p, a, c, ns, t3, l3, cs ++ declT tr, rfl, pen_grow P3 S4, by omega, ncp, S4 _ _ PL.c, by omega, hcl, fun r ys t5 l5 H5 pm u0 u1 b5 P5 nr er => tNil_i ⟨_, _, rfl, ?_⟩⟩⟩
  have PA5 := PA4.but (pen_grow P3 S4).p b5
  have ex5 := b5 _ _ (ne_of ex (pen_grow P3 S4).p (by intro z; cases z)) ex
  have nrp : r ≠ p := ne_of er P5.p (by intro z; cases z)
  have hyl : ys.length = (cs ++ declT tr).length := pm.length_eq
  have hcl1 : 1 ≤ (cs ++ declT tr).length := by
    have := List.length_pos_iff.mpr hne
    rw [List.length_append]
    omega
  -- a lot
  dsimp only [gName]
  refine seq_mid (fun v H6 => ∃ (lo : Addr) (q : Nat) (t6 l6 : Int), v = .ref lo ∧ 1 ≤ q ∧ PenAt H6 p a ns t6 l6 ∧ t5 ≤ t6 ∧ t6 ≤ t5 + 1 ∧ But p H5 H6 ∧ H6 lo = some (.lst ((ys.take q).map V.str)) ∧ lo ≠ p) (fun Qy hq => ?_) ?_
  · refine ⟨_, rfl, _, rfl, r, _, rfl, .inl (SqL.of er), _, rfl, tConsC_i (tNil_i ⟨p, a, ns, t5, l5, 4, rfl, P5, by omega, by decide, by decide, fun d t6 l6 H6 d0 d1 u2 u3 b6 P6 => ?_⟩)⟩
    refine ⟨_, _, rfl, rfl, tNil_i ⟨_, _, rfl, _, rfl, r, _, rfl, SqL.of (b6 _ _ nrp er), fun z hz => ?_⟩⟩
    obtain ⟨q, hq1, hq2⟩ : ∃ q : Nat, (if 2 + d < (((ys.map V.str).length : Nat) : Int) then 2 + d else (((ys.map V.str).length : Nat) : Int)) = (q : Int) ∧ 1 ≤ q := by
      rw [List.length_map]
      split
      · exact ⟨(2 + d).toNat, by omega, by omega⟩
      · exact ⟨ys.length, rfl, by omega⟩
    rw [hq1, cut_take _ _ (by omega), Int.toNat_natCast, ← List.map_take]
    refine hq _ _ ⟨z, q, t6, l6, rfl, hq2, P6.new hz, by omega, by omega, b6.new hz, upd_same, (ne_of_none P6.p hz).symm⟩
  rintro _ H6 ⟨lo, q, t6, l6, rfl, hq1, P6, u2, u3, b6, elo, nlp⟩
  have PA6 := PA5.but P5.p b6
  have ex6 := b6 _ _ (ne_of ex5 P5.p (by intro z; cases z)) ex5
  have hlot : ys.take q ≠ [] := by
    intro z
    have := congrArg List.length z
    rw [List.length_take, List.length_nil] at this
    omega
  have hsub : ∀ z ∈ ys.take q, z ∈ cs ++ declT tr := fun z hz => pm.mem_iff.mp (List.mem_of_mem_take hz)
  have hnd : (ys.take q).Nodup := (pm.nodup_iff.mpr M.nd).sublist (List.take_sublist _ _)
  have hh : (sheetP cs tr).homes.map (·.1) = cs ++ declT tr := homesP_names cs tr
  have hh5 : (sheetP cs tr).homes.length ≤ 5 := by
    have := congrArg List.length hh
    rw [List.length_map] at this
    omega
  dsimp only [gName]
  refine ⟨4, rfl, by decide, by decide, for_it (walk_range (lo := 0) (n := 4)) (fun j σ H' => ∃ (z7 z8 z9 z10 : Option V) (t' l' : Int), σ = [some (.ref sc), some (.ref p), some (.int (0 + (i : Int))), some (.ref y), some (.ref x), some (.ref r), some (.ref lo), z7, z8, z9, z10] ∧ PenAt H' p a ns t' l' ∧ t6 ≤ t' ∧ t' ≤ t6 + 60 * (j : Nat) ∧ But p H6 H')
    ⟨_, _, _, _, t6, l6, rfl, P6, Int.le_refl _, by omega, But.refl p H6⟩ (fun _ _ _ _ _ => True.intro) ?_ ?_⟩
  · rintro j v σ H7 H7' hj ⟨z7, z8, z9, z10, t7, l7, rfl, P7, u4, u5, b7⟩ ⟨rfl, rfl⟩
    dsimp only [gName]
    refine ⟨_, rfl, tConsC_i (tNil_i ⟨p, a, ns, t7, l7, 14, rfl, P7, by omega, by decide, fun ch xs t8 H8 hxl hx u6 u7 b8 pen8 nch ech => ?_⟩)⟩
    obtain ⟨l8, P8⟩ := pen8
    have B8 := b7.trans b8
    have PA8 := PA6.but P6.p B8
    have ex8 := B8 _ _ (ne_of ex6 P6.p (by intro z; cases z)) ex6
    have elo8 := B8 _ _ nlp elo
    obtain ⟨f1, own, f2, seen, g1, g2, l1, l2, c1, c2, hol⟩ := two_runs W (by omega : sizeP cs tr ≤ 40) shortc hsub hlot hx (by omega)
    -- with own places
    refine ⟨_, rfl, x, dxx, _, rfl, ex8, rfl, _, rfl, tNil_i ?_⟩
    refine ⟨x, ch, lay, _, sheetP cs tr, xs, [], f1, own, rfl, PA8, .inl (SqL.of ech), ⟨false, [], D.run.lay _, trivial⟩, good_nil _, by omega, by rw [hh]; exact W.nd, hh5, g1, by omega, fun e1 H9 ne1 S9 ev1 => ?_⟩
    -- in the layout of the lot
    refine ⟨_, rfl, x, dxx, _, rfl, S9 _ _ ex8, rfl, _, rfl, ?_⟩
    refine ⟨_, rfl, sz1000 (by show 1 ≤ 1000; decide), fun q1 nq1 => ⟨rfl, rfl, ?_⟩⟩
    have S10 := S9.trans (new_same (o := .lst [.ref lo]) nq1)
    refine ⟨x, ch, q1, _, sheetP cs tr, xs, [ys.take q], f2, seen, rfl, PA8.grow S10, .inl (SqL.of (S10 _ _ ech)), ⟨true, [lo], SqL.of upd_same, ⟨⟨true, SqL.of (S10 _ _ elo8)⟩, trivial⟩⟩, ⟨fun lot hlt => ?_, ?_⟩, by omega, by rw [hh]; exact W.nd, hh5, g2, by omega, fun e2 H11 ne2 S11 ev2 => ?_⟩
    · rw [List.mem_singleton.mp hlt, hh]
      exact ⟨hlot, hsub⟩
    · simpa using hnd
    have S8_11 := S10.trans S11
    refine tNil_i ⟨_, _, rfl, ?_⟩
    refine ⟨_, rfl, _, rfl, _, rfl, tNil_i ⟨e1, e2, lo, own, seen, ys.take q, cs ++ declT tr, rfl, ev1.same ((new_same nq1).trans S11), ev2, S8_11 _ _ elo8, shortc, c1, c2, by omega, by omega, hol, fun H12 S12 => ⟨_, rfl, iteF ?_⟩⟩⟩
    have S := S8_11.trans S12
    exact ⟨_, _, _, _, t8, l8, rfl, pen_grow P8 S, by omega, by omega, B8.trans (but_of S)⟩
  · rintro σ H7 ⟨z7, z8, z9, z10, t7, l7, rfl, P7, u4, u5, b7⟩
    exact ⟨t7, l7, ⟨_, _, _, _, _, _, _, _, _, rfl⟩, P7, by omega, by omega⟩
end
end FP
set_option Elab.async false
set_option linter.all false
set_option maxRecDepth 100000
set_option maxHeartbeats 8000000
namespace FP
open PySem PySem.Spec PyProof.Rows L2
theorem lookup_map {β γ : Type} {g : β → γ} : ∀ {l : List (Str × β)} (z : Str), (l.map fun p => (p.1, g p.2)).lookup z = (l.lookup z).map g
  | [], _ => rfl
  | p :: r, z => by
    obtain ⟨a, b⟩ := p
    rw [List.map_cons, List.lookup_cons, List.lookup_cons]
    cases z == a with
    | true => rfl
    | false => exact lookup_map (l := r) z
theorem facts5 {P : Program} {w : World} {K : PySem.W.Frag} {h : Heap} {mg : Str → Option Value} {f : Addr} (X : K.In h) (G : h.Ns mainGlobals mg) (hfa : mg ("law" : Str) = some (.ref f)) (c : obs5 K = val5 w) (lowF : (He.ga K "FORMS" == sysModules) = false) :
    ∃ fd : FuncData, (∀ (s : Shared) (v : Value), BindsTo s fd ⟨[v], []⟩ [("_law_script", v)]) ∧ ∀ base : Heap, K.In base → base.Ns mainGlobals mg → LawOk P w K mg base 15 f fd "_law_script" (spLaw K) := by
  have cD : He.SaysD faL fnL K := congrArg (fun z : Al5 => z.1) c
  have cT := congrArg (fun z : Al5 => z.2.1) c
  have cF := congrArg (fun z : Al5 => z.2.2.1) c
  have cL := congrArg (fun z : Al5 => z.2.2.2) c
  have e := hfa.symm.trans (He.glo_ok X G (cD.fact 38 (f := .glo "law") rfl))
  cases e
  obtain ⟨fd0, G0⟩ := cD.def_ 0 (d := dd ("check_layout", none) "check_layout" "check_layout" sCheck []) rfl
  have F0 := fun_of (st := sCheck) G0
  obtain ⟨fd1, G1⟩ := cD.def_ 1 (d := dd ("places_in", none) "places_in" "places_in" sPlaces []) rfl
  have F1 := fun_of (st := sPlaces) G1
  obtain ⟨fd2, G2⟩ := cD.def_ 2 (d := dd ("is_name", none) "is_name" "is_name" sIsName []) rfl
  have F2 := fun_of (st := sIsName) G2
  obtain ⟨fd3, G3⟩ := cD.def_ 3 (d := dd ("lines_of", none) "lines_of" "lines_of" sLines []) rfl
  have F3 := fun_of (st := sLines) G3
  obtain ⟨fd4, G4⟩ := cD.def_ 4 (d := dd ("fits", none) "fits" "fits" sFits []) rfl
  have F4 := fun_of (st := sFits) G4
  obtain ⟨fd5, G5⟩ := cD.def_ 5 (d := dd ("read_sheet", none) "read_sheet" "read_sheet" sRead []) rfl
  have F5 := fun_of (st := sRead) G5
  obtain ⟨fd6, G6⟩ := cD.def_ 6 (d := dd ("cell_at", none) "cell_at" "cell_at" sCellAt []) rfl
  have F6 := fun_of (st := sCellAt) G6
  obtain ⟨fd7, G7⟩ := cD.def_ 7 (d := dd ("_transfer", none) "_transfer" "_transfer" sTransfer []) rfl
  have F7 := fun_of (st := sTransfer) G7
  obtain ⟨fd8, G8⟩ := cD.def_ 8 (d := dd ("_do_input", none) "_do_input" "_do_input" sDoInput []) rfl
  have F8 := fun_of (st := sDoInput) G8
  obtain ⟨fd9, G9⟩ := cD.def_ 9 (d := dd ("_do_copy", none) "_do_copy" "_do_copy" sDoCopy []) rfl
  have F9 := fun_of (st := sDoCopy) G9
  obtain ⟨fd10, G10⟩ := cD.def_ 10 (d := dd ("_do_point", none) "_do_point" "_do_point" sDoPoint []) rfl
  have F10 := fun_of (st := sDoPoint) G10
  obtain ⟨fd11, G11⟩ := cD.def_ 11 (d := dd ("_do_load", none) "_do_load" "_do_load" sDoLoad []) rfl
  have F11 := fun_of (st := sDoLoad) G11
  obtain ⟨fd12, G12⟩ := cD.def_ 12 (d := dd ("_do_store", none) "_do_store" "_do_store" sDoStore []) rfl
  have F12 := fun_of (st := sDoStore) G12
  obtain ⟨fd13, G13⟩ := cD.def_ 13 (d := dd ("_do_use", none) "_do_use" "_do_use" sDoUse []) rfl
  have F13 := fun_of (st := sDoUse) G13
  obtain ⟨fd14, G14⟩ := cD.def_ 14 (d := dd ("_do_call", none) "_do_call" "_do_call" sDoCall []) rfl
  have F14 := fun_of (st := sDoCall) G14
  obtain ⟨fd15, G15⟩ := cD.def_ 15 (d := dd ("_do_same", none) "_do_same" "_do_same" sDoSame []) rfl
  have F15 := fun_of (st := sDoSame) G15
  obtain ⟨fd16, G16⟩ := cD.def_ 16 (d := dd ("_do_loop", none) "_do_loop" "_do_loop" sDoLoop []) rfl
  have F16 := fun_of (st := sDoLoop) G16
  obtain ⟨fd17, G17⟩ := cD.def_ 17 (d := dd ("_do_maybe", none) "_do_maybe" "_do_maybe" sDoMaybe []) rfl
  have F17 := fun_of (st := sDoMaybe) G17
  obtain ⟨fd18, G18⟩ := cD.def_ 18 (d := dd ("_act", none) "_act" "_act" sAct []) rfl
  have F18 := fun_of (st := sAct) G18
  obtain ⟨fd19, G19⟩ := cD.def_ 19 (d := dd ("_act_write", none) "_act_write" "_act_write" sActWrite []) rfl
  have F19 := fun_of (st := sActWrite) G19
  obtain ⟨fd20, G20⟩ := cD.def_ 20 (d := dd ("advance", none) "advance" "advance" sAdvance []) rfl
  have F20 := fun_of (st := sAdvance) G20
  obtain ⟨fd21, G21⟩ := cD.def_ 21 (d := dd ("Row", some "__init__") "__init__" "Row.__init__" mRow_init []) rfl
  have F21 := fun_of (st := mRow_init) G21
  obtain ⟨fd22, G22⟩ := cD.def_ 22 (d := dd ("Sheet", some "__init__") "__init__" "Sheet.__init__" mSheet_init []) rfl
  have F22 := fun_of (st := mSheet_init) G22
  obtain ⟨fd23, G23⟩ := cD.def_ 23 (d := dd ("Sheet", some "is_closed") "is_closed" "Sheet.is_closed" mSheet_is_closed []) rfl
  have F23 := fun_of (st := mSheet_is_closed) G23
  obtain ⟨fd24, G24⟩ := cD.def_ 24 (d := dd ("Sheet", some "take_line") "take_line" "Sheet.take_line" mSheet_take_line []) rfl
  have F24 := fun_of (st := mSheet_take_line) G24
  obtain ⟨fd25, G25⟩ := cD.def_ 25 (d := dd ("Sheet", some "find_ways") "find_ways" "Sheet.find_ways" mSheet_find_ways []) rfl
  have F25 := fun_of (st := mSheet_find_ways) G25
  obtain ⟨fd26, G26⟩ := cD.def_ 26 (d := dd ("Sheet", some "_landing") "_landing" "Sheet._landing" mSheet_landing []) rfl
  have F26 := fun_of (st := mSheet_landing) G26
  obtain ⟨fd27, G27⟩ := cD.def_ 27 (d := dd ("Sheet", some "_declare") "_declare" "Sheet._declare" mSheet_declare []) rfl
  have F27 := fun_of (st := mSheet_declare) G27
  obtain ⟨fd28, G28⟩ := cD.def_ 28 (d := dd ("Sheet", some "_take_row") "_take_row" "Sheet._take_row" mSheet_take_row []) rfl
  have F28 := fun_of (st := mSheet_take_row) G28
  obtain ⟨fd29, G29⟩ := cD.def_ 29 (d := dd ("Sheet", some "_is_seen") "_is_seen" "Sheet._is_seen" mSheet_is_seen []) rfl
  have F29 := fun_of (st := mSheet_is_seen) G29
  obtain ⟨fd30, G30⟩ := cD.def_ 30 (d := dd ("Sheet", some "_open_block") "_open_block" "Sheet._open_block" mSheet_open_block []) rfl
  have F30 := fun_of (st := mSheet_open_block) G30
  obtain ⟨fd31, G31⟩ := cD.def_ 31 (d := dd ("Sheet", some "_turn") "_turn" "Sheet._turn" mSheet_turn []) rfl
  have F31 := fun_of (st := mSheet_turn) G31
  obtain ⟨fd32, G32⟩ := cD.def_ 32 (d := dd ("Sheet", some "_close_block") "_close_block" "Sheet._close_block" mSheet_close_block []) rfl
  have F32 := fun_of (st := mSheet_close_block) G32
  obtain ⟨fd33, G33⟩ := cD.def_ 33 (d := dd ("Choices", some "__init__") "__init__" "Choices.__init__" mChoices_init []) rfl
  have F33 := fun_of (st := mChoices_init) G33
  obtain ⟨fd34, G34⟩ := cD.def_ 34 (d := dd ("Choices", some "take") "take" "Choices.take" mChoices_take []) rfl
  have F34 := fun_of (st := mChoices_take) G34
  obtain ⟨fd35, G35⟩ := cD.def_ 35 (d := dd ("Run", some "__init__") "__init__" "Run.__init__" mRun_init []) rfl
  have F35 := fun_of (st := mRun_init) G35
  obtain ⟨fd36, G36⟩ := cD.def_ 36 (d := dd ("Run", some "worth") "worth" "Run.worth" mRun_worth []) rfl
  have F36 := fun_of (st := mRun_worth) G36
  obtain ⟨fd37, G37⟩ := cD.def_ 37 (d := dd ("Run", some "read") "read" "Run.read" mRun_read []) rfl
  have F37 := fun_of (st := mRun_read) G37
  obtain ⟨fd38, G38⟩ := cD.def_ 38 (d := dd ("Run", some "write") "write" "Run.write" mRun_write []) rfl
  have F38 := fun_of (st := mRun_write) G38
  obtain ⟨fd39, G39⟩ := cD.def_ 39 (d := dd ("Run", some "learn") "learn" "Run.learn" mRun_learn []) rfl
  have F39 := fun_of (st := mRun_learn) G39
  obtain ⟨fd40, G40⟩ := cD.def_ 40 (d := dd ("Run", some "finds_same") "finds_same" "Run.finds_same" mRun_finds_same []) rfl
  have F40 := fun_of (st := mRun_finds_same) G40
  obtain ⟨fd41, G41⟩ := cD.def_ 41 (d := dd ("Run", some "stop") "stop" "Run.stop" mRun_stop []) rfl
  have F41 := fun_of (st := mRun_stop) G41
  obtain ⟨fd42, G42⟩ := cD.def_ 42 (d := dd ("Run", some "leave_call") "leave_call" "Run.leave_call" mRun_leave_call []) rfl
  have F42 := fun_of (st := mRun_leave_call) G42
  obtain ⟨fd43, G43⟩ := cD.def_ 43 (d := dd ("Program", some "__init__") "__init__" "Program.__init__" mProgram_init []) rfl
  have F43 := fun_of (st := mProgram_init) G43
  obtain ⟨fd44, G44⟩ := cD.def_ 44 (d := dd ("Program", some "run") "run" "Program.run" mProgram_run [("layout", .adr (layA "run"))]) rfl
  obtain ⟨fd45, G45⟩ := cD.def_ 45 (d := dd ("Program", some "steps") "steps" "Program.steps" mProgram_steps [("layout", .adr (layA "steps"))]) rfl
  obtain ⟨fd46, G46⟩ := cD.def_ 46 (d := dd ("Program", some "_hold") "_hold" "Program._hold" mProgram_hold []) rfl
  have F46 := fun_of (st := mProgram_hold) G46
  obtain ⟨fd47, G47⟩ := cD.def_ 47 (d := dd ("_law_begun_pen", none) "_law_begun_pen" "_law_begun_pen" sPen []) rfl
  have F47 := fun_of (st := sPen) G47
  obtain ⟨fd48, G48⟩ := cD.def_ 48 (d := dd ("_law_draw", none) "_law_draw" "_law_draw" sDraw []) rfl
  have F48 := fun_of (st := sDraw) G48
  obtain ⟨fd49, G49⟩ := cD.def_ 49 (d := dd ("_law_pick", none) "_law_pick" "_law_pick" sPick []) rfl
  have F49 := fun_of (st := sPick) G49
  obtain ⟨fd50, G50⟩ := cD.def_ 50 (d := dd ("_law_shuffled", none) "_law_shuffled" "_law_shuffled" sShuf []) rfl
  have F50 := fun_of (st := sShuf) G50
  obtain ⟨fd51, G51⟩ := cD.def_ 51 (d := dd ("_law_new_names", none) "_law_new_names" "_law_new_names" sNames []) rfl
  have F51 := fun_of (st := sNames) G51
  obtain ⟨fd52, G52⟩ := cD.def_ 52 (d := dd ("_law_block_lines", none) "_law_block_lines" "_law_block_lines" qBlockLines []) rfl
  have F52 := fun_of (st := qBlockLines) G52
  obtain ⟨fd53, G53⟩ := cD.def_ 53 (d := dd ("_law_block_size", none) "_law_block_size" "_law_block_size" qBlockSize []) rfl
  have F53 := fun_of (st := qBlockSize) G53
  obtain ⟨fd54, G54⟩ := cD.def_ 54 (d := dd ("_law_order_size", none) "_law_order_size" "_law_order_size" qOrderSize []) rfl
  have F54 := fun_of (st := qOrderSize) G54
  obtain ⟨fd55, G55⟩ := cD.def_ 55 (d := dd ("_law_laid", none) "_law_laid" "_law_laid" qLaid []) rfl
  have F55 := fun_of (st := qLaid) G55
  obtain ⟨fd56, G56⟩ := cD.def_ 56 (d := dd ("_law_laid_all", none) "_law_laid_all" "_law_laid_all" qLaidAll []) rfl
  have F56 := fun_of (st := qLaidAll) G56
  obtain ⟨fd57, G57⟩ := cD.def_ 57 (d := dd ("_law_cells_of", none) "_law_cells_of" "_law_cells_of" qCellsOf []) rfl
  have F57 := fun_of (st := qCellsOf) G57
  obtain ⟨fd58, G58⟩ := cD.def_ 58 (d := dd ("_law_plain", none) "_law_plain" "_law_plain" qPlain []) rfl
  have F58 := fun_of (st := qPlain) G58
  obtain ⟨fd59, G59⟩ := cD.def_ 59 (d := dd ("_law_new_order", none) "_law_new_order" "_law_new_order" qNewOrder []) rfl
  have F59 := fun_of (st := qNewOrder) G59
  obtain ⟨fd60, G60⟩ := cD.def_ 60 (d := dd ("_law_wide_block", none) "_law_wide_block" "_law_wide_block" qWideBlock []) rfl
  have F60 := fun_of (st := qWideBlock) G60
  obtain ⟨fd61, G61⟩ := cD.def_ 61 (d := dd ("_law_new_program", none) "_law_new_program" "_law_new_program" qNewProgram []) rfl
  have F61 := fun_of (st := qNewProgram) G61
  obtain ⟨fd62, G62⟩ := cD.def_ 62 (d := dd ("_law_new_choices", none) "_law_new_choices" "_law_new_choices" qNewChoices []) rfl
  have F62 := fun_of (st := qNewChoices) G62
  obtain ⟨fd63, G63⟩ := cD.def_ 63 (d := dd ("_law_holds", none) "_law_holds" "_law_holds" qHolds []) rfl
  have F63 := fun_of (st := qHolds) G63
  obtain ⟨fd64, G64⟩ := cD.def_ 64 (d := dd ("law", none) "law" "law" sLaw []) rfl
  have F64 := fun_of (st := sLaw) G64
  have hb : ∀ (s : Shared) (v : Value), BindsTo s fd64 ⟨[v], []⟩ [("_law_script", v)] := fun s v => (FunD.bindsA (ps := ["_law_script"]) G64 fun _ _ _ _ _ _ us hl => match us, hl with | [_], _ => rfl) s [v] rfl
  refine ⟨fd64, hb, fun base _ _ => ?_⟩
  have eW : tupS K (.ref (He.ga K "WORDS")) = some (wordsL.map some) := (List.cons.inj cT).1
  have eT : tupS K (.ref (He.ga K "TWO_SIDED")) = some (twoL.map some) := (List.cons.inj (List.cons.inj cT).2).1
  have eP : tupS K (.ref (He.ga K "PASSED")) = some (passL.map some) := (List.cons.inj (List.cons.inj (List.cons.inj cT).2).2).1
  have eO : tupS K (.ref (He.ga K "OPENING")) = some (openL.map some) := (List.cons.inj (List.cons.inj (List.cons.inj (List.cons.inj cT).2).2).2).1
  have eY : tupS K (.ref (layA "run" K)) = some (([] : List Str).map some) := (List.cons.inj (List.cons.inj (List.cons.inj (List.cons.inj (List.cons.inj cT).2).2).2).2).1
  have tup : ∀ {a : Addr} {ss : List Str}, tupS K (.ref a) = some (ss.map some) → ∀ H, SqT K H a (ss.map V.str) := fun e => by
    obtain ⟨a', h1, h2⟩ := tupS_ok e
    cases h1
    exact h2
  have B : Blt mg := ⟨(He.free_ok X G (cD.fact 66 (f := .free "int") rfl)), (He.free_ok X G (cD.fact 60 (f := .free "len") rfl)), (He.free_ok X G (cD.fact 67 (f := .free "abs") rfl)), (He.free_ok X G (cD.fact 64 (f := .free "list") rfl))⟩
  have B2 : Blt2 mg := ⟨(He.free_ok X G (cD.fact 60 (f := .free "len") rfl)), (He.free_ok X G (cD.fact 61 (f := .free "all") rfl)), (He.free_ok X G (cD.fact 62 (f := .free "zip") rfl)), (He.free_ok X G (cD.fact 63 (f := .free "enumerate") rfl)), (He.free_ok X G (cD.fact 64 (f := .free "list") rfl)), (He.free_ok X G (cD.fact 65 (f := .free "tuple") rfl))⟩
  have W : WordsAt K mg (He.ga K "WORDS") := ⟨(He.glo_ok X G (cD.fact 54 (f := .glo "WORDS") rfl)), tup eW, (He.int_ok X G (cD.fact 75 (f := .int "LONGEST_NAME" 12) rfl))⟩
  have C : Csts K mg (He.ga K "TWO_SIDED") (He.ga K "PASSED") (He.ga K "OPENING") := ⟨(He.int_ok X G (cD.fact 76 (f := .int "MOST_CELLS" 5) rfl)), (He.int_ok X G (cD.fact 77 (f := .int "MOST_OPEN" 5) rfl)), (He.glo_ok X G (cD.fact 55 (f := .glo "TWO_SIDED") rfl)), tup eT, (He.glo_ok X G (cD.fact 56 (f := .glo "PASSED") rfl)), tup eP, (He.glo_ok X G (cD.fact 57 (f := .glo "OPENING") rfl)), tup eO⟩
  have T : ShTxt K mg (He.ga K "Row") (He.ga K "Sheet") := ⟨(He.cls_ok (cD.fact 40 (f := .cls "Row") rfl)), (He.cls_ok (cD.fact 43 (f := .cls "Sheet") rfl)), (He.glo_ok X G (cD.fact 39 (f := .glo "Row") rfl)), (He.glo_ok X G (cD.fact 42 (f := .glo "Sheet") rfl)), (He.noat_ok (cD.fact 79 (f := .noat "Row" "word") rfl)), (He.noat_ok (cD.fact 80 (f := .noat "Row" "names") rfl)), (He.noat_ok (cD.fact 81 (f := .noat "Row" "after") rfl)), (He.noat_ok (cD.fact 82 (f := .noat "Row" "other") rfl)), (He.noat_ok (cD.fact 83 (f := .noat "Sheet" "rows") rfl)), (He.noat_ok (cD.fact 84 (f := .noat "Sheet" "homes") rfl)), (He.noat_ok (cD.fact 85 (f := .noat "Sheet" "around") rfl)), (He.noat_ok (cD.fact 86 (f := .noat "Sheet" "_nest") rfl))⟩
  have TP : PgTxt K mg (He.ga K "Program") := ⟨(He.cls_ok (cD.fact 46 (f := .cls "Program") rfl)), (He.glo_ok X G (cD.fact 45 (f := .glo "Program") rfl)), (He.noat_ok (cD.fact 87 (f := .noat "Program" "text") rfl)), (He.noat_ok (cD.fact 88 (f := .noat "Program" "cells") rfl)), (He.noat_ok (cD.fact 89 (f := .noat "Program" "sheet") rfl)), (He.int_ok X G (cD.fact 78 (f := .int "MOST_LINES" 40) rfl))⟩
  have TN : RnTxt K mg (He.ga K "Run") (He.ga K "Choices") := ⟨(He.cls_ok (cD.fact 52 (f := .cls "Run") rfl)), (He.cls_ok (cD.fact 49 (f := .cls "Choices") rfl)), (He.glo_ok X G (cD.fact 51 (f := .glo "Run") rfl)), (He.glo_ok X G (cD.fact 48 (f := .glo "Choices") rfl)), (He.noat_ok (cD.fact 91 (f := .noat "Run" "line") rfl)), (He.noat_ok (cD.fact 92 (f := .noat "Run" "calling") rfl)), (He.noat_ok (cD.fact 93 (f := .noat "Run" "known") rfl)), (He.noat_ok (cD.fact 94 (f := .noat "Run" "_places") rfl)), (He.noat_ok (cD.fact 95 (f := .noat "Run" "_held") rfl)), (He.noat_ok (cD.fact 90 (f := .noat "Choices" "_left") rfl))⟩
  have TR : RwTxt K (He.ga K "Row") := ⟨(He.cls_ok (cD.fact 40 (f := .cls "Row") rfl)), (He.noat_ok (cD.fact 79 (f := .noat "Row" "word") rfl)), (He.noat_ok (cD.fact 80 (f := .noat "Row" "names") rfl)), (He.noat_ok (cD.fact 81 (f := .noat "Row" "after") rfl)), (He.noat_ok (cD.fact 82 (f := .noat "Row" "other") rfl))⟩
  obtain ⟨lF, hF1, hF2⟩ := Option.map_eq_some_iff.mp cF
  obtain ⟨esF, nF, lkF, rfl⟩ := dictE_ok hF1
  replace hF2 : esF.toList.map (seenE (tupS K)) = (formsL.map fun p => (p.1, some (p.2.map some))).map (wantE w) := hF2.trans (by rw [List.map_map]; rfl)
  have lookF : ∀ z : Str, (formsL.map fun p => (p.1, some (p.2.map some))).lookup z = (formsL.lookup z).map fun l => some (l.map some) := fun z => lookup_map (g := fun l : List Str => some (l.map some)) z
  have FA : FormsAt K w mg (He.ga K "FORMS") esF nF := by
    refine ⟨(He.glo_ok X G (cD.fact 58 (f := .glo "FORMS") rfl)), ⟨lkF, lit_of hF2, lowF⟩, fun z => ?_, fun z form hz => ?_⟩
    · obtain ⟨r, h1, h2⟩ := nsIn_of lkF hF2 z
      refine ⟨r, h1, ?_⟩
      have := congrArg Option.isSome h2
      rw [lookF, Option.isSome_map, Option.isSome_map] at this
      exact this
    · obtain ⟨r, h1, h2⟩ := nsIn_of lkF hF2 z
      rw [lookF, hz] at h2
      obtain ⟨v, rfl, hv⟩ := Option.map_eq_some_iff.mp h2
      obtain ⟨t, rfl, ht⟩ := tupS_ok hv
      exact ⟨t, ⟨esF, nF, _, lkF, lit_of hF2, h1, rfl⟩, ht⟩
  obtain ⟨lL, hL1, hL2⟩ := Option.map_eq_some_iff.mp cL
  obtain ⟨esL, nL, lkL, rfl⟩ := dictE_ok hL1
  replace hL2 : esL.toList.map (seenE (nameA K)) = (linesN.map fun p => (p.1, some p.2)).map (wantE w) := hL2.trans (by rw [List.map_map]; rfl)
  have kdL : ∀ (z x : Str), linesN.lookup z = some x → KDct K w (He.ga K "LINES") z (.ref (He.ga K x)) := fun z x hz => by
    obtain ⟨r, h1, h2⟩ := nsIn_of lkL hL2 z
    have hl : (linesN.map fun p => (p.1, some p.2)).lookup z = (linesN.lookup z).map some := lookup_map z
    rw [hl, hz] at h2
    obtain ⟨v, rfl, hv⟩ := Option.map_eq_some_iff.mp h2
    rw [nameA_ok hv] at h1
    exact ⟨esL, nL, _, lkL, lit_of hL2, h1, rfl⟩
  have dIsName : Def P w K mg base "is_name" 1 ["text"] (spIsName) := ⟨_, fd2, (He.glo_ok X G (cD.fact 2 (f := .glo "is_name") rfl)), F2.kp, F2.binds (fun _ _ _ _ _ _ us hl => match us, hl with | [_], _ => rfl), ok_isName F2 B2 W⟩
  have dLines : Def P w K mg base "lines_of" 1 ["text"] (spLines) := ⟨_, fd3, (He.glo_ok X G (cD.fact 3 (f := .glo "lines_of") rfl)), F3.kp, F3.binds (fun _ _ _ _ _ _ us hl => match us, hl with | [_], _ => rfl), ok_lines F3⟩
  have dFits : Def P w K mg base "fits" 1 ["words", "form"] (spFits K) := ⟨_, fd4, (He.glo_ok X G (cD.fact 4 (f := .glo "fits") rfl)), F4.kp, F4.binds (fun _ _ _ _ _ _ us hl => match us, hl with | [_, _], _ => rfl), ok_fits F4 B2⟩
  have cRowI : CDef P w K mg base (He.ga K "Row") 1 ["self", "word", "names", "number"] (spRow (He.ga K "Row")) := ⟨_, fd21, (He.mkr_ok (cD.fact 41 (f := .mkr "Row") rfl)), F21.binds (fun _ _ _ _ _ _ us hl => match us, hl with | [_, _, _, _], _ => rfl), ok_rowInit F21 T⟩
  have mClosed : MDef P w K mg base (He.ga K "Sheet") "is_closed" 1 ["self"] (spClosed (He.ga K "Row") (He.ga K "Sheet")) := ⟨_, fd23, (He.meth_ok (cD.fact 96 (f := .meth "Sheet" "is_closed") rfl)), F23.binds (fun _ _ _ _ _ _ us hl => match us, hl with | [_], _ => rfl), ok_closed F23 T B2⟩
  have mSeen : MDef P w K mg base (He.ga K "Sheet") "_is_seen" 1 ["self", "name"] (spSeen (He.ga K "Row") (He.ga K "Sheet")) := ⟨_, fd29, (He.meth_ok (cD.fact 102 (f := .meth "Sheet" "_is_seen") rfl)), F29.binds (fun _ _ _ _ _ _ us hl => match us, hl with | [_, _], _ => rfl), ok_seen F29 T⟩
  have mOpen : MDef P w K mg base (He.ga K "Sheet") "_open_block" 1 ["self", "number"] (spStep (He.ga K "Row") (He.ga K "Sheet") openM preOpen) := ⟨_, fd30, (He.meth_ok (cD.fact 103 (f := .meth "Sheet" "_open_block") rfl)), F30.binds (fun _ _ _ _ _ _ us hl => match us, hl with | [_, _], _ => rfl), ok_open F30 T C B2⟩
  have mTurn : MDef P w K mg base (He.ga K "Sheet") "_turn" 1 ["self", "number"] (spStep (He.ga K "Row") (He.ga K "Sheet") turnM preTurn) := ⟨_, fd31, (He.meth_ok (cD.fact 104 (f := .meth "Sheet" "_turn") rfl)), F31.binds (fun _ _ _ _ _ _ us hl => match us, hl with | [_, _], _ => rfl), ok_turn F31 T C B2⟩
  have mClose : MDef P w K mg base (He.ga K "Sheet") "_close_block" 1 ["self", "number"] (spStep (He.ga K "Row") (He.ga K "Sheet") closeM preClose) := ⟨_, fd32, (He.meth_ok (cD.fact 105 (f := .meth "Sheet" "_close_block") rfl)), F32.binds (fun _ _ _ _ _ _ us hl => match us, hl with | [_, _], _ => rfl), ok_close F32 T⟩
  have mDecl : MDef P w K mg base (He.ga K "Sheet") "_declare" 3 ["self", "names"] (spDeclare (He.ga K "Row") (He.ga K "Sheet")) := ⟨_, fd27, (He.meth_ok (cD.fact 100 (f := .meth "Sheet" "_declare") rfl)), F27.binds (fun _ _ _ _ _ _ us hl => match us, hl with | [_, _], _ => rfl), ok_declare F27 T C B2 dIsName cRowI⟩
  have mTakeRow : MDef P w K mg base (He.ga K "Sheet") "_take_row" 3 ["self", "word", "words"] (spTakeRow (He.ga K "Row") (He.ga K "Sheet")) := ⟨_, fd28, (He.meth_ok (cD.fact 101 (f := .meth "Sheet" "_take_row") rfl)), F28.binds (fun _ _ _ _ _ _ us hl => match us, hl with | [_, _, _], _ => rfl), ok_takeRow F28 T C B2 FA cRowI mSeen mOpen mTurn mClose⟩
  have mTakeLine : MDef P w K mg base (He.ga K "Sheet") "take_line" 4 ["self", "line"] (spTakeLine (He.ga K "Row") (He.ga K "Sheet")) := ⟨_, fd24, (He.meth_ok (cD.fact 97 (f := .meth "Sheet" "take_line") rfl)), F24.binds (fun _ _ _ _ _ _ us hl => match us, hl with | [_, _], _ => rfl), ok_takeLine F24 T B2 FA dFits mDecl mTakeRow⟩
  have mLand : MDef P w K mg base (He.ga K "Sheet") "_landing" 1 ["self", "number"] (spLand (He.ga K "Row") (He.ga K "Sheet")) := ⟨_, fd26, (He.meth_ok (cD.fact 99 (f := .meth "Sheet" "_landing") rfl)), F26.binds (fun _ _ _ _ _ _ us hl => match us, hl with | [_, _], _ => rfl), ok_land F26 T C B2⟩
  have mWays : MDef P w K mg base (He.ga K "Sheet") "find_ways" 2 ["self"] (spWays (He.ga K "Row") (He.ga K "Sheet")) := ⟨_, fd25, (He.meth_ok (cD.fact 98 (f := .meth "Sheet" "find_ways") rfl)), F25.binds (fun _ _ _ _ _ _ us hl => match us, hl with | [_], _ => rfl), ok_ways F25 T C B2 mLand⟩
  have cSheetI : CDef P w K mg base (He.ga K "Sheet") 3 ["self"] (spSheet (He.ga K "Row") (He.ga K "Sheet")) := ⟨_, fd22, (He.mkr_ok (cD.fact 44 (f := .mkr "Sheet") rfl)), F22.binds (fun _ _ _ _ _ _ us hl => match us, hl with | [_], _ => rfl), ok_sheetInit F22 T cRowI⟩
  have dRead : Def P w K mg base "read_sheet" 5 ["text", "most"] (spRead (He.ga K "Row") (He.ga K "Sheet")) := ⟨_, fd5, (He.glo_ok X G (cD.fact 5 (f := .glo "read_sheet") rfl)), F5.kp, F5.binds (fun _ _ _ _ _ _ us hl => match us, hl with | [_, _], _ => rfl), ok_read F5 T B2 cSheetI dLines mTakeLine mClosed mWays⟩
  have mHold : MDef P w K mg base (He.ga K "Program") "_hold" 1 ["self", "text", "sheet"] (spHold (He.ga K "Program") (He.ga K "Row") (He.ga K "Sheet")) := ⟨_, fd46, (He.meth_ok (cD.fact 116 (f := .meth "Program" "_hold") rfl)), F46.binds (fun _ _ _ _ _ _ us hl => match us, hl with | [_, _, _], _ => rfl), ok_hold F46 TP T B2⟩
  have cProgI : CDef P w K mg base (He.ga K "Program") 6 ["self", "text"] (spProg (He.ga K "Program") (He.ga K "Row") (He.ga K "Sheet")) := ⟨_, fd43, (He.mkr_ok (cD.fact 47 (f := .mkr "Program") rfl)), F43.binds (fun _ _ _ _ _ _ us hl => match us, hl with | [_, _], _ => rfl), ok_progInit F43 TP dRead mHold⟩
  have dCheck : Def P w K mg base "check_layout" 1 ["cells", "layout"] (spCheck K) := ⟨_, fd0, (He.glo_ok X G (cD.fact 0 (f := .glo "check_layout") rfl)), F0.kp, F0.binds (fun _ _ _ _ _ _ us hl => match us, hl with | [_, _], _ => rfl), ok_check F0 B2⟩
  have dPlaces : Def P w K mg base "places_in" 1 ["cells", "layout"] (spPlaces K) := ⟨_, fd1, (He.glo_ok X G (cD.fact 1 (f := .glo "places_in") rfl)), F1.kp, F1.binds (fun _ _ _ _ _ _ us hl => match us, hl with | [_, _], _ => rfl), ok_places F1 B2⟩
  have cChI : CDef P w K mg base (He.ga K "Choices") 1 ["self", "choices"] (spChoices K (He.ga K "Choices")) := ⟨_, fd33, (He.mkr_ok (cD.fact 50 (f := .mkr "Choices") rfl)), F33.binds (fun _ _ _ _ _ _ us hl => match us, hl with | [_, _], _ => rfl), ok_choicesInit F33 TN B2⟩
  have dCellAt : Def P w K mg base "cell_at" 1 ["worth"] (spCellAt) := ⟨_, fd6, (He.glo_ok X G (cD.fact 6 (f := .glo "cell_at") rfl)), F6.kp, F6.binds (fun _ _ _ _ _ _ us hl => match us, hl with | [_], _ => rfl), ok_cellAt F6 (He.free_ok X G (cD.fact 70 (f := .free "isinstance") rfl)) (He.free_ok X G (cD.fact 69 (f := .free "str") rfl))⟩
  have mTake : MDef P w K mg base (He.ga K "Choices") "take" 1 ["self"] (spTake (He.ga K "Run") (He.ga K "Choices")) := ⟨_, fd34, (He.meth_ok (cD.fact 106 (f := .meth "Choices" "take") rfl)), F34.binds (fun _ _ _ _ _ _ us hl => match us, hl with | [_], _ => rfl), ok_take F34 TN B2⟩
  have cRunI : CDef P w K mg base (He.ga K "Run") 1 ["self", "places", "line"] (spRunInit (He.ga K "Run")) := ⟨_, fd35, (He.mkr_ok (cD.fact 53 (f := .mkr "Run") rfl)), F35.binds (fun _ _ _ _ _ _ us hl => match us, hl with | [_, _, _], _ => rfl), ok_runInit F35 TN⟩
  have mWorth : MDef P w K mg base (He.ga K "Run") "worth" 1 ["self", "cell"] (spWorth (He.ga K "Run")) := ⟨_, fd36, (He.meth_ok (cD.fact 107 (f := .meth "Run" "worth") rfl)), F36.binds (fun _ _ _ _ _ _ us hl => match us, hl with | [_, _], _ => rfl), ok_worth F36 TN⟩
  have mRead : MDef P w K mg base (He.ga K "Run") "read" 2 ["self", "cell"] (spReadC (He.ga K "Run")) := ⟨_, fd37, (He.meth_ok (cD.fact 108 (f := .meth "Run" "read") rfl)), F37.binds (fun _ _ _ _ _ _ us hl => match us, hl with | [_, _], _ => rfl), ok_readC F37 TN mWorth⟩
  have mWrite : MDef P w K mg base (He.ga K "Run") "write" 1 ["self", "cell", "worth"] (spWriteC (He.ga K "Run")) := ⟨_, fd38, (He.meth_ok (cD.fact 109 (f := .meth "Run" "write") rfl)), F38.binds (fun _ _ _ _ _ _ us hl => match us, hl with | [_, _, _], _ => rfl), ok_writeC F38 TN⟩
  have mStop : MDef P w K mg base (He.ga K "Run") "stop" 1 ["self"] (spStop (He.ga K "Run") (He.ga K "Choices")) := ⟨_, fd41, (He.meth_ok (cD.fact 112 (f := .meth "Run" "stop") rfl)), F41.binds (fun _ _ _ _ _ _ us hl => match us, hl with | [_], _ => rfl), ok_stop F41 TN⟩
  have mLeave : MDef P w K mg base (He.ga K "Run") "leave_call" 1 ["self", "row"] (spLeave (He.ga K "Run") (He.ga K "Choices") (He.ga K "Row")) := ⟨_, fd42, (He.meth_ok (cD.fact 113 (f := .meth "Run" "leave_call") rfl)), F42.binds (fun _ _ _ _ _ _ us hl => match us, hl with | [_, _], _ => rfl), ok_leave F42 TN TR⟩
  have mLearn : MDef P w K mg base (He.ga K "Run") "learn" 2 ["self", "worth"] (spLearn (He.ga K "Run") (He.ga K "Choices")) := ⟨_, fd39, (He.meth_ok (cD.fact 110 (f := .meth "Run" "learn") rfl)), F39.binds (fun _ _ _ _ _ _ us hl => match us, hl with | [_, _], _ => rfl), ok_learn F39 TN (He.free_ok X G (cD.fact 71 (f := .free "sorted") rfl)) dCellAt⟩
  have mSame : MDef P w K mg base (He.ga K "Run") "finds_same" 2 ["self", "worth", "other"] (spSameW (He.ga K "Run") (He.ga K "Choices")) := ⟨_, fd40, (He.meth_ok (cD.fact 111 (f := .meth "Run" "finds_same") rfl)), F40.binds (fun _ _ _ _ _ _ us hl => match us, hl with | [_, _, _], _ => rfl), ok_findsSame F40 TN (He.free_ok X G (cD.fact 70 (f := .free "isinstance") rfl)) (He.free_ok X G (cD.fact 69 (f := .free "str") rfl)) dCellAt⟩
  have RD : RunDefs P w K mg base (He.ga K "Run") (He.ga K "Choices") (He.ga K "Row") := ⟨mTake, mWorth, mRead, mWrite, mStop, mLeave, mLearn, mSame, dCellAt⟩
  have dTrans : Def P w K mg base "_transfer" 3 ["run", "row", "source", "target"] (spTrans (He.ga K "Run") (He.ga K "Choices") (He.ga K "Row")) := ⟨_, fd7, (He.glo_ok X G (cD.fact 7 (f := .glo "_transfer") rfl)), F7.kp, F7.binds (fun _ _ _ _ _ _ us hl => match us, hl with | [_, _, _, _], _ => rfl), ok_transfer F7 TN TR RD⟩
  have aIn : FP.Act P w K mg base (He.ga K "Run") (He.ga K "Choices") (He.ga K "Row") (He.ga K "LINES") "input" inputM := ⟨_, fd8, kdL "input" "_do_input" rfl, F8.kp, F8.binds (fun _ _ _ _ _ _ us hl => match us, hl with | [_, _, _], _ => rfl), ok_doInput F8 TN TR RD⟩
  have aCp : FP.Act P w K mg base (He.ga K "Run") (He.ga K "Choices") (He.ga K "Row") (He.ga K "LINES") "copy" copyM := ⟨_, fd9, kdL "copy" "_do_copy" rfl, F9.kp, F9.binds (fun _ _ _ _ _ _ us hl => match us, hl with | [_, _, _], _ => rfl), ok_doCopy F9 TR dTrans⟩
  have aPt : FP.Act P w K mg base (He.ga K "Run") (He.ga K "Choices") (He.ga K "Row") (He.ga K "LINES") "point" pointM := ⟨_, fd10, kdL "point" "_do_point" rfl, F10.kp, F10.binds (fun _ _ _ _ _ _ us hl => match us, hl with | [_, _, _], _ => rfl), ok_doPoint F10 TN TR RD⟩
  have aLd : FP.Act P w K mg base (He.ga K "Run") (He.ga K "Choices") (He.ga K "Row") (He.ga K "LINES") "load" loadM := ⟨_, fd11, kdL "load" "_do_load" rfl, F11.kp, F11.binds (fun _ _ _ _ _ _ us hl => match us, hl with | [_, _, _], _ => rfl), ok_doLoad F11 TN TR RD dTrans⟩
  have aSt : FP.Act P w K mg base (He.ga K "Run") (He.ga K "Choices") (He.ga K "Row") (He.ga K "LINES") "store" storeM := ⟨_, fd12, kdL "store" "_do_store" rfl, F12.kp, F12.binds (fun _ _ _ _ _ _ us hl => match us, hl with | [_, _, _], _ => rfl), ok_doStore F12 TN TR RD dTrans⟩
  have aUse : FP.Act P w K mg base (He.ga K "Run") (He.ga K "Choices") (He.ga K "Row") (He.ga K "LINES") "use" useM := ⟨_, fd13, kdL "use" "_do_use" rfl, F13.kp, F13.binds (fun _ _ _ _ _ _ us hl => match us, hl with | [_, _, _], _ => rfl), ok_doUse F13 TN TR RD⟩
  have aCl : FP.Act P w K mg base (He.ga K "Run") (He.ga K "Choices") (He.ga K "Row") (He.ga K "LINES") "call" callM := ⟨_, fd14, kdL "call" "_do_call" rfl, F14.kp, F14.binds (fun _ _ _ _ _ _ us hl => match us, hl with | [_, _, _], _ => rfl), ok_doCall F14 TN TR RD⟩
  have aSm : FP.Act P w K mg base (He.ga K "Run") (He.ga K "Choices") (He.ga K "Row") (He.ga K "LINES") "same" sameLM := ⟨_, fd15, kdL "same" "_do_same" rfl, F15.kp, F15.binds (fun _ _ _ _ _ _ us hl => match us, hl with | [_, _, _], _ => rfl), ok_doSame F15 TN TR RD⟩
  have aLoop : FP.Act P w K mg base (He.ga K "Run") (He.ga K "Choices") (He.ga K "Row") (He.ga K "LINES") "loop" loopM := ⟨_, fd16, kdL "loop" "_do_loop" rfl, F16.kp, F16.binds (fun _ _ _ _ _ _ us hl => match us, hl with | [_, _, _], _ => rfl), ok_doLoop F16 TN TR RD⟩
  have aMaybe : FP.Act P w K mg base (He.ga K "Run") (He.ga K "Choices") (He.ga K "Row") (He.ga K "LINES") "maybe" maybeM := ⟨_, fd17, kdL "maybe" "_do_maybe" rfl, F17.kp, F17.binds (fun _ _ _ _ _ _ us hl => match us, hl with | [_, _, _], _ => rfl), ok_doMaybe F17 TN TR RD⟩
  have dActW : Def P w K mg base "_act_write" 2 ["run", "row", "choices", "cell", "deed"] (spActW (He.ga K "Run") (He.ga K "Choices") (He.ga K "Row")) := ⟨_, fd19, (He.glo_ok X G (cD.fact 19 (f := .glo "_act_write") rfl)), F19.kp, F19.binds (fun _ _ _ _ _ _ us hl => match us, hl with | [_, _, _, _, _], _ => rfl), ok_actWrite F19 TN B2 RD⟩
  have dAct : Def P w K mg base "_act" 4 ["run", "row", "choices"] (spDo (He.ga K "Run") (He.ga K "Choices") (He.ga K "Row") actM) := ⟨_, fd18, (He.glo_ok X G (cD.fact 18 (f := .glo "_act") rfl)), F18.kp, F18.binds (fun _ _ _ _ _ _ us hl => match us, hl with | [_, _, _], _ => rfl), ok_act F18 TN B2 RD dActW⟩
  have AS : Acts P w K mg base (He.ga K "Run") (He.ga K "Choices") (He.ga K "Row") (He.ga K "LINES") := ⟨aIn, aCp, aPt, aLd, aSt, aUse, aCl, aSm, aLoop, aMaybe, dAct⟩
  have dAdv : Def P w K mg base "advance" 5 ["run", "rows", "choices"] (spAdv (He.ga K "Run") (He.ga K "Choices") (He.ga K "Row")) := ⟨_, fd20, (He.glo_ok X G (cD.fact 20 (f := .glo "advance") rfl)), F20.kp, F20.binds (fun _ _ _ _ _ _ us hl => match us, hl with | [_, _, _], _ => rfl), ok_advance F20 TN TR (He.glo_ok X G (cD.fact 59 (f := .glo "LINES") rfl)) AS⟩
  obtain ⟨gSt, mvS, kbS⟩ := ok_steps (P := P) (w := w) (base := base) (lv := .ref (layA "steps" K)) (Cp := He.ga K "Program") (Cr := He.ga K "Row") (Cs := He.ga K "Sheet") G45 TP T TN B2 dCheck dPlaces cRunI cChI dAdv
  obtain ⟨okR, dsR, vR, bR⟩ := ok_runP (P := P) (w := w) (base := base) (lv := .ref (layA "run" K)) (Cp := He.ga K "Program") (Cr := He.ga K "Row") (Cs := He.ga K "Sheet") G44 TP B2 (He.meth_ok (cD.fact 115 (f := .meth "Program" "steps") rfl)) gSt kbS
  have DR : RunDef P w K mg base (He.ga K "Program") (He.ga K "Row") (He.ga K "Sheet") (layA "run" K) := ⟨⟨_, fd44, dsR, (He.meth_ok (cD.fact 114 (f := .meth "Program" "run") rfl)), vR, bR, okR⟩, tup eY⟩
  have dPen : Def P w K mg base "_law_begun_pen" 1 ["_law_script"] (spPen K) := ⟨_, fd47, (He.glo_ok X G (cD.fact 21 (f := .glo "_law_begun_pen") rfl)), F47.kp, F47.binds (fun _ _ _ _ _ _ us hl => match us, hl with | [_], _ => rfl), ok_pen F47 B⟩
  have dDraw : Def P w K mg base "_law_draw" 1 ["_law_pen", "_law_span"] (spDraw) := ⟨_, fd48, (He.glo_ok X G (cD.fact 22 (f := .glo "_law_draw") rfl)), F48.kp, F48.binds (fun _ _ _ _ _ _ us hl => match us, hl with | [_, _], _ => rfl), ok_draw F48 B⟩
  have dPick : Def P w K mg base "_law_pick" 2 ["_law_pen", "_law_options"] (spPick) := ⟨_, fd49, (He.glo_ok X G (cD.fact 23 (f := .glo "_law_pick") rfl)), F49.kp, F49.binds (fun _ _ _ _ _ _ us hl => match us, hl with | [_, _], _ => rfl), ok_pick F49 B dDraw⟩
  have dShuf : Def P w K mg base "_law_shuffled" 2 ["_law_pen", "_law_items"] (spShuf) := ⟨_, fd50, (He.glo_ok X G (cD.fact 24 (f := .glo "_law_shuffled") rfl)), F50.kp, F50.binds (fun _ _ _ _ _ _ us hl => match us, hl with | [_, _], _ => rfl), ok_shuf F50 B dDraw⟩
  have dNames : Def P w K mg base "_law_new_names" 3 ["_law_pen", "_law_many"] (spNames) := ⟨_, fd51, (He.glo_ok X G (cD.fact 25 (f := .glo "_law_new_names") rfl)), F51.kp, F51.binds (fun _ _ _ _ _ _ us hl => match us, hl with | [_, _], _ => rfl), ok_names F51 dShuf⟩
  have bdBL : L2.Binds K fd52 ["_law_block"] [] := F52.binds (fun _ _ _ _ _ _ us hl => match us, hl with | [_], _ => rfl)
  have dBL : ∀ d, Def P w K mg base "_law_block_lines" (d) ["_law_block"] (spBL d) := fun d => ⟨_, fd52, (He.glo_ok X G (cD.fact 26 (f := .glo "_law_block_lines") rfl)), F52.kp, bdBL, ok_bl F52 ⟨(He.free_ok X G (cD.fact 60 (f := .free "len") rfl)), (He.free_ok X G (cD.fact 64 (f := .free "list") rfl)), (He.free_ok X G (cD.fact 70 (f := .free "isinstance") rfl)), (He.free_ok X G (cD.fact 72 (f := .free "dict") rfl)), (He.free_ok X G (cD.fact 69 (f := .free "str") rfl))⟩ (He.glo_ok X G (cD.fact 26 (f := .glo "_law_block_lines") rfl)) F52.kp bdBL d⟩
  have dBS : ∀ d, Def P w K mg base "_law_block_size" (d + 1) ["_law_block"] (spBS d) := fun d => ⟨_, fd53, (He.glo_ok X G (cD.fact 27 (f := .glo "_law_block_size") rfl)), F53.kp, F53.binds (fun _ _ _ _ _ _ us hl => match us, hl with | [_], _ => rfl), ok_bs F53 ⟨(He.free_ok X G (cD.fact 60 (f := .free "len") rfl)), (He.free_ok X G (cD.fact 64 (f := .free "list") rfl)), (He.free_ok X G (cD.fact 70 (f := .free "isinstance") rfl)), (He.free_ok X G (cD.fact 72 (f := .free "dict") rfl)), (He.free_ok X G (cD.fact 69 (f := .free "str") rfl))⟩ (dBL d)⟩
  have dOS : ∀ d, Def P w K mg base "_law_order_size" (d + 2) ["_law_order"] (spOS d) := fun d => ⟨_, fd54, (He.glo_ok X G (cD.fact 28 (f := .glo "_law_order_size") rfl)), F54.kp, F54.binds (fun _ _ _ _ _ _ us hl => match us, hl with | [_], _ => rfl), ok_os F54 (dBS d)⟩
  have bdCO : L2.Binds K fd57 ["_law_block"] [] := F57.binds (fun _ _ _ _ _ _ us hl => match us, hl with | [_], _ => rfl)
  have dCO : ∀ d, Def P w K mg base "_law_cells_of" (d) ["_law_block"] (spCO d) := fun d => ⟨_, fd57, (He.glo_ok X G (cD.fact 31 (f := .glo "_law_cells_of") rfl)), F57.kp, bdCO, ok_co F57 ⟨(He.free_ok X G (cD.fact 60 (f := .free "len") rfl)), (He.free_ok X G (cD.fact 64 (f := .free "list") rfl)), (He.free_ok X G (cD.fact 70 (f := .free "isinstance") rfl)), (He.free_ok X G (cD.fact 72 (f := .free "dict") rfl)), (He.free_ok X G (cD.fact 69 (f := .free "str") rfl))⟩ (He.glo_ok X G (cD.fact 31 (f := .glo "_law_cells_of") rfl)) F57.kp bdCO d⟩
  have dNO : Def P w K mg base "_law_new_order" 3 ["_law_pen", "_law_names", "_law_pointed", "_law_left"] (spNO) := ⟨_, fd59, (He.glo_ok X G (cD.fact 33 (f := .glo "_law_new_order") rfl)), F59.kp, F59.binds (fun _ _ _ _ _ _ us hl => match us, hl with | [_, _, _, _], _ => rfl), ok_no F59 dDraw dPick⟩
  have bdWB : L2.Binds K fd60 ["_law_pen", "_law_names", "_law_spare", "_law_pointed", "_law_size", "_law_deep", "_law_left"] [] := F60.binds (fun _ _ _ _ _ _ us hl => match us, hl with | [_, _, _, _, _, _, _], _ => rfl)
  have dWB : ∀ d, Def P w K mg base "_law_wide_block" (d + 3) ["_law_pen", "_law_names", "_law_spare", "_law_pointed", "_law_size", "_law_deep", "_law_left"] (spWB d) := fun d => ⟨_, fd60, (He.glo_ok X G (cD.fact 34 (f := .glo "_law_wide_block") rfl)), F60.kp, bdWB, ok_wb F60 ⟨(He.free_ok X G (cD.fact 73 (f := .free "min") rfl)), (He.free_ok X G (cD.fact 68 (f := .free "range") rfl)), (He.free_ok X G (cD.fact 60 (f := .free "len") rfl))⟩ dDraw dPick dNO (He.glo_ok X G (cD.fact 34 (f := .glo "_law_wide_block") rfl)) F60.kp bdWB d⟩
  have dNP : Def P w K mg base "_law_new_program" 7 ["_law_pen", "_law_many", "_law_size", "_law_loops", "_law_calls"] (spNP) := ⟨_, fd61, (He.glo_ok X G (cD.fact 35 (f := .glo "_law_new_program") rfl)), F61.kp, F61.binds (fun _ _ _ _ _ _ us hl => match us, hl with | [_, _, _, _, _], _ => rfl), ok_np F61 ⟨(He.free_ok X G (cD.fact 73 (f := .free "min") rfl)), (He.free_ok X G (cD.fact 68 (f := .free "range") rfl)), (He.free_ok X G (cD.fact 60 (f := .free "len") rfl))⟩ dDraw dNames (dWB 3) (dBS 3)⟩
  have LG : LaidG P w K mg base 3 _ _ fd55 fd56 := ⟨F55, F56, (He.glo_ok X G (cD.fact 29 (f := .glo "_law_laid") rfl)), F55.kp, F55.binds (fun _ _ _ _ _ _ us hl => match us, hl with | [_, _, _, _], _ => rfl), (He.glo_ok X G (cD.fact 30 (f := .glo "_law_laid_all") rfl)), F56.kp, F56.binds (fun _ _ _ _ _ _ us hl => match us, hl with | [_, _, _, _], _ => rfl), dBS 3, dOS 3⟩
  have dLA : Def P w K mg base "_law_laid_all" 12 pLA (spLaidA 3) := ⟨_, fd56, LG.gA, LG.kA, LG.bA, ok_laid LG ⟨(He.free_ok X G (cD.fact 60 (f := .free "len") rfl)), (He.free_ok X G (cD.fact 64 (f := .free "list") rfl)), (He.free_ok X G (cD.fact 70 (f := .free "isinstance") rfl)), (He.free_ok X G (cD.fact 72 (f := .free "dict") rfl)), (He.free_ok X G (cD.fact 69 (f := .free "str") rfl))⟩ (He.free_ok X G (cD.fact 68 (f := .free "range") rfl)) (He.free_ok X G (cD.fact 66 (f := .free "int") rfl)) 3 (Nat.le_refl 3)⟩
  have dPl : Def P w K mg base "_law_plain" 13 ["_law_block"] (spPlain 3) := ⟨_, fd58, (He.glo_ok X G (cD.fact 32 (f := .glo "_law_plain") rfl)), F58.kp, F58.binds (fun _ _ _ _ _ _ us hl => match us, hl with | [_], _ => rfl), ok_plain (D := 3) F58 dLA (dBL 3) (dCO 3)⟩
  have dNC : Def P w K mg base "_law_new_choices" 3 ["_law_pen", "_law_many"] (spNC) := ⟨_, fd62, (He.glo_ok X G (cD.fact 36 (f := .glo "_law_new_choices") rfl)), F62.kp, F62.binds (fun _ _ _ _ _ _ us hl => match us, hl with | [_, _], _ => rfl), ok_nc F62 dDraw dPick (He.free_ok X G (cD.fact 68 (f := .free "range") rfl))⟩
  have dHo : Def P w K mg base "_law_holds" 1 ["_law_own", "_law_seen", "_law_lot"] (spHolds K) := ⟨_, fd63, (He.glo_ok X G (cD.fact 37 (f := .glo "_law_holds") rfl)), F63.kp, F63.binds (fun _ _ _ _ _ _ us hl => match us, hl with | [_, _, _], _ => rfl), ok_holds F63 ⟨(He.free_ok X G (cD.fact 60 (f := .free "len") rfl)), (He.free_ok X G (cD.fact 64 (f := .free "list") rfl)), (He.free_ok X G (cD.fact 70 (f := .free "isinstance") rfl)), (He.free_ok X G (cD.fact 72 (f := .free "dict") rfl)), (He.free_ok X G (cD.fact 69 (f := .free "str") rfl))⟩ (He.free_ok X G (cD.fact 68 (f := .free "range") rfl)) (He.free_ok X G (cD.fact 74 (f := .free "max") rfl))⟩
  obtain ⟨mvR, kbR⟩ := runK G44
  have DRK : RunDefK P w K mg base (He.ga K "Program") (He.ga K "Row") (He.ga K "Sheet") (layA "run" K) := ⟨⟨_, fd44, dsR, (He.meth_ok (cD.fact 114 (f := .meth "Program" "run") rfl)), vR, bR, kbR, okR⟩, tup eY⟩
  exact law_of F64 fun lk hcd => ok_law9 lk hcd (He.free_ok X G (cD.fact 68 (f := .free "range") rfl)) (He.free_ok X G (cD.fact 60 (f := .free "len") rfl)) (He.free_ok X G (cD.fact 73 (f := .free "min") rfl)) TP ⟨dPen, dDraw, dShuf, dNP, dPl, dNC, dHo, cProgI, DRK⟩
end FP
set_option Elab.async false

open PySem PySem.W PyProof.Rows in
set_option maxRecDepth 100000 in
set_option maxHeartbeats 0 in
theorem PySem.Challenge.cw_frameplaces_k09_whole_last_written_holds : PySem.Challenge.rw_frameplaces_k09_whole_last_written.Holds := by
  w_on; o_law; k_head; (case hw => w_witness2)
  k_fill
  refine FP.walk_law (l := PySem.Challenge.rw_frameplaces_k09_whole_last_written) (n := 63) (k := 15) (sp := fun K => FP.spLaw K) (x := "_law_script") rfl (by decide) rfl ⟨rfl, by decide, by decide⟩ (fun w h Y => PySem.W.kIn_of Y) ?F ?S
  case F =>
    intro w mg fa h KX G hmg
    exact FP.facts5 KX G hmg (by kernel_rfl) (by kernel_rfl)
  case S =>
    intro K H a ns hl hS
    exact ⟨a, ns, rfl, hS, hl, fun _ => rfl⟩
