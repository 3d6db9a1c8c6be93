import PyProof.Rows.All
import Wide.All
import OpenK.AllK
import Wide.FinOn
import HandS.ForMost
import HandS.Wide
import HandS.Style
import HandS.Flow
import HandS.Text
import HandS.SortKw
import HandS.Zip
import HandS.Walk
import KE.GoesMore
import KE.GoesEnumKw
import PyProof.Rows.CallKw2
import HandS.More
import HandS.GenList
import HandS.GenYield
import HandS.Defaults
import HandS.CallLocal
import HandS.DictComp
import HandS.Conv
import PyProof.TupleOfGen
import HandS.MakeKwOnly
import PyProof.P3Eq
import HandS.HeadHook2
import HandS.Head2
import HandS.HeadEnd
import PySem.Challenge.RW_frameplaces_k05_loops
set_option linter.all false
namespace FP
open PySem L2
abbrev PP : Program := PySem.Challenge.pw_frameplaces_k05_loops
def top (i : Nat) : Stmt := PySem.Challenge.pw_frameplaces_k05_loops.main.body.getD i (.Pass ⟨0, 0, 0, 0⟩)
abbrev sPen : Stmt := top 47
abbrev sDraw : Stmt := top 48
abbrev sPick : Stmt := top 49
abbrev sShuf : Stmt := top 50
abbrev sNames : Stmt := top 51
abbrev sIsName : Stmt := top 19
abbrev sLines : Stmt := top 20
abbrev sFits : Stmt := top 21
abbrev sRead : Stmt := top 24
abbrev sCheck : Stmt := top 7
abbrev sPlaces : Stmt := top 8
abbrev sCellAt : Stmt := top 26
abbrev sTransfer : Stmt := top 29
abbrev sDoInput : Stmt := top 30
abbrev sDoCopy : Stmt := top 31
abbrev sDoPoint : Stmt := top 32
abbrev sDoLoad : Stmt := top 33
abbrev sDoStore : Stmt := top 34
abbrev sDoUse : Stmt := top 35
abbrev sDoCall : Stmt := top 36
abbrev sDoSame : Stmt := top 37
abbrev sDoLoop : Stmt := top 38
abbrev sDoMaybe : Stmt := top 39
abbrev sAct : Stmt := top 41
abbrev sActWrite : Stmt := top 42
abbrev sAdvance : Stmt := top 43
abbrev sLaw : Stmt := top 56
abbrev cRow : Stmt := top 22
abbrev cSheet : Stmt := top 23
abbrev cChoices : Stmt := top 27
abbrev cRun : Stmt := top 28
abbrev cProgram : Stmt := top 45
abbrev sOtherNumber : Stmt := top 52
abbrev sRoundsRight : Stmt := top 53
abbrev sSidesRight : Stmt := top 54
abbrev sEmptyRight : Stmt := top 55
abbrev mRow_init : Stmt := inClass cRow 0
abbrev mSheet_init : Stmt := inClass cSheet 0
abbrev mSheet_is_closed : Stmt := inClass cSheet 1
abbrev mSheet_blocks_around : Stmt := inClass cSheet 2
abbrev mSheet_take_line : Stmt := inClass cSheet 3
abbrev mSheet_find_ways : Stmt := inClass cSheet 4
abbrev mSheet_landing : Stmt := inClass cSheet 5
abbrev mSheet_declare : Stmt := inClass cSheet 6
abbrev mSheet_take_row : Stmt := inClass cSheet 7
abbrev mSheet_is_seen : Stmt := inClass cSheet 8
abbrev mSheet_open_block : Stmt := inClass cSheet 9
abbrev mSheet_turn : Stmt := inClass cSheet 10
abbrev mSheet_close_block : Stmt := inClass cSheet 11
abbrev mChoices_init : Stmt := inClass cChoices 0
abbrev mChoices_take : Stmt := inClass cChoices 1
abbrev mRun_init : Stmt := inClass cRun 0
abbrev mRun_branch : Stmt := inClass cRun 1
abbrev mRun_worth : Stmt := inClass cRun 2
abbrev mRun_read : Stmt := inClass cRun 3
abbrev mRun_write : Stmt := inClass cRun 4
abbrev mRun_learn : Stmt := inClass cRun 5
abbrev mRun_finds_same : Stmt := inClass cRun 6
abbrev mRun_stop : Stmt := inClass cRun 7
abbrev mRun_leave_call : Stmt := inClass cRun 8
abbrev mProgram_init : Stmt := inClass cProgram 0
abbrev mProgram_eq : Stmt := inClass cProgram 1
abbrev mProgram_run : Stmt := inClass cProgram 2
abbrev mProgram_steps : Stmt := inClass cProgram 3
abbrev mProgram_opened_at : Stmt := inClass cProgram 4
abbrev mProgram_moved : Stmt := inClass cProgram 5
abbrev mProgram_hold : Stmt := inClass cProgram 6
abbrev mProgram_check_cell : Stmt := inClass cProgram 7
end FP
set_option Elab.async false
set_option linter.all false
set_option maxRecDepth 100000
set_option maxHeartbeats 4000000
/-! The source of all draws: what a draw, a pick, a shuffle promise. -/
namespace FP
open PySem PySem.Spec PyProof.Rows L2
/-- the pen's dict -/
def penD (a : Addr) (t l : Int) : List (Key × V) := [(.inr "cells", .ref a), (.inr "turn", .int t), (.inr "left", .int l)]
theorem pen_cells (a : Addr) (t l : Int) : valV (penD a t l) (.inr "cells") = some (.ref a) := rfl
theorem pen_turn (a : Addr) (t l : Int) : valV (penD a t l) (.inr "turn") = some (.int t) := rfl
theorem pen_left (a : Addr) (t l : Int) : valV (penD a t l) (.inr "left") = some (.int l) := rfl
theorem put_turn (a : Addr) (t l t' : Int) : putK (penD a t l) (.inr "turn") (.int t') = penD a t' l := rfl
theorem put_left (a : Addr) (t l l' : Int) : putK (penD a t l) (.inr "left") (.int l') = penD a t l' := rfl
theorem pen_len (a : Addr) (t l : Int) : (penD a t l).length < sizeLine := by
  rw [sizeLine_eq]
  exact (by decide : 3 < 16777216)
/-- all but p stands -/
def But (p : Addr) (H H' : Hp) : Prop := ∀ b o, b ≠ p → H b = some o → H' b = some o
theorem But.refl (p : Addr) (H : Hp) : But p H H := fun _ _ _ e => e
theorem But.trans {p : Addr} {H H1 H2 : Hp} (a : But p H H1) (b : But p H1 H2) : But p H H2 := fun c o n e => b c o n (a c o n e)
theorem But.put {p : Addr} {H H' : Hp} {o : HO} (a : But p H H') : But p H (upd H' p o) := fun c u n e => by
  rw [upd_ne n]
  exact a c u n e
theorem But.new {p x : Addr} {H H' : Hp} {o : HO} (a : But p H H') (hx : H' x = none) : But p H (upd H' x o) := fun c u n e => by
  rw [upd_ne (ne_of_none (a c u n e) hx)]
  exact a c u n e
/-- a pen at p, over the cells at a, in its state t, l -/
structure PenAt (H : Hp) (p a : Addr) (ns : List Int) (t l : Int) : Prop where
  p : H p = some (.dK (penD a t l))
  a : H a = some (.lst (ns.map V.int))
  n : ns.length ≤ 63
  t0 : 0 ≤ t
  l0 : 0 ≤ l
theorem PenAt.ne {H : Hp} {p a : Addr} {ns : List Int} {t l : Int} (h : PenAt H p a ns t l) : a ≠ p := ne_of h.a h.p (by intro z; cases z)
theorem PenAt.new {H : Hp} {p a x : Addr} {ns : List Int} {t l : Int} {o : HO} (h : PenAt H p a ns t l) (hx : H x = none) : PenAt (upd H x o) p a ns t l :=
  ⟨(upd_ne (ne_of_none h.p hx)).trans h.p, (upd_ne (ne_of_none h.a hx)).trans h.a, h.n, h.t0, h.l0⟩
theorem PenAt.put {H : Hp} {p a : Addr} {ns : List Int} {t l t' l' : Int} (h : PenAt H p a ns t l) (h1 : 0 ≤ t') (h2 : 0 ≤ l') : PenAt (upd H p (.dK (penD a t' l'))) p a ns t' l' :=
  ⟨upd_same, (upd_ne h.ne).trans h.a, h.n, h1, h2⟩
/-- a draw by a positive span: some number below it -/
def spDraw : Sp := fun vs H Q _ => ∃ (p a : Addr) (ns : List Int) (t l m : Int), vs = [.ref p, .int m] ∧ PenAt H p a ns t l ∧ t ≤ 1000000 ∧ 0 < m ∧ m.natAbs < 2 ^ 1000 ∧
  ∀ (r t' l' : Int) (H' : Hp), 0 ≤ r → r < m → t ≤ t' → t' ≤ t + 1 → But p H H' → PenAt H' p a ns t' l' → Q (.int r) H'
structure Blt (mg : Str → Option Value) : Prop where
  int : mg "int" = none
  len : mg "len" = none
  abs : mg "abs" = none
  list : mg "list" = none
theorem ints_dp (K : W.Frag) (H : Hp) : ∀ ns : List Int, DpAll K H (ns.map V.int) (ns.map PyData.int)
  | [] => .nil
  | n :: r => .cons (.int n) (ints_dp K H r)
theorem ints_shaped (ns : List Int) : SeqAt.shaped (.list (ns.map PyData.int)) = true := W.shaped_ints ns
theorem PenAt.left {H : Hp} {p a : Addr} {ns : List Int} {t l : Int} (h : PenAt H p a ns t l) : DGet H p (.str "left") (some (.int l)) := DGet.k (k := .inr "left") h.p
theorem PenAt.turn {H : Hp} {p a : Addr} {ns : List Int} {t l : Int} (h : PenAt H p a ns t l) : DGet H p (.str "turn") (some (.int t)) := DGet.k (k := .inr "turn") h.p
theorem PenAt.cells {H : Hp} {p a : Addr} {ns : List Int} {t l : Int} (h : PenAt H p a ns t l) : DGet H p (.str "cells") (some (.ref a)) := DGet.k (k := .inr "cells") h.p
theorem PenAt.putL {H : Hp} {p a : Addr} {ns : List Int} {t l : Int} (h : PenAt H p a ns t l) (l' : Int) : DPut H p (.str "left") (.int l') (upd H p (.dK (penD a t l'))) := DPut.k (k := .inr "left") h.p (pen_len a t l)
theorem PenAt.putT {H : Hp} {p a : Addr} {ns : List Int} {t l : Int} (h : PenAt H p a ns t l) (t' : Int) : DPut H p (.str "turn") (.int t') (upd H p (.dK (penD a t' l))) := DPut.k (k := .inr "turn") h.p (pen_len a t l)
section
variable {P : Program} {w : World} {K : W.Frag} {mg : Str → Option Value} {base : Heap}
theorem scD : FnScope ["_law_pen", "_law_span", "_law_digit", "_law_turn", "_law_cell", "_law_mixed"] ["_law_pen", "_law_span"] (defScope sDraw) := ⟨rfl, rfl, rfl, by decide +kernel, rfl, by decide +kernel, by decide +kernel⟩
theorem ok_draw {f : Addr} {fd : FuncData} (F : Fun K "_law_draw" "_law_draw" sDraw f fd) (B : Blt mg) : FnOk P w K mg base CX0 1 f fd ["_law_pen", "_law_span"] spDraw := by
  refine F.ok scD (fun vs H Q E h => ?_) (fun cdv A outer s H vs Q E hr h => ?_)
  · obtain ⟨p, a, ns, t, l, m, rfl, _⟩ := h
    rfl
  obtain ⟨p, a, ns, t, l, m, rfl, PA0, ht, hm, hmb, k⟩ := h
  have hu := hu_of hr
  refine ⟨_, pss_cons (ps_if (pt_cmpR op_gt (pe_dget hu (pv 0) pe_str (fun _ _ => rfl)) pe_int (nomark _))
      (pss_cons (ps_set (i := 2) scD.nd rfl (.inl rfl) (pe_op op_mod (pe_callTy call_int1 (by rfl) B.int (by decide +kernel) (pa_cons (pe_dget hu (pv 0) pe_str (fun _ _ => rfl)) pa_nil)) (pv 1)))
        (pss_cons (ps_dput hu (pv 0) pe_str (pe_op op_fdivW (pe_dget hu (pv 0) pe_str (fun _ _ => rfl)) (pv 1)) rfl) (pss_one (ps_ret (pv 2))))) pss_nil)
    (pss_cons (ps_set (i := 3) scD.nd rfl (.inl rfl) (pe_dget hu (pv 0) pe_str (fun _ _ => rfl)))
    (pss_cons (ps_dput hu (pv 0) pe_str (pe_op op_add (pv 3) pe_int) rfl)
    (pss_cons (ps_set (i := 4) scD.nd rfl (.inl rfl) (pe_op op_add (pe_op op_mul pe_int (pv 3)) pe_int))
    (pss_cons (ps_if (pt_cmpR (op_neD hr.units) (pe_dget hu (pv 0) pe_str (fun _ _ => rfl)) (pe_lst pa_nil) (nomark _))
      (pss_one (ps_set (i := 4) scD.nd rfl (.inl rfl) (pe_ix ix_list (pe_dget hu (pv 0) pe_str (fun _ _ => rfl))
        (pe_op op_mod (pe_callTy call_int1 (by rfl) B.int (by decide +kernel) (pa_cons (pv 3) pa_nil)) (pe_callB call_len_seq (by rfl) B.len boot_len (pa_cons (pe_dget hu (pv 0) pe_str (fun _ _ => rfl)) pa_nil))) (fun _ _ => rfl)))) pss_nil)
    (pss_cons (ps_if (PW.pt (pw_and (pt_cmpR op_lt (pv 3) (pe_callB call_len_seq (by rfl) B.len boot_len (pa_cons (pe_dget hu (pv 0) pe_str (fun _ _ => rfl)) pa_nil)) (nomark _))
        (pw_and1 (pt_cmpR op_ge (pe_callB call_abs (by rfl) B.abs (by decide +kernel) (pa_cons (pv 4) pa_nil)) (pe_op op_pow pe_int pe_int) (nomark _)))))
      (pss_cons (ps_dput hu (pv 0) pe_str (pe_op op_fdivW (pe_op op_sub (pe_callB call_abs (by rfl) B.abs (by decide +kernel) (pa_cons (pv 4) pa_nil)) (pe_op op_pow pe_int pe_int)) (pv 1)) rfl)
        (pss_one (ps_ret (pe_op op_mod (pe_callTy call_int1 (by rfl) B.int (by decide +kernel) (pa_cons (pe_op op_sub (pe_callB call_abs (by rfl) B.abs (by decide +kernel) (pa_cons (pv 4) pa_nil)) (pe_op op_pow pe_int pe_int)) pa_nil)) (pv 1))))) pss_nil)
    (pss_cons (ps_set (i := 5) scD.nd rfl (.inl rfl) (pe_op op_mul (pe_op op_mod (pe_callTy call_int1 (by rfl) B.int (by decide +kernel) (pa_cons (pv 4) pa_nil)) pe_int) pe_int))
    (pss_cons (ps_set (i := 5) scD.nd rfl (.inl rfl) (pe_op op_mod (pe_callTy call_int1 (by rfl) B.int (by decide +kernel) (pa_cons (pe_op op_add (pe_op op_add (pv 5) (pe_op op_mul (pv 3) (pe_op op_add (pe_op op_mul (pv 3) pe_int) pe_int))) pe_int) pa_nil)) pe_int))
    (pss_cons (ps_set (i := 5) scD.nd rfl (.inl rfl) (pe_op op_mod (pe_callTy call_int1 (by rfl) B.int (by decide +kernel) (pa_cons (pe_op op_mul (pv 5) (pe_op op_add (pv 5) pe_int)) pa_nil)) pe_int))
    (pss_cons (ps_set (i := 5) scD.nd rfl (.inl rfl) (pe_op op_mod (pe_callTy call_int1 (by rfl) B.int (by decide +kernel) (pa_cons (pe_op op_add (pe_op op_add (pe_op op_mul (pv 5) (pv 5)) (pe_op op_mul pe_int (pv 5))) (pe_op op_mul pe_int (pv 3))) pa_nil)) pe_int))
    (pss_one (ps_ret (pe_op op_mod (pe_callTy call_int1 (by rfl) B.int (by decide +kernel) (pa_cons (pe_op op_fdiv (pe_op op_mod (pe_callTy call_int1 (by rfl) B.int (by decide +kernel) (pa_cons (pe_op op_mul (pv 5) (pe_op op_add (pv 5) pe_int)) pa_nil)) pe_int) pe_int) pa_nil)) (pv 1))))))))))))), ?_⟩
  -- the pen's number at hand
  refine ⟨_, rfl, p, _, rfl, PA0.left, _, _, rfl, rfl, _, rfl, ite2 (fun c => ?_) fun c => ?_⟩
  · refine ⟨_, rfl, p, _, rfl, PA0.left, .inl ⟨_, rfl, _, rfl, _, _, rfl, rfl, hm, ?_⟩⟩
    refine ⟨_, rfl, p, _, rfl, PA0.left, _, rfl, _, _, rfl, rfl, wide_div hm hmb (by decide) (by decide), _, rfl, p, _, rfl, PA0.putL _, _, rfl, ?_⟩
    exact k _ t _ _ (Int.emod_nonneg _ (by omega)) (Int.emod_lt_of_pos _ hm) (Int.le_refl _) (by omega) (But.refl p H).put (PA0.put PA0.t0 (Int.ediv_nonneg PA0.l0 (by omega)))
  have t0 := PA0.t0
  have B1 : But p H (upd H p (.dK (penD a (t + 1) l))) := (But.refl p H).put
  have PA1 : PenAt (upd H p (.dK (penD a (t + 1) l))) p a ns (t + 1) l := PA0.put (by omega) PA0.l0
  -- _law_turn, the turn told on, _law_cell
  refine ⟨_, rfl, p, _, rfl, PA0.turn, _, rfl, _, _, rfl, rfl, _, rfl, p, _, rfl, PA0.putT _, _, rfl, _, _, rfl, rfl, .inl ⟨by decide, by decide⟩, _, _, rfl, rfl, ?_⟩
  -- the bounds that products ask
  have bm : ∀ x M : Int, 0 < M → M < 18446744073709551616 → -(2 ^ 64) < x % M ∧ x % M < 2 ^ 64 := fun x M h1 h2 => by
    have := Int.emod_nonneg x (show M ≠ 0 by omega)
    have := Int.emod_lt_of_pos x h1
    omega
  have bt : -(2 ^ 64) < t ∧ t < 2 ^ 64 := by omega
  refine ⟨_, rfl, p, _, rfl, PA1.cells, Nat.zero_le _, fun q hq => ⟨_, _, .lst (SqL.of (PA1.new hq).a) (ints_dp _ _ ns), .lst (SqL.of upd_same) .nil, ints_shaped ns, rfl, _, rfl, ?_⟩⟩
  have B2 : But p H (upd (upd H p (.dK (penD a (t + 1) l))) q (.lst [])) := B1.new hq
  have PA2 := PA1.new (o := .lst []) hq
  have hlen : (ns.map V.int).length = ns.length := List.length_map ..
  refine ite2 (fun c0 => ?_) (fun c0 => ?_)
  all_goals try
    have hns : 0 < ns.length := by
      cases ns with
      | nil => exact absurd c0 (by decide)
      | cons n r => exact Nat.succ_pos _
    have hnl : (0 : Int) < (((ns.map V.int).length : Nat) : Int) := by rw [hlen]; omega
    have i0 := Int.emod_nonneg t (show (((ns.map V.int).length : Nat) : Int) ≠ 0 by omega)
    have i1 := Int.emod_lt_of_pos t hnl
    obtain ⟨j, hj⟩ : ∃ j : Nat, t % (((ns.map V.int).length : Nat) : Int) = (j : Int) := ⟨_, (Int.toNat_of_nonneg i0).symm⟩
    have hj1 : j < ns.length := by rw [hj, hlen] at i1; omega
    have it : (ns.map V.int)[j]? = some (V.int (ns[j])) := by rw [List.getElem?_map, List.getElem?_eq_getElem hj1]; rfl
    refine ⟨_, rfl, p, _, rfl, PA2.cells, _, rfl, .inl ⟨_, rfl, _, rfl, p, _, rfl, PA2.cells, a, _, rfl, .inl (SqL.of PA2.a), _, _, rfl, rfl, hnl, a, _, _, _, rfl, rfl, SqL.of PA2.a, by rw [hj]; exact atI_nat it, ?_⟩⟩
  all_goals
    -- a great number of the script fills the pen anew
    refine ⟨_, rfl, _, rfl, p, _, rfl, PA2.cells, a, _, rfl, .inl (SqL.of PA2.a), _, _, rfl, rfl, _, rfl, ite2 (fun c1 => ?_) fun c1 => ?_⟩
    all_goals try
      refine ⟨_, rfl, _, rfl, _, _, rfl, rfl, ⟨by decide, by decide, by decide⟩, _, _, rfl, rfl, _, rfl, ite2 (fun c2 => ?_) fun c2 => ?_⟩
      all_goals try
        refine ⟨_, rfl, _, rfl, _, _, rfl, rfl, ⟨by decide, by decide, by decide⟩, _, _, rfl, rfl, _, rfl, _, _, rfl, rfl, wide_div hm hmb (by decide) (by decide), _, rfl, p, _, rfl, PA2.putL _, ?_⟩
        refine ⟨_, rfl, _, rfl, _, _, rfl, rfl, ⟨by decide, by decide, by decide⟩, _, _, rfl, rfl, .inl ⟨_, rfl, _, rfl, _, _, rfl, rfl, hm, ?_⟩⟩
        exact k _ (t + 1) _ _ (Int.emod_nonneg _ (by omega)) (Int.emod_lt_of_pos _ hm) (by omega) (Int.le_refl _) B2.put (PA2.put (by omega) (Int.ediv_nonneg (Int.sub_nonneg_of_le (of_decide_eq_true c2)) (by omega)))
    all_goals
      try refine iteF ?_
      -- mixed from the cell
      refine ⟨_, rfl, .inl ⟨_, rfl, _, _, rfl, rfl, (by show (0 : Int) < 4294967087; decide), _, _, rfl, rfl, .inr ⟨by decide, by decide⟩, ?_⟩⟩
      refine ⟨_, rfl, _, rfl, _, rfl, _, _, rfl, rfl, .inr ⟨by decide, by decide⟩, _, _, rfl, rfl, _, _, rfl, rfl, .inl bt, _, _, rfl, rfl, _, _, rfl, rfl, .inl ⟨_, rfl, _, _, rfl, rfl, (by show (0 : Int) < 4294967029; decide), ?_⟩⟩
      refine ⟨_, rfl, _, rfl, _, _, rfl, rfl, _, _, rfl, rfl, .inl (bm _ _ (by decide) (by decide)), .inl ⟨_, rfl, _, _, rfl, rfl, (by show (0 : Int) < 4294966997; decide), ?_⟩⟩
      refine ⟨_, rfl, _, rfl, _, _, rfl, rfl, .inl (bm _ _ (by decide) (by decide)), _, rfl, _, _, rfl, rfl, .inl ⟨by decide, by decide⟩, _, _, rfl, rfl, _, rfl, _, _, rfl, rfl, .inl ⟨by decide, by decide⟩, _, _, rfl, rfl, .inl ⟨_, rfl, _, _, rfl, rfl, (by show (0 : Int) < 4294966981; decide), ?_⟩⟩
      refine ⟨_, rfl, _, rfl, _, _, rfl, rfl, _, _, rfl, rfl, .inl (bm _ _ (by decide) (by decide)), .inl ⟨_, rfl, _, _, rfl, rfl, (by show (0 : Int) < 4294966943; decide), _, _, rfl, rfl, ⟨by decide, by decide⟩, .inl ⟨_, rfl, _, rfl, _, _, rfl, rfl, hm, ?_⟩⟩⟩
      exact k _ (t + 1) _ _ (Int.emod_nonneg _ (by omega)) (Int.emod_lt_of_pos _ hm) (by omega) (Int.le_refl _) B2 PA2
end
end FP
set_option Elab.async false
set_option linter.all false
set_option maxRecDepth 100000
set_option maxHeartbeats 4000000
set_option exponentiation.threshold 2000
namespace FP
open PySem PySem.Spec PyProof.Rows L2
/-- a def of the module and its promise -/
structure Def (P : Program) (w : World) (K : W.Frag) (mg : Str → Option Value) (base : Heap) (x : Str) (k : Nat) (ps : List Str) (sp : Sp) : Prop where
  ex : ∃ (f : Addr) (fd : FuncData), mg x = some (.ref f) ∧ W.keepIn K (.ref f) = true ∧ Binds K fd ps [] ∧ FnOk P w K mg base CX0 k f fd ps sp
theorem strs_dp (K : W.Frag) (H : Hp) : ∀ l : List Str, DpAll K H (l.map V.str) (l.map PyData.str)
  | [] => .nil
  | n :: r => .cons (.str n) (strs_dp K H r)
theorem strs_lay : ∀ l : List Str, (∀ y ∈ l, PyData.strOk y = true) → PyData.canLayAll0 (l.map PyData.str) = true
  | [], _ => rfl
  | x :: r, h => by
    simp only [List.map_cons, PyData.canLayAll0, PyData.canLay0, h x List.mem_cons_self, strs_lay r fun y hy => h y (List.mem_cons_of_mem _ hy), Bool.and_self]
theorem strs_deep : ∀ l : List Str, PyData.depthAll (l.map PyData.str) ≤ 1
  | [] => by simp [PyData.depthAll]
  | _ :: r => by
    have := strs_deep r
    simp only [List.map_cons, PyData.depthAll, PyData.depth]
    omega
theorem strs_shaped (l : List Str) (h : ∀ y ∈ l, PyData.strOk y = true) : SeqAt.shaped (.list (l.map PyData.str)) = true := by
  have h1 := strs_lay l h
  have h2 := strs_deep l
  unfold SeqAt.shaped
  rw [Bool.and_eq_true]
  refine ⟨by simpa only [PyData.canLay0] using h1, decide_eq_true ?_⟩
  simp only [PyData.depth]
  omega
theorem perm_erase {α : Type} : ∀ {l : List α} {j : Nat} (h : j < l.length), (l[j] :: l.eraseIdx j).Perm l
  | _ :: _, 0, _ => .refl _
  | x :: r, j + 1, h => (List.Perm.swap x (r[j]'(Nat.lt_of_succ_lt_succ h)) (r.eraseIdx j)).trans ((perm_erase (l := r) (Nat.lt_of_succ_lt_succ h)).cons x)
theorem map_erase {α β : Type} (f : α → β) : ∀ (l : List α) (j : Nat), (l.map f).eraseIdx j = (l.eraseIdx j).map f
  | [], _ => rfl
  | _ :: _, 0 => rfl
  | x :: r, j + 1 => congrArg (f x :: ·) (map_erase f r j)
/-- one of the options -/
def spPick : Sp := fun vs H Q _ => ∃ (p a o : Addr) (ns : List Int) (t l : Int) (xs : List V), vs = [.ref p, .ref o] ∧ PenAt H p a ns t l ∧ t ≤ 1000000 ∧ o ≠ p ∧ H o = some (.lst xs) ∧ 0 < xs.length ∧ xs.length ≤ 1000 ∧
  ∀ (i : Nat) (v : V) (t' l' : Int) (H' : Hp), xs[i]? = some v → t ≤ t' → t' ≤ t + 1 → But p H H' → PenAt H' p a ns t' l' → Q v H'
/-- the items (texts) in some order, a new list -/
def spShuf : Sp := fun vs H Q _ => ∃ (p a o : Addr) (ns : List Int) (t l : Int) (xs : List Str), vs = [.ref p, .ref o] ∧ PenAt H p a ns t l ∧ t + xs.length ≤ 1000000 ∧ o ≠ p ∧ H o = some (.lst (xs.map V.str)) ∧ xs.length ≤ 1000 ∧ (∀ y ∈ xs, PyData.strOk y = true) ∧
  ∀ (r : Addr) (ys : List Str) (t' l' : Int) (H' : Hp), ys.Perm xs → t ≤ t' → t' ≤ t + xs.length → But p H H' → PenAt H' p a ns t' l' → H r = none → H' r = some (.lst (ys.map V.str)) → Q (.ref r) H'
section
variable {P : Program} {w : World} {K : W.Frag} {mg : Str → Option Value} {base : Heap}
theorem small_abs {n : Nat} (h : n ≤ 1000) : ((n : Nat) : Int).natAbs < 2 ^ 1000 := by
  rw [Int.natAbs_natCast]
  exact Nat.lt_of_le_of_lt h (Nat.lt_of_lt_of_le (by decide : 1000 < 2 ^ 10) (Nat.pow_le_pow_right (by decide) (by decide)))
theorem scP : FnScope ["_law_pen", "_law_options"] ["_law_pen", "_law_options"] (defScope sPick) := ⟨rfl, rfl, rfl, by decide +kernel, rfl, by decide +kernel, by decide +kernel⟩
theorem ok_pick {f : Addr} {fd : FuncData} (F : Fun K "_law_pick" "_law_pick" sPick f fd) (B : Blt mg) (D : Def P w K mg base "_law_draw" 1 ["_law_pen", "_law_span"] spDraw) : FnOk P w K mg base CX0 2 f fd ["_law_pen", "_law_options"] spPick := by
  obtain ⟨fD, fdD, gD, kD, bD, GD⟩ := D.ex
  refine F.ok scP (fun vs H Q E h => ?_) (fun cdv A outer s H vs Q E hr h => ?_)
  · obtain ⟨p, a, o, ns, t, l, xs, rfl, _⟩ := h
    rfl
  obtain ⟨p, a, o, ns, t, l, xs, rfl, PA0, ht, hne, ho, h0, h1, k⟩ := h
  refine ⟨_, pss_one (ps_ret (pe_ix ix_list (pv 1) (pe_call GD hr rfl gD kD bD .nil pass0 (pa_cons (pv 0) (pa_cons (pe_callB call_len_seq (by rfl) B.len boot_len (pa_cons (pv 1) pa_nil)) pa_nil))) (fun _ _ => rfl))), ?_⟩
  refine ⟨_, rfl, _, rfl, _, rfl, o, _, rfl, .inl (SqL.of ho), p, a, ns, t, l, _, rfl, PA0, ht, by omega, small_abs h1, fun r t' l' H' r0 r1 t1 t2 b PA1 => ?_⟩
  obtain ⟨j, rfl⟩ : ∃ j : Nat, r = (j : Int) := ⟨_, (Int.toNat_of_nonneg r0).symm⟩
  have hj : j < xs.length := by omega
  have it : xs[j]? = some xs[j] := List.getElem?_eq_getElem hj
  exact ⟨o, _, _, _, rfl, rfl, SqL.of (b o _ hne ho), atI_nat it, k j _ t' l' H' it t1 t2 b PA1⟩
theorem scS : FnScope ["_law_pen", "_law_items", "_law_rest", "_law_found"] ["_law_pen", "_law_items"] (defScope sShuf) := ⟨rfl, rfl, rfl, by decide +kernel, rfl, by decide +kernel, by decide +kernel⟩
theorem ok_shuf {f : Addr} {fd : FuncData} (F : Fun K "_law_shuffled" "_law_shuffled" sShuf f fd) (B : Blt mg) (D : Def P w K mg base "_law_draw" 1 ["_law_pen", "_law_span"] spDraw) : FnOk P w K mg base CX0 2 f fd ["_law_pen", "_law_items"] spShuf := by
  obtain ⟨fD, fdD, gD, kD, bD, GD⟩ := D.ex
  refine F.ok scS (fun vs H Q E h => ?_) (fun cdv A outer s H vs Q E hr h => ?_)
  · obtain ⟨p, a, o, ns, t, l, xs, rfl, _⟩ := h
    rfl
  obtain ⟨p, a, o, ns, t, l, xs, rfl, PA0, ht, hne, ho, h1, hok, k⟩ := h
  refine ⟨_, pss_cons (ps_par (i := 2) (j := 3) (by rfl) scS.nd rfl rfl (by decide) rfl rfl (pa_cons (pe_callTy call_list_of (by rfl) B.list (by decide +kernel) (pa_cons (pv 1) pa_nil)) (pa_cons (pe_lst pa_nil) pa_nil)) (by rfl))
    (pss_cons (ps_while PassesOwn.never (pt_cmpR (op_neD hr.units) (pv 2) (pe_lst pa_nil) (nomark _))
      (pss_one (ps_expr (pe_bm PySem.F.plainAttrs_list PySem.F.slot_list_append PySem.F.type_list_append mt_append (pv 3)
        (pa_cons (pe_bm PySem.F.plainAttrs_list PySem.F.slot_list_pop PySem.F.type_list_pop mt_popAt (pv 2)
          (pa_cons (pe_call GD hr rfl gD kD bD .nil pass0 (pa_cons (pv 0) (pa_cons (pe_callB call_len_seq (by rfl) B.len boot_len (pa_cons (pv 2) pa_nil)) pa_nil))) pa_nil)) pa_nil)))))
    (pss_one (ps_ret (pv 3)))), ?_⟩
  refine ⟨_, rfl, o, _, rfl, .inl (SqL.of ho), fun r hr0 => ⟨Nat.zero_le _, fun q hq => ⟨_, _, rfl, ?_⟩⟩⟩
  have nrp : r ≠ p := (ne_of_none PA0.p hr0).symm
  have nra : r ≠ a := (ne_of_none PA0.a hr0).symm
  have hq0 : H q = none := by
    by_cases e : q = r
    · rw [e]; exact hr0
    · rwa [upd_ne e] at hq
  have nqr : q ≠ r := fun e => by rw [e, upd_same] at hq; cases hq
  have nqp : q ≠ p := (ne_of_none PA0.p hq0).symm
  -- the invariant: what is left, what is found
  refine while_by (fun σ H' => ∃ (as bs : List Str) (t' l' : Int), σ = [some (.ref p), some (.ref o), some (.ref r), some (.ref q)] ∧ (as ++ bs).Perm xs ∧ t ≤ t' ∧ t' ≤ t + bs.length ∧ But p H H' ∧ PenAt H' p a ns t' l' ∧
      H' r = some (.lst (as.map V.str)) ∧ H' q = some (.lst (bs.map V.str)))
    (fun σ H' => match H' r with
      | some (.lst ys) => ys.length
      | _ => 0) ⟨xs, [], t, l, rfl, by simp, Int.le_refl _, by simp, ((But.refl p H).new hr0).new hq, (PA0.new hr0).new hq, (upd_ne nqr.symm).trans upd_same, upd_same⟩ ?_ ?_
  · rintro σ H' ⟨as, bs, t', l', rfl, pm, t1, t2, b, PA1, ea, eb⟩
    have hl : as.length + bs.length = xs.length := by rw [← List.length_append]; exact pm.length_eq
    refine ⟨_, rfl, Nat.zero_le _, fun z hz => ⟨_, _, .lst (SqL.of ((upd_ne (ne_of_none ea hz)).trans ea)) (strs_dp _ _ as), .lst (SqL.of upd_same) .nil, strs_shaped as fun y hy => hok y (pm.subset (List.mem_append_left _ hy)), rfl, _, rfl, ?_⟩⟩
    have PA2 := PA1.new (o := .lst []) hz
    have b2 := b.new (o := .lst []) hz
    have ea2 := (upd_ne (o := .lst []) (ne_of_none ea hz)).trans ea
    have eb2 := (upd_ne (o := .lst []) (ne_of_none eb hz)).trans eb
    have nzp : z ≠ p := (ne_of_none PA1.p hz).symm
    refine ite2 (fun c => ?_) fun c => ?_
    · have ha : 0 < as.length := by
        cases as with
        | nil => exact absurd c (by decide)
        | cons _ _ => exact Nat.succ_pos _
      have hal : (as.map V.str).length = as.length := List.length_map ..
      refine ⟨_, rfl, .inl ⟨rfl, _, SqL.of eb2⟩, _, rfl, .inl ⟨rfl, _, SqL.of ea2⟩, _, rfl, _, rfl, r, _, rfl, .inl (SqL.of ea2), p, a, ns, t', l', _, rfl, PA2, by omega, by rw [hal]; omega, by rw [hal]; exact small_abs (by omega), ?_⟩
      intro v t3 l3 H3 v0 v1 t4 t5 b3 PA3
      rw [hal] at v1
      obtain ⟨j, rfl⟩ : ∃ j : Nat, v = (j : Int) := ⟨_, (Int.toNat_of_nonneg v0).symm⟩
      have hj : j < as.length := by omega
      have ea3 := b3 r _ nrp ea2
      have eb3 := b3 q _ nqp eb2
      have it : (as.map V.str)[j]? = some (V.str as[j]) := by rw [List.getElem?_map, List.getElem?_eq_getElem hj]; rfl
      refine ⟨r, _, _, j, _, rfl, rfl, ea3, by omega, by omega, ?_, it, ?_⟩
      · rw [hal]
        have := seqIndex_of (k := (j : Int)) (n := as.length) (by omega) (by omega)
        simpa using this
      refine ⟨q, _, _, rfl, rfl, (upd_ne nqr).trans eb3, ?_, ?_⟩
      · rw [List.length_map]
        exact small1000 (by omega)
      refine ⟨⟨as.eraseIdx j, bs ++ [as[j]], t3, l3, rfl, ?_, by omega, ?_, ?_, ?_, ?_, ?_⟩, ?_⟩
      · refine List.Perm.trans ?_ pm
        have e : as.Perm (as[j] :: as.eraseIdx j) := (perm_erase hj).symm
        refine List.Perm.trans ?_ (e.append_right bs).symm
        rw [← List.append_assoc]
        exact (List.perm_append_comm (l₁ := as.eraseIdx j ++ bs) (l₂ := [as[j]])).trans (.refl _)
      · rw [List.length_append, List.length_singleton]; omega
      · intro c u n e
        rw [upd_ne (fun z => by rw [z] at e; rw [e] at hq0; cases hq0), upd_ne (fun z => by rw [z] at e; rw [e] at hr0; cases hr0)]
        exact b3 c u n (b2 c u n e)
      · have n1 : a ≠ q := fun z => by have := PA0.a; rw [z, hq0] at this; cases this
        exact ⟨(upd_ne nqp.symm).trans ((upd_ne nrp.symm).trans PA3.p), (upd_ne n1).trans ((upd_ne nra.symm).trans PA3.a), PA3.n, PA3.t0, PA3.l0⟩
      · rw [upd_ne nqr.symm, upd_same, map_erase]
      · rw [upd_same, List.map_append]
        rfl
      · show (match (upd (upd H3 r _) q _) r with | some (.lst ys) => ys.length | _ => 0) < (match H' r with | some (.lst ys) => ys.length | _ => 0)
        rw [upd_ne nqr.symm, upd_same, ea]
        show ((as.map V.str).eraseIdx j).length < (as.map V.str).length
        rw [List.length_eraseIdx_of_lt (by rw [hal]; exact hj), hal]
        omega
    · have ha : as = [] := by
        cases as with
        | nil => rfl
        | cons x r => exact absurd (by rfl) c
      subst ha
      refine ⟨_, rfl, k q bs t' l' _ ?_ t1 (by simp only [List.length_nil, Nat.zero_add] at hl; omega) b2 PA2 hq0 eb2⟩
      simpa using pm
  · intro σ H' Q1 Q2 hq ⟨v, e1, z, f⟩
    exact ⟨v, e1, z, fun l hl => let ⟨d, e, h1, h2, h3, h4, k, ek, q⟩ := f l hl; ⟨d, e, h1, h2, h3, h4, k, ek, hq _ _ q⟩⟩
end
end FP
set_option Elab.async false
set_option linter.all false
set_option maxRecDepth 100000
/-! What the reader of texts does, as plain functions of lists. -/
namespace FP
open PySem
def wordsL : List Str := ["local", "block", "loop", "maybe", "same", "else", "end", "input", "copy", "point", "load", "store", "use", "call", "to", "from"]
def formsL : List (Str × List Str) := [("input", [""]), ("copy", ["", "to", ""]), ("point", ["", "to", ""]), ("load", ["", "from", ""]), ("store", ["", "to", ""]), ("use", [""]), ("call", [""]),
  ("block", []), ("loop", []), ("maybe", []), ("same", ["", ""]), ("else", []), ("end", [])]
def openL : List Str := ["block", "loop", "maybe", "same"]
def twoL : List Str := ["maybe", "same"]
def passL : List Str := ["local", "block", "else", "end"]
def letter (c : Nat) : Bool := decide (97 ≤ c) && decide (c ≤ 122)
def isName (s : Str) : Bool := !(wordsL.contains s) && (decide (1 ≤ s.length) && decide (s.length ≤ 12)) && s.cps.toList.all letter
def fitsM (ws form : List Str) : Bool := decide (ws.length = form.length) && (ws.zip form).all fun p => p.2 == ("" : Str) || p.2 == p.1
structure RowM where
  word : Str
  names : List Str
  after : Nat
  other : Nat
deriving DecidableEq
structure ShM where
  rows : List RowM
  homes : List (Str × Nat)
  around : List (Nat × Nat)
  nest : List Nat
deriving DecidableEq
def ShM.new : ShM := ⟨[⟨"", [], 1, 0⟩], [], [], [0]⟩
def homeOf (homes : List (Str × Nat)) (x : Str) : Option Nat := (homes.find? fun p => decide (p.1 = x)).map (·.2)
def seenM (M : ShM) (x : Str) : Bool := match homeOf M.homes x with
  | some h => M.nest.contains h
  | none => false
def addName (n : Nat) (homes : List (Str × Nat)) (x : Str) : Option (List (Str × Nat)) :=
  if isName x = true ∧ homeOf homes x = none ∧ homes.length ≠ 5 then some (homes ++ [(x, n)]) else none
def addNames (n : Nat) : List (Str × Nat) → List Str → Option (List (Str × Nat))
  | homes, [] => some homes
  | homes, x :: r => (addName n homes x).bind fun h => addNames n h r
def declareM (M : ShM) (names : List Str) : Option ShM :=
  if names ≠ [] ∧ M.nest.getLast? = some (M.rows.length - 1) then
    (addNames (M.rows.length - 1) M.homes names).map fun h => ⟨M.rows ++ [⟨"local", names, M.rows.length + 1, 0⟩], h, M.around, M.nest⟩
  else none
def setRow (rows : List RowM) (i : Nat) (f : RowM → RowM) : List RowM := match rows[i]? with
  | some r => rows.set i (f r)
  | none => rows
/-- d[k] = v, the key new or there -/
def putN (d : List (Nat × Nat)) (k v : Nat) : List (Nat × Nat) := if (d.any fun p => decide (p.1 = k)) = true then d.map (fun p => if p.1 = k then (p.1, v) else p) else d ++ [(k, v)]
def getN (d : List (Nat × Nat)) (k : Nat) : Option Nat := (d.find? fun p => decide (p.1 = k)).map (·.2)
/-- behind the row of a line n that opens a block -/
def openM (M : ShM) (n : Nat) : Option ShM := match M.nest.getLast? with
  | some l => if M.nest.length ≤ 5 then some ⟨M.rows, M.homes, putN M.around n l, M.nest ++ [n]⟩ else none
  | none => none
def turnM (M : ShM) (n : Nat) : Option ShM := match M.nest.getLast? with
  | some l => (match M.rows[l]?, getN M.around l with
    | some r, some a => if twoL.contains r.word = true then some ⟨setRow M.rows l fun r => { r with other := n + 1 }, M.homes, putN M.around n a, M.nest.dropLast ++ [n]⟩ else none
    | _, _ => none)
  | none => none
def closeM (M : ShM) (n : Nat) : Option ShM := match M.nest.getLast? with
  | some l => (match M.rows[l]? with
    | some r => if l ≠ 0 then
        let rows1 := setRow M.rows l fun r => if r.word = ("else" : Str) then { r with after := n } else { r with other := n + 1 }
        let rows2 := if r.word = ("loop" : Str) then setRow rows1 n fun r => { r with after := l } else rows1
        some ⟨rows2, M.homes, M.around, M.nest.dropLast⟩
      else none
    | none => none)
  | none => none
def takeRowM (M : ShM) (word : Str) (words form : List Str) : Option ShM :=
  let names := ((words.zip form).filter fun p => p.2 == ("" : Str)).map (·.1)
  if names.all (seenM M) = true then
    let n := M.rows.length
    let M1 : ShM := ⟨M.rows ++ [⟨word, names, n + 1, 0⟩], M.homes, M.around, M.nest⟩
    if openL.contains word = true then openM M1 n else if word = "else" then turnM M1 n else if word = "end" then closeM M1 n else some M1
  else none
def takeM (M : ShM) (parts : List Str) : Option ShM := match parts with
  | [] => none
  | word :: words => if word = "local" then declareM M words else match formsL.lookup word with
    | some form => if fitsM words form = true then takeRowM M word words form else none
    | none => none
def landM (rows : List RowM) : Nat → Nat → Option Nat
  | 0, _ => none
  | f + 1, n => if n < rows.length then (match rows[n]? with
      | some r => if passL.contains r.word = true then landM rows f r.after else some n
      | none => none) else some 0
/-- the ways of the row at i -/
def wayM (f : Nat) (rows : List RowM) (i : Nat) : Option (List RowM) := match rows[i]? with
  | some r => if passL.contains r.word = true then some rows else
      (landM rows f r.after).bind fun a => (landM (rows.set i { r with after := a }) f r.other).map fun o => rows.set i { r with after := a, other := o }
  | none => none
def waysM (f : Nat) : Nat → Nat → List RowM → Option (List RowM)
  | 0, _, rows => some rows
  | n + 1, i, rows => (wayM f rows i).bind fun r => waysM f n (i + 1) r
def readLines (M : ShM) : List (List Str) → Option ShM
  | [] => some M
  | l :: r => (takeM M l).bind fun M1 => readLines M1 r
def linesM (text : Str) : List Str := if text = "" then [] else Txt.split text "\n"
/-- the sheet of a text of at most so many lines -/
def readM (text : Str) (most : Nat) : Option ShM :=
  if (linesM text).length ≤ most then
    (readLines ShM.new ((linesM text).map fun l => Txt.split l " ")).bind fun M => if M.nest.length = 1 then (waysM 100 M.rows.length 0 M.rows).map fun rows => { M with rows := rows } else none
  else none
end FP
set_option Elab.async false
set_option linter.all false
set_option maxRecDepth 100000
set_option maxHeartbeats 2000000
/-! zip of a list or tuple with a list or tuple; enumerate(.., start=k) of one. -/
namespace FP
open PySem PySem.Spec PyProof.Rows L2
/-- a list (true) or a tuple (false) -/
def SqB (K : PySem.W.Frag) (l : Bool) (H : Hp) (a : Addr) (xs : List V) : Prop := match l with
  | true => SqL K H a xs
  | false => SqT K H a xs
def ItB (l : Bool) (h : Heap) (it a : Addr) (i : Nat) : Prop := match l with
  | true => h.IsListIter it a i
  | false => h.IsTupleIter it a i
def OwnB (l : Bool) (h : Heap) (a : Addr) (items : Array Value) : Prop := match l with
  | true => h.IsList a items
  | false => h.IsTuple a items
def objB (l : Bool) (a : Addr) : Obj := match l with
  | true => { cls := .type "list_iterator", data := .fields #[.ref a, .int 0 0] }
  | false => { cls := .type "tuple_iterator", data := .fields #[.ref a, .int 0 0] }
theorem drawsB {prog : Program} {w : World} {A : Around} (l : Bool) (hh : A.handled = none) (it a : Addr) (hne : a ≠ it) (items : Array Value) :
    Draws prog w A it [it, a] items.size (fun i v => items[i]? = some v) (fun i h => ItB l h it a i ∧ OwnB l h a items) := by
  cases l
  · exact Draws.tuple hh it a hne items
  · exact Draws.list hh it a hne items
theorem beginsB (l : Bool) (a : Addr) (items : Array Value) : Begins (.ref a) (objB l a) fun h => OwnB l h a items := by
  cases l
  · exact begins_tuple a items
  · exact begins_list a items
theorem itB_new {l : Bool} {h : Heap} {it a : Addr} (e : h.get? it = some (objB l a)) : ItB l h it a 0 := by
  cases l
  · exact ⟨_, e, rfl, rfl⟩
  · exact ⟨_, e, rfl, rfl⟩
theorem itB_at {l : Bool} {h h' : Heap} {it a : Addr} {i : Nat} (x : ItB l h it a i) (k : ∀ o, h.get? it = some o → h'.get? it = some o) : ItB l h' it a i := by
  cases l
  · exact Heap.IsTupleIter.at x k
  · exact Heap.IsListIter.at x k
theorem itB_obj {l : Bool} {h : Heap} {it a : Addr} {i : Nat} (x : ItB l h it a i) : ∃ o, h.get? it = some o ∧ ∀ v, o.data ≠ .cell v := by
  cases l
  · obtain ⟨o, e, _, d⟩ := x
    exact ⟨o, e, fun v q => by rw [d] at q; cases q⟩
  · obtain ⟨o, e, _, d⟩ := x
    exact ⟨o, e, fun v q => by rw [d] at q; cases q⟩
section
variable {X : Cx} {pins : List (Addr × Obj)} {σ : L2.St} {H : Hp} {s : Shared} {a : Addr} {xs ys : List V} {l : Bool}
theorem inv_seqB (I : Inv X pins σ H s) (h : SqB X.K l H a xs) : ∃ its : List Value, Vals xs its ∧ OwnB l s.heap a its.toArray := by
  cases l
  · obtain ⟨its, r, p, _⟩ := I.tuple h
    exact ⟨its, r, p⟩
  · obtain ⟨its, r, p, _⟩ := I.list h
    exact ⟨its, r, p.isList⟩
theorem inv_seqB_inj (I : Inv X pins σ H s) (h : SqB X.K l H a xs) (h' : SqB X.K l H a ys) : xs = ys := by
  cases l
  · exact I.tuple_inj h h'
  · exact I.list_inj h h'
theorem ownB_lt {h : Heap} {items : Array Value} (x : OwnB l h a items) : a < h.objs.size := by
  cases l
  · obtain ⟨o, e, _⟩ := x
    exact Heap.lt_size e
  · obtain ⟨o, e, _⟩ := x
    exact Heap.lt_size e
end
/-- a, b walked together, the items in new pairs -/
def ItzB (K : PySem.W.Frag) (l m : Bool) (a b : Addr) : It :=
  ⟨fun i H => ∃ (xs ys : List V) (x y : V), SqB K l H a xs ∧ SqB K m H b ys ∧ xs[i]? = some x ∧ ys[i]? = some y,
    fun i H v H' => ∃ T x y, v = .ref T ∧ H T = none ∧ H' = upd H T (.tup [x, y]) ∧ (∀ xs, SqB K l H a xs → xs[i]? = some x) ∧ ∀ ys, SqB K m H b ys → ys[i]? = some y,
    fun i H => ∃ xs ys : List V, SqB K l H a xs ∧ SqB K m H b ys ∧ i ≤ xs.length ∧ i ≤ ys.length ∧ (i = xs.length ∨ i = ys.length)⟩
theorem turn_zipB {P : Program} {w : World} {K : PySem.W.Frag} {elts : List Expr} {kk : Nat} {tpos : Pos} {l m : Bool} {a b z TI TO i1 i2 : Addr} (D : ZipSep2 z TI TO i1 i2 [i1, a] [i2, b]) (n1 : a ≠ i1) (n2 : b ≠ i2) :
    Turn P w K (.Tuple elts kk tpos) (ItzB K l m a b) [z, TI, TO, i1, i2] z (fun i h => IsZip h z TI TO .none ∧ IsTupOf2 h TI (.ref i1) (.ref i2) ∧ (∃ x y, IsTupOf2 h TO x y) ∧ ItB l h i1 a i ∧ ItB m h i2 b i) where
  mem := by simp
  obj := fun i h st c hc => by
    obtain ⟨hz, hTI, ⟨x, y, hTO⟩, h1, h2⟩ := st
    simp only [List.mem_cons, List.not_mem_nil, or_false] at hc
    rcases hc with q | q | q | q | q
    · rw [q]; exact ⟨_, hz, fun v q => nomatch q⟩
    · rw [q]; exact ⟨_, hTI, fun v q => nomatch q⟩
    · rw [q]; exact ⟨_, hTO, fun v q => nomatch q⟩
    · exact q ▸ itB_obj h1
    · exact q ▸ itB_obj h2
  keep := fun i h h' st k => by
    obtain ⟨hz, hTI, ⟨x, y, hTO⟩, h1, h2⟩ := st
    exact ⟨k z (by simp) _ hz, k TI (by simp) _ hTI, ⟨x, y, k TO (by simp) _ hTO⟩, itB_at h1 fun o q => k i1 (by simp) o q, itB_at h2 fun o q => k i2 (by simp) o q⟩
  item := by
    intro X hP hw hK hc i pins s σ H E I hf st hg
    subst hP hw hK
    obtain ⟨hz, hTI, ⟨x0, y0, hTO⟩, h1, h2⟩ := st
    obtain ⟨xs, ys, x, y, hqx, hqy, hx, hy⟩ := hg
    obtain ⟨its, rv, p⟩ := inv_seqB I hqx
    obtain ⟨its2, rv2, p2⟩ := inv_seqB I hqy
    obtain ⟨u, hu, ru⟩ := rv.get hx
    obtain ⟨u2, hu2, ru2⟩ := rv2.get hy
    have e1 : its.toArray[i]? = some u := by simpa using hu
    have e2 : its2.toArray[i]? = some u2 := by simpa using hu2
    have l1 : i < its.toArray.size := (Array.getElem?_eq_some_iff.mp e1).1
    have l2 : i < its2.toArray.size := (Array.getElem?_eq_some_iff.mp e2).1
    have hzl : z < s.heap.objs.size := Heap.lt_size hz
    refine wpAny_pyNext_zipD2_item D (drawsB (A := X.A.in1) l (show X.A.in1.handled = none from I.ok.hd hc) i1 a n1 its.toArray) (drawsB (A := X.A.in1) m (show X.A.in1.handled = none from I.ok.hd hc) i2 b n2 its2.toArray) hz hTI hTO ⟨h1, p⟩ ⟨h2, p2⟩ l1 l2 fun x1 x2 h' tk px py z' TO' d1 d2 hT hsz hk => ?_
    have ex1 : x1 = u := Option.some.inj (px.symm.trans e1)
    have ex2 : x2 = u2 := Option.some.inj (py.symm.trans e2)
    subst ex1 ex2
    refine ⟨_, rfl, wpAny_letOwnedTupleGo_zip (s := { s with heap := h', toks := tk }) z' fun h'' z'' sb => ?_⟩
    have hT2 : h''.get? s.heap.objs.size = some { cls := .type "tuple", data := .seq #[x1, x2] } := (sb.2 _ (Nat.ne_of_gt hzl)).trans hT
    have new : ObjOk X.prog X.w (upd H s.heap.objs.size (.tup [x, y])) h'' s.heap.objs.size (.tup [x, y]) :=
      ⟨by show 2 ≤ sizeLine; decide, [x1, x2], .cons ru (.cons ru2 .nil), ⟨_, hT2, rfl, _, rfl⟩⟩
    have I1 : Inv X pins σ (upd H s.heap.objs.size (.tup [x, y])) { s with heap := h'', toks := tk } :=
      I.turnedNew (t' := tk) (ch := [z, TI, TO, i1, i2]) (fun c o hb q => (sb.2 c (fun q' => hb (by simp [q']))).trans (hk c o (fun q' => hb (by simp [q'])) (fun q' => hb (by simp [q'])) (fun q' => hb (by simp [q'])) (fun q' => hb (by simp [q'])) q)) hf (Nat.le_refl _) new
    refine ⟨.ref s.heap.objs.size, _, I1, rfl, ⟨_, x, y, rfl, I.hok.fresh (Nat.le_refl _), rfl, fun l hl => by rw [inv_seqB_inj I hl hqx]; exact hx, fun l hl => by rw [inv_seqB_inj I hl hqy]; exact hy⟩, ⟨z'', ?_, ⟨x1, x2, ?_⟩, ?_, ?_⟩, fun c hcm => ?_⟩
    · exact (sb.2 _ D.TIz).trans (hk _ _ D.TIz D.TITO D.TIi1 D.TIi2 hTI)
    · exact (sb.2 _ D.TOz).trans TO'
    · exact itB_at d1.1 fun o q => (sb.2 _ (Ne.symm D.zi1)).trans q
    · exact itB_at d2.1 fun o q => (sb.2 _ (Ne.symm D.zi2)).trans q
    · have hlt : c < s.heap.objs.size := by
        simp only [List.mem_cons, List.not_mem_nil, or_false] at hcm
        rcases hcm with q | q | q | q | q
        · exact q ▸ hzl
        · exact q ▸ Heap.lt_size hTI
        · exact q ▸ Heap.lt_size hTO
        · obtain ⟨_, e, _⟩ := itB_obj h1
          exact q ▸ Heap.lt_size e
        · obtain ⟨_, e, _⟩ := itB_obj h2
          exact q ▸ Heap.lt_size e
      rw [upd_ne (Nat.ne_of_lt hlt)]
      exact (hf c hcm).1
  done := by
    intro X hP hw hK hc i pins s σ H E I hf st hg
    subst hP hw hK
    obtain ⟨hz, hTI, ⟨x0, y0, hTO⟩, h1, h2⟩ := st
    obtain ⟨xs, ys, hqx, hqy, le1, le2, hend⟩ := hg
    obtain ⟨its, rv, p⟩ := inv_seqB I hqx
    obtain ⟨its2, rv2, p2⟩ := inv_seqB I hqy
    have g1 := rv.length
    have g2 := rv2.length
    have z1 : its.toArray.size = xs.length := by simp [g1]
    have z2 : its2.toArray.size = ys.length := by simp [g2]
    exact wpAny_pyNext_zipD2_end D (drawsB (A := X.A.in1) l (show X.A.in1.handled = none from I.ok.hd hc) i1 a n1 its.toArray) (drawsB (A := X.A.in1) m (show X.A.in1.handled = none from I.ok.hd hc) i2 b n2 its2.toArray) hz hTI hTO ⟨h1, p⟩ ⟨h2, p2⟩ (by omega) (by omega) (by omega) fun h' tk hk => ⟨rfl, I.turnedL (t' := tk) (ch := [z, TI, TO, i1, i2]) (fun c o hb q =>
      hk c o (fun q' => hb (by simp [q'])) (fun q' => hb (by simp [q'])) (fun q' => hb (by simp [q'])) (fun q' => hb (by simp [q'])) q) hf⟩
  self := fun A i s Q E st h => wpAny_pyIter_zip st.1 h
def iZipB (K : PySem.W.Frag) (l m : Bool) (ta : TA) : TI := fun σ H R => ta σ H fun vs H1 => ∃ a b xs ys, vs = [.ref a, .ref b] ∧ SqB K l H1 a xs ∧ SqB K m H1 b ys ∧ R (ItzB K l m a b) H1
theorem pi_zipB {X : Cx} {e e2 : Expr} {ta : TA} {p pos tpos : Pos} {elts : List Expr} {kk : Nat} (l m : Bool) (hg : Gl X "zip") (hm : X.mg "zip" = none) (ha : PA X [e, e2] ta)
    (hs : starEach [e, e2] X.env = (false, eval e X.env) :: starEach [e2] X.env := by rfl) (hpl : (backTo pos (starEach [e2] X.env)).any (·.1) = false := by rfl) :
    PI X (.Tuple elts kk tpos) (.Call (.Name "zip" p) [e, e2] [] pos) (iZipB X.K l m ta) := by
  refine ⟨fun pins s σ H R I h => ?_⟩
  refine Call_ (ld_blt I hg hm PyProof.Rows.boot_zip (PyProof.Rows.callWith_type1 (thn (ha.run pos pins s σ H _ I h) fun us s1 ⟨vs, H1, I1, r1, q1⟩ => ?_) hs hpl))
  obtain ⟨a, b, xs, ys, rfl, hqx, hqy, q⟩ := q1
  cases r1 with
  | cons r rr =>
    cases rr with
    | cons r' rr =>
      cases rr
      cases r
      cases r'
      obtain ⟨its, rv, p1⟩ := inv_seqB I1 hqx
      obtain ⟨its2, rv2, p2⟩ := inv_seqB I1 hqy
      have la := ownB_lt p1
      have lb := ownB_lt p2
      have S : ZipSep2 (s1.heap.objs.size + 4) (s1.heap.objs.size + 2) (s1.heap.objs.size + 3) s1.heap.objs.size (s1.heap.objs.size + 1) [s1.heap.objs.size, a] [s1.heap.objs.size + 1, b] :=
        zip_sep2 (N := s1.heap.objs.size) (fp1 := [a]) (fp2 := [b]) (fun c hc => by rw [List.mem_singleton.mp hc]; exact la) (fun c hc => by rw [List.mem_singleton.mp hc]; exact lb)
      refine zip_begins2 (beginsB l a its.toArray) (beginsB m b its2.toArray) p1 p2 fun h' hz hTI hTO h1 h2 hsz hk => wpAny_pyIter_zip hz ?_
      have I2 : Inv X pins σ H1 { s1 with heap := h' } := I1.kept (t' := s1.toks) hk
      refine ⟨s1.heap.objs.size + 4, [s1.heap.objs.size + 4, s1.heap.objs.size + 2, s1.heap.objs.size + 3, s1.heap.objs.size, s1.heap.objs.size + 1], _, _, H1, rfl, I2, turn_zipB S (Nat.ne_of_lt la) (Nat.ne_of_lt (Nat.lt_succ_of_lt lb)), ⟨hz, hTI, ⟨_, _, hTO⟩, itB_new h1, itB_new h2⟩, fun c hcm => ?_, q⟩
      have hle : s1.heap.objs.size ≤ c := by
        simp only [List.mem_cons, List.not_mem_nil, or_false] at hcm
        rcases hcm with z | z | z | z | z
        · rw [z]; exact Nat.le_add_right _ _
        · rw [z]; exact Nat.le_add_right _ _
        · rw [z]; exact Nat.le_add_right _ _
        · rw [z]; exact Nat.le_refl _
        · rw [z]; exact Nat.le_add_right _ _
      exact I1.fpOk hle (I1.hok.fresh hle)
theorem walk_zipB {K : PySem.W.Frag} {l m : Bool} {a b : Addr} {xs ys : List V} {n : Nat} (hn : xs.length = n) (hm : ys.length = n) : Walk (ItzB K l m a b) n (fun H => SqB K l H a xs ∧ SqB K m H b ys) (YPair (fun i => xs[i]?) (fun i => ys[i]?)) := by
  refine ⟨fun i _ hi q => ?_, fun _ q => ⟨xs, ys, q.1, q.2, by omega, by omega, by omega⟩, fun i H v H' _ q y => ?_⟩
  · have h1 : i < xs.length := by omega
    have h2 : i < ys.length := by omega
    exact ⟨xs, ys, xs[i], ys[i], q.1, q.2, by simp [h1], by simp [h2]⟩
  · obtain ⟨T, x, z, h1, h2, h3, h4, h5⟩ := y
    exact ⟨T, x, z, h1, h2, h3, h4 xs q.1, h5 ys q.2⟩
/-- a walked from the number k on, each item in a new pair behind its number -/
def IteB (K : PySem.W.Frag) (l : Bool) (k : Int) (a : Addr) : It :=
  ⟨fun i H => ∃ (xs : List V) (x : V), SqB K l H a xs ∧ xs[i]? = some x, fun i H v H' => ∃ T x, v = .ref T ∧ H T = none ∧ H' = upd H T (.tup [.int (k + (i : Nat)), x]) ∧ ∀ xs, SqB K l H a xs → xs[i]? = some x,
    fun i H => ∃ xs : List V, SqB K l H a xs ∧ xs.length = i⟩
theorem turn_enumB {P : Program} {w : World} {K : PySem.W.Frag} {elts : List Expr} {kk : Nat} {tpos : Pos} (l : Bool) (k : Int) (a e it : Addr) (na : a ≠ it) (ne : e ≠ it) (nea : e ≠ a) :
    Turn P w K (.Tuple elts kk tpos) (IteB K l k a) [e, it] e (fun i h => (∃ old, IsEnum h e it (k + (i : Nat)) old) ∧ ItB l h it a i) where
  mem := by simp
  obj := fun i h st b hb => by
    obtain ⟨⟨old, he⟩, hi⟩ := st
    simp only [List.mem_cons, List.not_mem_nil, or_false] at hb
    rcases hb with z | z
    · rw [z]; exact ⟨_, he, fun v q => nomatch q⟩
    · exact z ▸ itB_obj hi
  keep := fun i h h' st k => let ⟨⟨old, he⟩, hi⟩ := st; ⟨⟨old, k e (by simp) _ he⟩, itB_at hi fun o q => k it (by simp) o q⟩
  item := by
    intro X hP hw hK hc i pins s σ H E I hf st hg
    subst hP hw hK
    obtain ⟨⟨old, he⟩, hit⟩ := st
    obtain ⟨xs, x, hq, hx⟩ := hg
    obtain ⟨its, rv, p⟩ := inv_seqB I hq
    obtain ⟨u, hu, ru⟩ := rv.get hx
    have e1 : its.toArray[i]? = some u := by simpa using hu
    have l1 : i < its.toArray.size := (Array.getElem?_eq_some_iff.mp e1).1
    have hel : e < s.heap.objs.size := Heap.lt_size he
    refine wpAny_pyNext_enum_itemC (drawsB (A := X.A.in1) l (show X.A.in1.handled = none from I.ok.hd hc) it a na its.toArray) he ⟨hit, p⟩ l1 ne (by simp [ne, nea]) fun y h' tk hy ho st' hT hsz hk => ?_
    have ey : y = u := Option.some.inj (hy.symm.trans e1)
    subst ey
    refine ⟨_, rfl, wpAny_letOwnedTupleGo_enum (s := { s with heap := h', toks := tk + 1 }) ho fun h'' he' sb => ?_⟩
    have hT2 : h''.get? s.heap.objs.size = some { cls := .type "tuple", data := .seq #[.int (k + (i : Nat)) tk, y] } := (sb.2 _ (Nat.ne_of_gt hel)).trans hT
    have new : ObjOk X.prog X.w (upd H s.heap.objs.size (.tup [.int (k + (i : Nat)), x])) h'' s.heap.objs.size (.tup [.int (k + (i : Nat)), x]) :=
      ⟨by show 2 ≤ sizeLine; decide, [.int (k + (i : Nat)) tk, y], .cons ⟨_, rfl⟩ (.cons ru .nil), ⟨_, hT2, rfl, _, rfl⟩⟩
    have I1 : Inv X pins σ (upd H s.heap.objs.size (.tup [.int (k + (i : Nat)), x])) { s with heap := h'', toks := tk + 1 } :=
      I.turnedNew (ch := [e, it]) (fun b ob hb q => (sb.2 b (fun z => hb (by simp [z]))).trans (hk b ob (fun z => hb (by simp [z])) (fun z => hb (by simp [z])) q)) hf (Nat.le_refl _) new
    refine ⟨.ref s.heap.objs.size, _, I1, rfl, ⟨_, x, rfl, I.hok.fresh (Nat.le_refl _), rfl, fun ys hy => by rw [inv_seqB_inj I hy hq]; exact hx⟩, ⟨⟨y, ?_⟩, itB_at st'.1 fun o q => (sb.2 it (Ne.symm ne)).trans q⟩, fun b hb => ?_⟩
    · have e2 : k + ((i + 1 : Nat) : Int) = k + (i : Int) + 1 := by omega
      rw [e2]; exact he'
    · have hb' : b < s.heap.objs.size := by
        have hb2 := hb
        simp only [List.mem_cons, List.not_mem_nil, or_false] at hb2
        rcases hb2 with z | z
        · exact z ▸ hel
        · obtain ⟨_, q, _⟩ := itB_obj hit
          exact z ▸ Heap.lt_size q
      rw [upd_ne (Nat.ne_of_lt hb')]
      exact (hf b hb).1
  done := by
    intro X hP hw hK hc i pins s σ H E I hf st hg
    subst hP hw hK
    obtain ⟨⟨old, he⟩, hit⟩ := st
    obtain ⟨xs, hq, hx⟩ := hg
    obtain ⟨its, rv, p⟩ := inv_seqB I hq
    obtain ⟨f0, f1, f2, f3, f4, f5⟩ := hf it (by simp)
    have g1 := rv.length
    have z1 : its.toArray.size = i := by simp [← g1, hx]
    exact wpAny_pyNext_enum_endD (drawsB (A := X.A.in1) l (show X.A.in1.handled = none from I.ok.hd hc) it a na its.toArray) he (by rw [z1]; exact ⟨hit, p⟩) fun h' eb => ⟨rfl, I.turned (t' := s.toks) (fun b o hb q => eb b o hb q) f0 f1 f3 f4 f5⟩
  self := fun A i s Q E st h => let ⟨⟨_, he⟩, _⟩ := st; wpAny_pyIter_enum he h
theorem walk_enumB {K : PySem.W.Frag} {l : Bool} {k : Int} {a : Addr} {xs : List V} : Walk (IteB K l k a) xs.length (fun H => SqB K l H a xs) (YPair (fun i => some (.int (k + (i : Nat)))) (fun i => xs[i]?)) := by
  refine ⟨fun i _ hi q => ⟨xs, xs[i], q, by simp [hi]⟩, fun _ q => ⟨xs, q, rfl⟩, fun i H v H' _ q y => ?_⟩
  obtain ⟨T, x, h1, h2, h3, h4⟩ := y
  exact ⟨T, _, x, h1, h2, h3, rfl, h4 xs q⟩
theorem enumB_ready {X : Cx} {pins : List (Addr × Obj)} {σ : L2.St} {H : Hp} {s : Shared} {h' : Heap} {elts : List Expr} {kk : Nat} {tpos : Pos} {R : It → Hp → Prop} {l : Bool} {a : Addr} {k : Int} (I : Inv X pins σ H s) (la : a < s.heap.objs.size)
    (he : IsEnum h' (s.heap.objs.size + 1) s.heap.objs.size k .none) (hi : h'.get? s.heap.objs.size = some (objB l a)) (hk : ∀ b o, s.heap.get? b = some o → h'.get? b = some o) (q : R (IteB X.K l k a) H) :
    PIE X pins σ (.Tuple elts kk tpos) R (.ref (s.heap.objs.size + 1)) { s with heap := h' } := by
  have I2 : Inv X pins σ H { s with heap := h' } := I.kept (t' := s.toks) hk
  refine ⟨s.heap.objs.size + 1, [s.heap.objs.size + 1, s.heap.objs.size], _, _, H, rfl, I2, turn_enumB l k a (s.heap.objs.size + 1) s.heap.objs.size (Nat.ne_of_lt la) (Nat.succ_ne_self _) (Nat.ne_of_gt (Nat.lt_succ_of_lt la)), ⟨⟨.none, ?_⟩, itB_new hi⟩, fun b hb => ?_, q⟩
  · have e : k + ((0 : Nat) : Int) = k := by omega
    rw [e]; exact he
  · have hle : s.heap.objs.size ≤ b := by
      simp only [List.mem_cons, List.not_mem_nil, or_false] at hb
      rcases hb with z | z
      · rw [z]; exact Nat.le_add_right _ _
      · rw [z]; exact Nat.le_refl _
    exact I.fpOk hle (I.hok.fresh hle)
end FP
set_option Elab.async false
set_option linter.all false
set_option maxRecDepth 100000
set_option maxHeartbeats 2000000
/-! enumerate(e), enumerate(e, start=k) of a list or tuple; a global written tuple. -/
namespace FP
open PySem PySem.Spec PyProof.Rows L2
theorem callWith_tyKw {M : Model} {A : Around} {E : Value → Shared → Prop} {s : Shared} {pos : Pos} {T : String} {first : List Value} {args : List (Bool × Sem Value)} {keywords : List (Option Str × Sem Value)} {Q : Value → Shared → Prop}
    (hplain : args.any (·.1) = false) (hkw : keywords.any (·.1.isNone) = false)
    (h : wpAny M A (evalArgs (.type T) true args keywords) (fun a s₁ => wpAny M A (call (.type T) (first ++ a.pos) a.kw) Q E s₁) E s) :
    wpAny M A (callWith pos (.type T) first args keywords) Q E s := by
  unfold callWith
  refine wpAny_bind (wpAny_holding (wpAny_mono h (fun a s₁ h₁ => wpAny_bind (wpAny_standAt ?_)) fun _ _ x => x))
  simp only [hplain, hkw, Bool.or_false]
  refine wpAny_bind (wpAny_pure ?_)
  exact wpAny_bind (wpAny_mono h₁ (fun r s₂ hr => wpAny_bind (wpAny_holding (wpAny_point (wpAny_pure hr)))) fun _ _ x => x)
def iEnumS (K : PySem.W.Frag) (l : Bool) (ta : TA) (tk : TA) : TI := fun σ H R => ta σ H fun vs H0 => tk σ H0 fun zs H1 => ∃ a xs k, vs = [.ref a] ∧ zs = [.int k] ∧ -(2 ^ 63) ≤ k ∧ k < 2 ^ 63 ∧ SqB K l H1 a xs ∧ R (IteB K l k a) H1
theorem pi_enumS {X : Cx} {e e2 : Expr} {ta tk : TA} {p pos tpos kp : Pos} {elts : List Expr} {kk : Nat} (l : Bool) (hg : Gl X "enumerate") (hm : X.mg "enumerate" = none) (ha : PA X [e] ta) (hk : PK X [⟨some "start", e2, kp⟩] tk)
    (he : backTo pos (starEach [e] X.env) = (false, eval e X.env) :: backTo pos (starEach [] X.env) := by rfl) (hpl : (backTo pos (starEach [e] X.env)).any (·.1) = false := by rfl)
    (hall : (backToKw pos (keywordEach [⟨some "start", e2, kp⟩] X.env)).all (·.1.isSome) = true := by rfl) (hnone : (backToKw pos (keywordEach [⟨some "start", e2, kp⟩] X.env)).any (·.1.isNone) = false := by rfl)
    (hks : (backToKw pos (keywordEach [⟨some "start", e2, kp⟩] X.env)).filterMap (·.1) = [("start" : Str)] := by rfl) :
    PI X (.Tuple elts kk tpos) (.Call (.Name "enumerate" p) [e] [⟨some "start", e2, kp⟩] pos) (iEnumS X.K l ta tk) := by
  refine ⟨fun pins s σ H R I h => ?_⟩
  refine wpAny_Call_Name_kw (ld_blt I hg hm boot_enumerate (callWith_tyKw hpl hnone ?_))
  have hrun : wpAny (model X.prog X.w) X.A (spliced (backTo pos (starEach [e] X.env))) (fun vs s₁ => wpAny (model X.prog X.w) X.A (evalAll ((backToKw pos (keywordEach [⟨some "start", e2, kp⟩] X.env)).map (·.2)))
      (fun kvs s₂ => (fun a s₁ => wpAny (model X.prog X.w) X.A (call (.type "enumerate") ([] ++ a.pos) a.kw) (fun v s1 => wpAny (model X.prog X.w) X.A (pyIter v) (PIE X pins σ (.Tuple elts kk tpos) R) X.xe s1) X.xe s₁) (⟨vs, ((backToKw pos (keywordEach [⟨some "start", e2, kp⟩] X.env)).filterMap (·.1)).zip kvs⟩ : Args) s₂) X.xe s₁) X.xe s := by
    refine thn (ha.run pos pins s σ H _ I h) fun us s1 ⟨vs, H1, I1, r1, q1⟩ => thn (hk.run pos pins s1 σ H1 _ I1 q1) fun ws s2 ⟨zs, H2, I2, r2, q2⟩ => ?_
    obtain ⟨a, xs, k, rfl, rfl, k0, k1, hq, q⟩ := q2
    rw [hks]
    obtain ⟨u, rfl, ru⟩ := vals1 r1
    obtain ⟨u2, rfl, ru2⟩ := vals1 r2
    cases ru
    obtain ⟨t, rfl⟩ := ru2
    obtain ⟨its, rv, p1⟩ := inv_seqB I2 hq
    exact enum_begins_start (beginsB l a its.toArray) p1 k0 k1 fun h' he hi hsz hk => wpAny_pyIter_enum he (enumB_ready I2 (ownB_lt p1) he hi hk q)
  rw [he] at hrun ⊢
  exact evalArgs_kwB hall hrun
end FP
set_option Elab.async false
set_option linter.all false
set_option maxRecDepth 100000
set_option maxHeartbeats 2000000
/-! enumerate(e) of a list or tuple. -/
namespace FP
open PySem PySem.Spec PyProof.Rows L2
theorem enum1_meets {v : Value} {o : Obj} {H : Heap → Prop} (B : Begins v o H) :
    Meets (Builtin.«enumerate.__new__» ⟨[.type "enumerate", v], []⟩) (fun _ R s => H s.heap ∧
      R (.ok (.ret (.ref (s.heap.push o).objs.size))) { s with heap := (s.heap.push o).push { cls := .type "enumerate", data := .fields #[.none, .bool false, .ref s.heap.objs.size, rawInt 0, .none, .none] } }) :=
  .of_wp fun prog w A R s h => by
    obtain ⟨hp, g, d, tk, os⟩ := s; obtain ⟨h1, h⟩ := h
    have hsub := sub_enumerate
    have q1 : ∀ {A' : Around} {E : Value → Shared → Prop} {Q : Value → Shared → Prop}, Q (.ref hp.objs.size) ⟨hp.push o, g, d, tk, os⟩ → wpAny (model prog w) A' (pyIter v) Q E ⟨hp, g, d, tk, os⟩ :=
      fun q => B.iter prog w _ _ ⟨hp, g, d, tk, os⟩ _ h1 q
    wp_walk using q1
    refine wpAny_stack_any fun st => wpAny_pure ?_
    split
    · rename_i c _ _ _ _ _
      cases (c == Value.type "enumerate")
      · wp_walk using q1
        exact ⟨_, rfl, h⟩
      · wp_walk using q1
        exact ⟨_, rfl, h⟩
    · wp_walk using q1
      exact ⟨_, rfl, h⟩
theorem enum1_begins {prog : Program} {w : World} {A : Around} {E : Value → Shared → Prop} {s : Shared} {v : Value} {o : Obj} {H : Heap → Prop} {Q : Value → Shared → Prop} (B : Begins v o H) (h1 : H s.heap)
    (h : ∀ h', IsEnum h' (s.heap.objs.size + 1) s.heap.objs.size 0 .none → h'.get? s.heap.objs.size = some o → h'.objs.size = s.heap.objs.size + 2 → (∀ b o, s.heap.get? b = some o → h'.get? b = some o) → Q (.ref (s.heap.objs.size + 1)) { s with heap := h' }) :
    wpAny (model prog w) A (call (.type "enumerate") [v]) Q E s := by
  refine callType_new F.called_enumerate (by decide) (F.typeCall_enumerate_1 _) (F.newCall_enumerate_1 _) (fun obj => F.args_object_init_2 obj _) F.entry_enumerate_new (enum1_meets B) ⟨h1, ?_⟩
  have hz : (s.heap.push o).objs.size = s.heap.objs.size + 1 := Heap.size_push ..
  show _ ∧ _
  rw [hz]
  have he := Heap.get?_push_size (s.heap.push o) (o := { cls := .type "enumerate", data := .fields #[.none, .bool false, .ref s.heap.objs.size, rawInt 0, .none, .none] }) rfl
  rw [hz] at he
  exact ⟨⟨_, he, rfl⟩, h _ he (Heap.get?_push_of_some _ (Heap.get?_push_size _ B.free)) (by rw [Heap.size_push, hz]) fun b o x => Heap.get?_push_of_some _ (Heap.get?_push_of_some _ x)⟩
def iEnumB (K : PySem.W.Frag) (l : Bool) (ta : TA) : TI := fun σ H R => ta σ H fun vs H1 => ∃ a xs, vs = [.ref a] ∧ SqB K l H1 a xs ∧ R (IteB K l 0 a) H1
theorem pi_enumB {X : Cx} {e : Expr} {ta : TA} {p pos tpos : Pos} {elts : List Expr} {kk : Nat} (l : Bool) (hg : Gl X "enumerate") (hm : X.mg "enumerate" = none) (ha : PA X [e] ta) (hs : starEach [e] X.env = [(false, eval e X.env)] := by rfl) :
    PI X (.Tuple elts kk tpos) (.Call (.Name "enumerate" p) [e] [] pos) (iEnumB X.K l ta) := by
  refine ⟨fun pins s σ H R I h => ?_⟩
  refine Call_ (ld_blt I hg hm boot_enumerate (PyProof.Rows.callWith_type1 (thn (ha.run pos pins s σ H _ I h) fun us s1 ⟨vs, H1, I1, r1, q1⟩ => ?_) hs rfl))
  obtain ⟨a, xs, rfl, hq, q⟩ := q1
  obtain ⟨u, rfl, ru⟩ := vals1 r1
  cases ru
  obtain ⟨its, rv, p1⟩ := inv_seqB I1 hq
  exact enum1_begins (beginsB l a its.toArray) p1 fun h' he hi hsz hk => wpAny_pyIter_enum he (enumB_ready I1 (ownB_lt p1) he hi hk q)
end FP
set_option Elab.async false
set_option linter.all false
set_option maxRecDepth 100000
set_option maxHeartbeats 4000000
/-! is_name, lines_of, fits: their promises. -/
namespace FP
open PySem PySem.Spec PyProof.Rows L2
theorem _root_.L2.Same.new {H H' : Hp} {p : Addr} {o : HO} (a : Same H H') (hp : H' p = none) : Same H (upd H' p o) := fun b u e => (upd_ne (ne_of_none (a b u e) hp)).trans (a b u e)
/-- the built-ins by which the reader goes -/
structure Blt2 (mg : Str → Option Value) : Prop where
  len : mg "len" = none
  all : mg "all" = none
  zip : mg "zip" = none
  enum : mg "enumerate" = none
  list : mg "list" = none
  tuple : mg "tuple" = none
/-- the reader's names -/
structure WordsAt (K : PySem.W.Frag) (mg : Str → Option Value) (aW : Addr) : Prop where
  g : mg "WORDS" = some (.ref aW)
  s : ∀ H, SqT K H aW (wordsL.map V.str)
  l : ∃ t, mg "LONGEST_NAME" = some (.int 12 t)
theorem inV_strs (x : Str) (l : List Str) : inV (.str x) (l.map V.str) = l.contains x := by
  unfold inV
  rw [List.any_map]
  induction l with
  | nil => rfl
  | cons y r ih => 
    rw [List.any_cons, List.contains_cons, ih]
    show ((y == x) || _) = _
    rw [Bool.beq_comm (a := x)]
theorem flat_strs : ∀ l : List Str, (l.map V.str).all flatV = true
  | [] => rfl
  | _ :: r => by
    rw [List.map_cons, List.all_cons, flat_strs r]
    rfl
theorem letter_of (c : Nat) : letter c = (!decide ((⟨#[c]⟩ : Str).cps.toList < ("a" : Str).cps.toList) && !decide (("z" : Str).cps.toList < (⟨#[c]⟩ : Str).cps.toList)) := by
  have e1 : ("a" : Str).cps.toList = [97] := rfl
  have e2 : ("z" : Str).cps.toList = [122] := rfl
  have h : ∀ a b : Nat, decide ([a] < [b]) = decide (a < b) := fun a b => by
    refine decide_eq_decide.mpr ?_
    constructor
    · intro h
      cases h with
      | rel h => exact h
      | cons h => cases h
    · exact fun h => List.Lex.rel h
  rw [e1, e2, h, h]
  unfold letter
  by_cases z1 : c < 97 <;> by_cases z2 : 122 < c <;> simp [z1, z2] <;> omega
/-- True just for names -/
def spIsName : Sp := fun vs H Q _ => ∃ x : Str, vs = [.str x] ∧ x.length ≤ 1000000 ∧ ∀ H', Same H H' → Q (.bl (isName x)) H'
section
variable {P : Program} {w : World} {K : PySem.W.Frag} {mg : Str → Option Value} {base : Heap}
theorem scIN : FnScope ["text", "letter"] ["text"] (defScope sIsName) := ⟨rfl, rfl, rfl, by decide +kernel, rfl, by decide +kernel, by decide +kernel⟩
theorem ok_isName {f aW : Addr} {fd : FuncData} (F : Fun K "is_name" "is_name" sIsName f fd) (B : Blt2 mg) (W : WordsAt K mg aW) : FnOk P w K mg base CX0 1 f fd ["text"] spIsName := by
  obtain ⟨tL, gL⟩ := W.l
  refine F.ok scIN (fun vs H Q E h => ?_) (fun cdv A outer s H vs Q E hr h => ?_)
  · obtain ⟨x, rfl, _⟩ := h
    rfl
  obtain ⟨x, rfl, hx, k⟩ := h
  refine ⟨_, pss_cons (ps_if (PW.pt (pw_or (pt_cmpR op_in_seq (pv 0) (pe_glob (v := .ref aW) (by rfl) W.g rfl) (by rfl))
      (pw_or1 (pt_not (pt_chain op_le op_le pe_int (pe_callB call_len_str (by rfl) B.len boot_len (pa_cons (pv 0) pa_nil)) (pe_glob (v := .int 12) (by rfl) gL ⟨_, rfl⟩)))))) (pss_one (ps_ret pe_bl)) pss_nil)
    (pss_one (ps_ret (pe_callB (cr_all (by rfl)) (by rfl) B.all (by decide +kernel) (pa_cons (pe_lc (own := [("letter", 1)]) (g := gName 1) (by rfl) scIN.nd (pi_str (pv 0)) (blkOk_by (own := [("letter", 1)]) (N := ["text", "letter"]) (sc := defScope sIsName) (by decide +kernel)) (fun _ _ _ _ _ => pg_name (i := 1) scIN.nd rfl (Or.inl rfl))
          (fun _ _ _ _ _ => pts_nil) (fun _ _ _ _ _ => pe_chain op_le_str op_le_str pe_str (pv 1) pe_str)) pa_nil)))), ?_⟩
  refine ⟨_, rfl, aW, _, rfl, .inr (W.s H), rfl, flat_strs _, ?_⟩
  have e0 : (if false = true then !inV (.str x) (wordsL.map V.str) else inV (.str x) (wordsL.map V.str)) = wordsL.contains x := inV_strs x wordsL
  rw [e0]
  have hz : x.length ≤ sizeLine := by rw [sizeLine_eq]; omega
  have hn : isName x = (!(wordsL.contains x) && (decide (1 ≤ x.length) && decide (x.length ≤ 12)) && x.cps.toList.all letter) := rfl
  refine ⟨_, rfl, ?_⟩
  cases hc : wordsL.contains x
  · have case : ∀ (c1 c2 : Bool), c1 = decide (1 ≤ x.length) → c2 = decide (x.length ≤ 12) → (c1 && c2) = false → ∀ H', Same H H' → Q (.bl false) H' := fun c1 c2 e1 e2 e3 H' S => by
      have := k H' S
      rw [hn, ← e1, ← e2, e3, Bool.and_false, Bool.false_and] at this
      exact this
    refine iteF ⟨_, rfl, x, rfl, hz, _, _, rfl, rfl, _, rfl, ?_⟩
    refine ite2 (fun c1 => ?_) fun c1 => ?_
    · refine ⟨_, _, rfl, rfl, _, rfl, ?_⟩
      by_cases c2 : x.length ≤ 12
      · have d2 : decide ((x.length : Int) ≤ 12) = true := decide_eq_true (by omega)
        rw [d2]
        refine iteF ?_
        have h1 : 1 ≤ x.length := by have := of_decide_eq_true c1; omega
        refine ⟨_, rfl, x, rfl, fun D hD => lc_it walk_str (fun n H' => Same H H' ∧ H' D = some (.lst (((x.cps.toList.take n).map letter).map V.bl))) ⟨Same.new (Same.refl H) hD, upd_same⟩ (fun _ _ _ _ => trivial) ?_ ?_⟩
        · rintro n v H' H'' hn' ⟨S1, eD⟩ ⟨rfl, c, hc', rfl⟩
          have hcl : x.cps.toList[n]? = some c := by simpa using hc'
          refine ⟨rfl, ?_⟩
          refine ⟨_, rfl, _, _, rfl, rfl, _, rfl, ?_⟩
          have hfin : ∀ b : Bool, b = letter c → ∃ acc, H'' D = some (.lst acc) ∧ acc.length < sizeLine ∧ (Same H (upd H'' D (.lst (acc ++ [V.bl b]))) ∧ (upd H'' D (.lst (acc ++ [V.bl b]))) D = some (.lst (((x.cps.toList.take (n + 1)).map letter).map V.bl))) := fun b hb => by
            refine ⟨_, eD, ?_, ?_, ?_⟩
            · rw [List.length_map, List.length_map, List.length_take, sizeLine_eq]
              have : x.cps.toList.length = x.length := by simp [Str.length]
              omega
            · intro a o e
              rw [upd_ne (ne_of_none e hD)]
              exact S1 a o e
            · rw [upd_same, List.take_add_one, hcl, hb]
              simp
          cases e1 : decide ((⟨#[c]⟩ : Str).cps.toList < ("a" : Str).cps.toList)
          · refine iteT ⟨_, _, rfl, rfl, hfin _ ?_⟩
            rw [letter_of, e1]
            simp
          · refine iteF (hfin _ ?_)
            rw [letter_of, e1]
            simp
        · rintro H' ⟨S1, eD⟩
          refine ⟨D, x.cps.toList.map letter, rfl, SqL.of ?_, ?_⟩
          · rw [eD, show x.cps.size = x.cps.toList.length from (Array.length_toList).symm, List.take_length]
          · have := k H' S1
            rw [hn, hc, decide_eq_true h1, decide_eq_true c2] at this
            have e : (x.cps.toList.map letter).all id = x.cps.toList.all letter := by rw [List.all_map]; rfl
            rw [e]
            exact this
      · have d2 : decide ((x.length : Int) ≤ 12) = false := decide_eq_false (by omega)
        rw [d2]
        exact iteT (case _ _ rfl rfl (by rw [decide_eq_false c2, Bool.and_false]) H (Same.refl H))
    · refine ⟨_, rfl, iteT (case _ _ rfl rfl ?_ H (Same.refl H))⟩
      have : ¬ 1 ≤ x.length := fun z => c1 (decide_eq_true (by omega))
      rw [decide_eq_false this, Bool.false_and]
  · have : isName x = false := by rw [hn, hc]; rfl
    rw [this] at k
    exact iteT (iteT (k H (Same.refl H)))
end
end FP
set_option Elab.async false
set_option linter.all false
set_option maxRecDepth 100000
set_option maxHeartbeats 4000000
namespace FP
open PySem PySem.Spec PyProof.Rows L2
/-- the lines of a text: a new list -/
def spLines : Sp := fun vs H Q _ => ∃ x : Str, vs = [.str x] ∧ x.length ≤ 1000000 ∧ ∀ l H', H l = none → Same H H' → H' l = some (.lst ((linesM x).map V.str)) → Q (.ref l) H'
/-- whether the words have the form -/
def spFits (K : PySem.W.Frag) : Sp := fun vs H Q _ => ∃ (a b : Addr) (ws fs : List Str), vs = [.ref a, .ref b] ∧ H a = some (.lst (ws.map V.str)) ∧ (∀ H, SqT K H b (fs.map V.str)) ∧ ws.length ≤ 1000000 ∧ fs.length ≤ 1000000 ∧
  ∀ H', Same H H' → Q (.bl (fitsM ws fs)) H'
section
variable {P : Program} {w : World} {K : PySem.W.Frag} {mg : Str → Option Value} {base : Heap}
theorem scLO : FnScope ["text"] ["text"] (defScope sLines) := ⟨rfl, rfl, rfl, by decide +kernel, rfl, by decide +kernel, by decide +kernel⟩
theorem ok_lines {f : Addr} {fd : FuncData} (F : Fun K "lines_of" "lines_of" sLines f fd) : FnOk P w K mg base CX0 1 f fd ["text"] spLines := by
  refine F.ok scLO (fun vs H Q E h => ?_) (fun cdv A outer s H vs Q E hr h => ?_)
  · obtain ⟨x, rfl, _⟩ := h
    rfl
  obtain ⟨x, rfl, hx, k⟩ := h
  refine ⟨_, pss_cons (ps_if (pt_cmpR op_eq (pv 0) pe_str (nomark _)) (pss_one (ps_ret (pe_lst pa_nil))) pss_nil)
    (pss_one (ps_ret (pe_split (pv 0) pe_str))), ?_⟩
  refine ⟨_, rfl, rfl, _, rfl, ?_⟩
  refine ite2 (fun c => ?_) fun c => ?_
  · have e : x = "" := V.str.inj (of_decide_eq_true c)
    refine ⟨Nat.zero_le _, fun l hl => k l _ hl (Same.new (Same.refl H) hl) ?_⟩
    rw [upd_same, e]
    rfl
  · have e : x ≠ "" := fun z => c (decide_eq_true (by rw [z]))
    refine ⟨_, rfl, ⟨_, rfl⟩, x, _, rfl, rfl, rfl, ?_, fun l hl => k l _ hl (Same.new (Same.refl H) hl) ?_⟩
    · rw [sizeLine_eq]; omega
    · rw [upd_same]
      unfold linesM
      rw [if_neg e]
theorem scFI : FnScope ["words", "form", "word", "part"] ["words", "form"] (defScope sFits) := ⟨rfl, rfl, rfl, by decide +kernel, rfl, by decide +kernel, by decide +kernel⟩
theorem ok_fits {f : Addr} {fd : FuncData} (F : Fun K "fits" "fits" sFits f fd) (B : Blt2 mg) : FnOk P w K mg base CX0 1 f fd ["words", "form"] (spFits K) := by
  refine F.ok scFI (fun vs H Q E h => ?_) (fun cdv A outer s H vs Q E hr h => ?_)
  · obtain ⟨a, b, ws, fs, rfl, _⟩ := h
    rfl
  obtain ⟨a, b, ws, fs, rfl, ha, hb, hw, hf, k⟩ := h
  refine ⟨_, pss_cons (ps_if (pt_cmpR op_ne (pe_callB call_len_seq (by rfl) B.len boot_len (pa_cons (pv 0) pa_nil)) (pe_callB call_len_seq (by rfl) B.len boot_len (pa_cons (pv 1) pa_nil)) (nomark _)) (pss_one (ps_ret pe_bl)) pss_nil)
    (pss_one (ps_ret (pe_callB (cr_all (by rfl)) (by rfl) B.all (by decide +kernel) (pa_cons (pe_lc (own := [("word", 2), ("part", 3)]) (g := gTup K 2 (gCons (gName 2) (gCons (gName 3) gNil))) (tt := tYes) (te := tOp (rIn K false) (tVar 3) (tTup (tCons (tC (.str "")) (tCons (tVar 2) tNil)))) (by rfl) scFI.nd (pi_zipB true false (by rfl) B.zip (pa_cons (pv 0) (pa_cons (pv 1) pa_nil))) (blkOk_by (own := [("word", 2), ("part", 3)]) (N := ["words", "form", "word", "part"]) (sc := defScope sFits) (by decide +kernel))
      (fun _ _ _ _ _ => pg_tup (by rfl) (pgs_cons (pg_name (i := 2) scFI.nd rfl (Or.inl rfl)) (pgs_cons (pg_name (i := 3) scFI.nd rfl (Or.inl rfl)) pgs_nil)))
          (fun _ _ _ _ _ => pts_nil) (fun _ _ _ _ _ => pe_cmpR op_in_seq (pv 3) (pe_tup (pa_cons pe_str (pa_cons (pv 2) pa_nil))) (by rfl))) pa_nil)))), ?_⟩
  refine ⟨_, rfl, a, _, rfl, .inl (SqL.of ha), _, rfl, b, _, rfl, .inr (hb H), rfl, _, rfl, ?_⟩
  rw [List.length_map, List.length_map]
  refine ite2 (fun c => ?_) fun c => ?_
  · have hne : ws.length ≠ fs.length := fun z => by
      rw [z] at c
      simp at c
    have e : fitsM ws fs = false := by unfold fitsM; rw [decide_eq_false hne, Bool.false_and]
    rw [e] at k
    exact k H (Same.refl H)
  · have he : ws.length = fs.length := by
      have : decide (V.int (ws.length : Nat) = V.int (fs.length : Nat)) = true := by simpa using c
      have := V.int.inj (of_decide_eq_true this)
      omega
    have hk : fitsM ws fs = ((ws.zip fs).map fun p => p.2 == ("" : Str) || p.2 == p.1).all id := by
      unfold fitsM
      rw [decide_eq_true he, Bool.true_and, List.all_map]
      rfl
    rw [hk] at k
    refine ⟨_, rfl, _, rfl, a, b, _, _, rfl, SqL.of ha, hb H, fun D hD => lc_it (walk_zipB (n := ws.length) (xs := ws.map V.str) (ys := fs.map V.str) (by simp) (by simp [he]))
      (fun n H' => Same H H' ∧ H' D = some (.lst ((((ws.zip fs).map fun p => p.2 == ("" : Str) || p.2 == p.1).take n).map V.bl))) ⟨Same.new (Same.refl H) hD, upd_same⟩ (fun _ H' _ z => ⟨SqL.of (z.1 _ _ ha), hb H'⟩) ?_ ?_⟩
    · rintro n v H' H'' hn' ⟨S1, eD⟩ ⟨T, x, y, rfl, hT, rfl, hx, hy⟩
      have hfn : n < fs.length := by omega
      replace hx : (ws.map V.str)[n]? = some x := hx
      replace hy : (fs.map V.str)[n]? = some y := hy
      rw [List.getElem?_map, List.getElem?_eq_getElem hn'] at hx
      rw [List.getElem?_map, List.getElem?_eq_getElem hfn] at hy
      obtain rfl : V.str ws[n] = x := Option.some.inj hx
      obtain rfl : V.str fs[n] = y := Option.some.inj hy
      have eD2 : (upd H' T (.tup [.str ws[n], .str fs[n]])) D = _ := (upd_ne (ne_of_none eD hT)).trans eD
      refine ⟨T, _, rfl, SqT.of upd_same, rfl, _, _, rfl, _, _, rfl, rfl, rfl, _, rfl, _, rfl, (by show 2 ≤ sizeLine; decide), fun p hp => ⟨p, _, rfl, .inr (SqT.of upd_same), rfl, rfl, _, (upd_ne (ne_of_none eD2 hp)).trans eD2, ?_, ?_, ?_⟩⟩
      · rw [List.length_map, List.length_take, List.length_map, List.length_zip, sizeLine_eq]
        omega
      · intro c o e
        rw [upd_ne (ne_of_none e hD)]
        have e1 := S1 c o e
        have e2 := (upd_ne (o := .tup [.str ws[n], .str fs[n]]) (ne_of_none e1 hT)).trans e1
        exact (upd_ne (ne_of_none e2 hp)).trans e2
      · have e : ((ws.zip fs).map fun p => p.2 == ("" : Str) || p.2 == p.1)[n]? = some (fs[n] == ("" : Str) || fs[n] == ws[n]) := by
          rw [List.getElem?_map, List.getElem?_eq_getElem (by rw [List.length_zip]; omega), List.getElem_zip]
          rfl
        rw [upd_same, List.take_add_one, e, List.map_append]
        have ei : (if false = true then !inV (V.str fs[n]) [V.str "", V.str ws[n]] else inV (V.str fs[n]) [V.str "", V.str ws[n]]) = (fs[n] == ("" : Str) || fs[n] == ws[n]) := by
          show (("" : Str) == fs[n] || (ws[n] == fs[n] || false)) = _
          rw [Bool.or_false, Bool.beq_comm (a := ("" : Str)), Bool.beq_comm (a := ws[n])]
        rw [ei]
        rfl
    · rintro H' ⟨S1, eD⟩
      refine ⟨D, _, rfl, SqL.of ?_, k H' S1⟩
      rw [eD, List.take_of_length_le]
      simp
      omega
end
end FP
set_option Elab.async false
set_option linter.all false
set_option maxRecDepth 100000
set_option maxHeartbeats 4000000
/-! A Row, a Sheet in the heap; what changes of them. -/
namespace FP
open PySem PySem.Spec PyProof.Rows L2
def rowF (m : RowM) (t : Addr) : List (Str × V) := [("word", .str m.word), ("names", .ref t), ("after", .int (m.after : Nat)), ("other", .int (m.other : Nat))]
def RowAt (Cr : Addr) (H : Hp) (r : Addr) (m : RowM) : Prop := ∃ dx t, H r = some (.ins Cr dx (rowF m t)) ∧ H t = some (.tup (m.names.map V.str))
/-- where the parts of a sheet lie -/
structure Pt where
  R : Addr
  h : Addr
  ar : Addr
  n : Addr
  ras : List Addr
def shF (p : Pt) : List (Str × V) := [("rows", .ref p.R), ("homes", .ref p.h), ("around", .ref p.ar), ("_nest", .ref p.n)]
def homesV (l : List (Str × Nat)) : List (Key × V) := l.map fun q => (Sum.inr q.1, V.int (q.2 : Nat))
def aroundV (l : List (Nat × Nat)) : List (Key × V) := l.map fun q => (Sum.inl (q.1 : Int), V.int (q.2 : Nat))
def natsV (l : List Nat) : List V := l.map fun k => V.int (k : Nat)
/-- the sheet M at s, of parts p that are new since H0 -/
structure ShAt (Cr Cs : Addr) (H0 H : Hp) (s : Addr) (p : Pt) (M : ShM) : Prop where
  sh : ∃ dx, H s = some (.ins Cs dx (shF p))
  R : H p.R = some (.lst (p.ras.map V.ref))
  h : H p.h = some (.dK (homesV M.homes))
  ar : H p.ar = some (.dK (aroundV M.around))
  n : H p.n = some (.lst (natsV M.nest))
  len : p.ras.length = M.rows.length
  rows : ∀ (i : Nat) r m, p.ras[i]? = some r → M.rows[i]? = some m → RowAt Cr H r m
  nd : p.ras.Nodup
  Rn : p.R ≠ p.n
  har : p.h ≠ p.ar
  sr : s ∉ p.ras
  fR : H0 p.R = none
  fh : H0 p.h = none
  far : H0 p.ar = none
  fn : H0 p.n = none
  fr : ∀ r ∈ p.ras, H0 r = none
  same : Same H0 H
section
variable {Cr Cs s r a : Addr} {H H' H0 H1 : Hp} {p : Pt} {M : ShM} {m : RowM} {o o' : HO}
theorem RowAt.grow (h : RowAt Cr H r m) (S : Same H H') : RowAt Cr H' r m := by
  obtain ⟨dx, t, e1, e2⟩ := h
  exact ⟨dx, t, S _ _ e1, S _ _ e2⟩
/-- neither an object nor a tuple -/
def plainO : HO → Bool
  | .lst _ => true
  | .dK _ => true
  | _ => false
theorem RowAt.upd (h : RowAt Cr H r m) (ha : H a = some o) (hp : plainO o = true) : RowAt Cr (L2.upd H a o') r m := by
  obtain ⟨dx, t, e1, e2⟩ := h
  refine ⟨dx, t, (upd_ne (ne_of e1 ha ?_)).trans e1, (upd_ne (ne_of e2 ha ?_)).trans e2⟩
  · rintro rfl; cases hp
  · rintro rfl; cases hp
theorem Same.put (S : Same H0 H) (h0 : H0 a = none) : Same H0 (L2.upd H a o) := fun b u e => (upd_ne (ne_of_none e h0)).trans (S b u e)
theorem ShAt.grow (A : ShAt Cr Cs H0 H s p M) (S : Same H H') : ShAt Cr Cs H0 H' s p M :=
  ⟨let ⟨dx, e⟩ := A.sh; ⟨dx, S _ _ e⟩, S _ _ A.R, S _ _ A.h, S _ _ A.ar, S _ _ A.n, A.len, fun i r m h1 h2 => (A.rows i r m h1 h2).grow S, A.nd, A.Rn, A.har, A.sr, A.fR, A.fh, A.far, A.fn, A.fr, A.same.trans S⟩
/-- seen from a later beginning -/
theorem ShAt.root (A : ShAt Cr Cs H0 H s p M) (ha : H a = none) : ShAt Cr Cs (L2.upd H0 a o) (L2.upd H a o) s p M := by
  have B := A.grow (Same.new (o := o) (Same.refl H) ha)
  have ne : ∀ {b u}, H b = some u → H0 b = none → (L2.upd H0 a o) b = none := fun e e0 => (upd_ne (ne_of_none e ha)).trans e0
  refine ⟨B.sh, B.R, B.h, B.ar, B.n, B.len, B.rows, B.nd, B.Rn, B.har, B.sr, ne A.R A.fR, ne A.h A.fh, ne A.ar A.far, ne A.n A.fn, fun r hr => ?_, fun b u e => ?_⟩
  · obtain ⟨i, hi⟩ := List.mem_iff_getElem?.mp hr
    have hl : i < M.rows.length := by rw [← A.len]; exact (List.getElem?_eq_some_iff.mp hi).1
    obtain ⟨dx, t, e1, _⟩ := A.rows i r _ hi (List.getElem?_eq_getElem hl)
    exact ne e1 (A.fr r hr)
  · by_cases z : b = a
    · subst z
      rw [upd_same] at e ⊢
      exact e
    · rw [upd_ne z] at e ⊢
      exact A.same b u e
/-- seen from an earlier beginning -/
theorem ShAt.back (A : ShAt Cr Cs H1 H s p M) (S : Same H0 H1) : ShAt Cr Cs H0 H s p M := by
  have ne : ∀ {b}, H1 b = none → H0 b = none := fun e => S.free e
  exact ⟨A.sh, A.R, A.h, A.ar, A.n, A.len, A.rows, A.nd, A.Rn, A.har, A.sr, ne A.fR, ne A.fh, ne A.far, ne A.fn, fun r hr => ne (A.fr r hr), S.trans A.same⟩
theorem ShAt.setN (A : ShAt Cr Cs H0 H s p M) (l : List Nat) : ShAt Cr Cs H0 (L2.upd H p.n (.lst (natsV l))) s p ⟨M.rows, M.homes, M.around, l⟩ := by
  obtain ⟨dx, es⟩ := A.sh
  refine ⟨⟨dx, (upd_ne (ne_of es A.n (by intro z; cases z))).trans es⟩, (upd_ne A.Rn).trans A.R, (upd_ne (ne_of A.h A.n (by intro z; cases z))).trans A.h, (upd_ne (ne_of A.ar A.n (by intro z; cases z))).trans A.ar, upd_same, A.len, fun i r m h1 h2 => (A.rows i r m h1 h2).upd A.n rfl,
    A.nd, A.Rn, A.har, A.sr, A.fR, A.fh, A.far, A.fn, A.fr, Same.put A.same A.fn⟩
theorem ShAt.setHomes (A : ShAt Cr Cs H0 H s p M) (l : List (Str × Nat)) : ShAt Cr Cs H0 (L2.upd H p.h (.dK (homesV l))) s p ⟨M.rows, l, M.around, M.nest⟩ := by
  obtain ⟨dx, es⟩ := A.sh
  refine ⟨⟨dx, (upd_ne (ne_of es A.h (by intro z; cases z))).trans es⟩, (upd_ne (ne_of A.R A.h (by intro z; cases z))).trans A.R, upd_same, (upd_ne A.har.symm).trans A.ar, (upd_ne (ne_of A.n A.h (by intro z; cases z))).trans A.n, A.len, fun i r m h1 h2 => (A.rows i r m h1 h2).upd A.h rfl,
    A.nd, A.Rn, A.har, A.sr, A.fR, A.fh, A.far, A.fn, A.fr, Same.put A.same A.fh⟩
theorem ShAt.setAround (A : ShAt Cr Cs H0 H s p M) (l : List (Nat × Nat)) : ShAt Cr Cs H0 (L2.upd H p.ar (.dK (aroundV l))) s p ⟨M.rows, M.homes, l, M.nest⟩ := by
  obtain ⟨dx, es⟩ := A.sh
  refine ⟨⟨dx, (upd_ne (ne_of es A.ar (by intro z; cases z))).trans es⟩, (upd_ne (ne_of A.R A.ar (by intro z; cases z))).trans A.R, (upd_ne A.har).trans A.h, upd_same, (upd_ne (ne_of A.n A.ar (by intro z; cases z))).trans A.n, A.len, fun i r m h1 h2 => (A.rows i r m h1 h2).upd A.ar rfl,
    A.nd, A.Rn, A.har, A.sr, A.fR, A.fh, A.far, A.fn, A.fr, Same.put A.same A.far⟩
theorem ShAt.mem (A : ShAt Cr Cs H0 H s p M) (hr : r ∈ p.ras) : ∃ dx t m, H r = some (.ins Cr dx (rowF m t)) := by
  obtain ⟨i, hi⟩ := List.mem_iff_getElem?.mp hr
  have hl : i < M.rows.length := by rw [← A.len]; exact (List.getElem?_eq_some_iff.mp hi).1
  obtain ⟨dx, t, e1, _⟩ := A.rows i r _ hi (List.getElem?_eq_getElem hl)
  exact ⟨dx, t, _, e1⟩
theorem ShAt.addRow (A : ShAt Cr Cs H0 H s p M) (S : Same H H1) (hr : H r = none) (new : RowAt Cr H1 r m) : ShAt Cr Cs H0 (L2.upd H1 p.R (.lst ((p.ras ++ [r]).map V.ref))) s ⟨p.R, p.h, p.ar, p.n, p.ras ++ [r]⟩ ⟨M.rows ++ [m], M.homes, M.around, M.nest⟩ := by
  have B := A.grow S
  obtain ⟨dx, es⟩ := B.sh
  have nr : r ∉ p.ras := fun z => by
    obtain ⟨dx, t, m, e⟩ := A.mem z
    rw [hr] at e; cases e
  have ns : s ≠ r := fun z => by
    obtain ⟨dx, e⟩ := A.sh
    rw [z, hr] at e; cases e
  refine ⟨⟨dx, (upd_ne (ne_of es B.R (by intro z; cases z))).trans es⟩, upd_same, (upd_ne (ne_of B.h B.R (by intro z; cases z))).trans B.h, (upd_ne (ne_of B.ar B.R (by intro z; cases z))).trans B.ar, (upd_ne A.Rn.symm).trans B.n, ?_, fun i r' m' h1 h2 => ?_, ?_,
    A.Rn, A.har, ?_, A.fR, A.fh, A.far, A.fn, ?_, Same.put B.same A.fR⟩
  · rw [List.length_append, List.length_append, A.len]; rfl
  · refine RowAt.upd (o := .lst (p.ras.map V.ref)) ?_ B.R rfl
    by_cases c : i < p.ras.length
    · rw [List.getElem?_append_left c] at h1
      rw [List.getElem?_append_left (by rw [← A.len]; exact c)] at h2
      exact B.rows i r' m' h1 h2
    · have hi : i < (p.ras ++ [r]).length := (List.getElem?_eq_some_iff.mp h1).1
      rw [List.length_append, List.length_singleton] at hi
      have e : i = p.ras.length := by omega
      subst e
      rw [List.getElem?_append_right (Nat.le_refl _), Nat.sub_self] at h1
      rw [A.len, List.getElem?_append_right (Nat.le_refl _), Nat.sub_self] at h2
      cases h1
      cases h2
      exact new
  · rw [List.nodup_append]
    refine ⟨A.nd, by simp, fun x hx y hy => ?_⟩
    rw [List.mem_singleton.mp hy]
    exact fun z => nr (z ▸ hx)
  · rw [List.mem_append, List.mem_singleton]
    rintro (z | z)
    · exact A.sr z
    · exact ns z
  · intro x hx
    rcases List.mem_append.mp hx with z | z
    · exact A.fr x z
    · rw [List.mem_singleton.mp z]
      exact A.same.free hr
theorem ShAt.setRow {i : Nat} {dx t : Addr} {m' : RowM} (A : ShAt Cr Cs H0 H s p M) (h1 : p.ras[i]? = some r) (h2 : M.rows[i]? = some m) (e : H r = some (.ins Cr dx (rowF m t))) (et : H t = some (.tup (m.names.map V.str))) (hn : m'.names = m.names) :
    ShAt Cr Cs H0 (L2.upd H r (.ins Cr dx (rowF m' t))) s p ⟨M.rows.set i m', M.homes, M.around, M.nest⟩ := by
  have hi : i < p.ras.length := (List.getElem?_eq_some_iff.mp h1).1
  have hr : r ∈ p.ras := List.mem_iff_getElem?.mpr ⟨i, h1⟩
  obtain ⟨ds, es⟩ := A.sh
  have ns : s ≠ r := fun z => A.sr (z ▸ hr)
  refine ⟨⟨ds, (upd_ne ns).trans es⟩, (upd_ne (ne_of A.R e (by intro z; cases z))).trans A.R, (upd_ne (ne_of A.h e (by intro z; cases z))).trans A.h, (upd_ne (ne_of A.ar e (by intro z; cases z))).trans A.ar, (upd_ne (ne_of A.n e (by intro z; cases z))).trans A.n, ?_, fun j r' m2 g1 g2 => ?_,
    A.nd, A.Rn, A.har, A.sr, A.fR, A.fh, A.far, A.fn, A.fr, Same.put A.same (A.fr r hr)⟩
  · rw [List.length_set, A.len]
  · have tup : ∀ {b : Addr} {xs : List V}, H b = some (.tup xs) → (L2.upd H r (.ins Cr dx (rowF m' t))) b = some (.tup xs) := fun q => (upd_ne (ne_of q e (by intro z; cases z))).trans q
    by_cases c : j = i
    · subst c
      rw [h1] at g1
      cases g1
      rw [List.getElem?_set_self (by rw [← A.len]; exact hi)] at g2
      cases g2
      exact ⟨dx, t, upd_same, tup (by rw [hn]; exact et)⟩
    · rw [List.getElem?_set_ne (Ne.symm c)] at g2
      obtain ⟨d2, t2, q1, q2⟩ := A.rows j r' m2 g1 g2
      have nr : r' ≠ r := fun z => by
        subst z
        exact c ((List.getElem?_inj (List.getElem?_eq_some_iff.mp g1).1 A.nd).mp (g1.trans h1.symm))
      exact ⟨d2, t2, (upd_ne nr).trans q1, tup q2⟩
end
end FP
set_option Elab.async false
set_option linter.all false
set_option maxRecDepth 100000
set_option maxHeartbeats 4000000
namespace FP
open PySem PySem.Spec PyProof.Rows L2
/-- what the classes are -/
structure ShTxt (K : PySem.W.Frag) (mg : Str → Option Value) (Cr Cs : Addr) : Prop where
  cr : Cls K Cr
  cs : Cls K Cs
  gr : mg "Row" = some (.ref Cr)
  gs : mg "Sheet" = some (.ref Cs)
  rw_ : NoAttr K Cr "word"
  rn : NoAttr K Cr "names"
  ra : NoAttr K Cr "after"
  ro : NoAttr K Cr "other"
  sr : NoAttr K Cs "rows"
  sh : NoAttr K Cs "homes"
  sa : NoAttr K Cs "around"
  sn : NoAttr K Cs "_nest"
/-- a method and its promise -/
structure MDef (P : Program) (w : World) (K : PySem.W.Frag) (mg : Str → Option Value) (base : Heap) (C : Addr) (x : Str) (k : Nat) (ps : List Str) (sp : Sp) : Prop where
  ex : ∃ (f : Addr) (fd : FuncData), Meth K C x f ∧ Binds K fd ps [] ∧ FnOk P w K mg base CX0 k f fd ps sp
/-- a class that is made by this __init__ -/
structure CDef (P : Program) (w : World) (K : PySem.W.Frag) (mg : Str → Option Value) (base : Heap) (C : Addr) (k : Nat) (ps : List Str) (sp : Sp) : Prop where
  ex : ∃ (f : Addr) (fd : FuncData), Mk K C f ∧ Binds K fd ps [] ∧ FnOk P w K mg base CX0 k f fd ps sp
theorem lkR1 (m : RowM) (t : Addr) : (rowF m t).lookup ("word" : Str) = some (.str m.word) := rfl
theorem lkR2 (m : RowM) (t : Addr) : (rowF m t).lookup ("names" : Str) = some (.ref t) := rfl
theorem lkR3 (m : RowM) (t : Addr) : (rowF m t).lookup ("after" : Str) = some (.int (m.after : Nat)) := rfl
theorem lkR4 (m : RowM) (t : Addr) : (rowF m t).lookup ("other" : Str) = some (.int (m.other : Nat)) := rfl
theorem ptR3 (m : RowM) (t : Addr) (k : Nat) : putF "after" (.int (k : Nat)) (rowF m t) = rowF { m with after := k } t := rfl
theorem ptR4 (m : RowM) (t : Addr) (k : Nat) : putF "other" (.int (k : Nat)) (rowF m t) = rowF { m with other := k } t := rfl
theorem lkS1 (p : Pt) : (shF p).lookup ("rows" : Str) = some (.ref p.R) := rfl
theorem lkS2 (p : Pt) : (shF p).lookup ("homes" : Str) = some (.ref p.h) := rfl
theorem lkS3 (p : Pt) : (shF p).lookup ("around" : Str) = some (.ref p.ar) := rfl
theorem lkS4 (p : Pt) : (shF p).lookup ("_nest" : Str) = some (.ref p.n) := rfl
def spRow (Cr : Addr) : Sp := fun vs H Q _ => ∃ (x dx t : Addr) (wd : Str) (k : Nat), vs = [.ref x, .str wd, .ref t, .int (k : Nat)] ∧ H x = some (.ins Cr dx []) ∧
  ∀ H', H' x = some (.ins Cr dx [("word", .str wd), ("names", .ref t), ("after", .int ((k + 1 : Nat) : Int)), ("other", .int ((0 : Nat) : Int))]) → (∀ b, b ≠ x → H' b = H b) → Q .non H'
section
variable {P : Program} {w : World} {K : PySem.W.Frag} {mg : Str → Option Value} {base : Heap} {Cr Cs : Addr}
theorem scRI : FnScope ["self", "word", "names", "number"] ["self", "word", "names", "number"] (defScope mRow_init) := ⟨rfl, rfl, rfl, by decide +kernel, rfl, by decide +kernel, by decide +kernel⟩
theorem ok_rowInit {f : Addr} {fd : FuncData} (F : Fun K "__init__" "Row.__init__" mRow_init f fd) (T : ShTxt K mg Cr Cs) : FnOk P w K mg base CX0 1 f fd ["self", "word", "names", "number"] (spRow Cr) := by
  refine F.ok scRI (fun vs H Q E h => ?_) (fun cdv A outer s H vs Q E hr h => ?_)
  · obtain ⟨x, dx, t, wd, k, rfl, _⟩ := h
    rfl
  obtain ⟨x, dx, t, wd, k, rfl, hx, q⟩ := h
  refine ⟨_, pss_cons (ps_fld (pv 0) (pv 1) rfl) (pss_cons (ps_fld (pv 0) (pv 2) rfl) (pss_cons (ps_fld (pv 0) (pe_op op_add (pv 3) pe_int) rfl) (pss_one (ps_fld (pv 0) pe_int rfl)))), ?_⟩
  refine ⟨_, rfl, _, rfl, x, Cr, dx, _, rfl, hx, T.cr, T.rw_, (by show 0 < 1000; decide), ?_⟩
  refine ⟨_, rfl, _, rfl, x, Cr, dx, _, rfl, upd_same, T.cr, T.rn, (by show 1 < 1000; decide), ?_⟩
  refine ⟨_, rfl, _, _, rfl, rfl, _, rfl, x, Cr, dx, _, rfl, upd_same, T.cr, T.ra, (by show 2 < 1000; decide), ?_⟩
  refine ⟨_, rfl, x, Cr, dx, _, rfl, upd_same, T.cr, T.ro, (by show 3 < 1000; decide), ?_⟩
  exact q _ upd_same fun b hb => by rw [upd_ne hb, upd_ne hb, upd_ne hb, upd_ne hb]
theorem scSC : FnScope ["self"] ["self"] (defScope mSheet_is_closed) := ⟨rfl, rfl, rfl, by decide +kernel, rfl, by decide +kernel, by decide +kernel⟩
def spClosed (Cr Cs : Addr) : Sp := fun vs H Q _ => ∃ (s : Addr) (H0 : Hp) (p : Pt) (M : ShM), vs = [.ref s] ∧ ShAt Cr Cs H0 H s p M ∧ Q (.bl (decide (M.nest.length = 1))) H
theorem natsV_len (l : List Nat) : (natsV l).length = l.length := List.length_map ..
theorem ok_closed {f : Addr} {fd : FuncData} (F : Fun K "is_closed" "Sheet.is_closed" mSheet_is_closed f fd) (T : ShTxt K mg Cr Cs) (B : Blt2 mg) : FnOk P w K mg base CX0 1 f fd ["self"] (spClosed Cr Cs) := by
  refine F.ok scSC (fun vs H Q E h => ?_) (fun cdv A outer s H vs Q E hr h => ?_)
  · obtain ⟨s, H0, p, M, rfl, _⟩ := h
    rfl
  obtain ⟨s, H0, p, M, rfl, A0, q⟩ := h
  obtain ⟨dx, es⟩ := A0.sh
  refine ⟨_, pss_one (ps_ret (pe_cmpR op_eq (pe_callB call_len_seq (by rfl) B.len boot_len (pa_cons (pe_fld (pv 0) rfl) pa_nil)) pe_int (nomark _))), ?_⟩
  refine ⟨_, rfl, s, Cs, dx, _, _, rfl, es, T.cs, T.sn, lkS4 p, p.n, _, rfl, .inl (SqL.of A0.n), rfl, ?_⟩
  have e : decide (V.int ((natsV M.nest).length : Nat) = V.int 1) = decide (M.nest.length = 1) := by
    rw [natsV_len]
    refine decide_eq_decide.mpr ⟨fun z => by have := V.int.inj z; omega, fun z => by rw [z]; rfl⟩
  rw [e]
  exact q
end
end FP
set_option Elab.async false
set_option linter.all false
set_option maxRecDepth 100000
set_option maxHeartbeats 4000000
namespace FP
open PySem PySem.Spec PyProof.Rows L2
/-- the module's constants -/
structure Csts (K : PySem.W.Frag) (mg : Str → Option Value) (aT aP aO : Addr) : Prop where
  cells : ∃ t, mg "MOST_CELLS" = some (.int 5 t)
  open_ : ∃ t, mg "MOST_OPEN" = some (.int 5 t)
  gT : mg "TWO_SIDED" = some (.ref aT)
  sT : ∀ H, SqT K H aT (twoL.map V.str)
  gP : mg "PASSED" = some (.ref aP)
  sP : ∀ H, SqT K H aP (passL.map V.str)
  gO : mg "OPENING" = some (.ref aO)
  sO : ∀ H, SqT K H aO (openL.map V.str)
/-- what holds of a sheet as it is read -/
structure Ok (M : ShM) : Prop where
  lt : ∀ l ∈ M.nest, l < M.rows.length
  ar : ∀ l ∈ M.nest, l ≠ 0 → getN M.around l ≠ none
  hd : M.nest.head? = some 0
  z : ∃ r, M.rows[0]? = some r ∧ r.word = ("" : Str)
  h5 : M.homes.length ≤ 5
  al : M.around.length ≤ M.rows.length
  nl : M.nest.length ≤ 6
theorem last_of {α : Type} {l : List α} {x : α} (h : l.getLast? = some x) : ∃ b, l = b ++ [x] := by
  rw [List.getLast?_eq_some_iff] at h
  exact h
theorem Ok.last {M : ShM} (k : Ok M) : ∃ b l, M.nest = b ++ [l] ∧ M.nest.getLast? = some l ∧ l < M.rows.length := by
  have hd := k.hd
  cases e : M.nest.getLast? with
  | none => rw [List.getLast?_eq_none_iff] at e; rw [e] at hd; cases hd
  | some l =>
    obtain ⟨b, eb⟩ := last_of e
    exact ⟨b, l, eb, rfl, k.lt l (by rw [eb]; simp)⟩
theorem val_homes (l : List (Str × Nat)) (x : Str) : valV (homesV l) (Sum.inr x : Key) = (homeOf l x).map fun n => V.int (n : Nat) := by
  unfold valV homesV homeOf
  rw [List.find?_map]
  have e : ((fun kv : Key × V => decide (kv.1 = Sum.inr x)) ∘ fun q : Str × Nat => (Sum.inr q.1, V.int (q.2 : Nat))) = fun q : Str × Nat => decide (q.1 = x) := by
    funext q
    exact decide_eq_decide.mpr ⟨fun z => Sum.inr.inj z, fun z => congrArg Sum.inr z⟩
  rw [e, Option.map_map, Option.map_map]
  rfl
theorem val_around (l : List (Nat × Nat)) (k : Nat) : valV (aroundV l) (Sum.inl (k : Int) : Key) = (getN l k).map fun n => V.int (n : Nat) := by
  unfold valV aroundV getN
  rw [List.find?_map]
  have e : ((fun kv : Key × V => decide (kv.1 = Sum.inl (k : Int))) ∘ fun q : Nat × Nat => (Sum.inl (q.1 : Int), V.int (q.2 : Nat))) = fun q : Nat × Nat => decide (q.1 = k) := by
    funext q
    exact decide_eq_decide.mpr ⟨fun z => by have := Sum.inl.inj z; omega, fun z => congrArg (fun j : Nat => (Sum.inl (j : Int) : Key)) z⟩
  rw [e, Option.map_map, Option.map_map]
  rfl
theorem put_around (l : List (Nat × Nat)) (k v : Nat) : putK (aroundV l) (Sum.inl (k : Int) : Key) (.int (v : Nat)) = aroundV (putN l k v) := by
  unfold putK aroundV putN
  have e : ∀ q : Nat × Nat, ((Sum.inl (q.1 : Int) : Key) = Sum.inl (k : Int)) ↔ q.1 = k := fun q => ⟨fun z => by have := Sum.inl.inj z; omega, fun z => by rw [z]⟩
  rw [List.any_map]
  have e2 : ((fun kv : Key × V => decide (kv.1 = Sum.inl (k : Int))) ∘ fun q : Nat × Nat => (Sum.inl (q.1 : Int), V.int (q.2 : Nat))) = fun q : Nat × Nat => decide (q.1 = k) := by
    funext q
    exact decide_eq_decide.mpr (e q)
  rw [e2]
  split
  · rw [List.map_map, List.map_map]
    refine List.map_congr_left fun q _ => ?_
    show (if (Sum.inl (q.1 : Int) : Key) = Sum.inl (k : Int) then _ else _) = _
    by_cases c : q.1 = k
    · rw [if_pos ((e q).mpr c)]
      show _ = (fun q : Nat × Nat => ((Sum.inl (q.1 : Int) : Key), V.int (q.2 : Nat))) (if q.1 = k then (q.1, v) else q)
      rw [if_pos c]
    · rw [if_neg (fun z => c ((e q).mp z))]
      show _ = (fun q : Nat × Nat => ((Sum.inl (q.1 : Int) : Key), V.int (q.2 : Nat))) (if q.1 = k then (q.1, v) else q)
      rw [if_neg c]
  · rw [List.map_append]
    rfl
theorem putN_len (l : List (Nat × Nat)) (k v : Nat) : (putN l k v).length ≤ l.length + 1 := by
  unfold putN
  split
  · rw [List.length_map]; omega
  · rw [List.length_append]; simp
theorem inV_nats (x : Nat) (l : List Nat) : inV (.int (x : Nat)) (natsV l) = l.contains x := by
  unfold inV natsV
  rw [List.any_map]
  induction l with
  | nil => rfl
  | cons y r ih =>
    rw [List.any_cons, List.contains_cons, ih]
    show (((y : Int) == (x : Int)) || _) = _
    congr 1
    rw [Bool.eq_iff_iff, beq_iff_eq, beq_iff_eq]
    omega
theorem flat_nats : ∀ l : List Nat, (natsV l).all flatV = true
  | [] => rfl
  | x :: r => by
    show (flatV (.int x) && (natsV r).all flatV) = true
    rw [flat_nats r]
    rfl
section
variable {P : Program} {w : World} {K : PySem.W.Frag} {mg : Str → Option Value} {base : Heap} {Cr Cs aT aP aO : Addr}
def spSeen (Cr Cs : Addr) : Sp := fun vs H Q _ => ∃ (s : Addr) (H0 : Hp) (p : Pt) (M : ShM) (x : Str), vs = [.ref s, .str x] ∧ ShAt Cr Cs H0 H s p M ∧ Q (.bl (seenM M x)) H
theorem scSS : FnScope ["self", "name"] ["self", "name"] (defScope mSheet_is_seen) := ⟨rfl, rfl, rfl, by decide +kernel, rfl, by decide +kernel, by decide +kernel⟩
theorem ok_seen {f : Addr} {fd : FuncData} (F : Fun K "_is_seen" "Sheet._is_seen" mSheet_is_seen f fd) (T : ShTxt K mg Cr Cs) : FnOk P w K mg base CX0 1 f fd ["self", "name"] (spSeen Cr Cs) := by
  refine F.ok scSS (fun vs H Q E h => ?_) (fun cdv A outer s H vs Q E hr h => ?_)
  · obtain ⟨s, H0, p, M, x, rfl, _⟩ := h
    rfl
  obtain ⟨s, H0, p, M, x, rfl, A0, q⟩ := h
  obtain ⟨dx, es⟩ := A0.sh
  have hu := hu_of hr
  refine ⟨_, pss_one (ps_ret (pe_and (pe_cmp (pc_din hu (pv 1) (pe_fld (pv 0) rfl))) (pe_one (pe_cmpR op_in_seq (pe_dget hu (pe_fld (pv 0) rfl) (pv 1) (fun _ _ => rfl)) (pe_fld (pv 0) rfl) (by rfl))))), ?_⟩
  refine ⟨_, rfl, _, rfl, s, Cs, dx, _, _, rfl, es, T.cs, T.sh, lkS2 p, p.h, _, rfl, DGet.k (k := Sum.inr x) A0.h, _, rfl, ?_⟩
  rw [val_homes]
  cases e : homeOf M.homes x with
  | none =>
    have : seenM M x = false := by unfold seenM; rw [e]
    rw [this] at q
    exact iteF q
  | some n =>
    have : seenM M x = M.nest.contains n := by unfold seenM; rw [e]
    rw [this] at q
    refine iteT ⟨_, rfl, s, Cs, dx, _, _, rfl, es, T.cs, T.sh, lkS2 p, ?_⟩
    refine ⟨_, rfl, p.h, V.int (n : Nat), rfl, ?_, ?_⟩
    · have := DGet.k (k := Sum.inr x) A0.h
      rw [val_homes, e] at this
      exact this
    refine ⟨_, rfl, s, Cs, dx, _, _, rfl, es, T.cs, T.sn, lkS4 p, p.n, _, rfl, .inl (SqL.of A0.n), rfl, flat_nats _, ?_⟩
    rw [show (if false = true then !inV (V.int (n : Nat)) (natsV M.nest) else inV (V.int (n : Nat)) (natsV M.nest)) = M.nest.contains n from inV_nats n M.nest]
    exact q
end
end FP
set_option Elab.async false
set_option linter.all false
set_option maxRecDepth 100000
set_option maxHeartbeats 4000000
namespace FP
open PySem PySem.Spec PyProof.Rows L2
theorem neg1 : V.int (-1) = V.int (-1) := rfl
theorem natsV_app (b : List Nat) (l : Nat) : natsV (b ++ [l]) = natsV b ++ [V.int (l : Nat)] := by
  unfold natsV
  rw [List.map_append]
  rfl
theorem atI_nats {l : List Nat} {b : List Nat} {x : Nat} (h : l = b ++ [x]) : atI (natsV l) (-1) = some (V.int (x : Nat)) := by
  rw [h, natsV_app]
  exact atI_last _ _
theorem ShAt.rowsAt {Cr Cs s : Addr} {H0 H : Hp} {p : Pt} {M : ShM} {i : Nat} {m : RowM} (A : ShAt Cr Cs H0 H s p M) (h : M.rows[i]? = some m) : ∃ r dx t, p.ras[i]? = some r ∧ atI (p.ras.map V.ref) ((i : Nat) : Int) = some (V.ref r) ∧ H r = some (.ins Cr dx (rowF m t)) ∧ H t = some (.tup (m.names.map V.str)) := by
  have hi : i < p.ras.length := by rw [A.len]; exact (List.getElem?_eq_some_iff.mp h).1
  have e := List.getElem?_eq_getElem hi
  obtain ⟨dx, t, e1, e2⟩ := A.rows i _ m e h
  exact ⟨_, dx, t, e, atI_nat (by rw [List.getElem?_map, e]; rfl), e1, e2⟩
section
variable {P : Program} {w : World} {K : PySem.W.Frag} {mg : Str → Option Value} {base : Heap} {Cr Cs aT aP aO : Addr}
/-- a step of the sheet by the row number n -/
def spStep (Cr Cs : Addr) (step : ShM → Nat → Option ShM) (pre : ShM → Nat → Prop) : Sp := fun vs H Q _ => ∃ (s : Addr) (n : Nat) (H0 : Hp) (p : Pt) (M : ShM), vs = [.ref s, .int (n : Nat)] ∧ ShAt Cr Cs H0 H s p M ∧ pre M n ∧
  (∀ M', step M n = some M' → ∀ H', ShAt Cr Cs H0 H' s p M' → Q (.bl true) H') ∧ (step M n = none → Q (.bl false) H)
def preOpen (M : ShM) (n : Nat) : Prop := (∃ b l, M.nest = b ++ [l]) ∧ M.around.length ≤ 100000 ∧ M.nest.length ≤ 100000
theorem scOB : FnScope ["self", "number"] ["self", "number"] (defScope mSheet_open_block) := ⟨rfl, rfl, rfl, by decide +kernel, rfl, by decide +kernel, by decide +kernel⟩
theorem ok_open {f : Addr} {fd : FuncData} (F : Fun K "_open_block" "Sheet._open_block" mSheet_open_block f fd) (T : ShTxt K mg Cr Cs) (C : Csts K mg aT aP aO) (B : Blt2 mg) : FnOk P w K mg base CX0 1 f fd ["self", "number"] (spStep Cr Cs openM preOpen) := by
  obtain ⟨tO, gO⟩ := C.open_
  refine F.ok scOB (fun vs H Q E h => ?_) (fun cdv A outer s H vs Q E hr h => ?_)
  · obtain ⟨s, n, H0, p, M, rfl, _⟩ := h
    rfl
  obtain ⟨s, n, H0, p, M, rfl, A0, ⟨⟨b, l, eb⟩, ha, hn⟩, k1, k2⟩ := h
  obtain ⟨dx, es⟩ := A0.sh
  have hu := hu_of hr
  have hlast : M.nest.getLast? = some l := by rw [eb]; simp
  refine ⟨_, pss_cons (ps_if (pt_cmpR op_gt (pe_callB call_len_seq (by rfl) B.len boot_len (pa_cons (pe_fld (pv 0) rfl) pa_nil)) (pe_glob (v := .int 5) (by rfl) gO ⟨_, rfl⟩) (nomark _)) (pss_one (ps_ret pe_bl)) pss_nil)
    (pss_cons (ps_dput hu (pe_fld (pv 0) rfl) (pv 1) (pe_ix ix_list (pe_fld (pv 0) rfl) (pe_un un_neg pe_int) (fun _ _ => rfl)) rfl)
    (pss_cons (ps_expr (pe_bm PySem.F.plainAttrs_list PySem.F.slot_list_append PySem.F.type_list_append mt_append (pe_fld (pv 0) rfl) (pa_cons (pv 1) pa_nil)))
    (pss_one (ps_ret pe_bl)))), ?_⟩
  refine ⟨_, rfl, s, Cs, dx, _, _, rfl, es, T.cs, T.sn, lkS4 p, p.n, _, rfl, .inl (SqL.of A0.n), _, _, rfl, rfl, _, rfl, ?_⟩
  rw [natsV_len]
  have hm : openM M n = if M.nest.length ≤ 5 then some ⟨M.rows, M.homes, putN M.around n l, M.nest ++ [n]⟩ else none := by unfold openM; rw [hlast]
  refine ite2 (fun c => ?_) fun c => ?_
  · have hc : ¬ M.nest.length ≤ 5 := by have := of_decide_eq_true c; omega
    exact k2 (by rw [hm, if_neg hc])
  · have hc : M.nest.length ≤ 5 := by
      by_cases z : M.nest.length ≤ 5
      · exact z
      · exact absurd (decide_eq_true (by omega)) c
    refine ⟨_, rfl, s, Cs, dx, _, _, rfl, es, T.cs, T.sn, lkS4 p, _, rfl, p.n, _, _, _, rfl, rfl, SqL.of A0.n, atI_nats eb, ?_⟩
    refine ⟨_, rfl, s, Cs, dx, _, _, rfl, es, T.cs, T.sa, lkS3 p, _, rfl, p.ar, _, rfl, DPut.k (k := Sum.inl (n : Int)) A0.ar ?_, ?_⟩
    · unfold aroundV
      rw [List.length_map, sizeLine_eq]
      omega
    rw [put_around]
    have A1 := A0.setAround (putN M.around n l)
    obtain ⟨d1, e1⟩ := A1.sh
    refine ⟨_, rfl, s, Cs, d1, _, _, rfl, e1, T.cs, T.sn, lkS4 p, .inl ⟨rfl, _, SqL.of A1.n⟩, _, rfl, p.n, _, _, rfl, rfl, A1.n, ?_, ?_⟩
    · rw [natsV_len, sizeLine_eq]
      show M.nest.length < _
      omega
    · have A2 := A1.setN (M.nest ++ [n])
      rw [natsV_app] at A2
      exact k1 _ (by rw [hm, if_pos hc]) _ A2
end
end FP
set_option Elab.async false
set_option linter.all false
set_option maxRecDepth 100000
set_option maxHeartbeats 4000000
namespace FP
open PySem PySem.Spec PyProof.Rows L2
section
variable {P : Program} {w : World} {K : PySem.W.Frag} {mg : Str → Option Value} {base : Heap} {Cr Cs aT aP aO : Addr}
def preTurn (M : ShM) (n : Nat) : Prop := (∃ b l r, M.nest = b ++ [l] ∧ M.rows[l]? = some r ∧ (twoL.contains r.word = true → getN M.around l ≠ none)) ∧ M.around.length ≤ 100000
theorem scTU : FnScope ["self", "number", "first"] ["self", "number"] (defScope mSheet_turn) := ⟨rfl, rfl, rfl, by decide +kernel, rfl, by decide +kernel, by decide +kernel⟩
theorem ixN_last {n : Nat} (h : 0 < n) : ixN n (-1) = some (n - 1) := by
  unfold ixN
  rw [if_neg (by decide), if_pos (by omega)]
  congr 1
  omega
theorem ok_turn {f : Addr} {fd : FuncData} (F : Fun K "_turn" "Sheet._turn" mSheet_turn f fd) (T : ShTxt K mg Cr Cs) (C : Csts K mg aT aP aO) (B : Blt2 mg) : FnOk P w K mg base CX0 1 f fd ["self", "number"] (spStep Cr Cs turnM preTurn) := by
  refine F.ok scTU (fun vs H Q E h => ?_) (fun cdv A outer s H vs Q E hr h => ?_)
  · obtain ⟨s, n, H0, p, M, rfl, _⟩ := h
    rfl
  obtain ⟨s, n, H0, p, M, rfl, A0, ⟨⟨b, l, m, eb, em, har⟩, ha⟩, k1, k2⟩ := h
  obtain ⟨dx, es⟩ := A0.sh
  have hu := hu_of hr
  have hlast : M.nest.getLast? = some l := by rw [eb]; simp
  refine ⟨_, pss_cons (ps_set (i := 2) scTU.nd rfl (.inl rfl) (pe_ix ix_list (pe_fld (pv 0) rfl) (pe_un un_neg pe_int) (fun _ _ => rfl)))
    (pss_cons (ps_if (pt_cmpR op_notIn_seq (pe_fld (pe_ix ix_list (pe_fld (pv 0) rfl) (pv 2) (fun _ _ => rfl)) rfl) (pe_glob (v := .ref aT) (by rfl) C.gT rfl) (by rfl)) (pss_one (ps_ret pe_bl)) pss_nil)
    (pss_cons (ps_fld (pe_ix ix_list (pe_fld (pv 0) rfl) (pv 2) (fun _ _ => rfl)) (pe_op op_add (pv 1) pe_int) rfl)
    (pss_cons (ps_dput hu (pe_fld (pv 0) rfl) (pv 1) (pe_dget hu (pe_fld (pv 0) rfl) (pv 2) (fun _ _ => rfl)) rfl)
    (pss_cons (ps_asg (pv 1) (pg_sub (pe_fld (pv 0) rfl) (pe_un un_neg pe_int) set_list))
    (pss_one (ps_ret pe_bl)))))), ?_⟩
  obtain ⟨r, dr, t, hr_, eat, er, et⟩ := A0.rowsAt em
  refine ⟨_, rfl, s, Cs, dx, _, _, rfl, es, T.cs, T.sn, lkS4 p, _, rfl, p.n, _, _, _, rfl, rfl, SqL.of A0.n, atI_nats eb, ?_⟩
  refine ⟨_, rfl, s, Cs, dx, _, _, rfl, es, T.cs, T.sr, lkS1 p, _, rfl, p.R, _, _, _, rfl, rfl, SqL.of A0.R, eat, r, Cr, dr, _, _, rfl, er, T.cr, T.rw_, lkR1 m t, aT, _, rfl, .inr (C.sT H), rfl, flat_strs _, _, rfl, ?_⟩
  rw [show (if true = true then !inV (V.str m.word) (twoL.map V.str) else inV (V.str m.word) (twoL.map V.str)) = !twoL.contains m.word from congrArg (!·) (inV_strs m.word twoL)]
  cases hc : twoL.contains m.word with
  | false =>
    refine iteT (k2 ?_)
    unfold turnM
    rw [hlast]
    dsimp only
    rw [em]
    cases getN M.around l <;> simp only [hc] <;> rfl
  | true =>
    obtain ⟨a, ga⟩ : ∃ a, getN M.around l = some a := by
      cases e : getN M.around l with
      | none => exact absurd e (har hc)
      | some a => exact ⟨a, rfl⟩
    have hm : turnM M n = some ⟨setRow M.rows l fun r => { r with other := n + 1 }, M.homes, putN M.around n a, M.nest.dropLast ++ [n]⟩ := by
      unfold turnM
      rw [hlast]
      dsimp only
      rw [em, ga]
      dsimp only
      rw [if_pos hc]
    have hset : setRow M.rows l (fun r => { r with other := n + 1 }) = M.rows.set l { m with other := n + 1 } := by
      unfold setRow
      rw [em]
    rw [hset] at hm
    refine iteF ⟨_, rfl, _, _, rfl, rfl, _, rfl, s, Cs, dx, _, _, rfl, es, T.cs, T.sr, lkS1 p, _, rfl, p.R, _, _, _, rfl, rfl, SqL.of A0.R, eat, r, Cr, dr, _, rfl, er, T.cr, T.ro, (by show 4 < 1000; decide), ?_⟩
    have A1 := A0.setRow (m' := { m with other := n + 1 }) hr_ em er et rfl
    rw [show putF "other" (V.int ((n : Int) + 1)) (rowF m t) = rowF { m with other := n + 1 } t from rfl]
    obtain ⟨d1, e1⟩ := A1.sh
    have g1 := DGet.k (k := Sum.inl (l : Int)) A1.ar
    rw [val_around, ga] at g1
    refine ⟨_, rfl, s, Cs, d1, _, _, rfl, e1, T.cs, T.sa, lkS3 p, _, rfl, p.ar, _, rfl, g1, _, rfl, s, Cs, d1, _, _, rfl, e1, T.cs, T.sa, lkS3 p, _, rfl, p.ar, _, rfl, DPut.k (k := Sum.inl (n : Int)) A1.ar ?_, ?_⟩
    · unfold aroundV
      rw [List.length_map, sizeLine_eq]
      show M.around.length < _
      omega
    rw [put_around]
    have A2 := A1.setAround (putN M.around n a)
    obtain ⟨d2, e2⟩ := A2.sh
    refine ⟨_, rfl, _, rfl, s, Cs, d2, _, _, rfl, e2, T.cs, T.sn, lkS4 p, _, rfl, p.n, _, _, M.nest.length - 1, rfl, rfl, A2.n, ?_, ?_⟩
    · rw [natsV_len]
      refine ixN_last ?_
      show 0 < M.nest.length
      rw [eb]; simp
    · have A3 := A2.setN (M.nest.dropLast ++ [n])
      have e : (natsV M.nest).set (M.nest.length - 1) (V.int (n : Nat)) = natsV (M.nest.dropLast ++ [n]) := by
        rw [eb, natsV_app, List.dropLast_concat, natsV_app, List.length_append, List.length_singleton, Nat.add_sub_cancel]
        rw [show b.length = (natsV b).length from (natsV_len b).symm]
        simp
      rw [← e] at A3
      exact k1 _ hm _ A3
end
end FP
set_option Elab.async false
set_option linter.all false
set_option maxRecDepth 100000
set_option maxHeartbeats 4000000
namespace FP
open PySem PySem.Spec PyProof.Rows L2
section
variable {P : Program} {w : World} {K : PySem.W.Frag} {mg : Str → Option Value} {base : Heap} {Cr Cs aT aP aO : Addr}
def preClose (M : ShM) (n : Nat) : Prop := (∃ b l r, M.nest = b ++ [l] ∧ M.rows[l]? = some r) ∧ n < M.rows.length
theorem scCB : FnScope ["self", "number", "first", "opener"] ["self", "number"] (defScope mSheet_close_block) := ⟨rfl, rfl, rfl, by decide +kernel, rfl, by decide +kernel, by decide +kernel⟩
theorem ok_close {f : Addr} {fd : FuncData} (F : Fun K "_close_block" "Sheet._close_block" mSheet_close_block f fd) (T : ShTxt K mg Cr Cs) : FnOk P w K mg base CX0 1 f fd ["self", "number"] (spStep Cr Cs closeM preClose) := by
  refine F.ok scCB (fun vs H Q E h => ?_) (fun cdv A outer s H vs Q E hr h => ?_)
  · obtain ⟨s, n, H0, p, M, rfl, _⟩ := h
    rfl
  obtain ⟨s, n, H0, p, M, rfl, A0, ⟨⟨b, l, m, eb, em⟩, hn⟩, k1, k2⟩ := h
  obtain ⟨dx, es⟩ := A0.sh
  have hu := hu_of hr
  have hlast : M.nest.getLast? = some l := by rw [eb]; simp
  refine ⟨_, pss_cons (ps_set (i := 2) scCB.nd rfl (.inl rfl) (pe_ix ix_list (pe_fld (pv 0) rfl) (pe_un un_neg pe_int) (fun _ _ => rfl)))
    (pss_cons (ps_if (pt_cmpR op_eq (pv 2) pe_int (nomark _)) (pss_one (ps_ret pe_bl)) pss_nil)
    (pss_cons (ps_set (i := 3) scCB.nd rfl (.inl rfl) (pe_ix ix_list (pe_fld (pv 0) rfl) (pv 2) (fun _ _ => rfl)))
    (pss_cons (ps_if (pt_cmpR op_eq (pe_fld (pv 3) rfl) pe_str (nomark _)) (pss_one (ps_fld (pv 3) (pv 1) rfl)) (pss_one (ps_fld (pv 3) (pe_op op_add (pv 1) pe_int) rfl)))
    (pss_cons (ps_if (pt_cmpR op_eq (pe_fld (pv 3) rfl) pe_str (nomark _)) (pss_one (ps_fld (pe_ix ix_list (pe_fld (pv 0) rfl) (pv 1) (fun _ _ => rfl)) (pv 2) rfl)) pss_nil)
    (pss_cons (ps_expr (pe_bm0 PySem.F.plainAttrs_list PySem.F.slot_list_pop PySem.F.type_list_pop mt_pop (pe_fld (pv 0) rfl)))
    (pss_one (ps_ret pe_bl))))))), ?_⟩
  obtain ⟨r, dr, t, hr_, eat, er, et⟩ := A0.rowsAt em
  refine ⟨_, rfl, s, Cs, dx, _, _, rfl, es, T.cs, T.sn, lkS4 p, _, rfl, p.n, _, _, _, rfl, rfl, SqL.of A0.n, atI_nats eb, ?_⟩
  refine ⟨_, rfl, rfl, _, rfl, ?_⟩
  refine ite2 (fun c => ?_) fun c => ?_
  · have hl : l = 0 := by have := V.int.inj (of_decide_eq_true c); omega
    refine k2 ?_
    unfold closeM
    rw [hlast]
    dsimp only
    rw [em]
    dsimp only
    rw [if_neg (by rw [hl]; simp)]
  have hl : l ≠ 0 := fun z => c (decide_eq_true (by rw [z]; rfl))
  refine ⟨_, rfl, s, Cs, dx, _, _, rfl, es, T.cs, T.sr, lkS1 p, _, rfl, p.R, _, _, _, rfl, rfl, SqL.of A0.R, eat, ?_⟩
  refine ⟨_, rfl, r, Cr, dr, _, _, rfl, er, T.cr, T.rw_, lkR1 m t, rfl, _, rfl, ?_⟩
  -- behind the first if
  let m1 : RowM := if m.word = ("else" : Str) then { m with after := n } else { m with other := n + 1 }
  have hm1 : m1.names = m.names := by show (if _ then _ else _ : RowM).names = _; split <;> rfl
  have hw1 : m1.word = m.word := by show (if _ then _ else _ : RowM).word = _; split <;> rfl
  have A1 := A0.setRow (m' := m1) hr_ em er et hm1
  have hset : setRow M.rows l (fun r => if r.word = ("else" : Str) then { r with after := n } else { r with other := n + 1 }) = M.rows.set l m1 := by
    unfold setRow
    rw [em]
  have hll : l < M.rows.length := (List.getElem?_eq_some_iff.mp em).1
  have hnl : n < (M.rows.set l m1).length := by rw [List.length_set]; exact hn
  have en := List.getElem?_eq_getElem hnl
  generalize (M.rows.set l m1)[n] = mn at en
  have hdrop : (natsV M.nest).dropLast = natsV M.nest.dropLast := by rw [eb, natsV_app, List.dropLast_concat, List.dropLast_concat]
  have hlastV : ∃ y, (natsV M.nest)[(natsV M.nest).length - 1]? = some y := by
    rw [eb, natsV_app]
    exact ⟨V.int (l : Nat), by simp⟩
  obtain ⟨yl, hyl⟩ := hlastV
  have hm : closeM M n = some ⟨if m.word = ("loop" : Str) then (M.rows.set l m1).set n { mn with after := l } else M.rows.set l m1, M.homes, M.around, M.nest.dropLast⟩ := by
    unfold closeM
    rw [hlast]
    dsimp only
    rw [em]
    dsimp only
    rw [if_pos hl, hset]
    unfold setRow
    rw [en]
  refine ite2 (fun cw => ?_) fun cw => ?_
  · have hw : m.word = ("else" : Str) := V.str.inj (of_decide_eq_true cw)
    have em1 : m1 = { m with after := n } := if_pos hw
    refine ⟨_, rfl, _, rfl, r, Cr, dr, _, rfl, er, T.cr, T.ra, (by show 4 < 1000; decide), ?_⟩
    rw [show putF "after" (V.int (n : Nat)) (rowF m t) = rowF m1 t by rw [em1]; rfl]
    obtain ⟨d1, e1⟩ := A1.sh
    refine ⟨_, rfl, r, Cr, dr, _, _, rfl, upd_same, T.cr, T.rw_, lkR1 m1 t, rfl, _, rfl, ?_⟩
    refine ite2 (fun cl => ?_) fun cl => ?_
    · have hw2 : m.word = ("loop" : Str) := hw1.symm.trans (V.str.inj (of_decide_eq_true cl))
      obtain ⟨rn, dn, tn, hrn, eatn, ern, etn⟩ := A1.rowsAt en
      refine ⟨_, rfl, _, rfl, s, Cs, d1, _, _, rfl, e1, T.cs, T.sr, lkS1 p, _, rfl, p.R, _, _, _, rfl, rfl, SqL.of A1.R, eatn, rn, Cr, dn, _, rfl, ern, T.cr, T.ra, (by show 4 < 1000; decide), ?_⟩
      have A2 := A1.setRow (m' := { mn with after := l }) hrn en ern etn rfl
      rw [show putF "after" (V.int (l : Nat)) (rowF mn tn) = rowF { mn with after := l } tn from rfl]
      obtain ⟨d2, e2⟩ := A2.sh
      refine ⟨_, rfl, s, Cs, d2, _, _, rfl, e2, T.cs, T.sn, lkS4 p, .inl ⟨rfl, _, SqL.of A2.n⟩, p.n, _, yl, rfl, rfl, A2.n, hyl, ?_⟩
      have A3 := A2.setN M.nest.dropLast
      rw [← hdrop] at A3
      rw [if_pos hw2] at hm
      exact k1 _ hm _ A3
    · have hw2 : ¬ m.word = ("loop" : Str) := fun z => cl (decide_eq_true (by rw [hw1, z]))
      refine ⟨_, rfl, s, Cs, d1, _, _, rfl, e1, T.cs, T.sn, lkS4 p, .inl ⟨rfl, _, SqL.of A1.n⟩, p.n, _, yl, rfl, rfl, A1.n, hyl, ?_⟩
      have A3 := A1.setN M.nest.dropLast
      rw [← hdrop] at A3
      rw [if_neg hw2] at hm
      exact k1 _ hm _ A3
  · have hw : ¬ m.word = ("else" : Str) := fun z => cw (decide_eq_true (by rw [z]))
    have em1 : m1 = { m with other := n + 1 } := if_neg hw
    refine ⟨_, rfl, _, _, rfl, rfl, _, rfl, r, Cr, dr, _, rfl, er, T.cr, T.ro, (by show 4 < 1000; decide), ?_⟩
    rw [show putF "other" (V.int ((n : Int) + 1)) (rowF m t) = rowF m1 t by rw [em1]; rfl]
    obtain ⟨d1, e1⟩ := A1.sh
    refine ⟨_, rfl, r, Cr, dr, _, _, rfl, upd_same, T.cr, T.rw_, lkR1 m1 t, rfl, _, rfl, ?_⟩
    refine ite2 (fun cl => ?_) fun cl => ?_
    · have hw2 : m.word = ("loop" : Str) := hw1.symm.trans (V.str.inj (of_decide_eq_true cl))
      obtain ⟨rn, dn, tn, hrn, eatn, ern, etn⟩ := A1.rowsAt en
      refine ⟨_, rfl, _, rfl, s, Cs, d1, _, _, rfl, e1, T.cs, T.sr, lkS1 p, _, rfl, p.R, _, _, _, rfl, rfl, SqL.of A1.R, eatn, rn, Cr, dn, _, rfl, ern, T.cr, T.ra, (by show 4 < 1000; decide), ?_⟩
      have A2 := A1.setRow (m' := { mn with after := l }) hrn en ern etn rfl
      rw [show putF "after" (V.int (l : Nat)) (rowF mn tn) = rowF { mn with after := l } tn from rfl]
      obtain ⟨d2, e2⟩ := A2.sh
      refine ⟨_, rfl, s, Cs, d2, _, _, rfl, e2, T.cs, T.sn, lkS4 p, .inl ⟨rfl, _, SqL.of A2.n⟩, p.n, _, yl, rfl, rfl, A2.n, hyl, ?_⟩
      have A3 := A2.setN M.nest.dropLast
      rw [← hdrop] at A3
      rw [if_pos hw2] at hm
      exact k1 _ hm _ A3
    · have hw2 : ¬ m.word = ("loop" : Str) := fun z => cl (decide_eq_true (by rw [hw1, z]))
      refine ⟨_, rfl, s, Cs, d1, _, _, rfl, e1, T.cs, T.sn, lkS4 p, .inl ⟨rfl, _, SqL.of A1.n⟩, p.n, _, yl, rfl, rfl, A1.n, hyl, ?_⟩
      have A3 := A1.setN M.nest.dropLast
      rw [← hdrop] at A3
      rw [if_neg hw2] at hm
      exact k1 _ hm _ A3
end
end FP
set_option Elab.async false
set_option linter.all false
set_option maxRecDepth 100000
set_option maxHeartbeats 4000000
namespace FP
open PySem PySem.Spec PyProof.Rows L2
theorem row_made {Cr : Addr} {H Hq H' : Hp} {x dx t : Addr} {names : List Str} {wd : Str} {k : Nat} (S : Same H Hq) (et : Hq t = some (.tup (names.map V.str))) (nx : Hq x = none) (nd : Hq dx = none)
    (e1 : H' x = some (.ins Cr dx [("word", .str wd), ("names", .ref t), ("after", .int ((k + 1 : Nat) : Int)), ("other", .int ((0 : Nat) : Int))])) (e2 : ∀ b, b ≠ x → H' b = (upd (upd Hq dx (.own x)) x (.ins Cr dx [])) b) :
    Same H H' ∧ RowAt Cr H' x ⟨wd, names, k + 1, 0⟩ := by
  have S2 : Same Hq H' := fun b u e => by
    rw [e2 b (ne_of_none e nx), upd_ne (ne_of_none e nx), upd_ne (ne_of_none e nd)]
    exact e
  exact ⟨S.trans S2, dx, t, e1, S2 _ _ et⟩
theorem addNames_snoc (n : Nat) : ∀ (xs : List Str) (homes : List (Str × Nat)) (x : Str), addNames n homes (xs ++ [x]) = (addNames n homes xs).bind fun h => addName n h x
  | [], homes, x => by
    show (addName n homes x).bind (fun h => addNames n h []) = addName n homes x
    cases addName n homes x <;> rfl
  | y :: r, homes, x => by
    show (addName n homes y).bind (fun h => addNames n h (r ++ [x])) = ((addName n homes y).bind fun h => addNames n h r).bind fun h => addName n h x
    cases addName n homes y with
    | none => rfl
    | some h => exact addNames_snoc n r h x
theorem addNames_stop (n : Nat) : ∀ (xs : List Str) (homes : List (Str × Nat)) (i : Nat), addNames n homes (xs.take i) = none → addNames n homes xs = none
  | [], _, i, h => by rw [List.take_nil] at h; exact h
  | _ :: _, homes, 0, h => by cases h
  | y :: r, homes, i + 1, h => by
    show (addName n homes y).bind (fun h => addNames n h r) = none
    have h' : (addName n homes y).bind (fun h => addNames n h (r.take i)) = none := h
    cases e : addName n homes y with
    | none => rfl
    | some g =>
      rw [e] at h'
      exact addNames_stop n r g i h'
theorem addNames_len (n : Nat) : ∀ (xs : List Str) (homes h : List (Str × Nat)), addNames n homes xs = some h → homes.length ≤ 5 → h.length ≤ 5
  | [], homes, h, e, l => by cases e; exact l
  | y :: r, homes, h, e, l => by
    have e' : (addName n homes y).bind (fun h => addNames n h r) = some h := e
    cases ey : addName n homes y with
    | none => rw [ey] at e'; cases e'
    | some g =>
      rw [ey] at e'
      refine addNames_len n r g h e' ?_
      unfold addName at ey
      split at ey
      · rename_i c
        cases ey
        rw [List.length_append, List.length_singleton]
        have := c.2.2
        omega
      · cases ey
section
variable {P : Program} {w : World} {K : PySem.W.Frag} {mg : Str → Option Value} {base : Heap} {Cr Cs aT aP aO : Addr}
/-- the sheet takes something, or it is wrong -/
def Took (Cr Cs : Addr) (H0 : Hp) (s : Addr) (r : Option ShM) (Q : VK) : Prop :=
  (∀ M', r = some M' → ∀ p' H', ShAt Cr Cs H0 H' s p' M' → Q (.bl true) H') ∧ (r = none → ∀ H', Same H0 H' → Q (.bl false) H')
def spDeclare (Cr Cs : Addr) : Sp := fun vs H Q _ => ∃ (s a : Addr) (names : List Str) (H0 : Hp) (p : Pt) (M : ShM), vs = [.ref s, .ref a] ∧ ShAt Cr Cs H0 H s p M ∧ Ok M ∧ H0 a = some (.lst (names.map V.str)) ∧
  names.length ≤ 100000 ∧ (∀ x ∈ names, x.length ≤ 1000000) ∧ M.rows.length ≤ 100000 ∧ Took Cr Cs H0 s (declareM M names) Q
theorem scDE : FnScope ["self", "names", "number", "name"] ["self", "names"] (defScope mSheet_declare) := ⟨rfl, rfl, rfl, by decide +kernel, rfl, by decide +kernel, by decide +kernel⟩
theorem ok_declare {f : Addr} {fd : FuncData} (F : Fun K "_declare" "Sheet._declare" mSheet_declare f fd) (T : ShTxt K mg Cr Cs) (C : Csts K mg aT aP aO) (B : Blt2 mg) (D : Def P w K mg base "is_name" 1 ["text"] spIsName) (DR : CDef P w K mg base Cr 1 ["self", "word", "names", "number"] (spRow Cr)) :
    FnOk P w K mg base CX0 3 f fd ["self", "names"] (spDeclare Cr Cs) := by
  obtain ⟨fD, fdD, gD, kD, bD, GD⟩ := D.ex
  obtain ⟨fR, fdR, mR, bR, GR⟩ := DR.ex
  obtain ⟨tC5, gC5⟩ := C.cells
  refine F.ok scDE (fun vs H Q E h => ?_) (fun cdv A outer s H vs Q E hr h => ?_)
  · obtain ⟨s, a, names, H0, p, M, rfl, _⟩ := h
    rfl
  obtain ⟨s, a, names, H0, p, M, rfl, A0, O, ea0, hl, hx, hrl, k1, k2⟩ := h
  obtain ⟨dx, es⟩ := A0.sh
  have hu := hu_of hr
  have ea := A0.same _ _ ea0
  obtain ⟨b, l, eb, hlast, hll⟩ := O.last
  refine ⟨_, pss_cons (ps_set (i := 2) scDE.nd rfl (.inl rfl) (pe_callB call_len_seq (by rfl) B.len boot_len (pa_cons (pe_fld (pv 0) rfl) pa_nil)))
    (pss_cons (ps_if (PW.pt (pw_or (pt_cmpR op_eq (pe_callB call_len_seq (by rfl) B.len boot_len (pa_cons (pv 1) pa_nil)) pe_int (nomark _)) (pw_or1 (pt_cmpR op_ne (pe_ix ix_list (pe_fld (pv 0) rfl) (pe_un un_neg pe_int) (fun _ _ => rfl)) (pe_op op_sub (pv 2) pe_int) (nomark _))))) (pss_one (ps_ret pe_bl)) pss_nil)
    (pss_cons (ps_for PassesOwn.never rfl (pi_list (pv 1)) (pg_name (i := 3) scDE.nd rfl (Or.inl rfl))
      (pss_cons (ps_if (PW.pt (pw_or (pt_not (pt_val (pe_call GD (hr.mono (by decide)) rfl gD kD bD .nil pass0 (pa_cons (pv 3) pa_nil)))) (pw_or (pt_cmp (pc_din hu (pv 3) (pe_fld (pv 0) rfl)))
          (pw_or1 (pt_cmpR op_eq (pe_callB call_lenD (by rfl) B.len boot_len (pa_cons (pe_fld (pv 0) rfl) pa_nil)) (pe_glob (v := .int 5) (by rfl) gC5 ⟨_, rfl⟩) (nomark _)))))) (pss_one (ps_ret pe_bl)) pss_nil)
        (pss_one (ps_dput hu (pe_fld (pv 0) rfl) (pv 3) (pe_op op_sub (pv 2) pe_int) rfl))))
    (pss_cons (ps_expr (pe_bm PySem.F.plainAttrs_list PySem.F.slot_list_append PySem.F.type_list_append mt_append (pe_fld (pv 0) rfl) (pa_cons (pe_make mR GR hr rfl T.gr bR .nil pass0 (pa_cons pe_str (pa_cons (pe_callTy call_tuple_of (by rfl) B.tuple (by decide +kernel) (pa_cons (pv 1) pa_nil)) (pa_cons (pv 2) pa_nil)))) pa_nil)))
    (pss_one (ps_ret pe_bl))))), ?_⟩
  have h0r : 0 < M.rows.length := by
    obtain ⟨r0, e0, _⟩ := O.z
    exact (List.getElem?_eq_some_iff.mp e0).1
  refine ⟨_, rfl, s, Cs, dx, _, _, rfl, es, T.cs, T.sr, lkS1 p, p.R, _, rfl, .inl (SqL.of A0.R), ?_⟩
  rw [show (p.ras.map V.ref).length = M.rows.length by rw [List.length_map, A0.len]]
  refine ⟨_, rfl, a, _, rfl, .inl (SqL.of ea), rfl, _, rfl, ?_⟩
  rw [List.length_map]
  have hm : declareM M names = if names ≠ [] ∧ M.nest.getLast? = some (M.rows.length - 1) then (addNames (M.rows.length - 1) M.homes names).map fun h => ⟨M.rows ++ [⟨"local", names, M.rows.length + 1, 0⟩], h, M.around, M.nest⟩ else none := rfl
  refine ite2 (fun c => ?_) fun c => ?_
  · have hn : names = [] := List.eq_nil_of_length_eq_zero (by have := V.int.inj (of_decide_eq_true c); omega)
    exact iteT (k2 (by rw [hm, if_neg (fun z => z.1 hn)]) _ A0.same)
  have hn : names ≠ [] := fun z => c (decide_eq_true (by rw [z]; rfl))
  refine ⟨_, rfl, s, Cs, dx, _, _, rfl, es, T.cs, T.sn, lkS4 p, _, rfl, p.n, _, _, _, rfl, rfl, SqL.of A0.n, atI_nats eb, _, rfl, _, _, rfl, rfl, rfl, _, rfl, ?_⟩
  refine ite2 (fun c2 => ?_) fun c2 => ?_
  · have hne : l ≠ M.rows.length - 1 := fun z => by
      have e : V.int (l : Nat) = V.int ((M.rows.length : Int) - 1) := congrArg V.int (by omega)
      rw [decide_eq_true e] at c2
      cases c2
    refine k2 ?_ _ A0.same
    rw [hm, if_neg (fun z => hne (by have := hlast.symm.trans z.2; cases this; rfl))]
  have hle : l = M.rows.length - 1 := by
    have e : decide (V.int (l : Nat) = V.int ((M.rows.length : Int) - 1)) = true := by simpa using c2
    have := V.int.inj (of_decide_eq_true e)
    omega
  have hm2 : declareM M names = (addNames (M.rows.length - 1) M.homes names).map fun h => ⟨M.rows ++ [⟨"local", names, M.rows.length + 1, 0⟩], h, M.around, M.nest⟩ := by
    rw [hm, if_pos ⟨hn, by rw [hlast, hle]⟩]
  refine ⟨_, rfl, a, rfl, ⟨_, SqL.of ea⟩, for_it (walk_list (xs := names.map V.str)) (fun i σ H' => ∃ hs, (∃ z, σ = [some (.ref s), some (.ref a), some (.int (M.rows.length : Nat)), z]) ∧ addNames (M.rows.length - 1) M.homes (names.take i) = some hs ∧ ShAt Cr Cs H0 H' s p ⟨M.rows, hs, M.around, M.nest⟩)
    ⟨M.homes, ⟨none, rfl⟩, rfl, A0⟩ (fun i σ H' _ z => ?_) ?_ ?_⟩
  · obtain ⟨hs, _, _, A1⟩ := z
    exact SqL.of (A1.same _ _ ea0)
  · rintro i x σ H' H'' hi ⟨hs, ⟨z, rfl⟩, eh, A1⟩ ⟨rfl, hxi⟩
    rw [List.length_map] at hi
    rw [List.getElem?_map, List.getElem?_eq_getElem hi] at hxi
    obtain rfl : V.str names[i] = x := Option.some.inj hxi
    have hmem : names[i] ∈ names := List.getElem_mem hi
    have htk : names.take (i + 1) = names.take i ++ [names[i]] := by rw [List.take_add_one, List.getElem?_eq_getElem hi]; rfl
    have hnx : addNames (M.rows.length - 1) M.homes (names.take (i + 1)) = addName (M.rows.length - 1) hs names[i] := by rw [htk, addNames_snoc, eh]; rfl
    have hadd : addName (M.rows.length - 1) hs names[i] = if isName names[i] = true ∧ homeOf hs names[i] = none ∧ hs.length ≠ 5 then some (hs ++ [(names[i], M.rows.length - 1)]) else none := rfl
    have bad : ¬ (isName names[i] = true ∧ homeOf hs names[i] = none ∧ hs.length ≠ 5) → declareM M names = none := fun z => by
      rw [hm2, addNames_stop _ names _ (i + 1) (by rw [hnx, hadd, if_neg z])]
      rfl
    refine ⟨_, rfl, names[i], rfl, hx _ hmem, fun H2 S2 => ?_⟩
    have A2 := A1.grow S2
    refine ⟨_, rfl, ?_⟩
    cases e1 : isName names[i] with
    | false => exact iteT (k2 (bad fun z => by rw [e1] at z; exact Bool.noConfusion z.1) _ A2.same)
    | true =>
      obtain ⟨d2, es2⟩ := A2.sh
      refine iteF ⟨_, rfl, _, rfl, s, Cs, d2, _, _, rfl, es2, T.cs, T.sh, lkS2 p, p.h, _, rfl, DGet.k (k := Sum.inr names[i]) A2.h, _, rfl, ?_⟩
      rw [val_homes]
      cases e2 : homeOf hs names[i] with
      | some g => exact iteT (k2 (bad fun z => by rw [e2] at z; cases z.2.1) _ A2.same)
      | none =>
        refine iteF ⟨_, rfl, s, Cs, d2, _, _, rfl, es2, T.cs, T.sh, lkS2 p, p.h, _, rfl, A2.h, rfl, _, rfl, ?_⟩
        have hsl : (homesV hs).length = hs.length := List.length_map ..
        have hs5 : hs.length ≤ 5 := addNames_len _ _ _ _ eh O.h5
        rw [hsl]
        refine ite2 (fun c3 => ?_) fun c3 => ?_
        · have : hs.length = 5 := by have := V.int.inj (of_decide_eq_true c3); omega
          exact k2 (bad fun z => z.2.2 this) _ A2.same
        have h5 : hs.length ≠ 5 := fun z => c3 (decide_eq_true (by rw [z]; rfl))
        refine ⟨_, rfl, _, _, rfl, rfl, _, rfl, s, Cs, d2, _, _, rfl, es2, T.cs, T.sh, lkS2 p, _, rfl, p.h, _, rfl, DPut.k (k := Sum.inr names[i]) A2.h (by show (homesV hs).length < _; rw [hsl, sizeLine_eq]; omega), ?_⟩
        refine ⟨hs ++ [(names[i], M.rows.length - 1)], ⟨_, rfl⟩, by rw [hnx, hadd, if_pos ⟨e1, e2, h5⟩], ?_⟩
        have A3 := A2.setHomes (hs ++ [(names[i], M.rows.length - 1)])
        have ep : putK (homesV hs) (Sum.inr names[i] : Key) (V.int ((M.rows.length : Int) - 1)) = homesV (hs ++ [(names[i], M.rows.length - 1)]) := by
          rw [putK_new _ (by rw [val_homes, e2]; rfl)]
          unfold homesV
          rw [List.map_append, show ((M.rows.length : Int) - 1) = ((M.rows.length - 1 : Nat) : Int) by omega]
          rfl
        rw [← ep] at A3
        exact A3
  · rintro σ H' ⟨hs, ⟨z, rfl⟩, eh, A1⟩
    rw [List.length_map, List.take_length] at eh
    obtain ⟨d1, es1⟩ := A1.sh
    have ea1 := A1.same _ _ ea0
    refine ⟨_, rfl, s, Cs, d1, _, _, rfl, es1, T.cs, T.sr, lkS1 p, .inl ⟨rfl, _, SqL.of A1.R⟩, _, rfl, a, _, rfl, .inl ⟨SqL.of ea1, fun q hq => ?_⟩⟩
    have nR : q ≠ p.R := (ne_of_none A1.R hq).symm
    refine ⟨_, rfl, fun x dx' nx ndx nex => ⟨x, dx', q, _, M.rows.length, rfl, upd_same, fun H3 e1 e2 => ⟨rfl, ?_⟩⟩⟩
    obtain ⟨S3, new⟩ := row_made (names := names) (Same.new (o := .tup (names.map V.str)) (Same.refl H') hq) upd_same nx ndx e1 e2
    have nx' : H' x = none := (Same.new (o := .tup (names.map V.str)) (Same.refl H') hq).free nx
    have A2 := A1.addRow S3 nx' new
    refine ⟨p.R, _, _, rfl, rfl, S3 _ _ A1.R, ?_, ?_⟩
    · rw [List.length_map, A1.len, sizeLine_eq]
      show M.rows.length < _
      omega
    · rw [List.map_append] at A2
      refine k1 _ ?_ _ _ A2
      rw [hm2, eh]
      rfl
end
end FP
set_option Elab.async false
set_option linter.all false
set_option maxRecDepth 100000
set_option maxHeartbeats 4000000
namespace FP
open PySem PySem.Spec PyProof.Rows L2
theorem getN_put (l : List (Nat × Nat)) (k v j : Nat) : getN (putN l k v) j = if j = k then some v else getN l j := by
  have h1 := val_around (putN l k v) j
  rw [← put_around] at h1
  have key : ∀ (d : List (Nat × Nat)), getN (d.map fun p => if p.1 = k then (p.1, v) else p) j = if j = k then (getN d k).map (fun _ => v) else getN d j := by
    intro d
    induction d with
    | nil => by_cases c : j = k <;> simp [getN, c]
    | cons p r ih =>
      unfold getN at ih ⊢
      rw [List.map_cons, List.find?_cons, List.find?_cons, List.find?_cons]
      by_cases c1 : p.1 = k
      · by_cases c2 : j = k
        · simp [c1, c2]
        · have : ¬ k = j := fun z => c2 z.symm
          simp only [c1, if_true, this, decide_false, ih, c2, if_false]
      · by_cases c2 : p.1 = j
        · have : ¬ j = k := fun z => c1 (c2.trans z)
          simp [c1, c2, this]
        · simp only [c1, if_false, c2, decide_false, ih]
  unfold putN
  split
  · rename_i c
    rw [key]
    by_cases e : j = k
    · rw [if_pos e, if_pos e]
      obtain ⟨q, hq, hk⟩ := List.any_eq_true.mp c
      have : getN l k ≠ none := by
        unfold getN
        intro z
        rw [Option.map_eq_none_iff, List.find?_eq_none] at z
        exact z q hq hk
      cases eg : getN l k with
      | none => exact absurd eg this
      | some _ => rfl
    · rw [if_neg e, if_neg e]
  · rename_i c
    unfold getN
    rw [List.find?_append]
    by_cases e : j = k
    · have : l.find? (fun p => decide (p.1 = j)) = none := by
        rw [List.find?_eq_none]
        intro q hq hk
        exact c (List.any_eq_true.mpr ⟨q, hq, by rw [e] at hk; exact hk⟩)
      rw [this, if_pos e]
      simp [e]
    · rw [if_neg e]
      have : ¬ k = j := fun z => e z.symm
      cases l.find? (fun p => decide (p.1 = j)) <;> simp [this]
/-- a row more -/
theorem Ok.row {M : ShM} (O : Ok M) (m : RowM) : Ok ⟨M.rows ++ [m], M.homes, M.around, M.nest⟩ := by
  refine ⟨fun l hl => ?_, O.ar, O.hd, ?_, O.h5, ?_, O.nl⟩
  · have := O.lt l hl
    show l < (M.rows ++ [m]).length
    rw [List.length_append]; omega
  · obtain ⟨r, e, hw⟩ := O.z
    refine ⟨r, ?_, hw⟩
    show (M.rows ++ [m])[0]? = _
    rw [List.getElem?_append_left (List.getElem?_eq_some_iff.mp e).1]
    exact e
  · show M.around.length ≤ (M.rows ++ [m]).length
    have := O.al
    rw [List.length_append]; omega
theorem Ok.declare {M M' : ShM} {names : List Str} (O : Ok M) (h : declareM M names = some M') : Ok M' ∧ M'.rows.length = M.rows.length + 1 := by
  unfold declareM at h
  split at h
  · cases e : addNames (M.rows.length - 1) M.homes names with
    | none => rw [e] at h; cases h
    | some hs =>
      rw [e] at h
      obtain rfl := Option.some.inj h
      have O1 := O.row ⟨"local", names, M.rows.length + 1, 0⟩
      exact ⟨⟨O1.lt, O1.ar, O1.hd, O1.z, addNames_len _ _ _ _ e O.h5, O1.al, O1.nl⟩, by simp⟩
  · cases h
/-- what holds ahead of a block's step: as Ok, and room for one entry of around -/
structure Ok1 (M : ShM) : Prop extends Ok M where
  a1 : M.around.length + 1 ≤ M.rows.length
theorem Ok.row1 {M : ShM} (O : Ok M) (m : RowM) : Ok1 ⟨M.rows ++ [m], M.homes, M.around, M.nest⟩ :=
  ⟨O.row m, by show M.around.length + 1 ≤ (M.rows ++ [m]).length; have := O.al; rw [List.length_append, List.length_singleton]; omega⟩
theorem Ok1.open_ {M M' : ShM} {n : Nat} (O : Ok1 M) (hn : n < M.rows.length) (h : openM M n = some M') : Ok M' ∧ M'.rows.length = M.rows.length := by
  obtain ⟨b, l, eb, hlast, hll⟩ := O.toOk.last
  unfold openM at h
  rw [hlast] at h
  dsimp only at h
  split at h
  · rename_i c
    obtain rfl := Option.some.inj h
    refine ⟨⟨fun k hk => ?_, fun k hk k0 => ?_, ?_, O.z, O.h5, ?_, ?_⟩, rfl⟩
    · rcases List.mem_append.mp hk with z | z
      · exact O.lt k z
      · rw [List.mem_singleton.mp z]; exact hn
    · show getN (putN M.around n l) k ≠ none
      rw [getN_put]
      split
      · exact Option.some_ne_none _
      · rename_i z
        rcases List.mem_append.mp hk with y | y
        · exact O.ar k y k0
        · exact absurd (List.mem_singleton.mp y) z
    · show (M.nest ++ [n]).head? = some 0
      have hh := O.hd
      rw [eb] at hh ⊢
      cases b with
      | nil => exact hh
      | cons x r => exact hh
    · exact Nat.le_trans (putN_len _ _ _) O.a1
    · show (M.nest ++ [n]).length ≤ 6
      rw [List.length_append, List.length_singleton]; omega
  · cases h
theorem setRow_len (rows : List RowM) (i : Nat) (f : RowM → RowM) : (setRow rows i f).length = rows.length := by
  unfold setRow
  split
  · exact List.length_set
  · rfl
theorem setRow_zero {rows : List RowM} {i : Nat} {f : RowM → RowM} (hf : ∀ r, (f r).word = r.word) (h : ∃ r, rows[0]? = some r ∧ r.word = ("" : Str)) : ∃ r, (setRow rows i f)[0]? = some r ∧ r.word = ("" : Str) := by
  obtain ⟨r, e, hw⟩ := h
  unfold setRow
  split
  · rename_i m em
    by_cases c : i = 0
    · subst c
      rw [e] at em
      cases em
      exact ⟨f r, List.getElem?_set_self (List.getElem?_eq_some_iff.mp e).1, (hf r).trans hw⟩
    · exact ⟨r, (List.getElem?_set_ne c).trans e, hw⟩
  · exact ⟨r, e, hw⟩
theorem Ok1.turn {M M' : ShM} {n : Nat} (O : Ok1 M) (hn : n < M.rows.length) (h : turnM M n = some M') : Ok M' ∧ M'.rows.length = M.rows.length := by
  obtain ⟨b, l, eb, hlast, hll⟩ := O.toOk.last
  unfold turnM at h
  rw [hlast] at h
  dsimp only at h
  split at h
  · rename_i m a em ea
    split at h
    · rename_i c
      obtain rfl := Option.some.inj h
      have hl0 : l ≠ 0 := fun z => by
        obtain ⟨r, e, hw⟩ := O.z
        rw [z, e] at em
        cases em
        rw [hw] at c
        exact absurd c (by decide)
      have hb : ∃ r, b = 0 :: r := by
        have := O.hd
        rw [eb] at this
        cases b with
        | nil => exact absurd (Option.some.inj this) hl0
        | cons x r => exact ⟨r, by rw [Option.some.inj this]⟩
      have ed : M.nest.dropLast = b := by rw [eb, List.dropLast_concat]
      refine ⟨⟨fun k hk => ?_, fun k hk k0 => ?_, ?_, setRow_zero (fun _ => rfl) O.z, O.h5, ?_, ?_⟩, setRow_len _ _ _⟩
      · show k < (setRow M.rows l _).length
        rw [setRow_len]
        replace hk : k ∈ M.nest.dropLast ++ [n] := hk
        rw [ed] at hk
        rcases List.mem_append.mp hk with z | z
        · exact O.lt k (by rw [eb]; exact List.mem_append_left _ z)
        · rw [List.mem_singleton.mp z]; exact hn
      · show getN (putN M.around n a) k ≠ none
        replace hk : k ∈ M.nest.dropLast ++ [n] := hk
        rw [ed] at hk
        rw [getN_put]
        split
        · exact Option.some_ne_none _
        · rename_i z
          rcases List.mem_append.mp hk with y | y
          · exact O.ar k (by rw [eb]; exact List.mem_append_left _ y) k0
          · exact absurd (List.mem_singleton.mp y) z
      · show (M.nest.dropLast ++ [n]).head? = some 0
        obtain ⟨r, er⟩ := hb
        rw [ed, er]
        rfl
      · show (putN M.around n a).length ≤ (setRow M.rows l _).length
        rw [setRow_len]
        exact Nat.le_trans (putN_len _ _ _) O.a1
      · show (M.nest.dropLast ++ [n]).length ≤ 6
        have := O.nl
        rw [eb, List.length_append] at this
        rw [ed, List.length_append]
        exact this
    · cases h
  · cases h
theorem Ok1.close {M M' : ShM} {n : Nat} (O : Ok1 M) (h : closeM M n = some M') : Ok M' ∧ M'.rows.length = M.rows.length := by
  obtain ⟨b, l, eb, hlast, hll⟩ := O.toOk.last
  unfold closeM at h
  rw [hlast] at h
  dsimp only at h
  split at h
  · rename_i m em
    split at h
    · rename_i hl0
      obtain rfl := Option.some.inj h
      have ed : M.nest.dropLast = b := by rw [eb, List.dropLast_concat]
      have hb : ∃ r, b = 0 :: r := by
        have := O.hd
        rw [eb] at this
        cases b with
        | nil => exact absurd (Option.some.inj this) hl0
        | cons x r => exact ⟨r, by rw [Option.some.inj this]⟩
      have kw1 : ∀ r : RowM, (if r.word = ("else" : Str) then { r with after := n } else { r with other := n + 1 } : RowM).word = r.word := fun r => by split <;> rfl
      have hz := setRow_zero (i := l) kw1 O.z
      have hlen : (if m.word = ("loop" : Str) then setRow (setRow M.rows l fun r => if r.word = ("else" : Str) then { r with after := n } else { r with other := n + 1 }) n (fun r => { r with after := l }) else (setRow M.rows l fun r => if r.word = ("else" : Str) then { r with after := n } else { r with other := n + 1 })).length = M.rows.length := by
        split
        · rw [setRow_len, setRow_len]
        · rw [setRow_len]
      refine ⟨⟨fun k hk => ?_, fun k hk k0 => ?_, ?_, ?_, O.h5, ?_, ?_⟩, hlen⟩
      · show k < (if m.word = ("loop" : Str) then _ else _ : List RowM).length
        rw [hlen]
        replace hk : k ∈ M.nest.dropLast := hk
        rw [ed] at hk
        exact O.lt k (by rw [eb]; exact List.mem_append_left _ hk)
      · replace hk : k ∈ M.nest.dropLast := hk
        rw [ed] at hk
        exact O.ar k (by rw [eb]; exact List.mem_append_left _ hk) k0
      · show M.nest.dropLast.head? = some 0
        obtain ⟨r, er⟩ := hb
        rw [ed, er]
        rfl
      · show ∃ r, (if m.word = ("loop" : Str) then _ else _ : List RowM)[0]? = some r ∧ _
        split
        · exact setRow_zero (f := fun r => { r with after := l }) (fun _ => rfl) hz
        · exact hz
      · show M.around.length ≤ (if m.word = ("loop" : Str) then _ else _ : List RowM).length
        rw [hlen]
        exact O.al
      · show M.nest.dropLast.length ≤ 6
        have := O.nl
        rw [List.length_dropLast]
        omega
    · cases h
  · cases h
theorem ok_new : Ok ShM.new := by
  refine ⟨?_, ?_, rfl, ⟨_, rfl, rfl⟩, by decide, by decide, by decide⟩
  · intro l hl
    have : l = 0 := List.mem_singleton.mp hl
    rw [this]
    decide
  · intro l hl h0
    exact absurd (List.mem_singleton.mp hl) h0
theorem Ok.takeRow {M M' : ShM} {word : Str} {words form : List Str} (O : Ok M) (h : takeRowM M word words form = some M') : Ok M' ∧ M'.rows.length = M.rows.length + 1 := by
  unfold takeRowM at h
  dsimp only at h
  generalize ((words.zip form).filter fun p => p.2 == ("" : Str)).map (·.1) = nm at h
  by_cases c0 : nm.all (seenM M) = true
  · rw [if_pos c0] at h
    have O1 := O.row1 ⟨word, nm, M.rows.length + 1, 0⟩
    have hn : M.rows.length < (M.rows ++ [(⟨word, nm, M.rows.length + 1, 0⟩ : RowM)]).length := by simp
    have fin : (Ok M' ∧ M'.rows.length = (M.rows ++ [(⟨word, nm, M.rows.length + 1, 0⟩ : RowM)]).length) → Ok M' ∧ M'.rows.length = M.rows.length + 1 := fun z => ⟨z.1, z.2.trans (by simp)⟩
    by_cases c1 : openL.contains word = true
    · rw [if_pos c1] at h
      exact fin (O1.open_ hn h)
    · rw [if_neg c1] at h
      by_cases c2 : word = ("else" : Str)
      · rw [if_pos c2] at h
        exact fin (O1.turn hn h)
      · rw [if_neg c2] at h
        by_cases c3 : word = ("end" : Str)
        · rw [if_pos c3] at h
          exact fin (O1.close h)
        · rw [if_neg c3] at h
          obtain rfl := Option.some.inj h
          exact ⟨O1.toOk, by simp⟩
  · rw [if_neg c0] at h
    cases h
theorem Ok.take {M M' : ShM} {parts : List Str} (O : Ok M) (h : takeM M parts = some M') : Ok M' ∧ M'.rows.length = M.rows.length + 1 := by
  unfold takeM at h
  split at h
  · cases h
  · split at h
    · exact O.declare h
    · split at h
      · split at h
        · exact O.takeRow h
        · cases h
      · cases h
end FP
set_option Elab.async false
set_option linter.all false
set_option maxRecDepth 100000
set_option maxHeartbeats 4000000
namespace FP
open PySem PySem.Spec PyProof.Rows L2
/-- the written dict of the forms -/
structure FormsAt (K : PySem.W.Frag) (w : World) (mg : Str → Option Value) (aF : Addr) (fs : Array DictEntry) (fn : Nat) : Prop where
  g : mg "FORMS" = some (.ref aF)
  d : KDict K w aF fs fn
  in_ : ∀ z : Str, ∃ r, PySem.W.nsIn K aF z = some r ∧ r.isSome = (formsL.lookup z).isSome
  at_ : ∀ (z : Str) (form : List Str), formsL.lookup z = some form → ∃ t, KDct K w aF z (.ref t) ∧ ∀ H, SqT K H t (form.map V.str)
section
variable {P : Program} {w : World} {K : PySem.W.Frag} {mg : Str → Option Value} {base : Heap} {Cr Cs aT aP aO aF : Addr} {fes : Array DictEntry} {fen : Nat}
def spTakeRow (Cr Cs : Addr) : Sp := fun vs H Q _ => ∃ (s a : Addr) (word : Str) (words form : List Str) (H0 : Hp) (p : Pt) (M : ShM), vs = [.ref s, .str word, .ref a] ∧ ShAt Cr Cs H0 H s p M ∧ Ok M ∧ H0 a = some (.lst (words.map V.str)) ∧
  formsL.lookup word = some form ∧ words.length = form.length ∧ form.length ≤ 100000 ∧ M.rows.length ≤ 100000 ∧ Took Cr Cs H0 s (takeRowM M word words form) Q
abbrev nTR : List Str := ["self", "word", "words", "names", "number", "right", "name", "part"]
theorem scTR : FnScope nTR ["self", "word", "words"] (defScope mSheet_take_row) := ⟨rfl, rfl, rfl, by decide +kernel, rfl, by decide +kernel, by decide +kernel⟩
theorem ok_takeRow {f : Addr} {fd : FuncData} (F : Fun K "_take_row" "Sheet._take_row" mSheet_take_row f fd) (T : ShTxt K mg Cr Cs) (C : Csts K mg aT aP aO) (B : Blt2 mg) (FA : FormsAt K w mg aF fes fen) (DR : CDef P w K mg base Cr 1 ["self", "word", "names", "number"] (spRow Cr))
    (DS : MDef P w K mg base Cs "_is_seen" 1 ["self", "name"] (spSeen Cr Cs)) (DO : MDef P w K mg base Cs "_open_block" 1 ["self", "number"] (spStep Cr Cs openM preOpen)) (DT : MDef P w K mg base Cs "_turn" 1 ["self", "number"] (spStep Cr Cs turnM preTurn)) (DC : MDef P w K mg base Cs "_close_block" 1 ["self", "number"] (spStep Cr Cs closeM preClose)) :
    FnOk P w K mg base CX0 3 f fd ["self", "word", "words"] (spTakeRow Cr Cs) := by
  obtain ⟨fR, fdR, mR, bR, GR⟩ := DR.ex
  obtain ⟨fS, fdS, mS, bS, GS⟩ := DS.ex
  obtain ⟨fO, fdO, mO, bO, GO⟩ := DO.ex
  obtain ⟨fT, fdT, mT, bT, GT⟩ := DT.ex
  obtain ⟨fC, fdC, mC, bC, GC⟩ := DC.ex
  refine F.ok scTR (fun vs H Q E h => ?_) (fun cdv A outer s H vs Q E hr h => ?_)
  · obtain ⟨s, a, word, words, form, H0, p, M, rfl, _⟩ := h
    rfl
  obtain ⟨s, a, word, words, form, H0, p, M, rfl, A0, O, ea0, hf, hlen, hfl, hrl, k1, k2⟩ := h
  obtain ⟨dx, es⟩ := A0.sh
  have hu := hu_of hr
  have hr1 := hr.mono (show 1 ≤ 2 by decide)
  have ea := A0.same _ _ ea0
  obtain ⟨tF, kd, sF⟩ := FA.at_ word form hf
  refine ⟨_, pss_cons (ps_setLc (i := 3) (own := [("name", 6), ("part", 7)]) (g := gTup K 2 (gCons (gName 6) (gCons (gName 7) gNil))) (te := tVar 6) (by rfl) scTR.nd rfl rfl (sw_true rfl rfl rfl (by decide +kernel))
      (pi_zipB true false (by rfl) B.zip (pa_cons (pv 2) (pa_cons (pe_ix ix_kdict (pe_glob (v := .ref aF) (by rfl) FA.g rfl) (pv 1) (fun _ _ => rfl)) pa_nil))) (blkOk_by (own := [("name", 6), ("part", 7)]) (N := nTR) (sc := defScope mSheet_take_row) (by decide +kernel))
      (fun _ _ _ _ _ => pg_tup (by rfl) (pgs_cons (pg_name (i := 6) scTR.nd rfl (Or.inl rfl)) (pgs_cons (pg_name (i := 7) scTR.nd rfl (Or.inl rfl)) pgs_nil))) (fun _ _ _ _ _ => pts_one (pt_cmpR op_eq (pv 7) pe_str (nomark _))) (fun _ _ _ _ _ => pv 6))
    (pss_cons (ps_if (pt_not (pt_val (pe_callB (cr_all (by rfl)) (by rfl) B.all (by decide +kernel) (pa_cons (pe_lc (own := [("name", 6)]) (g := gName 6) (te := tMeth Cs "_is_seen" (spSeen Cr Cs) [] E0 (tVar 0) (tCons (tVar 6) tNil)) (by rfl) scTR.nd (pi_list (pv 3))
        (blkOk_by (own := [("name", 6)]) (N := nTR) (sc := defScope mSheet_take_row) (by decide +kernel)) (fun _ _ _ _ _ => pg_name (i := 6) scTR.nd rfl (Or.inl rfl)) (fun _ _ _ _ _ => pts_nil) (fun _ _ _ _ _ => pe_meth (pv 0) T.cs mS GS hr1 bS .nil pass0 (pa_cons (pv 6) pa_nil))) pa_nil)))) (pss_one (ps_ret pe_bl)) pss_nil)
    (pss_cons (ps_set (i := 4) scTR.nd rfl (.inl rfl) (pe_callB call_len_seq (by rfl) B.len boot_len (pa_cons (pe_fld (pv 0) rfl) pa_nil)))
    (pss_cons (ps_expr (pe_bm PySem.F.plainAttrs_list PySem.F.slot_list_append PySem.F.type_list_append mt_append (pe_fld (pv 0) rfl) (pa_cons (pe_make mR GR hr rfl T.gr bR .nil pass0 (pa_cons (pv 1) (pa_cons (pe_callTy call_tuple_of (by rfl) B.tuple (by decide +kernel) (pa_cons (pv 3) pa_nil)) (pa_cons (pv 4) pa_nil)))) pa_nil)))
    (pss_cons (ps_set (i := 5) scTR.nd rfl (.inl rfl) pe_bl)
    (pss_cons (ps_if (pt_cmpR op_in_seq (pv 1) (pe_glob (v := .ref aO) (by rfl) C.gO rfl) (by rfl)) (pss_one (ps_set (i := 5) scTR.nd rfl (.inl rfl) (pe_meth (pv 0) T.cs mO GO hr1 bO .nil pass0 (pa_cons (pv 4) pa_nil))))
      (pss_one (ps_if (pt_cmpR op_eq (pv 1) pe_str (nomark _)) (pss_one (ps_set (i := 5) scTR.nd rfl (.inl rfl) (pe_meth (pv 0) T.cs mT GT hr1 bT .nil pass0 (pa_cons (pv 4) pa_nil))))
      (pss_one (ps_if (pt_cmpR op_eq (pv 1) pe_str (nomark _)) (pss_one (ps_set (i := 5) scTR.nd rfl (.inl rfl) (pe_meth (pv 0) T.cs mC GC hr1 bC .nil pass0 (pa_cons (pv 4) pa_nil)))) pss_nil)))))
    (pss_one (ps_ret (pv 5)))))))), ?_⟩
  let nm : List Str := ((words.zip form).filter fun p => p.2 == ("" : Str)).map (·.1)
  have hnm : nm.length ≤ 100000 := by
    show (((words.zip form).filter fun p => p.2 == ("" : Str)).map (·.1)).length ≤ _
    rw [List.length_map]
    refine Nat.le_trans (List.length_filter_le _ _) ?_
    rw [List.length_zip]; omega
  refine ⟨_, rfl, _, rfl, aF, word, _, rfl, rfl, kd, a, tF, _, _, rfl, SqL.of ea, sF H, fun D hD => lc_it (walk_zipB (n := form.length) (xs := words.map V.str) (ys := form.map V.str) (by simp [hlen]) (by simp))
    (fun n H' => Same H H' ∧ H' D = some (.lst (((((words.zip form).take n).filter fun p => p.2 == ("" : Str)).map (·.1)).map V.str))) ⟨Same.new (Same.refl H) hD, upd_same⟩ (fun _ H' _ z => ⟨SqL.of (z.1 _ _ ea), sF H'⟩) ?_ ?_⟩
  · rintro n v H' H'' hn' ⟨S1, eD⟩ ⟨T', x, y, rfl, hT, rfl, hx, hy⟩
    have hwn : n < words.length := by omega
    replace hx : (words.map V.str)[n]? = some x := hx
    replace hy : (form.map V.str)[n]? = some y := hy
    rw [List.getElem?_map, List.getElem?_eq_getElem hwn] at hx
    rw [List.getElem?_map, List.getElem?_eq_getElem hn'] at hy
    obtain rfl : V.str words[n] = x := Option.some.inj hx
    obtain rfl : V.str form[n] = y := Option.some.inj hy
    have eD2 : (upd H' T' (.tup [.str words[n], .str form[n]])) D = _ := (upd_ne (ne_of_none eD hT)).trans eD
    have S2 := Same.new (o := .tup [.str words[n], .str form[n]]) S1 hT
    have htk : (words.zip form).take (n + 1) = (words.zip form).take n ++ [(words[n], form[n])] := by
      rw [List.take_add_one, List.getElem?_eq_getElem (by rw [List.length_zip]; omega), List.getElem_zip]
      rfl
    refine ⟨T', _, rfl, SqT.of upd_same, rfl, _, _, rfl, _, _, rfl, rfl, rfl, _, rfl, rfl, _, rfl, ?_⟩
    refine ite2 (fun c => ?_) fun c => ?_
    · have hc : (form[n] == ("" : Str)) = true := beq_iff_eq.mpr (V.str.inj (of_decide_eq_true c))
      refine ⟨_, rfl, _, eD2, ?_, ?_, ?_⟩
      · rw [List.length_map, List.length_map, sizeLine_eq]
        have := List.length_filter_le (fun p : Str × Str => p.2 == ("" : Str)) ((words.zip form).take n)
        rw [List.length_take] at this
        omega
      · intro c' o e
        rw [upd_ne (ne_of_none e hD)]
        exact S2 c' o e
      · rw [upd_same, htk, List.filter_append, List.map_append, List.map_append]
        simp [hc]
    · have hc : (form[n] == ("" : Str)) = false := by
        cases e : form[n] == ("" : Str) with
        | false => rfl
        | true => exact absurd (decide_eq_true (congrArg V.str (beq_iff_eq.mp e))) c
      refine ⟨S2, ?_⟩
      rw [eD2, htk, List.filter_append]
      simp [hc]
  rintro H1 ⟨S1, eD⟩
  rw [List.take_of_length_le (by rw [List.length_zip]; omega)] at eD
  replace eD : H1 D = some (.lst (nm.map V.str)) := eD
  have A1 := A0.grow S1
  have hm : takeRowM M word words form = if nm.all (seenM M) = true then
      (if openL.contains word = true then openM ⟨M.rows ++ [⟨word, nm, M.rows.length + 1, 0⟩], M.homes, M.around, M.nest⟩ M.rows.length else if word = ("else" : Str) then turnM ⟨M.rows ++ [⟨word, nm, M.rows.length + 1, 0⟩], M.homes, M.around, M.nest⟩ M.rows.length
        else if word = ("end" : Str) then closeM ⟨M.rows ++ [⟨word, nm, M.rows.length + 1, 0⟩], M.homes, M.around, M.nest⟩ M.rows.length else some ⟨M.rows ++ [⟨word, nm, M.rows.length + 1, 0⟩], M.homes, M.around, M.nest⟩) else none := rfl
  -- are all of them seen
  refine ⟨_, rfl, D, rfl, ⟨_, SqL.of eD⟩, fun D2 hD2 => lc_it (walk_list (xs := nm.map V.str)) (fun n H' => Same H1 H' ∧ H' D2 = some (.lst (((nm.take n).map (seenM M)).map V.bl))) ⟨Same.new (Same.refl H1) hD2, upd_same⟩ (fun _ H' _ z => SqL.of (z.1 _ _ eD)) ?_ ?_⟩
  · rintro n v H' H'' hn' ⟨S2, eD2⟩ ⟨rfl, hxi⟩
    rw [List.length_map] at hn'
    rw [List.getElem?_map, List.getElem?_eq_getElem hn'] at hxi
    obtain rfl : V.str nm[n] = v := Option.some.inj hxi
    have A2 := A1.grow S2
    obtain ⟨d2, es2⟩ := A2.sh
    refine ⟨rfl, _, rfl, s, d2, _, rfl, es2, rfl, _, rfl, s, H0, p, M, nm[n], rfl, A2, _, eD2, ?_, ?_, ?_⟩
    · rw [List.length_map, List.length_map, List.length_take, sizeLine_eq]
      omega
    · intro c' o e
      rw [upd_ne (ne_of_none e hD2)]
      exact S2 c' o e
    · rw [upd_same, List.take_add_one, List.getElem?_eq_getElem hn', List.map_append, List.map_append]
      rfl
  rintro H2 ⟨S2, eD2⟩
  rw [List.length_map, List.take_length] at eD2
  have A2 := A1.grow S2
  refine ⟨D2, _, rfl, SqL.of eD2, _, rfl, ?_⟩
  have ea2 : (nm.map (seenM M)).all id = nm.all (seenM M) := by rw [List.all_map]; rfl
  rw [ea2]
  cases hs : nm.all (seenM M) with
  | false => exact iteT (k2 (by rw [hm, hs]; rfl) _ A2.same)
  | true =>
    rw [hs, if_pos rfl] at hm
    obtain ⟨d2, es2⟩ := A2.sh
    refine iteF ⟨_, rfl, s, Cs, d2, _, _, rfl, es2, T.cs, T.sr, lkS1 p, p.R, _, rfl, .inl (SqL.of A2.R), ?_⟩
    rw [show (p.ras.map V.ref).length = M.rows.length by rw [List.length_map, A2.len]]
    refine ⟨_, rfl, s, Cs, d2, _, _, rfl, es2, T.cs, T.sr, lkS1 p, .inl ⟨rfl, _, SqL.of A2.R⟩, _, rfl, _, rfl, D, _, rfl, .inl ⟨SqL.of (S2 _ _ eD), fun q hq => ?_⟩⟩
    refine ⟨_, rfl, fun x dx' nx ndx nex => ⟨x, dx', q, _, M.rows.length, rfl, upd_same, fun H3 e1 e2 => ⟨rfl, ?_⟩⟩⟩
    obtain ⟨S3, new⟩ := row_made (names := nm) (Same.new (o := .tup (nm.map V.str)) (Same.refl H2) hq) upd_same nx ndx e1 e2
    have nx' : H2 x = none := (Same.new (o := .tup (nm.map V.str)) (Same.refl H2) hq).free nx
    have A3 := A2.addRow S3 nx' new
    have O1 := O.row1 ⟨word, nm, M.rows.length + 1, 0⟩
    refine ⟨p.R, _, _, rfl, rfl, S3 _ _ A2.R, ?_, ?_⟩
    · rw [List.length_map, A2.len, sizeLine_eq]
      omega
    rw [List.map_append] at A3
    obtain ⟨d3, es3⟩ := A3.sh
    obtain ⟨b, l, eb, hlast, hll⟩ := O1.toOk.last
    have h1k : M.around.length ≤ 100000 := Nat.le_trans O.al hrl
    obtain ⟨mL, em⟩ : ∃ m, (M.rows ++ [(⟨word, nm, M.rows.length + 1, 0⟩ : RowM)])[l]? = some m := ⟨_, List.getElem?_eq_getElem hll⟩
    refine ⟨_, rfl, aO, _, rfl, .inr (C.sO _), rfl, flat_strs _, _, rfl, ?_⟩
    rw [show (if false = true then !inV (V.str word) (openL.map V.str) else inV (V.str word) (openL.map V.str)) = openL.contains word from inV_strs word openL]
    cases c1 : openL.contains word with
    | true =>
      rw [c1, if_pos rfl] at hm
      refine iteT ⟨_, rfl, s, d3, _, rfl, es3, rfl, _, rfl, s, M.rows.length, H0, _, _, rfl, A3, ⟨⟨b, l, eb⟩, h1k, Nat.le_trans O.nl (by decide)⟩, fun M' e H' A' => ⟨_, rfl, k1 M' (hm.trans e) _ _ A'⟩, fun e => ⟨_, rfl, k2 (hm.trans e) _ A3.same⟩⟩
    | false =>
      rw [c1, if_neg Bool.false_ne_true] at hm
      refine iteF ⟨_, rfl, rfl, _, rfl, ite2 (fun c2 => ?_) fun c2 => ?_⟩
      · have hw : word = ("else" : Str) := V.str.inj (of_decide_eq_true c2)
        rw [if_pos hw] at hm
        refine ⟨_, rfl, s, d3, _, rfl, es3, rfl, _, rfl, s, M.rows.length, H0, _, _, rfl, A3, ⟨⟨b, l, _, eb, em, fun ht => ?_⟩, h1k⟩, fun M' e H' A' => ⟨_, rfl, k1 M' (hm.trans e) _ _ A'⟩, fun e => ⟨_, rfl, k2 (hm.trans e) _ A3.same⟩⟩
        refine O1.ar l (by rw [eb]; simp) fun z => ?_
        obtain ⟨r0, e0, hw0⟩ := O1.z
        rw [z] at em
        rw [← Option.some.inj (e0.symm.trans em), hw0] at ht
        exact absurd ht (by decide)
      · rw [if_neg (fun z => c2 (decide_eq_true (by rw [z])))] at hm
        refine ⟨_, rfl, rfl, _, rfl, ite2 (fun c3 => ?_) fun c3 => ?_⟩
        · have hw : word = ("end" : Str) := V.str.inj (of_decide_eq_true c3)
          rw [if_pos hw] at hm
          exact ⟨_, rfl, s, d3, _, rfl, es3, rfl, _, rfl, s, M.rows.length, H0, _, _, rfl, A3, ⟨⟨b, l, _, eb, em⟩, by simp⟩, fun M' e H' A' => ⟨_, rfl, k1 M' (hm.trans e) _ _ A'⟩, fun e => ⟨_, rfl, k2 (hm.trans e) _ A3.same⟩⟩
        · rw [if_neg (fun z => c3 (decide_eq_true (by rw [z])))] at hm
          exact ⟨_, rfl, k1 _ hm _ _ A3⟩
end
end FP
set_option Elab.async false
set_option linter.all false
set_option maxRecDepth 100000
set_option maxHeartbeats 4000000
namespace FP
open PySem PySem.Spec PyProof.Rows L2 TL
theorem spl_ne (S : List Nat) : ∀ (l : List Nat) (k : Nat) (acc : List Nat), spl S k acc l ≠ []
  | [], k, acc => by rw [spl_nil]; exact List.cons_ne_nil _ _
  | c :: r, 0, acc => by
    show (if pre S (c :: r) = true then acc :: spl S (S.length - 1) [] r else spl S 0 (acc ++ [c]) r) ≠ []
    split
    · exact List.cons_ne_nil _ _
    · exact spl_ne S r 0 _
  | c :: r, k + 1, acc => spl_ne S r k acc
theorem spl_lens (S : List Nat) : ∀ (l : List Nat) (k : Nat) (acc : List Nat), ∀ p ∈ spl S k acc l, p.length ≤ acc.length + l.length
  | [], k, acc, p, hp => by
    rw [spl_nil] at hp
    rw [List.mem_singleton.mp hp]
    exact Nat.le_refl _
  | c :: r, 0, acc, p, hp => by
    have hp' : p ∈ (if pre S (c :: r) = true then acc :: spl S (S.length - 1) [] r else spl S 0 (acc ++ [c]) r) := hp
    rw [List.length_cons]
    split at hp'
    · rcases List.mem_cons.mp hp' with z | z
      · rw [z]; omega
      · have := spl_lens S r _ _ p z
        rw [List.length_nil] at this
        omega
    · have := spl_lens S r _ _ p hp'
      rw [List.length_append, List.length_singleton] at this
      omega
  | c :: r, k + 1, acc, p, hp => by
    have := spl_lens S r k acc p hp
    rw [List.length_cons]
    omega
theorem split_ne (x y : Str) (hy : tl y ≠ []) (hk : y.cps.all (· < 256) = true) : Txt.split x y ≠ [] := fun z => by
  have := split_spl x y hy (kind_ok hk)
  rw [z] at this
  exact spl_ne _ _ _ _ this.symm
theorem split_lens (x y : Str) (hy : tl y ≠ []) (hk : y.cps.all (· < 256) = true) : ∀ p ∈ Txt.split x y, p.length ≤ x.length := fun p hp => by
  have e := split_spl x y hy (kind_ok hk)
  have : tl p ∈ spl (tl y) 0 [] (tl x) := by rw [← e]; exact List.mem_map_of_mem hp
  have := spl_lens _ _ _ _ _ this
  rw [len_tl p, len_tl x]
  simpa using this
section
variable {P : Program} {w : World} {K : PySem.W.Frag} {mg : Str → Option Value} {base : Heap} {Cr Cs aT aP aO aF : Addr} {fes : Array DictEntry} {fen : Nat}
def spTakeLine (Cr Cs : Addr) : Sp := fun vs H Q _ => ∃ (s : Addr) (line : Str) (H0 : Hp) (p : Pt) (M : ShM), vs = [.ref s, .str line] ∧ ShAt Cr Cs H0 H s p M ∧ Ok M ∧ line.length ≤ 90000 ∧ M.rows.length ≤ 100000 ∧ Took Cr Cs H0 s (takeM M (Txt.split line " ")) Q
abbrev nTL : List Str := ["self", "line", "parts", "word", "words", "right"]
theorem scTL : FnScope nTL ["self", "line"] (defScope mSheet_take_line) := ⟨rfl, rfl, rfl, by decide +kernel, rfl, by decide +kernel, by decide +kernel⟩
theorem cut_drop1 (x : V) (xs : List V) : cutV (x :: xs) (some 1) none = xs := by
  unfold cutV
  rw [show HT.sIx (x :: xs).length 0 (some 1) = 1 from (HT.sIx_nat ..).trans (by simp), show HT.sIx (x :: xs).length (x :: xs).length none = (x :: xs).length from rfl]
  simp
theorem ok_takeLine {f : Addr} {fd : FuncData} (F : Fun K "take_line" "Sheet.take_line" mSheet_take_line f fd) (T : ShTxt K mg Cr Cs) (B : Blt2 mg) (FA : FormsAt K w mg aF fes fen)
    (DF : Def P w K mg base "fits" 1 ["words", "form"] (spFits K)) (DD : MDef P w K mg base Cs "_declare" 3 ["self", "names"] (spDeclare Cr Cs)) (DT : MDef P w K mg base Cs "_take_row" 3 ["self", "word", "words"] (spTakeRow Cr Cs)) :
    FnOk P w K mg base CX0 4 f fd ["self", "line"] (spTakeLine Cr Cs) := by
  obtain ⟨fF, fdF, gF, kF, bF, GF⟩ := DF.ex
  obtain ⟨fD, fdD, mD, bD, GD⟩ := DD.ex
  obtain ⟨fT, fdT, mT, bT, GT⟩ := DT.ex
  refine F.ok scTL (fun vs H Q E h => ?_) (fun cdv A outer s H vs Q E hr h => ?_)
  · obtain ⟨s, line, H0, p, M, rfl, _⟩ := h
    rfl
  obtain ⟨s, line, H0, p, M, rfl, A0, O, hll, hrl, k1, k2⟩ := h
  have hr1 := hr.mono (show 1 ≤ 3 by decide)
  refine ⟨_, pss_cons (ps_set (i := 2) scTL.nd rfl (.inl rfl) (pe_split (pv 1) pe_str))
    (pss_cons (ps_set (i := 3) scTL.nd rfl (.inl rfl) (pe_ix ix_list (pv 2) pe_int (fun _ _ => rfl)))
    (pss_cons (ps_set (i := 4) scTL.nd rfl (.inl rfl) (pe_slice sl_list (pv 2) (po_some pe_int) po_none))
    (pss_cons (ps_if (pt_cmpR op_eq (pv 3) pe_str (nomark _)) (pss_one (ps_set (i := 5) scTL.nd rfl (.inl rfl) (pe_meth (pv 0) T.cs mD GD hr bD .nil pass0 (pa_cons (pv 4) pa_nil))))
      (pss_one (ps_if (PW.pt (pw_and (pt_cmpR (op_in_kd FA.d) (pv 3) (pe_glob (v := .ref aF) (by rfl) FA.g rfl) (by rfl)) (pw_and1 (pt_val (pe_call GF hr1 rfl gF kF bF .nil pass0 (pa_cons (pv 4) (pa_cons (pe_ix ix_kdict (pe_glob (v := .ref aF) (by rfl) FA.g rfl) (pv 3) (fun _ _ => rfl)) pa_nil)))))))
        (pss_one (ps_set (i := 5) scTL.nd rfl (.inl rfl) (pe_meth (pv 0) T.cs mT GT hr bT .nil pass0 (pa_cons (pv 3) (pa_cons (pv 4) pa_nil)))))
        (pss_one (ps_set (i := 5) scTL.nd rfl (.inl rfl) pe_bl)))))
    (pss_one (ps_ret (pv 5)))))), ?_⟩
  have hsl : tl (" " : Str) ≠ [] := by decide
  have hsk : (" " : Str).cps.all (· < 256) = true := by decide +kernel
  have hlens := split_lens line " " hsl hsk
  have hcnt := PyProof.Rows.split_le line " "
  obtain ⟨word, words, ew⟩ : ∃ word words, Txt.split line " " = word :: words := by
    cases e : Txt.split line " " with
    | nil => exact absurd e (split_ne line " " hsl hsk)
    | cons a b => exact ⟨a, b, rfl⟩
  rw [ew] at k1 k2 hlens hcnt
  rw [List.length_cons] at hcnt
  refine ⟨_, rfl, ⟨_, rfl⟩, line, _, rfl, rfl, rfl, (by rw [sizeLine_eq]; omega), fun l1 h1 => ?_⟩
  rw [ew]
  refine ⟨_, rfl, l1, _, _, V.str word, rfl, rfl, SqL.of upd_same, atI_nat (j := 0) rfl, ?_⟩
  refine ⟨_, rfl, 1, rfl, l1, _, rfl, SqL.of upd_same, fun a ha => ?_⟩
  rw [show cutV (List.map V.str (word :: words)) (some 1) none = words.map V.str from cut_drop1 _ _]
  have A1 := (A0.grow (Same.new (o := .lst ((word :: words).map V.str)) (Same.refl H) h1)).root (o := .lst (words.map V.str)) ha
  have ea0 : (upd H0 a (.lst (words.map V.str))) a = some (.lst (words.map V.str)) := upd_same
  have ha0 : H0 a = none := (A0.same.trans (Same.new (o := .lst ((word :: words).map V.str)) (Same.refl H) h1)).free ha
  have S0 : Same H0 (upd H0 a (.lst (words.map V.str))) := Same.new (Same.refl H0) ha0
  obtain ⟨d1, es1⟩ := A1.sh
  have hm : takeM M (word :: words) = if word = ("local" : Str) then declareM M words else match formsL.lookup word with
    | some form => if fitsM words form = true then takeRowM M word words form else none
    | none => none := rfl
  refine ⟨_, rfl, rfl, _, rfl, ite2 (fun c => ?_) fun c => ?_⟩
  · have hw : word = ("local" : Str) := V.str.inj (of_decide_eq_true c)
    rw [if_pos hw] at hm
    exact ⟨_, rfl, s, d1, _, rfl, es1, rfl, _, rfl, s, a, words, _, p, M, rfl, A1, O, ea0, by omega, fun x hx => Nat.le_trans (hlens x (List.mem_cons_of_mem _ hx)) (by omega), hrl,
      fun M' e p' H' A' => ⟨_, rfl, k1 M' (hm.trans e) _ _ (A'.back S0)⟩, fun e H' S => ⟨_, rfl, k2 (hm.trans e) _ (S0.trans S)⟩⟩
  rw [if_neg (fun z => c (decide_eq_true (by rw [z])))] at hm
  obtain ⟨r, er, hr_⟩ := FA.in_ word
  refine ⟨_, rfl, word, r, rfl, rfl, er, _, rfl, ?_⟩
  rw [hr_]
  cases ef : formsL.lookup word with
  | none =>
    rw [ef] at hm
    exact iteF ⟨_, rfl, k2 hm _ (S0.trans A1.same)⟩
  | some form =>
    rw [ef] at hm
    replace hm : takeM M (word :: words) = if fitsM words form = true then takeRowM M word words form else none := hm
    obtain ⟨tF, kd, sF⟩ := FA.at_ word form ef
    have hfl : form.length ≤ 100 := by
      have : form ∈ formsL.map (·.2) := by
        have h2 : ∀ (l : List (Str × List Str)), l.lookup word = some form → form ∈ l.map (·.2) := by
          intro l
          induction l with
          | nil => intro z; cases z
          | cons q r ih =>
            intro z
            obtain ⟨q1, q2⟩ := q
            rw [List.lookup_cons] at z
            split at z
            · rw [Option.some.inj z]; exact List.mem_cons_self
            · exact List.mem_cons_of_mem _ (ih z)
        exact h2 _ ef
      have hall : ∀ f ∈ formsL.map (·.2), f.length ≤ 100 := by decide
      exact hall form this
    refine iteT ⟨_, rfl, _, rfl, aF, word, _, rfl, rfl, kd, a, tF, words, form, rfl, upd_same, sF, by omega, by omega, fun H2 S2 => ⟨_, rfl, ?_⟩⟩
    have A2 := A1.grow S2
    obtain ⟨d2, es2⟩ := A2.sh
    cases eq : fitsM words form with
    | false =>
      rw [eq, if_neg Bool.false_ne_true] at hm
      exact iteF ⟨_, rfl, k2 hm _ (S0.trans A2.same)⟩
    | true =>
      rw [eq, if_pos rfl] at hm
      have hlen : words.length = form.length := by
        unfold fitsM at eq
        rw [Bool.and_eq_true] at eq
        exact of_decide_eq_true eq.1
      exact iteT ⟨_, rfl, s, d2, _, rfl, es2, rfl, _, rfl, _, rfl, s, a, word, words, form, _, p, M, rfl, A2, O, ea0, ef, hlen, by omega, hrl,
        fun M' e p' H' A' => ⟨_, rfl, k1 M' (hm.trans e) _ _ (A'.back S0)⟩, fun e H' S => ⟨_, rfl, k2 (hm.trans e) _ (S0.trans S)⟩⟩
end
end FP
set_option Elab.async false
set_option linter.all false
set_option maxRecDepth 100000
set_option maxHeartbeats 4000000
namespace FP
open PySem PySem.Spec PyProof.Rows L2
section
variable {P : Program} {w : World} {K : PySem.W.Frag} {mg : Str → Option Value} {base : Heap} {Cr Cs aT aP aO : Addr}
def spLand (Cr Cs : Addr) : Sp := fun vs H Q _ => ∃ (s : Addr) (n f k : Nat) (H0 : Hp) (p : Pt) (M : ShM), vs = [.ref s, .int (n : Nat)] ∧ ShAt Cr Cs H0 H s p M ∧ landM M.rows f n = some k ∧ Q (.int (k : Nat)) H
theorem scLA : FnScope ["self", "number"] ["self", "number"] (defScope mSheet_landing) := ⟨rfl, rfl, rfl, by decide +kernel, rfl, by decide +kernel, by decide +kernel⟩
theorem ok_land {f : Addr} {fd : FuncData} (F : Fun K "_landing" "Sheet._landing" mSheet_landing f fd) (T : ShTxt K mg Cr Cs) (C : Csts K mg aT aP aO) (B : Blt2 mg) : FnOk P w K mg base CX0 1 f fd ["self", "number"] (spLand Cr Cs) := by
  refine F.ok scLA (fun vs H Q E h => ?_) (fun cdv A outer s H vs Q E hr h => ?_)
  · obtain ⟨s, n, f, k, H0, p, M, rfl, _⟩ := h
    rfl
  obtain ⟨s, n, f, k, H0, p, M, rfl, A0, hk, q⟩ := h
  obtain ⟨dx, es⟩ := A0.sh
  have hlen : (p.ras.map V.ref).length = M.rows.length := by rw [List.length_map, A0.len]
  refine ⟨_, pss_cons (ps_while PassesOwn.never (PW.pt (pw_and (pt_cmpR op_lt (pv 1) (pe_callB call_len_seq (by rfl) B.len boot_len (pa_cons (pe_fld (pv 0) rfl) pa_nil)) (nomark _))
      (pw_and1 (pt_cmpR op_in_seq (pe_fld (pe_ix ix_list (pe_fld (pv 0) rfl) (pv 1) (fun _ _ => rfl)) rfl) (pe_glob (v := .ref aP) (by rfl) C.gP rfl) (by rfl)))))
      (pss_one (ps_set (i := 1) scLA.nd rfl (.inl rfl) (pe_fld (pe_ix ix_list (pe_fld (pv 0) rfl) (pv 1) (fun _ _ => rfl)) rfl))))
    (pss_one (ps_ret (pe_ifExp (pt_cmpR op_lt (pv 1) (pe_callB call_len_seq (by rfl) B.len boot_len (pa_cons (pe_fld (pv 0) rfl) pa_nil)) (nomark _)) (pv 1) pe_int))), ?_⟩
  refine ⟨fun m σ H' => H' = H ∧ ∃ n' : Nat, σ = [some (.ref s), some (.int (n' : Nat))] ∧ landM M.rows m n' = some k, ⟨f, rfl, n, rfl, hk⟩, ?_⟩
  rintro m σ H' ⟨rfl, n', rfl, hm⟩
  cases m with
  | zero => cases hm
  | succ m =>
    have e0 : landM M.rows (m + 1) n' = if n' < M.rows.length then (match M.rows[n']? with
      | some r => if passL.contains r.word = true then landM M.rows m r.after else some n'
      | none => none) else some 0 := rfl
    rw [e0] at hm
    refine ⟨_, rfl, _, rfl, s, Cs, dx, _, _, rfl, es, T.cs, T.sr, lkS1 p, p.R, _, rfl, .inl (SqL.of A0.R), _, _, rfl, rfl, _, rfl, ?_⟩
    rw [hlen]
    refine ite2 (fun c => ?_) fun c => ?_
    · have hn : n' < M.rows.length := by have := of_decide_eq_true c; omega
      rw [if_pos hn] at hm
      have em := List.getElem?_eq_getElem hn
      obtain ⟨r, dr, t, hr_, eat, er, et⟩ := A0.rowsAt em
      rw [em] at hm
      refine ⟨_, rfl, s, Cs, dx, _, _, rfl, es, T.cs, T.sr, lkS1 p, _, rfl, p.R, _, _, _, rfl, rfl, SqL.of A0.R, eat, r, Cr, dr, _, _, rfl, er, T.cr, T.rw_, lkR1 _ t, aP, _, rfl, .inr (C.sP H'), rfl, flat_strs _, _, rfl, ?_⟩
      rw [show (if false = true then !inV (V.str M.rows[n'].word) (passL.map V.str) else inV (V.str M.rows[n'].word) (passL.map V.str)) = passL.contains M.rows[n'].word from inV_strs _ passL]
      cases hc : passL.contains M.rows[n'].word with
      | true =>
        replace hm : (if passL.contains M.rows[n'].word = true then landM M.rows m M.rows[n'].after else some n') = some k := hm
        rw [if_pos hc] at hm
        refine iteT ⟨fun σ H2 => H2 = H' ∧ ∃ n' : Nat, σ = [some (.ref s), some (.int (n' : Nat))] ∧ landM M.rows m n' = some k, fun σ' H2 z => ⟨m, Nat.lt_succ_self _, z⟩, ?_⟩
        exact ⟨_, rfl, s, Cs, dx, _, _, rfl, es, T.cs, T.sr, lkS1 p, _, rfl, p.R, _, _, _, rfl, rfl, SqL.of A0.R, eat, r, Cr, dr, _, _, rfl, er, T.cr, T.ra, lkR3 _ t, rfl, _, rfl, hm⟩
      | false =>
        replace hm : (if passL.contains M.rows[n'].word = true then landM M.rows m M.rows[n'].after else some n') = some k := hm
        rw [if_neg (by rw [hc]; exact Bool.false_ne_true)] at hm
        refine iteF ?_
        refine ⟨_, rfl, _, rfl, s, Cs, dx, _, _, rfl, es, T.cs, T.sr, lkS1 p, p.R, _, rfl, .inl (SqL.of A0.R), _, _, rfl, rfl, _, rfl, ?_⟩
        rw [hlen, decide_eq_true (show (n' : Int) < (M.rows.length : Nat) by omega)]
        refine iteT ⟨_, rfl, ?_⟩
        rw [Option.some.inj hm]
        exact q
    · have hn : ¬ n' < M.rows.length := fun z => c (decide_eq_true (by omega))
      rw [if_neg hn] at hm
      refine ⟨_, rfl, _, rfl, s, Cs, dx, _, _, rfl, es, T.cs, T.sr, lkS1 p, p.R, _, rfl, .inl (SqL.of A0.R), _, _, rfl, rfl, _, rfl, ?_⟩
      rw [hlen, decide_eq_false (show ¬ (n' : Int) < (M.rows.length : Nat) by omega)]
      refine iteF ?_
      rw [← Option.some.inj hm] at q
      exact q
end
end FP
set_option Elab.async false
set_option linter.all false
set_option maxRecDepth 100000
set_option maxHeartbeats 4000000
namespace FP
open PySem PySem.Spec PyProof.Rows L2
section
variable {P : Program} {w : World} {K : PySem.W.Frag} {mg : Str → Option Value} {base : Heap} {Cr Cs aT aP aO : Addr}
def spWays (Cr Cs : Addr) : Sp := fun vs H Q _ => ∃ (s : Addr) (f : Nat) (rows' : List RowM) (H0 : Hp) (p : Pt) (M : ShM), vs = [.ref s] ∧ ShAt Cr Cs H0 H s p M ∧ waysM f M.rows.length 0 M.rows = some rows' ∧
  ∀ H', ShAt Cr Cs H0 H' s p ⟨rows', M.homes, M.around, M.nest⟩ → Q .non H'
theorem wayM_len {f i : Nat} {rows rows' : List RowM} (h : wayM f rows i = some rows') : rows'.length = rows.length := by
  unfold wayM at h
  split at h
  · split at h
    · rw [← Option.some.inj h]
    · cases e1 : landM rows f (‹RowM›).after with
      | none => rw [e1] at h; cases h
      | some a =>
        rw [e1] at h
        obtain ⟨o, _, e⟩ := Option.map_eq_some_iff.mp h
        rw [← e, List.length_set]
  · cases h
theorem scFW : FnScope ["self", "row"] ["self"] (defScope mSheet_find_ways) := ⟨rfl, rfl, rfl, by decide +kernel, rfl, by decide +kernel, by decide +kernel⟩
theorem ok_ways {f : Addr} {fd : FuncData} (F : Fun K "find_ways" "Sheet.find_ways" mSheet_find_ways f fd) (T : ShTxt K mg Cr Cs) (C : Csts K mg aT aP aO) (B : Blt2 mg) (DL : MDef P w K mg base Cs "_landing" 1 ["self", "number"] (spLand Cr Cs)) :
    FnOk P w K mg base CX0 2 f fd ["self"] (spWays Cr Cs) := by
  obtain ⟨fL, fdL, mL, bL, GL⟩ := DL.ex
  refine F.ok scFW (fun vs H Q E h => ?_) (fun cdv A outer s H vs Q E hr h => ?_)
  · obtain ⟨s, f, rows', H0, p, M, rfl, _⟩ := h
    rfl
  obtain ⟨s, fu, rows', H0, p, M, rfl, A0, hw, q⟩ := h
  obtain ⟨dx, es⟩ := A0.sh
  refine ⟨_, pss_one (ps_for PassesOwn.never rfl (pi_list (pe_callTy call_list_of (by rfl) B.list (by decide +kernel) (pa_cons (pe_fld (pv 0) rfl) pa_nil))) (pg_name (i := 1) scFW.nd rfl (Or.inl rfl))
    (pss_one (ps_if (pt_cmpR op_notIn_seq (pe_fld (pv 1) rfl) (pe_glob (v := .ref aP) (by rfl) C.gP rfl) (by rfl))
      (pss_cons (ps_fld (pv 1) (pe_meth (pv 0) T.cs mL GL hr bL .nil pass0 (pa_cons (pe_fld (pv 1) rfl) pa_nil)) rfl) (pss_one (ps_fld (pv 1) (pe_meth (pv 0) T.cs mL GL hr bL .nil pass0 (pa_cons (pe_fld (pv 1) rfl) pa_nil)) rfl))) pss_nil))), ?_⟩
  refine ⟨_, rfl, s, Cs, dx, _, _, rfl, es, T.cs, T.sr, lkS1 p, p.R, _, rfl, .inl (SqL.of A0.R), fun D hD => ?_⟩
  have S0 : Same H0 (upd H0 D (.lst (p.ras.map V.ref))) := Same.new (Same.refl H0) (A0.same.free hD)
  have eD0 : (upd H0 D (.lst (p.ras.map V.ref))) D = some (.lst (p.ras.map V.ref)) := upd_same
  have A1 := A0.root (o := .lst (p.ras.map V.ref)) hD
  generalize upd H0 D (.lst (p.ras.map V.ref)) = HD at S0 eD0 A1
  refine ⟨D, rfl, ⟨_, SqL.of upd_same⟩, for_it (walk_list (xs := p.ras.map V.ref)) (fun i σ H' => ∃ rows, (∃ z, σ = [some (.ref s), z]) ∧ rows.length = M.rows.length ∧ ShAt Cr Cs HD H' s p ⟨rows, M.homes, M.around, M.nest⟩ ∧ waysM fu (M.rows.length - i) i rows = some rows')
    ⟨M.rows, ⟨none, rfl⟩, rfl, A1, hw⟩ (fun i σ H' _ z => ?_) ?_ ?_⟩
  · obtain ⟨rows, _, _, A2, _⟩ := z
    exact SqL.of (A2.same _ _ eD0)
  · rintro i x σ H' H'' hi ⟨rows, ⟨z, rfl⟩, hl, A2, hw2⟩ ⟨rfl, hxi⟩
    rw [List.length_map, A0.len] at hi
    obtain ⟨m, em⟩ : ∃ m, rows[i]? = some m := ⟨_, List.getElem?_eq_getElem (by rw [hl]; exact hi)⟩
    obtain ⟨r, dr, t, hr_, _, er, et⟩ := A2.rowsAt (M := ⟨rows, M.homes, M.around, M.nest⟩) em
    rw [List.getElem?_map, hr_] at hxi
    obtain rfl : V.ref r = x := Option.some.inj hxi
    rw [show M.rows.length - i = (M.rows.length - (i + 1)) + 1 by omega] at hw2
    have hw3 : (wayM fu rows i).bind (fun r => waysM fu (M.rows.length - (i + 1)) (i + 1) r) = some rows' := hw2
    have hway : wayM fu rows i = if passL.contains m.word = true then some rows else (landM rows fu m.after).bind fun a => (landM (rows.set i { m with after := a }) fu m.other).map fun o => rows.set i { m with after := a, other := o } := by
      unfold wayM
      rw [em]
    refine ⟨_, rfl, r, Cr, dr, _, _, rfl, er, T.cr, T.rw_, lkR1 m t, aP, _, rfl, .inr (C.sP _), rfl, flat_strs _, _, rfl, ?_⟩
    rw [show (if true = true then !inV (V.str m.word) (passL.map V.str) else inV (V.str m.word) (passL.map V.str)) = !passL.contains m.word from congrArg (!·) (inV_strs m.word passL)]
    cases hc : passL.contains m.word with
    | true =>
      rw [hway, if_pos hc] at hw3
      exact iteF ⟨rows, ⟨_, rfl⟩, hl, A2, hw3⟩
    | false =>
      rw [hway, if_neg (by rw [hc]; exact Bool.false_ne_true)] at hw3
      cases e1 : landM rows fu m.after with
      | none => rw [e1] at hw3; cases hw3
      | some a =>
        rw [e1] at hw3
        cases e2 : landM (rows.set i { m with after := a }) fu m.other with
        | none =>
          replace hw3 : ((landM (rows.set i { m with after := a }) fu m.other).map fun o => rows.set i { m with after := a, other := o }).bind (fun r => waysM fu (M.rows.length - (i + 1)) (i + 1) r) = some rows' := hw3
          rw [e2] at hw3
          cases hw3
        | some o =>
          replace hw3 : ((landM (rows.set i { m with after := a }) fu m.other).map fun o => rows.set i { m with after := a, other := o }).bind (fun r => waysM fu (M.rows.length - (i + 1)) (i + 1) r) = some rows' := hw3
          rw [e2] at hw3
          replace hw3 : waysM fu (M.rows.length - (i + 1)) (i + 1) (rows.set i { m with after := a, other := o }) = some rows' := hw3
          obtain ⟨d2, es2⟩ := A2.sh
          refine iteT ⟨_, rfl, s, d2, _, rfl, es2, rfl, _, rfl, r, Cr, dr, _, _, rfl, er, T.cr, T.ra, lkR3 m t, s, m.after, fu, a, HD, p, _, rfl, A2, e1, ?_⟩
          refine ⟨_, rfl, r, Cr, dr, _, rfl, er, T.cr, T.ra, (by show 4 < 1000; decide), ?_⟩
          have A3 := A2.setRow (m' := { m with after := a }) hr_ em er et rfl
          rw [show putF "after" (V.int (a : Nat)) (rowF m t) = rowF { m with after := a } t from rfl]
          obtain ⟨d3, es3⟩ := A3.sh
          refine ⟨_, rfl, s, d3, _, rfl, es3, rfl, _, rfl, r, Cr, dr, _, _, rfl, upd_same, T.cr, T.ro, lkR4 _ t, s, m.other, fu, o, HD, p, _, rfl, A3, e2, ?_⟩
          refine ⟨_, rfl, r, Cr, dr, _, rfl, upd_same, T.cr, T.ro, (by show 4 < 1000; decide), ?_⟩
          have hil : i < rows.length := by rw [hl]; exact hi
          have A4 := A3.setRow (m' := { m with after := a, other := o }) hr_ (List.getElem?_set_self hil) upd_same ((upd_ne (ne_of et er (by intro z; cases z))).trans et) rfl
          rw [show putF "other" (V.int (o : Nat)) (rowF { m with after := a } t) = rowF { m with after := a, other := o } t from rfl]
          refine ⟨rows.set i { m with after := a, other := o }, ⟨_, rfl⟩, by rw [List.length_set]; exact hl, ?_, hw3⟩
          replace A4 := A4
          rw [show (⟨(rows.set i { m with after := a }).set i { m with after := a, other := o }, M.homes, M.around, M.nest⟩ : ShM) = ⟨rows.set i { m with after := a, other := o }, M.homes, M.around, M.nest⟩ by rw [List.set_set]] at A4
          exact A4
  · rintro σ H' ⟨rows, ⟨z, rfl⟩, hl, A2, hw2⟩
    rw [List.length_map, A0.len, Nat.sub_self] at hw2
    have e : rows = rows' := Option.some.inj hw2
    rw [← e] at q
    exact q _ (A2.back S0)
end
end FP
set_option Elab.async false
set_option linter.all false
set_option maxRecDepth 100000
set_option maxHeartbeats 4000000
namespace FP
open PySem PySem.Spec PyProof.Rows L2 TL
section
variable {P : Program} {w : World} {K : PySem.W.Frag} {mg : Str → Option Value} {base : Heap} {Cr Cs aT aP aO : Addr}
def spSheet (Cr Cs : Addr) : Sp := fun vs H Q _ => ∃ (x dx : Addr) (H0 : Hp), vs = [.ref x] ∧ H x = some (.ins Cs dx []) ∧ Same H0 H ∧ H0 x = none ∧ ∀ p H', ShAt Cr Cs H0 H' x p ShM.new → Q .non H'
theorem scSI : FnScope ["self"] ["self"] (defScope mSheet_init) := ⟨rfl, rfl, rfl, by decide +kernel, rfl, by decide +kernel, by decide +kernel⟩
theorem ok_sheetInit {f : Addr} {fd : FuncData} (F : Fun K "__init__" "Sheet.__init__" mSheet_init f fd) (T : ShTxt K mg Cr Cs) (DR : CDef P w K mg base Cr 1 ["self", "word", "names", "number"] (spRow Cr)) : FnOk P w K mg base CX0 3 f fd ["self"] (spSheet Cr Cs) := by
  obtain ⟨fR, fdR, mR, bR, GR⟩ := DR.ex
  refine F.ok scSI (fun vs H Q E h => ?_) (fun cdv A outer s H vs Q E hr h => ?_)
  · obtain ⟨x, dx, H0, rfl, _⟩ := h
    rfl
  obtain ⟨x, dx, H0, rfl, hx, S0, hx0, q⟩ := h
  refine ⟨_, pss_cons (ps_fld (pv 0) (pe_lst (pa_cons (pe_make mR GR hr rfl T.gr bR .nil pass0 (pa_cons pe_str (pa_cons (pe_tup pa_nil) (pa_cons pe_int pa_nil)))) pa_nil)) rfl) (pss_cons (ps_fld (pv 0) pe_dnewK rfl) (pss_cons (ps_fld (pv 0) pe_dnewK rfl) (pss_one (ps_fld (pv 0) (pe_lst (pa_cons pe_int pa_nil)) rfl)))), ?_⟩
  refine ⟨Nat.zero_le _, fun t ht => ?_⟩
  refine fun r dr nr nd ne => ⟨r, dr, t, _, 0, rfl, upd_same, fun H3 e1 e2 => ⟨rfl, ?_⟩⟩
  obtain ⟨S3, new⟩ := row_made (names := []) (wd := "") (k := 0) (Same.new (o := .tup []) (Same.refl H) ht) upd_same nr nd e1 e2
  have nrH : H r = none := (Same.new (o := .tup []) (Same.refl H) ht).free nr
  have hx3 := S3 _ _ hx
  refine ⟨by rw [sizeLine_eq]; show 1 ≤ 16777216; decide, fun R hR => ⟨_, rfl, x, Cs, dx, [], rfl, (upd_ne (ne_of_none hx3 hR)).trans hx3, T.cs, T.sr, (by show 0 < 1000; decide), fun h hh => ?_⟩⟩
  have nRx : R ≠ x := (ne_of_none hx3 hR).symm
  have hh1 : h ≠ x := fun z => by rw [z, upd_same] at hh; cases hh
  rw [upd_ne hh1] at hh
  have hhR : h ≠ R := fun z => by rw [z, upd_same] at hh; cases hh
  rw [upd_ne hhR] at hh
  refine ⟨_, rfl, x, Cs, dx, _, rfl, (upd_ne hh1.symm).trans upd_same, T.cs, T.sh, (by show 1 < 1000; decide), fun ar ha => ?_⟩
  have ha1 : ar ≠ x := fun z => by rw [z, upd_same] at ha; cases ha
  rw [upd_ne ha1] at ha
  have hah : ar ≠ h := fun z => by rw [z, upd_same] at ha; cases ha
  rw [upd_ne hah, upd_ne ha1] at ha
  have haR : ar ≠ R := fun z => by rw [z, upd_same] at ha; cases ha
  rw [upd_ne haR] at ha
  refine ⟨_, rfl, x, Cs, dx, _, rfl, (upd_ne ha1.symm).trans upd_same, T.cs, T.sa, (by show 2 < 1000; decide), by rw [sizeLine_eq]; show 1 ≤ 16777216; decide, fun n hn => ?_⟩
  have hn1 : n ≠ x := fun z => by rw [z, upd_same] at hn; cases hn
  rw [upd_ne hn1] at hn
  have hna : n ≠ ar := fun z => by rw [z, upd_same] at hn; cases hn
  rw [upd_ne hna, upd_ne hn1] at hn
  have hnh : n ≠ h := fun z => by rw [z, upd_same] at hn; cases hn
  rw [upd_ne hnh, upd_ne hn1] at hn
  have hnR : n ≠ R := fun z => by rw [z, upd_same] at hn; cases hn
  rw [upd_ne hnR] at hn
  refine ⟨_, rfl, x, Cs, dx, _, rfl, (upd_ne hn1.symm).trans upd_same, T.cs, T.sn, (by show 3 < 1000; decide), ?_⟩
  obtain ⟨d9, t9, er9, et9⟩ := new
  have keep : ∀ {b : Addr} {u : HO}, H3 b = some u → b ≠ x → (upd (upd (upd (upd (upd (upd (upd (upd H3 R (.lst [.ref r])) x (.ins Cs dx (putF "rows" (.ref R) []))) h (.dK [])) x (.ins Cs dx (putF "homes" (.ref h) (putF "rows" (.ref R) [])))) ar (.dK [])) x (.ins Cs dx (putF "around" (.ref ar) (putF "homes" (.ref h) (putF "rows" (.ref R) []))))) n (.lst [.int 0])) x (.ins Cs dx (putF "_nest" (.ref n) (putF "around" (.ref ar) (putF "homes" (.ref h) (putF "rows" (.ref R) [])))))) b = some u := fun e nx => by
    rw [upd_ne nx, upd_ne (ne_of_none e hn), upd_ne nx, upd_ne (ne_of_none e ha), upd_ne nx, upd_ne (ne_of_none e hh), upd_ne nx, upd_ne (ne_of_none e hR)]
    exact e
  have S03 : Same H0 H3 := S0.trans S3
  have nrx : r ≠ x := fun z => by rw [z, hx] at nrH; cases nrH
  have t9x : t9 ≠ x := ne_of et9 hx3 (by intro z; cases z)
  refine q ⟨R, h, ar, n, [r]⟩ _ ⟨⟨dx, upd_same⟩, ?_, ?_, ?_, ?_, rfl, ?_, by simp, hnR.symm, hah.symm, ?_, S03.free hR, S03.free hh, S03.free ha, S03.free hn, ?_, fun b u e => keep (S03 _ _ e) (ne_of_none e hx0)⟩
  · show _ = some (HO.lst [.ref r])
    rw [upd_ne nRx, upd_ne hnR.symm, upd_ne nRx, upd_ne haR.symm, upd_ne nRx, upd_ne hhR.symm, upd_ne nRx, upd_same]
  · show _ = some (HO.dK [])
    rw [upd_ne hh1, upd_ne hnh.symm, upd_ne hh1, upd_ne hah.symm, upd_ne hh1, upd_same]
  · show _ = some (HO.dK [])
    rw [upd_ne ha1, upd_ne hna.symm, upd_ne ha1, upd_same]
  · show _ = some (HO.lst [.int 0])
    rw [upd_ne hn1, upd_same]
  · intro i r' m' h1 h2
    cases i with
    | zero =>
      cases h1
      cases h2
      exact ⟨d9, t9, keep er9 nrx, keep et9 t9x⟩
    | succ i => cases h1
  · intro z
    exact nrx (List.mem_singleton.mp z).symm
  · intro b hb
    rw [List.mem_singleton.mp hb]
    exact S0.free nrH
end
end FP
set_option Elab.async false
set_option linter.all false
set_option maxRecDepth 100000
set_option maxHeartbeats 4000000
namespace FP
open PySem PySem.Spec PyProof.Rows L2 TL
theorem readLines_snoc : ∀ (xs : List (List Str)) (M : ShM) (l : List Str), readLines M (xs ++ [l]) = (readLines M xs).bind fun M1 => takeM M1 l
  | [], M, l => by
    show (takeM M l).bind (fun M1 => readLines M1 []) = takeM M l
    cases takeM M l <;> rfl
  | y :: r, M, l => by
    show (takeM M y).bind (fun M1 => readLines M1 (r ++ [l])) = ((takeM M y).bind fun M1 => readLines M1 r).bind fun M1 => takeM M1 l
    cases takeM M y with
    | none => rfl
    | some h => exact readLines_snoc r h l
theorem readLines_stop : ∀ (xs : List (List Str)) (M : ShM) (i : Nat), readLines M (xs.take i) = none → readLines M xs = none
  | [], _, i, h => by rw [List.take_nil] at h; exact h
  | _ :: _, M, 0, h => by cases h
  | y :: r, M, i + 1, h => by
    show (takeM M y).bind (fun h => readLines h r) = none
    have h' : (takeM M y).bind (fun h => readLines h (r.take i)) = none := h
    cases e : takeM M y with
    | none => rfl
    | some g =>
      rw [e] at h'
      exact readLines_stop r g i h'
theorem readLines_step {xs : List (List Str)} {M M' : ShM} (h : readLines M xs = some M') {i : Nat} (hi : i < xs.length) : ∃ Mi Mj, readLines M (xs.take i) = some Mi ∧ takeM Mi xs[i] = some Mj ∧ readLines M (xs.take (i + 1)) = some Mj := by
  have e : xs.take (i + 1) = xs.take i ++ [xs[i]] := by rw [List.take_add_one, List.getElem?_eq_getElem hi]; rfl
  cases e1 : readLines M (xs.take i) with
  | none => rw [readLines_stop xs M i e1] at h; cases h
  | some Mi =>
    cases e2 : readLines M (xs.take (i + 1)) with
    | none => rw [readLines_stop xs M (i + 1) e2] at h; cases h
    | some Mj =>
      refine ⟨Mi, Mj, rfl, ?_, rfl⟩
      rw [e, readLines_snoc, e1] at e2
      exact e2
theorem lines_lens (x : Str) : ∀ l ∈ linesM x, l.length ≤ x.length := by
  unfold linesM
  split
  · intro l hl; cases hl
  · exact split_lens x "\n" (by decide) (by decide +kernel)
theorem lines_cnt (x : Str) : (linesM x).length ≤ x.length + 2 := by
  unfold linesM
  split
  · simp
  · exact PyProof.Rows.split_le x "\n"
section
variable {P : Program} {w : World} {K : PySem.W.Frag} {mg : Str → Option Value} {base : Heap} {Cr Cs aT aP aO : Addr}
def spRead (Cr Cs : Addr) : Sp := fun vs H Q _ => ∃ (x : Str) (m : Nat) (M : ShM), vs = [.str x, .int (m : Nat)] ∧ x.length ≤ 80000 ∧ readM x m = some M ∧ ∀ s p H', ShAt Cr Cs H H' s p M → Q (.ref s) H'
abbrev nRS : List Str := ["text", "most", "sheet", "lines", "number", "line"]
theorem scRS : FnScope nRS ["text", "most"] (defScope sRead) := ⟨rfl, rfl, rfl, by decide +kernel, rfl, by decide +kernel, by decide +kernel⟩
theorem ok_read {f : Addr} {fd : FuncData} (F : Fun K "read_sheet" "read_sheet" sRead f fd) (T : ShTxt K mg Cr Cs) (B : Blt2 mg) (DI : CDef P w K mg base Cs 3 ["self"] (spSheet Cr Cs)) (DL : Def P w K mg base "lines_of" 1 ["text"] spLines)
    (DT : MDef P w K mg base Cs "take_line" 4 ["self", "line"] (spTakeLine Cr Cs)) (DC : MDef P w K mg base Cs "is_closed" 1 ["self"] (spClosed Cr Cs)) (DW : MDef P w K mg base Cs "find_ways" 2 ["self"] (spWays Cr Cs)) :
    FnOk P w K mg base CX0 5 f fd ["text", "most"] (spRead Cr Cs) := by
  obtain ⟨fI, fdI, mI, bI, GI⟩ := DI.ex
  obtain ⟨fL, fdL, gL, kL, bL, GL⟩ := DL.ex
  obtain ⟨fT, fdT, mT, bT, GT⟩ := DT.ex
  obtain ⟨fC, fdC, mC, bC, GC⟩ := DC.ex
  obtain ⟨fW, fdW, mW, bW, GW⟩ := DW.ex
  refine F.ok scRS (fun vs H Q E h => ?_) (fun cdv A outer s H vs Q E hr h => ?_)
  · obtain ⟨x, m, M, rfl, _⟩ := h
    rfl
  obtain ⟨x, m, M, rfl, hx, hread, q⟩ := h
  have hr1 := hr.mono (show 1 ≤ 4 by decide)
  have hr2 := hr.mono (show 2 ≤ 4 by decide)
  refine ⟨_, pss_cons (ps_set (i := 2) scRS.nd rfl (.inl rfl) (pe_make0 mI GI hr rfl T.gs bI .nil pass0))
    (pss_cons (ps_set (i := 3) scRS.nd rfl (.inl rfl) (pe_call GL hr1 rfl gL kL bL .nil pass0 (pa_cons (pv 0) pa_nil)))
    (pss_cons (ps_for PassesOwn.never rfl (pi_enumS true (by rfl) B.enum (pa_cons (pv 3) pa_nil) (pk_cons pe_int pk_nil)) (pg_tup (by rfl) (pgs_cons (pg_name (i := 4) scRS.nd rfl (Or.inl rfl)) (pgs_cons (pg_name (i := 5) scRS.nd rfl (Or.inl rfl)) pgs_nil)))
      (pss_one (ps_if (PW.pt (pw_or (pt_cmpR op_gt (pv 4) (pv 1) (nomark _)) (pw_or1 (pt_not (pt_val (pe_meth (pv 2) T.cs mT GT hr bT .nil pass0 (pa_cons (pv 5) pa_nil))))))) (pss_one ps_never) pss_nil)))
    (pss_cons (ps_if (pt_not (pt_val (pe_meth0 (pv 2) T.cs mC GC hr1 bC .nil pass0))) (pss_one ps_never) pss_nil)
    (pss_cons (ps_expr (pe_meth0 (pv 2) T.cs mW GW hr2 bW .nil pass0))
    (pss_one (ps_ret (pv 2))))))), ?_⟩
  -- what the mirror says
  unfold readM at hread
  by_cases hml : (linesM x).length ≤ m
  case neg => rw [if_neg hml] at hread; cases hread
  rw [if_pos hml] at hread
  obtain ⟨M1, hM1, hread⟩ := Option.bind_eq_some_iff.mp hread
  by_cases hn1 : M1.nest.length = 1
  case neg => rw [if_neg hn1] at hread; cases hread
  rw [if_pos hn1] at hread
  obtain ⟨rows', hrows, hread⟩ := Option.map_eq_some_iff.mp hread
  have hcnt := lines_cnt x
  have hlens := lines_lens x
  refine fun s dx ns nd ne => ⟨s, dx, H, rfl, upd_same, (Same.new (Same.new (Same.refl H) nd) ((upd_ne ne.symm).trans ns)), ns, fun p H1 A1 => ⟨rfl, ?_⟩⟩
  refine ⟨_, rfl, x, rfl, by omega, fun l H2 hl S2 el => ?_⟩
  have A2 := A1.grow S2
  have nl : H l = none := A1.same.free hl
  -- the lines' list belongs to the beginning
  have A3 : ShAt Cr Cs (upd H l (.lst ((linesM x).map V.str))) H2 s p ShM.new := by
    have B := A1.root (o := .lst ((linesM x).map V.str)) hl
    refine B.grow fun b u e => ?_
    by_cases z : b = l
    · rw [z, upd_same] at e
      rw [z, el]
      exact e
    · rw [upd_ne z] at e
      exact S2 _ _ e
  have S0 : Same H (upd H l (.lst ((linesM x).map V.str))) := Same.new (Same.refl H) nl
  have eD0 : (upd H l (.lst ((linesM x).map V.str))) l = some (.lst ((linesM x).map V.str)) := upd_same
  generalize upd H l (.lst ((linesM x).map V.str)) = HD at A3 S0 eD0
  refine ⟨_, rfl, l, _, 1, rfl, rfl, by decide, by decide, SqL.of el, for_it (walk_enumB (xs := (linesM x).map V.str)) (fun i σ H' => ∃ p Mi, (∃ z z2, σ = [some (.str x), some (.int (m : Nat)), some (.ref s), some (.ref l), z, z2]) ∧ readLines ShM.new (((linesM x).map fun l => Txt.split l " ").take i) = some Mi ∧ Ok Mi ∧ Mi.rows.length = i + 1 ∧ ShAt Cr Cs HD H' s p Mi)
    ⟨p, ShM.new, ⟨none, none, rfl⟩, rfl, ok_new, rfl, A3⟩ (fun i σ H' _ z => ?_) ?_ ?_⟩
  · obtain ⟨p, Mi, _, _, _, _, A4⟩ := z
    exact SqL.of (A4.same _ _ eD0)
  · rintro i v σ H' H'' hi ⟨p, Mi, ⟨z, z2, rfl⟩, hMi, Oi, hli, A4⟩ ⟨T', a, b, rfl, hT, rfl, ha, hb⟩
    rw [List.length_map] at hi
    obtain rfl : V.int (1 + (i : Nat)) = a := Option.some.inj ha
    replace hb : ((linesM x).map V.str)[i]? = some b := hb
    rw [List.getElem?_map, List.getElem?_eq_getElem hi] at hb
    obtain rfl : V.str (linesM x)[i] = b := Option.some.inj hb
    have A5 := A4.grow (Same.new (o := .tup [.int (1 + (i : Nat)), .str (linesM x)[i]]) (Same.refl H') hT)
    obtain ⟨Mi', Mj, h1, h2, h3⟩ := readLines_step hM1 (i := i) (by rw [List.length_map]; exact hi)
    rw [hMi] at h1
    obtain rfl := Option.some.inj h1
    rw [List.getElem_map] at h2
    obtain ⟨Oj, hlj⟩ := Oi.take h2
    obtain ⟨d5, es5⟩ := A5.sh
    refine ⟨T', _, rfl, SqT.of upd_same, rfl, _, _, rfl, _, _, rfl, rfl, ?_⟩
    refine ⟨_, rfl, _, rfl, _, _, rfl, rfl, _, rfl, ?_⟩
    rw [decide_eq_false (show ¬ ((m : Nat) : Int) < 1 + (i : Nat) by omega)]
    refine iteF ⟨_, rfl, s, d5, _, rfl, es5, rfl, _, rfl, s, (linesM x)[i], HD, p, Mi, rfl, A5, Oi, ?_, by omega, fun M' e p' H3 A6 => ⟨_, rfl, iteF ?_⟩, fun e => ?_⟩
    · have := hlens _ (List.getElem_mem hi)
      omega
    · rw [h2] at e
      obtain rfl := Option.some.inj e
      exact ⟨p', Mj, ⟨_, _, rfl⟩, h3, Oj, by omega, A6⟩
    · rw [h2] at e; cases e
  · rintro σ H' ⟨p, Mi, ⟨z, z2, rfl⟩, hMi, Oi, hli, A4⟩
    rw [List.length_map] at hMi
    rw [List.take_of_length_le (by rw [List.length_map]; exact Nat.le_refl _), hM1] at hMi
    obtain rfl := Option.some.inj hMi
    obtain ⟨d4, es4⟩ := A4.sh
    refine ⟨_, rfl, s, d4, _, rfl, es4, rfl, s, HD, p, M1, rfl, A4, _, rfl, ?_⟩
    rw [decide_eq_true hn1]
    refine iteF ⟨_, rfl, s, d4, _, rfl, es4, rfl, s, 100, rows', HD, p, M1, rfl, A4, hrows, fun H5 A5 => ⟨_, rfl, ?_⟩⟩
    rw [← hread] at q
    exact q s p _ (A5.back S0)
end
end FP
set_option Elab.async false
set_option linter.all false
set_option maxRecDepth 100000
set_option maxHeartbeats 4000000
/-! yield from a list; a generator's method called with keywords. -/
namespace FP
open PySem PySem.Spec PyProof.Rows L2 GenW
section
variable {prog : Program} {w : World} {A : Around} {E : Value → Shared → Prop} {s : Shared}
theorem spec_list_item {it l : Addr} {i : Nat} {items : Array Value} {x : Value} {Q : Option Value → Shared → Prop} (hit : s.heap.IsListIter it l i) (hl : s.heap.IsList l items) (hx : items[i]? = some x)
    (hQ : ∀ h', h'.IsListIter it l (i + 1) → Heap.SameBut it s.heap h' → Q (some x) { s with heap := h' }) : wpAny (model prog w) A (callSpecial? (.ref it) "__next__") Q E s := by
  obtain ⟨o, ho, hc, hd⟩ := id hit
  obtain ⟨ol, hol, _, nl, hdl⟩ := hl
  refine wpAny_callSpecial?_slot (name := Str.ofString "__next__") hit.typeIs slot_listiter_next (wpAny_call_entry slot_listiter_next hit.typeIs entry_listiter_next ?_ (args_listiter_next _))
  show wpAny _ _ (field (.ref it) 0 >>= _) _ _ s
  refine wpAny_bind (wpAny_field ho hd (x := .ref l) rfl ?_)
  show wpAny _ _ (if (Value.ref l == Value.none) = true then _ else _) _ _ s
  rw [if_neg (show ¬ ((Value.ref l == Value.none) = true) from Bool.false_ne_true)]
  show wpAny _ _ (field (.ref it) 1 >>= _) _ _ s
  refine wpAny_bind (wpAny_field ho hd (x := .int i 0) rfl ?_)
  show wpAny _ _ (seqItems? (.ref l) >>= _) _ _ s
  refine wpAny_bind (wpAny_seqItems hol hdl ?_)
  simp only [Int.toNat_natCast, hx]
  refine wpAny_bind (wpAny_setField ho hd (by simp) (wpAny_pure ⟨x, rfl, hQ _ ?_ (Heap.SameBut.update ..)⟩))
  exact ⟨_, Heap.get?_update_self _ ho (Obj.isFreed_of_fields (Obj.data_mapFields hd _)), (Obj.cls_mapFields ..).trans hc, by
    rw [Obj.data_mapFields hd]; simp [rawInt]⟩
theorem spec_list_end {it l : Addr} {i : Nat} {items : Array Value} {Q : Option Value → Shared → Prop} (hh : A.handled = none) (hit : s.heap.IsListIter it l i) (hl : s.heap.IsList l items) (hx : items[i]? = none)
    (hE : ∀ e h', StopX e h' → Heap.ExtBut it s.heap h' → E e { s with heap := h' }) : wpAny (model prog w) A (callSpecial? (.ref it) "__next__") Q E s := by
  obtain ⟨o, ho, hc, hd⟩ := id hit
  obtain ⟨ol, hol, _, nl, hdl⟩ := hl
  refine wpAny_callSpecial?_slot (name := Str.ofString "__next__") hit.typeIs slot_listiter_next (wpAny_call_entry slot_listiter_next hit.typeIs entry_listiter_next ?_ (args_listiter_next _))
  show wpAny _ _ (field (.ref it) 0 >>= _) _ _ s
  refine wpAny_bind (wpAny_field ho hd (x := .ref l) rfl ?_)
  show wpAny _ _ (if (Value.ref l == Value.none) = true then _ else _) _ _ s
  rw [if_neg (show ¬ ((Value.ref l == Value.none) = true) from Bool.false_ne_true)]
  show wpAny _ _ (field (.ref it) 1 >>= _) _ _ s
  refine wpAny_bind (wpAny_field ho hd (x := .int i 0) rfl ?_)
  show wpAny _ _ (seqItems? (.ref l) >>= _) _ _ s
  refine wpAny_bind (wpAny_seqItems hol hdl ?_)
  simp only [Int.toNat_natCast, hx]
  refine wpAny_bind (wpAny_rule (wpAny_bind (wpAny_setField ho hd (by simp) ?_)))
  show wpAny _ _ (newExc (.type "StopIteration") [] >>= _) _ _ _
  refine wpAny_bind ?_
  simp only [newExc, newTuple]
  refine wpAny_bind (wpAny_newObj_type ?_ (by size_fits))
  refine wpAny_bind (m := firstArgMember _ _) (wpAny_of_eq (a := Value.none) (by first | rfl | (simp only [firstArgMember]; rfl)) ?_)
  refine wpAny_newObj_type ?_ (by size_fits)
  simp only [raiseNew]
  refine wpAny_bind (wpAny_handled ?_)
  first | rw [show A.in1.handled = none from hh] | rw [hh]
  refine wpAny_bind (wpAny_pure (wpAny_throw ?_))
  refine hE _ _ ⟨_, _, _, rfl, Heap.get?_push_size _ rfl, rfl, rfl, ?_⟩ (((Heap.SameBut.update ..).extBut.push _).push _)
  first
    | rfl
    | (rw [Array.getElem?_append_left (by decide)]; rfl)
    | kernel_rfl
end
def tYfLst (te : TE) : TYf := fun σ H Q => te σ H fun x H1 => ∃ a xs, x = .ref a ∧ H1 a = some (.lst xs) ∧ Q xs H1
theorem close_lst : typeLookup (.type "list_iterator") "close" = pure none := by rw [typeLookup_type, builtinLookup_eq_fast]; kernel_rfl
theorem yf_lst {X : Cx} {e : Expr} {te : TE} (he : PE X e te) : YfE X e (tYfLst te) := by
  refine ⟨fun pins s σ H Q I h => ?_⟩
  refine thn (he.run pins s σ H _ I h) fun v s1 ⟨x, H1, I1, r1, a, xs, ex, ha, hq⟩ => ?_
  subst ex
  obtain rfl : v = Value.ref a := r1
  obtain ⟨its, rits, pl, _⟩ := I1.list (SqL.of ha)
  have hl := pl.isList
  refine ⟨"list", hl.typeIs, by decide, wpAny_pyIter_list hl ?_⟩
  have ksz : ∀ b o, s1.heap.get? b = some o → b ≠ s1.heap.objs.size := fun b o e => Nat.ne_of_lt (Heap.lt_size e)
  have hal : a < s1.heap.objs.size := by obtain ⟨_, e, _⟩ := id hl; exact Heap.lt_size e
  have kp : ∀ b o, s1.heap.get? b = some o → (s1.heap.push { cls := .type "list_iterator", data := .fields #[.ref a, .int 0 0] }).get? b = some o := fun b o e => Heap.get?_push_of_some _ e
  refine ⟨s1.heap.objs.size, H1, xs, fun j h => h.IsListIter s1.heap.objs.size a j ∧ h.IsList a its.toArray, rfl, I1.kept (t' := s1.toks) kp, .inr I1.sz, Nat.ne_of_gt I1.lt, fun y c hy => ?_, I1.hok.fresh (Nat.le_refl _), fun p hp => ?_,
    ⟨⟨_, Heap.get?_push_size _ rfl, rfl, rfl⟩, hl.push _⟩, ⟨⟨"list_iterator", fun j h q => ?_, close_lst, by decide⟩, fun j h h' q hk => ?_, fun A' j x s2 Q' E' hA hx q hQ => ?_, fun A' s2 Q' E' hA q hE => ?_⟩, hq⟩
  · obtain ⟨v, o, ho, _⟩ := I1.cell y c hy
    exact ksz c o ho
  · exact ksz p.1 _ (I1.pin p hp).1
  · obtain ⟨⟨o, ho, hc, _⟩, _⟩ := q
    exact ⟨o, ho, hc⟩
  · obtain ⟨⟨o, ho, r⟩, o2, ho2, r2⟩ := q
    exact ⟨⟨o, hk _ o (.inl rfl) ho, r⟩, o2, hk _ o2 (.inr (by rw [ha]; exact fun z => by cases z)) ho2, r2⟩
  · obtain ⟨q1, q2⟩ := q
    obtain ⟨u, hu, ru⟩ := rits.get hx
    have hne : a ≠ s1.heap.objs.size := Nat.ne_of_lt hal
    exact spec_list_item q1 q2 (x := u) (by simpa using hu) fun h' q1' hs => hQ u h' s2.toks ru ⟨q1', q2.extBut hs.extBut hne⟩ fun b o hb eb => hs.extBut b o hb eb
  · obtain ⟨q1, q2⟩ := q
    have hnone : its.toArray[xs.length]? = none := by
      have e := rits.length
      have e2 : its[xs.length]? = none := List.getElem?_eq_none_iff.mpr (by omega)
      simpa using e2
    exact spec_list_end hA q1 q2 hnone fun e h' hS hk => hE e h' s2.toks hS fun b o hb eb => hk b o hb eb
def tMethGK (C : Addr) (m : Str) (n : Nat) (kn : Nat) (sp : SpG) (gV : List V → List V → List V) (ta : TE) (t tk : TA) : TGen := fun σ H cont => ta σ H fun x H1 => ∃ a dx fs, x = .ref a ∧ H1 a = some (.ins C dx fs) ∧ fs.lookup m = none ∧
  t σ H1 fun vs H2 => tk σ H2 fun zs H3 => (x :: vs).length = n ∧ zs.length = kn ∧ sp (gV (x :: vs) zs) H3 cont E0
/-- o.m(e, .., k = v) of a generator method -/
theorem pgen_methK {X : Cx} {k n : Nat} {f C : Addr} {fd : FuncData} {ps ks : List Str} {sp : SpG} {g : List Value → List Value → List Value} {gV : List V → List V → List V} {m : Str} {o e : Expr} {es : List Expr} {kws : List Keyword} {ta : TE} {t tk : TA} {apos pos' : Pos} {pl : Sem Bool}
    (he : PE X o ta) (c : Cls X.K C) (hm : Meth X.K C m f) (F : GFn X.prog X.w X.K X.mg X.base k f fd ps sp) (hr : Room k X.A) (hb : KBn X.K fd ps n ks g gV) (ha : PA X (e :: es) t) (hkw : PK X kws tk)
    (hall : (backToKw pos' (keywordEach kws X.env)).all (·.1.isSome) = true := by rfl) (hks : (backToKw pos' (keywordEach kws X.env)).filterMap (·.1) = ks := by rfl)
    (hst : starEach (e :: es) X.env = (false, eval e X.env) :: starEach es X.env := by rfl) (hpl : ((backTo pos' (starEach (e :: es) X.env)).any (·.1) || (backToKw pos' (keywordEach kws X.env)).any (·.1.isNone)) = false := by rfl)
    (ht : eval (.Call (.Attribute o m apos) (e :: es) kws pos') X.env = (do
      let ov ← eval o X.env
      standAt apos.atName
      let (f, first) ← holding [ov] (getMethod ov m pl)
      callWith pos' f first (backTo pos' (starEach (e :: es) X.env)) (backToKw pos' (keywordEach kws X.env))) := by rfl) :
    PGen X k (.Call (.Attribute o m apos) (e :: es) kws pos') (tMethGK C m n ks.length sp gV ta t tk) E0 := by
  refine ⟨fun pins s σ H cont I h => ?_⟩
  refine PySem.W.methodCall_KW (pl := pl) (thn (he.run pins s σ H _ I h) fun u s1 ⟨x, H1, I1, rx, a, dx, fs, ex, ea, l, q⟩ => ?_) ht
  subst ex
  obtain rfl : u = Value.ref a := rx
  refine getmeth_ok I1 ea c hm l ?_
  refine PySem.W.callWith_KW (first := [.ref a]) (h₀ := X.base) I.ok.mod.kin hm.kp hall (thn (ha.run pos' pins s1 σ H1 _ I1 q) fun us s2 ⟨vs, H2, I2, r, q2⟩ => ?_) hpl hst
  refine thn (hkw.run pos' pins s2 σ H2 _ I2 q2) fun ws s3 ⟨zs, H3, I3, rz, l1, l2, q3⟩ => ⟨I3.kIn, ?_⟩
  rw [hks]
  have r1 : Vals (V.ref a :: vs) (Value.ref a :: us) := .cons rfl r
  have r2 := hb.rel r1 rz
  refine wpAny_call (codeAny_mono (F.run X.A X.stack s3 H3 ⟨Value.ref a :: us, ks.zip ws⟩ (g (Value.ref a :: us) ws) _ cont E0 hr I3.env0 (hb.to s3 _ ws I3.kIn (r1.length.symm.trans l1) (rz.length.symm.trans l2)) r2 q3) fun r s' hq => ?_)
  cases r with
  | error e => exact False.elim hq
  | ok fl =>
    cases fl with
    | ret u => exact ⟨H3, s3, [], I3, .nil, hq⟩
    | next => exact False.elim hq
    | brk => exact False.elim hq
    | cont => exact False.elim hq
end FP
set_option Elab.async false
set_option linter.all false
set_option maxRecDepth 100000
set_option maxHeartbeats 4000000
namespace FP
open PySem PySem.Spec PyProof.Rows L2
theorem swD_true {kx vx : Expr} {gs : List Comprehension} {scope : Scope} {pos py : Pos} {y : Str} {l : Nat} {env : Env} (hk : env.scope.kind = .function) (hy : env.scope.names.lookup y = some .local) (hl : (py.line == pos.line) = true)
    (ha : (scope.names.any fun (n, k) => n == y && (k == .local || k == .cell)) = false) : swapsWith (.DictComp kx vx gs scope pos) (some (.Name y py)) l env = pure true := by
  have ky : env.kindOf y = some .local := hy
  have hb : env.blockKind = .function := by unfold Env.blockKind; rw [hk]; rfl
  unfold swapsWith
  simp only [hb, ky, ha, Expr.pos, hl]
  rfl
section
variable {X : Cx}
/-- y = {k: v for ..} -/
theorem ps_setDc {i : Nat} {y : Str} {py : Pos} {kx vx tg iter : Expr} {ifs : List Expr} {scope : Scope} {own : List (Str × Nat)} {pos spos : Pos} {wi : TI} {g : TG} {tt : TT} {tk tv : TE} (hc : X.calm = true) (hN : X.N.Nodup) (hy : X.N[i]? = some y) (hyl : X.env.scope.names.lookup y = some .local)
    (hsw : swapsWith (.DictComp kx vx [⟨tg, iter, ifs, 0⟩] scope pos) (some (.Name y py)) spos.line X.env = pure true) (hi : PI X tg iter wi) (ok : BlkOk X.N X.env.scope scope own)
    (hg : ∀ (s : Shared) (H : Hp) (C : Addr) (cl : List (Str × Addr)) (fp : List Addr), PG (X.blk s H scope (compEnvC scope cl C X.env) fp) tg g) (ht : ∀ (s : Shared) (H : Hp) (C : Addr) (cl : List (Str × Addr)) (fp : List Addr), PTs (X.blk s H scope (compEnvC scope cl C X.env) fp) ifs tt)
    (hk : ∀ (s : Shared) (H : Hp) (C : Addr) (cl : List (Str × Addr)) (fp : List Addr), PE (X.blk s H scope (compEnvC scope cl C X.env) fp) kx tk)
    (he : ∀ (s : Shared) (H : Hp) (C : Addr) (cl : List (Str × Addr)) (fp : List Addr), PE (X.blk s H scope (compEnvC scope cl C X.env) fp) vx tv) (hs : ∀ x, foldedSetIterable iter X.env x = pure x := by intro _; rfl) :
    PS X (.Assign [.Name y py] (.DictComp kx vx [⟨tg, iter, ifs, 0⟩] scope pos) spos) (tAsg (tDc wi g tt tk tv (own.map (·.2))) (gName i)) := by
  refine ⟨fun pins s σ H D I h => ?_⟩
  rw [exec_Assign_Name_used _ _ _ _ hsw]
  refine wpAny_bind (wpAny_standAt (wpAny_bind ?_))
  show wpAny _ X.A (do let _ ← comprehension (.DictComp kx vx [⟨tg, iter, ifs, 0⟩] scope pos) scope X.env (firstIterPos [⟨tg, iter, ifs, 0⟩] pos) newDict false (eval iter X.env) (some (assign (.Name y py) X.env))) _ _ s
  have h : tDc wi g tt tk tv (own.map (·.2)) σ H (fun x H1 => gName i x σ H1 D.nx) := h
  refine wpAny_bind (thn (dc_core (Qf := fun _ s' => SP X pins D .next s') hc hN I hi ok hg ht hk he hs h fun L C s' m H' I' q hn f => ?_) fun _ s' hq => wpAny_pure (wpAny_pure hq))
  show wpAny _ _ (assign (.Name y py) X.env (.ref L)) _ _ _
  refine wpAny_assign_Name (store_ok2 (v := V.ref L) I' hN hy (.inl hyl) rfl (fun s2 I2 ⟨a, sb, ha⟩ => ?_) (.inr hyl))
  obtain ⟨f0, f1, f2, f3, f4, f5⟩ := f
  have haC : C ≠ a := by
    rcases ha with z | z
    · rw [z]; exact f1
    · exact fun e => f4 y a z e.symm
  refine ⟨m, hn.sameBut sb haC, fun h3 sb3 => ?_⟩
  exact ⟨_, H', I2.turned (t' := s2.toks) (fun b o hb e => (sb3.2 b hb).trans e) f0 f1 f3 f4 f5, q⟩
end
/-- a dict comprehension over a walk -/
theorem dc_it {J : It} {n : Nat} {G : Hp → Prop} {Y : Nat → Hp → V → Hp → Prop} (wk : L2.Walk J n G Y) {g : TG} {tt : TT} {tk tv : TE} {vs : List Nat} {σ : L2.St} {H1 : Hp} {D : Addr} {Qd : Hp → Prop} (Pv : Nat → Hp → Prop) (h0 : Pv 0 (upd H1 D (.dK []))) (hG : ∀ i H, i ≤ n → Pv i H → G H)
    (hs : ∀ i x H H', i < n → Pv i H → Y i H x H' → g x (wipe σ vs) H' fun σ2 H2 => wipe σ2 vs = wipe σ vs ∧ tt σ2 H2 fun b H3 =>
      if b = true then tk σ2 H3 fun y H4 => tv σ2 H4 fun z H5 => ∃ kvs k, y = kV k ∧ H5 D = some (.dK kvs) ∧ kvs.length < sizeLine ∧ Pv (i + 1) (upd H5 D (.dK (putK kvs k z))) else Pv (i + 1) H3) (hd : ∀ H, Pv n H → Qd H) :
    ∃ W : Nat → Nat → Hp → Prop, (∃ m, W 0 m (upd H1 D (.dK []))) ∧ ∀ i m H, W i m H →
      (J.stop i H ∧ Qd H) ∨ (J.go i H ∧ ∃ Nx : Hp → Prop, (∀ H', Nx H' → ∃ m', m' < m ∧ W (i + 1) m' H') ∧ ∀ x H', J.yld i H x H' → g x (wipe σ vs) H' fun σ2 H2 => wipe σ2 vs = wipe σ vs ∧ tt σ2 H2 fun b H3 =>
        if b = true then tk σ2 H3 fun y H4 => tv σ2 H4 fun z H5 => ∃ kvs k, y = kV k ∧ H5 D = some (.dK kvs) ∧ kvs.length < sizeLine ∧ Nx (upd H5 D (.dK (putK kvs k z))) else Nx H3) := by
  refine ⟨fun i m H => m = n - i ∧ i ≤ n ∧ Pv i H, ⟨n, by simp, Nat.zero_le _, h0⟩, ?_⟩
  rintro i m H ⟨rfl, hi, p⟩
  have q := hG i H hi p
  by_cases hlt : i < n
  · exact .inr ⟨wk.goes i H hlt q, Pv (i + 1), fun H' p' => ⟨n - (i + 1), by omega, rfl, hlt, p'⟩, fun x H' y => hs i x H H' hlt p (wk.yields i H x H' hlt q y)⟩
  · have e : i = n := by omega
    subst e
    exact .inl ⟨wk.stops H q, hd H p⟩
theorem homeOf_fresh {l : List (Str × Nat)} {x : Str} (h : ∀ q ∈ l, q.1 ≠ x) : homeOf l x = none := by
  unfold homeOf
  rw [Option.map_eq_none_iff, List.find?_eq_none]
  intro q hq z
  exact h q hq (of_decide_eq_true z)
section
variable {P : Program} {w : World} {K : PySem.W.Frag} {mg : Str → Option Value} {base : Heap}
/-- an empty layout -/
def spCheck0 (K : PySem.W.Frag) : Sp := fun vs H Q _ => ∃ (a b : Addr), vs = [.ref a, .ref b] ∧ (∀ H, SqT K H b []) ∧ ∀ H', Same H H' → Q .non H'
abbrev nCL : List Str := ["cells", "layout", "lot", "name", "met", "index"]
theorem scCL : FnScope nCL ["cells", "layout"] (defScope sCheck) := ⟨rfl, rfl, rfl, by decide +kernel, rfl, by decide +kernel, by decide +kernel⟩
theorem ok_check0 {f : Addr} {fd : FuncData} (F : Fun K "check_layout" "check_layout" sCheck f fd) (B : Blt2 mg) : FnOk P w K mg base CX0 1 f fd ["cells", "layout"] (spCheck0 K) := by
  refine F.ok scCL (fun vs H Q E h => ?_) (fun cdv A outer s H vs Q E hr h => ?_)
  · obtain ⟨a, b, rfl, _⟩ := h
    rfl
  obtain ⟨a, b, rfl, hb, q⟩ := h
  refine ⟨_, pss_cons (ps_for PassesOwn.never rfl (pi_tup (pv 1)) (pg_name (i := 2) scCL.nd rfl (Or.inl rfl)) (pss_one ps_never))
    (pss_cons (ps_set (i := 4) scCL.nd rfl (.inl rfl) pe_dnewK)
    (pss_one (ps_for PassesOwn.never rfl (pi_enumB false (by rfl) B.enum (pa_cons (pv 1) pa_nil)) (pg_tup (by rfl) (pgs_cons (pg_name (i := 5) scCL.nd rfl (Or.inl rfl)) (pgs_cons (pg_name (i := 2) scCL.nd rfl (Or.inl rfl)) pgs_nil))) (pss_cons ps_never (pss_one ps_never))))), ?_⟩
  refine ⟨_, rfl, b, rfl, ⟨_, hb H⟩, for_it (walk_tup (xs := [])) (fun _ σ H' => σ = [some (.ref a), some (.ref b), none, none, none, none] ∧ H' = H) ⟨rfl, rfl⟩ (fun _ _ H' _ _ => hb H') (fun i _ _ _ _ hi => absurd hi (Nat.not_lt_zero _)) ?_⟩
  rintro σ H' ⟨rfl, rfl⟩
  refine fun d hd => ?_
  refine ⟨_, rfl, b, [], rfl, hb _, for_it (walk_enumB (xs := [])) (fun _ σ H2 => Same H' H2) (Same.new (Same.refl H') hd) (fun _ _ H2 _ _ => hb H2) (fun i _ _ _ _ hi => absurd hi (Nat.not_lt_zero _)) ?_⟩
  intro σ H2 S
  exact q _ S
/-- the places of cells of their own -/
def spPlaces0 (K : PySem.W.Frag) : Sp := fun vs H Q _ => ∃ (a b : Addr) (cells : List Str), vs = [.ref a, .ref b] ∧ H a = some (.tup (cells.map V.str)) ∧ cells.Nodup ∧ cells.length ≤ 1000 ∧ (∀ H, SqT K H b []) ∧
  ∀ d H', Same H H' → H d = none → H' d = some (.dK (homesV (cells.zipIdx))) → Q (.ref d) H'
abbrev nPL : List Str := ["cells", "layout", "places", "lot", "cell", "number"]
theorem scPL : FnScope nPL ["cells", "layout"] (defScope sPlaces) := ⟨rfl, rfl, rfl, by decide +kernel, rfl, by decide +kernel, by decide +kernel⟩
theorem ok_places0 {f : Addr} {fd : FuncData} (F : Fun K "places_in" "places_in" sPlaces f fd) (B : Blt2 mg) : FnOk P w K mg base CX0 1 f fd ["cells", "layout"] (spPlaces0 K) := by
  refine F.ok scPL (fun vs H Q E h => ?_) (fun cdv A outer s H vs Q E hr h => ?_)
  · obtain ⟨a, b, cells, rfl, _⟩ := h
    rfl
  obtain ⟨a, b, cells, rfl, ha, hnd, hl, hb, q⟩ := h
  refine ⟨_, pss_cons (ps_setDc (i := 2) (own := [("number", 5), ("cell", 4)]) (g := gTup K 2 (gCons (gName 5) (gCons (gName 4) gNil))) (tt := tYes) (tk := tVar 4) (tv := tVar 5) (by rfl) scPL.nd rfl rfl (swD_true rfl rfl rfl (by decide +kernel))
      (pi_enumB false (by rfl) B.enum (pa_cons (pv 0) pa_nil)) (blkOk_by (own := [("number", 5), ("cell", 4)]) (N := nPL) (sc := defScope sPlaces) (by decide +kernel))
      (fun _ _ _ _ _ => pg_tup (by rfl) (pgs_cons (pg_name (i := 5) scPL.nd rfl (Or.inl rfl)) (pgs_cons (pg_name (i := 4) scPL.nd rfl (Or.inl rfl)) pgs_nil))) (fun _ _ _ _ _ => pts_nil) (fun _ _ _ _ _ => pv 4) (fun _ _ _ _ _ => pv 5))
    (pss_cons (ps_for PassesOwn.never rfl (pi_tup (pv 1)) (pg_name (i := 3) scPL.nd rfl (Or.inl rfl)) (pss_one ps_never))
    (pss_one (ps_ret (pv 2)))), ?_⟩
  refine ⟨_, rfl, a, _, rfl, SqT.of ha, fun D hD => dc_it (walk_enumB (K := K) (l := false) (k := 0) (a := a) (xs := cells.map V.str)) (fun n H' => Same H H' ∧ H' D = some (.dK (homesV (cells.zipIdx.take n)))) ⟨Same.new (Same.refl H) hD, upd_same⟩ (fun _ H' _ z => SqT.of (z.1 _ _ ha)) ?_ ?_⟩
  · rintro n v H' H'' hn ⟨S1, eD⟩ ⟨T, x, y, rfl, hT, rfl, hx, hy⟩
    rw [List.length_map] at hn
    obtain rfl : V.int (0 + (n : Nat)) = x := Option.some.inj hx
    replace hy : (cells.map V.str)[n]? = some y := hy
    rw [List.getElem?_map, List.getElem?_eq_getElem hn] at hy
    obtain rfl : V.str cells[n] = y := Option.some.inj hy
    have eD2 : (upd H' T (.tup [.int (0 + (n : Nat)), .str cells[n]])) D = _ := (upd_ne (ne_of_none eD hT)).trans eD
    have htk : cells.zipIdx.take (n + 1) = cells.zipIdx.take n ++ [(cells[n], n)] := by
      rw [List.take_add_one, List.getElem?_eq_getElem (by rw [List.length_zipIdx]; exact hn), List.getElem_zipIdx]
      simp
    refine ⟨T, _, rfl, SqT.of upd_same, rfl, _, _, rfl, _, _, rfl, rfl, rfl, _, rfl, _, rfl, _, Sum.inr cells[n], rfl, eD2, ?_, ?_, ?_⟩
    · unfold homesV
      rw [List.length_map, List.length_take, List.length_zipIdx, sizeLine_eq]
      omega
    · intro c o e
      rw [upd_ne (ne_of_none e hD)]
      have e1 := S1 c o e
      exact (upd_ne (ne_of_none e1 hT)).trans e1
    · rw [upd_same, putK_new, htk]
      · unfold homesV
        rw [List.map_append, Int.zero_add]
        rfl
      · rw [val_homes, homeOf_fresh]
        · rfl
        · intro q hq
          obtain ⟨i, hi⟩ := List.mem_iff_getElem?.mp hq
          have hil := (List.getElem?_eq_some_iff.mp hi).1
          rw [List.length_take, List.length_zipIdx] at hil
          rw [List.getElem?_take, if_pos (by omega), List.getElem?_eq_getElem (by rw [List.length_zipIdx]; omega), List.getElem_zipIdx] at hi
          rw [← Option.some.inj hi]
          intro z
          have := (List.getElem?_inj (show i < cells.length by omega) hnd).mp ((List.getElem?_eq_getElem (show i < cells.length by omega)).trans ((congrArg some z).trans (List.getElem?_eq_getElem hn).symm))
          omega
  · rintro H' ⟨S1, eD⟩
    rw [List.length_map, List.take_of_length_le (by rw [List.length_zipIdx]; exact Nat.le_refl _)] at eD
    refine ⟨_, rfl, b, rfl, ⟨_, hb H'⟩, for_it (walk_tup (xs := [])) (fun _ σ H2 => σ = [some (.ref a), some (.ref b), some (.ref D), none, none, none] ∧ H2 = H') ⟨rfl, rfl⟩ (fun _ _ H2 _ _ => hb H2) (fun i _ _ _ _ hi => absurd hi (Nat.not_lt_zero _)) ?_⟩
    rintro σ H2 ⟨rfl, rfl⟩
    exact ⟨_, rfl, q D _ S1 hD eD⟩
end
end FP
set_option Elab.async false
set_option linter.all false
set_option maxRecDepth 100000
set_option maxHeartbeats 4000000
/-! A Run with its Choices. -/
namespace FP
open PySem PySem.Spec PyProof.Rows L2
structure RunM where
  line : Nat
  calling : Bool
  known : List Str
  places : List (Str × Nat)
  held : List (Nat × V)
structure Rt where
  r : Addr
  k : Addr
  p : Addr
  h : Addr
  c : Addr
  l : Addr
def rnF (M : RunM) (q : Rt) : List (Str × V) := [("line", .int (M.line : Nat)), ("calling", .bl M.calling), ("known", .ref q.k), ("_places", .ref q.p), ("_held", .ref q.h)]
def heldV (l : List (Nat × V)) : List (Key × V) := l.map fun q => (Sum.inl (q.1 : Int), q.2)
def heldOf (l : List (Nat × V)) (n : Nat) : Option V := (l.find? fun p => decide (p.1 = n)).map (·.2)
def putH (d : List (Nat × V)) (k : Nat) (v : V) : List (Nat × V) := if (d.any fun p => decide (p.1 = k)) = true then d.map (fun p => if p.1 = k then (p.1, v) else p) else d ++ [(k, v)]
def chF (q : Rt) : List (Str × V) := [("_left", .ref q.l)]
structure RnAt (Cn Cc : Addr) (H : Hp) (q : Rt) (M : RunM) (xs : List Int) : Prop where
  r : ∃ dx, H q.r = some (.ins Cn dx (rnF M q))
  k : H q.k = some (.lst (M.known.map V.str))
  p : H q.p = some (.dK (homesV M.places))
  h : H q.h = some (.dK (heldV M.held))
  c : ∃ dx, H q.c = some (.ins Cc dx (chF q))
  l : H q.l = some (.lst (xs.map V.int).reverse)
  hp : q.h ≠ q.p
  rc : q.r ≠ q.c
  kl : q.k ≠ q.l
/-- all but what a run changes stands -/
def But3 (q : Rt) (H H' : Hp) : Prop := ∀ b o, b ≠ q.r → b ≠ q.h → b ≠ q.l → H b = some o → H' b = some o
theorem But3.refl (q : Rt) (H : Hp) : But3 q H H := fun _ _ _ _ _ e => e
theorem But3.trans {q : Rt} {H H1 H2 : Hp} (a : But3 q H H1) (b : But3 q H1 H2) : But3 q H H2 := fun c o n1 n2 n3 e => b c o n1 n2 n3 (a c o n1 n2 n3 e)
theorem But3.same {q : Rt} {H H1 : Hp} (a : Same H H1) : But3 q H H1 := fun c o _ _ _ e => a c o e
theorem But3.r {q : Rt} {H : Hp} {o : HO} : But3 q H (upd H q.r o) := fun c u n1 _ _ e => (upd_ne n1).trans e
theorem But3.h {q : Rt} {H : Hp} {o : HO} : But3 q H (upd H q.h o) := fun c u _ n2 _ e => (upd_ne n2).trans e
theorem But3.l {q : Rt} {H : Hp} {o : HO} : But3 q H (upd H q.l o) := fun c u _ _ n3 e => (upd_ne n3).trans e
section
variable {Cn Cc : Addr} {H H' : Hp} {q : Rt} {M : RunM} {xs : List Int}
theorem RnAt.grow (A : RnAt Cn Cc H q M xs) (S : Same H H') : RnAt Cn Cc H' q M xs := by
  obtain ⟨d, e⟩ := A.r
  obtain ⟨d2, e2⟩ := A.c
  exact ⟨⟨d, S _ _ e⟩, S _ _ A.k, S _ _ A.p, S _ _ A.h, ⟨d2, S _ _ e2⟩, S _ _ A.l, A.hp, A.rc, A.kl⟩
theorem RnAt.setR (A : RnAt Cn Cc H q M xs) {dx : Addr} (line : Nat) (b : Bool) : RnAt Cn Cc (upd H q.r (.ins Cn dx (rnF ⟨line, b, M.known, M.places, M.held⟩ q))) q ⟨line, b, M.known, M.places, M.held⟩ xs := by
  obtain ⟨d, e⟩ := A.r
  obtain ⟨d2, e2⟩ := A.c
  exact ⟨⟨dx, upd_same⟩, (upd_ne (ne_of A.k e (by intro z; cases z))).trans A.k, (upd_ne (ne_of A.p e (by intro z; cases z))).trans A.p, (upd_ne (ne_of A.h e (by intro z; cases z))).trans A.h, ⟨d2, (upd_ne A.rc.symm).trans e2⟩, (upd_ne (ne_of A.l e (by intro z; cases z))).trans A.l, A.hp, A.rc, A.kl⟩
theorem RnAt.setH (A : RnAt Cn Cc H q M xs) (hd : List (Nat × V)) : RnAt Cn Cc (upd H q.h (.dK (heldV hd))) q ⟨M.line, M.calling, M.known, M.places, hd⟩ xs := by
  obtain ⟨d, e⟩ := A.r
  obtain ⟨d2, e2⟩ := A.c
  exact ⟨⟨d, (upd_ne (ne_of e A.h (by intro z; cases z))).trans e⟩, (upd_ne (ne_of A.k A.h (by intro z; cases z))).trans A.k, (upd_ne A.hp.symm).trans A.p, upd_same, ⟨d2, (upd_ne (ne_of e2 A.h (by intro z; cases z))).trans e2⟩, (upd_ne (ne_of A.l A.h (by intro z; cases z))).trans A.l, A.hp, A.rc, A.kl⟩
theorem RnAt.setL (A : RnAt Cn Cc H q M xs) (ys : List Int) : RnAt Cn Cc (upd H q.l (.lst (ys.map V.int).reverse)) q M ys := by
  obtain ⟨d, e⟩ := A.r
  obtain ⟨d2, e2⟩ := A.c
  exact ⟨⟨d, (upd_ne (ne_of e A.l (by intro z; cases z))).trans e⟩, (upd_ne A.kl).trans A.k, (upd_ne (ne_of A.p A.l (by intro z; cases z))).trans A.p, (upd_ne (ne_of A.h A.l (by intro z; cases z))).trans A.h, ⟨d2, (upd_ne (ne_of e2 A.l (by intro z; cases z))).trans e2⟩, upd_same, A.hp, A.rc, A.kl⟩
end
theorem val_held (l : List (Nat × V)) (k : Nat) : valV (heldV l) (Sum.inl (k : Int) : Key) = heldOf l k := by
  unfold valV heldV heldOf
  rw [List.find?_map]
  have e : ((fun kv : Key × V => decide (kv.1 = Sum.inl (k : Int))) ∘ fun q : Nat × V => (Sum.inl (q.1 : Int), q.2)) = fun q : Nat × V => decide (q.1 = k) := by
    funext q
    exact decide_eq_decide.mpr ⟨fun z => by have := Sum.inl.inj z; omega, fun z => congrArg (fun j : Nat => (Sum.inl (j : Int) : Key)) z⟩
  rw [e, Option.map_map]
  rfl
theorem put_held (l : List (Nat × V)) (k : Nat) (v : V) : putK (heldV l) (Sum.inl (k : Int) : Key) v = heldV (putH l k v) := by
  unfold putK heldV putH
  have e : ∀ q : Nat × V, ((Sum.inl (q.1 : Int) : Key) = Sum.inl (k : Int)) ↔ q.1 = k := fun q => ⟨fun z => by have := Sum.inl.inj z; omega, fun z => by rw [z]⟩
  rw [List.any_map]
  have e2 : ((fun kv : Key × V => decide (kv.1 = Sum.inl (k : Int))) ∘ fun q : Nat × V => (Sum.inl (q.1 : Int), q.2)) = fun q : Nat × V => decide (q.1 = k) := by
    funext q
    exact decide_eq_decide.mpr (e q)
  rw [e2]
  split
  · rw [List.map_map, List.map_map]
    refine List.map_congr_left fun q _ => ?_
    show (if (Sum.inl (q.1 : Int) : Key) = Sum.inl (k : Int) then _ else _) = _
    by_cases c : q.1 = k
    · rw [if_pos ((e q).mpr c)]
      show _ = (fun q : Nat × V => ((Sum.inl (q.1 : Int) : Key), q.2)) (if q.1 = k then (q.1, v) else q)
      rw [if_pos c]
    · rw [if_neg (fun z => c ((e q).mp z))]
      show _ = (fun q : Nat × V => ((Sum.inl (q.1 : Int) : Key), q.2)) (if q.1 = k then (q.1, v) else q)
      rw [if_neg c]
  · rw [List.map_append]
    rfl
structure RnTxt (K : PySem.W.Frag) (mg : Str → Option Value) (Cn Cc : Addr) : Prop where
  cn : Cls K Cn
  cc : Cls K Cc
  gn : mg "Run" = some (.ref Cn)
  gc : mg "Choices" = some (.ref Cc)
  nl : NoAttr K Cn "line"
  nc : NoAttr K Cn "calling"
  nk : NoAttr K Cn "known"
  np : NoAttr K Cn "_places"
  nh : NoAttr K Cn "_held"
  cl : NoAttr K Cc "_left"
section
variable {P : Program} {w : World} {K : PySem.W.Frag} {mg : Str → Option Value} {base : Heap} {Cn Cc : Addr}
def spChoices (K : PySem.W.Frag) (Cc : Addr) : Sp := fun vs H Q _ => ∃ (x dx o : Addr) (xs : List Int), vs = [.ref x, .ref o] ∧ H x = some (.ins Cc dx []) ∧ SqL K H o (xs.map V.int) ∧
  ∀ l H', H l = none → H' l = some (.lst (xs.map V.int).reverse) → H' x = some (.ins Cc dx [("_left", .ref l)]) → (∀ b o, H b = some o → b ≠ x → H' b = some o) → Q .non H'
theorem scCI : FnScope ["self", "choices"] ["self", "choices"] (defScope mChoices_init) := ⟨rfl, rfl, rfl, by decide +kernel, rfl, by decide +kernel, by decide +kernel⟩
theorem ok_choicesInit {f : Addr} {fd : FuncData} (F : Fun K "__init__" "Choices.__init__" mChoices_init f fd) (T : RnTxt K mg Cn Cc) (B : Blt2 mg) : FnOk P w K mg base CX0 1 f fd ["self", "choices"] (spChoices K Cc) := by
  refine F.ok scCI (fun vs H Q E h => ?_) (fun cdv A outer s H vs Q E hr h => ?_)
  · obtain ⟨x, dx, o, xs, rfl, _⟩ := h
    rfl
  obtain ⟨x, dx, o, xs, rfl, hx, ho, q⟩ := h
  refine ⟨_, pss_cons (ps_fld (pv 0) (pe_callTy call_list_of (by rfl) B.list (by decide +kernel) (pa_cons (pv 1) pa_nil)) rfl) (pss_one (ps_expr (pe_bm0 PySem.F.plainAttrs_list PySem.F.slot_list_reverse PySem.F.type_list_reverse mt_reverse (pe_fld (pv 0) rfl)))), ?_⟩
  refine ⟨_, rfl, o, _, rfl, .inl ho, fun l hl => ⟨_, rfl, x, Cc, dx, [], rfl, (upd_ne (ne_of_none hx hl)).trans hx, T.cc, T.cl, (by show 0 < 1000; decide), ?_⟩⟩
  have nlx : l ≠ x := (ne_of_none hx hl).symm
  refine ⟨_, rfl, x, Cc, dx, _, _, rfl, upd_same, T.cc, T.cl, rfl, .inl ⟨rfl, _, SqL.of ((upd_ne nlx).trans upd_same)⟩, l, _, rfl, rfl, (upd_ne nlx).trans upd_same, ?_⟩
  refine q l _ hl upd_same ((upd_ne nlx.symm).trans upd_same) fun b u e nb => ?_
  rw [upd_ne (ne_of_none e hl), upd_ne nb, upd_ne (ne_of_none e hl)]
  exact e
def spTake (Cn Cc : Addr) : Sp := fun vs H Q _ => ∃ (q : Rt) (M : RunM) (xs : List Int), vs = [.ref q.c] ∧ RnAt Cn Cc H q M xs ∧ xs.length ≤ 1000000 ∧ (xs = [] → Q .non H) ∧ (∀ x r, xs = x :: r → Q (.int x) (upd H q.l (.lst (r.map V.int).reverse)))
theorem scCT : FnScope ["self"] ["self"] (defScope mChoices_take) := ⟨rfl, rfl, rfl, by decide +kernel, rfl, by decide +kernel, by decide +kernel⟩
theorem ok_take {f : Addr} {fd : FuncData} (F : Fun K "take" "Choices.take" mChoices_take f fd) (T : RnTxt K mg Cn Cc) (B : Blt2 mg) : FnOk P w K mg base CX0 1 f fd ["self"] (spTake Cn Cc) := by
  refine F.ok scCT (fun vs H Q E h => ?_) (fun cdv A outer s H vs Q E hr h => ?_)
  · obtain ⟨q, M, xs, rfl, _⟩ := h
    rfl
  obtain ⟨q, M, xs, rfl, A0, hl, k1, k2⟩ := h
  obtain ⟨dc, ec⟩ := A0.c
  refine ⟨_, pss_one (ps_ret (pe_ifExp (pt_cmpR op_gt (pe_callB call_len_seq (by rfl) B.len boot_len (pa_cons (pe_fld (pv 0) rfl) pa_nil)) pe_int (nomark _)) (pe_bm0 PySem.F.plainAttrs_list PySem.F.slot_list_pop PySem.F.type_list_pop mt_pop (pe_fld (pv 0) rfl)) pe_non)), ?_⟩
  refine ⟨_, rfl, q.c, Cc, dc, _, _, rfl, ec, T.cc, T.cl, rfl, q.l, _, rfl, .inl (SqL.of A0.l), _, _, rfl, rfl, _, rfl, ?_⟩
  cases xs with
  | nil => exact iteF (k1 rfl)
  | cons x r =>
    have e : ((x :: r).map V.int).reverse = (r.map V.int).reverse ++ [V.int x] := by simp
    have ed : ((r.map V.int).reverse ++ [V.int x]).dropLast = (r.map V.int).reverse := List.dropLast_concat
    have k3 := k2 x r rfl
    have hlst := A0.l
    rw [e] at hlst ⊢
    rw [← ed] at k3
    refine ite2 (fun _ => ?_) fun c => ?_
    · exact ⟨_, rfl, q.c, Cc, dc, _, _, rfl, ec, T.cc, T.cl, rfl, .inl ⟨rfl, _, SqL.of hlst⟩, q.l, _, V.int x, rfl, rfl, hlst, by simp, k3⟩
    · exact absurd (decide_eq_true (by rw [List.length_append, List.length_singleton]; omega)) c
def spRunInit (Cn : Addr) : Sp := fun vs H Q _ => ∃ (x dx p : Addr) (line : Nat), vs = [.ref x, .ref p, .int (line : Nat)] ∧ H x = some (.ins Cn dx []) ∧
  ∀ k h H', H k = none → H h = none → H' k = some (.lst []) → H' h = some (.dK []) → H' x = some (.ins Cn dx [("line", .int (line : Nat)), ("calling", .bl false), ("known", .ref k), ("_places", .ref p), ("_held", .ref h)]) → (∀ b o, H b = some o → b ≠ x → H' b = some o) → Q .non H'
theorem scRN : FnScope ["self", "places", "line"] ["self", "places", "line"] (defScope mRun_init) := ⟨rfl, rfl, rfl, by decide +kernel, rfl, by decide +kernel, by decide +kernel⟩
theorem ok_runInit {f : Addr} {fd : FuncData} (F : Fun K "__init__" "Run.__init__" mRun_init f fd) (T : RnTxt K mg Cn Cc) : FnOk P w K mg base CX0 1 f fd ["self", "places", "line"] (spRunInit Cn) := by
  refine F.ok scRN (fun vs H Q E h => ?_) (fun cdv A outer s H vs Q E hr h => ?_)
  · obtain ⟨x, dx, p, line, rfl, _⟩ := h
    rfl
  obtain ⟨x, dx, p, line, rfl, hx, q⟩ := h
  refine ⟨_, pss_cons (ps_fld (pv 0) (pv 2) rfl) (pss_cons (ps_fld (pv 0) pe_bl rfl) (pss_cons (ps_fld (pv 0) (pe_lst pa_nil) rfl) (pss_cons (ps_fld (pv 0) (pv 1) rfl) (pss_one (ps_fld (pv 0) pe_dnewK rfl))))), ?_⟩
  refine ⟨_, rfl, _, rfl, x, Cn, dx, [], rfl, hx, T.cn, T.nl, (by show 0 < 1000; decide), ?_⟩
  refine ⟨_, rfl, x, Cn, dx, _, rfl, upd_same, T.cn, T.nc, (by show 1 < 1000; decide), ?_⟩
  refine ⟨Nat.zero_le _, fun k hk => ?_⟩
  have nkx : k ≠ x := fun z => by rw [z, upd_same] at hk; cases hk
  rw [upd_ne nkx, upd_ne nkx] at hk
  refine ⟨_, rfl, x, Cn, dx, _, rfl, (upd_ne nkx.symm).trans upd_same, T.cn, T.nk, (by show 2 < 1000; decide), ?_⟩
  refine ⟨_, rfl, _, rfl, x, Cn, dx, _, rfl, upd_same, T.cn, T.np, (by show 3 < 1000; decide), ?_⟩
  refine fun h hh => ?_
  have nhx : h ≠ x := fun z => by rw [z, upd_same] at hh; cases hh
  rw [upd_ne nhx, upd_ne nhx] at hh
  have nhk : h ≠ k := fun z => by rw [z, upd_same] at hh; cases hh
  rw [upd_ne nhk, upd_ne nhx, upd_ne nhx] at hh
  refine ⟨_, rfl, x, Cn, dx, _, rfl, (upd_ne nhx.symm).trans upd_same, T.cn, T.nh, (by show 4 < 1000; decide), ?_⟩
  refine q k h _ hk hh ?_ ?_ upd_same fun b u e nb => ?_
  · rw [upd_ne nkx, upd_ne nhk.symm, upd_ne nkx, upd_ne nkx, upd_same]
  · rw [upd_ne nhx, upd_same]
  · rw [upd_ne nb, upd_ne (ne_of_none e hh), upd_ne nb, upd_ne nb, upd_ne (ne_of_none e hk), upd_ne nb, upd_ne nb]
    exact e
end
end FP
set_option Elab.async false
set_option linter.all false
set_option maxRecDepth 100000
set_option maxHeartbeats 4000000
namespace FP
open PySem PySem.Spec PyProof.Rows L2
def worthM (M : RunM) (n : Nat) : V := (heldOf M.held n).getD .non
theorem lkN1 (M : RunM) (q : Rt) : (rnF M q).lookup ("line" : Str) = some (.int (M.line : Nat)) := rfl
theorem lkN2 (M : RunM) (q : Rt) : (rnF M q).lookup ("calling" : Str) = some (.bl M.calling) := rfl
theorem lkN4 (M : RunM) (q : Rt) : (rnF M q).lookup ("_places" : Str) = some (.ref q.p) := rfl
theorem lkN5 (M : RunM) (q : Rt) : (rnF M q).lookup ("_held" : Str) = some (.ref q.h) := rfl
section
variable {P : Program} {w : World} {K : PySem.W.Frag} {mg : Str → Option Value} {base : Heap} {Cn Cc Cr : Addr}
def spWorth (Cn Cc : Addr) : Sp := fun vs H Q _ => ∃ (q : Rt) (M : RunM) (xs : List Int) (c : Str) (n : Nat), vs = [.ref q.r, .str c] ∧ RnAt Cn Cc H q M xs ∧ homeOf M.places c = some n ∧ Q (worthM M n) H
theorem scWo : FnScope ["self", "cell"] ["self", "cell"] (defScope mRun_worth) := ⟨rfl, rfl, rfl, by decide +kernel, rfl, by decide +kernel, by decide +kernel⟩
theorem ok_worth {f : Addr} {fd : FuncData} (F : Fun K "worth" "Run.worth" mRun_worth f fd) (T : RnTxt K mg Cn Cc) : FnOk P w K mg base CX0 1 f fd ["self", "cell"] (spWorth Cn Cc) := by
  refine F.ok scWo (fun vs H Q E h => ?_) (fun cdv A outer s H vs Q E hr h => ?_)
  · obtain ⟨q, M, xs, c, n, rfl, _⟩ := h
    rfl
  obtain ⟨q, M, xs, c, n, rfl, A0, hc, k⟩ := h
  obtain ⟨dr, er⟩ := A0.r
  have hu := hu_of hr
  refine ⟨_, pss_one (ps_ret (pe_dget1 hu (pe_fld (pv 0) rfl) (pe_dget hu (pe_fld (pv 0) rfl) (pv 1) (fun _ _ => rfl)) ⟨rfl, rfl, rfl, rfl⟩)), ?_⟩
  have g1 := DGet.k (k := Sum.inr c) A0.p
  rw [val_homes, hc] at g1
  have g2 := DGet.k (k := Sum.inl (n : Int)) A0.h
  rw [val_held] at g2
  exact ⟨_, rfl, q.r, Cn, dr, _, _, rfl, er, T.cn, T.nh, lkN5 M q, q.h, rfl, .inl ⟨_, .inl A0.h⟩, _, rfl, q.r, Cn, dr, _, _, rfl, er, T.cn, T.np, lkN4 M q, _, rfl, q.p, _, rfl, g1, _, g2, k⟩
def readEv (M : RunM) (c : Str) (n : Nat) : List V := [.str "read", .int (M.line : Nat), .str c, worthM M n]
def writeEv (M : RunM) (c : Str) (v : V) : List V := [.str "write", .int (M.line : Nat), .str c, v]
def spReadC (Cn Cc : Addr) : Sp := fun vs H Q _ => ∃ (q : Rt) (M : RunM) (xs : List Int) (c : Str) (n : Nat), vs = [.ref q.r, .str c] ∧ RnAt Cn Cc H q M xs ∧ homeOf M.places c = some n ∧ ∀ t, H t = none → Q (.ref t) (upd H t (.tup (readEv M c n)))
theorem scRd : FnScope ["self", "cell"] ["self", "cell"] (defScope mRun_read) := ⟨rfl, rfl, rfl, by decide +kernel, rfl, by decide +kernel, by decide +kernel⟩
theorem ok_readC {f : Addr} {fd : FuncData} (F : Fun K "read" "Run.read" mRun_read f fd) (T : RnTxt K mg Cn Cc) (D : MDef P w K mg base Cn "worth" 1 ["self", "cell"] (spWorth Cn Cc)) : FnOk P w K mg base CX0 2 f fd ["self", "cell"] (spReadC Cn Cc) := by
  obtain ⟨fW, fdW, mW, bW, GW⟩ := D.ex
  refine F.ok scRd (fun vs H Q E h => ?_) (fun cdv A outer s H vs Q E hr h => ?_)
  · obtain ⟨q, M, xs, c, n, rfl, _⟩ := h
    rfl
  obtain ⟨q, M, xs, c, n, rfl, A0, hc, k⟩ := h
  obtain ⟨dr, er⟩ := A0.r
  refine ⟨_, pss_one (ps_ret (pe_tup (pa_cons pe_str (pa_cons (pe_fld (pv 0) rfl) (pa_cons (pv 1) (pa_cons (pe_meth (pv 0) T.cn mW GW hr bW .nil pass0 (pa_cons (pv 1) pa_nil)) pa_nil)))))), ?_⟩
  exact ⟨_, rfl, q.r, Cn, dr, _, _, rfl, er, T.cn, T.nl, lkN1 M q, _, rfl, _, rfl, q.r, dr, _, rfl, er, rfl, _, rfl, q, M, xs, c, n, rfl, A0, hc, by show 4 ≤ sizeLine; decide, fun t ht => k t ht⟩
def spWriteC (Cn Cc : Addr) : Sp := fun vs H Q _ => ∃ (q : Rt) (M : RunM) (xs : List Int) (c : Str) (n : Nat) (v : V), vs = [.ref q.r, .str c, v] ∧ RnAt Cn Cc H q M xs ∧ homeOf M.places c = some n ∧ M.held.length ≤ 1000 ∧
  ∀ t, (upd H q.h (.dK (heldV (putH M.held n v)))) t = none → Q (.ref t) (upd (upd H q.h (.dK (heldV (putH M.held n v)))) t (.tup (writeEv M c v)))
theorem scWr : FnScope ["self", "cell", "worth"] ["self", "cell", "worth"] (defScope mRun_write) := ⟨rfl, rfl, rfl, by decide +kernel, rfl, by decide +kernel, by decide +kernel⟩
theorem ok_writeC {f : Addr} {fd : FuncData} (F : Fun K "write" "Run.write" mRun_write f fd) (T : RnTxt K mg Cn Cc) : FnOk P w K mg base CX0 1 f fd ["self", "cell", "worth"] (spWriteC Cn Cc) := by
  refine F.ok scWr (fun vs H Q E h => ?_) (fun cdv A outer s H vs Q E hr h => ?_)
  · obtain ⟨q, M, xs, c, n, v, rfl, _⟩ := h
    rfl
  obtain ⟨q, M, xs, c, n, v, rfl, A0, hc, hl, k⟩ := h
  obtain ⟨dr, er⟩ := A0.r
  have hu := hu_of hr
  refine ⟨_, pss_cons (ps_dput hu (pe_fld (pv 0) rfl) (pe_dget hu (pe_fld (pv 0) rfl) (pv 1) (fun _ _ => rfl)) (pv 2) rfl) (pss_one (ps_ret (pe_tup (pa_cons pe_str (pa_cons (pe_fld (pv 0) rfl) (pa_cons (pv 1) (pa_cons (pv 2) pa_nil))))))), ?_⟩
  have g1 := DGet.k (k := Sum.inr c) A0.p
  rw [val_homes, hc] at g1
  refine ⟨_, rfl, _, rfl, q.r, Cn, dr, _, _, rfl, er, T.cn, T.nh, lkN5 M q, _, rfl, q.r, Cn, dr, _, _, rfl, er, T.cn, T.np, lkN4 M q, _, rfl, q.p, _, rfl, g1, q.h, _, rfl, DPut.k (k := Sum.inl (n : Int)) A0.h ?_, ?_⟩
  · unfold heldV
    rw [List.length_map, sizeLine_eq]
    omega
  rw [put_held]
  have A1 := A0.setH (putH M.held n v)
  obtain ⟨d1, e1⟩ := A1.r
  exact ⟨_, rfl, q.r, Cn, d1, _, _, rfl, e1, T.cn, T.nl, rfl, _, rfl, _, rfl, by show 4 ≤ sizeLine; decide, fun t ht => k t ht⟩
def spStop (Cn Cc : Addr) : Sp := fun vs H Q _ => ∃ (q : Rt) (M : RunM) (xs : List Int), vs = [.ref q.r] ∧ RnAt Cn Cc H q M xs ∧ ∀ H', RnAt Cn Cc H' q ⟨0, false, M.known, M.places, M.held⟩ xs → But3 q H H' → Q .non H'
theorem scSt : FnScope ["self"] ["self"] (defScope mRun_stop) := ⟨rfl, rfl, rfl, by decide +kernel, rfl, by decide +kernel, by decide +kernel⟩
theorem ok_stop {f : Addr} {fd : FuncData} (F : Fun K "stop" "Run.stop" mRun_stop f fd) (T : RnTxt K mg Cn Cc) : FnOk P w K mg base CX0 1 f fd ["self"] (spStop Cn Cc) := by
  refine F.ok scSt (fun vs H Q E h => ?_) (fun cdv A outer s H vs Q E hr h => ?_)
  · obtain ⟨q, M, xs, rfl, _⟩ := h
    rfl
  obtain ⟨q, M, xs, rfl, A0, k⟩ := h
  obtain ⟨dr, er⟩ := A0.r
  refine ⟨_, pss_cons (ps_fld (pv 0) pe_int rfl) (pss_one (ps_fld (pv 0) pe_bl rfl)), ?_⟩
  refine ⟨_, rfl, q.r, Cn, dr, _, rfl, er, T.cn, T.nl, (by show 5 < 1000; decide), ?_⟩
  have A1 := A0.setR (dx := dr) 0 M.calling
  refine ⟨_, rfl, q.r, Cn, dr, _, rfl, upd_same, T.cn, T.nc, (by show 5 < 1000; decide), ?_⟩
  have A2 := A1.setR (dx := dr) 0 false
  exact k _ A2 (But3.r.trans But3.r)
/-- the events at e -/
def EvAt (H : Hp) (e : Addr) (evs : List (List V)) : Prop := ∃ ts : List Addr, H e = some (.lst (ts.map V.ref)) ∧ ts.length = evs.length ∧ ∀ (i : Nat) t ev, ts[i]? = some t → evs[i]? = some ev → H t = some (.tup ev)
theorem EvAt.nil {H : Hp} {e : Addr} (h : H e = some (.lst [])) : EvAt H e [] := ⟨[], h, rfl, fun i t ev a => by cases a⟩
theorem EvAt.one {H : Hp} {e t : Addr} {ev : List V} (h : H e = some (.lst [.ref t])) (ht : H t = some (.tup ev)) : EvAt H e [ev] := ⟨[t], h, rfl, fun i t' ev' a b => by
  cases i with
  | zero => cases a; cases b; exact ht
  | succ i => cases a⟩
abbrev StepM := RowM → RunM → List Int → Option (List (List V) × RunM × List Int)
/-- one line done -/
def spDo (Cn Cc Cr : Addr) (F : StepM) : Sp := fun vs H Q _ => ∃ (q : Rt) (row : Addr) (M : RunM) (xs : List Int) (m : RowM) (evs : List (List V)) (M' : RunM) (ys : List Int), vs = [.ref q.r, .ref row, .ref q.c] ∧ RnAt Cn Cc H q M xs ∧ RowAt Cr H row m ∧ row ≠ q.r ∧ xs.length ≤ 1000000 ∧ M.held.length ≤ 1000 ∧
  F m M xs = some (evs, M', ys) ∧ ∀ e H', H e = none → EvAt H' e evs → RnAt Cn Cc H' q M' ys → But3 q H H' → Q (.ref e) H'
theorem RowAt.but {H H' : Hp} {row : Addr} {m : RowM} {q : Rt} {M : RunM} {xs : List Int} (R : RowAt Cr H row m) (A : RnAt Cn Cc H q M xs) (hn : row ≠ q.r) (b : But3 q H H') : RowAt Cr H' row m := by
  obtain ⟨dx, t, e1, e2⟩ := R
  obtain ⟨dr, er⟩ := A.r
  exact ⟨dx, t, b _ _ hn (ne_of e1 A.h (by intro z; cases z)) (ne_of e1 A.l (by intro z; cases z)) e1, b _ _ (ne_of e2 er (by intro z; cases z)) (ne_of e2 A.h (by intro z; cases z)) (ne_of e2 A.l (by intro z; cases z)) e2⟩
def inputM : StepM := fun m M xs => match xs with
  | [] => some ([], ⟨0, false, M.known, M.places, M.held⟩, [])
  | x :: r => match m.names with
    | [c] => (homeOf M.places c).map fun n => ([writeEv M c (.int x)], ⟨m.after, M.calling, M.known, M.places, putH M.held n (.int x)⟩, r)
    | _ => none
def useM : StepM := fun m M xs => match m.names with
  | [c] => (homeOf M.places c).map fun n => ([readEv M c n], ⟨m.after, M.calling, M.known, M.places, M.held⟩, xs)
  | _ => none
def loopM : StepM := fun m M xs => match xs with
  | [] => some ([], ⟨0, false, M.known, M.places, M.held⟩, [])
  | x :: r => some ([], ⟨if x = 0 then m.other else m.after, M.calling, M.known, M.places, M.held⟩, r)
def maybeM : StepM := fun m M xs => match xs with
  | [] => some ([], ⟨0, false, M.known, M.places, M.held⟩, [])
  | x :: r => some ([], ⟨if x = 0 then m.after else m.other, M.calling, M.known, M.places, M.held⟩, r)
theorem scDU : FnScope ["run", "row", "choices", "events"] ["run", "row", "choices"] (defScope sDoUse) := ⟨rfl, rfl, rfl, by decide +kernel, rfl, by decide +kernel, by decide +kernel⟩
theorem ok_doUse {f : Addr} {fd : FuncData} (F : Fun K "_do_use" "_do_use" sDoUse f fd) (T : RnTxt K mg Cn Cc) (TR : Cls K Cr ∧ NoAttr K Cr "names" ∧ NoAttr K Cr "after" ∧ NoAttr K Cr "other") (D : MDef P w K mg base Cn "read" 2 ["self", "cell"] (spReadC Cn Cc)) :
    FnOk P w K mg base CX0 3 f fd ["run", "row", "choices"] (spDo Cn Cc Cr useM) := by
  obtain ⟨fR, fdR, mR, bR, GR⟩ := D.ex
  obtain ⟨cr, rn, ra, ro⟩ := TR
  refine F.ok scDU (fun vs H Q E h => ?_) (fun cdv A outer s H vs Q E hr h => ?_)
  · obtain ⟨q, row, M, xs, m, evs, M', ys, rfl, _⟩ := h
    rfl
  obtain ⟨q, row, M, xs, m, evs, M', ys, rfl, A0, R0, hne, hxl, hhl, hF, k⟩ := h
  obtain ⟨dw, t, ew, et⟩ := R0
  refine ⟨_, pss_cons (ps_set (i := 3) scDU.nd rfl (.inl rfl) (pe_lst (pa_cons (pe_meth (pv 0) T.cn mR GR hr bR .nil pass0 (pa_cons (pe_ix ix_tup (pe_fld (pv 1) rfl) pe_int (fun _ _ => rfl)) pa_nil)) pa_nil)))
    (pss_cons (ps_fld (pv 0) (pe_fld (pv 1) rfl) rfl) (pss_one (ps_ret (pv 3)))), ?_⟩
  obtain ⟨c, hc, n, hn, rfl, rfl, rfl⟩ : ∃ c, m.names = [c] ∧ ∃ n, homeOf M.places c = some n ∧ [readEv M c n] = evs ∧ (⟨m.after, M.calling, M.known, M.places, M.held⟩ : RunM) = M' ∧ xs = ys := by
    unfold useM at hF
    split at hF
    · rename_i c e
      obtain ⟨n, h1, h2⟩ := Option.map_eq_some_iff.mp hF
      cases h2
      exact ⟨c, e, n, h1, rfl, rfl, rfl⟩
    · cases hF
  obtain ⟨dr, er⟩ := A0.r
  rw [hc] at et
  refine ⟨_, rfl, q.r, dr, _, rfl, er, rfl, _, rfl, row, Cr, dw, _, _, rfl, ew, cr, rn, lkR2 m t, t, _, _, V.str c, rfl, rfl, SqT.of et, atI_nat (j := 0) rfl, q, M, xs, c, n, rfl, A0, hn, fun t1 h1 => ⟨by rw [sizeLine_eq]; show 1 ≤ 16777216; decide, fun e he => ?_⟩⟩
  have S1 : Same H (upd H t1 (.tup (readEv M c n))) := Same.new (Same.refl H) h1
  have S2 := Same.new (o := .lst [V.ref t1]) S1 he
  have A2 := A0.grow S2
  obtain ⟨d2, e2⟩ := A2.r
  have ne1 : e ≠ t1 := fun z => by rw [z, upd_same] at he; cases he
  refine ⟨_, rfl, row, Cr, dw, _, _, rfl, S2 _ _ ew, cr, ra, lkR3 m t, _, rfl, q.r, Cn, d2, _, rfl, e2, T.cn, T.nl, (by show 5 < 1000; decide), _, rfl, ?_⟩
  have A3 := A2.setR (dx := d2) m.after M.calling
  have nh : e ≠ q.r := (ne_of_none (S1 _ _ er) he).symm
  have nt : t1 ≠ q.r := (ne_of_none er h1).symm
  exact k e _ (by rw [upd_ne ne1] at he; exact he) (EvAt.one ((upd_ne nh).trans upd_same) ((upd_ne nt).trans ((upd_ne ne1.symm).trans upd_same))) A3 ((But3.same S2).trans But3.r)
end
end FP
set_option Elab.async false
set_option linter.all false
set_option maxRecDepth 100000
set_option maxHeartbeats 4000000
namespace FP
open PySem PySem.Spec PyProof.Rows L2
section
variable {P : Program} {w : World} {K : PySem.W.Frag} {mg : Str → Option Value} {base : Heap} {Cn Cc Cr : Addr}
structure RwTxt (K : PySem.W.Frag) (Cr : Addr) : Prop where
  cr : Cls K Cr
  rn : NoAttr K Cr "names"
  ra : NoAttr K Cr "after"
  ro : NoAttr K Cr "other"
theorem scDI : FnScope ["run", "row", "choices", "choice", "events"] ["run", "row", "choices"] (defScope sDoInput) := ⟨rfl, rfl, rfl, by decide +kernel, rfl, by decide +kernel, by decide +kernel⟩
theorem ok_doInput {f : Addr} {fd : FuncData} (F : Fun K "_do_input" "_do_input" sDoInput f fd) (T : RnTxt K mg Cn Cc) (TR : RwTxt K Cr) (DT : MDef P w K mg base Cc "take" 1 ["self"] (spTake Cn Cc)) (DS : MDef P w K mg base Cn "stop" 1 ["self"] (spStop Cn Cc)) (DW : MDef P w K mg base Cn "write" 1 ["self", "cell", "worth"] (spWriteC Cn Cc)) :
    FnOk P w K mg base CX0 3 f fd ["run", "row", "choices"] (spDo Cn Cc Cr inputM) := by
  obtain ⟨fT, fdT, mT, bT, GT⟩ := DT.ex
  obtain ⟨fS, fdS, mS, bS, GS⟩ := DS.ex
  obtain ⟨fW, fdW, mW, bW, GW⟩ := DW.ex
  refine F.ok scDI (fun vs H Q E h => ?_) (fun cdv A outer s H vs Q E hr h => ?_)
  · obtain ⟨q, row, M, xs, m, evs, M', ys, rfl, _⟩ := h
    rfl
  obtain ⟨q, row, M, xs, m, evs, M', ys, rfl, A0, R0, hne, hxl, hhl, hF, k⟩ := h
  obtain ⟨dw, t, ew, et⟩ := R0
  obtain ⟨dr, er⟩ := A0.r
  obtain ⟨dc, ec⟩ := A0.c
  have hr1 := hr.mono (show 1 ≤ 2 by decide)
  refine ⟨_, pss_cons (ps_set (i := 3) scDI.nd rfl (.inl rfl) (pe_meth0 (pv 2) T.cc mT GT hr1 bT .nil pass0))
    (pss_cons (ps_if (pt_cmpR op_isN (pv 3) pe_non (nomark _)) (pss_cons (ps_expr (pe_meth0 (pv 0) T.cn mS GS hr1 bS .nil pass0)) (pss_one (ps_ret (pe_lst pa_nil)))) pss_nil)
    (pss_cons (ps_set (i := 4) scDI.nd rfl (.inl rfl) (pe_lst (pa_cons (pe_meth (pv 0) T.cn mW GW hr1 bW .nil pass0 (pa_cons (pe_ix ix_tup (pe_fld (pv 1) rfl) pe_int (fun _ _ => rfl)) (pa_cons (pv 3) pa_nil))) pa_nil)))
    (pss_cons (ps_fld (pv 0) (pe_fld (pv 1) rfl) rfl) (pss_one (ps_ret (pv 4)))))), ?_⟩
  refine ⟨_, rfl, q.c, dc, _, rfl, ec, rfl, q, M, xs, rfl, A0, hxl, fun hx => ?_, fun x r hx => ?_⟩
  · subst hx
    cases hF
    refine ⟨_, rfl, rfl, _, rfl, iteT ⟨_, rfl, q.r, dr, _, rfl, er, rfl, q, M, [], rfl, A0, fun H1 A1 b1 => ⟨Nat.zero_le _, fun e he => ?_⟩⟩⟩
    have A2 := A1.grow (Same.new (o := .lst []) (Same.refl H1) he)
    refine k e _ ?_ (EvAt.nil upd_same) A2 (b1.trans (But3.same (Same.new (Same.refl H1) he)))
    cases e0 : H e with
    | none => rfl
    | some u =>
      by_cases z1 : e = q.r
      · obtain ⟨d, ed⟩ := A1.r; rw [z1, ed] at he; cases he
      by_cases z2 : e = q.h
      · rw [z2, A1.h] at he; cases he
      by_cases z3 : e = q.l
      · rw [z3, A1.l] at he; cases he
      rw [b1 e u z1 z2 z3 e0] at he; cases he
  · subst hx
    obtain ⟨c, hc, n, hn, rfl, rfl, rfl⟩ : ∃ c, m.names = [c] ∧ ∃ n, homeOf M.places c = some n ∧ [writeEv M c (.int x)] = evs ∧ (⟨m.after, M.calling, M.known, M.places, putH M.held n (.int x)⟩ : RunM) = M' ∧ r = ys := by
      unfold inputM at hF
      dsimp only at hF
      split at hF
      · rename_i c e
        obtain ⟨n, h1, h2⟩ := Option.map_eq_some_iff.mp hF
        cases h2
        exact ⟨c, e, n, h1, rfl, rfl, rfl⟩
      · cases hF
    rw [hc] at et
    have A1 := A0.setL r
    have b1 : But3 q H (upd H q.l (.lst (r.map V.int).reverse)) := But3.l
    obtain ⟨d1, e1⟩ := A1.r
    have ew1 := b1 _ _ hne (ne_of ew A0.h (by intro z; cases z)) (ne_of ew A0.l (by intro z; cases z)) ew
    have et1 := b1 _ _ (ne_of et er (by intro z; cases z)) (ne_of et A0.h (by intro z; cases z)) (ne_of et A0.l (by intro z; cases z)) et
    refine ⟨_, rfl, rfl, _, rfl, iteF ⟨_, rfl, q.r, d1, _, rfl, e1, rfl, _, rfl, row, Cr, dw, _, _, rfl, ew1, TR.cr, TR.rn, lkR2 m t, t, _, _, V.str c, rfl, rfl, SqT.of et1, atI_nat (j := 0) rfl, _, rfl, q, M, r, c, n, .int x, rfl, A1, hn, hhl, fun t1 h1 => ⟨by rw [sizeLine_eq]; show 1 ≤ 16777216; decide, fun e he => ?_⟩⟩⟩
    have A2 := A1.setH (putH M.held n (.int x))
    have b2 : But3 q (upd H q.l (.lst (r.map V.int).reverse)) (upd (upd H q.l (.lst (r.map V.int).reverse)) q.h (.dK (heldV (putH M.held n (.int x))))) := But3.h
    generalize upd H q.l (.lst (r.map V.int).reverse) = H1 at *
    generalize upd H1 q.h (.dK (heldV (putH M.held n (.int x)))) = H2 at *
    have S3 : Same H2 (upd H2 t1 (.tup (writeEv M c (.int x)))) := Same.new (Same.refl H2) h1
    have S4 := Same.new (o := .lst [V.ref t1]) S3 he
    have A4 := A2.grow S4
    obtain ⟨d4, e4⟩ := A4.r
    obtain ⟨d2, e2⟩ := A2.r
    have ne1 : e ≠ t1 := fun z => by rw [z, upd_same] at he; cases he
    have ew2 := b2 _ _ hne (ne_of ew1 A1.h (by intro z; cases z)) (ne_of ew1 A1.l (by intro z; cases z)) ew1
    refine ⟨_, rfl, row, Cr, dw, _, _, rfl, S4 _ _ ew2, TR.cr, TR.ra, lkR3 m t, _, rfl, q.r, Cn, d4, _, rfl, e4, T.cn, T.nl, (by show 5 < 1000; decide), _, rfl, ?_⟩
    have A5 := A4.setR (dx := d4) m.after M.calling
    have nh : e ≠ q.r := (ne_of_none (S3 _ _ e2) he).symm
    have nt : t1 ≠ q.r := (ne_of_none e2 h1).symm
    refine k e _ ?_ (EvAt.one ((upd_ne nh).trans upd_same) ((upd_ne nt).trans ((upd_ne ne1.symm).trans upd_same))) A5 (b1.trans (b2.trans ((But3.same S4).trans But3.r)))
    rw [upd_ne ne1] at he
    cases e0 : H e with
    | none => rfl
    | some u =>
      by_cases z2 : e = q.h
      · rw [z2, A2.h] at he; cases he
      by_cases z3 : e = q.l
      · rw [z3, A2.l] at he; cases he
      rw [b2 e u nh z2 z3 (b1 e u nh z2 z3 e0)] at he; cases he
theorem but_none {H H1 : Hp} {q : Rt} {M : RunM} {xs : List Int} {e : Addr} (A1 : RnAt Cn Cc H1 q M xs) (b1 : But3 q H H1) (he : H1 e = none) : H e = none := by
  cases e0 : H e with
  | none => rfl
  | some u =>
    by_cases z1 : e = q.r
    · obtain ⟨d, ed⟩ := A1.r; rw [z1, ed] at he; cases he
    by_cases z2 : e = q.h
    · rw [z2, A1.h] at he; cases he
    by_cases z3 : e = q.l
    · rw [z3, A1.l] at he; cases he
    rw [b1 e u z1 z2 z3 e0] at he; cases he
theorem scDL : FnScope ["run", "row", "choices", "choice"] ["run", "row", "choices"] (defScope sDoLoop) := ⟨rfl, rfl, rfl, by decide +kernel, rfl, by decide +kernel, by decide +kernel⟩
theorem ok_doLoop {f : Addr} {fd : FuncData} (F : Fun K "_do_loop" "_do_loop" sDoLoop f fd) (T : RnTxt K mg Cn Cc) (TR : RwTxt K Cr) (DT : MDef P w K mg base Cc "take" 1 ["self"] (spTake Cn Cc)) (DS : MDef P w K mg base Cn "stop" 1 ["self"] (spStop Cn Cc)) :
    FnOk P w K mg base CX0 3 f fd ["run", "row", "choices"] (spDo Cn Cc Cr loopM) := by
  obtain ⟨fT, fdT, mT, bT, GT⟩ := DT.ex
  obtain ⟨fS, fdS, mS, bS, GS⟩ := DS.ex
  refine F.ok scDL (fun vs H Q E h => ?_) (fun cdv A outer s H vs Q E hr h => ?_)
  · obtain ⟨q, row, M, xs, m, evs, M', ys, rfl, _⟩ := h
    rfl
  obtain ⟨q, row, M, xs, m, evs, M', ys, rfl, A0, R0, hne, hxl, hhl, hF, k⟩ := h
  obtain ⟨dr, er⟩ := A0.r
  obtain ⟨dc, ec⟩ := A0.c
  have hr1 := hr.mono (show 1 ≤ 2 by decide)
  refine ⟨_, pss_cons (ps_set (i := 3) scDL.nd rfl (.inl rfl) (pe_meth0 (pv 2) T.cc mT GT hr1 bT .nil pass0))
    (pss_cons (ps_if (pt_cmpR op_isN (pv 3) pe_non (nomark _)) (pss_one (ps_expr (pe_meth0 (pv 0) T.cn mS GS hr1 bS .nil pass0)))
      (pss_one (ps_fld (pv 0) (pe_ifExp (pt_cmpR op_eq (pv 3) pe_int (nomark _)) (pe_fld (pv 1) rfl) (pe_fld (pv 1) rfl)) rfl)))
    (pss_one (ps_ret (pe_lst pa_nil)))), ?_⟩
  have fin : ∀ H1, RnAt Cn Cc H1 q M' ys → But3 q H H1 → evs = [] → ∀ e, H1 e = none → Q (.ref e) (upd H1 e (.lst [])) := fun H1 A1 b1 hv e he => by
    refine k e _ (but_none A1 b1 he) ?_ (A1.grow (Same.new (o := .lst []) (Same.refl H1) he)) (b1.trans (But3.same (Same.new (Same.refl H1) he)))
    rw [hv]
    exact EvAt.nil upd_same
  refine ⟨_, rfl, q.c, dc, _, rfl, ec, rfl, q, M, xs, rfl, A0, hxl, fun hx => ?_, fun x r hx => ?_⟩
  · subst hx
    cases hF
    exact ⟨_, rfl, rfl, _, rfl, iteT ⟨_, rfl, q.r, dr, _, rfl, er, rfl, q, M, [], rfl, A0, fun H1 A1 b1 => ⟨Nat.zero_le _, fun e he => fin H1 A1 b1 rfl e he⟩⟩⟩
  · subst hx
    cases hF
    have A1 := A0.setL ys
    have R1 := R0.but (q := q) A0 hne (But3.l (o := .lst (ys.map V.int).reverse))
    obtain ⟨d1, e1⟩ := A1.r
    obtain ⟨dw, t, ew, et⟩ := R1
    refine ⟨_, rfl, rfl, _, rfl, iteF ⟨_, rfl, rfl, _, rfl, ?_⟩⟩
    have hx : decide (V.int x = V.int 0) = decide (x = 0) := decide_eq_decide.mpr ⟨fun z => V.int.inj z, fun z => congrArg V.int z⟩
    rw [hx]
    by_cases c : x = 0
    · rw [decide_eq_true c]
      refine iteT ⟨_, rfl, row, Cr, dw, _, _, rfl, ew, TR.cr, TR.ro, lkR4 m t, _, rfl, q.r, Cn, d1, _, rfl, e1, T.cn, T.nl, (by show 5 < 1000; decide), Nat.zero_le _, fun e he => ?_⟩
      refine fin _ ?_ (But3.l.trans But3.r) rfl e he
      rw [if_pos c]
      exact A1.setR (dx := d1) m.other M.calling
    · rw [decide_eq_false c]
      refine iteF ⟨_, rfl, row, Cr, dw, _, _, rfl, ew, TR.cr, TR.ra, lkR3 m t, _, rfl, q.r, Cn, d1, _, rfl, e1, T.cn, T.nl, (by show 5 < 1000; decide), Nat.zero_le _, fun e he => ?_⟩
      refine fin _ ?_ (But3.l.trans But3.r) rfl e he
      rw [if_neg c]
      exact A1.setR (dx := d1) m.after M.calling
theorem scDM : FnScope ["run", "row", "choices", "choice"] ["run", "row", "choices"] (defScope sDoMaybe) := ⟨rfl, rfl, rfl, by decide +kernel, rfl, by decide +kernel, by decide +kernel⟩
theorem ok_doMaybe {f : Addr} {fd : FuncData} (F : Fun K "_do_maybe" "_do_maybe" sDoMaybe f fd) (T : RnTxt K mg Cn Cc) (TR : RwTxt K Cr) (DT : MDef P w K mg base Cc "take" 1 ["self"] (spTake Cn Cc)) (DS : MDef P w K mg base Cn "stop" 1 ["self"] (spStop Cn Cc)) :
    FnOk P w K mg base CX0 3 f fd ["run", "row", "choices"] (spDo Cn Cc Cr maybeM) := by
  obtain ⟨fT, fdT, mT, bT, GT⟩ := DT.ex
  obtain ⟨fS, fdS, mS, bS, GS⟩ := DS.ex
  refine F.ok scDM (fun vs H Q E h => ?_) (fun cdv A outer s H vs Q E hr h => ?_)
  · obtain ⟨q, row, M, xs, m, evs, M', ys, rfl, _⟩ := h
    rfl
  obtain ⟨q, row, M, xs, m, evs, M', ys, rfl, A0, R0, hne, hxl, hhl, hF, k⟩ := h
  obtain ⟨dr, er⟩ := A0.r
  obtain ⟨dc, ec⟩ := A0.c
  have hr1 := hr.mono (show 1 ≤ 2 by decide)
  refine ⟨_, pss_cons (ps_set (i := 3) scDM.nd rfl (.inl rfl) (pe_meth0 (pv 2) T.cc mT GT hr1 bT .nil pass0))
    (pss_cons (ps_if (pt_cmpR op_isN (pv 3) pe_non (nomark _)) (pss_one (ps_expr (pe_meth0 (pv 0) T.cn mS GS hr1 bS .nil pass0)))
      (pss_one (ps_fld (pv 0) (pe_ifExp (pt_cmpR op_eq (pv 3) pe_int (nomark _)) (pe_fld (pv 1) rfl) (pe_fld (pv 1) rfl)) rfl)))
    (pss_one (ps_ret (pe_lst pa_nil)))), ?_⟩
  have fin : ∀ H1, RnAt Cn Cc H1 q M' ys → But3 q H H1 → evs = [] → ∀ e, H1 e = none → Q (.ref e) (upd H1 e (.lst [])) := fun H1 A1 b1 hv e he => by
    refine k e _ (but_none A1 b1 he) ?_ (A1.grow (Same.new (o := .lst []) (Same.refl H1) he)) (b1.trans (But3.same (Same.new (Same.refl H1) he)))
    rw [hv]
    exact EvAt.nil upd_same
  refine ⟨_, rfl, q.c, dc, _, rfl, ec, rfl, q, M, xs, rfl, A0, hxl, fun hx => ?_, fun x r hx => ?_⟩
  · subst hx
    cases hF
    exact ⟨_, rfl, rfl, _, rfl, iteT ⟨_, rfl, q.r, dr, _, rfl, er, rfl, q, M, [], rfl, A0, fun H1 A1 b1 => ⟨Nat.zero_le _, fun e he => fin H1 A1 b1 rfl e he⟩⟩⟩
  · subst hx
    cases hF
    have A1 := A0.setL ys
    have R1 := R0.but (q := q) A0 hne (But3.l (o := .lst (ys.map V.int).reverse))
    obtain ⟨d1, e1⟩ := A1.r
    obtain ⟨dw, t, ew, et⟩ := R1
    refine ⟨_, rfl, rfl, _, rfl, iteF ⟨_, rfl, rfl, _, rfl, ?_⟩⟩
    have hx : decide (V.int x = V.int 0) = decide (x = 0) := decide_eq_decide.mpr ⟨fun z => V.int.inj z, fun z => congrArg V.int z⟩
    rw [hx]
    by_cases c : x = 0
    · rw [decide_eq_true c]
      refine iteT ⟨_, rfl, row, Cr, dw, _, _, rfl, ew, TR.cr, TR.ra, lkR3 m t, _, rfl, q.r, Cn, d1, _, rfl, e1, T.cn, T.nl, (by show 5 < 1000; decide), Nat.zero_le _, fun e he => ?_⟩
      refine fin _ ?_ (But3.l.trans But3.r) rfl e he
      rw [if_pos c]
      exact A1.setR (dx := d1) m.after M.calling
    · rw [decide_eq_false c]
      refine iteF ⟨_, rfl, row, Cr, dw, _, _, rfl, ew, TR.cr, TR.ro, lkR4 m t, _, rfl, q.r, Cn, d1, _, rfl, e1, T.cn, T.nl, (by show 5 < 1000; decide), Nat.zero_le _, fun e he => ?_⟩
      refine fin _ ?_ (But3.l.trans But3.r) rfl e he
      rw [if_neg c]
      exact A1.setR (dx := d1) m.other M.calling
end
end FP
set_option Elab.async false
set_option linter.all false
set_option maxRecDepth 100000
set_option maxHeartbeats 4000000
namespace FP
open PySem PySem.Spec PyProof.Rows L2
def stepM : StepM := fun m M xs => if m.word = ("input" : Str) then inputM m M xs else if m.word = ("use" : Str) then useM m M xs else if m.word = ("loop" : Str) then loopM m M xs else if m.word = ("maybe" : Str) then maybeM m M xs else none
section
variable {P : Program} {w : World} {K : PySem.W.Frag} {mg : Str → Option Value} {base : Heap} {Cn Cc Cr aL : Addr}
/-- a def that the table holds at a word -/
structure Act (P : Program) (w : World) (K : PySem.W.Frag) (mg : Str → Option Value) (base : Heap) (Cn Cc Cr aL : Addr) (wd : Str) (F : StepM) : Prop where
  ex : ∃ (f : Addr) (fd : FuncData), KDct K w aL wd (.ref f) ∧ PySem.W.keepIn K (.ref f) = true ∧ Binds K fd ["run", "row", "choices"] [] ∧ FnOk P w K mg base CX0 3 f fd ["run", "row", "choices"] (spDo Cn Cc Cr F)
def spAdv (Cn Cc Cr : Addr) : Sp := fun vs H Q _ => ∃ (q : Rt) (R row : Addr) (ras : List Addr) (M : RunM) (xs : List Int) (m : RowM) (evs : List (List V)) (M' : RunM) (ys : List Int), vs = [.ref q.r, .ref R, .ref q.c] ∧ RnAt Cn Cc H q M xs ∧ H R = some (.lst (ras.map V.ref)) ∧ ras[M.line]? = some row ∧
  RowAt Cr H row m ∧ row ≠ q.r ∧ xs.length ≤ 1000000 ∧ M.held.length ≤ 1000 ∧ M.calling = false ∧ stepM m M xs = some (evs, M', ys) ∧ ∀ e H', H e = none → EvAt H' e evs → RnAt Cn Cc H' q M' ys → But3 q H H' → Q (.ref e) H'
abbrev nAD : List Str := ["run", "rows", "choices", "row", "action"]
theorem scAD : FnScope nAD ["run", "rows", "choices"] (defScope sAdvance) := ⟨rfl, rfl, rfl, by decide +kernel, rfl, by decide +kernel, by decide +kernel⟩
theorem ok_advance {f : Addr} {fd : FuncData} (F : Fun K "advance" "advance" sAdvance f fd) (T : RnTxt K mg Cn Cc) (TR : RwTxt K Cr) (hw : NoAttr K Cr "word") (gL : mg "LINES" = some (.ref aL))
    (D1 : Act P w K mg base Cn Cc Cr aL "input" inputM) (D2 : Act P w K mg base Cn Cc Cr aL "use" useM) (D3 : Act P w K mg base Cn Cc Cr aL "loop" loopM) (D4 : Act P w K mg base Cn Cc Cr aL "maybe" maybeM) :
    FnOk P w K mg base CX0 4 f fd ["run", "rows", "choices"] (spAdv Cn Cc Cr) := by
  refine F.ok scAD (fun vs H Q E h => ?_) (fun cdv A outer s H vs Q E hr h => ?_)
  · obtain ⟨q, R, row, ras, M, xs, m, evs, M', ys, rfl, _⟩ := h
    rfl
  obtain ⟨q, R, row, ras, M, xs, m, evs, M', ys, rfl, A0, hR, hrow, R0, hne, hxl, hhl, hcal, hF, k⟩ := h
  obtain ⟨dr, er⟩ := A0.r
  obtain ⟨dw, t, ew, et⟩ := id R0
  have main : ∀ G : StepM, Act P w K mg base Cn Cc Cr aL m.word G → G m M xs = some (evs, M', ys) → ∃ t, PSs (cxOf CX0 P w K mg base nAD "advance" (defScope sAdvance) f cdv A outer s H E).nox (defBody sAdvance) t ∧ t { nx := fun _ H' => Q .non H', rt := Q } (start nAD [.ref q.r, .ref R, .ref q.c]) H := by
    intro G D hG
    obtain ⟨fA, fdA, kd, kA, bA, GA⟩ := D.ex
    refine ⟨_, pss_cons (ps_set (i := 3) scAD.nd rfl (.inl rfl) (pe_ix ix_list (pv 1) (pe_fld (pv 0) rfl) (fun _ _ => rfl)))
      (pss_cons (ps_if (pt_val (pe_fld (pv 0) rfl)) (pss_one ps_never) pss_nil)
      (pss_cons (ps_set (i := 4) scAD.nd rfl (.inl rfl) (pe_ix ix_kdict (pe_glob (v := .ref aL) (by rfl) gL rfl) (pe_fld (pv 3) rfl) (fun _ _ => rfl)))
      (pss_one (ps_ret (pe_callL (i := 4) GA hr rfl (.inl rfl) kA bA .nil pass0 (pa_cons (pv 0) (pa_cons (pv 3) (pa_cons (pv 2) pa_nil)))))))), ?_⟩
    refine ⟨_, rfl, _, rfl, q.r, Cn, dr, _, _, rfl, er, T.cn, T.nl, lkN1 M q, R, _, _, V.ref row, rfl, rfl, SqL.of hR, atI_nat (by rw [List.getElem?_map, hrow]; rfl), ?_⟩
    refine ⟨_, rfl, q.r, Cn, dr, _, _, rfl, er, T.cn, T.nc, lkN2 M q, _, rfl, ?_⟩
    rw [hcal]
    exact iteF ⟨_, rfl, row, Cr, dw, _, _, rfl, ew, TR.cr, hw, lkR1 m t, aL, m.word, .ref fA, rfl, rfl, kd, rfl, _, rfl, _, rfl, _, rfl, q, row, M, xs, m, evs, M', ys, rfl, A0, R0, hne, hxl, hhl, hG, k⟩
  unfold stepM at hF
  by_cases c1 : m.word = ("input" : Str)
  · rw [if_pos c1] at hF
    exact main inputM (c1 ▸ D1) hF
  rw [if_neg c1] at hF
  by_cases c2 : m.word = ("use" : Str)
  · rw [if_pos c2] at hF
    exact main useM (c2 ▸ D2) hF
  rw [if_neg c2] at hF
  by_cases c3 : m.word = ("loop" : Str)
  · rw [if_pos c3] at hF
    exact main loopM (c3 ▸ D3) hF
  rw [if_neg c3] at hF
  by_cases c4 : m.word = ("maybe" : Str)
  · rw [if_pos c4] at hF
    exact main maybeM (c4 ▸ D4) hF
  rw [if_neg c4] at hF
  cases hF
end
end FP
set_option Elab.async false
set_option linter.all false
set_option maxRecDepth 100000
set_option maxHeartbeats 4000000
/-! tuple(d): the keys of a dict. -/
namespace FP
open PySem PySem.Spec PyProof.Rows L2
open PySem.W in
theorem tupD_code {prog : Program} {w : World} {A : Around} {E : Value → Shared → Prop} {s : Shared} {T : String} {r d : Addr} {n : Nat} {P : Nat → Value → Prop} {OK : Heap → Prop} {Q₁ : Value → Shared → Prop} (S : PySem.W.KdlSrc prog w T r d n P OK) (hh : A.handled = none) (hok : OK s.heap) (hn : n ≤ sizeLine)
    (h : ∀ (h' : Heap) (tk : Nat) (acc : Array Value), (∀ b o, s.heap.get? b = some o → h'.get? b = some o) → ItemsOf P acc n → Q₁ (.ref h'.objs.size) { s with heap := h'.push { cls := .type "tuple", data := .seq acc }, toks := tk }) :
    codeAny (model prog w) A (.call (.builtin "tuple.__new__") ⟨[.type "tuple", .ref r], []⟩) (wants Q₁ E) s := by
  refine codeAny_of_tree ?_
  show wpAny _ A.in1 (do checkBuiltinCall "tuple.__new__" ⟨[.type "tuple", .ref r], []⟩; again (.builtin "tuple.__new__" ⟨[.type "tuple", .ref r], []⟩)) _ _ s
  refine wpAny_bind (wpAny_of_eq (PySem.F.newCall_tuple_1 _) (wpAny_pure ⟨plainId_quiet PySem.F.plain_tuple_new _, codeAny_builtin PySem.F.entry_tuple_new ?_⟩))
  rw [Around.under_plainId PySem.F.plain_tuple_new _]
  have hsub := sub_tuple_self
  have hinit := init_tuple_lookup
  have hmh := madeHere_tuple
  have hTI : s.TypeIs (.ref r) T := S.type _ hok
  have hne := S.notTuple
  have hh1 : A.in1.handled = none := hh
  wp_walk using wpAny_typeOf hTI, PySem.W.kdu_collect (A := A.in1) S hh1 hok hn
  intro h' tk acc hk hacc
  show wpAny _ _ (Builtin.Tuple.tupleExact acc.toList.toArray >>= fun v => ret v) _ _ _
  unfold Builtin.Tuple.tupleExact
  refine wpAny_bind (wpAny_newObj_type ?_ (by show acc.toList.toArray.size ≤ sizeLine; simp only [Array.toArray_toList]; rw [hacc.1]; exact hn))
  refine wpAny_pure ?_
  have e : acc.toList.toArray = acc := by simp
  rw [e]
  exact h h' tk acc hk hacc
theorem call_tupD {prog : Program} {w : World} {A : Around} {E : Value → Shared → Prop} {s : Shared} {T : String} {r d : Addr} {n : Nat} {P : Nat → Value → Prop} {OK : Heap → Prop} {Q : Value → Shared → Prop} (S : PySem.W.KdlSrc prog w T r d n P OK) (hh : A.handled = none) (hok : OK s.heap) (hn : n ≤ sizeLine)
    (hQ : ∀ (h' : Heap) (tk : Nat) (acc : Array Value), (∀ b o, s.heap.get? b = some o → h'.get? b = some o) → ItemsOf P acc n → Q (.ref h'.objs.size) { s with heap := h'.push { cls := .type "tuple", data := .seq acc }, toks := tk }) :
    wpAny (model prog w) A (call (.type "tuple") [.ref r]) Q E s := by
  refine callType_codes (Q₁ := fun obj s₁ => s₁.TypeIs obj "tuple" ∧ Q obj s₁) PySem.F.called_tuple (PySem.F.typeCall_tuple_1 _) PySem.F.entry_object_init
    (tupD_code (A := A.in1) S hh hok hn fun h' tk acc hk hacc => ⟨⟨_, Heap.get?_push_size _ rfl, rfl⟩, hQ h' tk acc hk hacc⟩) fun obj s₁ h₁ => ?_
  exact ⟨h₁.1, PySem.F.args_object_init_2 obj _, object_init_meets PySem.F.called_tuple.init.lookup PySem.F.called_tuple.made (by decide) prog w A.in1 _ s₁ ⟨h₁.1, rfl, h₁.2⟩⟩
/-- tuple(d) of a dict of the heap -/
theorem cr_tupD {X : Cx} (hcalm : X.calm = true) : CallR X (.type "tuple") (fun xs H Q => ∃ (a : Addr) (kvs : List (Key × V)), xs = [.ref a] ∧ Rd H a (.dK kvs) ∧ ∀ p, H p = none → Q (.ref p) (upd H p (.tup (kvs.map fun kv => kV kv.1)))) := by
  intro pins s σ H xs us Q I r q
  obtain ⟨a, kvs, rfl, hd, q⟩ := q
  obtain ⟨u, rfl, rx⟩ := vals1 r
  cases rx
  obtain ⟨z, lo, vs, rel, dd⟩ := dk_rd I.hok hd
  obtain ⟨ep, hat⟩ := dd.dictAt
  have ek : (kvs.map fun kv => kV kv.1) = vs.map fun p => kV p.1 := by
    have e := congrArg (List.map kV) rel.keys
    rw [List.map_map, List.map_map] at e
    exact e
  refine call_tupD (PySem.W.kdl_dict (knd := mixKind X.prog X.w) (kvs := vs) (ep := ep) lo) (I.ok.hd hcalm) hat (by rw [← rel.length]; exact z) fun h' tk acc hk hacc => ?_
  have hv : Vals (vs.map fun p => kV p.1) acc.toList := keys_at (by rw [Array.length_toList]; exact hacc.1) fun j v e => hacc.2 j v (by rw [← Array.getElem?_toList]; exact e)
  have I1 : Inv X pins σ H { s with heap := h', toks := tk } := I.kept (t' := tk) hk
  have I2 : Inv X pins σ (upd H h'.objs.size (.tup (kvs.map fun kv => kV kv.1))) { s with heap := h'.push { cls := .type "tuple", data := .seq acc }, toks := tk } :=
    I1.laid (t' := tk) (fun b u e => Heap.get?_push_of_some _ e) (Nat.le_refl _)
      (show ObjOk X.prog X.w _ _ _ (.tup (kvs.map fun kv => kV kv.1)) from ⟨by rw [List.length_map]; exact z, acc.toList, by rw [ek]; exact hv, by simpa using IsTup.new h' acc⟩)
  exact ⟨.ref h'.objs.size, _, I2, rfl, q _ (I1.hok.fresh (Nat.le_refl _))⟩
end FP
set_option Elab.async false
set_option linter.all false
set_option maxRecDepth 100000
set_option maxHeartbeats 4000000
namespace FP
open PySem PySem.Spec PyProof.Rows L2 GenW
def goM (rows : List RowM) : Nat → RunM → List Int → Option (List (List V))
  | 0, _, _ => none
  | f + 1, M, xs => if M.line = 0 then some [] else if M.calling = false ∧ M.held.length ≤ 1000 ∧ xs.length ≤ 1000000 then (match rows[M.line]? with
      | some m => (stepM m M xs).bind fun r => (goM rows f r.2.1 r.2.2).map (r.1 ++ ·)
      | none => none) else none
def runM (Sh : ShM) (f : Nat) (xs : List Int) : Option (List (List V)) := match Sh.rows[0]? with
  | some m => goM Sh.rows f ⟨m.after, false, [], (Sh.homes.map (·.1)).zipIdx, []⟩ xs
  | none => none
def pgF (x : Str) (t s : Addr) : List (Str × V) := [("text", .str x), ("cells", .ref t), ("sheet", .ref s)]
/-- a program at x -/
structure PgAt (Cp Cr Cs : Addr) (H : Hp) (x : Addr) (text : Str) (M : ShM) : Prop where
  ex : ∃ (dx t s : Addr) (p : Pt) (H0 : Hp), H x = some (.ins Cp dx (pgF text t s)) ∧ H t = some (.tup ((M.homes.map (·.1)).map V.str)) ∧ ShAt Cr Cs H0 H s p M
theorem PgAt.grow {Cp Cr Cs : Addr} {H H' : Hp} {x : Addr} {text : Str} {M : ShM} (A : PgAt Cp Cr Cs H x text M) (S : Same H H') : PgAt Cp Cr Cs H' x text M := by
  obtain ⟨dx, t, s, p, H0, e1, e2, e3⟩ := A.ex
  exact ⟨dx, t, s, p, H0, S _ _ e1, S _ _ e2, e3.grow S⟩
/-- .. whose parts are new since H0 -/
structure PgN (Cp Cr Cs : Addr) (H0 H : Hp) (x : Addr) (text : Str) (M : ShM) : Prop where
  ex : ∃ (dx t s : Addr) (p : Pt), H x = some (.ins Cp dx (pgF text t s)) ∧ H t = some (.tup ((M.homes.map (·.1)).map V.str)) ∧ ShAt Cr Cs H0 H s p M
theorem PgN.at_ {Cp Cr Cs : Addr} {H0 H : Hp} {x : Addr} {text : Str} {M : ShM} (A : PgN Cp Cr Cs H0 H x text M) : PgAt Cp Cr Cs H x text M := by
  obtain ⟨dx, t, s, p, e1, e2, e3⟩ := A.ex
  exact ⟨dx, t, s, p, H0, e1, e2, e3⟩
structure PgTxt (K : PySem.W.Frag) (mg : Str → Option Value) (Cp : Addr) : Prop where
  cp : Cls K Cp
  gp : mg "Program" = some (.ref Cp)
  nt : NoAttr K Cp "text"
  nc : NoAttr K Cp "cells"
  ns : NoAttr K Cp "sheet"
  ml : ∃ t, mg "MOST_LINES" = some (.int 40 t)
section
variable {P : Program} {w : World} {K : PySem.W.Frag} {mg : Str → Option Value} {base : Heap} {Cn Cc Cr Cs Cp aL : Addr}
def spHold (Cp Cr Cs : Addr) : Sp := fun vs H Q _ => ∃ (x dx s : Addr) (text : Str) (M : ShM) (H0 : Hp) (p : Pt), vs = [.ref x, .str text, .ref s] ∧ H x = some (.ins Cp dx []) ∧ ShAt Cr Cs H0 H s p M ∧ H0 x ≠ none ∧
  ∀ t H', H t = none → H' t = some (.tup ((M.homes.map (·.1)).map V.str)) → H' x = some (.ins Cp dx (pgF text t s)) → (∀ b o, H b = some o → b ≠ x → H' b = some o) → Q .non H'
theorem scHo : FnScope ["self", "text", "sheet"] ["self", "text", "sheet"] (defScope mProgram_hold) := ⟨rfl, rfl, rfl, by decide +kernel, rfl, by decide +kernel, by decide +kernel⟩
theorem ok_hold {f : Addr} {fd : FuncData} (F : Fun K "_hold" "Program._hold" mProgram_hold f fd) (T : PgTxt K mg Cp) (TS : ShTxt K mg Cr Cs) (B : Blt2 mg) : FnOk P w K mg base CX0 1 f fd ["self", "text", "sheet"] (spHold Cp Cr Cs) := by
  refine F.ok scHo (fun vs H Q E h => ?_) (fun cdv A outer s H vs Q E hr h => ?_)
  · obtain ⟨x, dx, s, text, M, H0, p, rfl, _⟩ := h
    rfl
  obtain ⟨x, dx, s, text, M, H0, p, rfl, hx, A0, h0x, q⟩ := h
  obtain ⟨ds, es⟩ := A0.sh
  refine ⟨_, pss_cons (ps_fld (pv 0) (pv 1) rfl) (pss_cons (ps_fld (pv 0) (pe_callTy (cr_tupD (by rfl)) (by rfl) B.tuple (by decide +kernel) (pa_cons (pe_fld (pv 2) rfl) pa_nil)) rfl) (pss_one (ps_fld (pv 0) (pv 2) rfl))), ?_⟩
  have nsx : s ≠ x := fun z => by
    rw [z, hx] at es
    cases es
  have nhx : p.h ≠ x := fun z => h0x (z ▸ A0.fh)
  refine ⟨_, rfl, _, rfl, x, Cp, dx, [], rfl, hx, T.cp, T.nt, (by show 0 < 1000; decide), ?_⟩
  refine ⟨_, rfl, s, Cs, ds, _, _, rfl, (upd_ne nsx).trans es, TS.cs, TS.sh, lkS2 p, p.h, _, rfl, .inl ((upd_ne nhx).trans A0.h), fun t ht => ?_⟩
  have ntx : t ≠ x := fun z => by rw [z, upd_same] at ht; cases ht
  rw [upd_ne ntx] at ht
  refine ⟨_, rfl, x, Cp, dx, _, rfl, (upd_ne ntx.symm).trans upd_same, T.cp, T.nc, (by show 1 < 1000; decide), ?_⟩
  refine ⟨_, rfl, _, rfl, x, Cp, dx, _, rfl, upd_same, T.cp, T.ns, (by show 2 < 1000; decide), ?_⟩
  refine q t _ ht ?_ upd_same fun b u e nb => ?_
  · rw [upd_ne ntx, upd_ne ntx, upd_same]
    have : (homesV M.homes).map (fun kv => kV kv.1) = (M.homes.map (·.1)).map V.str := by
      unfold homesV
      rw [List.map_map, List.map_map]
      rfl
    rw [this]
  · rw [upd_ne nb, upd_ne nb, upd_ne (ne_of_none e ht), upd_ne nb]
    exact e
def spProg (Cp Cr Cs : Addr) : Sp := fun vs H Q _ => ∃ (x dx : Addr) (text : Str) (M : ShM), vs = [.ref x, .str text] ∧ H x = some (.ins Cp dx []) ∧ text.length ≤ 80000 ∧ readM text 40 = some M ∧
  ∀ H', PgN Cp Cr Cs (fun b => if b = x then none else H b) H' x text M → (∀ b o, H b = some o → b ≠ x → H' b = some o) → Q .non H'
theorem scPI : FnScope ["self", "text"] ["self", "text"] (defScope mProgram_init) := ⟨rfl, rfl, rfl, by decide +kernel, rfl, by decide +kernel, by decide +kernel⟩
theorem ok_progInit {f : Addr} {fd : FuncData} (F : Fun K "__init__" "Program.__init__" mProgram_init f fd) (T : PgTxt K mg Cp) (DR : Def P w K mg base "read_sheet" 5 ["text", "most"] (spRead Cr Cs)) (DH : MDef P w K mg base Cp "_hold" 1 ["self", "text", "sheet"] (spHold Cp Cr Cs)) :
    FnOk P w K mg base CX0 6 f fd ["self", "text"] (spProg Cp Cr Cs) := by
  obtain ⟨fR, fdR, gR, kR, bR, GR⟩ := DR.ex
  obtain ⟨fH, fdH, mH, bH, GH⟩ := DH.ex
  obtain ⟨tm, gm⟩ := T.ml
  refine F.ok scPI (fun vs H Q E h => ?_) (fun cdv A outer s H vs Q E hr h => ?_)
  · obtain ⟨x, dx, text, M, rfl, _⟩ := h
    rfl
  obtain ⟨x, dx, text, M, rfl, hx, hl, hM, q⟩ := h
  refine ⟨_, pss_one (ps_expr (pe_meth (pv 0) T.cp mH GH (hr.mono (by decide)) bH .nil pass0 (pa_cons (pv 1) (pa_cons (pe_call GR hr rfl gR kR bR .nil pass0 (pa_cons (pv 1) (pa_cons (pe_glob (v := .int 40) (by rfl) gm ⟨_, rfl⟩) pa_nil))) pa_nil)))), ?_⟩
  refine ⟨_, rfl, x, dx, _, rfl, hx, rfl, _, rfl, _, rfl, text, 40, M, rfl, hl, hM, fun s p H1 A1 => ?_⟩
  have hx1 := A1.same _ _ hx
  refine ⟨x, dx, s, text, M, H, p, rfl, hx1, A1, by rw [hx]; exact Option.some_ne_none _, fun t H2 ht e1 e2 e3 => ?_⟩
  have K2 : ∀ b o, H1 b = some o → b ≠ x → H2 b = some o := e3
  have nx : ∀ {b}, H b = none → b ≠ x := fun z e => by rw [e, hx] at z; cases z
  have A2 : ShAt Cr Cs (fun b => if b = x then none else H b) H2 s p M := by
    obtain ⟨ds, es⟩ := A1.sh
    have nsx : s ≠ x := fun z => by rw [z, hx1] at es; cases es
    refine ⟨⟨ds, K2 _ _ es nsx⟩, K2 _ _ A1.R (nx A1.fR), K2 _ _ A1.h (nx A1.fh), K2 _ _ A1.ar (nx A1.far), K2 _ _ A1.n (nx A1.fn), A1.len, fun i r m g1 g2 => ?_, A1.nd, A1.Rn, A1.har, A1.sr, ?_, ?_, ?_, ?_, fun r hr => ?_, fun b u e => ?_⟩
    · obtain ⟨d9, t9, er, et⟩ := A1.rows i r m g1 g2
      exact ⟨d9, t9, K2 _ _ er (nx (A1.fr r (List.mem_iff_getElem?.mpr ⟨i, g1⟩))), K2 _ _ et (ne_of et hx1 (by intro z; cases z))⟩
    · show (if p.R = x then none else H p.R) = none
      rw [if_neg (nx A1.fR)]; exact A1.fR
    · show (if p.h = x then none else H p.h) = none
      rw [if_neg (nx A1.fh)]; exact A1.fh
    · show (if p.ar = x then none else H p.ar) = none
      rw [if_neg (nx A1.far)]; exact A1.far
    · show (if p.n = x then none else H p.n) = none
      rw [if_neg (nx A1.fn)]; exact A1.fn
    · show (if r = x then none else H r) = none
      rw [if_neg (nx (A1.fr r hr))]; exact A1.fr r hr
    · by_cases z : b = x
      · rw [if_pos z] at e; cases e
      · rw [if_neg z] at e
        exact K2 _ _ (A1.same _ _ e) z
  exact q _ ⟨dx, t, s, p, e2, e1, A2⟩ fun b u e nb => K2 _ _ (A1.same _ _ e) nb
end
end FP
set_option Elab.async false
set_option linter.all false
set_option maxRecDepth 100000
set_option maxHeartbeats 4000000
namespace FP
open PySem PySem.Spec PyProof.Rows L2 GenW
/-- the events, as they lie in the heap -/
def OutAt (H : Hp) (out : List V) (evs : List (List V)) : Prop := ∃ ts : List Addr, out = ts.map V.ref ∧ ts.length = evs.length ∧ ∀ (i : Nat) t ev, ts[i]? = some t → evs[i]? = some ev → H t = some (.tup ev)
theorem OutAt.app {H : Hp} {o1 o2 : List V} {e1 e2 : List (List V)} (a : OutAt H o1 e1) (b : OutAt H o2 e2) : OutAt H (o1 ++ o2) (e1 ++ e2) := by
  obtain ⟨t1, rfl, l1, f1⟩ := a
  obtain ⟨t2, rfl, l2, f2⟩ := b
  refine ⟨t1 ++ t2, by rw [List.map_append], by rw [List.length_append, List.length_append, l1, l2], fun i t ev h1 h2 => ?_⟩
  by_cases c : i < t1.length
  · rw [List.getElem?_append_left c] at h1
    rw [List.getElem?_append_left (by omega)] at h2
    exact f1 i t ev h1 h2
  · rw [List.getElem?_append_right (by omega)] at h1
    rw [List.getElem?_append_right (by omega)] at h2
    rw [l1] at h1
    exact f2 _ t ev h1 h2
theorem OutAt.same {H H' : Hp} {o : List V} {e : List (List V)} (a : OutAt H o e) (S : ∀ b xs, H b = some (.tup xs) → H' b = some (.tup xs)) : OutAt H' o e := by
  obtain ⟨t, rfl, l, f⟩ := a
  exact ⟨t, rfl, l, fun i u ev h1 h2 => S _ _ (f i u ev h1 h2)⟩
section
variable {P : Program} {w : World} {K : PySem.W.Frag} {mg : Str → Option Value} {base : Heap} {Cn Cc Cr Cs Cp aL : Addr}
def spSteps (K : PySem.W.Frag) (Cp Cr Cs : Addr) : SpG := fun vs H Q _ => ∃ (x o lay : Addr) (text : Str) (M : ShM) (xs : List Int) (f : Nat) (evs : List (List V)), vs = [.ref x, .ref o, .ref lay] ∧ PgAt Cp Cr Cs H x text M ∧ SqL K H o (xs.map V.int) ∧ (∀ H, SqT K H lay []) ∧ xs.length ≤ 1000000 ∧
  (M.homes.map (·.1)).Nodup ∧ M.homes.length ≤ 5 ∧ runM M f xs = some evs ∧ evs.length ≤ 1000000 ∧ ∀ out H', Same H H' → OutAt H' out evs → Q out H'
abbrev nST : List Str := ["self", "choices", "layout", "rows", "state", "left", "events"]
theorem scST : GScope nST ["self", "choices", "layout"] (defScope mProgram_steps) := ⟨rfl, rfl, rfl, by decide +kernel, rfl, by decide +kernel, by decide +kernel⟩
theorem goM_app {rows : List RowM} : ∀ {f : Nat} {M : RunM} {xs : List Int} {evs : List (List V)}, goM rows f M xs = some evs → ∃ g, f = g + 1 := by
  intro f M xs evs h
  cases f with
  | zero => cases h
  | succ g => exact ⟨g, rfl⟩
theorem ok_stepsBody {f : Addr} {cdv : Value} {A : Around} {outer : List Env} {s0 : Shared} {H : Hp} {vs : List V} {Q : List V → Hp → Prop} {E : XK} {pn : List (Addr × Obj)} (hr : Room 4 (gcxOf P w K mg base nST "Program.steps" (defScope mProgram_steps) f cdv A outer s0 H E pn).A)
    (T : PgTxt K mg Cp) (TS : ShTxt K mg Cr Cs) (TN : RnTxt K mg Cn Cc) (B : Blt2 mg)
    (DC : Def P w K mg base "check_layout" 1 ["cells", "layout"] (spCheck0 K)) (DP : Def P w K mg base "places_in" 1 ["cells", "layout"] (spPlaces0 K)) (DR : CDef P w K mg base Cn 1 ["self", "places", "line"] (spRunInit Cn)) (DL : CDef P w K mg base Cc 1 ["self", "choices"] (spChoices K Cc))
    (DA : Def P w K mg base "advance" 4 ["run", "rows", "choices"] (spAdv Cn Cc Cr)) (h : spSteps K Cp Cr Cs vs H Q E) :
    ∃ t, GSs (gcxOf P w K mg base nST "Program.steps" (defScope mProgram_steps) f cdv A outer s0 H E pn) (defBody mProgram_steps) t ∧ t { nx := fun ys _ H' => Q ys H', rt := fun ys v H' => v = .non ∧ Q ys H' } [] (L2.start nST vs) H := by
  obtain ⟨fC, fdC, gC, kC, bC, GC⟩ := DC.ex
  obtain ⟨fP, fdP, gP, kP, bP, GP⟩ := DP.ex
  obtain ⟨fR, fdR, mR, bR, GR⟩ := DR.ex
  obtain ⟨fL, fdL, mL, bL, GL⟩ := DL.ex
  obtain ⟨fA, fdA, gA, kA, bA, GA⟩ := DA.ex
  obtain ⟨x, o, lay, text, M, xs, fu, evs, rfl, PA, ho, hlay, hxl, hnd, h5, hrun, hevl, k⟩ := h
  have hr1 := hr.mono (show 1 ≤ 4 by decide)
  have hr2 := hr.mono (show 2 ≤ 4 by decide)
  refine ⟨_, gss_cons (gs_ps (ps_expr (pe_call GC hr1 rfl gC kC bC .nil pass0 (pa_cons (pe_fld (pv 0) rfl) (pa_cons (pv 2) pa_nil)))))
    (gss_cons (gs_ps (ps_set (i := 3) scST.nd rfl (.inl rfl) (pe_fld (pe_fld (pv 0) rfl) rfl)))
    (gss_cons (gs_ps (ps_set (i := 4) scST.nd rfl (.inl rfl) (pe_make mR GR hr2 rfl TN.gn bR .nil pass0 (pa_cons (pe_call GP hr1 rfl gP kP bP .nil pass0 (pa_cons (pe_fld (pv 0) rfl) (pa_cons (pv 2) pa_nil))) (pa_cons (pe_fld (pe_ix ix_list (pv 3) pe_int (fun _ _ => rfl)) rfl) pa_nil)))))
    (gss_cons (gs_ps (ps_set (i := 5) scST.nd rfl (.inl rfl) (pe_make mL GL hr2 rfl TN.gc bL .nil pass0 (pa_cons (pv 1) pa_nil))))
    (gss_cons (gs_while owns_gcx (pt_cmpR op_gt (pe_fld (pv 4) rfl) pe_int (nomark _))
      (gss_cons (gs_ps (ps_set (i := 6) scST.nd rfl (.inl rfl) (pe_call GA hr rfl gA kA bA .nil pass0 (pa_cons (pv 4) (pa_cons (pv 3) (pa_cons (pv 5) pa_nil))))))
        (gss_cons (gs_yieldFrom (yf_lst (pv 6)) hr.hd) gss_nil)))
    gss_nil)))), ?_⟩
  obtain ⟨dx, t, s, p, H0, ex, et, ASh⟩ := PA.ex
  obtain ⟨ds, es⟩ := ASh.sh
  obtain ⟨m0, hm0, hgo⟩ : ∃ m0, M.rows[0]? = some m0 ∧ goM M.rows fu ⟨m0.after, false, [], (M.homes.map (·.1)).zipIdx, []⟩ xs = some evs := by
    unfold runM at hrun
    split at hrun
    · rename_i m e
      exact ⟨m, e, hrun⟩
    · cases hrun
  obtain ⟨r0, dr0, t0, hr0, eat0, er0, et0⟩ := ASh.rowsAt hm0
  refine ⟨_, rfl, x, Cp, dx, _, _, rfl, ex, T.cp, T.nc, rfl, _, rfl, t, lay, rfl, hlay, fun H1 S1 => ?_⟩
  refine ⟨_, rfl, x, Cp, dx, _, _, rfl, S1 _ _ ex, T.cp, T.ns, rfl, s, Cs, ds, _, _, rfl, S1 _ _ es, TS.cs, TS.sr, lkS1 p, ?_⟩
  refine ⟨_, rfl, x, Cp, dx, _, _, rfl, S1 _ _ ex, T.cp, T.nc, rfl, _, rfl, t, lay, M.homes.map (·.1), rfl, S1 _ _ et, hnd, by rw [List.length_map]; omega, hlay, fun d H2 S2 hd ed => ?_⟩
  have S12 := S1.trans S2
  refine ⟨_, rfl, p.R, _, _, V.ref r0, rfl, rfl, SqL.of (S12 _ _ ASh.R), eat0, r0, Cr, dr0, _, _, rfl, S12 _ _ er0, TS.cr, TS.ra, lkR3 m0 t0, ?_⟩
  refine fun r rx nr nrx ne => ⟨r, rx, d, m0.after, rfl, upd_same, fun k' h H3 hk hh ek eh er eo => ⟨rfl, ?_⟩⟩
  have S3 : Same H2 H3 := fun b u e => eo b u ((upd_ne (ne_of_none e nr)).trans ((upd_ne (ne_of_none e nrx)).trans e)) (ne_of_none e nr)
  have S13 := S12.trans S3
  refine ⟨_, rfl, fun c cx nc ncx nec => ⟨c, cx, o, xs, rfl, upd_same, ?_, fun l H4 hl el ec eo4 => ⟨rfl, ?_⟩⟩⟩
  · have hS : SqL K H3 o (xs.map V.int) := S13.seq ho
    refine Same.seq (fun b u e => ?_) hS
    exact (upd_ne (ne_of_none e nc)).trans ((upd_ne (ne_of_none e ncx)).trans e)
  have S4 : Same H3 H4 := fun b u e => eo4 b u ((upd_ne (ne_of_none e nc)).trans ((upd_ne (ne_of_none e ncx)).trans e)) (ne_of_none e nc)
  have S14 := S13.trans S4
  have hl3 : H3 l = none := by
    have nlc : l ≠ c := fun z => by rw [z, upd_same] at hl; cases hl
    rw [upd_ne nlc] at hl
    by_cases z : l = cx
    · rw [z, upd_same] at hl; cases hl
    · rwa [upd_ne z] at hl
  have hk2 : (upd (upd H2 rx (.own r)) r (.ins Cn rx [])) k' = none := hk
  have hh2 : H2 h = none := by
    have n1 : h ≠ r := fun z => by rw [z, upd_same] at hh; cases hh
    rw [upd_ne n1] at hh
    by_cases z : h = rx
    · rw [z, upd_same] at hh; cases hh
    · rwa [upd_ne z] at hh
  -- the run, as it begins
  have A0 : RnAt Cn Cc H4 ⟨r, k', d, h, c, l⟩ ⟨m0.after, false, [], (M.homes.map (·.1)).zipIdx, []⟩ xs := by
    refine ⟨⟨rx, S4 _ _ er⟩, S4 _ _ ek, S4 _ _ (S3 _ _ ed), S4 _ _ eh, ⟨cx, ec⟩, el, ?_, ?_, ?_⟩
    · exact (ne_of_none ed hh2).symm
    · intro z
      have z' : r = c := z
      rw [z', nc] at er
      cases er
    · exact ne_of_none ek hl3
  have fr1 : H r = none := S12.free nr
  have fr2 : H h = none := S12.free hh2
  have fr3 : H l = none := S13.free hl3
  have butS : ∀ {Ha Hb : Hp}, But3 ⟨r, k', d, h, c, l⟩ Ha Hb → Same H Ha → Same H Hb := fun b S b' u e => b b' u (ne_of_none e fr1) (ne_of_none e fr2) (ne_of_none e fr3) (S b' u e)
  generalize hq : (⟨r, k', d, h, c, l⟩ : Rt) = q at A0 butS
  have hqr : q.r = r := by rw [← hq]
  have hqc : q.c = c := by rw [← hq]
  refine ⟨fun m ys σ H' => ∃ Mr xs' done rest, (∃ z, σ = [some (.ref x), some (.ref o), some (.ref lay), some (.ref p.R), some (.ref q.r), some (.ref q.c), z]) ∧ RnAt Cn Cc H' q Mr xs' ∧ goM M.rows m Mr xs' = some rest ∧ OutAt H' ys done ∧ done ++ rest = evs ∧ Same H H' ∧ ys.length = done.length,
    ⟨fu, _, xs, [], evs, ⟨none, by rw [hqr, hqc]; rfl⟩, A0, hgo, ⟨[], rfl, rfl, fun i t ev a => by cases a⟩, rfl, S14, rfl⟩, ?_⟩
  rintro m ys σ H' ⟨Mr, xs', done, rest, ⟨z, rfl⟩, A1, hgo1, hout, hde, SH, hyl⟩
  obtain ⟨dr, erq⟩ := A1.r
  obtain ⟨g, rfl⟩ := goM_app hgo1
  have hun : goM M.rows (g + 1) Mr xs' = if Mr.line = 0 then some [] else if Mr.calling = false ∧ Mr.held.length ≤ 1000 ∧ xs'.length ≤ 1000000 then (match M.rows[Mr.line]? with
      | some m => (stepM m Mr xs').bind fun r => (goM M.rows g r.2.1 r.2.2).map (r.1 ++ ·)
      | none => none) else none := rfl
  rw [hun] at hgo1
  refine ⟨_, rfl, q.r, Cn, dr, _, _, rfl, erq, TN.cn, TN.nl, lkN1 Mr q, _, _, rfl, rfl, _, rfl, ?_⟩
  by_cases hz : Mr.line = 0
  · rw [if_pos hz] at hgo1
    obtain rfl := Option.some.inj hgo1
    rw [decide_eq_false (show ¬ (0 : Int) < (Mr.line : Nat) by omega)]
    rw [List.append_nil] at hde
    rw [← hde] at k
    exact iteF (k ys H' SH hout)
  · rw [if_neg hz] at hgo1
    by_cases hg : Mr.calling = false ∧ Mr.held.length ≤ 1000 ∧ xs'.length ≤ 1000000
    case neg => rw [if_neg hg] at hgo1; cases hgo1
    rw [if_pos hg] at hgo1
    cases em : M.rows[Mr.line]? with
    | none => rw [em] at hgo1; cases hgo1
    | some m1 =>
      rw [em] at hgo1
      obtain ⟨⟨ev1, M2, ys2⟩, hst, hgo2⟩ := Option.bind_eq_some_iff.mp hgo1
      obtain ⟨rest2, hgo3, hrest⟩ := Option.map_eq_some_iff.mp hgo2
      have ASh' := ASh.grow SH
      obtain ⟨row, drw, trw, hrow, eatr, erw, etw⟩ := ASh'.rowsAt em
      have hne : row ≠ q.r := by
        obtain ⟨d9, t9, m9, e9⟩ := ASh.mem (List.mem_iff_getElem?.mpr ⟨_, hrow⟩)
        rw [hqr]
        exact ne_of_none e9 fr1
      rw [decide_eq_true (show (0 : Int) < (Mr.line : Nat) by omega)]
      refine iteT ⟨fun ys σ H' => ∃ Mr xs' done rest, (∃ z, σ = [some (.ref x), some (.ref o), some (.ref lay), some (.ref p.R), some (.ref q.r), some (.ref q.c), z]) ∧ RnAt Cn Cc H' q Mr xs' ∧ goM M.rows g Mr xs' = some rest ∧ OutAt H' ys done ∧ done ++ rest = evs ∧ Same H H' ∧ ys.length = done.length, fun _ _ _ z => ⟨g, Nat.lt_succ_self _, z⟩, ?_⟩
      refine ⟨_, rfl, _, rfl, _, rfl, q, p.R, row, p.ras, Mr, xs', m1, ev1, M2, ys2, rfl, A1, ASh'.R, hrow, ⟨drw, trw, erw, etw⟩, hne, hg.2.2, hg.2.1, hg.1, hst, fun e H5 he hev A5 b5 => ?_⟩
      obtain ⟨ts, e1, e2, e3⟩ := hev
      have S5 := butS b5 SH
      have hevs : done ++ (ev1 ++ rest2) = evs := by rw [← hde, ← hrest]
      have hlen : (done ++ ev1).length ≤ 1000000 := by
        have := congrArg List.length hevs
        rw [List.length_append, List.length_append] at this
        rw [List.length_append]
        omega
      refine ⟨_, rfl, e, _, rfl, e1, ?_, M2, ys2, done ++ ev1, rest2, ⟨_, rfl⟩, A5, hgo3, ?_, by rw [List.append_assoc]; exact hevs, S5, ?_⟩
      · rw [List.length_map, e2, hyl, sizeLine_eq]
        rw [List.length_append] at hlen
        omega
      · refine OutAt.app (hout.same fun b xs eb => b5 b _ (ne_of eb erq (by intro z; cases z)) (ne_of eb A1.h (by intro z; cases z)) (ne_of eb A1.l (by intro z; cases z)) eb) ⟨ts, rfl, e2, e3⟩
      · rw [List.length_append, List.length_append, List.length_map, e2, hyl]
end
end FP
set_option Elab.async false
set_option linter.all false
set_option maxRecDepth 100000
set_option maxHeartbeats 4000000
namespace FP
open PySem PySem.Spec PyProof.Rows L2 GenW
theorem passCX0 {P : Program} {w : World} {X : Cx} : Passes (L2.CX P w) X E0 := fun pins σ H s e s' I h => by
  obtain ⟨a, B, H', cls, d, z⟩ := h
  exact False.elim (by simp [E0] at z)
section
variable {P : Program} {w : World} {K : PySem.W.Frag} {mg : Str → Option Value} {base : Heap} {Cn Cc Cr Cs Cp aL : Addr}
abbrev pSt : List Str := ["self", "choices", "layout"]
theorem ok_steps {f : Addr} {fd : FuncData} {lv : V} (F : FunD K "steps" "Program.steps" (defArgs mProgram_steps) (defBody mProgram_steps) (defScope mProgram_steps) [] [("layout", lv)] f fd)
    (T : PgTxt K mg Cp) (TS : ShTxt K mg Cr Cs) (TN : RnTxt K mg Cn Cc) (B : Blt2 mg)
    (DC : Def P w K mg base "check_layout" 1 ["cells", "layout"] (spCheck0 K)) (DP : Def P w K mg base "places_in" 1 ["cells", "layout"] (spPlaces0 K)) (DR : CDef P w K mg base Cn 1 ["self", "places", "line"] (spRunInit Cn)) (DL : CDef P w K mg base Cc 1 ["self", "choices"] (spChoices K Cc))
    (DA : Def P w K mg base "advance" 4 ["run", "rows", "choices"] (spAdv Cn Cc Cr)) : GFn P w K mg base 5 f fd pSt (spSteps K Cp Cr Cs) ∧ ∃ mv : List Value, KBn K fd pSt 2 ["layout"] (fun us ws => us ++ ws) (fun vs zs => vs ++ zs) := by
  refine ⟨?_, ?_⟩
  · obtain ⟨oc, od, dV, kV, doc, pm, an, cdv, ct, osl, rfl, lk, hcd, _, _⟩ := F.ex
    refine gfn_of lk hcd scST (fun vs H Q E h => ?_) (fun A outer s H vs Q E pn hr h => ?_)
    · obtain ⟨x, o, lay, text, M, xs, fu, evs, rfl, _⟩ := h
      rfl
    · exact ok_stepsBody hr T TS TN B DC DP DR DL DA h
  · exact FunD.kbinds0 F 2 ["layout"] [] (fun us mv ws => us ++ ws) (by simp) (fun q hq => by cases hq) (fun a b c => a.append c) (fun D doc pm an cdv ct us mv ws h1 h2 h3 => by
      match us, h1, ws, h3 with
      | [a, b], _, [c], _ => exact rfl)
def spRunP (K : PySem.W.Frag) (Cp Cr Cs : Addr) : Sp := fun vs H Q _ => ∃ (x o lay : Addr) (text : Str) (M : ShM) (xs : List Int) (f : Nat) (evs : List (List V)), vs = [.ref x, .ref o, .ref lay] ∧ PgAt Cp Cr Cs H x text M ∧ SqL K H o (xs.map V.int) ∧ (∀ H, SqT K H lay []) ∧ xs.length ≤ 1000000 ∧
  (M.homes.map (·.1)).Nodup ∧ M.homes.length ≤ 5 ∧ runM M f xs = some evs ∧ evs.length ≤ 1000000 ∧ ∀ e H', H e = none → Same H H' → EvAt H' e evs → Q (.ref e) H'
theorem scRU : FnScope pSt pSt (defScope mProgram_run) := ⟨rfl, rfl, rfl, by decide +kernel, rfl, by decide +kernel, by decide +kernel⟩
theorem ok_runP {f fS : Addr} {fd fdS : FuncData} {lv : V} (F : FunD K "run" "Program.run" (defArgs mProgram_run) (defBody mProgram_run) (defScope mProgram_run) [] [("layout", lv)] f fd) (T : PgTxt K mg Cp) (B : Blt2 mg) (mS : Meth K Cp "steps" fS)
    (GS_ : GFn P w K mg base 5 fS fdS pSt (spSteps K Cp Cr Cs)) (bS : KBn K fdS pSt 2 ["layout"] (fun us ws => us ++ ws) (fun vs zs => vs ++ zs)) :
    FnOk P w K mg base CX0 9 f fd pSt (spRunP K Cp Cr Cs) ∧ ∃ ds, Vals [lv] ds ∧ Binds K fd pSt ds := by
  refine ⟨?_, ?_⟩
  · refine F.ok scRU (fun vs H Q E h => ?_) (fun cdv A outer s H vs Q E hr h => ?_)
    · obtain ⟨x, o, lay, text, M, xs, fu, evs, rfl, _⟩ := h
      rfl
    obtain ⟨x, o, lay, text, M, xs, fu, evs, rfl, PA, ho, hlay, hxl, hnd, h5, hrun, hevl, k⟩ := h
    obtain ⟨dx, t, s', p, H0, ex, et, ASh⟩ := PA.ex
    refine ⟨_, pss_one (ps_ret (pe_listG (pgen_methK (pv 0) T.cp mS GS_ (hr.mono (by decide)) bS (pa_cons (pv 1) pa_nil) (pk_cons (pv 2) pk_nil)) passCX0 (fun _ _ _ z => z.elim) hr (by rfl) B.list boot_list)), ?_⟩
    refine ⟨_, rfl, x, dx, _, rfl, ex, rfl, _, rfl, _, rfl, rfl, rfl, x, o, lay, text, M, xs, fu, evs, rfl, PA, ho, hlay, hxl, hnd, h5, hrun, hevl, fun out H' S hout e he => ?_⟩
    obtain ⟨ts, rfl, l1, f1⟩ := hout
    exact k e _ (S.free he) (fun b u eb => (upd_ne (ne_of_none (S _ _ eb) he)).trans (S _ _ eb)) ⟨ts, upd_same, l1, fun i u ev h1 h2 => (upd_ne (ne_of_none (f1 i u ev h1 h2) he)).trans (f1 i u ev h1 h2)⟩
  · exact F.binds0 2 (by simp) rfl (fun D doc pm an cdv ct us ks h1 h2 => by
      match us, h1, ks, h2 with
      | [a, b], _, [c], _ => exact ⟨_, _, _, _, _, _, rfl, rfl, rfl⟩)
end
end FP
set_option Elab.async false
set_option linter.all false
set_option maxRecDepth 100000
set_option maxHeartbeats 4000000
set_option exponentiation.threshold 2000
namespace FP
open PySem PySem.Spec PyProof.Rows L2
def twelve : List Str := ["p", "q", "a", "b", "x", "y", "low", "ends", "pointer", "sames", "callee", "abcdefghijkl"]
theorem twelve_ok : ∀ y ∈ twelve, PyData.strOk y = true := by decide +kernel
/-- some of the twelve names, in some order: a new list -/
def spNames : Sp := fun vs H Q _ => ∃ (p a : Addr) (ns : List Int) (t l m : Int), vs = [.ref p, .int m] ∧ PenAt H p a ns t l ∧ t ≤ 999000 ∧ 0 ≤ m ∧ m ≤ 12 ∧
  ∀ (r : Addr) (ys : List Str) (t' l' : Int) (H' : Hp), ys.Perm twelve → t ≤ t' → t' ≤ t + 12 → But p H H' → PenAt H' p a ns t' l' → H r = none → H' r = some (.lst ((ys.take m.toNat).map V.str)) → Q (.ref r) H'
/-- a new pen over the script -/
def spPen (K : W.Frag) : Sp := fun vs H Q _ => ∃ (o : Addr) (ns : List Int), vs = [.ref o] ∧ SqL K H o (ns.map V.int) ∧ ns.length ≤ 63 ∧
  ∀ (p a : Addr) (H' : Hp), H p = none → Same H H' → PenAt H' p a ns 0 0 → Q (.ref p) H'
section
variable {P : Program} {w : World} {K : W.Frag} {mg : Str → Option Value} {base : Heap}
theorem scN : FnScope ["_law_pen", "_law_many", "_law_found"] ["_law_pen", "_law_many"] (defScope sNames) := ⟨rfl, rfl, rfl, by decide +kernel, rfl, by decide +kernel, by decide +kernel⟩
theorem cut_take (xs : List V) (m : Int) (h : 0 ≤ m) : cutV xs none (some m) = xs.take m.toNat := by
  have e : HT.sIx xs.length 0 none = 0 := rfl
  unfold cutV
  rw [e, List.drop_zero, Nat.sub_zero]
  obtain ⟨n, rfl⟩ : ∃ n : Nat, m = (n : Int) := ⟨_, (Int.toNat_of_nonneg h).symm⟩
  rw [HT.sIx_nat, Int.toNat_natCast]
  rcases Nat.le_total n xs.length with z | z
  · rw [Nat.min_eq_left z]
  · rw [Nat.min_eq_right z, List.take_length, List.take_of_length_le z]
theorem ok_names {f : Addr} {fd : FuncData} (F : Fun K "_law_new_names" "_law_new_names" sNames f fd) (D : Def P w K mg base "_law_shuffled" 2 ["_law_pen", "_law_items"] spShuf) : FnOk P w K mg base CX0 3 f fd ["_law_pen", "_law_many"] spNames := by
  obtain ⟨fD, fdD, gD, kD, bD, GD⟩ := D.ex
  refine F.ok scN (fun vs H Q E h => ?_) (fun cdv A outer s H vs Q E hr h => ?_)
  · obtain ⟨p, a, ns, t, l, m, rfl, _⟩ := h
    rfl
  obtain ⟨p, a, ns, t, l, m, rfl, PA0, ht, h0, h1, k⟩ := h
  refine ⟨_, pss_cons (ps_set (i := 2) scN.nd rfl (.inl rfl) (pe_lst (pa_cons pe_str (pa_cons pe_str (pa_cons pe_str (pa_cons pe_str (pa_cons pe_str (pa_cons pe_str (pa_cons pe_str (pa_cons pe_str (pa_cons pe_str (pa_cons pe_str (pa_cons pe_str (pa_cons pe_str pa_nil))))))))))))))
    (pss_one (ps_ret (pe_slice sl_list (pe_call GD hr rfl gD kD bD .nil pass0 (pa_cons (pv 0) (pa_cons (pv 2) pa_nil))) po_none (po_some (pv 1))))), ?_⟩
  refine ⟨(by rw [sizeLine_eq]; exact (by decide : 12 ≤ 16777216)), fun o ho => ?_⟩
  have nop : o ≠ p := (ne_of_none PA0.p ho).symm
  refine ⟨_, rfl, _, rfl, p, a, o, ns, t, l, twelve, rfl, PA0.new ho, by show t + 12 ≤ 1000000; omega, nop, upd_same, by show 12 ≤ 1000; decide, twelve_ok, ?_⟩
  intro r ys t' l' H' pm t1 t2 b PA1 hr0 er
  have nro : r ≠ o := fun z => by rw [z, upd_same] at hr0; cases hr0
  rw [upd_ne nro] at hr0
  have b0 : But p H H' := fun c u n e => b c u n ((upd_ne (ne_of_none e ho)).trans e)
  refine ⟨_, rfl, m, rfl, r, _, rfl, SqL.of er, fun z hz => ?_⟩
  rw [cut_take _ _ h0, ← List.map_take]
  have hz0 : H z = none := by
    cases e : H z with
    | none => rfl
    | some u => by_cases zp : z = p
                · rw [zp, PA1.p] at hz; cases hz
                · rw [b0 z u zp e] at hz; cases hz
  exact k z ys t' l' _ pm t1 (by have : t' ≤ t + 12 := t2; omega) (b0.new hz) (PA1.new hz) hz0 upd_same
theorem scB : FnScope ["_law_script"] ["_law_script"] (defScope sPen) := ⟨rfl, rfl, rfl, by decide +kernel, rfl, by decide +kernel, by decide +kernel⟩
theorem ok_pen {f : Addr} {fd : FuncData} (F : Fun K "_law_begun_pen" "_law_begun_pen" sPen f fd) (B : Blt mg) : FnOk P w K mg base CX0 1 f fd ["_law_script"] (spPen K) := by
  refine F.ok scB (fun vs H Q E h => ?_) (fun cdv A outer s H vs Q E hr h => ?_)
  · obtain ⟨o, ns, rfl, _⟩ := h
    rfl
  obtain ⟨o, ns, rfl, hS, hl, k⟩ := h
  refine ⟨_, pss_one (ps_ret (pe_disp (pps_cons pe_str (pe_callTy call_list_of (by rfl) B.list (by decide +kernel) (pa_cons (pe_slice sl_list (pv 0) po_none (po_some pe_int)) pa_nil)) (pps_cons pe_str pe_int (pps_cons pe_str pe_int pps_nil)))
    (by rfl) (by rfl) (fun z => by cases z) (by decide))), ?_⟩
  intro p hp
  have S1 : ∀ {b : Addr} {u : HO}, H b = some u → upd H p (.dK []) b = some u := fun {b u} e => (upd_ne (ne_of_none e hp)).trans e
  have S2 : Same H (upd H p (.dK [])) := fun b u e => S1 e
  refine ⟨_, rfl, 63, rfl, o, _, rfl, S2.seq hS, fun z hz => ⟨z, _, rfl, .inl (SqL.of upd_same), fun l hl0 => ?_⟩⟩
  have nzp : z ≠ p := fun e => by rw [e, upd_same] at hz; cases hz
  have nlz : l ≠ z := fun e => by rw [e, upd_same] at hl0; cases hl0
  rw [upd_ne nlz] at hl0
  have nlp : l ≠ p := fun e => by rw [e, upd_same] at hl0; cases hl0
  have hl1 : H l = none := by rwa [upd_ne nlp] at hl0
  have hz1 : H z = none := by rwa [upd_ne nzp] at hz
  have cut : cutV (ns.map V.int) none (some 63) = ns.map V.int := by
    rw [cut_take _ _ (by decide)]
    exact List.take_of_length_le (by rw [List.length_map]; exact hl)
  refine ⟨(upd_ne nlp.symm).trans ((upd_ne nzp.symm).trans upd_same), penD l 0 0, rfl, by show 3 ≤ 15; decide, k p l _ hp (fun b u e => ?_) ⟨upd_same, ?_, hl, Int.le_refl _, Int.le_refl _⟩⟩
  · rw [upd_ne (ne_of_none e hp), upd_ne (ne_of_none e hl1), upd_ne (ne_of_none e hz1), upd_ne (ne_of_none e hp)]
    exact e
  · rw [upd_ne nlp, upd_same, cut]
end
end FP
set_option Elab.async false
set_option linter.all false
set_option maxRecDepth 100000
set_option maxHeartbeats 4000000
/-! The three texts of the law, as they are read, and how they run. -/
namespace FP
open PySem PySem.Spec PyProof.Rows L2
def txt1 (c : Str) : Str := Txt.join "\n" ["local " ++ c, "loop", "loop", "input " ++ c, "end", "use " ++ c, "end"]
def txt2 (c : Str) : Str := Txt.join "\n" ["local " ++ c, "loop", "maybe", "use " ++ c, "else", "input " ++ c, "end", "maybe", "use " ++ c, "end", "maybe", "else", "end", "end"]
def txt3 (c : Str) : Str := "local " ++ c ++ "\nloop\nend\nuse " ++ c
def rows1 (c : Str) : List RowM := [⟨"", [], 2, 0⟩, ⟨"local", [c], 2, 0⟩, ⟨"loop", [], 3, 0⟩, ⟨"loop", [], 4, 6⟩, ⟨"input", [c], 3, 0⟩, ⟨"end", [], 3, 0⟩, ⟨"use", [c], 2, 0⟩, ⟨"end", [], 2, 0⟩]
def rows2 (c : Str) : List RowM := [⟨"", [], 2, 0⟩, ⟨"local", [c], 2, 0⟩, ⟨"loop", [], 3, 0⟩, ⟨"maybe", [], 4, 6⟩, ⟨"use", [c], 8, 0⟩, ⟨"else", [], 7, 0⟩, ⟨"input", [c], 8, 0⟩, ⟨"end", [], 8, 0⟩, ⟨"maybe", [], 9, 11⟩, ⟨"use", [c], 11, 0⟩, ⟨"end", [], 11, 0⟩, ⟨"maybe", [], 2, 2⟩,
  ⟨"else", [], 13, 0⟩, ⟨"end", [], 14, 0⟩, ⟨"end", [], 2, 0⟩]
def rows3 (c : Str) : List RowM := [⟨"", [], 2, 0⟩, ⟨"local", [c], 2, 0⟩, ⟨"loop", [], 2, 4⟩, ⟨"end", [], 2, 0⟩, ⟨"use", [c], 0, 0⟩]
def sh1 (c : Str) : ShM := ⟨rows1 c, [(c, 0)], [(2, 0), (3, 2)], [0]⟩
def sh2 (c : Str) : ShM := ⟨rows2 c, [(c, 0)], [(2, 0), (3, 2), (5, 2), (8, 2), (11, 2), (12, 2)], [0]⟩
def sh3 (c : Str) : ShM := ⟨rows3 c, [(c, 0)], [(2, 0)], [0]⟩
theorem read1 : ∀ c ∈ twelve, readM (txt1 c) 40 = some (sh1 c) := by decide +kernel
theorem read2 : ∀ c ∈ twelve, readM (txt2 c) 40 = some (sh2 c) := by decide +kernel
theorem read3 : ∀ c ∈ twelve, readM (txt3 c) 40 = some (sh3 c) := by decide +kernel
theorem read0 : readM "" 40 = some ⟨[⟨"", [], 0, 0⟩], [], [], [0]⟩ := by decide +kernel
theorem txt1_len : ∀ c ∈ twelve, (txt1 c).length ≤ 1000 := by decide +kernel
theorem txt2_len : ∀ c ∈ twelve, (txt2 c).length ≤ 1000 := by decide +kernel
theorem txt3_len : ∀ c ∈ twelve, (txt3 c).length ≤ 1000 := by decide +kernel
/-- from M with xs to M' with ys, telling evs -/
def Reach (rows : List RowM) (M : RunM) (xs : List Int) (evs : List (List V)) (M' : RunM) (ys : List Int) : Prop := ys.length ≤ xs.length ∧ (xs.length ≤ 1000000 → ∀ f r, goM rows f M' ys = some r → ∃ f', goM rows f' M xs = some (evs ++ r))
theorem Reach.refl {rows : List RowM} {M : RunM} {xs : List Int} : Reach rows M xs [] M xs := ⟨Nat.le_refl _, fun _ f r h => ⟨f, h⟩⟩
theorem Reach.trans {rows : List RowM} {M M1 M2 : RunM} {xs ys zs : List Int} {e1 e2 : List (List V)} (a : Reach rows M xs e1 M1 ys) (b : Reach rows M1 ys e2 M2 zs) : Reach rows M xs (e1 ++ e2) M2 zs := by
  refine ⟨Nat.le_trans b.1 a.1, fun hl f r h => ?_⟩
  obtain ⟨f1, h1⟩ := b.2 (Nat.le_trans a.1 hl) f r h
  obtain ⟨f2, h2⟩ := a.2 hl f1 _ h1
  exact ⟨f2, by rw [List.append_assoc]; exact h2⟩
theorem Reach.step {rows : List RowM} {M M' : RunM} {xs ys : List Int} {m : RowM} {evs : List (List V)} (h0 : M.line ≠ 0) (hc : M.calling = false) (hh : M.held.length ≤ 1000) (hm : rows[M.line]? = some m) (hs : stepM m M xs = some (evs, M', ys)) (hl : ys.length ≤ xs.length) : Reach rows M xs evs M' ys := by
  refine ⟨hl, fun hx f r h => ⟨f + 1, ?_⟩⟩
  show (if M.line = 0 then some [] else if M.calling = false ∧ M.held.length ≤ 1000 ∧ xs.length ≤ 1000000 then (match rows[M.line]? with
      | some m => (stepM m M xs).bind fun r => (goM rows f r.2.1 r.2.2).map (r.1 ++ ·)
      | none => none) else none) = _
  rw [if_neg h0, if_pos ⟨hc, hh, hx⟩, hm]
  show (stepM m M xs).bind _ = _
  rw [hs]
  show (goM rows f M' ys).map (evs ++ ·) = _
  rw [h]
  rfl
theorem Reach.run {rows : List RowM} {M M' : RunM} {xs ys : List Int} {evs : List (List V)} (a : Reach rows M xs evs M' ys) (hl : xs.length ≤ 1000000) (h0 : M'.line = 0) : ∃ f, goM rows f M xs = some evs := by
  obtain ⟨f, h⟩ := a.2 hl 1 [] (by show (if M'.line = 0 then some [] else _) = _; rw [if_pos h0])
  exact ⟨f, by rw [List.append_nil] at h; exact h⟩
/-- the state at a line: what the one cell holds -/
def hld : Option Int → List (Nat × V)
  | none => []
  | some v => [(0, .int v)]
def stt (c : Str) (line : Nat) (o : Option Int) : RunM := ⟨line, false, [], [(c, 0)], hld o⟩
def wo : Option Int → V
  | none => .non
  | some v => .int v
theorem worth_stt (c : Str) (line : Nat) (o : Option Int) : worthM (stt c line o) 0 = wo o := by cases o <;> rfl
theorem home_stt (c : Str) (line : Nat) (o : Option Int) : homeOf (stt c line o).places c = some 0 := by
  show homeOf [(c, 0)] c = some 0
  unfold homeOf
  simp
theorem put_stt (o : Option Int) (v : Int) : putH (hld o) 0 (.int v) = hld (some v) := by cases o <;> rfl
theorem hld_len (o : Option Int) : (hld o).length ≤ 1000 := by
  cases o with
  | none => decide
  | some v => exact (by decide : 1 ≤ 1000)
def evR (c : Str) (line : Nat) (o : Option Int) : List V := [.str "read", .int (line : Nat), .str c, wo o]
def evW (c : Str) (line : Nat) (v : Int) : List V := [.str "write", .int (line : Nat), .str c, .int v]
section
variable {rows : List RowM} {c : Str} {line a b : Nat} {o : Option Int} {t : List Int} {x : Int}
theorem r_loop (h0 : line ≠ 0) (hm : rows[line]? = some ⟨"loop", [], a, b⟩) : Reach rows (stt c line o) (x :: t) [] (stt c (if x = 0 then b else a) o) t :=
  .step h0 rfl (hld_len o) hm rfl (Nat.le_succ _)
theorem r_maybe (h0 : line ≠ 0) (hm : rows[line]? = some ⟨"maybe", [], a, b⟩) : Reach rows (stt c line o) (x :: t) [] (stt c (if x = 0 then a else b) o) t :=
  .step h0 rfl (hld_len o) hm rfl (Nat.le_succ _)
theorem r_stop (h0 : line ≠ 0) (hm : rows[line]? = some ⟨"loop", [], a, b⟩) : Reach rows (stt c line o) [] [] (stt c 0 o) [] :=
  .step h0 rfl (hld_len o) hm rfl (Nat.le_refl _)
theorem r_use (h0 : line ≠ 0) (hm : rows[line]? = some ⟨"use", [c], a, b⟩) : Reach rows (stt c line o) t [evR c line o] (stt c a o) t := by
  refine .step h0 rfl (hld_len o) hm ?_ (Nat.le_refl _)
  show (homeOf (stt c line o).places c).map _ = _
  rw [home_stt]
  show some ([[.str "read", .int (line : Nat), .str c, worthM (stt c line o) 0]], _, _) = _
  rw [worth_stt]
  rfl
theorem r_input (h0 : line ≠ 0) (hm : rows[line]? = some ⟨"input", [c], a, b⟩) : Reach rows (stt c line o) (x :: t) [evW c line x] (stt c a (some x)) t := by
  refine .step h0 rfl (hld_len o) hm ?_ (Nat.le_succ _)
  show (homeOf (stt c line o).places c).map _ = _
  rw [home_stt]
  show some ([_], (⟨a, false, [], [(c, 0)], putH (hld o) 0 (.int x)⟩ : RunM), t) = _
  rw [put_stt]
  rfl
end
end FP
set_option Elab.async false
set_option linter.all false
set_option maxRecDepth 100000
set_option maxHeartbeats 4000000
set_option exponentiation.threshold 2000
namespace FP
open PySem PySem.Spec PyProof.Rows L2
/-! ### events as data -/
def dV : V → PyData
  | .str s => .str s
  | .int i => .int i
  | .bl b => .bool b
  | _ => .none
def flatE (ev : List V) : Prop := ∀ v ∈ ev, (∃ s, v = .str s ∧ PyData.strOk s = true) ∨ (∃ i, v = .int i) ∨ v = .non
def evD (evs : List (List V)) : PyData := .list (evs.map fun ev => .tuple (ev.map dV))
theorem dpE (K : PySem.W.Frag) (H : Hp) : ∀ ev : List V, flatE ev → DpAll K H ev (ev.map dV)
  | [], _ => .nil
  | v :: r, h => by
    refine .cons ?_ (dpE K H r fun u hu => h u (List.mem_cons_of_mem _ hu))
    rcases h v List.mem_cons_self with ⟨s, rfl, _⟩ | ⟨i, rfl⟩ | rfl
    · exact .str s
    · exact .int i
    · exact .non
theorem layE : ∀ ev : List V, flatE ev → PyData.canLayAll0 (ev.map dV) = true
  | [], _ => rfl
  | v :: r, h => by
    have ih := layE r fun u hu => h u (List.mem_cons_of_mem _ hu)
    rw [List.map_cons]
    rcases h v List.mem_cons_self with ⟨s, rfl, hs⟩ | ⟨i, rfl⟩ | rfl
    · simp only [dV, PyData.canLayAll0, PyData.canLay0, hs, ih, Bool.and_self]
    · simp only [dV, PyData.canLayAll0, PyData.canLay0, ih, Bool.and_self]
    · simp only [dV, PyData.canLayAll0, PyData.canLay0, ih, Bool.and_self]
theorem deepE : ∀ ev : List V, PyData.depthAll (ev.map dV) ≤ 1
  | [] => by simp [PyData.depthAll]
  | v :: r => by
    have := deepE r
    rw [List.map_cons]
    cases v <;> simp only [dV, PyData.depthAll, PyData.depth] <;> omega
theorem ev_shaped (evs : List (List V)) (h : ∀ ev ∈ evs, flatE ev) : SeqAt.shaped (evD evs) = true := by
  have h1 : PyData.canLayAll0 (evs.map fun ev => PyData.tuple (ev.map dV)) = true ∧ PyData.depthAll (evs.map fun ev => PyData.tuple (ev.map dV)) ≤ 2 := by
    induction evs with
    | nil => exact ⟨rfl, by simp [PyData.depthAll]⟩
    | cons ev r ih =>
      obtain ⟨i1, i2⟩ := ih fun e he => h e (List.mem_cons_of_mem _ he)
      have l1 := layE ev (h ev List.mem_cons_self)
      have d1 := deepE ev
      rw [List.map_cons]
      refine ⟨?_, ?_⟩
      · simp only [PyData.canLayAll0, PyData.canLay0, l1, i1, Bool.and_self]
      · simp only [PyData.depthAll, PyData.depth]
        omega
  unfold SeqAt.shaped evD
  rw [Bool.and_eq_true]
  refine ⟨by simpa only [PyData.canLay0] using h1.1, decide_eq_true ?_⟩
  simp only [PyData.depth]
  omega
theorem ev_dp {K : PySem.W.Frag} {H : Hp} {e : Addr} {evs : List (List V)} (h : EvAt H e evs) (hf : ∀ ev ∈ evs, flatE ev) : Dp K H (.ref e) (evD evs) := by
  obtain ⟨ts, e1, e2, e3⟩ := h
  refine .lst (SqL.of e1) ?_
  clear e1
  induction evs generalizing ts with
  | nil =>
    cases ts with
    | nil => exact .nil
    | cons _ _ => cases e2
  | cons ev r ih =>
    cases ts with
    | nil => cases e2
    | cons t ts =>
      refine .cons (.tup (SqT.of (e3 0 t ev rfl rfl)) (dpE K H ev (hf ev List.mem_cons_self))) ?_
      exact ih (fun x hx => hf x (List.mem_cons_of_mem _ hx)) ts (by simpa using e2) fun i u w a b => e3 (i + 1) u w (by simpa using a) (by simpa using b)
theorem EvAt.same {H H' : Hp} {e : Addr} {evs : List (List V)} (a : EvAt H e evs) (S : Same H H') : EvAt H' e evs := by
  obtain ⟨t, h1, l, f⟩ := a
  exact ⟨t, S _ _ h1, l, fun i u ev a b => S _ _ (f i u ev a b)⟩
theorem EvAt.snoc {H : Hp} {e t : Addr} {evs : List (List V)} {ev : List V} (a : EvAt H e evs) (ht : H t = some (.tup ev)) : ∃ ts : List Addr, H e = some (.lst (ts.map V.ref)) ∧ ts.length = evs.length ∧ EvAt (upd H e (.lst (ts.map V.ref ++ [.ref t]))) e (evs ++ [ev]) := by
  obtain ⟨ts, h1, l, f⟩ := a
  refine ⟨ts, h1, l, ts ++ [t], ?_, ?_, fun i u w x y => ?_⟩
  · rw [upd_same, List.map_append]
    rfl
  · rw [List.length_append, List.length_append, l]
    rfl
  · have tup : ∀ {b : Addr} {xs : List V}, H b = some (.tup xs) → (upd H e (.lst (ts.map V.ref ++ [.ref t]))) b = some (.tup xs) := fun q => (upd_ne (ne_of q h1 (by intro z; cases z))).trans q
    by_cases c : i < ts.length
    · rw [List.getElem?_append_left c] at x
      rw [List.getElem?_append_left (by omega)] at y
      exact tup (f i u w x y)
    · have hi : i < (ts ++ [t]).length := (List.getElem?_eq_some_iff.mp x).1
      rw [List.length_append, List.length_singleton] at hi
      have e : i = ts.length := by omega
      subst e
      rw [List.getElem?_append_right (Nat.le_refl _), Nat.sub_self] at x
      rw [l, List.getElem?_append_right (Nat.le_refl _), Nat.sub_self] at y
      cases x; cases y
      exact tup ht
/-! ### a program beside a pen -/
structure PgP (Cp Cr Cs p : Addr) (H : Hp) (x : Addr) (text : Str) (M : ShM) : Prop where
  ex : ∃ (dx t s : Addr) (q : Pt), H x = some (.ins Cp dx (pgF text t s)) ∧ H t = some (.tup ((M.homes.map (·.1)).map V.str)) ∧ ShAt Cr Cs (fun _ => none) H s q M ∧ q.h ≠ p ∧ q.ar ≠ p
section
variable {Cp Cr Cs p x : Addr} {H H' : Hp} {text : Str} {M : ShM}
theorem PgP.at_ (A : PgP Cp Cr Cs p H x text M) : PgAt Cp Cr Cs H x text M := by
  obtain ⟨dx, t, s, q, e1, e2, e3, _⟩ := A.ex
  exact ⟨dx, t, s, q, _, e1, e2, e3⟩
theorem PgN.pen {H0 : Hp} (A : PgN Cp Cr Cs H0 H x text M) (hp : H0 p ≠ none) : PgP Cp Cr Cs p H x text M := by
  obtain ⟨dx, t, s, q, e1, e2, e3⟩ := A.ex
  exact ⟨dx, t, s, q, e1, e2, e3.back (fun b o z => by cases z), fun z => hp (z ▸ e3.fh), fun z => hp (z ▸ e3.far)⟩
theorem PgP.but {kvs : List (Key × V)} (A : PgP Cp Cr Cs p H x text M) (hp : H p = some (.dK kvs)) (b : But p H H') : PgP Cp Cr Cs p H' x text M := by
  obtain ⟨dx, t, s, q, e1, e2, e3, n1, n2⟩ := A.ex
  obtain ⟨ds, es⟩ := e3.sh
  have g : ∀ {a o}, H a = some o → (∀ k, o ≠ .dK k) → H' a = some o := fun e hk => b _ _ (ne_of e hp (hk _)) e
  refine ⟨dx, t, s, q, g e1 (fun k z => by cases z), g e2 (fun k z => by cases z), ⟨⟨ds, g es (fun k z => by cases z)⟩, g e3.R (fun k z => by cases z), b _ _ n1 e3.h, b _ _ n2 e3.ar, g e3.n (fun k z => by cases z), e3.len, fun i r m h1 h2 => ?_, e3.nd, e3.Rn, e3.har, e3.sr, rfl, rfl, rfl, rfl, fun _ _ => rfl, fun _ _ z => by cases z⟩, n1, n2⟩
  obtain ⟨d9, t9, q1, q2⟩ := e3.rows i r m h1 h2
  exact ⟨d9, t9, g q1 (fun k z => by cases z), g q2 (fun k z => by cases z)⟩
end
/-- a number that is not 0 -/
def spOther : Sp := fun vs H Q _ => ∃ (p a : Addr) (ns : List Int) (t l : Int), vs = [.ref p] ∧ PenAt H p a ns t l ∧ t ≤ 999000 ∧
  ∀ (n t' l' : Int) (H' : Hp), n ≠ 0 → t ≤ t' → t' ≤ t + 2 → But p H H' → PenAt H' p a ns t' l' → Q (.int n) H'
section
variable {P : Program} {w : World} {K : PySem.W.Frag} {mg : Str → Option Value} {base : Heap}
theorem scON : FnScope ["_law_pen"] ["_law_pen"] (defScope sOtherNumber) := ⟨rfl, rfl, rfl, by decide +kernel, rfl, by decide +kernel, by decide +kernel⟩
theorem ok_other {f : Addr} {fd : FuncData} (F : Fun K "_law_other_number" "_law_other_number" sOtherNumber f fd) (D : Def P w K mg base "_law_draw" 1 ["_law_pen", "_law_span"] spDraw) (DP : Def P w K mg base "_law_pick" 2 ["_law_pen", "_law_options"] spPick) : FnOk P w K mg base CX0 3 f fd ["_law_pen"] spOther := by
  obtain ⟨fD, fdD, gD, kD, bD, GD⟩ := D.ex
  obtain ⟨fP, fdP, gP, kP, bP, GP⟩ := DP.ex
  refine F.ok scON (fun vs H Q E h => ?_) (fun cdv A outer s H vs Q E hr h => ?_)
  · obtain ⟨p, a, ns, t, l, rfl, _⟩ := h
    rfl
  obtain ⟨p, a, ns, t, l, rfl, PA0, ht, k⟩ := h
  have hr1 := hr.mono (show 1 ≤ 2 by decide)
  refine ⟨_, pss_one (ps_ret (pe_call GP hr rfl gP kP bP .nil pass0 (pa_cons (pv 0) (pa_cons (pe_lst (pa_cons pe_int (pa_cons pe_int (pa_cons (pe_un un_neg pe_int) (pa_cons pe_int (pa_cons (pe_un un_neg (pe_op op_pow pe_int pe_int))
    (pa_cons (pe_op op_add pe_int (pe_call GD hr1 rfl gD kD bD .nil pass0 (pa_cons (pv 0) (pa_cons (pe_op op_pow pe_int pe_int) pa_nil)))) pa_nil))))))) pa_nil)))), ?_⟩
  refine ⟨_, rfl, _, rfl, _, _, rfl, rfl, ⟨by decide, by decide, by decide⟩, _, rfl, _, rfl, _, _, rfl, rfl, ⟨by decide, by decide, by decide⟩, p, a, ns, t, l, _, rfl, PA0, by omega, by decide, by decide, fun r t1 l1 H1 r0 r1 u1 u2 b1 PA1 => ?_⟩
  refine ⟨_, _, rfl, rfl, by rw [sizeLine_eq]; show 6 ≤ 16777216; decide, fun o ho => ?_⟩
  have nop : o ≠ p := (ne_of_none PA1.p ho).symm
  refine ⟨p, a, o, ns, t1, l1, _, rfl, PA1.new ho, by omega, nop, upd_same, by show 0 < 6; decide, by show 6 ≤ 1000; decide, fun i v t2 l2 H2 hv v1 v2 b2 PA2 => ?_⟩
  have b : But p H H2 := b1.trans ((But.refl p H1).new ho |>.trans b2)
  have fin : ∀ n : Int, n ≠ 0 → Q (.int n) H2 := fun n hn => k n t2 l2 H2 hn (by omega) (by omega) b PA2
  match i, hv with
  | 0, hv => cases hv; exact fin _ (by decide)
  | 1, hv => cases hv; exact fin _ (by decide)
  | 2, hv => cases hv; exact fin _ (by decide)
  | 3, hv => cases hv; exact fin _ (by decide)
  | 4, hv => cases hv; exact fin _ (by decide)
  | 5, hv => cases hv; exact fin _ (by omega)
  | i + 6, hv => cases hv
end
end FP
set_option Elab.async false
set_option linter.all false
set_option maxRecDepth 100000
set_option maxHeartbeats 4000000
set_option exponentiation.threshold 2000
namespace FP
open PySem PySem.Spec PyProof.Rows L2
/-- what a law's loop holds: its choices at C, what is due at D -/
structure LS (p a C D : Addr) (ns : List Int) (Hb H : Hp) (cs : List Int) (evs : List (List V)) (t l : Int) : Prop where
  c : H C = some (.lst (cs.map V.int))
  d : EvAt H D evs
  pen : PenAt H p a ns t l
  but : But p Hb H
  bc : Hb C = none
  bd : Hb D = none
  cd : C ≠ D
section
variable {p a C D : Addr} {ns : List Int} {Hb H H' : Hp} {cs : List Int} {evs : List (List V)} {t l t' l' : Int}
theorem LS.cp (A : LS p a C D ns Hb H cs evs t l) : C ≠ p := ne_of A.c A.pen.p (by intro z; cases z)
theorem LS.dp (A : LS p a C D ns Hb H cs evs t l) : D ≠ p := by
  obtain ⟨ts, e, _⟩ := A.d
  exact ne_of e A.pen.p (by intro z; cases z)
/-- the pen moves -/
theorem LS.move (A : LS p a C D ns Hb H cs evs t l) (b : But p H H') (P' : PenAt H' p a ns t' l') : LS p a C D ns Hb H' cs evs t' l' := by
  obtain ⟨ts, e1, e2, e3⟩ := A.d
  exact ⟨b _ _ A.cp A.c, ⟨ts, b _ _ A.dp e1, e2, fun i u w x y => b _ _ (ne_of (e3 i u w x y) A.pen.p (by intro z; cases z)) (e3 i u w x y)⟩, P', A.but.trans b, A.bc, A.bd, A.cd⟩
theorem LS.new {x : Addr} {o : HO} (A : LS p a C D ns Hb H cs evs t l) (hx : H x = none) : LS p a C D ns Hb (upd H x o) cs evs t l := A.move ((But.refl p H).new hx) (A.pen.new hx)
theorem pen_upd {x : Addr} {o : HO} (P0 : PenAt H p a ns t l) (h1 : x ≠ p) (h2 : x ≠ a) : PenAt (upd H x o) p a ns t l := ⟨(upd_ne h1.symm).trans P0.p, (upd_ne h2.symm).trans P0.a, P0.n, P0.t0, P0.l0⟩
/-- a choice more -/
theorem LS.pushC (A : LS p a C D ns Hb H cs evs t l) (ha : Hb a ≠ none) (n : Int) : LS p a C D ns Hb (upd H C (.lst (cs.map V.int ++ [.int n]))) (cs ++ [n]) evs t l := by
  have nca : C ≠ a := fun z => ha (z ▸ A.bc)
  obtain ⟨ts, e1, e2, e3⟩ := A.d
  refine ⟨by rw [upd_same, List.map_append]; rfl, ⟨ts, (upd_ne A.cd.symm).trans e1, e2, fun i u w x y => (upd_ne (ne_of (e3 i u w x y) A.c (by intro z; cases z))).trans (e3 i u w x y)⟩, pen_upd A.pen A.cp nca, fun b u n e => ?_, A.bc, A.bd, A.cd⟩
  rw [upd_ne (ne_of_none e A.bc)]
  exact A.but b u n e
/-- an event more -/
theorem LS.pushD {q : Addr} {ev : List V} (A : LS p a C D ns Hb H cs evs t l) (ha : Hb a ≠ none) (hq : H q = none) : ∃ ts : List Addr, (upd H q (.tup ev)) D = some (.lst (ts.map V.ref)) ∧ ts.length = evs.length ∧ LS p a C D ns Hb (upd (upd H q (.tup ev)) D (.lst (ts.map V.ref ++ [.ref q]))) cs (evs ++ [ev]) t l := by
  have A1 := A.new (o := .tup ev) hq
  obtain ⟨ts, h1, h2, h3⟩ := A1.d.snoc (t := q) (ev := ev) upd_same
  have nda : D ≠ a := fun z => ha (z ▸ A.bd)
  refine ⟨ts, h1, h2, (upd_ne A.cd).trans A1.c, h3, pen_upd A1.pen A1.dp nda, fun b u n e => ?_, A.bc, A.bd, A.cd⟩
  rw [upd_ne (ne_of_none e A.bd)]
  exact A1.but b u n e
/-- other choices in a new list -/
theorem LS.setC {C' : Addr} {cs' : List Int} (A : LS p a C D ns Hb H cs evs t l) (hc : H C' = none) : LS p a C' D ns Hb (upd H C' (.lst (cs'.map V.int))) cs' evs t l := by
  have A1 := A.new (o := .lst (cs'.map V.int)) hc
  obtain ⟨ts, e1, _⟩ := A.d
  have hb : Hb C' = none := by
    cases e : Hb C' with
    | none => rfl
    | some u =>
      by_cases z : C' = p
      · rw [z, A.pen.p] at hc; cases hc
      · rw [A.but _ _ z e] at hc; cases hc
  exact ⟨upd_same, A1.d, A1.pen, A1.but, hb, A.bd, (ne_of_none e1 hc).symm⟩
end
theorem twelve_len : ∀ c ∈ twelve, c.length ≤ 12 := by decide +kernel
theorem sum1 : ∀ c ∈ twelve, (([("local " ++ c : Str), "loop", "loop", "input " ++ c, "end", "use " ++ c, "end"] : List Str).map (·.length)).sum + ([("local " ++ c : Str), "loop", "loop", "input " ++ c, "end", "use " ++ c, "end"] : List Str).length * ("\n" : Str).length ≤ 16777216 := by decide +kernel
/-- Right: True, the pen moved on -/
def spRight (k : Int) : Sp := fun vs H Q _ => ∃ (p a : Addr) (ns : List Int) (t l : Int) (c : Str), vs = [.ref p, .str c] ∧ PenAt H p a ns t l ∧ t ≤ 900000 ∧ c ∈ twelve ∧ ∀ (t' l' : Int) (H' : Hp), t ≤ t' → t' ≤ t + k → But p H H' → PenAt H' p a ns t' l' → Q (.bl true) H'
theorem flat_R {c : Str} (h : c ∈ twelve) (line : Nat) (o : Option Int) : flatE (evR c line o) := by
  intro v hv
  simp only [evR, List.mem_cons, List.not_mem_nil, or_false] at hv
  rcases hv with rfl | rfl | rfl | rfl
  · exact .inl ⟨_, rfl, by decide +kernel⟩
  · exact .inr (.inl ⟨_, rfl⟩)
  · exact .inl ⟨_, rfl, twelve_ok c h⟩
  · cases o with
    | none => exact .inr (.inr rfl)
    | some i => exact .inr (.inl ⟨i, rfl⟩)
theorem flat_W {c : Str} (h : c ∈ twelve) (line : Nat) (i : Int) : flatE (evW c line i) := by
  intro v hv
  simp only [evW, List.mem_cons, List.not_mem_nil, or_false] at hv
  rcases hv with rfl | rfl | rfl | rfl
  · exact .inl ⟨_, rfl, by decide +kernel⟩
  · exact .inr (.inl ⟨_, rfl⟩)
  · exact .inl ⟨_, rfl, twelve_ok c h⟩
  · exact .inr (.inl ⟨_, rfl⟩)
theorem flat_snoc {evs : List (List V)} {ev : List V} (h : ∀ e ∈ evs, flatE e) (h1 : flatE ev) : ∀ e ∈ evs ++ [ev], flatE e := fun e he => by
  rcases List.mem_append.mp he with z | z
  · exact h e z
  · rw [List.mem_singleton.mp z]; exact h1
/-- the made program's run -/
structure RunDef (P : Program) (w : World) (K : PySem.W.Frag) (mg : Str → Option Value) (base : Heap) (Cp Cr Cs lay : Addr) : Prop where
  ex : ∃ (f : Addr) (fd : FuncData) (ds : List Value), Meth K Cp "run" f ∧ Vals [V.ref lay] ds ∧ Binds K fd pSt ds ∧ FnOk P w K mg base CX0 9 f fd pSt (spRunP K Cp Cr Cs)
  lay : ∀ H, SqT K H lay []
section
variable {P : Program} {w : World} {K : PySem.W.Frag} {mg : Str → Option Value} {base : Heap} {Cp Cr Cs lay : Addr}
abbrev nRR : List Str := ["_law_pen", "_law_cell", "_law_made", "_law_choices", "_law_due", "_law_last", "_law_lap", "_law_inner"]
theorem scRR : FnScope nRR ["_law_pen", "_law_cell"] (defScope sRoundsRight) := ⟨rfl, rfl, rfl, by decide +kernel, rfl, by decide +kernel, by decide +kernel⟩
theorem ok_rounds {f : Addr} {fd : FuncData} (F : Fun K "_law_rounds_right" "_law_rounds_right" sRoundsRight f fd) (hrg : mg "range" = none) (T : PgTxt K mg Cp) (D : Def P w K mg base "_law_draw" 1 ["_law_pen", "_law_span"] spDraw) (DO : Def P w K mg base "_law_other_number" 3 ["_law_pen"] spOther)
    (DP : CDef P w K mg base Cp 6 ["self", "text"] (spProg Cp Cr Cs)) (DR : RunDef P w K mg base Cp Cr Cs lay) : FnOk P w K mg base CX0 10 f fd ["_law_pen", "_law_cell"] (spRight 200) := by
  obtain ⟨fD, fdD, gD, kD, bD, GD⟩ := D.ex
  obtain ⟨fO, fdO, gO, kO, bO, GO⟩ := DO.ex
  obtain ⟨fP, fdP, mP, bP, GP⟩ := DP.ex
  obtain ⟨fR, fdR, ds, mR, vR, bR, GR⟩ := DR.ex
  refine F.ok scRR (fun vs H Q E h => ?_) (fun cdv A outer s H vs Q E hr h => ?_)
  · obtain ⟨p, a, ns, t, l, c, rfl, _⟩ := h
    rfl
  obtain ⟨p, a, ns, t, l, c, rfl, PA0, ht, hc, k⟩ := h
  have hr1 := hr.mono (show 1 ≤ 9 by decide)
  have hr3 := hr.mono (show 3 ≤ 9 by decide)
  have hr7 := hr.mono (show 7 ≤ 9 by decide)
  refine ⟨_, pss_cons (ps_set (i := 2) scRR.nd rfl (.inl rfl) (pe_make mP GP hr7 rfl T.gp bP .nil pass0 (pa_cons (pe_join pe_str (pe_lst (pa_cons (pe_op op_add_str pe_str (pv 1)) (pa_cons pe_str (pa_cons pe_str (pa_cons (pe_op op_add_str pe_str (pv 1)) (pa_cons pe_str (pa_cons (pe_op op_add_str pe_str (pv 1)) (pa_cons pe_str pa_nil))))))))) pa_nil)))
    (pss_cons (ps_par3 (i := 3) (j := 4) (l := 5) (by rfl) scRR.nd rfl rfl rfl (by decide) (by decide) (by decide) rfl rfl rfl (pa_cons (pe_lst pa_nil) (pa_cons (pe_lst pa_nil) (pa_cons pe_non pa_nil))) (by rfl))
    (pss_cons (ps_for PassesOwn.never rfl (pi_range1 (by rfl) hrg (pa_cons (pe_call GD hr1 rfl gD kD bD .nil pass0 (pa_cons (pv 0) (pa_cons pe_int pa_nil))) pa_nil)) (pg_name (i := 6) scRR.nd rfl (Or.inl rfl))
      (pss_cons (ps_expr (pe_bm PySem.F.plainAttrs_list PySem.F.slot_list_append PySem.F.type_list_append mt_append (pv 3) (pa_cons (pe_call GO hr3 rfl gO kO bO .nil pass0 (pa_cons (pv 0) pa_nil)) pa_nil)))
      (pss_cons (ps_for PassesOwn.never rfl (pi_range1 (by rfl) hrg (pa_cons (pe_call GD hr1 rfl gD kD bD .nil pass0 (pa_cons (pv 0) (pa_cons pe_int pa_nil))) pa_nil)) (pg_name (i := 7) scRR.nd rfl (Or.inl rfl))
        (pss_cons (ps_set (i := 5) scRR.nd rfl (.inl rfl) (pe_op op_sub (pe_call GD hr1 rfl gD kD bD .nil pass0 (pa_cons (pv 0) (pa_cons pe_int pa_nil))) pe_int))
        (pss_cons (ps_set (i := 3) scRR.nd rfl (.inl rfl) (pe_op op_cat (pv 3) (pe_lst (pa_cons (pe_call GO hr3 rfl gO kO bO .nil pass0 (pa_cons (pv 0) pa_nil)) (pa_cons (pv 5) pa_nil)))))
        (pss_one (ps_expr (pe_bm PySem.F.plainAttrs_list PySem.F.slot_list_append PySem.F.type_list_append mt_append (pv 4) (pa_cons (pe_tup (pa_cons pe_str (pa_cons pe_int (pa_cons (pv 1) (pa_cons (pv 5) pa_nil))))) pa_nil)))))))
      (pss_cons (ps_expr (pe_bm PySem.F.plainAttrs_list PySem.F.slot_list_append PySem.F.type_list_append mt_append (pv 3) (pa_cons pe_int pa_nil)))
      (pss_one (ps_expr (pe_bm PySem.F.plainAttrs_list PySem.F.slot_list_append PySem.F.type_list_append mt_append (pv 4) (pa_cons (pe_tup (pa_cons pe_str (pa_cons pe_int (pa_cons (pv 1) (pa_cons (pv 5) pa_nil))))) pa_nil))))))))
    (pss_one (ps_ret (pe_and (pe_cmpR (op_eqD hr.units) (pe_meth (pv 2) T.cp mR GR hr bR vR pass0 (pa_cons (pe_op op_cat (pv 3) (pe_lst (pa_cons pe_int pa_nil))) pa_nil)) (pv 4) (nomark _))
      (pe_and (pe_cmpR (op_eqD hr.units) (pe_meth (pv 2) T.cp mR GR hr bR vR pass0 (pa_cons (pv 3) pa_nil)) (pv 4) (nomark _))
      (pe_one (pe_cmpR (op_eqD hr.units) (pe_meth (pv 2) T.cp mR GR hr bR vR pass0 (pa_cons (pe_op op_cat (pv 3) (pe_lst (pa_cons pe_int (pa_cons pe_int (pa_cons pe_int pa_nil))))) pa_nil)) (pv 4) (nomark _))))))))), ?_⟩
  have cl : c.length ≤ 12 := twelve_len c hc
  have sz : ∀ n : Nat, n ≤ 1000 → n ≤ sizeLine := fun n h => by rw [sizeLine_eq]; omega
  refine ⟨⟨_, rfl⟩, _, rfl, _, _, rfl, rfl, sz _ (by show 6 + c.length ≤ 1000; omega), _, rfl, _, _, rfl, rfl, sz _ (by show 6 + c.length ≤ 1000; omega), _, rfl, _, _, rfl, rfl, sz _ (by show 4 + c.length ≤ 1000; omega), sz _ (by show 7 ≤ 1000; decide), fun o ho => ?_⟩
  refine ⟨_, o, ["local " ++ c, "loop", "loop", "input " ++ c, "end", "use " ++ c, "end"], rfl, rfl, .inl (SqL.of upd_same), sum1 c hc, fun x dx nx ndx nexd => ?_⟩
  refine ⟨x, dx, txt1 c, sh1 c, rfl, upd_same, Nat.le_trans (txt1_len c hc) (by decide), read1 c hc, fun H1 PN eo => ⟨rfl, ?_⟩⟩
  -- the heap behind the program's making
  have hpo : (upd H o (.lst [.str ("local " ++ c), .str "loop", .str "loop", .str ("input " ++ c), .str "end", .str ("use " ++ c), .str "end"])) p = some (.dK (penD a t l)) := (upd_ne (ne_of_none PA0.p ho)).trans PA0.p
  have SH1 : Same H H1 := fun b u e => by
    have e1 := (upd_ne (o := .lst [.str ("local " ++ c), .str "loop", .str "loop", .str ("input " ++ c), .str "end", .str ("use " ++ c), .str "end"]) (ne_of_none e ho)).trans e
    exact eo b u ((upd_ne (ne_of_none e1 nx)).trans ((upd_ne (ne_of_none e1 ndx)).trans e1)) (ne_of_none e1 nx)
  have P1 : PenAt H1 p a ns t l := ⟨SH1 _ _ PA0.p, SH1 _ _ PA0.a, PA0.n, PA0.t0, PA0.l0⟩
  have hpx : p ≠ x := ne_of_none hpo nx
  have PG1 : PgP Cp Cr Cs p H1 x (txt1 c) (sh1 c) := PN.pen (by
    show (if p = x then none else _) ≠ none
    rw [if_neg hpx, upd_ne hpx, upd_ne (ne_of_none hpo ndx), hpo]
    exact Option.some_ne_none _)
  have ha1 : H1 a ≠ none := by rw [P1.a]; exact Option.some_ne_none _
  have B1 : But p H H1 := fun b u _ e => SH1 b u e
  refine ⟨Nat.zero_le _, fun C hC => ⟨Nat.zero_le _, fun D hD => ⟨_, _, _, rfl, ?_⟩⟩⟩
  have nDC : D ≠ C := fun z => by rw [z, upd_same] at hD; cases hD
  have L0 : LS p a C D ns H1 (upd (upd H1 C (.lst [])) D (.lst [])) [] [] t l :=
    ⟨(upd_ne nDC.symm).trans upd_same, EvAt.nil upd_same, (P1.new hC).new hD, ((But.refl p H1).new hC).new hD, hC, by rwa [upd_ne nDC] at hD, nDC.symm⟩
  generalize upd (upd H1 C (.lst [])) D (.lst []) = H2 at L0
  refine ⟨_, rfl, p, a, ns, t, l, 6, rfl, L0.pen, by omega, by decide, by decide, fun n t1 l1 H3 n0 n1 u1 u2 b3 P3 => ⟨n, rfl, by omega, by omega, ?_⟩⟩
  refine for_it (walk_range (lo := 0) (n := n.toNat)) (fun i σ H' => ∃ C D cs evs last t' l', (∃ z6 z7, σ = [some (.ref p), some (.str c), some (.ref x), some (.ref C), some (.ref D), some (wo last), z6, z7]) ∧ LS p a C D ns H1 H' cs evs t' l' ∧ t ≤ t' ∧ t' ≤ t + 1 + 20 * i ∧ cs.length ≤ 20 * i ∧ evs.length ≤ 10 * i ∧
      (∀ ev ∈ evs, flatE ev) ∧ ∀ tail, Reach (rows1 c) (stt c 2 none) (cs ++ tail) evs (stt c 2 last) tail)
    ⟨C, D, [], [], none, t1, l1, ⟨none, none, rfl⟩, L0.move b3 P3, by omega, by omega, by simp, by simp, (fun ev h => by cases h), fun tail => Reach.refl⟩ (fun _ _ _ _ _ => trivial) ?_ ?_
  · rintro i v σ H' H'' hi ⟨C, D, cs, evs, last, t', l', ⟨z6, z7, rfl⟩, A, w1, w2, w3, w4, hfl, hR⟩ ⟨rfl, rfl⟩
    have hi6 : i < 6 := by omega
    refine ⟨_, rfl, .inl ⟨rfl, _, SqL.of A.c⟩, _, rfl, p, a, ns, t', l', rfl, A.pen, by omega, fun y t2 l2 H4 hy x1 x2 b4 P4 => ?_⟩
    have A2 := A.move b4 P4
    refine ⟨C, _, _, rfl, rfl, A2.c, by rw [List.length_map, sizeLine_eq]; omega, ?_⟩
    have A3 := A2.pushC ha1 y
    generalize upd H4 C (.lst (cs.map V.int ++ [.int y])) = H5 at A3
    refine ⟨_, rfl, p, a, ns, t2, l2, 5, rfl, A3.pen, by omega, by decide, by decide, fun k5 t3 l3 H6 k0 k1 x3 x4 b6 P6 => ⟨k5, rfl, by omega, by omega, ?_⟩⟩
    have A4 := A3.move b6 P6
    refine for_it (walk_range (lo := 0) (n := k5.toNat)) (fun j σ H' => ∃ C D cs2 evs2 last t' l', (∃ z6 z7, σ = [some (.ref p), some (.str c), some (.ref x), some (.ref C), some (.ref D), some (wo last), z6, z7]) ∧ LS p a C D ns H1 H' cs2 evs2 t' l' ∧ t ≤ t' ∧ t' ≤ t + 1 + 20 * i + 3 + 3 * j ∧ cs2.length ≤ 20 * i + 1 + 2 * j ∧ evs2.length ≤ 10 * i + j ∧
        (∀ ev ∈ evs2, flatE ev) ∧ ∀ tail, Reach (rows1 c) (stt c 2 none) (cs2 ++ tail) evs2 (stt c 3 last) tail)
      ⟨C, D, cs ++ [y], evs, last, t3, l3, ⟨_, _, rfl⟩, A4, by omega, by omega, by rw [List.length_append, List.length_singleton]; omega, by omega, hfl, fun tail => ?_⟩ (fun _ _ _ _ _ => trivial) ?_ ?_
    · have r1 := hR (y :: tail)
      have r2 := r_loop (rows := rows1 c) (c := c) (line := 2) (a := 3) (b := 0) (o := last) (t := tail) (x := y) (by decide) rfl
      rw [if_neg hy] at r2
      have r3 := r1.trans r2
      rw [List.append_nil] at r3
      rw [List.append_assoc]
      exact r3
    · rintro j v σ H' H'' hj ⟨C, D, cs2, evs2, last2, t', l', ⟨z6, z7, rfl⟩, A, y1, y2, y3, y4, hfl2, hR2⟩ ⟨rfl, rfl⟩
      have hj5 : j < 5 := by omega
      refine ⟨_, rfl, p, a, ns, t', l', 1000, rfl, A.pen, by omega, by decide, by decide, fun v t4 l4 H7 v0 v1 x5 x6 b7 P7 => ⟨_, _, rfl, rfl, ?_⟩⟩
      have A5 := A.move b7 P7
      refine ⟨_, rfl, _, rfl, p, a, ns, t4, l4, rfl, A5.pen, by omega, fun y2 t5 l5 H8 hy2 x7 x8 b8 P8 => ⟨_, rfl, sz _ (by show 2 ≤ 1000; decide), fun q hq => ?_⟩⟩
      have A6 := A5.move b8 P8
      have A7 := A6.new (o := .lst [.int y2, .int (v - 500)]) hq
      have nCq : C ≠ q := ne_of_none A6.c hq
      refine ⟨C, q, _, _, rfl, rfl, A7.c, upd_same, by rw [List.length_map, sizeLine_eq]; show cs2.length + 2 ≤ 16777216; omega, fun C' hC' => ?_⟩
      have A8 := A7.setC (cs' := cs2 ++ [y2, v - 500]) hC'
      rw [show (cs2 ++ [y2, v - 500]).map V.int = cs2.map V.int ++ [.int y2, .int (v - 500)] by rw [List.map_append]; rfl] at A8
      generalize upd (upd H8 q (.lst [.int y2, .int (v - 500)])) C' (.lst (cs2.map V.int ++ [.int y2, .int (v - 500)])) = H9 at A8
      obtain ⟨ts0, ed0, _⟩ := id A8.d
      refine ⟨_, rfl, .inl ⟨rfl, _, SqL.of ed0⟩, _, rfl, _, rfl, sz _ (by show 4 ≤ 1000; decide), fun e he => ?_⟩
      obtain ⟨ts, ed, elen, A9⟩ := A8.pushD (ev := evW c 4 (v - 500)) ha1 he
      refine ⟨D, _, _, rfl, rfl, ed, by rw [List.length_map, elen, sizeLine_eq]; omega, ?_⟩
      refine ⟨C', D, cs2 ++ [y2, v - 500], evs2 ++ [evW c 4 (v - 500)], some (v - 500), t5, l5, ⟨_, _, rfl⟩, A9, by omega, by omega, by rw [List.length_append]; show cs2.length + 2 ≤ _; omega, by rw [List.length_append, List.length_singleton]; omega, flat_snoc hfl2 (flat_W hc 4 _), fun tail => ?_⟩
      have q1 := hR2 (y2 :: (v - 500) :: tail)
      have q2 := r_loop (rows := rows1 c) (c := c) (line := 3) (a := 4) (b := 6) (o := last2) (t := (v - 500) :: tail) (x := y2) (by decide) rfl
      rw [if_neg hy2] at q2
      have q3 := r_input (rows := rows1 c) (c := c) (line := 4) (a := 3) (b := 0) (o := last2) (t := tail) (x := v - 500) (by decide) rfl
      have q4 := q1.trans (q2.trans q3)
      rw [List.append_assoc]
      exact q4
    · rintro σ H' ⟨C, D, cs2, evs2, last2, t', l', ⟨z6, z7, rfl⟩, A, y1, y2, y3, y4, hfl2, hR2⟩
      have hk5 : k5.toNat ≤ 4 := by omega
      refine ⟨_, rfl, .inl ⟨rfl, _, SqL.of A.c⟩, C, _, _, rfl, rfl, A.c, by rw [List.length_map, sizeLine_eq]; omega, ?_⟩
      have A3 := A.pushC ha1 0
      generalize upd H' C (.lst (cs2.map V.int ++ [.int 0])) = H5 at A3
      obtain ⟨ts0, ed0, _⟩ := id A3.d
      refine ⟨_, rfl, .inl ⟨rfl, _, SqL.of ed0⟩, _, rfl, _, rfl, sz _ (by show 4 ≤ 1000; decide), fun e he => ?_⟩
      obtain ⟨ts, ed, elen, A9⟩ := A3.pushD (ev := evR c 6 last2) ha1 he
      refine ⟨D, _, _, rfl, rfl, ed, by rw [List.length_map, elen, sizeLine_eq]; omega, ?_⟩
      refine ⟨C, D, cs2 ++ [0], evs2 ++ [evR c 6 last2], last2, t', l', ⟨_, _, rfl⟩, A9, by omega, by omega, by rw [List.length_append, List.length_singleton]; omega, by rw [List.length_append, List.length_singleton]; omega, flat_snoc hfl2 (flat_R hc 6 _), fun tail => ?_⟩
      have q1 := hR2 (0 :: tail)
      have q2 := r_loop (rows := rows1 c) (c := c) (line := 3) (a := 4) (b := 6) (o := last2) (t := tail) (x := 0) (by decide) rfl
      rw [if_pos rfl] at q2
      have q3 := r_use (rows := rows1 c) (c := c) (line := 6) (a := 2) (b := 0) (o := last2) (t := tail) (by decide) rfl
      have q4 := q1.trans (q2.trans q3)
      rw [List.append_assoc]
      exact q4
  · rintro σ H' ⟨C, D, cs, evs, last, t', l', ⟨z6, z7, rfl⟩, A, w1, w2, w3, w4, hfl, hR⟩
    have hn5 : n.toNat ≤ 5 := by omega
    have sh := ev_shaped evs hfl
    have hself : PyData.eqv (evD evs) (evD evs) = true := SeqAt.eqv_refl _ (SeqAt.canLay_of_shaped sh)
    have hrun : ∀ (ys : List Int), (∃ f, goM (rows1 c) f (stt c 2 none) ys = some evs) → ∃ f, FP.runM (sh1 c) f ys = some evs := fun ys ⟨f, hf⟩ => ⟨f, hf⟩
    have hz : ∀ tail : List Int, tail.length ≤ 100 → (∃ f, goM (rows1 c) f (stt c 2 none) (cs ++ 0 :: tail) = some evs) := fun tail htl => by
      have q2 := r_loop (rows := rows1 c) (c := c) (line := 2) (a := 3) (b := 0) (o := last) (t := tail) (x := 0) (by decide) rfl
      rw [if_pos rfl] at q2
      have q3 := (hR (0 :: tail)).trans q2
      rw [List.append_nil] at q3
      exact q3.run (by rw [List.length_append, List.length_cons]; omega) rfl
    have hstop : ∃ f, goM (rows1 c) f (stt c 2 none) cs = some evs := by
      have q3 := (hR []).trans (r_stop (rows := rows1 c) (c := c) (line := 2) (a := 3) (b := 0) (o := last) (by decide) rfl)
      rw [List.append_nil, List.append_nil] at q3
      exact q3.run (by omega) rfl
    obtain ⟨f1, g1⟩ := hrun _ (hz [] (by decide))
    obtain ⟨f2, g2⟩ := hrun _ hstop
    obtain ⟨f3, g3⟩ := hrun _ (hz [0, 5] (by decide))
    have PGx : PgP Cp Cr Cs p H' x (txt1 c) (sh1 c) := PG1.but P1.p A.but
    have hnd : ((sh1 c).homes.map (·.1)).Nodup := by show ([c] : List Str).Nodup; simp
    have hbut : But p H H' := B1.trans A.but
    obtain ⟨dxx, tt, ss, qq, ex, etx, _⟩ := PGx.ex
    -- choices + [0]
    refine ⟨_, rfl, x, dxx, _, rfl, ex, rfl, _, rfl, sz _ (by show 1 ≤ 1000; decide), fun q1 h1 => ⟨C, q1, _, _, rfl, rfl, (upd_ne (ne_of_none A.c h1)).trans A.c, upd_same, by rw [List.length_map, sizeLine_eq]; show cs.length + 1 ≤ 16777216; omega, fun q2 h2 => ?_⟩⟩
    have S1 : Same H' (upd H' q1 (.lst [.int 0])) := Same.new (Same.refl H') h1
    have S2 : Same H' (upd (upd H' q1 (.lst [.int 0])) q2 (.lst (cs.map V.int ++ [.int 0]))) := Same.new S1 h2
    refine ⟨x, q2, lay, txt1 c, sh1 c, cs ++ [0], f1, evs, rfl, PGx.at_.grow S2, SqL.of (by rw [upd_same, List.map_append]; rfl), DR.lay, by rw [List.length_append, List.length_singleton]; omega, hnd, by show 1 ≤ 5; decide, g1, by omega, fun e1 H5 he1 S5 hev1 => ?_⟩
    have S3 := S2.trans S5
    refine ⟨_, rfl, evD evs, evD evs, ev_dp hev1 hfl, ev_dp (A.d.same S3) hfl, sh, sh, _, rfl, ?_⟩
    rw [hself]
    -- choices
    refine iteT ⟨_, rfl, x, dxx, _, rfl, S3 _ _ ex, rfl, _, rfl, x, C, lay, txt1 c, sh1 c, cs, f2, evs, rfl, PGx.at_.grow S3, SqL.of (S3 _ _ A.c), DR.lay, by omega, hnd, by show 1 ≤ 5; decide, g2, by omega, fun e2 H6 he2 S6 hev2 => ?_⟩
    have S4 := S3.trans S6
    refine ⟨_, rfl, evD evs, evD evs, ev_dp hev2 hfl, ev_dp (A.d.same S4) hfl, sh, sh, _, rfl, ?_⟩
    rw [hself]
    -- choices + [0, 0, 5]
    refine iteT ⟨_, rfl, x, dxx, _, rfl, S4 _ _ ex, rfl, _, rfl, sz _ (by show 3 ≤ 1000; decide), fun q3 h3 => ⟨C, q3, _, _, rfl, rfl, (upd_ne (ne_of_none (S4 _ _ A.c) h3)).trans (S4 _ _ A.c), upd_same, by rw [List.length_map, sizeLine_eq]; show cs.length + 3 ≤ 16777216; omega, fun q4 h4 => ?_⟩⟩
    have S7 : Same H' (upd H6 q3 (.lst [.int 0, .int 0, .int 5])) := Same.new S4 h3
    have S8 : Same H' (upd (upd H6 q3 (.lst [.int 0, .int 0, .int 5])) q4 (.lst (cs.map V.int ++ [.int 0, .int 0, .int 5]))) := Same.new S7 h4
    refine ⟨x, q4, lay, txt1 c, sh1 c, cs ++ [0, 0, 5], f3, evs, rfl, PGx.at_.grow S8, SqL.of (by rw [upd_same, List.map_append]; rfl), DR.lay, by rw [List.length_append]; show cs.length + 3 ≤ _; omega, hnd, by show 1 ≤ 5; decide, g3, by omega, fun e3 H7 he3 S9 hev3 => ?_⟩
    have S10 := S8.trans S9
    refine ⟨_, rfl, evD evs, evD evs, ev_dp hev3 hfl, ev_dp (A.d.same S10) hfl, sh, sh, ?_⟩
    rw [hself]
    exact k t' l' H7 w1 (by omega) (hbut.trans fun b u _ e => S10 b u e) ⟨S10 _ _ A.pen.p, S10 _ _ A.pen.a, A.pen.n, A.pen.t0, A.pen.l0⟩
end
end FP
set_option Elab.async false
set_option linter.all false
set_option maxRecDepth 100000
set_option maxHeartbeats 4000000
set_option exponentiation.threshold 2000
namespace FP
open PySem PySem.Spec PyProof.Rows L2
theorem refs_inj : ∀ a b : List Addr, a.map V.ref = b.map V.ref → a = b
  | [], [], _ => rfl
  | [], _ :: _, h => by cases h
  | _ :: _, [], h => by cases h
  | x :: a, y :: b, h => by
    rw [List.map_cons, List.map_cons] at h
    have h1 := V.ref.inj (List.cons.inj h).1
    rw [h1, refs_inj a b (List.cons.inj h).2]
/-- what is due, in a new list -/
theorem LS.setD {p a C D D' q : Addr} {ns : List Int} {Hb H : Hp} {cs : List Int} {evs : List (List V)} {t l : Int} (A : LS p a C D ns Hb H cs evs t l) (b : Bool) (ev : List V) {ts : List Addr} (hD : H D = some (.lst (ts.map V.ref))) (hq : H q = some (.tup ev)) (hd : H D' = none) :
    LS p a C D' ns Hb (upd H D' (.lst (ts.map V.ref ++ (if b = true then [.ref q] else [])))) cs (evs ++ if b = true then [ev] else []) t l := by
  have A1 := A.new (o := .lst (ts.map V.ref ++ (if b = true then [.ref q] else []))) hd
  have hb : Hb D' = none := by
    cases e : Hb D' with
    | none => rfl
    | some u =>
      by_cases z : D' = p
      · rw [z, A.pen.p] at hd; cases hd
      · rw [A.but _ _ z e] at hd; cases hd
  refine ⟨A1.c, ?_, A1.pen, A1.but, A.bc, hb, ne_of_none A.c hd⟩
  obtain ⟨ts0, e1, e2, e3⟩ := A.d
  rw [e1] at hD
  have ets : ts0 = ts := by
    have h0 := HO.lst.inj (Option.some.inj hD)
    exact refs_inj _ _ h0
  subst ets
  have S : Same H (upd H D' (.lst (ts0.map V.ref ++ (if b = true then [.ref q] else [])))) := Same.new (Same.refl H) hd
  cases b with
  | true =>
    refine ⟨ts0 ++ [q], by rw [upd_same, List.map_append]; rfl, by rw [List.length_append]; show _ = (evs ++ [ev]).length; rw [List.length_append, e2]; rfl, fun i u w x y => ?_⟩
    replace y : (evs ++ [ev])[i]? = some w := y
    by_cases c : i < ts0.length
    · rw [List.getElem?_append_left c] at x
      rw [List.getElem?_append_left (by omega)] at y
      exact S _ _ (e3 i u w x y)
    · have hi : i < (ts0 ++ [q]).length := (List.getElem?_eq_some_iff.mp x).1
      rw [List.length_append, List.length_singleton] at hi
      have e : i = ts0.length := by omega
      subst e
      rw [List.getElem?_append_right (Nat.le_refl _), Nat.sub_self] at x
      rw [e2, List.getElem?_append_right (Nat.le_refl _), Nat.sub_self] at y
      cases x; cases y
      exact S _ _ hq
  | false =>
    refine ⟨ts0, by rw [upd_same]; show some (HO.lst (ts0.map V.ref ++ [])) = _; rw [List.append_nil], by rw [e2]; show _ = (evs ++ []).length; rw [List.append_nil], fun i u w x y => ?_⟩
    replace y : (evs ++ [])[i]? = some w := y
    rw [List.append_nil] at y
    exact S _ _ (e3 i u w x y)
theorem sum2 : ∀ c ∈ twelve, (([("local " ++ c : Str), "loop", "maybe", "use " ++ c, "else", "input " ++ c, "end", "maybe", "use " ++ c, "end", "maybe", "else", "end", "end"] : List Str).map (·.length)).sum + ([("local " ++ c : Str), "loop", "maybe", "use " ++ c, "else", "input " ++ c, "end", "maybe", "use " ++ c, "end", "maybe", "else", "end", "end"] : List Str).length * ("\n" : Str).length ≤ 16777216 := by decide +kernel
section
variable {P : Program} {w : World} {K : PySem.W.Frag} {mg : Str → Option Value} {base : Heap} {Cp Cr Cs lay : Addr}
abbrev nSR : List Str := ["_law_pen", "_law_cell", "_law_lines", "_law_made", "_law_choices", "_law_due", "_law_last", "_law_lap", "_law_is_read"]
theorem scSR : FnScope nSR ["_law_pen", "_law_cell"] (defScope sSidesRight) := ⟨rfl, rfl, rfl, by decide +kernel, rfl, by decide +kernel, by decide +kernel⟩
theorem ok_sides {f : Addr} {fd : FuncData} (F : Fun K "_law_sides_right" "_law_sides_right" sSidesRight f fd) (hrg : mg "range" = none) (hint : mg "int" = none) (T : PgTxt K mg Cp) (D : Def P w K mg base "_law_draw" 1 ["_law_pen", "_law_span"] spDraw) (DO : Def P w K mg base "_law_other_number" 3 ["_law_pen"] spOther)
    (DP : CDef P w K mg base Cp 6 ["self", "text"] (spProg Cp Cr Cs)) (DR : RunDef P w K mg base Cp Cr Cs lay) : FnOk P w K mg base CX0 10 f fd ["_law_pen", "_law_cell"] (spRight 200) := by
  obtain ⟨fD, fdD, gD, kD, bD, GD⟩ := D.ex
  obtain ⟨fO, fdO, gO, kO, bO, GO⟩ := DO.ex
  obtain ⟨fP, fdP, mP, bP, GP⟩ := DP.ex
  obtain ⟨fR, fdR, ds, mR, vR, bR, GR⟩ := DR.ex
  refine F.ok scSR (fun vs H Q E h => ?_) (fun cdv A outer s H vs Q E hr h => ?_)
  · obtain ⟨p, a, ns, t, l, c, rfl, _⟩ := h
    rfl
  obtain ⟨p, a, ns, t, l, c, rfl, PA0, ht, hc, k⟩ := h
  have hr1 := hr.mono (show 1 ≤ 9 by decide)
  have hr3 := hr.mono (show 3 ≤ 9 by decide)
  have hr7 := hr.mono (show 7 ≤ 9 by decide)
  refine ⟨_, pss_cons (ps_set (i := 2) scSR.nd rfl (.inl rfl) (pe_lst (pa_cons (pe_op op_add_str pe_str (pv 1)) (pa_cons pe_str (pa_cons pe_str (pa_cons (pe_op op_add_str pe_str (pv 1)) (pa_cons pe_str (pa_cons (pe_op op_add_str pe_str (pv 1)) (pa_cons pe_str pa_nil)))))))))
    (pss_cons (ps_set (i := 2) scSR.nd rfl (.inl rfl) (pe_op op_cat (pv 2) (pe_lst (pa_cons pe_str (pa_cons (pe_op op_add_str pe_str (pv 1)) (pa_cons pe_str (pa_cons pe_str (pa_cons pe_str (pa_cons pe_str (pa_cons pe_str pa_nil))))))))))
    (pss_cons (ps_asg (pe_tup (pa_cons (pe_make mP GP hr7 rfl T.gp bP .nil pass0 (pa_cons (pe_join pe_str (pv 2)) pa_nil)) (pa_cons (pe_lst pa_nil) (pa_cons (pe_lst pa_nil) (pa_cons pe_non pa_nil)))))
      (pg_tup (by rfl) (pgs_cons (pg_name (i := 3) scSR.nd rfl (Or.inl rfl)) (pgs_cons (pg_name (i := 4) scSR.nd rfl (Or.inl rfl)) (pgs_cons (pg_name (i := 5) scSR.nd rfl (Or.inl rfl)) (pgs_cons (pg_name (i := 6) scSR.nd rfl (Or.inl rfl)) pgs_nil))))))
    (pss_cons (ps_for PassesOwn.never rfl (pi_range1 (by rfl) hrg (pa_cons (pe_call GD hr1 rfl gD kD bD .nil pass0 (pa_cons (pv 0) (pa_cons pe_int pa_nil))) pa_nil)) (pg_name (i := 7) scSR.nd rfl (Or.inl rfl))
      (pss_cons (ps_expr (pe_bm PySem.F.plainAttrs_list PySem.F.slot_list_append PySem.F.type_list_append mt_append (pv 4) (pa_cons (pe_call GO hr3 rfl gO kO bO .nil pass0 (pa_cons (pv 0) pa_nil)) pa_nil)))
      (pss_cons (ps_if (pt_cmpR op_eq (pe_call GD hr1 rfl gD kD bD .nil pass0 (pa_cons (pv 0) (pa_cons pe_int pa_nil))) pe_int (nomark _))
        (pss_cons (ps_expr (pe_bm PySem.F.plainAttrs_list PySem.F.slot_list_append PySem.F.type_list_append mt_append (pv 4) (pa_cons pe_int pa_nil)))
        (pss_one (ps_expr (pe_bm PySem.F.plainAttrs_list PySem.F.slot_list_append PySem.F.type_list_append mt_append (pv 5) (pa_cons (pe_tup (pa_cons pe_str (pa_cons pe_int (pa_cons (pv 1) (pa_cons (pv 6) pa_nil))))) pa_nil)))))
        (pss_cons (ps_set (i := 6) scSR.nd rfl (.inl rfl) (pe_call GO hr3 rfl gO kO bO .nil pass0 (pa_cons (pv 0) pa_nil)))
        (pss_cons (ps_set (i := 4) scSR.nd rfl (.inl rfl) (pe_op op_cat (pv 4) (pe_lst (pa_cons (pe_call GO hr3 rfl gO kO bO .nil pass0 (pa_cons (pv 0) pa_nil)) (pa_cons (pv 6) pa_nil)))))
        (pss_one (ps_expr (pe_bm PySem.F.plainAttrs_list PySem.F.slot_list_append PySem.F.type_list_append mt_append (pv 5) (pa_cons (pe_tup (pa_cons pe_str (pa_cons pe_int (pa_cons (pv 1) (pa_cons (pv 6) pa_nil))))) pa_nil)))))))
      (pss_cons (ps_set (i := 8) scSR.nd rfl (.inl rfl) (pe_cmpR op_eq (pe_call GD hr1 rfl gD kD bD .nil pass0 (pa_cons (pv 0) (pa_cons pe_int pa_nil))) pe_int (nomark _)))
      (pss_cons (ps_set (i := 4) scSR.nd rfl (.inl rfl) (pe_op op_cat (pv 4) (pe_lst (pa_cons (pe_ifExp (pt_val (pv 8)) pe_int (pe_call GO hr3 rfl gO kO bO .nil pass0 (pa_cons (pv 0) pa_nil))) (pa_cons (pe_call GO hr3 rfl gO kO bO .nil pass0 (pa_cons (pv 0) pa_nil)) pa_nil)))))
      (pss_one (ps_set (i := 5) scSR.nd rfl (.inl rfl) (pe_op op_cat (pv 5) (pe_op op_rep (pe_lst (pa_cons (pe_tup (pa_cons pe_str (pa_cons pe_int (pa_cons (pv 1) (pa_cons (pv 6) pa_nil))))) pa_nil)) (pe_callTy call_int1 (by rfl) hint (by decide +kernel) (pa_cons (pv 8) pa_nil)))))))))))
    (pss_one (ps_ret (pe_and (pe_cmpR (op_eqD hr.units) (pe_meth (pv 3) T.cp mR GR hr bR vR pass0 (pa_cons (pe_op op_cat (pv 4) (pe_lst (pa_cons pe_int pa_nil))) pa_nil)) (pv 5) (nomark _))
      (pe_one (pe_cmpR (op_eqD hr.units) (pe_meth (pv 3) T.cp mR GR hr bR vR pass0 (pa_cons (pv 4) pa_nil)) (pv 5) (nomark _))))))))), ?_⟩
  have cl : c.length ≤ 12 := twelve_len c hc
  have sz : ∀ n : Nat, n ≤ 1000 → n ≤ sizeLine := fun n h => by rw [sizeLine_eq]; omega
  refine ⟨_, rfl, _, _, rfl, rfl, sz _ (by show 6 + c.length ≤ 1000; omega), _, rfl, _, _, rfl, rfl, sz _ (by show 4 + c.length ≤ 1000; omega), _, rfl, _, _, rfl, rfl, sz _ (by show 6 + c.length ≤ 1000; omega), sz _ (by show 7 ≤ 1000; decide), fun o1 ho1 => ?_⟩
  refine ⟨_, rfl, _, rfl, _, _, rfl, rfl, sz _ (by show 4 + c.length ≤ 1000; omega), sz _ (by show 7 ≤ 1000; decide), fun o2 ho2 => ?_⟩
  have n12 : o1 ≠ o2 := fun z => by rw [← z, upd_same] at ho2; cases ho2
  refine ⟨o1, o2, _, _, rfl, rfl, (upd_ne n12).trans upd_same, upd_same, sz _ (by show 14 ≤ 1000; decide), fun o ho => ?_⟩
  have SA : Same H (upd (upd (upd H o1 (.lst [.str ("local " ++ c), .str "loop", .str "maybe", .str ("use " ++ c), .str "else", .str ("input " ++ c), .str "end"])) o2 (.lst [.str "maybe", .str ("use " ++ c), .str "end", .str "maybe", .str "else", .str "end", .str "end"])) o (.lst ([.str ("local " ++ c), .str "loop", .str "maybe", .str ("use " ++ c), .str "else", .str ("input " ++ c), .str "end"] ++ [.str "maybe", .str ("use " ++ c), .str "end", .str "maybe", .str "else", .str "end", .str "end"]))) := Same.new (Same.new (Same.new (Same.refl H) ho1) ho2) ho
  have eo2 : (upd (upd (upd H o1 (.lst [.str ("local " ++ c), .str "loop", .str "maybe", .str ("use " ++ c), .str "else", .str ("input " ++ c), .str "end"])) o2 (.lst [.str "maybe", .str ("use " ++ c), .str "end", .str "maybe", .str "else", .str "end", .str "end"])) o (.lst ([.str ("local " ++ c), .str "loop", .str "maybe", .str ("use " ++ c), .str "else", .str ("input " ++ c), .str "end"] ++ [.str "maybe", .str ("use " ++ c), .str "end", .str "maybe", .str "else", .str "end", .str "end"]))) o = some (.lst (([("local " ++ c : Str), "loop", "maybe", "use " ++ c, "else", "input " ++ c, "end", "maybe", "use " ++ c, "end", "maybe", "else", "end", "end"] : List Str).map V.str)) := upd_same
  generalize upd (upd (upd H o1 (.lst [.str ("local " ++ c), .str "loop", .str "maybe", .str ("use " ++ c), .str "else", .str ("input " ++ c), .str "end"])) o2 (.lst [.str "maybe", .str ("use " ++ c), .str "end", .str "maybe", .str "else", .str "end", .str "end"])) o (.lst ([.str ("local " ++ c), .str "loop", .str "maybe", .str ("use " ++ c), .str "else", .str ("input " ++ c), .str "end"] ++ [.str "maybe", .str ("use " ++ c), .str "end", .str "maybe", .str "else", .str "end", .str "end"])) = HA at SA eo2
  refine ⟨⟨_, rfl⟩, _, rfl, _, o, _, rfl, rfl, .inl (SqL.of eo2), sum2 c hc, fun x dx nx ndx nexd => ?_⟩
  refine ⟨x, dx, txt2 c, sh2 c, rfl, upd_same, Nat.le_trans (txt2_len c hc) (by decide), read2 c hc, fun H1 PN eo => ⟨rfl, ?_⟩⟩
  have hpo := SA _ _ PA0.p
  have SH1 : Same H H1 := fun b u e => by
    have e1 := SA _ _ e
    exact eo b u ((upd_ne (ne_of_none e1 nx)).trans ((upd_ne (ne_of_none e1 ndx)).trans e1)) (ne_of_none e1 nx)
  have P1 : PenAt H1 p a ns t l := ⟨SH1 _ _ PA0.p, SH1 _ _ PA0.a, PA0.n, PA0.t0, PA0.l0⟩
  have hpx : p ≠ x := ne_of_none hpo nx
  have PG1 : PgP Cp Cr Cs p H1 x (txt2 c) (sh2 c) := PN.pen (by
    show (if p = x then none else _) ≠ none
    rw [if_neg hpx, upd_ne hpx, upd_ne (ne_of_none hpo ndx), hpo]
    exact Option.some_ne_none _)
  have ha1 : H1 a ≠ none := by rw [P1.a]; exact Option.some_ne_none _
  have B1 : But p H H1 := fun b u _ e => SH1 b u e
  refine ⟨Nat.zero_le _, fun C hC => ⟨Nat.zero_le _, fun D hD => ⟨by show 4 ≤ sizeLine; decide, fun T4 hT4 => ?_⟩⟩⟩
  have nDC : D ≠ C := fun z => by rw [z, upd_same] at hD; cases hD
  have L0' : LS p a C D ns H1 (upd (upd H1 C (.lst [])) D (.lst [])) [] [] t l :=
    ⟨(upd_ne nDC.symm).trans upd_same, EvAt.nil upd_same, (P1.new hC).new hD, ((But.refl p H1).new hC).new hD, hC, by rwa [upd_ne nDC] at hD, nDC.symm⟩
  have L0 := L0'.new (o := .tup [.ref x, .ref C, .ref D, .non]) hT4
  refine ⟨T4, _, rfl, SqT.of upd_same, rfl, _, _, rfl, _, _, rfl, _, _, rfl, _, _, rfl, rfl, ?_⟩
  generalize upd (upd (upd H1 C (.lst [])) D (.lst [])) T4 (.tup [.ref x, .ref C, .ref D, .non]) = H2 at L0
  refine ⟨_, rfl, p, a, ns, t, l, 9, rfl, L0.pen, by omega, by decide, by decide, fun n t1 l1 H3 n0 n1 u1 u2 b3 P3 => ⟨n, rfl, by omega, by omega, ?_⟩⟩
  refine for_it (walk_range (lo := 0) (n := n.toNat)) (fun i σ H' => ∃ C D cs evs last t' l', (∃ z2 z7 z8, σ = [some (.ref p), some (.str c), z2, some (.ref x), some (.ref C), some (.ref D), some (wo last), z7, z8]) ∧ LS p a C D ns H1 H' cs evs t' l' ∧ t ≤ t' ∧ t' ≤ t + 1 + 20 * i ∧ cs.length ≤ 20 * i ∧ evs.length ≤ 10 * i ∧
      (∀ ev ∈ evs, flatE ev) ∧ ∀ tail, Reach (rows2 c) (stt c 2 none) (cs ++ tail) evs (stt c 2 last) tail)
    ⟨C, D, [], [], none, t1, l1, ⟨_, none, none, rfl⟩, L0.move b3 P3, by omega, by omega, by simp, by simp, (fun ev h => by cases h), fun tail => Reach.refl⟩ (fun _ _ _ _ _ => trivial) ?_ ?_
  · rintro i v σ H' H'' hi ⟨C, D, cs, evs, last, t', l', ⟨z2, z7, z8, rfl⟩, A, w1, w2, w3, w4, hfl, hR⟩ ⟨rfl, rfl⟩
    have hi6 : i < 9 := by omega
    refine ⟨_, rfl, .inl ⟨rfl, _, SqL.of A.c⟩, _, rfl, p, a, ns, t', l', rfl, A.pen, by omega, fun y t2 l2 H4 hy x1 x2 b4 P4 => ?_⟩
    have A2 := A.move b4 P4
    refine ⟨C, _, _, rfl, rfl, A2.c, by rw [List.length_map, sizeLine_eq]; omega, ?_⟩
    have A3 := A2.pushC ha1 y
    generalize upd H4 C (.lst (cs.map V.int ++ [.int y])) = H5 at A3
    refine ⟨_, rfl, p, a, ns, t2, l2, 2, rfl, A3.pen, by omega, by decide, by decide, fun k5 t3 l3 H6 k0 k1 x3 x4 b6 P6 => ?_⟩
    have A4 := A3.move b6 P6
    have R4 : ∀ tail, Reach (rows2 c) (stt c 2 none) ((cs ++ [y]) ++ tail) evs (stt c 3 last) tail := fun tail => by
      have r1 := hR (y :: tail)
      have r2 := r_loop (rows := rows2 c) (c := c) (line := 2) (a := 3) (b := 0) (o := last) (t := tail) (x := y) (by decide) rfl
      rw [if_neg hy] at r2
      have r3 := r1.trans r2
      rw [List.append_nil] at r3
      rw [List.append_assoc]
      exact r3
    refine ⟨rfl, _, rfl, ite2 (fun c0 => ?_) fun c0 => ?_⟩
    · refine ⟨_, rfl, .inl ⟨rfl, _, SqL.of A4.c⟩, C, _, _, rfl, rfl, A4.c, by rw [List.length_map, List.length_append, sizeLine_eq]; show cs.length + 1 < _; omega, ?_⟩
      have A5 := A4.pushC ha1 0
      generalize upd H6 C (.lst ((cs ++ [y]).map V.int ++ [.int 0])) = H7 at A5
      obtain ⟨ts0, ed0, _⟩ := id A5.d
      refine ⟨_, rfl, .inl ⟨rfl, _, SqL.of ed0⟩, _, rfl, _, rfl, sz _ (by show 4 ≤ 1000; decide), fun e he => ?_⟩
      obtain ⟨ts, ed, elen, A9⟩ := A5.pushD (ev := [.str "read", .int 4, .str c, wo last]) ha1 he
      refine ⟨D, _, _, rfl, rfl, ed, by rw [List.length_map, elen, sizeLine_eq]; omega, ?_⟩
      generalize upd (upd H7 e (.tup [.str "read", .int 4, .str c, wo last])) D (.lst (ts.map V.ref ++ [.ref e])) = H9 at A9 ⊢
      replace A9 : LS p a C D ns H1 H9 (cs ++ [y] ++ [0]) (evs ++ [evR c 4 last]) t3 l3 := A9
      have R9 : ∀ tail, Reach (rows2 c) (stt c 2 none) ((cs ++ [y] ++ [0]) ++ tail) (evs ++ [evR c 4 last]) (stt c 8 last) tail := fun tail => by
        have q1 := R4 (0 :: tail)
        have q2 := r_maybe (rows := rows2 c) (c := c) (line := 3) (a := 4) (b := 6) (o := last) (t := tail) (x := 0) (by decide) rfl
        rw [if_pos rfl] at q2
        have q3 := r_use (rows := rows2 c) (c := c) (line := 4) (a := 8) (b := 0) (o := last) (t := tail) (by decide) rfl
        have q4 := q1.trans (q2.trans q3)
        rw [List.append_assoc]
        exact q4
      have hfl9 := flat_snoc hfl (flat_R hc 4 last)
      have hcl9 : (cs ++ [y] ++ [0]).length ≤ 20 * i + 3 := by rw [List.length_append, List.length_append]; show cs.length + 1 + 1 ≤ _; omega
      have hel9 : (evs ++ [evR c 4 last]).length ≤ 10 * i + 1 := by rw [List.length_append]; show evs.length + 1 ≤ _; omega
      have ht9 : t3 ≤ t' + 7 := by omega
      have ht8 : t ≤ t3 := by omega
      generalize cs ++ [y] ++ [0] = cs9 at A9 R9 hcl9
      generalize evs ++ [evR c 4 last] = evs9 at A9 R9 hfl9 hel9
      refine ⟨_, rfl, p, a, ns, t3, l3, 2, rfl, A9.pen, by omega, by decide, by decide, fun k6 t6 l6 H10 g0 g1 z3 z4 b10 P10 => ⟨rfl, ?_⟩⟩
      have A10 := A9.move b10 P10
      generalize decide (V.int k6 = V.int 0) = bR
      cases bR with
      | true =>
        refine ⟨_, rfl, _, rfl, _, rfl, iteT ⟨_, rfl, p, a, ns, t6, l6, rfl, A10.pen, by omega, fun y2 t7 l7 H11 hy2 z5 z6 b11 P11 => ⟨sz _ (by show 2 ≤ 1000; decide), fun q hq => ?_⟩⟩⟩
        have A11 := A10.move b11 P11
        have A12 := A11.new (o := .lst [.int 0, .int y2]) hq
        refine ⟨C, q, _, _, rfl, rfl, A12.c, upd_same, by rw [List.length_map, sizeLine_eq]; show cs9.length + 2 ≤ 16777216; omega, fun C' hC' => ?_⟩
        have A14 := A12.setC (cs' := cs9 ++ [0, y2]) hC'
        rw [show (cs9 ++ [0, y2]).map V.int = cs9.map V.int ++ [.int 0, .int y2] from List.map_append] at A14
        generalize upd (upd H11 q (.lst [.int 0, .int y2])) C' (.lst (cs9.map V.int ++ [.int 0, .int y2])) = H14 at A14
        have e5 : (cs9 ++ [0, y2]).map V.int = cs9.map V.int ++ ([0, y2]).map V.int := List.map_append
        obtain ⟨tsD, edD, elD, _⟩ := id A14.d
        refine ⟨_, rfl, _, rfl, _, rfl, sz _ (by show 4 ≤ 1000; decide), fun q2 h2 => ⟨sz _ (by show 1 ≤ 1000; decide), fun q3 h3 => ⟨_, rfl, .inr ⟨true, rfl, q3, _, _, rfl, rfl, upd_same, by decide, by decide, sz _ (by show 1 * _ ≤ 1000; decide), fun q4 h4 => ?_⟩⟩⟩⟩
        have A15 := A14.new (o := .tup (evR c 9 last)) h2
        have A16 := A15.new (o := .lst [.ref q2]) h3
        have n32 : q2 ≠ q3 := fun z => by rw [← z, upd_same] at h3; cases h3
        have hq2 : (upd (upd H14 q2 (.tup (evR c 9 last))) q3 (.lst [.ref q2])) q2 = some (.tup (evR c 9 last)) := (upd_ne n32).trans upd_same
        have A17 := A16.new (o := .lst (List.replicate (Int.toNat (if true = true then 1 else 0)) [V.ref q2]).flatten) h4
        have hq24 := (upd_ne (o := .lst (List.replicate (Int.toNat (if true = true then 1 else 0)) [V.ref q2]).flatten) (ne_of_none hq2 h4)).trans hq2
        obtain ⟨tsE, edE, elE, _⟩ := id A17.d
        refine ⟨D, q4, _, _, rfl, rfl, edE, upd_same, by rw [List.length_map, elE, sizeLine_eq]; show evs9.length + 1 ≤ 16777216; omega, fun D' hD' => ?_⟩
        have A18 := A17.setD true (evR c 9 last) edE hq24 hD'
        refine ⟨C', D', cs9 ++ [0, y2], evs9 ++ [evR c 9 last], last, t7, l7, ⟨_, _, _, rfl⟩, A18, by omega, by omega, by rw [List.length_append]; show cs9.length + 2 ≤ _; omega, by rw [List.length_append]; show evs9.length + 1 ≤ _; omega, ?_, fun tail => ?_⟩
        · exact flat_snoc hfl9 (flat_R hc 9 last)
        · have q1 := R9 (0 :: y2 :: tail)
          have q2' := r_maybe (rows := rows2 c) (c := c) (line := 8) (a := 9) (b := 11) (o := last) (t := y2 :: tail) (x := 0) (by decide) rfl
          rw [if_pos rfl] at q2'
          have q3' := r_use (rows := rows2 c) (c := c) (line := 9) (a := 11) (b := 0) (o := last) (t := y2 :: tail) (by decide) rfl
          have q4' := r_maybe (rows := rows2 c) (c := c) (line := 11) (a := 2) (b := 2) (o := last) (t := tail) (x := y2) (by decide) rfl
          rw [ite_self] at q4'
          have q5 := q1.trans (q2'.trans (q3'.trans q4'))
          rw [List.append_assoc]
          exact q5
      | false =>
        refine ⟨_, rfl, _, rfl, _, rfl, iteF ⟨_, rfl, p, a, ns, t6, l6, rfl, A10.pen, by omega, fun y3 t7 l7 H11 hy3 z5 z6 b11 P11 => ?_⟩⟩
        have A11 := A10.move b11 P11
        refine ⟨_, rfl, p, a, ns, t7, l7, rfl, A11.pen, by omega, fun y2 t8 l8 H12 hy2 z7' z8' b12 P12 => ⟨sz _ (by show 2 ≤ 1000; decide), fun q hq => ?_⟩⟩
        have A12' := A11.move b12 P12
        have A12 := A12'.new (o := .lst [.int y3, .int y2]) hq
        refine ⟨C, q, _, _, rfl, rfl, A12.c, upd_same, by rw [List.length_map, sizeLine_eq]; show cs9.length + 2 ≤ 16777216; omega, fun C' hC' => ?_⟩
        have A14 := A12.setC (cs' := cs9 ++ [y3, y2]) hC'
        rw [show (cs9 ++ [y3, y2]).map V.int = cs9.map V.int ++ [.int y3, .int y2] from List.map_append] at A14
        generalize upd (upd H12 q (.lst [.int y3, .int y2])) C' (.lst (cs9.map V.int ++ [.int y3, .int y2])) = H14 at A14
        have e5 : (cs9 ++ [y3, y2]).map V.int = cs9.map V.int ++ ([y3, y2]).map V.int := List.map_append
        obtain ⟨tsD, edD, elD, _⟩ := id A14.d
        refine ⟨_, rfl, _, rfl, _, rfl, sz _ (by show 4 ≤ 1000; decide), fun q2 h2 => ⟨sz _ (by show 1 ≤ 1000; decide), fun q3 h3 => ⟨_, rfl, .inr ⟨false, rfl, q3, _, _, rfl, rfl, upd_same, by decide, by decide, sz _ (by show 1 * _ ≤ 1000; decide), fun q4 h4 => ?_⟩⟩⟩⟩
        have A15 := A14.new (o := .tup (evR c 9 last)) h2
        have A16 := A15.new (o := .lst [.ref q2]) h3
        have n32 : q2 ≠ q3 := fun z => by rw [← z, upd_same] at h3; cases h3
        have hq2 : (upd (upd H14 q2 (.tup (evR c 9 last))) q3 (.lst [.ref q2])) q2 = some (.tup (evR c 9 last)) := (upd_ne n32).trans upd_same
        have A17 := A16.new (o := .lst (List.replicate (Int.toNat (if false = true then 1 else 0)) [V.ref q2]).flatten) h4
        have hq24 := (upd_ne (o := .lst (List.replicate (Int.toNat (if false = true then 1 else 0)) [V.ref q2]).flatten) (ne_of_none hq2 h4)).trans hq2
        obtain ⟨tsE, edE, elE, _⟩ := id A17.d
        refine ⟨D, q4, _, _, rfl, rfl, edE, upd_same, by rw [List.length_map, elE, sizeLine_eq]; show evs9.length + 0 ≤ 16777216; omega, fun D' hD' => ?_⟩
        have A18 := A17.setD false (evR c 9 last) edE hq24 hD'
        refine ⟨C', D', cs9 ++ [y3, y2], evs9 ++ [], last, t8, l8, ⟨_, _, _, rfl⟩, A18, by omega, by omega, by rw [List.length_append]; show cs9.length + 2 ≤ _; omega, by rw [List.length_append]; show evs9.length + 0 ≤ _; omega, ?_, fun tail => ?_⟩
        · rw [List.append_nil]; exact hfl9
        · have q1 := R9 (y3 :: y2 :: tail)
          have q2' := r_maybe (rows := rows2 c) (c := c) (line := 8) (a := 9) (b := 11) (o := last) (t := y2 :: tail) (x := y3) (by decide) rfl
          rw [if_neg hy3] at q2'
          have q4' := r_maybe (rows := rows2 c) (c := c) (line := 11) (a := 2) (b := 2) (o := last) (t := tail) (x := y2) (by decide) rfl
          rw [ite_self] at q4'
          have q5 := q1.trans (q2'.trans q4')
          rw [List.append_assoc]
          exact q5
    · refine ⟨_, rfl, p, a, ns, t3, l3, rfl, A4.pen, by omega, fun v9 t5 l5 H7 hv9 x5 x6 b7 P7 => ?_⟩
      have A5 := A4.move b7 P7
      refine ⟨_, rfl, _, rfl, p, a, ns, t5, l5, rfl, A5.pen, by omega, fun y9 t9 l9 H8 hy9 x7 x8 b8 P8 => ⟨_, rfl, sz _ (by show 2 ≤ 1000; decide), fun q hq => ?_⟩⟩
      have A6 := A5.move b8 P8
      have A7 := A6.new (o := .lst [.int y9, .int v9]) hq
      refine ⟨C, q, _, _, rfl, rfl, A7.c, upd_same, by rw [List.length_map, List.length_append, sizeLine_eq]; show cs.length + 1 + 2 ≤ 16777216; omega, fun C9 hC9 => ?_⟩
      have A8 := A7.setC (cs' := (cs ++ [y]) ++ [y9, v9]) hC9
      rw [show ((cs ++ [y]) ++ [y9, v9]).map V.int = (cs ++ [y]).map V.int ++ [.int y9, .int v9] from List.map_append] at A8
      generalize upd (upd H8 q (.lst [.int y9, .int v9])) C9 (.lst ((cs ++ [y]).map V.int ++ [.int y9, .int v9])) = H8b at A8
      obtain ⟨ts0, ed0, _⟩ := id A8.d
      refine ⟨_, rfl, .inl ⟨rfl, _, SqL.of ed0⟩, _, rfl, _, rfl, sz _ (by show 4 ≤ 1000; decide), fun e he => ?_⟩
      obtain ⟨ts, ed, elen, A9⟩ := A8.pushD (ev := [.str "write", .int 6, .str c, .int v9]) ha1 he
      refine ⟨D, _, _, rfl, rfl, ed, by rw [List.length_map, elen, sizeLine_eq]; omega, ?_⟩
      generalize upd (upd H8b e (.tup [.str "write", .int 6, .str c, .int v9])) D (.lst (ts.map V.ref ++ [.ref e])) = H9 at A9 ⊢
      replace A9 : LS p a C9 D ns H1 H9 ((cs ++ [y]) ++ [y9, v9]) (evs ++ [evW c 6 v9]) t9 l9 := A9
      have R9 : ∀ tail, Reach (rows2 c) (stt c 2 none) (((cs ++ [y]) ++ [y9, v9]) ++ tail) (evs ++ [evW c 6 v9]) (stt c 8 (some v9)) tail := fun tail => by
        have q1 := R4 (y9 :: v9 :: tail)
        have q2 := r_maybe (rows := rows2 c) (c := c) (line := 3) (a := 4) (b := 6) (o := last) (t := v9 :: tail) (x := y9) (by decide) rfl
        rw [if_neg hy9] at q2
        have q3 := r_input (rows := rows2 c) (c := c) (line := 6) (a := 8) (b := 0) (o := last) (t := tail) (x := v9) (by decide) rfl
        have q4 := q1.trans (q2.trans q3)
        rw [List.append_assoc]
        exact q4
      have hfl9 := flat_snoc hfl (flat_W hc 6 v9)
      have hcl9 : ((cs ++ [y]) ++ [y9, v9]).length ≤ 20 * i + 3 := by rw [List.length_append, List.length_append]; show cs.length + 1 + 2 ≤ _; omega
      have hel9 : (evs ++ [evW c 6 v9]).length ≤ 10 * i + 1 := by rw [List.length_append]; show evs.length + 1 ≤ _; omega
      have ht9 : t9 ≤ t' + 7 := by omega
      have ht8 : t ≤ t9 := by omega
      generalize (cs ++ [y]) ++ [y9, v9] = cs9 at A9 R9 hcl9
      generalize evs ++ [evW c 6 v9] = evs9 at A9 R9 hfl9 hel9
      refine ⟨_, rfl, p, a, ns, t9, l9, 2, rfl, A9.pen, by omega, by decide, by decide, fun k6 t6 l6 H10 g0 g1 z3 z4 b10 P10 => ⟨rfl, ?_⟩⟩
      have A10 := A9.move b10 P10
      generalize decide (V.int k6 = V.int 0) = bR
      cases bR with
      | true =>
        refine ⟨_, rfl, _, rfl, _, rfl, iteT ⟨_, rfl, p, a, ns, t6, l6, rfl, A10.pen, by omega, fun y2 t7 l7 H11 hy2 z5 z6 b11 P11 => ⟨sz _ (by show 2 ≤ 1000; decide), fun q hq => ?_⟩⟩⟩
        have A11 := A10.move b11 P11
        have A12 := A11.new (o := .lst [.int 0, .int y2]) hq
        refine ⟨C9, q, _, _, rfl, rfl, A12.c, upd_same, by rw [List.length_map, sizeLine_eq]; show cs9.length + 2 ≤ 16777216; omega, fun C' hC' => ?_⟩
        have A14 := A12.setC (cs' := cs9 ++ [0, y2]) hC'
        rw [show (cs9 ++ [0, y2]).map V.int = cs9.map V.int ++ [.int 0, .int y2] from List.map_append] at A14
        generalize upd (upd H11 q (.lst [.int 0, .int y2])) C' (.lst (cs9.map V.int ++ [.int 0, .int y2])) = H14 at A14
        have e5 : (cs9 ++ [0, y2]).map V.int = cs9.map V.int ++ ([0, y2]).map V.int := List.map_append
        obtain ⟨tsD, edD, elD, _⟩ := id A14.d
        refine ⟨_, rfl, _, rfl, _, rfl, sz _ (by show 4 ≤ 1000; decide), fun q2 h2 => ⟨sz _ (by show 1 ≤ 1000; decide), fun q3 h3 => ⟨_, rfl, .inr ⟨true, rfl, q3, _, _, rfl, rfl, upd_same, by decide, by decide, sz _ (by show 1 * _ ≤ 1000; decide), fun q4 h4 => ?_⟩⟩⟩⟩
        have A15 := A14.new (o := .tup (evR c 9 (some v9))) h2
        have A16 := A15.new (o := .lst [.ref q2]) h3
        have n32 : q2 ≠ q3 := fun z => by rw [← z, upd_same] at h3; cases h3
        have hq2 : (upd (upd H14 q2 (.tup (evR c 9 (some v9)))) q3 (.lst [.ref q2])) q2 = some (.tup (evR c 9 (some v9))) := (upd_ne n32).trans upd_same
        have A17 := A16.new (o := .lst (List.replicate (Int.toNat (if true = true then 1 else 0)) [V.ref q2]).flatten) h4
        have hq24 := (upd_ne (o := .lst (List.replicate (Int.toNat (if true = true then 1 else 0)) [V.ref q2]).flatten) (ne_of_none hq2 h4)).trans hq2
        obtain ⟨tsE, edE, elE, _⟩ := id A17.d
        refine ⟨D, q4, _, _, rfl, rfl, edE, upd_same, by rw [List.length_map, elE, sizeLine_eq]; show evs9.length + 1 ≤ 16777216; omega, fun D' hD' => ?_⟩
        have A18 := A17.setD true (evR c 9 (some v9)) edE hq24 hD'
        refine ⟨C', D', cs9 ++ [0, y2], evs9 ++ [evR c 9 (some v9)], (some v9), t7, l7, ⟨_, _, _, rfl⟩, A18, by omega, by omega, by rw [List.length_append]; show cs9.length + 2 ≤ _; omega, by rw [List.length_append]; show evs9.length + 1 ≤ _; omega, ?_, fun tail => ?_⟩
        · exact flat_snoc hfl9 (flat_R hc 9 (some v9))
        · have q1 := R9 (0 :: y2 :: tail)
          have q2' := r_maybe (rows := rows2 c) (c := c) (line := 8) (a := 9) (b := 11) (o := (some v9)) (t := y2 :: tail) (x := 0) (by decide) rfl
          rw [if_pos rfl] at q2'
          have q3' := r_use (rows := rows2 c) (c := c) (line := 9) (a := 11) (b := 0) (o := (some v9)) (t := y2 :: tail) (by decide) rfl
          have q4' := r_maybe (rows := rows2 c) (c := c) (line := 11) (a := 2) (b := 2) (o := (some v9)) (t := tail) (x := y2) (by decide) rfl
          rw [ite_self] at q4'
          have q5 := q1.trans (q2'.trans (q3'.trans q4'))
          rw [List.append_assoc]
          exact q5
      | false =>
        refine ⟨_, rfl, _, rfl, _, rfl, iteF ⟨_, rfl, p, a, ns, t6, l6, rfl, A10.pen, by omega, fun y3 t7 l7 H11 hy3 z5 z6 b11 P11 => ?_⟩⟩
        have A11 := A10.move b11 P11
        refine ⟨_, rfl, p, a, ns, t7, l7, rfl, A11.pen, by omega, fun y2 t8 l8 H12 hy2 z7' z8' b12 P12 => ⟨sz _ (by show 2 ≤ 1000; decide), fun q hq => ?_⟩⟩
        have A12' := A11.move b12 P12
        have A12 := A12'.new (o := .lst [.int y3, .int y2]) hq
        refine ⟨C9, q, _, _, rfl, rfl, A12.c, upd_same, by rw [List.length_map, sizeLine_eq]; show cs9.length + 2 ≤ 16777216; omega, fun C' hC' => ?_⟩
        have A14 := A12.setC (cs' := cs9 ++ [y3, y2]) hC'
        rw [show (cs9 ++ [y3, y2]).map V.int = cs9.map V.int ++ [.int y3, .int y2] from List.map_append] at A14
        generalize upd (upd H12 q (.lst [.int y3, .int y2])) C' (.lst (cs9.map V.int ++ [.int y3, .int y2])) = H14 at A14
        have e5 : (cs9 ++ [y3, y2]).map V.int = cs9.map V.int ++ ([y3, y2]).map V.int := List.map_append
        obtain ⟨tsD, edD, elD, _⟩ := id A14.d
        refine ⟨_, rfl, _, rfl, _, rfl, sz _ (by show 4 ≤ 1000; decide), fun q2 h2 => ⟨sz _ (by show 1 ≤ 1000; decide), fun q3 h3 => ⟨_, rfl, .inr ⟨false, rfl, q3, _, _, rfl, rfl, upd_same, by decide, by decide, sz _ (by show 1 * _ ≤ 1000; decide), fun q4 h4 => ?_⟩⟩⟩⟩
        have A15 := A14.new (o := .tup (evR c 9 (some v9))) h2
        have A16 := A15.new (o := .lst [.ref q2]) h3
        have n32 : q2 ≠ q3 := fun z => by rw [← z, upd_same] at h3; cases h3
        have hq2 : (upd (upd H14 q2 (.tup (evR c 9 (some v9)))) q3 (.lst [.ref q2])) q2 = some (.tup (evR c 9 (some v9))) := (upd_ne n32).trans upd_same
        have A17 := A16.new (o := .lst (List.replicate (Int.toNat (if false = true then 1 else 0)) [V.ref q2]).flatten) h4
        have hq24 := (upd_ne (o := .lst (List.replicate (Int.toNat (if false = true then 1 else 0)) [V.ref q2]).flatten) (ne_of_none hq2 h4)).trans hq2
        obtain ⟨tsE, edE, elE, _⟩ := id A17.d
        refine ⟨D, q4, _, _, rfl, rfl, edE, upd_same, by rw [List.length_map, elE, sizeLine_eq]; show evs9.length + 0 ≤ 16777216; omega, fun D' hD' => ?_⟩
        have A18 := A17.setD false (evR c 9 (some v9)) edE hq24 hD'
        refine ⟨C', D', cs9 ++ [y3, y2], evs9 ++ [], (some v9), t8, l8, ⟨_, _, _, rfl⟩, A18, by omega, by omega, by rw [List.length_append]; show cs9.length + 2 ≤ _; omega, by rw [List.length_append]; show evs9.length + 0 ≤ _; omega, ?_, fun tail => ?_⟩
        · rw [List.append_nil]; exact hfl9
        · have q1 := R9 (y3 :: y2 :: tail)
          have q2' := r_maybe (rows := rows2 c) (c := c) (line := 8) (a := 9) (b := 11) (o := (some v9)) (t := y2 :: tail) (x := y3) (by decide) rfl
          rw [if_neg hy3] at q2'
          have q4' := r_maybe (rows := rows2 c) (c := c) (line := 11) (a := 2) (b := 2) (o := (some v9)) (t := tail) (x := y2) (by decide) rfl
          rw [ite_self] at q4'
          have q5 := q1.trans (q2'.trans q4')
          rw [List.append_assoc]
          exact q5
  · rintro σ H' ⟨C, D, cs, evs, last, t', l', ⟨z2, z7, z8, rfl⟩, A, w1, w2, w3, w4, hfl, hR⟩
    have hn5 : n.toNat ≤ 8 := by omega
    have sh := ev_shaped evs hfl
    have hself : PyData.eqv (evD evs) (evD evs) = true := SeqAt.eqv_refl _ (SeqAt.canLay_of_shaped sh)
    have hrun : ∀ (ys : List Int), (∃ f, goM (rows2 c) f (stt c 2 none) ys = some evs) → ∃ f, FP.runM (sh2 c) f ys = some evs := fun ys ⟨f, hf⟩ => ⟨f, hf⟩
    have hz : ∃ f, goM (rows2 c) f (stt c 2 none) (cs ++ [0]) = some evs := by
      have q2 := r_loop (rows := rows2 c) (c := c) (line := 2) (a := 3) (b := 0) (o := last) (t := []) (x := 0) (by decide) rfl
      rw [if_pos rfl] at q2
      have q3 := (hR [0]).trans q2
      rw [List.append_nil] at q3
      exact q3.run (by rw [List.length_append]; show cs.length + 1 ≤ _; omega) rfl
    have hstop : ∃ f, goM (rows2 c) f (stt c 2 none) cs = some evs := by
      have q3 := (hR []).trans (r_stop (rows := rows2 c) (c := c) (line := 2) (a := 3) (b := 0) (o := last) (by decide) rfl)
      rw [List.append_nil, List.append_nil] at q3
      exact q3.run (by omega) rfl
    obtain ⟨f1, g1⟩ := hrun _ hz
    obtain ⟨f2, g2⟩ := hrun _ hstop
    have PGx : PgP Cp Cr Cs p H' x (txt2 c) (sh2 c) := PG1.but P1.p A.but
    have hnd : ((sh2 c).homes.map (·.1)).Nodup := by show ([c] : List Str).Nodup; simp
    have hbut : But p H H' := B1.trans A.but
    obtain ⟨dxx, tt, ss, qq, ex, etx, _⟩ := PGx.ex
    refine ⟨_, rfl, x, dxx, _, rfl, ex, rfl, _, rfl, sz _ (by show 1 ≤ 1000; decide), fun q1 h1 => ⟨C, q1, _, _, rfl, rfl, (upd_ne (ne_of_none A.c h1)).trans A.c, upd_same, by rw [List.length_map, sizeLine_eq]; show cs.length + 1 ≤ 16777216; omega, fun q2 h2 => ?_⟩⟩
    have S1 : Same H' (upd H' q1 (.lst [.int 0])) := Same.new (Same.refl H') h1
    have S2 : Same H' (upd (upd H' q1 (.lst [.int 0])) q2 (.lst (cs.map V.int ++ [.int 0]))) := Same.new S1 h2
    refine ⟨x, q2, lay, txt2 c, sh2 c, cs ++ [0], f1, evs, rfl, PGx.at_.grow S2, SqL.of (by rw [upd_same, List.map_append]; rfl), DR.lay, by rw [List.length_append, List.length_singleton]; omega, hnd, by show 1 ≤ 5; decide, g1, by omega, fun e1 H5 he1 S5 hev1 => ?_⟩
    have S3 := S2.trans S5
    refine ⟨_, rfl, evD evs, evD evs, ev_dp hev1 hfl, ev_dp (A.d.same S3) hfl, sh, sh, _, rfl, ?_⟩
    rw [hself]
    refine iteT ⟨_, rfl, x, dxx, _, rfl, S3 _ _ ex, rfl, _, rfl, x, C, lay, txt2 c, sh2 c, cs, f2, evs, rfl, PGx.at_.grow S3, SqL.of (S3 _ _ A.c), DR.lay, by omega, hnd, by show 1 ≤ 5; decide, g2, by omega, fun e2 H6 he2 S6 hev2 => ?_⟩
    have S4 := S3.trans S6
    refine ⟨_, rfl, evD evs, evD evs, ev_dp hev2 hfl, ev_dp (A.d.same S4) hfl, sh, sh, ?_⟩
    rw [hself]
    exact k t' l' H6 w1 (by omega) (hbut.trans fun b u _ e => S4 b u e) ⟨S4 _ _ A.pen.p, S4 _ _ A.pen.a, A.pen.n, A.pen.t0, A.pen.l0⟩
end
end FP
set_option Elab.async false
set_option linter.all false
set_option maxRecDepth 100000
set_option maxHeartbeats 4000000
set_option exponentiation.threshold 2000
namespace FP
open PySem PySem.Spec PyProof.Rows L2
theorem len_app (a b : Str) : (a ++ b).length = a.length + b.length := by
  rw [TL.len_tl, TL.tl_append, List.length_append, ← TL.len_tl, ← TL.len_tl]
theorem r_rounds {c : Str} : ∀ (cs tail : List Int), (∀ x ∈ cs, x ≠ 0) → Reach (rows3 c) (stt c 2 none) (cs ++ tail) [] (stt c 2 none) tail
  | [], tail, _ => Reach.refl
  | x :: r, tail, h => by
    have q := r_loop (rows := rows3 c) (c := c) (line := 2) (a := 2) (b := 4) (o := none) (t := r ++ tail) (x := x) (by decide) rfl
    rw [if_neg (h x List.mem_cons_self)] at q
    exact q.trans (r_rounds r tail fun y hy => h y (List.mem_cons_of_mem _ hy))
section
variable {P : Program} {w : World} {K : PySem.W.Frag} {mg : Str → Option Value} {base : Heap} {Cp Cr Cs lay : Addr}
abbrev nER : List Str := ["_law_pen", "_law_cell", "_law_made", "_law_many", "_law_rounds", "_law_k"]
theorem scER : FnScope nER ["_law_pen", "_law_cell"] (defScope sEmptyRight) := ⟨rfl, rfl, rfl, by decide +kernel, rfl, by decide +kernel, by decide +kernel⟩
theorem ok_empty {f : Addr} {fd : FuncData} (F : Fun K "_law_empty_right" "_law_empty_right" sEmptyRight f fd) (hrg : mg "range" = none) (T : PgTxt K mg Cp) (D : Def P w K mg base "_law_draw" 1 ["_law_pen", "_law_span"] spDraw) (DK : Def P w K mg base "_law_pick" 2 ["_law_pen", "_law_options"] spPick) (DO : Def P w K mg base "_law_other_number" 3 ["_law_pen"] spOther)
    (DP : CDef P w K mg base Cp 6 ["self", "text"] (spProg Cp Cr Cs)) (DR : RunDef P w K mg base Cp Cr Cs lay) : FnOk P w K mg base CX0 10 f fd ["_law_pen", "_law_cell"] (spRight 700) := by
  obtain ⟨fD, fdD, gD, kD, bD, GD⟩ := D.ex
  obtain ⟨fK, fdK, gK, kK, bK, GK⟩ := DK.ex
  obtain ⟨fO, fdO, gO, kO, bO, GO⟩ := DO.ex
  obtain ⟨fP, fdP, mP, bP, GP⟩ := DP.ex
  obtain ⟨fR, fdR, ds, mR, vR, bR, GR⟩ := DR.ex
  refine F.ok scER (fun vs H Q E h => ?_) (fun cdv A outer s H vs Q E hr h => ?_)
  · obtain ⟨p, a, ns, t, l, c, rfl, _⟩ := h
    rfl
  obtain ⟨p, a, ns, t, l, c, rfl, PA0, ht, hc, k⟩ := h
  have hr1 := hr.mono (show 1 ≤ 9 by decide)
  have hr2 := hr.mono (show 2 ≤ 9 by decide)
  have hr3 := hr.mono (show 3 ≤ 9 by decide)
  have hr7 := hr.mono (show 7 ≤ 9 by decide)
  refine ⟨_, pss_cons (ps_set (i := 2) scER.nd rfl (.inl rfl) (pe_make mP GP hr7 rfl T.gp bP .nil pass0 (pa_cons (pe_op op_add_str (pe_op op_add_str (pe_op op_add_str pe_str (pv 1)) pe_str) (pv 1)) pa_nil)))
    (pss_cons (ps_set (i := 3) scER.nd rfl (.inl rfl) (pe_call GK hr2 rfl gK kK bK .nil pass0 (pa_cons (pv 0) (pa_cons (pe_lst (pa_cons pe_int (pa_cons (pe_call GD hr1 rfl gD kD bD .nil pass0 (pa_cons (pv 0) (pa_cons pe_int pa_nil))) pa_nil))) pa_nil))))
    (pss_cons (ps_setLc (i := 4) (own := [("_law_k", 5)]) (g := gName 5) (te := tCall spOther [] E0 (tCons (tVar 0) tNil)) (by rfl) scER.nd rfl rfl (sw_true rfl rfl rfl (by decide +kernel)) (pi_range1 (by rfl) hrg (pa_cons (pv 3) pa_nil)) (blkOk_by (own := [("_law_k", 5)]) (N := nER) (sc := defScope sEmptyRight) (by decide +kernel))
      (fun _ _ _ _ _ => pg_name (i := 5) scER.nd rfl (Or.inl rfl)) (fun _ _ _ _ _ => pts_nil) (fun _ _ _ _ _ => pe_call GO hr3 (by rfl) gO kO bO .nil pass0 (pa_cons (pv 0) pa_nil)))
    (pss_one (ps_ret (pe_and (pe_cmpR (op_eqD hr.units) (pe_meth (pv 2) T.cp mR GR hr bR vR pass0 (pa_cons (pv 4) pa_nil)) (pe_lst pa_nil) (nomark _))
      (pe_one (pe_cmpR (op_eqD hr.units) (pe_meth (pv 2) T.cp mR GR hr bR vR pass0 (pa_cons (pe_op op_cat (pv 4) (pe_lst (pa_cons pe_int pa_nil))) pa_nil)) (pe_lst (pa_cons (pe_tup (pa_cons pe_str (pa_cons pe_int (pa_cons (pv 1) (pa_cons pe_non pa_nil))))) pa_nil)) (nomark _)))))))), ?_⟩
  have cl : c.length ≤ 12 := twelve_len c hc
  have sz : ∀ n : Nat, n ≤ 1000 → n ≤ sizeLine := fun n h => by rw [sizeLine_eq]; omega
  refine ⟨_, rfl, _, _, rfl, rfl, sz _ (by show 6 + c.length ≤ 1000; omega), _, _, rfl, rfl, sz _ (by rw [len_app]; show (6 + c.length) + 14 ≤ 1000; omega), _, rfl, _, _, rfl, rfl, sz _ (by rw [len_app, len_app]; show (6 + c.length) + 14 + c.length ≤ 1000; omega), fun x dx nx ndx nexd => ?_⟩
  refine ⟨x, dx, txt3 c, sh3 c, rfl, upd_same, Nat.le_trans (txt3_len c hc) (by decide), read3 c hc, fun H1 PN eo => ⟨rfl, ?_⟩⟩
  have SH1 : Same H H1 := fun b u e => eo b u ((upd_ne (ne_of_none e nx)).trans ((upd_ne (ne_of_none e ndx)).trans e)) (ne_of_none e nx)
  have P1 : PenAt H1 p a ns t l := ⟨SH1 _ _ PA0.p, SH1 _ _ PA0.a, PA0.n, PA0.t0, PA0.l0⟩
  have hpx : p ≠ x := ne_of_none PA0.p nx
  have PG1 : PgP Cp Cr Cs p H1 x (txt3 c) (sh3 c) := PN.pen (by
    show (if p = x then none else _) ≠ none
    rw [if_neg hpx, upd_ne hpx, upd_ne (ne_of_none PA0.p ndx), PA0.p]
    exact Option.some_ne_none _)
  have B1 : But p H H1 := fun b u _ e => SH1 b u e
  refine ⟨_, rfl, _, rfl, p, a, ns, t, l, 30, rfl, P1, by omega, by decide, by decide, fun r t1 l1 H2 r0 r1 u1 u2 b2 P2 => ⟨sz _ (by show 2 ≤ 1000; decide), fun o ho => ?_⟩⟩
  have nop : o ≠ p := (ne_of_none P2.p ho).symm
  refine ⟨p, a, o, ns, t1, l1, _, rfl, P2.new ho, by omega, nop, upd_same, by show 0 < 2; decide, by show 2 ≤ 1000; decide, fun i v t2 l2 H3 hv v1 v2 b3 P3 => ?_⟩
  obtain ⟨m, rfl, m0, m1⟩ : ∃ m : Int, v = .int m ∧ 0 ≤ m ∧ m ≤ 299 := by
    match i, hv with
    | 0, hv => cases hv; exact ⟨299, rfl, by decide, by decide⟩
    | 1, hv => cases hv; exact ⟨r, rfl, r0, by omega⟩
    | i + 2, hv => cases hv
  have B3 : But p H1 H3 := b2.trans ((But.refl p H2).new ho |>.trans b3)
  refine ⟨_, rfl, m, rfl, by omega, by omega, fun R hR => ?_⟩
  have R1 : H1 R = none := by
    cases e : H1 R with
    | none => rfl
    | some u =>
      by_cases z : R = p
      · rw [z, P3.p] at hR; cases hR
      · rw [B3 _ _ z e] at hR; cases hR
  refine lc_it (walk_range (lo := 0) (n := m.toNat)) (fun n H' => ∃ (cs : List Int) (t' l' : Int), H' R = some (.lst (cs.map V.int)) ∧ cs.length = n ∧ (∀ y ∈ cs, y ≠ 0) ∧ PenAt H' p a ns t' l' ∧ But p H1 H' ∧ t ≤ t' ∧ t' ≤ t + 2 + 2 * n) ⟨[], t2, l2, upd_same, rfl, (fun y hy => by cases hy), P3.new hR, B3.new hR, by omega, by omega⟩ (fun _ _ _ _ => trivial) ?_ ?_
  · rintro n v H' H'' hn ⟨cs, t', l', eR, hl, hne, PA, BB, w1, w2⟩ ⟨rfl, rfl⟩
    have nRp : R ≠ p := ne_of eR PA.p (by intro z; cases z)
    have nRa : R ≠ a := fun z => by rw [z, P1.a] at R1; cases R1
    refine ⟨rfl, _, rfl, p, a, ns, t', l', rfl, PA, by omega, fun y t3 l3 H4 hy x1 x2 b4 P4 => ⟨_, b4 _ _ nRp eR, by rw [List.length_map, hl, sizeLine_eq]; omega, ?_⟩⟩
    refine ⟨cs ++ [y], t3, l3, by rw [upd_same, List.map_append]; rfl, by rw [List.length_append, hl]; rfl, fun z hz => ?_, pen_upd P4 nRp nRa, fun b u nb e => ?_, by omega, by omega⟩
    · rcases List.mem_append.mp hz with q | q
      · exact hne z q
      · rw [List.mem_singleton.mp q]; exact hy
    · rw [upd_ne (ne_of_none e R1)]
      exact b4 b u nb (BB b u nb e)
  · rintro H' ⟨cs, t', l', eR, hl, hne, PA, BB, w1, w2⟩
    have hm : m.toNat ≤ 299 := by omega
    have hstop : ∃ f, FP.runM (sh3 c) f cs = some [] := by
      have q := (r_rounds (c := c) cs [] hne).trans (r_stop (rows := rows3 c) (c := c) (line := 2) (a := 2) (b := 4) (o := none) (by decide) rfl)
      rw [List.append_nil] at q
      obtain ⟨f, h⟩ := q.run (by omega) rfl
      exact ⟨f, h⟩
    have hz : ∃ f, FP.runM (sh3 c) f (cs ++ [0]) = some [evR c 4 none] := by
      have q2 := r_loop (rows := rows3 c) (c := c) (line := 2) (a := 2) (b := 4) (o := none) (t := []) (x := 0) (by decide) rfl
      rw [if_pos rfl] at q2
      have q3 := r_use (rows := rows3 c) (c := c) (line := 4) (a := 0) (b := 0) (o := none) (t := []) (by decide) rfl
      have q := (r_rounds (c := c) cs [0] hne).trans (q2.trans q3)
      obtain ⟨f, h⟩ := q.run (by rw [List.length_append]; show cs.length + 1 ≤ _; omega) rfl
      exact ⟨f, h⟩
    obtain ⟨f1, g1⟩ := hstop
    obtain ⟨f2, g2⟩ := hz
    have PGx : PgP Cp Cr Cs p H' x (txt3 c) (sh3 c) := PG1.but P1.p BB
    have hnd : ((sh3 c).homes.map (·.1)).Nodup := by show ([c] : List Str).Nodup; simp
    have hbut : But p H H' := B1.trans BB
    obtain ⟨dxx, tt, ss, qq, ex, etx, _⟩ := PGx.ex
    have hf0 : ∀ ev ∈ ([] : List (List V)), flatE ev := fun ev h => by cases h
    have hf1 : ∀ ev ∈ [evR c 4 none], flatE ev := fun ev h => by rw [List.mem_singleton.mp h]; exact flat_R hc 4 none
    refine ⟨_, rfl, x, dxx, _, rfl, ex, rfl, _, rfl, x, R, lay, txt3 c, sh3 c, cs, f1, [], rfl, PGx.at_, SqL.of eR, DR.lay, by omega, hnd, by show 1 ≤ 5; decide, g1, Nat.zero_le _, fun e1 H5 he1 S5 hev1 => ⟨Nat.zero_le _, fun e2 he2 => ?_⟩⟩
    have S6 : Same H' (upd H5 e2 (.lst [])) := Same.new S5 he2
    refine ⟨evD [], evD [], ev_dp (hev1.same (Same.new (Same.refl H5) he2)) hf0, ev_dp (EvAt.nil upd_same) hf0, ev_shaped [] hf0, ev_shaped [] hf0, _, rfl, ?_⟩
    rw [SeqAt.eqv_refl _ (SeqAt.canLay_of_shaped (ev_shaped [] hf0))]
    generalize upd H5 e2 (.lst []) = H6 at S6
    refine iteT ⟨_, rfl, x, dxx, _, rfl, S6 _ _ ex, rfl, _, rfl, sz _ (by show 1 ≤ 1000; decide), fun q1 h1 => ⟨R, q1, _, _, rfl, rfl, (upd_ne (ne_of_none (S6 _ _ eR) h1)).trans (S6 _ _ eR), upd_same, by rw [List.length_map, sizeLine_eq]; show cs.length + 1 ≤ 16777216; omega, fun q2 h2 => ?_⟩⟩
    have S7 : Same H' (upd H6 q1 (.lst [.int 0])) := Same.new S6 h1
    have S8 : Same H' (upd (upd H6 q1 (.lst [.int 0])) q2 (.lst (cs.map V.int ++ [.int 0]))) := Same.new S7 h2
    refine ⟨x, q2, lay, txt3 c, sh3 c, cs ++ [0], f2, [evR c 4 none], rfl, PGx.at_.grow S8, SqL.of (by rw [upd_same, List.map_append]; rfl), DR.lay, by rw [List.length_append]; show cs.length + 1 ≤ _; omega, hnd, by show 1 ≤ 5; decide, g2, by show 1 ≤ 1000000; decide, fun e3 H7 he3 S9 hev3 => ?_⟩
    refine ⟨_, rfl, sz _ (by show 4 ≤ 1000; decide), fun q3 h3 => ⟨sz _ (by show 1 ≤ 1000; decide), fun q4 h4 => ?_⟩⟩
    have S10 : Same H7 (upd H7 q3 (.tup [.str "read", .int 4, .str c, .non])) := Same.new (Same.refl H7) h3
    have S11 := Same.new (o := .lst [V.ref q3]) S10 h4
    have n34 : q3 ≠ q4 := fun z => by rw [← z, upd_same] at h4; cases h4
    have S12 := (S8.trans S9).trans S11
    refine ⟨evD [evR c 4 none], evD [evR c 4 none], ev_dp (hev3.same S11) hf1, ev_dp (EvAt.one upd_same ((upd_ne n34).trans upd_same)) hf1, ev_shaped _ hf1, ev_shaped _ hf1, ?_⟩
    rw [SeqAt.eqv_refl _ (SeqAt.canLay_of_shaped (ev_shaped _ hf1))]
    exact k t' l' _ w1 (by omega) (hbut.trans fun b u _ e => S12 b u e) ⟨S12 _ _ PA.p, S12 _ _ PA.a, PA.n, PA.t0, PA.l0⟩
end
end FP
set_option Elab.async false
set_option linter.all false
set_option maxRecDepth 100000
set_option maxHeartbeats 4000000
set_option exponentiation.threshold 2000
namespace FP
open PySem PySem.Spec PyProof.Rows L2
def spLaw5 (K : PySem.W.Frag) : Sp := fun vs H Q _ => ∃ (a : Addr) (ns : List Int), vs = [.ref a] ∧ SqL K H a (ns.map V.int) ∧ ns.length ≤ 63 ∧ ∀ H', Q (.bl true) H'
def sh0 : ShM := ⟨[⟨"", [], 0, 0⟩], [], [], [0]⟩
theorem run0 (xs : List Int) : FP.runM sh0 1 xs = some [] := rfl
section
variable {P : Program} {w : World} {K : PySem.W.Frag} {mg : Str → Option Value} {base : Heap} {Cp Cr Cs lay : Addr}
abbrev nLW : List Str := ["_law_script", "_law_pen", "_law_turn", "_law_cell"]
theorem scLW : FnScope nLW ["_law_script"] (defScope sLaw) := ⟨rfl, rfl, rfl, by decide +kernel, rfl, by decide +kernel, by decide +kernel⟩
abbrev LawDefs (P : Program) (w : World) (K : PySem.W.Frag) (mg : Str → Option Value) (base : Heap) : Prop :=
  Def P w K mg base "_law_begun_pen" 1 ["_law_script"] (spPen K) ∧ Def P w K mg base "_law_new_names" 3 ["_law_pen", "_law_many"] spNames ∧ Def P w K mg base "_law_rounds_right" 10 ["_law_pen", "_law_cell"] (spRight 200) ∧ Def P w K mg base "_law_sides_right" 10 ["_law_pen", "_law_cell"] (spRight 200) ∧ Def P w K mg base "_law_empty_right" 10 ["_law_pen", "_law_cell"] (spRight 700)
theorem law_walk {X : Cx} (hc : X.calm = true) (hN : X.N = nLW) : True := trivial
theorem ok_law5 {f : Addr} {fd : FuncData} (F : Fun K "law" "law" sLaw f fd) (hrg : mg "range" = none) (T : PgTxt K mg Cp) (L : LawDefs P w K mg base)
    (DP : CDef P w K mg base Cp 6 ["self", "text"] (spProg Cp Cr Cs)) (DR : RunDef P w K mg base Cp Cr Cs lay) : FnOk P w K mg base CX0 11 f fd ["_law_script"] (spLaw5 K) := by
  obtain ⟨DB, DN, D1, D2, D3⟩ := L
  obtain ⟨fB, fdB, gB, kB, bB, GB⟩ := DB.ex
  obtain ⟨fN, fdN, gN, kN, bN, GN⟩ := DN.ex
  obtain ⟨f1, fd1, g1, k1, b1, G1⟩ := D1.ex
  obtain ⟨f2, fd2, g2, k2, b2, G2⟩ := D2.ex
  obtain ⟨f3, fd3, g3, k3, b3, G3⟩ := D3.ex
  obtain ⟨fP, fdP, mP, bP, GP⟩ := DP.ex
  obtain ⟨fR, fdR, ds, mR, vR, bR, GR⟩ := DR.ex
  refine F.ok scLW (fun vs H Q E h => ?_) (fun cdv A outer s H vs Q E hr h => ?_)
  · obtain ⟨a, ns, rfl, _⟩ := h
    rfl
  obtain ⟨sa, ns, rfl, hS, hl, k⟩ := h
  have hr1 := hr.mono (show 1 ≤ 10 by decide)
  have hr3 := hr.mono (show 3 ≤ 10 by decide)
  have hr7 := hr.mono (show 7 ≤ 10 by decide)
  have hr9 := hr.mono (show 9 ≤ 10 by decide)
  refine ⟨_, pss_cons (ps_set (i := 1) scLW.nd rfl (.inl rfl) (pe_call GB hr1 rfl gB kB bB .nil pass0 (pa_cons (pv 0) pa_nil)))
    (pss_cons (ps_for PassesOwn.never rfl (pi_range1 (by rfl) hrg (pa_cons pe_int pa_nil)) (pg_name (i := 2) scLW.nd rfl (Or.inl rfl))
      (pss_cons (ps_set (i := 3) scLW.nd rfl (.inl rfl) (pe_ix ix_list (pe_call GN hr3 rfl gN kN bN .nil pass0 (pa_cons (pv 1) (pa_cons pe_int pa_nil))) pe_int (fun _ _ => rfl)))
      (pss_one (ps_if (PW.pt (pw_or (pt_not (pt_val (pe_call G1 hr rfl g1 k1 b1 .nil pass0 (pa_cons (pv 1) (pa_cons (pv 3) pa_nil))))) (pw_or (pt_not (pt_val (pe_call G2 hr rfl g2 k2 b2 .nil pass0 (pa_cons (pv 1) (pa_cons (pv 3) pa_nil)))))
        (pw_or1 (pt_not (pt_val (pe_call G3 hr rfl g3 k3 b3 .nil pass0 (pa_cons (pv 1) (pa_cons (pv 3) pa_nil))))))))) (pss_one ps_never) pss_nil))))
    (pss_one (ps_ret (pe_and (pe_cmpR (op_eqD hr.units) (pe_meth (pe_make mP GP hr7 rfl T.gp bP .nil pass0 (pa_cons pe_str pa_nil)) T.cp mR GR hr9 bR vR pass0 (pa_cons (pe_lst pa_nil) pa_nil)) (pe_lst pa_nil) (nomark _))
      (pe_and (pe_cmpR (op_eqD hr.units) (pe_meth (pe_make mP GP hr7 rfl T.gp bP .nil pass0 (pa_cons pe_str pa_nil)) T.cp mR GR hr9 bR vR pass0 (pa_cons (pe_lst (pa_cons pe_int (pa_cons pe_int pa_nil))) pa_nil)) (pe_lst pa_nil) (nomark _))
      (pe_one (pe_cmpR (op_eqD hr.units) (pe_fld (pe_make mP GP hr7 rfl T.gp bP .nil pass0 (pa_cons pe_str pa_nil)) rfl) (pe_tup pa_nil) (nomark _)))))))), ?_⟩
  refine ⟨_, rfl, sa, ns, rfl, hS, hl, fun p a H1 hp S1 P1 => ?_⟩
  refine ⟨4, rfl, by decide, by decide, for_it (walk_range (lo := 0) (n := 4)) (fun i σ H' => ∃ t l, (∃ z2 z3, σ = [some (.ref sa), some (.ref p), z2, z3]) ∧ PenAt H' p a ns t l ∧ 0 ≤ t ∧ t ≤ 2000 * i) ⟨0, 0, ⟨none, none, rfl⟩, P1, by decide, by decide⟩ (fun _ _ _ _ _ => trivial) ?_ ?_⟩
  · rintro i v σ H' H'' hi ⟨t, l, ⟨z2, z3, rfl⟩, PA, w1, w2⟩ ⟨rfl, rfl⟩
    refine ⟨_, rfl, p, a, ns, t, l, 1, rfl, PA, by omega, by decide, by decide, fun r ys t1 l1 H2 pm u1 u2 bb1 P2 hr0 er => ?_⟩
    obtain ⟨c, rest, rfl⟩ : ∃ c rest, ys = c :: rest := by
      cases ys with
      | nil => exact absurd pm.length_eq (by decide)
      | cons c rest => exact ⟨c, rest, rfl⟩
    have hc : c ∈ twelve := pm.subset List.mem_cons_self
    refine ⟨r, _, _, V.str c, rfl, rfl, SqL.of er, atI_nat (j := 0) rfl, ?_⟩
    refine ⟨_, rfl, _, rfl, p, a, ns, t1, l1, c, rfl, P2, by omega, hc, fun t2 l2 H3 u3 u4 bb2 P3 => ⟨_, rfl, iteF ?_⟩⟩
    refine ⟨_, rfl, _, rfl, p, a, ns, t2, l2, c, rfl, P3, by omega, hc, fun t3 l3 H4 u5 u6 bb3 P4 => ⟨_, rfl, iteF ?_⟩⟩
    refine ⟨_, rfl, _, rfl, p, a, ns, t3, l3, c, rfl, P4, by omega, hc, fun t4 l4 H5 u7 u8 bb4 P5 => ⟨_, rfl, iteF ?_⟩⟩
    exact ⟨t4, l4, ⟨_, _, rfl⟩, P5, by omega, by omega⟩
  · rintro σ H' ⟨t, l, ⟨z2, z3, rfl⟩, PA, w1, w2⟩
    have hf0 : ∀ ev ∈ ([] : List (List V)), flatE ev := fun ev h => by cases h
    have hself : PyData.eqv (evD []) (evD []) = true := SeqAt.eqv_refl _ (SeqAt.canLay_of_shaped (ev_shaped [] hf0))
    have hnd : (sh0.homes.map (·.1)).Nodup := List.nodup_nil
    refine fun x dx nx ndx nexd => ⟨x, dx, "", sh0, rfl, upd_same, by decide, read0, fun HA PN eo => ⟨rfl, ?_⟩⟩
    have PA1 := PN.at_
    obtain ⟨dxx, tt, ss, qq, ex, etx, _⟩ := PN.ex
    refine ⟨x, dxx, _, rfl, ex, rfl, Nat.zero_le _, fun o1 h1 => ?_⟩
    refine ⟨x, o1, lay, "", sh0, [], 1, [], rfl, PA1.grow (Same.new (Same.refl HA) h1), SqL.of upd_same, DR.lay, by decide, hnd, by decide, run0 [], by decide, fun e1 HB he1 S1 hev1 => ⟨Nat.zero_le _, fun e2 he2 => ?_⟩⟩
    refine ⟨evD [], evD [], ev_dp (hev1.same (Same.new (Same.refl HB) he2)) hf0, ev_dp (EvAt.nil upd_same) hf0, ev_shaped [] hf0, ev_shaped [] hf0, _, rfl, ?_⟩
    rw [hself]
    generalize upd HB e2 (.lst []) = HC
    refine iteT fun y dy ny ndy neyd => ⟨y, dy, "", sh0, rfl, upd_same, by decide, read0, fun HD PN2 eo2 => ⟨rfl, ?_⟩⟩
    have PA2 := PN2.at_
    obtain ⟨dyy, tt2, ss2, qq2, ey, ety, _⟩ := PN2.ex
    refine ⟨y, dyy, _, rfl, ey, rfl, by rw [sizeLine_eq]; show 2 ≤ 16777216; decide, fun o2 h2 => ?_⟩
    refine ⟨y, o2, lay, "", sh0, [3, 0], 1, [], rfl, PA2.grow (Same.new (Same.refl HD) h2), SqL.of upd_same, DR.lay, by decide, hnd, by decide, run0 [3, 0], by decide, fun e3 HE he3 S3 hev3 => ⟨Nat.zero_le _, fun e4 he4 => ?_⟩⟩
    refine ⟨evD [], evD [], ev_dp (hev3.same (Same.new (Same.refl HE) he4)) hf0, ev_dp (EvAt.nil upd_same) hf0, ev_shaped [] hf0, ev_shaped [] hf0, _, rfl, ?_⟩
    rw [hself]
    generalize upd HE e4 (.lst []) = HF
    refine iteT fun z dz nz ndz nezd => ⟨z, dz, "", sh0, rfl, upd_same, by decide, read0, fun HG PN3 eo3 => ⟨rfl, ?_⟩⟩
    obtain ⟨dzz, tt3, ss3, qq3, ez, etz, _⟩ := PN3.ex
    refine ⟨z, Cp, dzz, _, _, rfl, ez, T.cp, T.nc, rfl, Nat.zero_le _, fun o3 h3 => ?_⟩
    have et3 : (upd HG o3 (.tup [])) tt3 = some (.tup []) := (upd_ne (ne_of_none etz h3)).trans etz
    exact ⟨.tuple [], .tuple [], .tup (SqT.of et3) .nil, .tup (SqT.of upd_same) .nil, by decide +kernel, by decide +kernel, k _⟩
end
end FP
set_option Elab.async false
set_option linter.all false
set_option maxRecDepth 100000
set_option maxHeartbeats 4000000
/-! Facts for the head: plain defs of the heap's functions; a written dict by its keys. -/
namespace FP
open PySem PySem.Spec PyProof.Rows L2
theorem fun_of {K : PySem.W.Frag} {x qual : Str} {st : Stmt} {f : Addr} {fd : FuncData} (F : FunD K x qual (defArgs st) (defBody st) (defScope st) [] [] f fd) : Fun K x qual st f fd := by
  obtain ⟨oc, od, dV, kV, doc, pm, an, cdv, ct, osl, e, l, c, hd, _⟩ := F.ex
  rcases hd with ⟨_, rfl⟩ | ⟨z, _⟩
  · exact ⟨⟨oc, od, kV, doc, pm, an, cdv, ct, osl, e, l, c⟩, F.kp⟩
  · exact absurd rfl z
/-- the entries of a written dict -/
def dictE (K : PySem.W.Frag) (a : Addr) : Option (List DictEntry) := match K.lookup a with
  | some ⟨c, d, .dict es _, sl⟩ => if c = .type "dict" ∧ d = none ∧ sl = #[] then some es.toList else none
  | _ => none
theorem dictE_ok {K : PySem.W.Frag} {a : Addr} {l : List DictEntry} (h : dictE K a = some l) : ∃ es n, K.lookup a = some ⟨.type "dict", none, .dict es n, #[]⟩ ∧ es.toList = l := by
  unfold dictE at h
  split at h
  · rename_i c d es n sl e
    split at h
    · rename_i z
      obtain ⟨rfl, rfl, rfl⟩ := z
      exact ⟨es, n, e, Option.some.inj h⟩
    · cases h
  · cases h
def keyS : Value → Option Str
  | .str s _ => some s
  | _ => none
theorem keyS_ok {v : Value} {s : Str} (h : keyS v = some s) : ∃ t, v = .str s t := by
  cases v with
  | str z t => exact ⟨t, by rw [Option.some.inj h]⟩
  | _ => cases h
/-- what is seen of an entry: its key, its hash, what g tells of its value -/
def seenE {β : Type} (g : Value → β) (e : DictEntry) : Option Str × Int × β := (keyS e.key, e.hash, g e.val)
def wantE {β : Type} (w : World) (p : Str × β) : Option Str × Int × β := (some p.1, PyData.keyHash w.params p.1, p.2)
theorem lit_of {β : Type} {w : World} {g : Value → β} : ∀ {l : List DictEntry} {ks : List (Str × β)}, l.map (seenE g) = ks.map (wantE w) → PySem.W.KeysLit w.params l
  | [], _, _ => trivial
  | e :: r, [], h => by cases h
  | e :: r, p :: ks, h => by
    rw [List.map_cons, List.map_cons] at h
    obtain ⟨h1, h2⟩ := List.cons.inj h
    obtain ⟨t, ht⟩ := keyS_ok (congrArg (·.1) h1)
    exact ⟨⟨p.1, t, ht, congrArg (·.2.1) h1⟩, lit_of h2⟩
theorem find_of {β : Type} {w : World} {g : Value → β} (z : Str) : ∀ {l : List DictEntry} {ks : List (Str × β)}, l.map (seenE g) = ks.map (wantE w) → (l.find? (·.key.isStr z)).map (fun e => g e.val) = ks.lookup z
  | [], [], _ => rfl
  | [], _ :: _, h => by cases h
  | e :: r, [], h => by cases h
  | e :: r, p :: ks, h => by
    rw [List.map_cons, List.map_cons] at h
    obtain ⟨h1, h2⟩ := List.cons.inj h
    obtain ⟨t, ht⟩ := keyS_ok (congrArg (·.1) h1)
    have hg : g e.val = p.2 := congrArg (·.2.2) h1
    have ih := find_of z h2
    obtain ⟨p1, p2⟩ := p
    have hs : e.key.isStr z = (z == p1) := by
      rw [ht]
      show (p1 == z) = (z == p1)
      exact Bool.beq_comm
    rw [List.find?_cons, List.lookup_cons, hs]
    cases z == p1 with
    | true => exact congrArg some hg
    | false => exact ih
theorem norefs {β : Type} {w : World} {g : Value → β} : ∀ {l : List DictEntry} {ks : List (Str × β)}, l.map (seenE g) = ks.map (wantE w) → l.any (·.refKey) = false
  | [], _, _ => rfl
  | e :: r, [], h => by cases h
  | e :: r, p :: ks, h => by
    rw [List.map_cons, List.map_cons] at h
    obtain ⟨h1, h2⟩ := List.cons.inj h
    obtain ⟨t, ht⟩ := keyS_ok (congrArg (·.1) h1)
    rw [List.any_cons, norefs h2, Bool.or_false]
    obtain ⟨hh, kk, vv⟩ := e
    replace ht : kk = .str p.1 t := ht
    subst ht
    rfl
theorem nsIn_of {β : Type} {K : PySem.W.Frag} {w : World} {g : Value → β} {a : Addr} {es : Array DictEntry} {n : Nat} {ks : List (Str × β)} (e : K.lookup a = some ⟨.type "dict", none, .dict es n, #[]⟩) (h : es.toList.map (seenE g) = ks.map (wantE w)) (z : Str) :
    ∃ r, PySem.W.nsIn K a z = some r ∧ r.map g = ks.lookup z := by
  have hf := find_of z h
  unfold PySem.W.nsIn
  rw [e]
  dsimp only
  cases q : es.toList.find? (·.key.isStr z) with
  | some en =>
    rw [q] at hf
    exact ⟨some en.val, rfl, hf⟩
  | none =>
    rw [q] at hf
    refine ⟨none, ?_, hf⟩
    rw [norefs h]
    rfl
end FP
set_option Elab.async false
set_option linter.all false
set_option maxRecDepth 100000
set_option maxHeartbeats 0
/-! The facts of the top, by names (printed by gen_head.py). -/
namespace FP
open PySem PySem.Spec PyProof.Rows L2
def layA (m : Str) (K : PySem.W.Frag) : Addr := match K.lookup (He.fAd K ("Program", some m)) with
  | some ⟨_, _, .func fd, _⟩ => (match fd.kwdefaults with
    | .ref D => (match PySem.W.nsIn K D "layout" with
      | some (some (.ref a)) => a
      | _ => 0)
    | _ => 0)
  | _ => 0
def strV : Value → Option Str
  | .str s _ => some s
  | _ => none
/-- the texts of a written tuple -/
def tupS (K : PySem.W.Frag) : Value → Option (List (Option Str))
  | .ref a => (match K.lookup a with
    | some ⟨c, _, .seq its _, _⟩ => if c = .type "tuple" ∧ its.size ≤ 1000 then some (its.toList.map strV) else none
    | _ => none)
  | _ => none
theorem vals_strs : ∀ {l : List Value} {ss : List Str}, l.map strV = ss.map some → Vals (ss.map V.str) l
  | [], [], _ => .nil
  | [], _ :: _, h => by cases h
  | _ :: _, [], h => by cases h
  | v :: l, s :: ss, h => by
    rw [List.map_cons, List.map_cons] at h
    obtain ⟨h1, h2⟩ := List.cons.inj h
    refine .cons ?_ (vals_strs h2)
    cases v with
    | str z t => exact ⟨t, by rw [← Option.some.inj h1]⟩
    | _ => cases h1
theorem tupS_ok {K : PySem.W.Frag} {v : Value} {ss : List Str} (h : tupS K v = some (ss.map some)) : ∃ a, v = .ref a ∧ ∀ H, SqT K H a (ss.map V.str) := by
  cases v with
  | ref a =>
    refine ⟨a, rfl, fun H => .inr ?_⟩
    unfold tupS at h
    dsimp only at h
    split at h
    · rename_i c d its n sl e
      split at h
      · rename_i z
        exact ⟨_, its, n, e, z.1, rfl, Nat.le_trans z.2 (by decide), vals_strs (Option.some.inj h)⟩
      · cases h
    · cases h
  | _ => cases h
def linesN : List (Str × Str) := [("input", "_do_input"), ("copy", "_do_copy"), ("point", "_do_point"), ("load", "_do_load"), ("store", "_do_store"), ("use", "_do_use"), ("call", "_do_call"), ("same", "_do_same"), ("loop", "_do_loop"), ("maybe", "_do_maybe")]
def nameA (K : PySem.W.Frag) : Value → Option Str
  | .ref a => (linesN.map (·.2)).find? fun x => decide (He.ga K x = a)
  | _ => none
theorem nameA_ok {K : PySem.W.Frag} {v : Value} {x : Str} (h : nameA K v = some x) : v = .ref (He.ga K x) := by
  cases v with
  | ref a =>
    have := List.find?_some h
    rw [of_decide_eq_true this]
  | _ => cases h

def dd (a : Str × Option Str) (n q : Str) (st : Stmt) (kwd : List (Str × He.Dv)) : He.DefD := ⟨a, n, q, defArgs st, defBody st, defScope st, [], kwd⟩

def fnL0 : List He.DefD := [dd ("check_layout", none) "check_layout" "check_layout" sCheck [],
  dd ("places_in", none) "places_in" "places_in" sPlaces [],
  dd ("is_name", none) "is_name" "is_name" sIsName [],
  dd ("lines_of", none) "lines_of" "lines_of" sLines [],
  dd ("fits", none) "fits" "fits" sFits [],
  dd ("read_sheet", none) "read_sheet" "read_sheet" sRead [],
  dd ("_do_input", none) "_do_input" "_do_input" sDoInput [],
  dd ("_do_use", none) "_do_use" "_do_use" sDoUse [],
  dd ("_do_loop", none) "_do_loop" "_do_loop" sDoLoop [],
  dd ("_do_maybe", none) "_do_maybe" "_do_maybe" sDoMaybe [],
  dd ("advance", none) "advance" "advance" sAdvance [],
  dd ("_law_begun_pen", none) "_law_begun_pen" "_law_begun_pen" sPen [],
  dd ("_law_draw", none) "_law_draw" "_law_draw" sDraw [],
  dd ("_law_pick", none) "_law_pick" "_law_pick" sPick [],
  dd ("_law_shuffled", none) "_law_shuffled" "_law_shuffled" sShuf [],
  dd ("_law_new_names", none) "_law_new_names" "_law_new_names" sNames [],
  dd ("_law_other_number", none) "_law_other_number" "_law_other_number" sOtherNumber [],
  dd ("_law_rounds_right", none) "_law_rounds_right" "_law_rounds_right" sRoundsRight [],
  dd ("_law_sides_right", none) "_law_sides_right" "_law_sides_right" sSidesRight [],
  dd ("_law_empty_right", none) "_law_empty_right" "_law_empty_right" sEmptyRight []]

def fnL1 : List He.DefD := [dd ("law", none) "law" "law" sLaw [],
  dd ("Row", some "__init__") "__init__" "Row.__init__" mRow_init [],
  dd ("Sheet", some "__init__") "__init__" "Sheet.__init__" mSheet_init [],
  dd ("Sheet", some "is_closed") "is_closed" "Sheet.is_closed" mSheet_is_closed [],
  dd ("Sheet", some "take_line") "take_line" "Sheet.take_line" mSheet_take_line [],
  dd ("Sheet", some "find_ways") "find_ways" "Sheet.find_ways" mSheet_find_ways [],
  dd ("Sheet", some "_landing") "_landing" "Sheet._landing" mSheet_landing [],
  dd ("Sheet", some "_declare") "_declare" "Sheet._declare" mSheet_declare [],
  dd ("Sheet", some "_take_row") "_take_row" "Sheet._take_row" mSheet_take_row [],
  dd ("Sheet", some "_is_seen") "_is_seen" "Sheet._is_seen" mSheet_is_seen [],
  dd ("Sheet", some "_open_block") "_open_block" "Sheet._open_block" mSheet_open_block [],
  dd ("Sheet", some "_turn") "_turn" "Sheet._turn" mSheet_turn [],
  dd ("Sheet", some "_close_block") "_close_block" "Sheet._close_block" mSheet_close_block [],
  dd ("Choices", some "__init__") "__init__" "Choices.__init__" mChoices_init [],
  dd ("Choices", some "take") "take" "Choices.take" mChoices_take [],
  dd ("Run", some "__init__") "__init__" "Run.__init__" mRun_init [],
  dd ("Run", some "worth") "worth" "Run.worth" mRun_worth [],
  dd ("Run", some "read") "read" "Run.read" mRun_read [],
  dd ("Run", some "write") "write" "Run.write" mRun_write [],
  dd ("Run", some "stop") "stop" "Run.stop" mRun_stop []]

def fnL2 : List He.DefD := [dd ("Program", some "__init__") "__init__" "Program.__init__" mProgram_init [],
  dd ("Program", some "run") "run" "Program.run" mProgram_run [("layout", .adr (layA "run"))],
  dd ("Program", some "steps") "steps" "Program.steps" mProgram_steps [("layout", .adr (layA "steps"))],
  dd ("Program", some "_hold") "_hold" "Program._hold" mProgram_hold []]

def fnL : List He.DefD := fnL0 ++ (fnL1 ++ (fnL2))

def faL0 : List He.Fa := [.glo "check_layout",
  .glo "places_in",
  .glo "is_name",
  .glo "lines_of",
  .glo "fits",
  .glo "read_sheet",
  .glo "_do_input",
  .glo "_do_use",
  .glo "_do_loop",
  .glo "_do_maybe",
  .glo "advance",
  .glo "_law_begun_pen",
  .glo "_law_draw",
  .glo "_law_pick",
  .glo "_law_shuffled",
  .glo "_law_new_names",
  .glo "_law_other_number",
  .glo "_law_rounds_right",
  .glo "_law_sides_right",
  .glo "_law_empty_right"]

def faL1 : List He.Fa := [.glo "law",
  .glo "Row",
  .cls "Row",
  .mkr "Row",
  .glo "Sheet",
  .cls "Sheet",
  .mkr "Sheet",
  .glo "Choices",
  .cls "Choices",
  .mkr "Choices",
  .glo "Run",
  .cls "Run",
  .mkr "Run",
  .glo "Program",
  .cls "Program",
  .mkr "Program",
  .glo "WORDS",
  .glo "TWO_SIDED",
  .glo "PASSED",
  .glo "OPENING"]

def faL2 : List He.Fa := [.glo "FORMS",
  .glo "LINES",
  .free "len",
  .free "all",
  .free "zip",
  .free "enumerate",
  .free "list",
  .free "tuple",
  .free "int",
  .free "abs",
  .free "range",
  .int "LONGEST_NAME" 12,
  .int "MOST_CELLS" 5,
  .int "MOST_OPEN" 5,
  .int "MOST_LINES" 40,
  .noat "Row" "word",
  .noat "Row" "names",
  .noat "Row" "after",
  .noat "Row" "other",
  .noat "Sheet" "rows"]

def faL3 : List He.Fa := [.noat "Sheet" "homes",
  .noat "Sheet" "around",
  .noat "Sheet" "_nest",
  .noat "Choices" "_left",
  .noat "Run" "line",
  .noat "Run" "calling",
  .noat "Run" "known",
  .noat "Run" "_places",
  .noat "Run" "_held",
  .noat "Program" "text",
  .noat "Program" "cells",
  .noat "Program" "sheet",
  .meth "Sheet" "is_closed",
  .meth "Sheet" "take_line",
  .meth "Sheet" "find_ways",
  .meth "Sheet" "_landing",
  .meth "Sheet" "_declare",
  .meth "Sheet" "_take_row",
  .meth "Sheet" "_is_seen",
  .meth "Sheet" "_open_block"]

def faL4 : List He.Fa := [.meth "Sheet" "_turn",
  .meth "Sheet" "_close_block",
  .meth "Choices" "take",
  .meth "Run" "worth",
  .meth "Run" "read",
  .meth "Run" "write",
  .meth "Run" "stop",
  .meth "Program" "run",
  .meth "Program" "steps",
  .meth "Program" "_hold"]

def faL : List He.Fa := faL0 ++ (faL1 ++ (faL2 ++ (faL3 ++ (faL4))))

abbrev Al5 : Type := He.AlD × List (Option (List (Option Str))) × Option (List (Option Str × Int × Option (List (Option Str)))) × Option (List (Option Str × Int × Option Str))
def obs5 (K : PySem.W.Frag) : Al5 := (He.obsD faL fnL K, [tupS K (.ref (He.ga K "WORDS")), tupS K (.ref (He.ga K "TWO_SIDED")), tupS K (.ref (He.ga K "PASSED")), tupS K (.ref (He.ga K "OPENING")), tupS K (.ref (layA "run" K))],
  (dictE K (He.ga K "FORMS")).map fun l => l.map (seenE (tupS K)), (dictE K (He.ga K "LINES")).map fun l => l.map (seenE (nameA K)))
def val5 (w : World) : Al5 := (He.valD fnL, [some (wordsL.map some), some (twoL.map some), some (passL.map some), some (openL.map some), some []], some (formsL.map fun p => wantE w (p.1, some (p.2.map some))), some (linesN.map fun p => wantE w (p.1, some p.2)))
def hook5 : PySem.W.Hook where
  α := Al5
  obs := fun s => obs5 (He.frG s.heap.get? (He.asD s.heap.get? 6))
  val := val5
  says := fun w h => ∃ K : PySem.W.Frag, K.In h ∧ obs5 K = val5 w
  of := fun _ _ e => ⟨_, He.frG_in, e⟩
  keeps := fun _ _ _ ⟨K, hK, c⟩ k => ⟨K, PySem.W.Frag.In.keeps hK k, c⟩
def ob5 (s : PySem.W.SharedT) : Al5 := obs5 (He.frG (HandSHeadRun.getT s) (He.asD (HandSHeadRun.getT s) 6))
theorem ob5_eq (s : PySem.W.SharedT) : ob5 s = hook5.obs s.abs := by
  have e : HandSHeadRun.getT s = s.abs.heap.get? := funext (HandSHeadRun.getT_eq s)
  show obs5 _ = obs5 _
  rw [e]

end FP
set_option Elab.async false
set_option linter.all false
set_option maxRecDepth 100000
set_option maxHeartbeats 8000000
namespace FP
open PySem PySem.Spec PyProof.Rows L2
theorem lookup_map {β γ : Type} {g : β → γ} : ∀ {l : List (Str × β)} (z : Str), (l.map fun p => (p.1, g p.2)).lookup z = (l.lookup z).map g
  | [], _ => rfl
  | p :: r, z => by
    obtain ⟨a, b⟩ := p
    rw [List.map_cons, List.lookup_cons, List.lookup_cons]
    cases z == a with
    | true => rfl
    | false => exact lookup_map (l := r) z
theorem facts5 {P : Program} {w : World} {K : PySem.W.Frag} {h : Heap} {mg : Str → Option Value} {f : Addr} (X : K.In h) (G : h.Ns mainGlobals mg) (hfa : mg ("law" : Str) = some (.ref f)) (c : obs5 K = val5 w) (lowF : (He.ga K "FORMS" == sysModules) = false) :
    ∃ fd : FuncData, (∀ (s : Shared) (v : Value), BindsTo s fd ⟨[v], []⟩ [("_law_script", v)]) ∧ ∀ base : Heap, K.In base → base.Ns mainGlobals mg → FnOk P w K mg base CX0 11 f fd ["_law_script"] (spLaw5 K) := by
  have cD : He.SaysD faL fnL K := congrArg (fun z : Al5 => z.1) c
  have cT := congrArg (fun z : Al5 => z.2.1) c
  have cF := congrArg (fun z : Al5 => z.2.2.1) c
  have cL := congrArg (fun z : Al5 => z.2.2.2) c
  have e := hfa.symm.trans (He.glo_ok X G (cD.fact 20 (f := .glo "law") rfl))
  cases e
  obtain ⟨fd0, G0⟩ := cD.def_ 0 (d := dd ("check_layout", none) "check_layout" "check_layout" sCheck []) rfl
  have F0 := fun_of (st := sCheck) G0
  obtain ⟨fd1, G1⟩ := cD.def_ 1 (d := dd ("places_in", none) "places_in" "places_in" sPlaces []) rfl
  have F1 := fun_of (st := sPlaces) G1
  obtain ⟨fd2, G2⟩ := cD.def_ 2 (d := dd ("is_name", none) "is_name" "is_name" sIsName []) rfl
  have F2 := fun_of (st := sIsName) G2
  obtain ⟨fd3, G3⟩ := cD.def_ 3 (d := dd ("lines_of", none) "lines_of" "lines_of" sLines []) rfl
  have F3 := fun_of (st := sLines) G3
  obtain ⟨fd4, G4⟩ := cD.def_ 4 (d := dd ("fits", none) "fits" "fits" sFits []) rfl
  have F4 := fun_of (st := sFits) G4
  obtain ⟨fd5, G5⟩ := cD.def_ 5 (d := dd ("read_sheet", none) "read_sheet" "read_sheet" sRead []) rfl
  have F5 := fun_of (st := sRead) G5
  obtain ⟨fd6, G6⟩ := cD.def_ 6 (d := dd ("_do_input", none) "_do_input" "_do_input" sDoInput []) rfl
  have F6 := fun_of (st := sDoInput) G6
  obtain ⟨fd7, G7⟩ := cD.def_ 7 (d := dd ("_do_use", none) "_do_use" "_do_use" sDoUse []) rfl
  have F7 := fun_of (st := sDoUse) G7
  obtain ⟨fd8, G8⟩ := cD.def_ 8 (d := dd ("_do_loop", none) "_do_loop" "_do_loop" sDoLoop []) rfl
  have F8 := fun_of (st := sDoLoop) G8
  obtain ⟨fd9, G9⟩ := cD.def_ 9 (d := dd ("_do_maybe", none) "_do_maybe" "_do_maybe" sDoMaybe []) rfl
  have F9 := fun_of (st := sDoMaybe) G9
  obtain ⟨fd10, G10⟩ := cD.def_ 10 (d := dd ("advance", none) "advance" "advance" sAdvance []) rfl
  have F10 := fun_of (st := sAdvance) G10
  obtain ⟨fd11, G11⟩ := cD.def_ 11 (d := dd ("_law_begun_pen", none) "_law_begun_pen" "_law_begun_pen" sPen []) rfl
  have F11 := fun_of (st := sPen) G11
  obtain ⟨fd12, G12⟩ := cD.def_ 12 (d := dd ("_law_draw", none) "_law_draw" "_law_draw" sDraw []) rfl
  have F12 := fun_of (st := sDraw) G12
  obtain ⟨fd13, G13⟩ := cD.def_ 13 (d := dd ("_law_pick", none) "_law_pick" "_law_pick" sPick []) rfl
  have F13 := fun_of (st := sPick) G13
  obtain ⟨fd14, G14⟩ := cD.def_ 14 (d := dd ("_law_shuffled", none) "_law_shuffled" "_law_shuffled" sShuf []) rfl
  have F14 := fun_of (st := sShuf) G14
  obtain ⟨fd15, G15⟩ := cD.def_ 15 (d := dd ("_law_new_names", none) "_law_new_names" "_law_new_names" sNames []) rfl
  have F15 := fun_of (st := sNames) G15
  obtain ⟨fd16, G16⟩ := cD.def_ 16 (d := dd ("_law_other_number", none) "_law_other_number" "_law_other_number" sOtherNumber []) rfl
  have F16 := fun_of (st := sOtherNumber) G16
  obtain ⟨fd17, G17⟩ := cD.def_ 17 (d := dd ("_law_rounds_right", none) "_law_rounds_right" "_law_rounds_right" sRoundsRight []) rfl
  have F17 := fun_of (st := sRoundsRight) G17
  obtain ⟨fd18, G18⟩ := cD.def_ 18 (d := dd ("_law_sides_right", none) "_law_sides_right" "_law_sides_right" sSidesRight []) rfl
  have F18 := fun_of (st := sSidesRight) G18
  obtain ⟨fd19, G19⟩ := cD.def_ 19 (d := dd ("_law_empty_right", none) "_law_empty_right" "_law_empty_right" sEmptyRight []) rfl
  have F19 := fun_of (st := sEmptyRight) G19
  obtain ⟨fd20, G20⟩ := cD.def_ 20 (d := dd ("law", none) "law" "law" sLaw []) rfl
  have F20 := fun_of (st := sLaw) G20
  obtain ⟨fd21, G21⟩ := cD.def_ 21 (d := dd ("Row", some "__init__") "__init__" "Row.__init__" mRow_init []) rfl
  have F21 := fun_of (st := mRow_init) G21
  obtain ⟨fd22, G22⟩ := cD.def_ 22 (d := dd ("Sheet", some "__init__") "__init__" "Sheet.__init__" mSheet_init []) rfl
  have F22 := fun_of (st := mSheet_init) G22
  obtain ⟨fd23, G23⟩ := cD.def_ 23 (d := dd ("Sheet", some "is_closed") "is_closed" "Sheet.is_closed" mSheet_is_closed []) rfl
  have F23 := fun_of (st := mSheet_is_closed) G23
  obtain ⟨fd24, G24⟩ := cD.def_ 24 (d := dd ("Sheet", some "take_line") "take_line" "Sheet.take_line" mSheet_take_line []) rfl
  have F24 := fun_of (st := mSheet_take_line) G24
  obtain ⟨fd25, G25⟩ := cD.def_ 25 (d := dd ("Sheet", some "find_ways") "find_ways" "Sheet.find_ways" mSheet_find_ways []) rfl
  have F25 := fun_of (st := mSheet_find_ways) G25
  obtain ⟨fd26, G26⟩ := cD.def_ 26 (d := dd ("Sheet", some "_landing") "_landing" "Sheet._landing" mSheet_landing []) rfl
  have F26 := fun_of (st := mSheet_landing) G26
  obtain ⟨fd27, G27⟩ := cD.def_ 27 (d := dd ("Sheet", some "_declare") "_declare" "Sheet._declare" mSheet_declare []) rfl
  have F27 := fun_of (st := mSheet_declare) G27
  obtain ⟨fd28, G28⟩ := cD.def_ 28 (d := dd ("Sheet", some "_take_row") "_take_row" "Sheet._take_row" mSheet_take_row []) rfl
  have F28 := fun_of (st := mSheet_take_row) G28
  obtain ⟨fd29, G29⟩ := cD.def_ 29 (d := dd ("Sheet", some "_is_seen") "_is_seen" "Sheet._is_seen" mSheet_is_seen []) rfl
  have F29 := fun_of (st := mSheet_is_seen) G29
  obtain ⟨fd30, G30⟩ := cD.def_ 30 (d := dd ("Sheet", some "_open_block") "_open_block" "Sheet._open_block" mSheet_open_block []) rfl
  have F30 := fun_of (st := mSheet_open_block) G30
  obtain ⟨fd31, G31⟩ := cD.def_ 31 (d := dd ("Sheet", some "_turn") "_turn" "Sheet._turn" mSheet_turn []) rfl
  have F31 := fun_of (st := mSheet_turn) G31
  obtain ⟨fd32, G32⟩ := cD.def_ 32 (d := dd ("Sheet", some "_close_block") "_close_block" "Sheet._close_block" mSheet_close_block []) rfl
  have F32 := fun_of (st := mSheet_close_block) G32
  obtain ⟨fd33, G33⟩ := cD.def_ 33 (d := dd ("Choices", some "__init__") "__init__" "Choices.__init__" mChoices_init []) rfl
  have F33 := fun_of (st := mChoices_init) G33
  obtain ⟨fd34, G34⟩ := cD.def_ 34 (d := dd ("Choices", some "take") "take" "Choices.take" mChoices_take []) rfl
  have F34 := fun_of (st := mChoices_take) G34
  obtain ⟨fd35, G35⟩ := cD.def_ 35 (d := dd ("Run", some "__init__") "__init__" "Run.__init__" mRun_init []) rfl
  have F35 := fun_of (st := mRun_init) G35
  obtain ⟨fd36, G36⟩ := cD.def_ 36 (d := dd ("Run", some "worth") "worth" "Run.worth" mRun_worth []) rfl
  have F36 := fun_of (st := mRun_worth) G36
  obtain ⟨fd37, G37⟩ := cD.def_ 37 (d := dd ("Run", some "read") "read" "Run.read" mRun_read []) rfl
  have F37 := fun_of (st := mRun_read) G37
  obtain ⟨fd38, G38⟩ := cD.def_ 38 (d := dd ("Run", some "write") "write" "Run.write" mRun_write []) rfl
  have F38 := fun_of (st := mRun_write) G38
  obtain ⟨fd39, G39⟩ := cD.def_ 39 (d := dd ("Run", some "stop") "stop" "Run.stop" mRun_stop []) rfl
  have F39 := fun_of (st := mRun_stop) G39
  obtain ⟨fd40, G40⟩ := cD.def_ 40 (d := dd ("Program", some "__init__") "__init__" "Program.__init__" mProgram_init []) rfl
  have F40 := fun_of (st := mProgram_init) G40
  obtain ⟨fd41, G41⟩ := cD.def_ 41 (d := dd ("Program", some "run") "run" "Program.run" mProgram_run [("layout", .adr (layA "run"))]) rfl
  obtain ⟨fd42, G42⟩ := cD.def_ 42 (d := dd ("Program", some "steps") "steps" "Program.steps" mProgram_steps [("layout", .adr (layA "steps"))]) rfl
  obtain ⟨fd43, G43⟩ := cD.def_ 43 (d := dd ("Program", some "_hold") "_hold" "Program._hold" mProgram_hold []) rfl
  have F43 := fun_of (st := mProgram_hold) G43
  have hb : ∀ (s : Shared) (v : Value), BindsTo s fd20 ⟨[v], []⟩ [("_law_script", v)] := fun s v => (FunD.bindsA (ps := ["_law_script"]) G20 fun _ _ _ _ _ _ us hl => match us, hl with | [_], _ => rfl) s [v] rfl
  refine ⟨fd20, hb, fun base _ _ => ?_⟩
  have eW : tupS K (.ref (He.ga K "WORDS")) = some (wordsL.map some) := (List.cons.inj cT).1
  have eT : tupS K (.ref (He.ga K "TWO_SIDED")) = some (twoL.map some) := (List.cons.inj (List.cons.inj cT).2).1
  have eP : tupS K (.ref (He.ga K "PASSED")) = some (passL.map some) := (List.cons.inj (List.cons.inj (List.cons.inj cT).2).2).1
  have eO : tupS K (.ref (He.ga K "OPENING")) = some (openL.map some) := (List.cons.inj (List.cons.inj (List.cons.inj (List.cons.inj cT).2).2).2).1
  have eY : tupS K (.ref (layA "run" K)) = some (([] : List Str).map some) := (List.cons.inj (List.cons.inj (List.cons.inj (List.cons.inj (List.cons.inj cT).2).2).2).2).1
  have tup : ∀ {a : Addr} {ss : List Str}, tupS K (.ref a) = some (ss.map some) → ∀ H, SqT K H a (ss.map V.str) := fun e => by
    obtain ⟨a', h1, h2⟩ := tupS_ok e
    cases h1
    exact h2
  have B : Blt mg := ⟨(He.free_ok X G (cD.fact 48 (f := .free "int") rfl)), (He.free_ok X G (cD.fact 42 (f := .free "len") rfl)), (He.free_ok X G (cD.fact 49 (f := .free "abs") rfl)), (He.free_ok X G (cD.fact 46 (f := .free "list") rfl))⟩
  have B2 : Blt2 mg := ⟨(He.free_ok X G (cD.fact 42 (f := .free "len") rfl)), (He.free_ok X G (cD.fact 43 (f := .free "all") rfl)), (He.free_ok X G (cD.fact 44 (f := .free "zip") rfl)), (He.free_ok X G (cD.fact 45 (f := .free "enumerate") rfl)), (He.free_ok X G (cD.fact 46 (f := .free "list") rfl)), (He.free_ok X G (cD.fact 47 (f := .free "tuple") rfl))⟩
  have W : WordsAt K mg (He.ga K "WORDS") := ⟨(He.glo_ok X G (cD.fact 36 (f := .glo "WORDS") rfl)), tup eW, (He.int_ok X G (cD.fact 51 (f := .int "LONGEST_NAME" 12) rfl))⟩
  have C : Csts K mg (He.ga K "TWO_SIDED") (He.ga K "PASSED") (He.ga K "OPENING") := ⟨(He.int_ok X G (cD.fact 52 (f := .int "MOST_CELLS" 5) rfl)), (He.int_ok X G (cD.fact 53 (f := .int "MOST_OPEN" 5) rfl)), (He.glo_ok X G (cD.fact 37 (f := .glo "TWO_SIDED") rfl)), tup eT, (He.glo_ok X G (cD.fact 38 (f := .glo "PASSED") rfl)), tup eP, (He.glo_ok X G (cD.fact 39 (f := .glo "OPENING") rfl)), tup eO⟩
  have T : ShTxt K mg (He.ga K "Row") (He.ga K "Sheet") := ⟨(He.cls_ok (cD.fact 22 (f := .cls "Row") rfl)), (He.cls_ok (cD.fact 25 (f := .cls "Sheet") rfl)), (He.glo_ok X G (cD.fact 21 (f := .glo "Row") rfl)), (He.glo_ok X G (cD.fact 24 (f := .glo "Sheet") rfl)), (He.noat_ok (cD.fact 55 (f := .noat "Row" "word") rfl)), (He.noat_ok (cD.fact 56 (f := .noat "Row" "names") rfl)), (He.noat_ok (cD.fact 57 (f := .noat "Row" "after") rfl)), (He.noat_ok (cD.fact 58 (f := .noat "Row" "other") rfl)), (He.noat_ok (cD.fact 59 (f := .noat "Sheet" "rows") rfl)), (He.noat_ok (cD.fact 60 (f := .noat "Sheet" "homes") rfl)), (He.noat_ok (cD.fact 61 (f := .noat "Sheet" "around") rfl)), (He.noat_ok (cD.fact 62 (f := .noat "Sheet" "_nest") rfl))⟩
  have TN : RnTxt K mg (He.ga K "Run") (He.ga K "Choices") := ⟨(He.cls_ok (cD.fact 31 (f := .cls "Run") rfl)), (He.cls_ok (cD.fact 28 (f := .cls "Choices") rfl)), (He.glo_ok X G (cD.fact 30 (f := .glo "Run") rfl)), (He.glo_ok X G (cD.fact 27 (f := .glo "Choices") rfl)), (He.noat_ok (cD.fact 64 (f := .noat "Run" "line") rfl)), (He.noat_ok (cD.fact 65 (f := .noat "Run" "calling") rfl)), (He.noat_ok (cD.fact 66 (f := .noat "Run" "known") rfl)), (He.noat_ok (cD.fact 67 (f := .noat "Run" "_places") rfl)), (He.noat_ok (cD.fact 68 (f := .noat "Run" "_held") rfl)), (He.noat_ok (cD.fact 63 (f := .noat "Choices" "_left") rfl))⟩
  have TP : PgTxt K mg (He.ga K "Program") := ⟨(He.cls_ok (cD.fact 34 (f := .cls "Program") rfl)), (He.glo_ok X G (cD.fact 33 (f := .glo "Program") rfl)), (He.noat_ok (cD.fact 69 (f := .noat "Program" "text") rfl)), (He.noat_ok (cD.fact 70 (f := .noat "Program" "cells") rfl)), (He.noat_ok (cD.fact 71 (f := .noat "Program" "sheet") rfl)), (He.int_ok X G (cD.fact 54 (f := .int "MOST_LINES" 40) rfl))⟩
  have TR : RwTxt K (He.ga K "Row") := ⟨(He.cls_ok (cD.fact 22 (f := .cls "Row") rfl)), (He.noat_ok (cD.fact 56 (f := .noat "Row" "names") rfl)), (He.noat_ok (cD.fact 57 (f := .noat "Row" "after") rfl)), (He.noat_ok (cD.fact 58 (f := .noat "Row" "other") rfl))⟩
  obtain ⟨lF, hF1, hF2⟩ := Option.map_eq_some_iff.mp cF
  obtain ⟨esF, nF, lkF, rfl⟩ := dictE_ok hF1
  obtain ⟨lL, hL1, hL2⟩ := Option.map_eq_some_iff.mp cL
  obtain ⟨esL, nL, lkL, rfl⟩ := dictE_ok hL1
  replace hF2 : esF.toList.map (seenE (tupS K)) = (formsL.map fun p => (p.1, some (p.2.map some))).map (wantE w) := hF2.trans (by rw [List.map_map]; rfl)
  replace hL2 : esL.toList.map (seenE (nameA K)) = (linesN.map fun p => (p.1, some p.2)).map (wantE w) := hL2.trans (by rw [List.map_map]; rfl)
  have lookF : ∀ z : Str, (formsL.map fun p => (p.1, some (p.2.map some))).lookup z = (formsL.lookup z).map fun l => some (l.map some) := fun z => lookup_map (g := fun l : List Str => some (l.map some)) z
  have FA : FormsAt K w mg (He.ga K "FORMS") esF nF := by
    refine ⟨(He.glo_ok X G (cD.fact 40 (f := .glo "FORMS") rfl)), ⟨lkF, lit_of hF2, lowF⟩, fun z => ?_, fun z form hz => ?_⟩
    · obtain ⟨r, h1, h2⟩ := nsIn_of lkF hF2 z
      refine ⟨r, h1, ?_⟩
      have := congrArg Option.isSome h2
      rw [lookF, Option.isSome_map, Option.isSome_map] at this
      exact this
    · obtain ⟨r, h1, h2⟩ := nsIn_of lkF hF2 z
      rw [lookF, hz] at h2
      obtain ⟨v, rfl, hv⟩ := Option.map_eq_some_iff.mp h2
      obtain ⟨t, rfl, ht⟩ := tupS_ok hv
      exact ⟨t, ⟨esF, nF, _, lkF, lit_of hF2, h1, rfl⟩, ht⟩
  have kdL : ∀ (z x : Str), linesN.lookup z = some x → KDct K w (He.ga K "LINES") z (.ref (He.ga K x)) := fun z x hz => by
    obtain ⟨r, h1, h2⟩ := nsIn_of lkL hL2 z
    have hl : (linesN.map fun p => (p.1, some p.2)).lookup z = (linesN.lookup z).map some := lookup_map z
    rw [hl, hz] at h2
    obtain ⟨v, rfl, hv⟩ := Option.map_eq_some_iff.mp h2
    rw [nameA_ok hv] at h1
    exact ⟨esL, nL, _, lkL, lit_of hL2, h1, rfl⟩
  have dIsName : Def P w K mg base "is_name" 1 ["text"] (spIsName) := ⟨_, fd2, (He.glo_ok X G (cD.fact 2 (f := .glo "is_name") rfl)), F2.kp, F2.binds (fun _ _ _ _ _ _ us hl => match us, hl with | [_], _ => rfl), ok_isName F2 B2 W⟩
  have dLines : Def P w K mg base "lines_of" 1 ["text"] (spLines) := ⟨_, fd3, (He.glo_ok X G (cD.fact 3 (f := .glo "lines_of") rfl)), F3.kp, F3.binds (fun _ _ _ _ _ _ us hl => match us, hl with | [_], _ => rfl), ok_lines F3⟩
  have dFits : Def P w K mg base "fits" 1 ["words", "form"] (spFits K) := ⟨_, fd4, (He.glo_ok X G (cD.fact 4 (f := .glo "fits") rfl)), F4.kp, F4.binds (fun _ _ _ _ _ _ us hl => match us, hl with | [_, _], _ => rfl), ok_fits F4 B2⟩
  have cRowI : CDef P w K mg base (He.ga K "Row") 1 ["self", "word", "names", "number"] (spRow (He.ga K "Row")) := ⟨_, fd21, (He.mkr_ok (cD.fact 23 (f := .mkr "Row") rfl)), F21.binds (fun _ _ _ _ _ _ us hl => match us, hl with | [_, _, _, _], _ => rfl), ok_rowInit F21 T⟩
  have mClosed : MDef P w K mg base (He.ga K "Sheet") "is_closed" 1 ["self"] (spClosed (He.ga K "Row") (He.ga K "Sheet")) := ⟨_, fd23, (He.meth_ok (cD.fact 72 (f := .meth "Sheet" "is_closed") rfl)), F23.binds (fun _ _ _ _ _ _ us hl => match us, hl with | [_], _ => rfl), ok_closed F23 T B2⟩
  have mSeen : MDef P w K mg base (He.ga K "Sheet") "_is_seen" 1 ["self", "name"] (spSeen (He.ga K "Row") (He.ga K "Sheet")) := ⟨_, fd29, (He.meth_ok (cD.fact 78 (f := .meth "Sheet" "_is_seen") rfl)), F29.binds (fun _ _ _ _ _ _ us hl => match us, hl with | [_, _], _ => rfl), ok_seen F29 T⟩
  have mOpen : MDef P w K mg base (He.ga K "Sheet") "_open_block" 1 ["self", "number"] (spStep (He.ga K "Row") (He.ga K "Sheet") openM preOpen) := ⟨_, fd30, (He.meth_ok (cD.fact 79 (f := .meth "Sheet" "_open_block") rfl)), F30.binds (fun _ _ _ _ _ _ us hl => match us, hl with | [_, _], _ => rfl), ok_open F30 T C B2⟩
  have mTurn : MDef P w K mg base (He.ga K "Sheet") "_turn" 1 ["self", "number"] (spStep (He.ga K "Row") (He.ga K "Sheet") turnM preTurn) := ⟨_, fd31, (He.meth_ok (cD.fact 80 (f := .meth "Sheet" "_turn") rfl)), F31.binds (fun _ _ _ _ _ _ us hl => match us, hl with | [_, _], _ => rfl), ok_turn F31 T C B2⟩
  have mClose : MDef P w K mg base (He.ga K "Sheet") "_close_block" 1 ["self", "number"] (spStep (He.ga K "Row") (He.ga K "Sheet") closeM preClose) := ⟨_, fd32, (He.meth_ok (cD.fact 81 (f := .meth "Sheet" "_close_block") rfl)), F32.binds (fun _ _ _ _ _ _ us hl => match us, hl with | [_, _], _ => rfl), ok_close F32 T⟩
  have mDecl : MDef P w K mg base (He.ga K "Sheet") "_declare" 3 ["self", "names"] (spDeclare (He.ga K "Row") (He.ga K "Sheet")) := ⟨_, fd27, (He.meth_ok (cD.fact 76 (f := .meth "Sheet" "_declare") rfl)), F27.binds (fun _ _ _ _ _ _ us hl => match us, hl with | [_, _], _ => rfl), ok_declare F27 T C B2 dIsName cRowI⟩
  have mTakeRow : MDef P w K mg base (He.ga K "Sheet") "_take_row" 3 ["self", "word", "words"] (spTakeRow (He.ga K "Row") (He.ga K "Sheet")) := ⟨_, fd28, (He.meth_ok (cD.fact 77 (f := .meth "Sheet" "_take_row") rfl)), F28.binds (fun _ _ _ _ _ _ us hl => match us, hl with | [_, _, _], _ => rfl), ok_takeRow F28 T C B2 FA cRowI mSeen mOpen mTurn mClose⟩
  have mTakeLine : MDef P w K mg base (He.ga K "Sheet") "take_line" 4 ["self", "line"] (spTakeLine (He.ga K "Row") (He.ga K "Sheet")) := ⟨_, fd24, (He.meth_ok (cD.fact 73 (f := .meth "Sheet" "take_line") rfl)), F24.binds (fun _ _ _ _ _ _ us hl => match us, hl with | [_, _], _ => rfl), ok_takeLine F24 T B2 FA dFits mDecl mTakeRow⟩
  have mLand : MDef P w K mg base (He.ga K "Sheet") "_landing" 1 ["self", "number"] (spLand (He.ga K "Row") (He.ga K "Sheet")) := ⟨_, fd26, (He.meth_ok (cD.fact 75 (f := .meth "Sheet" "_landing") rfl)), F26.binds (fun _ _ _ _ _ _ us hl => match us, hl with | [_, _], _ => rfl), ok_land F26 T C B2⟩
  have mWays : MDef P w K mg base (He.ga K "Sheet") "find_ways" 2 ["self"] (spWays (He.ga K "Row") (He.ga K "Sheet")) := ⟨_, fd25, (He.meth_ok (cD.fact 74 (f := .meth "Sheet" "find_ways") rfl)), F25.binds (fun _ _ _ _ _ _ us hl => match us, hl with | [_], _ => rfl), ok_ways F25 T C B2 mLand⟩
  have cSheetI : CDef P w K mg base (He.ga K "Sheet") 3 ["self"] (spSheet (He.ga K "Row") (He.ga K "Sheet")) := ⟨_, fd22, (He.mkr_ok (cD.fact 26 (f := .mkr "Sheet") rfl)), F22.binds (fun _ _ _ _ _ _ us hl => match us, hl with | [_], _ => rfl), ok_sheetInit F22 T cRowI⟩
  have dRead : Def P w K mg base "read_sheet" 5 ["text", "most"] (spRead (He.ga K "Row") (He.ga K "Sheet")) := ⟨_, fd5, (He.glo_ok X G (cD.fact 5 (f := .glo "read_sheet") rfl)), F5.kp, F5.binds (fun _ _ _ _ _ _ us hl => match us, hl with | [_, _], _ => rfl), ok_read F5 T B2 cSheetI dLines mTakeLine mClosed mWays⟩
  have dCheck : Def P w K mg base "check_layout" 1 ["cells", "layout"] (spCheck0 K) := ⟨_, fd0, (He.glo_ok X G (cD.fact 0 (f := .glo "check_layout") rfl)), F0.kp, F0.binds (fun _ _ _ _ _ _ us hl => match us, hl with | [_, _], _ => rfl), ok_check0 F0 B2⟩
  have dPlaces : Def P w K mg base "places_in" 1 ["cells", "layout"] (spPlaces0 K) := ⟨_, fd1, (He.glo_ok X G (cD.fact 1 (f := .glo "places_in") rfl)), F1.kp, F1.binds (fun _ _ _ _ _ _ us hl => match us, hl with | [_, _], _ => rfl), ok_places0 F1 B2⟩
  have cChI : CDef P w K mg base (He.ga K "Choices") 1 ["self", "choices"] (spChoices K (He.ga K "Choices")) := ⟨_, fd33, (He.mkr_ok (cD.fact 29 (f := .mkr "Choices") rfl)), F33.binds (fun _ _ _ _ _ _ us hl => match us, hl with | [_, _], _ => rfl), ok_choicesInit F33 TN B2⟩
  have mTake : MDef P w K mg base (He.ga K "Choices") "take" 1 ["self"] (spTake (He.ga K "Run") (He.ga K "Choices")) := ⟨_, fd34, (He.meth_ok (cD.fact 82 (f := .meth "Choices" "take") rfl)), F34.binds (fun _ _ _ _ _ _ us hl => match us, hl with | [_], _ => rfl), ok_take F34 TN B2⟩
  have cRunI : CDef P w K mg base (He.ga K "Run") 1 ["self", "places", "line"] (spRunInit (He.ga K "Run")) := ⟨_, fd35, (He.mkr_ok (cD.fact 32 (f := .mkr "Run") rfl)), F35.binds (fun _ _ _ _ _ _ us hl => match us, hl with | [_, _, _], _ => rfl), ok_runInit F35 TN⟩
  have mWorth : MDef P w K mg base (He.ga K "Run") "worth" 1 ["self", "cell"] (spWorth (He.ga K "Run") (He.ga K "Choices")) := ⟨_, fd36, (He.meth_ok (cD.fact 83 (f := .meth "Run" "worth") rfl)), F36.binds (fun _ _ _ _ _ _ us hl => match us, hl with | [_, _], _ => rfl), ok_worth F36 TN⟩
  have mRead : MDef P w K mg base (He.ga K "Run") "read" 2 ["self", "cell"] (spReadC (He.ga K "Run") (He.ga K "Choices")) := ⟨_, fd37, (He.meth_ok (cD.fact 84 (f := .meth "Run" "read") rfl)), F37.binds (fun _ _ _ _ _ _ us hl => match us, hl with | [_, _], _ => rfl), ok_readC F37 TN mWorth⟩
  have mWrite : MDef P w K mg base (He.ga K "Run") "write" 1 ["self", "cell", "worth"] (spWriteC (He.ga K "Run") (He.ga K "Choices")) := ⟨_, fd38, (He.meth_ok (cD.fact 85 (f := .meth "Run" "write") rfl)), F38.binds (fun _ _ _ _ _ _ us hl => match us, hl with | [_, _, _], _ => rfl), ok_writeC F38 TN⟩
  have mStop : MDef P w K mg base (He.ga K "Run") "stop" 1 ["self"] (spStop (He.ga K "Run") (He.ga K "Choices")) := ⟨_, fd39, (He.meth_ok (cD.fact 86 (f := .meth "Run" "stop") rfl)), F39.binds (fun _ _ _ _ _ _ us hl => match us, hl with | [_], _ => rfl), ok_stop F39 TN⟩
  have aIn : Act P w K mg base (He.ga K "Run") (He.ga K "Choices") (He.ga K "Row") (He.ga K "LINES") "input" inputM := ⟨_, fd6, kdL "input" "_do_input" rfl, F6.kp, F6.binds (fun _ _ _ _ _ _ us hl => match us, hl with | [_, _, _], _ => rfl), ok_doInput F6 TN TR mTake mStop mWrite⟩
  have aUse : Act P w K mg base (He.ga K "Run") (He.ga K "Choices") (He.ga K "Row") (He.ga K "LINES") "use" useM := ⟨_, fd7, kdL "use" "_do_use" rfl, F7.kp, F7.binds (fun _ _ _ _ _ _ us hl => match us, hl with | [_, _, _], _ => rfl), ok_doUse F7 TN ⟨TR.cr, TR.rn, TR.ra, TR.ro⟩ mRead⟩
  have aLoop : Act P w K mg base (He.ga K "Run") (He.ga K "Choices") (He.ga K "Row") (He.ga K "LINES") "loop" loopM := ⟨_, fd8, kdL "loop" "_do_loop" rfl, F8.kp, F8.binds (fun _ _ _ _ _ _ us hl => match us, hl with | [_, _, _], _ => rfl), ok_doLoop F8 TN TR mTake mStop⟩
  have aMaybe : Act P w K mg base (He.ga K "Run") (He.ga K "Choices") (He.ga K "Row") (He.ga K "LINES") "maybe" maybeM := ⟨_, fd9, kdL "maybe" "_do_maybe" rfl, F9.kp, F9.binds (fun _ _ _ _ _ _ us hl => match us, hl with | [_, _, _], _ => rfl), ok_doMaybe F9 TN TR mTake mStop⟩
  have dAdv : Def P w K mg base "advance" 4 ["run", "rows", "choices"] (spAdv (He.ga K "Run") (He.ga K "Choices") (He.ga K "Row")) := ⟨_, fd10, (He.glo_ok X G (cD.fact 10 (f := .glo "advance") rfl)), F10.kp, F10.binds (fun _ _ _ _ _ _ us hl => match us, hl with | [_, _, _], _ => rfl), ok_advance F10 TN TR (He.noat_ok (cD.fact 55 (f := .noat "Row" "word") rfl)) (He.glo_ok X G (cD.fact 41 (f := .glo "LINES") rfl)) aIn aUse aLoop aMaybe⟩
  have mHold : MDef P w K mg base (He.ga K "Program") "_hold" 1 ["self", "text", "sheet"] (spHold (He.ga K "Program") (He.ga K "Row") (He.ga K "Sheet")) := ⟨_, fd43, (He.meth_ok (cD.fact 89 (f := .meth "Program" "_hold") rfl)), F43.binds (fun _ _ _ _ _ _ us hl => match us, hl with | [_, _, _], _ => rfl), ok_hold F43 TP T B2⟩
  have cProgI : CDef P w K mg base (He.ga K "Program") 6 ["self", "text"] (spProg (He.ga K "Program") (He.ga K "Row") (He.ga K "Sheet")) := ⟨_, fd40, (He.mkr_ok (cD.fact 35 (f := .mkr "Program") rfl)), F40.binds (fun _ _ _ _ _ _ us hl => match us, hl with | [_, _], _ => rfl), ok_progInit F40 TP dRead mHold⟩
  obtain ⟨gSt, mvS, kbS⟩ := ok_steps (P := P) (w := w) (base := base) (lv := .ref (layA "steps" K)) (Cp := He.ga K "Program") (Cr := He.ga K "Row") (Cs := He.ga K "Sheet") G42 TP T TN B2 dCheck dPlaces cRunI cChI dAdv
  obtain ⟨okR, dsR, vR, bR⟩ := ok_runP (P := P) (w := w) (base := base) (lv := .ref (layA "run" K)) (Cp := He.ga K "Program") (Cr := He.ga K "Row") (Cs := He.ga K "Sheet") G41 TP B2 (He.meth_ok (cD.fact 88 (f := .meth "Program" "steps") rfl)) gSt kbS
  have DR : RunDef P w K mg base (He.ga K "Program") (He.ga K "Row") (He.ga K "Sheet") (layA "run" K) := ⟨⟨_, fd41, dsR, (He.meth_ok (cD.fact 87 (f := .meth "Program" "run") rfl)), vR, bR, okR⟩, tup eY⟩
  have dPen : Def P w K mg base "_law_begun_pen" 1 ["_law_script"] (spPen K) := ⟨_, fd11, (He.glo_ok X G (cD.fact 11 (f := .glo "_law_begun_pen") rfl)), F11.kp, F11.binds (fun _ _ _ _ _ _ us hl => match us, hl with | [_], _ => rfl), ok_pen F11 B⟩
  have dDraw : Def P w K mg base "_law_draw" 1 ["_law_pen", "_law_span"] (spDraw) := ⟨_, fd12, (He.glo_ok X G (cD.fact 12 (f := .glo "_law_draw") rfl)), F12.kp, F12.binds (fun _ _ _ _ _ _ us hl => match us, hl with | [_, _], _ => rfl), ok_draw F12 B⟩
  have dPick : Def P w K mg base "_law_pick" 2 ["_law_pen", "_law_options"] (spPick) := ⟨_, fd13, (He.glo_ok X G (cD.fact 13 (f := .glo "_law_pick") rfl)), F13.kp, F13.binds (fun _ _ _ _ _ _ us hl => match us, hl with | [_, _], _ => rfl), ok_pick F13 B dDraw⟩
  have dShuf : Def P w K mg base "_law_shuffled" 2 ["_law_pen", "_law_items"] (spShuf) := ⟨_, fd14, (He.glo_ok X G (cD.fact 14 (f := .glo "_law_shuffled") rfl)), F14.kp, F14.binds (fun _ _ _ _ _ _ us hl => match us, hl with | [_, _], _ => rfl), ok_shuf F14 B dDraw⟩
  have dNames : Def P w K mg base "_law_new_names" 3 ["_law_pen", "_law_many"] (spNames) := ⟨_, fd15, (He.glo_ok X G (cD.fact 15 (f := .glo "_law_new_names") rfl)), F15.kp, F15.binds (fun _ _ _ _ _ _ us hl => match us, hl with | [_, _], _ => rfl), ok_names F15 dShuf⟩
  have dOther : Def P w K mg base "_law_other_number" 3 ["_law_pen"] (spOther) := ⟨_, fd16, (He.glo_ok X G (cD.fact 16 (f := .glo "_law_other_number") rfl)), F16.kp, F16.binds (fun _ _ _ _ _ _ us hl => match us, hl with | [_], _ => rfl), ok_other F16 dDraw dPick⟩
  have dRo : Def P w K mg base "_law_rounds_right" 10 ["_law_pen", "_law_cell"] (spRight 200) := ⟨_, fd17, (He.glo_ok X G (cD.fact 17 (f := .glo "_law_rounds_right") rfl)), F17.kp, F17.binds (fun _ _ _ _ _ _ us hl => match us, hl with | [_, _], _ => rfl), ok_rounds F17 (He.free_ok X G (cD.fact 50 (f := .free "range") rfl)) TP dDraw dOther cProgI DR⟩
  have dSi : Def P w K mg base "_law_sides_right" 10 ["_law_pen", "_law_cell"] (spRight 200) := ⟨_, fd18, (He.glo_ok X G (cD.fact 18 (f := .glo "_law_sides_right") rfl)), F18.kp, F18.binds (fun _ _ _ _ _ _ us hl => match us, hl with | [_, _], _ => rfl), ok_sides F18 (He.free_ok X G (cD.fact 50 (f := .free "range") rfl)) (He.free_ok X G (cD.fact 48 (f := .free "int") rfl)) TP dDraw dOther cProgI DR⟩
  have dEm : Def P w K mg base "_law_empty_right" 10 ["_law_pen", "_law_cell"] (spRight 700) := ⟨_, fd19, (He.glo_ok X G (cD.fact 19 (f := .glo "_law_empty_right") rfl)), F19.kp, F19.binds (fun _ _ _ _ _ _ us hl => match us, hl with | [_, _], _ => rfl), ok_empty F19 (He.free_ok X G (cD.fact 50 (f := .free "range") rfl)) TP dDraw dPick dOther cProgI DR⟩
  exact ok_law5 F20 (He.free_ok X G (cD.fact 50 (f := .free "range") rfl)) TP ⟨dPen, dNames, dRo, dSi, dEm⟩ cProgI DR
end FP
set_option Elab.async false

open PySem PySem.W PyProof.Rows in
set_option maxRecDepth 100000 in
set_option maxHeartbeats 0 in
theorem PySem.Challenge.cw_frameplaces_k05_loops_holds : PySem.Challenge.rw_frameplaces_k05_loops.Holds := by
  w_on; o_law; k_head; (case hw => w_witness2)
  k_fill
  refine L2.walk_ofK (l := PySem.Challenge.rw_frameplaces_k05_loops) (n := 63) (k := 11) (CX := L2.CX0) (sp := fun K => FP.spLaw5 K) (x := "_law_script") rfl (by decide) rfl ⟨rfl, by decide, by decide⟩ (fun w h Y => PySem.W.kIn_of Y) ?F ?S ?X
  case F =>
    intro w mg fa h KX G hmg
    exact FP.facts5 KX G hmg (by kernel_rfl) (by kernel_rfl)
  case S =>
    intro K H a ns hl hO hS
    exact ⟨a, ns, rfl, hS, hl, fun _ => rfl⟩
  case X =>
    intro H s e s' z
    exact z
