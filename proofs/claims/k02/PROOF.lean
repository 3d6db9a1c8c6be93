import PyProof.Rows.All
import Wide.All
import OpenK.AllK
import Wide.FinOn
import HandS.ForMost
import HandS.Wide
import HandS.Style
import HandS.Flow
import HandS.Text
import HandS.SortKw
import HandS.Zip
import HandS.Walk
import KE.GoesMore
import KE.GoesEnumKw
import PyProof.Rows.CallKw2
import HandS.More
import HandS.Nested
import PyProof.ReprRoads
import PyProof.StrLawsRepr
import HandS.HeadHook2
import HandS.Head2
import HandS.HeadEnd
import HandS.Conv
import PyProof.TupleOfGen
import HandS.Defaults
import HandS.CallLocal
import HandS.GenList
import HandS.ExcInit
import HandS.FStr
import KE.KExcSuper
import KE.KExcIs
import HandS.WordsExc
import HandS.ExcOwn
import HandS.IsInst
import HandS.NoneIn
import HandS.ExcField
import PyProof.SumWalkG
import PyProof.Walks
import HandS.ExcValue
import HandS.Steps
import PyProof.StrBlock2
import PySem.Challenge.RW_frameplaces_k02_programs_refused
set_option linter.all false
namespace FP
open PySem L2
abbrev PP : Program := PySem.Challenge.pw_frameplaces_k02_programs_refused
def top (i : Nat) : Stmt := PySem.Challenge.pw_frameplaces_k02_programs_refused.main.body.getD i (.Pass ⟨0, 0, 0, 0⟩)
abbrev sPen : Stmt := top 23
abbrev sDraw : Stmt := top 24
abbrev sPick : Stmt := top 25
abbrev sShuf : Stmt := top 26
abbrev sNames : Stmt := top 27
abbrev sIsName : Stmt := top 14
abbrev sLines : Stmt := top 15
abbrev sFits : Stmt := top 16
abbrev sRead : Stmt := top 19
abbrev sLaw : Stmt := top 40
abbrev cBadProgram : Stmt := top 3
abbrev cRow : Stmt := top 17
abbrev cSheet : Stmt := top 18
abbrev cProgram : Stmt := top 21
abbrev qBlockLines : Stmt := top 28
abbrev qBlockSize : Stmt := top 29
abbrev qNewOrder : Stmt := top 30
abbrev qWideBlock : Stmt := top 31
abbrev qNewProgram : Stmt := top 32
abbrev qIsName : Stmt := top 33
abbrev qIsDeed : Stmt := top 34
abbrev qLineRead : Stmt := top 35
abbrev qWrongLine : Stmt := top 36
abbrev qBent : Stmt := top 37
abbrev qTold : Stmt := top 38
abbrev qHandRight : Stmt := top 39
abbrev mBadProgram_init : Stmt := inClass cBadProgram 0
abbrev mRow_init : Stmt := inClass cRow 0
abbrev mSheet_init : Stmt := inClass cSheet 0
abbrev mSheet_is_closed : Stmt := inClass cSheet 1
abbrev mSheet_blocks_around : Stmt := inClass cSheet 2
abbrev mSheet_take_line : Stmt := inClass cSheet 3
abbrev mSheet_find_ways : Stmt := inClass cSheet 4
abbrev mSheet_landing : Stmt := inClass cSheet 5
abbrev mSheet_declare : Stmt := inClass cSheet 6
abbrev mSheet_take_row : Stmt := inClass cSheet 7
abbrev mSheet_is_seen : Stmt := inClass cSheet 8
abbrev mSheet_open_block : Stmt := inClass cSheet 9
abbrev mSheet_turn : Stmt := inClass cSheet 10
abbrev mSheet_close_block : Stmt := inClass cSheet 11
abbrev mProgram_init : Stmt := inClass cProgram 0
abbrev mProgram_eq : Stmt := inClass cProgram 1
abbrev mProgram_run : Stmt := inClass cProgram 2
abbrev mProgram_steps : Stmt := inClass cProgram 3
abbrev mProgram_opened_at : Stmt := inClass cProgram 4
abbrev mProgram_moved : Stmt := inClass cProgram 5
abbrev mProgram_hold : Stmt := inClass cProgram 6
abbrev mProgram_check_cell : Stmt := inClass cProgram 7
end FP
set_option Elab.async false
set_option linter.all false
set_option maxRecDepth 100000
set_option maxHeartbeats 4000000
/-! The source of all draws: what a draw, a pick, a shuffle promise. -/
namespace FP
open PySem PySem.Spec PyProof.Rows L2
/-- the pen's dict -/
def penD (a : Addr) (t l : Int) : List (Key × V) := [(.inr "cells", .ref a), (.inr "turn", .int t), (.inr "left", .int l)]
theorem pen_cells (a : Addr) (t l : Int) : valV (penD a t l) (.inr "cells") = some (.ref a) := rfl
theorem pen_turn (a : Addr) (t l : Int) : valV (penD a t l) (.inr "turn") = some (.int t) := rfl
theorem pen_left (a : Addr) (t l : Int) : valV (penD a t l) (.inr "left") = some (.int l) := rfl
theorem put_turn (a : Addr) (t l t' : Int) : putK (penD a t l) (.inr "turn") (.int t') = penD a t' l := rfl
theorem put_left (a : Addr) (t l l' : Int) : putK (penD a t l) (.inr "left") (.int l') = penD a t l' := rfl
theorem pen_len (a : Addr) (t l : Int) : (penD a t l).length < sizeLine := by
  rw [sizeLine_eq]
  exact (by decide : 3 < 16777216)
/-- all but p stands -/
def But (p : Addr) (H H' : Hp) : Prop := ∀ b o, b ≠ p → H b = some o → H' b = some o
theorem But.refl (p : Addr) (H : Hp) : But p H H := fun _ _ _ e => e
theorem But.trans {p : Addr} {H H1 H2 : Hp} (a : But p H H1) (b : But p H1 H2) : But p H H2 := fun c o n e => b c o n (a c o n e)
theorem But.put {p : Addr} {H H' : Hp} {o : HO} (a : But p H H') : But p H (upd H' p o) := fun c u n e => by
  rw [upd_ne n]
  exact a c u n e
theorem But.new {p x : Addr} {H H' : Hp} {o : HO} (a : But p H H') (hx : H' x = none) : But p H (upd H' x o) := fun c u n e => by
  rw [upd_ne (ne_of_none (a c u n e) hx)]
  exact a c u n e
/-- a pen at p, over the cells at a, in its state t, l -/
structure PenAt (H : Hp) (p a : Addr) (ns : List Int) (t l : Int) : Prop where
  p : H p = some (.dK (penD a t l))
  a : H a = some (.lst (ns.map V.int))
  n : ns.length ≤ 63
  t0 : 0 ≤ t
  l0 : 0 ≤ l
theorem PenAt.ne {H : Hp} {p a : Addr} {ns : List Int} {t l : Int} (h : PenAt H p a ns t l) : a ≠ p := ne_of h.a h.p (by intro z; cases z)
theorem PenAt.new {H : Hp} {p a x : Addr} {ns : List Int} {t l : Int} {o : HO} (h : PenAt H p a ns t l) (hx : H x = none) : PenAt (upd H x o) p a ns t l :=
  ⟨(upd_ne (ne_of_none h.p hx)).trans h.p, (upd_ne (ne_of_none h.a hx)).trans h.a, h.n, h.t0, h.l0⟩
theorem PenAt.put {H : Hp} {p a : Addr} {ns : List Int} {t l t' l' : Int} (h : PenAt H p a ns t l) (h1 : 0 ≤ t') (h2 : 0 ≤ l') : PenAt (upd H p (.dK (penD a t' l'))) p a ns t' l' :=
  ⟨upd_same, (upd_ne h.ne).trans h.a, h.n, h1, h2⟩
/-- a draw by a positive span: some number below it -/
def spDraw : Sp := fun vs H Q _ => ∃ (p a : Addr) (ns : List Int) (t l m : Int), vs = [.ref p, .int m] ∧ PenAt H p a ns t l ∧ t ≤ 1000000 ∧ 0 < m ∧ m.natAbs < 2 ^ 1000 ∧
  ∀ (r t' l' : Int) (H' : Hp), 0 ≤ r → r < m → t ≤ t' → t' ≤ t + 1 → But p H H' → PenAt H' p a ns t' l' → Q (.int r) H'
structure Blt (mg : Str → Option Value) : Prop where
  int : mg "int" = none
  len : mg "len" = none
  abs : mg "abs" = none
  list : mg "list" = none
theorem ints_dp (K : W.Frag) (H : Hp) : ∀ ns : List Int, DpAll K H (ns.map V.int) (ns.map PyData.int)
  | [] => .nil
  | n :: r => .cons (.int n) (ints_dp K H r)
theorem ints_shaped (ns : List Int) : SeqAt.shaped (.list (ns.map PyData.int)) = true := W.shaped_ints ns
theorem PenAt.left {H : Hp} {p a : Addr} {ns : List Int} {t l : Int} (h : PenAt H p a ns t l) : DGet H p (.str "left") (some (.int l)) := DGet.k (k := .inr "left") h.p
theorem PenAt.turn {H : Hp} {p a : Addr} {ns : List Int} {t l : Int} (h : PenAt H p a ns t l) : DGet H p (.str "turn") (some (.int t)) := DGet.k (k := .inr "turn") h.p
theorem PenAt.cells {H : Hp} {p a : Addr} {ns : List Int} {t l : Int} (h : PenAt H p a ns t l) : DGet H p (.str "cells") (some (.ref a)) := DGet.k (k := .inr "cells") h.p
theorem PenAt.putL {H : Hp} {p a : Addr} {ns : List Int} {t l : Int} (h : PenAt H p a ns t l) (l' : Int) : DPut H p (.str "left") (.int l') (upd H p (.dK (penD a t l'))) := DPut.k (k := .inr "left") h.p (pen_len a t l)
theorem PenAt.putT {H : Hp} {p a : Addr} {ns : List Int} {t l : Int} (h : PenAt H p a ns t l) (t' : Int) : DPut H p (.str "turn") (.int t') (upd H p (.dK (penD a t' l))) := DPut.k (k := .inr "turn") h.p (pen_len a t l)
section
variable {P : Program} {w : World} {K : W.Frag} {mg : Str → Option Value} {base : Heap}
theorem scD : FnScope ["_law_pen", "_law_span", "_law_digit", "_law_turn", "_law_cell", "_law_mixed"] ["_law_pen", "_law_span"] (defScope sDraw) := ⟨rfl, rfl, rfl, by decide +kernel, rfl, by decide +kernel, by decide +kernel⟩
theorem ok_draw {f : Addr} {fd : FuncData} (F : Fun K "_law_draw" "_law_draw" sDraw f fd) (B : Blt mg) : FnOk P w K mg base CX0 1 f fd ["_law_pen", "_law_span"] spDraw := by
  refine F.ok scD (fun vs H Q E h => ?_) (fun cdv A outer s H vs Q E hr h => ?_)
  · obtain ⟨p, a, ns, t, l, m, rfl, _⟩ := h
    rfl
  obtain ⟨p, a, ns, t, l, m, rfl, PA0, ht, hm, hmb, k⟩ := h
  have hu := hu_of hr
  refine ⟨_, pss_cons (ps_if (pt_cmpR op_gt (pe_dget hu (pv 0) pe_str (fun _ _ => rfl)) pe_int (nomark _))
      (pss_cons (ps_set (i := 2) scD.nd rfl (.inl rfl) (pe_op op_mod (pe_callTy call_int1 (by rfl) B.int (by decide +kernel) (pa_cons (pe_dget hu (pv 0) pe_str (fun _ _ => rfl)) pa_nil)) (pv 1)))
        (pss_cons (ps_dput hu (pv 0) pe_str (pe_op op_fdivW (pe_dget hu (pv 0) pe_str (fun _ _ => rfl)) (pv 1)) rfl) (pss_one (ps_ret (pv 2))))) pss_nil)
    (pss_cons (ps_set (i := 3) scD.nd rfl (.inl rfl) (pe_dget hu (pv 0) pe_str (fun _ _ => rfl)))
    (pss_cons (ps_dput hu (pv 0) pe_str (pe_op op_add (pv 3) pe_int) rfl)
    (pss_cons (ps_set (i := 4) scD.nd rfl (.inl rfl) (pe_op op_add (pe_op op_mul pe_int (pv 3)) pe_int))
    (pss_cons (ps_if (pt_cmpR (op_neD hr.units) (pe_dget hu (pv 0) pe_str (fun _ _ => rfl)) (pe_lst pa_nil) (nomark _))
      (pss_one (ps_set (i := 4) scD.nd rfl (.inl rfl) (pe_ix ix_list (pe_dget hu (pv 0) pe_str (fun _ _ => rfl))
        (pe_op op_mod (pe_callTy call_int1 (by rfl) B.int (by decide +kernel) (pa_cons (pv 3) pa_nil)) (pe_callB call_len_seq (by rfl) B.len boot_len (pa_cons (pe_dget hu (pv 0) pe_str (fun _ _ => rfl)) pa_nil))) (fun _ _ => rfl)))) pss_nil)
    (pss_cons (ps_if (PW.pt (pw_and (pt_cmpR op_lt (pv 3) (pe_callB call_len_seq (by rfl) B.len boot_len (pa_cons (pe_dget hu (pv 0) pe_str (fun _ _ => rfl)) pa_nil)) (nomark _))
        (pw_and1 (pt_cmpR op_ge (pe_callB call_abs (by rfl) B.abs (by decide +kernel) (pa_cons (pv 4) pa_nil)) (pe_op op_pow pe_int pe_int) (nomark _)))))
      (pss_cons (ps_dput hu (pv 0) pe_str (pe_op op_fdivW (pe_op op_sub (pe_callB call_abs (by rfl) B.abs (by decide +kernel) (pa_cons (pv 4) pa_nil)) (pe_op op_pow pe_int pe_int)) (pv 1)) rfl)
        (pss_one (ps_ret (pe_op op_mod (pe_callTy call_int1 (by rfl) B.int (by decide +kernel) (pa_cons (pe_op op_sub (pe_callB call_abs (by rfl) B.abs (by decide +kernel) (pa_cons (pv 4) pa_nil)) (pe_op op_pow pe_int pe_int)) pa_nil)) (pv 1))))) pss_nil)
    (pss_cons (ps_set (i := 5) scD.nd rfl (.inl rfl) (pe_op op_mul (pe_op op_mod (pe_callTy call_int1 (by rfl) B.int (by decide +kernel) (pa_cons (pv 4) pa_nil)) pe_int) pe_int))
    (pss_cons (ps_set (i := 5) scD.nd rfl (.inl rfl) (pe_op op_mod (pe_callTy call_int1 (by rfl) B.int (by decide +kernel) (pa_cons (pe_op op_add (pe_op op_add (pv 5) (pe_op op_mul (pv 3) (pe_op op_add (pe_op op_mul (pv 3) pe_int) pe_int))) pe_int) pa_nil)) pe_int))
    (pss_cons (ps_set (i := 5) scD.nd rfl (.inl rfl) (pe_op op_mod (pe_callTy call_int1 (by rfl) B.int (by decide +kernel) (pa_cons (pe_op op_mul (pv 5) (pe_op op_add (pv 5) pe_int)) pa_nil)) pe_int))
    (pss_cons (ps_set (i := 5) scD.nd rfl (.inl rfl) (pe_op op_mod (pe_callTy call_int1 (by rfl) B.int (by decide +kernel) (pa_cons (pe_op op_add (pe_op op_add (pe_op op_mul (pv 5) (pv 5)) (pe_op op_mul pe_int (pv 5))) (pe_op op_mul pe_int (pv 3))) pa_nil)) pe_int))
    (pss_one (ps_ret (pe_op op_mod (pe_callTy call_int1 (by rfl) B.int (by decide +kernel) (pa_cons (pe_op op_fdiv (pe_op op_mod (pe_callTy call_int1 (by rfl) B.int (by decide +kernel) (pa_cons (pe_op op_mul (pv 5) (pe_op op_add (pv 5) pe_int)) pa_nil)) pe_int) pe_int) pa_nil)) (pv 1))))))))))))), ?_⟩
  -- the pen's number at hand
  refine ⟨_, rfl, p, _, rfl, PA0.left, _, _, rfl, rfl, _, rfl, ite2 (fun c => ?_) fun c => ?_⟩
  · refine ⟨_, rfl, p, _, rfl, PA0.left, .inl ⟨_, rfl, _, rfl, _, _, rfl, rfl, hm, ?_⟩⟩
    refine ⟨_, rfl, p, _, rfl, PA0.left, _, rfl, _, _, rfl, rfl, wide_div hm hmb (by decide) (by decide), _, rfl, p, _, rfl, PA0.putL _, _, rfl, ?_⟩
    exact k _ t _ _ (Int.emod_nonneg _ (by omega)) (Int.emod_lt_of_pos _ hm) (Int.le_refl _) (by omega) (But.refl p H).put (PA0.put PA0.t0 (Int.ediv_nonneg PA0.l0 (by omega)))
  have t0 := PA0.t0
  have B1 : But p H (upd H p (.dK (penD a (t + 1) l))) := (But.refl p H).put
  have PA1 : PenAt (upd H p (.dK (penD a (t + 1) l))) p a ns (t + 1) l := PA0.put (by omega) PA0.l0
  -- _law_turn, the turn told on, _law_cell
  refine ⟨_, rfl, p, _, rfl, PA0.turn, _, rfl, _, _, rfl, rfl, _, rfl, p, _, rfl, PA0.putT _, _, rfl, _, _, rfl, rfl, .inl ⟨by decide, by decide⟩, _, _, rfl, rfl, ?_⟩
  -- the bounds that products ask
  have bm : ∀ x M : Int, 0 < M → M < 18446744073709551616 → -(2 ^ 64) < x % M ∧ x % M < 2 ^ 64 := fun x M h1 h2 => by
    have := Int.emod_nonneg x (show M ≠ 0 by omega)
    have := Int.emod_lt_of_pos x h1
    omega
  have bt : -(2 ^ 64) < t ∧ t < 2 ^ 64 := by omega
  refine ⟨_, rfl, p, _, rfl, PA1.cells, Nat.zero_le _, fun q hq => ⟨_, _, .lst (SqL.of (PA1.new hq).a) (ints_dp _ _ ns), .lst (SqL.of upd_same) .nil, ints_shaped ns, rfl, _, rfl, ?_⟩⟩
  have B2 : But p H (upd (upd H p (.dK (penD a (t + 1) l))) q (.lst [])) := B1.new hq
  have PA2 := PA1.new (o := .lst []) hq
  have hlen : (ns.map V.int).length = ns.length := List.length_map ..
  refine ite2 (fun c0 => ?_) (fun c0 => ?_)
  all_goals try
    have hns : 0 < ns.length := by
      cases ns with
      | nil => exact absurd c0 (by decide)
      | cons n r => exact Nat.succ_pos _
    have hnl : (0 : Int) < (((ns.map V.int).length : Nat) : Int) := by rw [hlen]; omega
    have i0 := Int.emod_nonneg t (show (((ns.map V.int).length : Nat) : Int) ≠ 0 by omega)
    have i1 := Int.emod_lt_of_pos t hnl
    obtain ⟨j, hj⟩ : ∃ j : Nat, t % (((ns.map V.int).length : Nat) : Int) = (j : Int) := ⟨_, (Int.toNat_of_nonneg i0).symm⟩
    have hj1 : j < ns.length := by rw [hj, hlen] at i1; omega
    have it : (ns.map V.int)[j]? = some (V.int (ns[j])) := by rw [List.getElem?_map, List.getElem?_eq_getElem hj1]; rfl
    refine ⟨_, rfl, p, _, rfl, PA2.cells, _, rfl, .inl ⟨_, rfl, _, rfl, p, _, rfl, PA2.cells, a, _, rfl, .inl (SqL.of PA2.a), _, _, rfl, rfl, hnl, a, _, _, _, rfl, rfl, SqL.of PA2.a, by rw [hj]; exact atI_nat it, ?_⟩⟩
  all_goals
    -- a great number of the script fills the pen anew
    refine ⟨_, rfl, _, rfl, p, _, rfl, PA2.cells, a, _, rfl, .inl (SqL.of PA2.a), _, _, rfl, rfl, _, rfl, ite2 (fun c1 => ?_) fun c1 => ?_⟩
    all_goals try
      refine ⟨_, rfl, _, rfl, _, _, rfl, rfl, ⟨by decide, by decide, by decide⟩, _, _, rfl, rfl, _, rfl, ite2 (fun c2 => ?_) fun c2 => ?_⟩
      all_goals try
        refine ⟨_, rfl, _, rfl, _, _, rfl, rfl, ⟨by decide, by decide, by decide⟩, _, _, rfl, rfl, _, rfl, _, _, rfl, rfl, wide_div hm hmb (by decide) (by decide), _, rfl, p, _, rfl, PA2.putL _, ?_⟩
        refine ⟨_, rfl, _, rfl, _, _, rfl, rfl, ⟨by decide, by decide, by decide⟩, _, _, rfl, rfl, .inl ⟨_, rfl, _, rfl, _, _, rfl, rfl, hm, ?_⟩⟩
        exact k _ (t + 1) _ _ (Int.emod_nonneg _ (by omega)) (Int.emod_lt_of_pos _ hm) (by omega) (Int.le_refl _) B2.put (PA2.put (by omega) (Int.ediv_nonneg (Int.sub_nonneg_of_le (of_decide_eq_true c2)) (by omega)))
    all_goals
      try refine iteF ?_
      -- mixed from the cell
      refine ⟨_, rfl, .inl ⟨_, rfl, _, _, rfl, rfl, (by show (0 : Int) < 4294967087; decide), _, _, rfl, rfl, .inr ⟨by decide, by decide⟩, ?_⟩⟩
      refine ⟨_, rfl, _, rfl, _, rfl, _, _, rfl, rfl, .inr ⟨by decide, by decide⟩, _, _, rfl, rfl, _, _, rfl, rfl, .inl bt, _, _, rfl, rfl, _, _, rfl, rfl, .inl ⟨_, rfl, _, _, rfl, rfl, (by show (0 : Int) < 4294967029; decide), ?_⟩⟩
      refine ⟨_, rfl, _, rfl, _, _, rfl, rfl, _, _, rfl, rfl, .inl (bm _ _ (by decide) (by decide)), .inl ⟨_, rfl, _, _, rfl, rfl, (by show (0 : Int) < 4294966997; decide), ?_⟩⟩
      refine ⟨_, rfl, _, rfl, _, _, rfl, rfl, .inl (bm _ _ (by decide) (by decide)), _, rfl, _, _, rfl, rfl, .inl ⟨by decide, by decide⟩, _, _, rfl, rfl, _, rfl, _, _, rfl, rfl, .inl ⟨by decide, by decide⟩, _, _, rfl, rfl, .inl ⟨_, rfl, _, _, rfl, rfl, (by show (0 : Int) < 4294966981; decide), ?_⟩⟩
      refine ⟨_, rfl, _, rfl, _, _, rfl, rfl, _, _, rfl, rfl, .inl (bm _ _ (by decide) (by decide)), .inl ⟨_, rfl, _, _, rfl, rfl, (by show (0 : Int) < 4294966943; decide), _, _, rfl, rfl, ⟨by decide, by decide⟩, .inl ⟨_, rfl, _, rfl, _, _, rfl, rfl, hm, ?_⟩⟩⟩
      exact k _ (t + 1) _ _ (Int.emod_nonneg _ (by omega)) (Int.emod_lt_of_pos _ hm) (by omega) (Int.le_refl _) B2 PA2
end
end FP
set_option Elab.async false
set_option linter.all false
set_option maxRecDepth 100000
set_option maxHeartbeats 4000000
set_option exponentiation.threshold 2000
namespace FP
open PySem PySem.Spec PyProof.Rows L2
/-- a def of the module and its promise -/
structure Def (P : Program) (w : World) (K : W.Frag) (mg : Str → Option Value) (base : Heap) (x : Str) (k : Nat) (ps : List Str) (sp : Sp) : Prop where
  ex : ∃ (f : Addr) (fd : FuncData), mg x = some (.ref f) ∧ W.keepIn K (.ref f) = true ∧ Binds K fd ps [] ∧ FnOk P w K mg base CX0 k f fd ps sp
theorem strs_dp (K : W.Frag) (H : Hp) : ∀ l : List Str, DpAll K H (l.map V.str) (l.map PyData.str)
  | [] => .nil
  | n :: r => .cons (.str n) (strs_dp K H r)
theorem strs_lay : ∀ l : List Str, (∀ y ∈ l, PyData.strOk y = true) → PyData.canLayAll0 (l.map PyData.str) = true
  | [], _ => rfl
  | x :: r, h => by
    simp only [List.map_cons, PyData.canLayAll0, PyData.canLay0, h x List.mem_cons_self, strs_lay r fun y hy => h y (List.mem_cons_of_mem _ hy), Bool.and_self]
theorem strs_deep : ∀ l : List Str, PyData.depthAll (l.map PyData.str) ≤ 1
  | [] => by simp [PyData.depthAll]
  | _ :: r => by
    have := strs_deep r
    simp only [List.map_cons, PyData.depthAll, PyData.depth]
    omega
theorem strs_shaped (l : List Str) (h : ∀ y ∈ l, PyData.strOk y = true) : SeqAt.shaped (.list (l.map PyData.str)) = true := by
  have h1 := strs_lay l h
  have h2 := strs_deep l
  unfold SeqAt.shaped
  rw [Bool.and_eq_true]
  refine ⟨by simpa only [PyData.canLay0] using h1, decide_eq_true ?_⟩
  simp only [PyData.depth]
  omega
theorem perm_erase {α : Type} : ∀ {l : List α} {j : Nat} (h : j < l.length), (l[j] :: l.eraseIdx j).Perm l
  | _ :: _, 0, _ => .refl _
  | x :: r, j + 1, h => (List.Perm.swap x (r[j]'(Nat.lt_of_succ_lt_succ h)) (r.eraseIdx j)).trans ((perm_erase (l := r) (Nat.lt_of_succ_lt_succ h)).cons x)
theorem map_erase {α β : Type} (f : α → β) : ∀ (l : List α) (j : Nat), (l.map f).eraseIdx j = (l.eraseIdx j).map f
  | [], _ => rfl
  | _ :: _, 0 => rfl
  | x :: r, j + 1 => congrArg (f x :: ·) (map_erase f r j)
/-- one of the options -/
def spPick : Sp := fun vs H Q _ => ∃ (p a o : Addr) (ns : List Int) (t l : Int) (xs : List V), vs = [.ref p, .ref o] ∧ PenAt H p a ns t l ∧ t ≤ 1000000 ∧ o ≠ p ∧ H o = some (.lst xs) ∧ 0 < xs.length ∧ xs.length ≤ 1000 ∧
  ∀ (i : Nat) (v : V) (t' l' : Int) (H' : Hp), xs[i]? = some v → t ≤ t' → t' ≤ t + 1 → But p H H' → PenAt H' p a ns t' l' → Q v H'
/-- the items (texts) in some order, a new list -/
def spShuf : Sp := fun vs H Q _ => ∃ (p a o : Addr) (ns : List Int) (t l : Int) (xs : List Str), vs = [.ref p, .ref o] ∧ PenAt H p a ns t l ∧ t + xs.length ≤ 1000000 ∧ o ≠ p ∧ H o = some (.lst (xs.map V.str)) ∧ xs.length ≤ 1000 ∧ (∀ y ∈ xs, PyData.strOk y = true) ∧
  ∀ (r : Addr) (ys : List Str) (t' l' : Int) (H' : Hp), ys.Perm xs → t ≤ t' → t' ≤ t + xs.length → But p H H' → PenAt H' p a ns t' l' → H r = none → H' r = some (.lst (ys.map V.str)) → Q (.ref r) H'
section
variable {P : Program} {w : World} {K : W.Frag} {mg : Str → Option Value} {base : Heap}
theorem small_abs {n : Nat} (h : n ≤ 1000) : ((n : Nat) : Int).natAbs < 2 ^ 1000 := by
  rw [Int.natAbs_natCast]
  exact Nat.lt_of_le_of_lt h (Nat.lt_of_lt_of_le (by decide : 1000 < 2 ^ 10) (Nat.pow_le_pow_right (by decide) (by decide)))
theorem scP : FnScope ["_law_pen", "_law_options"] ["_law_pen", "_law_options"] (defScope sPick) := ⟨rfl, rfl, rfl, by decide +kernel, rfl, by decide +kernel, by decide +kernel⟩
theorem ok_pick {f : Addr} {fd : FuncData} (F : Fun K "_law_pick" "_law_pick" sPick f fd) (B : Blt mg) (D : Def P w K mg base "_law_draw" 1 ["_law_pen", "_law_span"] spDraw) : FnOk P w K mg base CX0 2 f fd ["_law_pen", "_law_options"] spPick := by
  obtain ⟨fD, fdD, gD, kD, bD, GD⟩ := D.ex
  refine F.ok scP (fun vs H Q E h => ?_) (fun cdv A outer s H vs Q E hr h => ?_)
  · obtain ⟨p, a, o, ns, t, l, xs, rfl, _⟩ := h
    rfl
  obtain ⟨p, a, o, ns, t, l, xs, rfl, PA0, ht, hne, ho, h0, h1, k⟩ := h
  refine ⟨_, pss_one (ps_ret (pe_ix ix_list (pv 1) (pe_call GD hr rfl gD kD bD .nil pass0 (pa_cons (pv 0) (pa_cons (pe_callB call_len_seq (by rfl) B.len boot_len (pa_cons (pv 1) pa_nil)) pa_nil))) (fun _ _ => rfl))), ?_⟩
  refine ⟨_, rfl, _, rfl, _, rfl, o, _, rfl, .inl (SqL.of ho), p, a, ns, t, l, _, rfl, PA0, ht, by omega, small_abs h1, fun r t' l' H' r0 r1 t1 t2 b PA1 => ?_⟩
  obtain ⟨j, rfl⟩ : ∃ j : Nat, r = (j : Int) := ⟨_, (Int.toNat_of_nonneg r0).symm⟩
  have hj : j < xs.length := by omega
  have it : xs[j]? = some xs[j] := List.getElem?_eq_getElem hj
  exact ⟨o, _, _, _, rfl, rfl, SqL.of (b o _ hne ho), atI_nat it, k j _ t' l' H' it t1 t2 b PA1⟩
theorem scS : FnScope ["_law_pen", "_law_items", "_law_rest", "_law_found"] ["_law_pen", "_law_items"] (defScope sShuf) := ⟨rfl, rfl, rfl, by decide +kernel, rfl, by decide +kernel, by decide +kernel⟩
theorem ok_shuf {f : Addr} {fd : FuncData} (F : Fun K "_law_shuffled" "_law_shuffled" sShuf f fd) (B : Blt mg) (D : Def P w K mg base "_law_draw" 1 ["_law_pen", "_law_span"] spDraw) : FnOk P w K mg base CX0 2 f fd ["_law_pen", "_law_items"] spShuf := by
  obtain ⟨fD, fdD, gD, kD, bD, GD⟩ := D.ex
  refine F.ok scS (fun vs H Q E h => ?_) (fun cdv A outer s H vs Q E hr h => ?_)
  · obtain ⟨p, a, o, ns, t, l, xs, rfl, _⟩ := h
    rfl
  obtain ⟨p, a, o, ns, t, l, xs, rfl, PA0, ht, hne, ho, h1, hok, k⟩ := h
  refine ⟨_, pss_cons (ps_par (i := 2) (j := 3) (by rfl) scS.nd rfl rfl (by decide) rfl rfl (pa_cons (pe_callTy call_list_of (by rfl) B.list (by decide +kernel) (pa_cons (pv 1) pa_nil)) (pa_cons (pe_lst pa_nil) pa_nil)) (by rfl))
    (pss_cons (ps_while PassesOwn.never (pt_cmpR (op_neD hr.units) (pv 2) (pe_lst pa_nil) (nomark _))
      (pss_one (ps_expr (pe_bm PySem.F.plainAttrs_list PySem.F.slot_list_append PySem.F.type_list_append mt_append (pv 3)
        (pa_cons (pe_bm PySem.F.plainAttrs_list PySem.F.slot_list_pop PySem.F.type_list_pop mt_popAt (pv 2)
          (pa_cons (pe_call GD hr rfl gD kD bD .nil pass0 (pa_cons (pv 0) (pa_cons (pe_callB call_len_seq (by rfl) B.len boot_len (pa_cons (pv 2) pa_nil)) pa_nil))) pa_nil)) pa_nil)))))
    (pss_one (ps_ret (pv 3)))), ?_⟩
  refine ⟨_, rfl, o, _, rfl, .inl (SqL.of ho), fun r hr0 => ⟨Nat.zero_le _, fun q hq => ⟨_, _, rfl, ?_⟩⟩⟩
  have nrp : r ≠ p := (ne_of_none PA0.p hr0).symm
  have nra : r ≠ a := (ne_of_none PA0.a hr0).symm
  have hq0 : H q = none := by
    by_cases e : q = r
    · rw [e]; exact hr0
    · rwa [upd_ne e] at hq
  have nqr : q ≠ r := fun e => by rw [e, upd_same] at hq; cases hq
  have nqp : q ≠ p := (ne_of_none PA0.p hq0).symm
  -- the invariant: what is left, what is found
  refine while_by (fun σ H' => ∃ (as bs : List Str) (t' l' : Int), σ = [some (.ref p), some (.ref o), some (.ref r), some (.ref q)] ∧ (as ++ bs).Perm xs ∧ t ≤ t' ∧ t' ≤ t + bs.length ∧ But p H H' ∧ PenAt H' p a ns t' l' ∧
      H' r = some (.lst (as.map V.str)) ∧ H' q = some (.lst (bs.map V.str)))
    (fun σ H' => match H' r with
      | some (.lst ys) => ys.length
      | _ => 0) ⟨xs, [], t, l, rfl, by simp, Int.le_refl _, by simp, ((But.refl p H).new hr0).new hq, (PA0.new hr0).new hq, (upd_ne nqr.symm).trans upd_same, upd_same⟩ ?_ ?_
  · rintro σ H' ⟨as, bs, t', l', rfl, pm, t1, t2, b, PA1, ea, eb⟩
    have hl : as.length + bs.length = xs.length := by rw [← List.length_append]; exact pm.length_eq
    refine ⟨_, rfl, Nat.zero_le _, fun z hz => ⟨_, _, .lst (SqL.of ((upd_ne (ne_of_none ea hz)).trans ea)) (strs_dp _ _ as), .lst (SqL.of upd_same) .nil, strs_shaped as fun y hy => hok y (pm.subset (List.mem_append_left _ hy)), rfl, _, rfl, ?_⟩⟩
    have PA2 := PA1.new (o := .lst []) hz
    have b2 := b.new (o := .lst []) hz
    have ea2 := (upd_ne (o := .lst []) (ne_of_none ea hz)).trans ea
    have eb2 := (upd_ne (o := .lst []) (ne_of_none eb hz)).trans eb
    have nzp : z ≠ p := (ne_of_none PA1.p hz).symm
    refine ite2 (fun c => ?_) fun c => ?_
    · have ha : 0 < as.length := by
        cases as with
        | nil => exact absurd c (by decide)
        | cons _ _ => exact Nat.succ_pos _
      have hal : (as.map V.str).length = as.length := List.length_map ..
      refine ⟨_, rfl, .inl ⟨rfl, _, SqL.of eb2⟩, _, rfl, .inl ⟨rfl, _, SqL.of ea2⟩, _, rfl, _, rfl, r, _, rfl, .inl (SqL.of ea2), p, a, ns, t', l', _, rfl, PA2, by omega, by rw [hal]; omega, by rw [hal]; exact small_abs (by omega), ?_⟩
      intro v t3 l3 H3 v0 v1 t4 t5 b3 PA3
      rw [hal] at v1
      obtain ⟨j, rfl⟩ : ∃ j : Nat, v = (j : Int) := ⟨_, (Int.toNat_of_nonneg v0).symm⟩
      have hj : j < as.length := by omega
      have ea3 := b3 r _ nrp ea2
      have eb3 := b3 q _ nqp eb2
      have it : (as.map V.str)[j]? = some (V.str as[j]) := by rw [List.getElem?_map, List.getElem?_eq_getElem hj]; rfl
      refine ⟨r, _, _, j, _, rfl, rfl, ea3, by omega, by omega, ?_, it, ?_⟩
      · rw [hal]
        have := seqIndex_of (k := (j : Int)) (n := as.length) (by omega) (by omega)
        simpa using this
      refine ⟨q, _, _, rfl, rfl, (upd_ne nqr).trans eb3, ?_, ?_⟩
      · rw [List.length_map]
        exact small1000 (by omega)
      refine ⟨⟨as.eraseIdx j, bs ++ [as[j]], t3, l3, rfl, ?_, by omega, ?_, ?_, ?_, ?_, ?_⟩, ?_⟩
      · refine List.Perm.trans ?_ pm
        have e : as.Perm (as[j] :: as.eraseIdx j) := (perm_erase hj).symm
        refine List.Perm.trans ?_ (e.append_right bs).symm
        rw [← List.append_assoc]
        exact (List.perm_append_comm (l₁ := as.eraseIdx j ++ bs) (l₂ := [as[j]])).trans (.refl _)
      · rw [List.length_append, List.length_singleton]; omega
      · intro c u n e
        rw [upd_ne (fun z => by rw [z] at e; rw [e] at hq0; cases hq0), upd_ne (fun z => by rw [z] at e; rw [e] at hr0; cases hr0)]
        exact b3 c u n (b2 c u n e)
      · have n1 : a ≠ q := fun z => by have := PA0.a; rw [z, hq0] at this; cases this
        exact ⟨(upd_ne nqp.symm).trans ((upd_ne nrp.symm).trans PA3.p), (upd_ne n1).trans ((upd_ne nra.symm).trans PA3.a), PA3.n, PA3.t0, PA3.l0⟩
      · rw [upd_ne nqr.symm, upd_same, map_erase]
      · rw [upd_same, List.map_append]
        rfl
      · show (match (upd (upd H3 r _) q _) r with | some (.lst ys) => ys.length | _ => 0) < (match H' r with | some (.lst ys) => ys.length | _ => 0)
        rw [upd_ne nqr.symm, upd_same, ea]
        show ((as.map V.str).eraseIdx j).length < (as.map V.str).length
        rw [List.length_eraseIdx_of_lt (by rw [hal]; exact hj), hal]
        omega
    · have ha : as = [] := by
        cases as with
        | nil => rfl
        | cons x r => exact absurd (by rfl) c
      subst ha
      refine ⟨_, rfl, k q bs t' l' _ ?_ t1 (by simp only [List.length_nil, Nat.zero_add] at hl; omega) b2 PA2 hq0 eb2⟩
      simpa using pm
  · intro σ H' Q1 Q2 hq ⟨v, e1, z, f⟩
    exact ⟨v, e1, z, fun l hl => let ⟨d, e, h1, h2, h3, h4, k, ek, q⟩ := f l hl; ⟨d, e, h1, h2, h3, h4, k, ek, hq _ _ q⟩⟩
end
end FP
set_option Elab.async false
set_option linter.all false
set_option maxRecDepth 100000
/-! What the reader of texts does, as plain functions of lists. -/
namespace FP
open PySem
def wordsL : List Str := ["local", "block", "loop", "maybe", "same", "else", "end", "input", "copy", "point", "load", "store", "use", "call", "to", "from"]
def formsL : List (Str × List Str) := [("input", [""]), ("copy", ["", "to", ""]), ("point", ["", "to", ""]), ("load", ["", "from", ""]), ("store", ["", "to", ""]), ("use", [""]), ("call", [""]),
  ("block", []), ("loop", []), ("maybe", []), ("same", ["", ""]), ("else", []), ("end", [])]
def openL : List Str := ["block", "loop", "maybe", "same"]
def twoL : List Str := ["maybe", "same"]
def passL : List Str := ["local", "block", "else", "end"]
def letter (c : Nat) : Bool := decide (97 ≤ c) && decide (c ≤ 122)
def isName (s : Str) : Bool := !(wordsL.contains s) && (decide (1 ≤ s.length) && decide (s.length ≤ 12)) && s.cps.toList.all letter
def fitsM (ws form : List Str) : Bool := decide (ws.length = form.length) && (ws.zip form).all fun p => p.2 == ("" : Str) || p.2 == p.1
structure RowM where
  word : Str
  names : List Str
  after : Nat
  other : Nat
deriving DecidableEq
structure ShM where
  rows : List RowM
  homes : List (Str × Nat)
  around : List (Nat × Nat)
  nest : List Nat
deriving DecidableEq
def ShM.new : ShM := ⟨[⟨"", [], 1, 0⟩], [], [], [0]⟩
def homeOf (homes : List (Str × Nat)) (x : Str) : Option Nat := (homes.find? fun p => decide (p.1 = x)).map (·.2)
def seenM (M : ShM) (x : Str) : Bool := match homeOf M.homes x with
  | some h => M.nest.contains h
  | none => false
def addName (n : Nat) (homes : List (Str × Nat)) (x : Str) : Option (List (Str × Nat)) :=
  if isName x = true ∧ homeOf homes x = none ∧ homes.length ≠ 5 then some (homes ++ [(x, n)]) else none
def addNames (n : Nat) : List (Str × Nat) → List Str → Option (List (Str × Nat))
  | homes, [] => some homes
  | homes, x :: r => (addName n homes x).bind fun h => addNames n h r
def declareM (M : ShM) (names : List Str) : Option ShM :=
  if names ≠ [] ∧ M.nest.getLast? = some (M.rows.length - 1) then
    (addNames (M.rows.length - 1) M.homes names).map fun h => ⟨M.rows ++ [⟨"local", names, M.rows.length + 1, 0⟩], h, M.around, M.nest⟩
  else none
def setRow (rows : List RowM) (i : Nat) (f : RowM → RowM) : List RowM := match rows[i]? with
  | some r => rows.set i (f r)
  | none => rows
/-- d[k] = v, the key new or there -/
def putN (d : List (Nat × Nat)) (k v : Nat) : List (Nat × Nat) := if (d.any fun p => decide (p.1 = k)) = true then d.map (fun p => if p.1 = k then (p.1, v) else p) else d ++ [(k, v)]
def getN (d : List (Nat × Nat)) (k : Nat) : Option Nat := (d.find? fun p => decide (p.1 = k)).map (·.2)
/-- behind the row of a line n that opens a block -/
def openM (M : ShM) (n : Nat) : Option ShM := match M.nest.getLast? with
  | some l => if M.nest.length ≤ 5 then some ⟨M.rows, M.homes, putN M.around n l, M.nest ++ [n]⟩ else none
  | none => none
def turnM (M : ShM) (n : Nat) : Option ShM := match M.nest.getLast? with
  | some l => (match M.rows[l]?, getN M.around l with
    | some r, some a => if twoL.contains r.word = true then some ⟨setRow M.rows l fun r => { r with other := n + 1 }, M.homes, putN M.around n a, M.nest.dropLast ++ [n]⟩ else none
    | _, _ => none)
  | none => none
def closeM (M : ShM) (n : Nat) : Option ShM := match M.nest.getLast? with
  | some l => (match M.rows[l]? with
    | some r => if l ≠ 0 then
        let rows1 := setRow M.rows l fun r => if r.word = ("else" : Str) then { r with after := n } else { r with other := n + 1 }
        let rows2 := if r.word = ("loop" : Str) then setRow rows1 n fun r => { r with after := l } else rows1
        some ⟨rows2, M.homes, M.around, M.nest.dropLast⟩
      else none
    | none => none)
  | none => none
def takeRowM (M : ShM) (word : Str) (words form : List Str) : Option ShM :=
  let names := ((words.zip form).filter fun p => p.2 == ("" : Str)).map (·.1)
  if names.all (seenM M) = true then
    let n := M.rows.length
    let M1 : ShM := ⟨M.rows ++ [⟨word, names, n + 1, 0⟩], M.homes, M.around, M.nest⟩
    if openL.contains word = true then openM M1 n else if word = "else" then turnM M1 n else if word = "end" then closeM M1 n else some M1
  else none
def takeM (M : ShM) (parts : List Str) : Option ShM := match parts with
  | [] => none
  | word :: words => if word = "local" then declareM M words else match formsL.lookup word with
    | some form => if fitsM words form = true then takeRowM M word words form else none
    | none => none
def landM (rows : List RowM) : Nat → Nat → Option Nat
  | 0, _ => none
  | f + 1, n => if n < rows.length then (match rows[n]? with
      | some r => if passL.contains r.word = true then landM rows f r.after else some n
      | none => none) else some 0
/-- the ways of the row at i -/
def wayM (f : Nat) (rows : List RowM) (i : Nat) : Option (List RowM) := match rows[i]? with
  | some r => if passL.contains r.word = true then some rows else
      (landM rows f r.after).bind fun a => (landM (rows.set i { r with after := a }) f r.other).map fun o => rows.set i { r with after := a, other := o }
  | none => none
def waysM (f : Nat) : Nat → Nat → List RowM → Option (List RowM)
  | 0, _, rows => some rows
  | n + 1, i, rows => (wayM f rows i).bind fun r => waysM f n (i + 1) r
def readLines (M : ShM) : List (List Str) → Option ShM
  | [] => some M
  | l :: r => (takeM M l).bind fun M1 => readLines M1 r
def linesM (text : Str) : List Str := if text = "" then [] else Txt.split text "\n"
/-- the sheet of a text of at most so many lines -/
def readM (text : Str) (most : Nat) : Option ShM :=
  if (linesM text).length ≤ most then
    (readLines ShM.new ((linesM text).map fun l => Txt.split l " ")).bind fun M => if M.nest.length = 1 then (waysM 100 M.rows.length 0 M.rows).map fun rows => { M with rows := rows } else none
  else none
end FP
set_option Elab.async false
set_option linter.all false
set_option maxRecDepth 100000
set_option maxHeartbeats 2000000
/-! zip of a list or tuple with a list or tuple; enumerate(.., start=k) of one. -/
namespace FP
open PySem PySem.Spec PyProof.Rows L2
/-- a list (true) or a tuple (false) -/
def SqB (K : PySem.W.Frag) (l : Bool) (H : Hp) (a : Addr) (xs : List V) : Prop := match l with
  | true => SqL K H a xs
  | false => SqT K H a xs
def ItB (l : Bool) (h : Heap) (it a : Addr) (i : Nat) : Prop := match l with
  | true => h.IsListIter it a i
  | false => h.IsTupleIter it a i
def OwnB (l : Bool) (h : Heap) (a : Addr) (items : Array Value) : Prop := match l with
  | true => h.IsList a items
  | false => h.IsTuple a items
def objB (l : Bool) (a : Addr) : Obj := match l with
  | true => { cls := .type "list_iterator", data := .fields #[.ref a, .int 0 0] }
  | false => { cls := .type "tuple_iterator", data := .fields #[.ref a, .int 0 0] }
theorem drawsB {prog : Program} {w : World} {A : Around} (l : Bool) (hh : A.handled = none) (it a : Addr) (hne : a ≠ it) (items : Array Value) :
    Draws prog w A it [it, a] items.size (fun i v => items[i]? = some v) (fun i h => ItB l h it a i ∧ OwnB l h a items) := by
  cases l
  · exact Draws.tuple hh it a hne items
  · exact Draws.list hh it a hne items
theorem beginsB (l : Bool) (a : Addr) (items : Array Value) : Begins (.ref a) (objB l a) fun h => OwnB l h a items := by
  cases l
  · exact begins_tuple a items
  · exact begins_list a items
theorem itB_new {l : Bool} {h : Heap} {it a : Addr} (e : h.get? it = some (objB l a)) : ItB l h it a 0 := by
  cases l
  · exact ⟨_, e, rfl, rfl⟩
  · exact ⟨_, e, rfl, rfl⟩
theorem itB_at {l : Bool} {h h' : Heap} {it a : Addr} {i : Nat} (x : ItB l h it a i) (k : ∀ o, h.get? it = some o → h'.get? it = some o) : ItB l h' it a i := by
  cases l
  · exact Heap.IsTupleIter.at x k
  · exact Heap.IsListIter.at x k
theorem itB_obj {l : Bool} {h : Heap} {it a : Addr} {i : Nat} (x : ItB l h it a i) : ∃ o, h.get? it = some o ∧ ∀ v, o.data ≠ .cell v := by
  cases l
  · obtain ⟨o, e, _, d⟩ := x
    exact ⟨o, e, fun v q => by rw [d] at q; cases q⟩
  · obtain ⟨o, e, _, d⟩ := x
    exact ⟨o, e, fun v q => by rw [d] at q; cases q⟩
section
variable {X : Cx} {pins : List (Addr × Obj)} {σ : L2.St} {H : Hp} {s : Shared} {a : Addr} {xs ys : List V} {l : Bool}
theorem inv_seqB (I : Inv X pins σ H s) (h : SqB X.K l H a xs) : ∃ its : List Value, Vals xs its ∧ OwnB l s.heap a its.toArray := by
  cases l
  · obtain ⟨its, r, p, _⟩ := I.tuple h
    exact ⟨its, r, p⟩
  · obtain ⟨its, r, p, _⟩ := I.list h
    exact ⟨its, r, p.isList⟩
theorem inv_seqB_inj (I : Inv X pins σ H s) (h : SqB X.K l H a xs) (h' : SqB X.K l H a ys) : xs = ys := by
  cases l
  · exact I.tuple_inj h h'
  · exact I.list_inj h h'
theorem ownB_lt {h : Heap} {items : Array Value} (x : OwnB l h a items) : a < h.objs.size := by
  cases l
  · obtain ⟨o, e, _⟩ := x
    exact Heap.lt_size e
  · obtain ⟨o, e, _⟩ := x
    exact Heap.lt_size e
end
/-- a, b walked together, the items in new pairs -/
def ItzB (K : PySem.W.Frag) (l m : Bool) (a b : Addr) : It :=
  ⟨fun i H => ∃ (xs ys : List V) (x y : V), SqB K l H a xs ∧ SqB K m H b ys ∧ xs[i]? = some x ∧ ys[i]? = some y,
    fun i H v H' => ∃ T x y, v = .ref T ∧ H T = none ∧ H' = upd H T (.tup [x, y]) ∧ (∀ xs, SqB K l H a xs → xs[i]? = some x) ∧ ∀ ys, SqB K m H b ys → ys[i]? = some y,
    fun i H => ∃ xs ys : List V, SqB K l H a xs ∧ SqB K m H b ys ∧ i ≤ xs.length ∧ i ≤ ys.length ∧ (i = xs.length ∨ i = ys.length)⟩
theorem turn_zipB {P : Program} {w : World} {K : PySem.W.Frag} {elts : List Expr} {kk : Nat} {tpos : Pos} {l m : Bool} {a b z TI TO i1 i2 : Addr} (D : ZipSep2 z TI TO i1 i2 [i1, a] [i2, b]) (n1 : a ≠ i1) (n2 : b ≠ i2) :
    Turn P w K (.Tuple elts kk tpos) (ItzB K l m a b) [z, TI, TO, i1, i2] z (fun i h => IsZip h z TI TO .none ∧ IsTupOf2 h TI (.ref i1) (.ref i2) ∧ (∃ x y, IsTupOf2 h TO x y) ∧ ItB l h i1 a i ∧ ItB m h i2 b i) where
  mem := by simp
  obj := fun i h st c hc => by
    obtain ⟨hz, hTI, ⟨x, y, hTO⟩, h1, h2⟩ := st
    simp only [List.mem_cons, List.not_mem_nil, or_false] at hc
    rcases hc with q | q | q | q | q
    · rw [q]; exact ⟨_, hz, fun v q => nomatch q⟩
    · rw [q]; exact ⟨_, hTI, fun v q => nomatch q⟩
    · rw [q]; exact ⟨_, hTO, fun v q => nomatch q⟩
    · exact q ▸ itB_obj h1
    · exact q ▸ itB_obj h2
  keep := fun i h h' st k => by
    obtain ⟨hz, hTI, ⟨x, y, hTO⟩, h1, h2⟩ := st
    exact ⟨k z (by simp) _ hz, k TI (by simp) _ hTI, ⟨x, y, k TO (by simp) _ hTO⟩, itB_at h1 fun o q => k i1 (by simp) o q, itB_at h2 fun o q => k i2 (by simp) o q⟩
  item := by
    intro X hP hw hK hc i pins s σ H E I hf st hg
    subst hP hw hK
    obtain ⟨hz, hTI, ⟨x0, y0, hTO⟩, h1, h2⟩ := st
    obtain ⟨xs, ys, x, y, hqx, hqy, hx, hy⟩ := hg
    obtain ⟨its, rv, p⟩ := inv_seqB I hqx
    obtain ⟨its2, rv2, p2⟩ := inv_seqB I hqy
    obtain ⟨u, hu, ru⟩ := rv.get hx
    obtain ⟨u2, hu2, ru2⟩ := rv2.get hy
    have e1 : its.toArray[i]? = some u := by simpa using hu
    have e2 : its2.toArray[i]? = some u2 := by simpa using hu2
    have l1 : i < its.toArray.size := (Array.getElem?_eq_some_iff.mp e1).1
    have l2 : i < its2.toArray.size := (Array.getElem?_eq_some_iff.mp e2).1
    have hzl : z < s.heap.objs.size := Heap.lt_size hz
    refine wpAny_pyNext_zipD2_item D (drawsB (A := X.A.in1) l (show X.A.in1.handled = none from I.ok.hd hc) i1 a n1 its.toArray) (drawsB (A := X.A.in1) m (show X.A.in1.handled = none from I.ok.hd hc) i2 b n2 its2.toArray) hz hTI hTO ⟨h1, p⟩ ⟨h2, p2⟩ l1 l2 fun x1 x2 h' tk px py z' TO' d1 d2 hT hsz hk => ?_
    have ex1 : x1 = u := Option.some.inj (px.symm.trans e1)
    have ex2 : x2 = u2 := Option.some.inj (py.symm.trans e2)
    subst ex1 ex2
    refine ⟨_, rfl, wpAny_letOwnedTupleGo_zip (s := { s with heap := h', toks := tk }) z' fun h'' z'' sb => ?_⟩
    have hT2 : h''.get? s.heap.objs.size = some { cls := .type "tuple", data := .seq #[x1, x2] } := (sb.2 _ (Nat.ne_of_gt hzl)).trans hT
    have new : ObjOk X.prog X.w (upd H s.heap.objs.size (.tup [x, y])) h'' s.heap.objs.size (.tup [x, y]) :=
      ⟨by show 2 ≤ sizeLine; decide, [x1, x2], .cons ru (.cons ru2 .nil), ⟨_, hT2, rfl, _, rfl⟩⟩
    have I1 : Inv X pins σ (upd H s.heap.objs.size (.tup [x, y])) { s with heap := h'', toks := tk } :=
      I.turnedNew (t' := tk) (ch := [z, TI, TO, i1, i2]) (fun c o hb q => (sb.2 c (fun q' => hb (by simp [q']))).trans (hk c o (fun q' => hb (by simp [q'])) (fun q' => hb (by simp [q'])) (fun q' => hb (by simp [q'])) (fun q' => hb (by simp [q'])) q)) hf (Nat.le_refl _) new
    refine ⟨.ref s.heap.objs.size, _, I1, rfl, ⟨_, x, y, rfl, I.hok.fresh (Nat.le_refl _), rfl, fun l hl => by rw [inv_seqB_inj I hl hqx]; exact hx, fun l hl => by rw [inv_seqB_inj I hl hqy]; exact hy⟩, ⟨z'', ?_, ⟨x1, x2, ?_⟩, ?_, ?_⟩, fun c hcm => ?_⟩
    · exact (sb.2 _ D.TIz).trans (hk _ _ D.TIz D.TITO D.TIi1 D.TIi2 hTI)
    · exact (sb.2 _ D.TOz).trans TO'
    · exact itB_at d1.1 fun o q => (sb.2 _ (Ne.symm D.zi1)).trans q
    · exact itB_at d2.1 fun o q => (sb.2 _ (Ne.symm D.zi2)).trans q
    · have hlt : c < s.heap.objs.size := by
        simp only [List.mem_cons, List.not_mem_nil, or_false] at hcm
        rcases hcm with q | q | q | q | q
        · exact q ▸ hzl
        · exact q ▸ Heap.lt_size hTI
        · exact q ▸ Heap.lt_size hTO
        · obtain ⟨_, e, _⟩ := itB_obj h1
          exact q ▸ Heap.lt_size e
        · obtain ⟨_, e, _⟩ := itB_obj h2
          exact q ▸ Heap.lt_size e
      rw [upd_ne (Nat.ne_of_lt hlt)]
      exact (hf c hcm).1
  done := by
    intro X hP hw hK hc i pins s σ H E I hf st hg
    subst hP hw hK
    obtain ⟨hz, hTI, ⟨x0, y0, hTO⟩, h1, h2⟩ := st
    obtain ⟨xs, ys, hqx, hqy, le1, le2, hend⟩ := hg
    obtain ⟨its, rv, p⟩ := inv_seqB I hqx
    obtain ⟨its2, rv2, p2⟩ := inv_seqB I hqy
    have g1 := rv.length
    have g2 := rv2.length
    have z1 : its.toArray.size = xs.length := by simp [g1]
    have z2 : its2.toArray.size = ys.length := by simp [g2]
    exact wpAny_pyNext_zipD2_end D (drawsB (A := X.A.in1) l (show X.A.in1.handled = none from I.ok.hd hc) i1 a n1 its.toArray) (drawsB (A := X.A.in1) m (show X.A.in1.handled = none from I.ok.hd hc) i2 b n2 its2.toArray) hz hTI hTO ⟨h1, p⟩ ⟨h2, p2⟩ (by omega) (by omega) (by omega) fun h' tk hk => ⟨rfl, I.turnedL (t' := tk) (ch := [z, TI, TO, i1, i2]) (fun c o hb q =>
      hk c o (fun q' => hb (by simp [q'])) (fun q' => hb (by simp [q'])) (fun q' => hb (by simp [q'])) (fun q' => hb (by simp [q'])) q) hf⟩
  self := fun A i s Q E st h => wpAny_pyIter_zip st.1 h
def iZipB (K : PySem.W.Frag) (l m : Bool) (ta : TA) : TI := fun σ H R => ta σ H fun vs H1 => ∃ a b xs ys, vs = [.ref a, .ref b] ∧ SqB K l H1 a xs ∧ SqB K m H1 b ys ∧ R (ItzB K l m a b) H1
theorem pi_zipB {X : Cx} {e e2 : Expr} {ta : TA} {p pos tpos : Pos} {elts : List Expr} {kk : Nat} (l m : Bool) (hg : Gl X "zip") (hm : X.mg "zip" = none) (ha : PA X [e, e2] ta)
    (hs : starEach [e, e2] X.env = (false, eval e X.env) :: starEach [e2] X.env := by rfl) (hpl : (backTo pos (starEach [e2] X.env)).any (·.1) = false := by rfl) :
    PI X (.Tuple elts kk tpos) (.Call (.Name "zip" p) [e, e2] [] pos) (iZipB X.K l m ta) := by
  refine ⟨fun pins s σ H R I h => ?_⟩
  refine Call_ (ld_blt I hg hm PyProof.Rows.boot_zip (PyProof.Rows.callWith_type1 (thn (ha.run pos pins s σ H _ I h) fun us s1 ⟨vs, H1, I1, r1, q1⟩ => ?_) hs hpl))
  obtain ⟨a, b, xs, ys, rfl, hqx, hqy, q⟩ := q1
  cases r1 with
  | cons r rr =>
    cases rr with
    | cons r' rr =>
      cases rr
      cases r
      cases r'
      obtain ⟨its, rv, p1⟩ := inv_seqB I1 hqx
      obtain ⟨its2, rv2, p2⟩ := inv_seqB I1 hqy
      have la := ownB_lt p1
      have lb := ownB_lt p2
      have S : ZipSep2 (s1.heap.objs.size + 4) (s1.heap.objs.size + 2) (s1.heap.objs.size + 3) s1.heap.objs.size (s1.heap.objs.size + 1) [s1.heap.objs.size, a] [s1.heap.objs.size + 1, b] :=
        zip_sep2 (N := s1.heap.objs.size) (fp1 := [a]) (fp2 := [b]) (fun c hc => by rw [List.mem_singleton.mp hc]; exact la) (fun c hc => by rw [List.mem_singleton.mp hc]; exact lb)
      refine zip_begins2 (beginsB l a its.toArray) (beginsB m b its2.toArray) p1 p2 fun h' hz hTI hTO h1 h2 hsz hk => wpAny_pyIter_zip hz ?_
      have I2 : Inv X pins σ H1 { s1 with heap := h' } := I1.kept (t' := s1.toks) hk
      refine ⟨s1.heap.objs.size + 4, [s1.heap.objs.size + 4, s1.heap.objs.size + 2, s1.heap.objs.size + 3, s1.heap.objs.size, s1.heap.objs.size + 1], _, _, H1, rfl, I2, turn_zipB S (Nat.ne_of_lt la) (Nat.ne_of_lt (Nat.lt_succ_of_lt lb)), ⟨hz, hTI, ⟨_, _, hTO⟩, itB_new h1, itB_new h2⟩, fun c hcm => ?_, q⟩
      have hle : s1.heap.objs.size ≤ c := by
        simp only [List.mem_cons, List.not_mem_nil, or_false] at hcm
        rcases hcm with z | z | z | z | z
        · rw [z]; exact Nat.le_add_right _ _
        · rw [z]; exact Nat.le_add_right _ _
        · rw [z]; exact Nat.le_add_right _ _
        · rw [z]; exact Nat.le_refl _
        · rw [z]; exact Nat.le_add_right _ _
      exact I1.fpOk hle (I1.hok.fresh hle)
theorem walk_zipB {K : PySem.W.Frag} {l m : Bool} {a b : Addr} {xs ys : List V} {n : Nat} (hn : xs.length = n) (hm : ys.length = n) : Walk (ItzB K l m a b) n (fun H => SqB K l H a xs ∧ SqB K m H b ys) (YPair (fun i => xs[i]?) (fun i => ys[i]?)) := by
  refine ⟨fun i _ hi q => ?_, fun _ q => ⟨xs, ys, q.1, q.2, by omega, by omega, by omega⟩, fun i H v H' _ q y => ?_⟩
  · have h1 : i < xs.length := by omega
    have h2 : i < ys.length := by omega
    exact ⟨xs, ys, xs[i], ys[i], q.1, q.2, by simp [h1], by simp [h2]⟩
  · obtain ⟨T, x, z, h1, h2, h3, h4, h5⟩ := y
    exact ⟨T, x, z, h1, h2, h3, h4 xs q.1, h5 ys q.2⟩
/-- a walked from the number k on, each item in a new pair behind its number -/
def IteB (K : PySem.W.Frag) (l : Bool) (k : Int) (a : Addr) : It :=
  ⟨fun i H => ∃ (xs : List V) (x : V), SqB K l H a xs ∧ xs[i]? = some x, fun i H v H' => ∃ T x, v = .ref T ∧ H T = none ∧ H' = upd H T (.tup [.int (k + (i : Nat)), x]) ∧ ∀ xs, SqB K l H a xs → xs[i]? = some x,
    fun i H => ∃ xs : List V, SqB K l H a xs ∧ xs.length = i⟩
theorem turn_enumB {P : Program} {w : World} {K : PySem.W.Frag} {elts : List Expr} {kk : Nat} {tpos : Pos} (l : Bool) (k : Int) (a e it : Addr) (na : a ≠ it) (ne : e ≠ it) (nea : e ≠ a) :
    Turn P w K (.Tuple elts kk tpos) (IteB K l k a) [e, it] e (fun i h => (∃ old, IsEnum h e it (k + (i : Nat)) old) ∧ ItB l h it a i) where
  mem := by simp
  obj := fun i h st b hb => by
    obtain ⟨⟨old, he⟩, hi⟩ := st
    simp only [List.mem_cons, List.not_mem_nil, or_false] at hb
    rcases hb with z | z
    · rw [z]; exact ⟨_, he, fun v q => nomatch q⟩
    · exact z ▸ itB_obj hi
  keep := fun i h h' st k => let ⟨⟨old, he⟩, hi⟩ := st; ⟨⟨old, k e (by simp) _ he⟩, itB_at hi fun o q => k it (by simp) o q⟩
  item := by
    intro X hP hw hK hc i pins s σ H E I hf st hg
    subst hP hw hK
    obtain ⟨⟨old, he⟩, hit⟩ := st
    obtain ⟨xs, x, hq, hx⟩ := hg
    obtain ⟨its, rv, p⟩ := inv_seqB I hq
    obtain ⟨u, hu, ru⟩ := rv.get hx
    have e1 : its.toArray[i]? = some u := by simpa using hu
    have l1 : i < its.toArray.size := (Array.getElem?_eq_some_iff.mp e1).1
    have hel : e < s.heap.objs.size := Heap.lt_size he
    refine wpAny_pyNext_enum_itemC (drawsB (A := X.A.in1) l (show X.A.in1.handled = none from I.ok.hd hc) it a na its.toArray) he ⟨hit, p⟩ l1 ne (by simp [ne, nea]) fun y h' tk hy ho st' hT hsz hk => ?_
    have ey : y = u := Option.some.inj (hy.symm.trans e1)
    subst ey
    refine ⟨_, rfl, wpAny_letOwnedTupleGo_enum (s := { s with heap := h', toks := tk + 1 }) ho fun h'' he' sb => ?_⟩
    have hT2 : h''.get? s.heap.objs.size = some { cls := .type "tuple", data := .seq #[.int (k + (i : Nat)) tk, y] } := (sb.2 _ (Nat.ne_of_gt hel)).trans hT
    have new : ObjOk X.prog X.w (upd H s.heap.objs.size (.tup [.int (k + (i : Nat)), x])) h'' s.heap.objs.size (.tup [.int (k + (i : Nat)), x]) :=
      ⟨by show 2 ≤ sizeLine; decide, [.int (k + (i : Nat)) tk, y], .cons ⟨_, rfl⟩ (.cons ru .nil), ⟨_, hT2, rfl, _, rfl⟩⟩
    have I1 : Inv X pins σ (upd H s.heap.objs.size (.tup [.int (k + (i : Nat)), x])) { s with heap := h'', toks := tk + 1 } :=
      I.turnedNew (ch := [e, it]) (fun b ob hb q => (sb.2 b (fun z => hb (by simp [z]))).trans (hk b ob (fun z => hb (by simp [z])) (fun z => hb (by simp [z])) q)) hf (Nat.le_refl _) new
    refine ⟨.ref s.heap.objs.size, _, I1, rfl, ⟨_, x, rfl, I.hok.fresh (Nat.le_refl _), rfl, fun ys hy => by rw [inv_seqB_inj I hy hq]; exact hx⟩, ⟨⟨y, ?_⟩, itB_at st'.1 fun o q => (sb.2 it (Ne.symm ne)).trans q⟩, fun b hb => ?_⟩
    · have e2 : k + ((i + 1 : Nat) : Int) = k + (i : Int) + 1 := by omega
      rw [e2]; exact he'
    · have hb' : b < s.heap.objs.size := by
        have hb2 := hb
        simp only [List.mem_cons, List.not_mem_nil, or_false] at hb2
        rcases hb2 with z | z
        · exact z ▸ hel
        · obtain ⟨_, q, _⟩ := itB_obj hit
          exact z ▸ Heap.lt_size q
      rw [upd_ne (Nat.ne_of_lt hb')]
      exact (hf b hb).1
  done := by
    intro X hP hw hK hc i pins s σ H E I hf st hg
    subst hP hw hK
    obtain ⟨⟨old, he⟩, hit⟩ := st
    obtain ⟨xs, hq, hx⟩ := hg
    obtain ⟨its, rv, p⟩ := inv_seqB I hq
    obtain ⟨f0, f1, f2, f3, f4, f5⟩ := hf it (by simp)
    have g1 := rv.length
    have z1 : its.toArray.size = i := by simp [← g1, hx]
    exact wpAny_pyNext_enum_endD (drawsB (A := X.A.in1) l (show X.A.in1.handled = none from I.ok.hd hc) it a na its.toArray) he (by rw [z1]; exact ⟨hit, p⟩) fun h' eb => ⟨rfl, I.turned (t' := s.toks) (fun b o hb q => eb b o hb q) f0 f1 f3 f4 f5⟩
  self := fun A i s Q E st h => let ⟨⟨_, he⟩, _⟩ := st; wpAny_pyIter_enum he h
theorem walk_enumB {K : PySem.W.Frag} {l : Bool} {k : Int} {a : Addr} {xs : List V} : Walk (IteB K l k a) xs.length (fun H => SqB K l H a xs) (YPair (fun i => some (.int (k + (i : Nat)))) (fun i => xs[i]?)) := by
  refine ⟨fun i _ hi q => ⟨xs, xs[i], q, by simp [hi]⟩, fun _ q => ⟨xs, q, rfl⟩, fun i H v H' _ q y => ?_⟩
  obtain ⟨T, x, h1, h2, h3, h4⟩ := y
  exact ⟨T, _, x, h1, h2, h3, rfl, h4 xs q⟩
theorem enumB_ready {X : Cx} {pins : List (Addr × Obj)} {σ : L2.St} {H : Hp} {s : Shared} {h' : Heap} {elts : List Expr} {kk : Nat} {tpos : Pos} {R : It → Hp → Prop} {l : Bool} {a : Addr} {k : Int} (I : Inv X pins σ H s) (la : a < s.heap.objs.size)
    (he : IsEnum h' (s.heap.objs.size + 1) s.heap.objs.size k .none) (hi : h'.get? s.heap.objs.size = some (objB l a)) (hk : ∀ b o, s.heap.get? b = some o → h'.get? b = some o) (q : R (IteB X.K l k a) H) :
    PIE X pins σ (.Tuple elts kk tpos) R (.ref (s.heap.objs.size + 1)) { s with heap := h' } := by
  have I2 : Inv X pins σ H { s with heap := h' } := I.kept (t' := s.toks) hk
  refine ⟨s.heap.objs.size + 1, [s.heap.objs.size + 1, s.heap.objs.size], _, _, H, rfl, I2, turn_enumB l k a (s.heap.objs.size + 1) s.heap.objs.size (Nat.ne_of_lt la) (Nat.succ_ne_self _) (Nat.ne_of_gt (Nat.lt_succ_of_lt la)), ⟨⟨.none, ?_⟩, itB_new hi⟩, fun b hb => ?_, q⟩
  · have e : k + ((0 : Nat) : Int) = k := by omega
    rw [e]; exact he
  · have hle : s.heap.objs.size ≤ b := by
      simp only [List.mem_cons, List.not_mem_nil, or_false] at hb
      rcases hb with z | z
      · rw [z]; exact Nat.le_add_right _ _
      · rw [z]; exact Nat.le_refl _
    exact I.fpOk hle (I.hok.fresh hle)
end FP
set_option Elab.async false
set_option linter.all false
set_option maxRecDepth 100000
set_option maxHeartbeats 2000000
/-! enumerate(e), enumerate(e, start=k) of a list or tuple; a global written tuple. -/
namespace FP
open PySem PySem.Spec PyProof.Rows L2
theorem callWith_tyKw {M : Model} {A : Around} {E : Value → Shared → Prop} {s : Shared} {pos : Pos} {T : String} {first : List Value} {args : List (Bool × Sem Value)} {keywords : List (Option Str × Sem Value)} {Q : Value → Shared → Prop}
    (hplain : args.any (·.1) = false) (hkw : keywords.any (·.1.isNone) = false)
    (h : wpAny M A (evalArgs (.type T) true args keywords) (fun a s₁ => wpAny M A (call (.type T) (first ++ a.pos) a.kw) Q E s₁) E s) :
    wpAny M A (callWith pos (.type T) first args keywords) Q E s := by
  unfold callWith
  refine wpAny_bind (wpAny_holding (wpAny_mono h (fun a s₁ h₁ => wpAny_bind (wpAny_standAt ?_)) fun _ _ x => x))
  simp only [hplain, hkw, Bool.or_false]
  refine wpAny_bind (wpAny_pure ?_)
  exact wpAny_bind (wpAny_mono h₁ (fun r s₂ hr => wpAny_bind (wpAny_holding (wpAny_point (wpAny_pure hr)))) fun _ _ x => x)
def iEnumS (K : PySem.W.Frag) (l : Bool) (ta : TA) (tk : TA) : TI := fun σ H R => ta σ H fun vs H0 => tk σ H0 fun zs H1 => ∃ a xs k, vs = [.ref a] ∧ zs = [.int k] ∧ -(2 ^ 63) ≤ k ∧ k < 2 ^ 63 ∧ SqB K l H1 a xs ∧ R (IteB K l k a) H1
theorem pi_enumS {X : Cx} {e e2 : Expr} {ta tk : TA} {p pos tpos kp : Pos} {elts : List Expr} {kk : Nat} (l : Bool) (hg : Gl X "enumerate") (hm : X.mg "enumerate" = none) (ha : PA X [e] ta) (hk : PK X [⟨some "start", e2, kp⟩] tk)
    (he : backTo pos (starEach [e] X.env) = (false, eval e X.env) :: backTo pos (starEach [] X.env) := by rfl) (hpl : (backTo pos (starEach [e] X.env)).any (·.1) = false := by rfl)
    (hall : (backToKw pos (keywordEach [⟨some "start", e2, kp⟩] X.env)).all (·.1.isSome) = true := by rfl) (hnone : (backToKw pos (keywordEach [⟨some "start", e2, kp⟩] X.env)).any (·.1.isNone) = false := by rfl)
    (hks : (backToKw pos (keywordEach [⟨some "start", e2, kp⟩] X.env)).filterMap (·.1) = [("start" : Str)] := by rfl) :
    PI X (.Tuple elts kk tpos) (.Call (.Name "enumerate" p) [e] [⟨some "start", e2, kp⟩] pos) (iEnumS X.K l ta tk) := by
  refine ⟨fun pins s σ H R I h => ?_⟩
  refine wpAny_Call_Name_kw (ld_blt I hg hm boot_enumerate (callWith_tyKw hpl hnone ?_))
  have hrun : wpAny (model X.prog X.w) X.A (spliced (backTo pos (starEach [e] X.env))) (fun vs s₁ => wpAny (model X.prog X.w) X.A (evalAll ((backToKw pos (keywordEach [⟨some "start", e2, kp⟩] X.env)).map (·.2)))
      (fun kvs s₂ => (fun a s₁ => wpAny (model X.prog X.w) X.A (call (.type "enumerate") ([] ++ a.pos) a.kw) (fun v s1 => wpAny (model X.prog X.w) X.A (pyIter v) (PIE X pins σ (.Tuple elts kk tpos) R) X.xe s1) X.xe s₁) (⟨vs, ((backToKw pos (keywordEach [⟨some "start", e2, kp⟩] X.env)).filterMap (·.1)).zip kvs⟩ : Args) s₂) X.xe s₁) X.xe s := by
    refine thn (ha.run pos pins s σ H _ I h) fun us s1 ⟨vs, H1, I1, r1, q1⟩ => thn (hk.run pos pins s1 σ H1 _ I1 q1) fun ws s2 ⟨zs, H2, I2, r2, q2⟩ => ?_
    obtain ⟨a, xs, k, rfl, rfl, k0, k1, hq, q⟩ := q2
    rw [hks]
    obtain ⟨u, rfl, ru⟩ := vals1 r1
    obtain ⟨u2, rfl, ru2⟩ := vals1 r2
    cases ru
    obtain ⟨t, rfl⟩ := ru2
    obtain ⟨its, rv, p1⟩ := inv_seqB I2 hq
    exact enum_begins_start (beginsB l a its.toArray) p1 k0 k1 fun h' he hi hsz hk => wpAny_pyIter_enum he (enumB_ready I2 (ownB_lt p1) he hi hk q)
  rw [he] at hrun ⊢
  exact evalArgs_kwB hall hrun
end FP
set_option Elab.async false
set_option linter.all false
set_option maxRecDepth 100000
set_option maxHeartbeats 2000000
/-! enumerate(e) of a list or tuple. -/
namespace FP
open PySem PySem.Spec PyProof.Rows L2
theorem enum1_meets {v : Value} {o : Obj} {H : Heap → Prop} (B : Begins v o H) :
    Meets (Builtin.«enumerate.__new__» ⟨[.type "enumerate", v], []⟩) (fun _ R s => H s.heap ∧
      R (.ok (.ret (.ref (s.heap.push o).objs.size))) { s with heap := (s.heap.push o).push { cls := .type "enumerate", data := .fields #[.none, .bool false, .ref s.heap.objs.size, rawInt 0, .none, .none] } }) :=
  .of_wp fun prog w A R s h => by
    obtain ⟨hp, g, d, tk, os⟩ := s; obtain ⟨h1, h⟩ := h
    have hsub := sub_enumerate
    have q1 : ∀ {A' : Around} {E : Value → Shared → Prop} {Q : Value → Shared → Prop}, Q (.ref hp.objs.size) ⟨hp.push o, g, d, tk, os⟩ → wpAny (model prog w) A' (pyIter v) Q E ⟨hp, g, d, tk, os⟩ :=
      fun q => B.iter prog w _ _ ⟨hp, g, d, tk, os⟩ _ h1 q
    wp_walk using q1
    refine wpAny_stack_any fun st => wpAny_pure ?_
    split
    · rename_i c _ _ _ _ _
      cases (c == Value.type "enumerate")
      · wp_walk using q1
        exact ⟨_, rfl, h⟩
      · wp_walk using q1
        exact ⟨_, rfl, h⟩
    · wp_walk using q1
      exact ⟨_, rfl, h⟩
theorem enum1_begins {prog : Program} {w : World} {A : Around} {E : Value → Shared → Prop} {s : Shared} {v : Value} {o : Obj} {H : Heap → Prop} {Q : Value → Shared → Prop} (B : Begins v o H) (h1 : H s.heap)
    (h : ∀ h', IsEnum h' (s.heap.objs.size + 1) s.heap.objs.size 0 .none → h'.get? s.heap.objs.size = some o → h'.objs.size = s.heap.objs.size + 2 → (∀ b o, s.heap.get? b = some o → h'.get? b = some o) → Q (.ref (s.heap.objs.size + 1)) { s with heap := h' }) :
    wpAny (model prog w) A (call (.type "enumerate") [v]) Q E s := by
  refine callType_new F.called_enumerate (by decide) (F.typeCall_enumerate_1 _) (F.newCall_enumerate_1 _) (fun obj => F.args_object_init_2 obj _) F.entry_enumerate_new (enum1_meets B) ⟨h1, ?_⟩
  have hz : (s.heap.push o).objs.size = s.heap.objs.size + 1 := Heap.size_push ..
  show _ ∧ _
  rw [hz]
  have he := Heap.get?_push_size (s.heap.push o) (o := { cls := .type "enumerate", data := .fields #[.none, .bool false, .ref s.heap.objs.size, rawInt 0, .none, .none] }) rfl
  rw [hz] at he
  exact ⟨⟨_, he, rfl⟩, h _ he (Heap.get?_push_of_some _ (Heap.get?_push_size _ B.free)) (by rw [Heap.size_push, hz]) fun b o x => Heap.get?_push_of_some _ (Heap.get?_push_of_some _ x)⟩
def iEnumB (K : PySem.W.Frag) (l : Bool) (ta : TA) : TI := fun σ H R => ta σ H fun vs H1 => ∃ a xs, vs = [.ref a] ∧ SqB K l H1 a xs ∧ R (IteB K l 0 a) H1
theorem pi_enumB {X : Cx} {e : Expr} {ta : TA} {p pos tpos : Pos} {elts : List Expr} {kk : Nat} (l : Bool) (hg : Gl X "enumerate") (hm : X.mg "enumerate" = none) (ha : PA X [e] ta) (hs : starEach [e] X.env = [(false, eval e X.env)] := by rfl) :
    PI X (.Tuple elts kk tpos) (.Call (.Name "enumerate" p) [e] [] pos) (iEnumB X.K l ta) := by
  refine ⟨fun pins s σ H R I h => ?_⟩
  refine Call_ (ld_blt I hg hm boot_enumerate (PyProof.Rows.callWith_type1 (thn (ha.run pos pins s σ H _ I h) fun us s1 ⟨vs, H1, I1, r1, q1⟩ => ?_) hs rfl))
  obtain ⟨a, xs, rfl, hq, q⟩ := q1
  obtain ⟨u, rfl, ru⟩ := vals1 r1
  cases ru
  obtain ⟨its, rv, p1⟩ := inv_seqB I1 hq
  exact enum1_begins (beginsB l a its.toArray) p1 fun h' he hi hsz hk => wpAny_pyIter_enum he (enumB_ready I1 (ownB_lt p1) he hi hk q)
end FP
set_option Elab.async false
set_option linter.all false
set_option maxRecDepth 100000
set_option maxHeartbeats 4000000
/-! is_name, lines_of, fits: their promises. -/
namespace FP
open PySem PySem.Spec PyProof.Rows L2
theorem _root_.L2.Same.new {H H' : Hp} {p : Addr} {o : HO} (a : Same H H') (hp : H' p = none) : Same H (upd H' p o) := fun b u e => (upd_ne (ne_of_none (a b u e) hp)).trans (a b u e)
/-- the built-ins by which the reader goes -/
structure Blt2 (mg : Str → Option Value) : Prop where
  len : mg "len" = none
  all : mg "all" = none
  zip : mg "zip" = none
  enum : mg "enumerate" = none
  list : mg "list" = none
  tuple : mg "tuple" = none
/-- the reader's names -/
structure WordsAt (K : PySem.W.Frag) (mg : Str → Option Value) (aW : Addr) : Prop where
  g : mg "WORDS" = some (.ref aW)
  s : ∀ H, SqT K H aW (wordsL.map V.str)
  l : ∃ t, mg "LONGEST_NAME" = some (.int 12 t)
theorem inV_strs (x : Str) (l : List Str) : inV (.str x) (l.map V.str) = l.contains x := by
  unfold inV
  rw [List.any_map]
  induction l with
  | nil => rfl
  | cons y r ih => 
    rw [List.any_cons, List.contains_cons, ih]
    show ((y == x) || _) = _
    rw [Bool.beq_comm (a := x)]
theorem flat_strs : ∀ l : List Str, (l.map V.str).all flatV = true
  | [] => rfl
  | _ :: r => by
    rw [List.map_cons, List.all_cons, flat_strs r]
    rfl
theorem letter_of (c : Nat) : letter c = (!decide ((⟨#[c]⟩ : Str).cps.toList < ("a" : Str).cps.toList) && !decide (("z" : Str).cps.toList < (⟨#[c]⟩ : Str).cps.toList)) := by
  have e1 : ("a" : Str).cps.toList = [97] := rfl
  have e2 : ("z" : Str).cps.toList = [122] := rfl
  have h : ∀ a b : Nat, decide ([a] < [b]) = decide (a < b) := fun a b => by
    refine decide_eq_decide.mpr ?_
    constructor
    · intro h
      cases h with
      | rel h => exact h
      | cons h => cases h
    · exact fun h => List.Lex.rel h
  rw [e1, e2, h, h]
  unfold letter
  by_cases z1 : c < 97 <;> by_cases z2 : 122 < c <;> simp [z1, z2] <;> omega
/-- True just for names -/
def spIsName : Sp := fun vs H Q _ => ∃ x : Str, vs = [.str x] ∧ x.length ≤ 1000000 ∧ ∀ H', Same H H' → Q (.bl (isName x)) H'
section
variable {P : Program} {w : World} {K : PySem.W.Frag} {mg : Str → Option Value} {base : Heap}
theorem scIN : FnScope ["text", "letter"] ["text"] (defScope sIsName) := ⟨rfl, rfl, rfl, by decide +kernel, rfl, by decide +kernel, by decide +kernel⟩
theorem ok_isName {f aW : Addr} {fd : FuncData} (F : Fun K "is_name" "is_name" sIsName f fd) (B : Blt2 mg) (W : WordsAt K mg aW) : FnOk P w K mg base CX0 1 f fd ["text"] spIsName := by
  obtain ⟨tL, gL⟩ := W.l
  refine F.ok scIN (fun vs H Q E h => ?_) (fun cdv A outer s H vs Q E hr h => ?_)
  · obtain ⟨x, rfl, _⟩ := h
    rfl
  obtain ⟨x, rfl, hx, k⟩ := h
  refine ⟨_, pss_cons (ps_if (PW.pt (pw_or (pt_cmpR op_in_seq (pv 0) (pe_glob (v := .ref aW) (by rfl) W.g rfl) (by rfl))
      (pw_or1 (pt_not (pt_chain op_le op_le pe_int (pe_callB call_len_str (by rfl) B.len boot_len (pa_cons (pv 0) pa_nil)) (pe_glob (v := .int 12) (by rfl) gL ⟨_, rfl⟩)))))) (pss_one (ps_ret pe_bl)) pss_nil)
    (pss_one (ps_ret (pe_callB (cr_all (by rfl)) (by rfl) B.all (by decide +kernel) (pa_cons (pe_lc (own := [("letter", 1)]) (g := gName 1) (by rfl) scIN.nd (pi_str (pv 0)) (blkOk_by (own := [("letter", 1)]) (N := ["text", "letter"]) (sc := defScope sIsName) (by decide +kernel)) (fun _ _ _ _ _ => pg_name (i := 1) scIN.nd rfl (Or.inl rfl))
          (fun _ _ _ _ _ => pts_nil) (fun _ _ _ _ _ => pe_chain op_le_str op_le_str pe_str (pv 1) pe_str)) pa_nil)))), ?_⟩
  refine ⟨_, rfl, aW, _, rfl, .inr (W.s H), rfl, flat_strs _, ?_⟩
  have e0 : (if false = true then !inV (.str x) (wordsL.map V.str) else inV (.str x) (wordsL.map V.str)) = wordsL.contains x := inV_strs x wordsL
  rw [e0]
  have hz : x.length ≤ sizeLine := by rw [sizeLine_eq]; omega
  have hn : isName x = (!(wordsL.contains x) && (decide (1 ≤ x.length) && decide (x.length ≤ 12)) && x.cps.toList.all letter) := rfl
  refine ⟨_, rfl, ?_⟩
  cases hc : wordsL.contains x
  · have case : ∀ (c1 c2 : Bool), c1 = decide (1 ≤ x.length) → c2 = decide (x.length ≤ 12) → (c1 && c2) = false → ∀ H', Same H H' → Q (.bl false) H' := fun c1 c2 e1 e2 e3 H' S => by
      have := k H' S
      rw [hn, ← e1, ← e2, e3, Bool.and_false, Bool.false_and] at this
      exact this
    refine iteF ⟨_, rfl, x, rfl, hz, _, _, rfl, rfl, _, rfl, ?_⟩
    refine ite2 (fun c1 => ?_) fun c1 => ?_
    · refine ⟨_, _, rfl, rfl, _, rfl, ?_⟩
      by_cases c2 : x.length ≤ 12
      · have d2 : decide ((x.length : Int) ≤ 12) = true := decide_eq_true (by omega)
        rw [d2]
        refine iteF ?_
        have h1 : 1 ≤ x.length := by have := of_decide_eq_true c1; omega
        refine ⟨_, rfl, x, rfl, fun D hD => lc_it walk_str (fun n H' => Same H H' ∧ H' D = some (.lst (((x.cps.toList.take n).map letter).map V.bl))) ⟨Same.new (Same.refl H) hD, upd_same⟩ (fun _ _ _ _ => trivial) ?_ ?_⟩
        · rintro n v H' H'' hn' ⟨S1, eD⟩ ⟨rfl, c, hc', rfl⟩
          have hcl : x.cps.toList[n]? = some c := by simpa using hc'
          refine ⟨rfl, ?_⟩
          refine ⟨_, rfl, _, _, rfl, rfl, _, rfl, ?_⟩
          have hfin : ∀ b : Bool, b = letter c → ∃ acc, H'' D = some (.lst acc) ∧ acc.length < sizeLine ∧ (Same H (upd H'' D (.lst (acc ++ [V.bl b]))) ∧ (upd H'' D (.lst (acc ++ [V.bl b]))) D = some (.lst (((x.cps.toList.take (n + 1)).map letter).map V.bl))) := fun b hb => by
            refine ⟨_, eD, ?_, ?_, ?_⟩
            · rw [List.length_map, List.length_map, List.length_take, sizeLine_eq]
              have : x.cps.toList.length = x.length := by simp [Str.length]
              omega
            · intro a o e
              rw [upd_ne (ne_of_none e hD)]
              exact S1 a o e
            · rw [upd_same, List.take_add_one, hcl, hb]
              simp
          cases e1 : decide ((⟨#[c]⟩ : Str).cps.toList < ("a" : Str).cps.toList)
          · refine iteT ⟨_, _, rfl, rfl, hfin _ ?_⟩
            rw [letter_of, e1]
            simp
          · refine iteF (hfin _ ?_)
            rw [letter_of, e1]
            simp
        · rintro H' ⟨S1, eD⟩
          refine ⟨D, x.cps.toList.map letter, rfl, SqL.of ?_, ?_⟩
          · rw [eD, show x.cps.size = x.cps.toList.length from (Array.length_toList).symm, List.take_length]
          · have := k H' S1
            rw [hn, hc, decide_eq_true h1, decide_eq_true c2] at this
            have e : (x.cps.toList.map letter).all id = x.cps.toList.all letter := by rw [List.all_map]; rfl
            rw [e]
            exact this
      · have d2 : decide ((x.length : Int) ≤ 12) = false := decide_eq_false (by omega)
        rw [d2]
        exact iteT (case _ _ rfl rfl (by rw [decide_eq_false c2, Bool.and_false]) H (Same.refl H))
    · refine ⟨_, rfl, iteT (case _ _ rfl rfl ?_ H (Same.refl H))⟩
      have : ¬ 1 ≤ x.length := fun z => c1 (decide_eq_true (by omega))
      rw [decide_eq_false this, Bool.false_and]
  · have : isName x = false := by rw [hn, hc]; rfl
    rw [this] at k
    exact iteT (iteT (k H (Same.refl H)))
end
end FP
set_option Elab.async false
set_option linter.all false
set_option maxRecDepth 100000
set_option maxHeartbeats 4000000
namespace FP
open PySem PySem.Spec PyProof.Rows L2
/-- the lines of a text: a new list -/
def spLines : Sp := fun vs H Q _ => ∃ x : Str, vs = [.str x] ∧ x.length ≤ 1000000 ∧ ∀ l H', H l = none → Same H H' → H' l = some (.lst ((linesM x).map V.str)) → Q (.ref l) H'
/-- whether the words have the form -/
def spFits (K : PySem.W.Frag) : Sp := fun vs H Q _ => ∃ (a b : Addr) (ws fs : List Str), vs = [.ref a, .ref b] ∧ H a = some (.lst (ws.map V.str)) ∧ (∀ H, SqT K H b (fs.map V.str)) ∧ ws.length ≤ 1000000 ∧ fs.length ≤ 1000000 ∧
  ∀ H', Same H H' → Q (.bl (fitsM ws fs)) H'
section
variable {P : Program} {w : World} {K : PySem.W.Frag} {mg : Str → Option Value} {base : Heap}
theorem scLO : FnScope ["text"] ["text"] (defScope sLines) := ⟨rfl, rfl, rfl, by decide +kernel, rfl, by decide +kernel, by decide +kernel⟩
theorem ok_lines {f : Addr} {fd : FuncData} (F : Fun K "lines_of" "lines_of" sLines f fd) : FnOk P w K mg base CX0 1 f fd ["text"] spLines := by
  refine F.ok scLO (fun vs H Q E h => ?_) (fun cdv A outer s H vs Q E hr h => ?_)
  · obtain ⟨x, rfl, _⟩ := h
    rfl
  obtain ⟨x, rfl, hx, k⟩ := h
  refine ⟨_, pss_cons (ps_if (pt_cmpR op_eq (pv 0) pe_str (nomark _)) (pss_one (ps_ret (pe_lst pa_nil))) pss_nil)
    (pss_one (ps_ret (pe_split (pv 0) pe_str))), ?_⟩
  refine ⟨_, rfl, rfl, _, rfl, ?_⟩
  refine ite2 (fun c => ?_) fun c => ?_
  · have e : x = "" := V.str.inj (of_decide_eq_true c)
    refine ⟨Nat.zero_le _, fun l hl => k l _ hl (Same.new (Same.refl H) hl) ?_⟩
    rw [upd_same, e]
    rfl
  · have e : x ≠ "" := fun z => c (decide_eq_true (by rw [z]))
    refine ⟨_, rfl, ⟨_, rfl⟩, x, _, rfl, rfl, rfl, ?_, fun l hl => k l _ hl (Same.new (Same.refl H) hl) ?_⟩
    · rw [sizeLine_eq]; omega
    · rw [upd_same]
      unfold linesM
      rw [if_neg e]
theorem scFI : FnScope ["words", "form", "word", "part"] ["words", "form"] (defScope sFits) := ⟨rfl, rfl, rfl, by decide +kernel, rfl, by decide +kernel, by decide +kernel⟩
theorem ok_fits {f : Addr} {fd : FuncData} (F : Fun K "fits" "fits" sFits f fd) (B : Blt2 mg) : FnOk P w K mg base CX0 1 f fd ["words", "form"] (spFits K) := by
  refine F.ok scFI (fun vs H Q E h => ?_) (fun cdv A outer s H vs Q E hr h => ?_)
  · obtain ⟨a, b, ws, fs, rfl, _⟩ := h
    rfl
  obtain ⟨a, b, ws, fs, rfl, ha, hb, hw, hf, k⟩ := h
  refine ⟨_, pss_cons (ps_if (pt_cmpR op_ne (pe_callB call_len_seq (by rfl) B.len boot_len (pa_cons (pv 0) pa_nil)) (pe_callB call_len_seq (by rfl) B.len boot_len (pa_cons (pv 1) pa_nil)) (nomark _)) (pss_one (ps_ret pe_bl)) pss_nil)
    (pss_one (ps_ret (pe_callB (cr_all (by rfl)) (by rfl) B.all (by decide +kernel) (pa_cons (pe_lc (own := [("word", 2), ("part", 3)]) (g := gTup K 2 (gCons (gName 2) (gCons (gName 3) gNil))) (tt := tYes) (te := tOp (rIn K false) (tVar 3) (tTup (tCons (tC (.str "")) (tCons (tVar 2) tNil)))) (by rfl) scFI.nd (pi_zipB true false (by rfl) B.zip (pa_cons (pv 0) (pa_cons (pv 1) pa_nil))) (blkOk_by (own := [("word", 2), ("part", 3)]) (N := ["words", "form", "word", "part"]) (sc := defScope sFits) (by decide +kernel))
      (fun _ _ _ _ _ => pg_tup (by rfl) (pgs_cons (pg_name (i := 2) scFI.nd rfl (Or.inl rfl)) (pgs_cons (pg_name (i := 3) scFI.nd rfl (Or.inl rfl)) pgs_nil)))
          (fun _ _ _ _ _ => pts_nil) (fun _ _ _ _ _ => pe_cmpR op_in_seq (pv 3) (pe_tup (pa_cons pe_str (pa_cons (pv 2) pa_nil))) (by rfl))) pa_nil)))), ?_⟩
  refine ⟨_, rfl, a, _, rfl, .inl (SqL.of ha), _, rfl, b, _, rfl, .inr (hb H), rfl, _, rfl, ?_⟩
  rw [List.length_map, List.length_map]
  refine ite2 (fun c => ?_) fun c => ?_
  · have hne : ws.length ≠ fs.length := fun z => by
      rw [z] at c
      simp at c
    have e : fitsM ws fs = false := by unfold fitsM; rw [decide_eq_false hne, Bool.false_and]
    rw [e] at k
    exact k H (Same.refl H)
  · have he : ws.length = fs.length := by
      have : decide (V.int (ws.length : Nat) = V.int (fs.length : Nat)) = true := by simpa using c
      have := V.int.inj (of_decide_eq_true this)
      omega
    have hk : fitsM ws fs = ((ws.zip fs).map fun p => p.2 == ("" : Str) || p.2 == p.1).all id := by
      unfold fitsM
      rw [decide_eq_true he, Bool.true_and, List.all_map]
      rfl
    rw [hk] at k
    refine ⟨_, rfl, _, rfl, a, b, _, _, rfl, SqL.of ha, hb H, fun D hD => lc_it (walk_zipB (n := ws.length) (xs := ws.map V.str) (ys := fs.map V.str) (by simp) (by simp [he]))
      (fun n H' => Same H H' ∧ H' D = some (.lst ((((ws.zip fs).map fun p => p.2 == ("" : Str) || p.2 == p.1).take n).map V.bl))) ⟨Same.new (Same.refl H) hD, upd_same⟩ (fun _ H' _ z => ⟨SqL.of (z.1 _ _ ha), hb H'⟩) ?_ ?_⟩
    · rintro n v H' H'' hn' ⟨S1, eD⟩ ⟨T, x, y, rfl, hT, rfl, hx, hy⟩
      have hfn : n < fs.length := by omega
      replace hx : (ws.map V.str)[n]? = some x := hx
      replace hy : (fs.map V.str)[n]? = some y := hy
      rw [List.getElem?_map, List.getElem?_eq_getElem hn'] at hx
      rw [List.getElem?_map, List.getElem?_eq_getElem hfn] at hy
      obtain rfl : V.str ws[n] = x := Option.some.inj hx
      obtain rfl : V.str fs[n] = y := Option.some.inj hy
      have eD2 : (upd H' T (.tup [.str ws[n], .str fs[n]])) D = _ := (upd_ne (ne_of_none eD hT)).trans eD
      refine ⟨T, _, rfl, SqT.of upd_same, rfl, _, _, rfl, _, _, rfl, rfl, rfl, _, rfl, _, rfl, (by show 2 ≤ sizeLine; decide), fun p hp => ⟨p, _, rfl, .inr (SqT.of upd_same), rfl, rfl, _, (upd_ne (ne_of_none eD2 hp)).trans eD2, ?_, ?_, ?_⟩⟩
      · rw [List.length_map, List.length_take, List.length_map, List.length_zip, sizeLine_eq]
        omega
      · intro c o e
        rw [upd_ne (ne_of_none e hD)]
        have e1 := S1 c o e
        have e2 := (upd_ne (o := .tup [.str ws[n], .str fs[n]]) (ne_of_none e1 hT)).trans e1
        exact (upd_ne (ne_of_none e2 hp)).trans e2
      · have e : ((ws.zip fs).map fun p => p.2 == ("" : Str) || p.2 == p.1)[n]? = some (fs[n] == ("" : Str) || fs[n] == ws[n]) := by
          rw [List.getElem?_map, List.getElem?_eq_getElem (by rw [List.length_zip]; omega), List.getElem_zip]
          rfl
        rw [upd_same, List.take_add_one, e, List.map_append]
        have ei : (if false = true then !inV (V.str fs[n]) [V.str "", V.str ws[n]] else inV (V.str fs[n]) [V.str "", V.str ws[n]]) = (fs[n] == ("" : Str) || fs[n] == ws[n]) := by
          show (("" : Str) == fs[n] || (ws[n] == fs[n] || false)) = _
          rw [Bool.or_false, Bool.beq_comm (a := ("" : Str)), Bool.beq_comm (a := ws[n])]
        rw [ei]
        rfl
    · rintro H' ⟨S1, eD⟩
      refine ⟨D, _, rfl, SqL.of ?_, k H' S1⟩
      rw [eD, List.take_of_length_le]
      simp
      omega
end
end FP
set_option Elab.async false
set_option linter.all false
set_option maxRecDepth 100000
set_option maxHeartbeats 4000000
/-! A Row, a Sheet in the heap; what changes of them. -/
namespace FP
open PySem PySem.Spec PyProof.Rows L2
def rowF (m : RowM) (t : Addr) : List (Str × V) := [("word", .str m.word), ("names", .ref t), ("after", .int (m.after : Nat)), ("other", .int (m.other : Nat))]
def RowAt (Cr : Addr) (H : Hp) (r : Addr) (m : RowM) : Prop := ∃ dx t, H r = some (.ins Cr dx (rowF m t)) ∧ H t = some (.tup (m.names.map V.str))
/-- where the parts of a sheet lie -/
structure Pt where
  R : Addr
  h : Addr
  ar : Addr
  n : Addr
  ras : List Addr
def shF (p : Pt) : List (Str × V) := [("rows", .ref p.R), ("homes", .ref p.h), ("around", .ref p.ar), ("_nest", .ref p.n)]
def homesV (l : List (Str × Nat)) : List (Key × V) := l.map fun q => (Sum.inr q.1, V.int (q.2 : Nat))
def aroundV (l : List (Nat × Nat)) : List (Key × V) := l.map fun q => (Sum.inl (q.1 : Int), V.int (q.2 : Nat))
def natsV (l : List Nat) : List V := l.map fun k => V.int (k : Nat)
/-- the sheet M at s, of parts p that are new since H0 -/
structure ShAt (Cr Cs : Addr) (H0 H : Hp) (s : Addr) (p : Pt) (M : ShM) : Prop where
  sh : ∃ dx, H s = some (.ins Cs dx (shF p))
  R : H p.R = some (.lst (p.ras.map V.ref))
  h : H p.h = some (.dK (homesV M.homes))
  ar : H p.ar = some (.dK (aroundV M.around))
  n : H p.n = some (.lst (natsV M.nest))
  len : p.ras.length = M.rows.length
  rows : ∀ (i : Nat) r m, p.ras[i]? = some r → M.rows[i]? = some m → RowAt Cr H r m
  nd : p.ras.Nodup
  Rn : p.R ≠ p.n
  har : p.h ≠ p.ar
  sr : s ∉ p.ras
  fR : H0 p.R = none
  fh : H0 p.h = none
  far : H0 p.ar = none
  fn : H0 p.n = none
  fr : ∀ r ∈ p.ras, H0 r = none
  same : Same H0 H
section
variable {Cr Cs s r a : Addr} {H H' H0 H1 : Hp} {p : Pt} {M : ShM} {m : RowM} {o o' : HO}
theorem RowAt.grow (h : RowAt Cr H r m) (S : Same H H') : RowAt Cr H' r m := by
  obtain ⟨dx, t, e1, e2⟩ := h
  exact ⟨dx, t, S _ _ e1, S _ _ e2⟩
/-- neither an object nor a tuple -/
def plainO : HO → Bool
  | .lst _ => true
  | .dK _ => true
  | _ => false
theorem RowAt.upd (h : RowAt Cr H r m) (ha : H a = some o) (hp : plainO o = true) : RowAt Cr (L2.upd H a o') r m := by
  obtain ⟨dx, t, e1, e2⟩ := h
  refine ⟨dx, t, (upd_ne (ne_of e1 ha ?_)).trans e1, (upd_ne (ne_of e2 ha ?_)).trans e2⟩
  · rintro rfl; cases hp
  · rintro rfl; cases hp
theorem Same.put (S : Same H0 H) (h0 : H0 a = none) : Same H0 (L2.upd H a o) := fun b u e => (upd_ne (ne_of_none e h0)).trans (S b u e)
theorem ShAt.grow (A : ShAt Cr Cs H0 H s p M) (S : Same H H') : ShAt Cr Cs H0 H' s p M :=
  ⟨let ⟨dx, e⟩ := A.sh; ⟨dx, S _ _ e⟩, S _ _ A.R, S _ _ A.h, S _ _ A.ar, S _ _ A.n, A.len, fun i r m h1 h2 => (A.rows i r m h1 h2).grow S, A.nd, A.Rn, A.har, A.sr, A.fR, A.fh, A.far, A.fn, A.fr, A.same.trans S⟩
/-- seen from a later beginning -/
theorem ShAt.root (A : ShAt Cr Cs H0 H s p M) (ha : H a = none) : ShAt Cr Cs (L2.upd H0 a o) (L2.upd H a o) s p M := by
  have B := A.grow (Same.new (o := o) (Same.refl H) ha)
  have ne : ∀ {b u}, H b = some u → H0 b = none → (L2.upd H0 a o) b = none := fun e e0 => (upd_ne (ne_of_none e ha)).trans e0
  refine ⟨B.sh, B.R, B.h, B.ar, B.n, B.len, B.rows, B.nd, B.Rn, B.har, B.sr, ne A.R A.fR, ne A.h A.fh, ne A.ar A.far, ne A.n A.fn, fun r hr => ?_, fun b u e => ?_⟩
  · obtain ⟨i, hi⟩ := List.mem_iff_getElem?.mp hr
    have hl : i < M.rows.length := by rw [← A.len]; exact (List.getElem?_eq_some_iff.mp hi).1
    obtain ⟨dx, t, e1, _⟩ := A.rows i r _ hi (List.getElem?_eq_getElem hl)
    exact ne e1 (A.fr r hr)
  · by_cases z : b = a
    · subst z
      rw [upd_same] at e ⊢
      exact e
    · rw [upd_ne z] at e ⊢
      exact A.same b u e
/-- seen from an earlier beginning -/
theorem ShAt.back (A : ShAt Cr Cs H1 H s p M) (S : Same H0 H1) : ShAt Cr Cs H0 H s p M := by
  have ne : ∀ {b}, H1 b = none → H0 b = none := fun e => S.free e
  exact ⟨A.sh, A.R, A.h, A.ar, A.n, A.len, A.rows, A.nd, A.Rn, A.har, A.sr, ne A.fR, ne A.fh, ne A.far, ne A.fn, fun r hr => ne (A.fr r hr), S.trans A.same⟩
theorem ShAt.setN (A : ShAt Cr Cs H0 H s p M) (l : List Nat) : ShAt Cr Cs H0 (L2.upd H p.n (.lst (natsV l))) s p ⟨M.rows, M.homes, M.around, l⟩ := by
  obtain ⟨dx, es⟩ := A.sh
  refine ⟨⟨dx, (upd_ne (ne_of es A.n (by intro z; cases z))).trans es⟩, (upd_ne A.Rn).trans A.R, (upd_ne (ne_of A.h A.n (by intro z; cases z))).trans A.h, (upd_ne (ne_of A.ar A.n (by intro z; cases z))).trans A.ar, upd_same, A.len, fun i r m h1 h2 => (A.rows i r m h1 h2).upd A.n rfl,
    A.nd, A.Rn, A.har, A.sr, A.fR, A.fh, A.far, A.fn, A.fr, Same.put A.same A.fn⟩
theorem ShAt.setHomes (A : ShAt Cr Cs H0 H s p M) (l : List (Str × Nat)) : ShAt Cr Cs H0 (L2.upd H p.h (.dK (homesV l))) s p ⟨M.rows, l, M.around, M.nest⟩ := by
  obtain ⟨dx, es⟩ := A.sh
  refine ⟨⟨dx, (upd_ne (ne_of es A.h (by intro z; cases z))).trans es⟩, (upd_ne (ne_of A.R A.h (by intro z; cases z))).trans A.R, upd_same, (upd_ne A.har.symm).trans A.ar, (upd_ne (ne_of A.n A.h (by intro z; cases z))).trans A.n, A.len, fun i r m h1 h2 => (A.rows i r m h1 h2).upd A.h rfl,
    A.nd, A.Rn, A.har, A.sr, A.fR, A.fh, A.far, A.fn, A.fr, Same.put A.same A.fh⟩
theorem ShAt.setAround (A : ShAt Cr Cs H0 H s p M) (l : List (Nat × Nat)) : ShAt Cr Cs H0 (L2.upd H p.ar (.dK (aroundV l))) s p ⟨M.rows, M.homes, l, M.nest⟩ := by
  obtain ⟨dx, es⟩ := A.sh
  refine ⟨⟨dx, (upd_ne (ne_of es A.ar (by intro z; cases z))).trans es⟩, (upd_ne (ne_of A.R A.ar (by intro z; cases z))).trans A.R, (upd_ne A.har).trans A.h, upd_same, (upd_ne (ne_of A.n A.ar (by intro z; cases z))).trans A.n, A.len, fun i r m h1 h2 => (A.rows i r m h1 h2).upd A.ar rfl,
    A.nd, A.Rn, A.har, A.sr, A.fR, A.fh, A.far, A.fn, A.fr, Same.put A.same A.far⟩
theorem ShAt.mem (A : ShAt Cr Cs H0 H s p M) (hr : r ∈ p.ras) : ∃ dx t m, H r = some (.ins Cr dx (rowF m t)) := by
  obtain ⟨i, hi⟩ := List.mem_iff_getElem?.mp hr
  have hl : i < M.rows.length := by rw [← A.len]; exact (List.getElem?_eq_some_iff.mp hi).1
  obtain ⟨dx, t, e1, _⟩ := A.rows i r _ hi (List.getElem?_eq_getElem hl)
  exact ⟨dx, t, _, e1⟩
theorem ShAt.addRow (A : ShAt Cr Cs H0 H s p M) (S : Same H H1) (hr : H r = none) (new : RowAt Cr H1 r m) : ShAt Cr Cs H0 (L2.upd H1 p.R (.lst ((p.ras ++ [r]).map V.ref))) s ⟨p.R, p.h, p.ar, p.n, p.ras ++ [r]⟩ ⟨M.rows ++ [m], M.homes, M.around, M.nest⟩ := by
  have B := A.grow S
  obtain ⟨dx, es⟩ := B.sh
  have nr : r ∉ p.ras := fun z => by
    obtain ⟨dx, t, m, e⟩ := A.mem z
    rw [hr] at e; cases e
  have ns : s ≠ r := fun z => by
    obtain ⟨dx, e⟩ := A.sh
    rw [z, hr] at e; cases e
  refine ⟨⟨dx, (upd_ne (ne_of es B.R (by intro z; cases z))).trans es⟩, upd_same, (upd_ne (ne_of B.h B.R (by intro z; cases z))).trans B.h, (upd_ne (ne_of B.ar B.R (by intro z; cases z))).trans B.ar, (upd_ne A.Rn.symm).trans B.n, ?_, fun i r' m' h1 h2 => ?_, ?_,
    A.Rn, A.har, ?_, A.fR, A.fh, A.far, A.fn, ?_, Same.put B.same A.fR⟩
  · rw [List.length_append, List.length_append, A.len]; rfl
  · refine RowAt.upd (o := .lst (p.ras.map V.ref)) ?_ B.R rfl
    by_cases c : i < p.ras.length
    · rw [List.getElem?_append_left c] at h1
      rw [List.getElem?_append_left (by rw [← A.len]; exact c)] at h2
      exact B.rows i r' m' h1 h2
    · have hi : i < (p.ras ++ [r]).length := (List.getElem?_eq_some_iff.mp h1).1
      rw [List.length_append, List.length_singleton] at hi
      have e : i = p.ras.length := by omega
      subst e
      rw [List.getElem?_append_right (Nat.le_refl _), Nat.sub_self] at h1
      rw [A.len, List.getElem?_append_right (Nat.le_refl _), Nat.sub_self] at h2
      cases h1
      cases h2
      exact new
  · rw [List.nodup_append]
    refine ⟨A.nd, by simp, fun x hx y hy => ?_⟩
    rw [List.mem_singleton.mp hy]
    exact fun z => nr (z ▸ hx)
  · rw [List.mem_append, List.mem_singleton]
    rintro (z | z)
    · exact A.sr z
    · exact ns z
  · intro x hx
    rcases List.mem_append.mp hx with z | z
    · exact A.fr x z
    · rw [List.mem_singleton.mp z]
      exact A.same.free hr
theorem ShAt.setRow {i : Nat} {dx t : Addr} {m' : RowM} (A : ShAt Cr Cs H0 H s p M) (h1 : p.ras[i]? = some r) (h2 : M.rows[i]? = some m) (e : H r = some (.ins Cr dx (rowF m t))) (et : H t = some (.tup (m.names.map V.str))) (hn : m'.names = m.names) :
    ShAt Cr Cs H0 (L2.upd H r (.ins Cr dx (rowF m' t))) s p ⟨M.rows.set i m', M.homes, M.around, M.nest⟩ := by
  have hi : i < p.ras.length := (List.getElem?_eq_some_iff.mp h1).1
  have hr : r ∈ p.ras := List.mem_iff_getElem?.mpr ⟨i, h1⟩
  obtain ⟨ds, es⟩ := A.sh
  have ns : s ≠ r := fun z => A.sr (z ▸ hr)
  refine ⟨⟨ds, (upd_ne ns).trans es⟩, (upd_ne (ne_of A.R e (by intro z; cases z))).trans A.R, (upd_ne (ne_of A.h e (by intro z; cases z))).trans A.h, (upd_ne (ne_of A.ar e (by intro z; cases z))).trans A.ar, (upd_ne (ne_of A.n e (by intro z; cases z))).trans A.n, ?_, fun j r' m2 g1 g2 => ?_,
    A.nd, A.Rn, A.har, A.sr, A.fR, A.fh, A.far, A.fn, A.fr, Same.put A.same (A.fr r hr)⟩
  · rw [List.length_set, A.len]
  · have tup : ∀ {b : Addr} {xs : List V}, H b = some (.tup xs) → (L2.upd H r (.ins Cr dx (rowF m' t))) b = some (.tup xs) := fun q => (upd_ne (ne_of q e (by intro z; cases z))).trans q
    by_cases c : j = i
    · subst c
      rw [h1] at g1
      cases g1
      rw [List.getElem?_set_self (by rw [← A.len]; exact hi)] at g2
      cases g2
      exact ⟨dx, t, upd_same, tup (by rw [hn]; exact et)⟩
    · rw [List.getElem?_set_ne (Ne.symm c)] at g2
      obtain ⟨d2, t2, q1, q2⟩ := A.rows j r' m2 g1 g2
      have nr : r' ≠ r := fun z => by
        subst z
        exact c ((List.getElem?_inj (List.getElem?_eq_some_iff.mp g1).1 A.nd).mp (g1.trans h1.symm))
      exact ⟨d2, t2, (upd_ne nr).trans q1, tup q2⟩
end
end FP
set_option Elab.async false
set_option linter.all false
set_option maxRecDepth 100000
set_option maxHeartbeats 4000000
namespace FP
open PySem PySem.Spec PyProof.Rows L2
/-- what the classes are -/
structure ShTxt (K : PySem.W.Frag) (mg : Str → Option Value) (Cr Cs : Addr) : Prop where
  cr : Cls K Cr
  cs : Cls K Cs
  gr : mg "Row" = some (.ref Cr)
  gs : mg "Sheet" = some (.ref Cs)
  rw_ : NoAttr K Cr "word"
  rn : NoAttr K Cr "names"
  ra : NoAttr K Cr "after"
  ro : NoAttr K Cr "other"
  sr : NoAttr K Cs "rows"
  sh : NoAttr K Cs "homes"
  sa : NoAttr K Cs "around"
  sn : NoAttr K Cs "_nest"
/-- a method and its promise -/
structure MDef (P : Program) (w : World) (K : PySem.W.Frag) (mg : Str → Option Value) (base : Heap) (C : Addr) (x : Str) (k : Nat) (ps : List Str) (sp : Sp) : Prop where
  ex : ∃ (f : Addr) (fd : FuncData), Meth K C x f ∧ Binds K fd ps [] ∧ FnOk P w K mg base CX0 k f fd ps sp
/-- a class that is made by this __init__ -/
structure CDef (P : Program) (w : World) (K : PySem.W.Frag) (mg : Str → Option Value) (base : Heap) (C : Addr) (k : Nat) (ps : List Str) (sp : Sp) : Prop where
  ex : ∃ (f : Addr) (fd : FuncData), Mk K C f ∧ Binds K fd ps [] ∧ FnOk P w K mg base CX0 k f fd ps sp
theorem lkR1 (m : RowM) (t : Addr) : (rowF m t).lookup ("word" : Str) = some (.str m.word) := rfl
theorem lkR2 (m : RowM) (t : Addr) : (rowF m t).lookup ("names" : Str) = some (.ref t) := rfl
theorem lkR3 (m : RowM) (t : Addr) : (rowF m t).lookup ("after" : Str) = some (.int (m.after : Nat)) := rfl
theorem lkR4 (m : RowM) (t : Addr) : (rowF m t).lookup ("other" : Str) = some (.int (m.other : Nat)) := rfl
theorem ptR3 (m : RowM) (t : Addr) (k : Nat) : putF "after" (.int (k : Nat)) (rowF m t) = rowF { m with after := k } t := rfl
theorem ptR4 (m : RowM) (t : Addr) (k : Nat) : putF "other" (.int (k : Nat)) (rowF m t) = rowF { m with other := k } t := rfl
theorem lkS1 (p : Pt) : (shF p).lookup ("rows" : Str) = some (.ref p.R) := rfl
theorem lkS2 (p : Pt) : (shF p).lookup ("homes" : Str) = some (.ref p.h) := rfl
theorem lkS3 (p : Pt) : (shF p).lookup ("around" : Str) = some (.ref p.ar) := rfl
theorem lkS4 (p : Pt) : (shF p).lookup ("_nest" : Str) = some (.ref p.n) := rfl
def spRow (Cr : Addr) : Sp := fun vs H Q _ => ∃ (x dx t : Addr) (wd : Str) (k : Nat), vs = [.ref x, .str wd, .ref t, .int (k : Nat)] ∧ H x = some (.ins Cr dx []) ∧
  ∀ H', H' x = some (.ins Cr dx [("word", .str wd), ("names", .ref t), ("after", .int ((k + 1 : Nat) : Int)), ("other", .int ((0 : Nat) : Int))]) → (∀ b, b ≠ x → H' b = H b) → Q .non H'
section
variable {P : Program} {w : World} {K : PySem.W.Frag} {mg : Str → Option Value} {base : Heap} {Cr Cs : Addr}
theorem scRI : FnScope ["self", "word", "names", "number"] ["self", "word", "names", "number"] (defScope mRow_init) := ⟨rfl, rfl, rfl, by decide +kernel, rfl, by decide +kernel, by decide +kernel⟩
theorem ok_rowInit {f : Addr} {fd : FuncData} (F : Fun K "__init__" "Row.__init__" mRow_init f fd) (T : ShTxt K mg Cr Cs) : FnOk P w K mg base CX0 1 f fd ["self", "word", "names", "number"] (spRow Cr) := by
  refine F.ok scRI (fun vs H Q E h => ?_) (fun cdv A outer s H vs Q E hr h => ?_)
  · obtain ⟨x, dx, t, wd, k, rfl, _⟩ := h
    rfl
  obtain ⟨x, dx, t, wd, k, rfl, hx, q⟩ := h
  refine ⟨_, pss_cons (ps_fld (pv 0) (pv 1) rfl) (pss_cons (ps_fld (pv 0) (pv 2) rfl) (pss_cons (ps_fld (pv 0) (pe_op op_add (pv 3) pe_int) rfl) (pss_one (ps_fld (pv 0) pe_int rfl)))), ?_⟩
  refine ⟨_, rfl, _, rfl, x, Cr, dx, _, rfl, hx, T.cr, T.rw_, (by show 0 < 1000; decide), ?_⟩
  refine ⟨_, rfl, _, rfl, x, Cr, dx, _, rfl, upd_same, T.cr, T.rn, (by show 1 < 1000; decide), ?_⟩
  refine ⟨_, rfl, _, _, rfl, rfl, _, rfl, x, Cr, dx, _, rfl, upd_same, T.cr, T.ra, (by show 2 < 1000; decide), ?_⟩
  refine ⟨_, rfl, x, Cr, dx, _, rfl, upd_same, T.cr, T.ro, (by show 3 < 1000; decide), ?_⟩
  exact q _ upd_same fun b hb => by rw [upd_ne hb, upd_ne hb, upd_ne hb, upd_ne hb]
theorem scSC : FnScope ["self"] ["self"] (defScope mSheet_is_closed) := ⟨rfl, rfl, rfl, by decide +kernel, rfl, by decide +kernel, by decide +kernel⟩
def spClosed (Cr Cs : Addr) : Sp := fun vs H Q _ => ∃ (s : Addr) (H0 : Hp) (p : Pt) (M : ShM), vs = [.ref s] ∧ ShAt Cr Cs H0 H s p M ∧ Q (.bl (decide (M.nest.length = 1))) H
theorem natsV_len (l : List Nat) : (natsV l).length = l.length := List.length_map ..
theorem ok_closed {f : Addr} {fd : FuncData} (F : Fun K "is_closed" "Sheet.is_closed" mSheet_is_closed f fd) (T : ShTxt K mg Cr Cs) (B : Blt2 mg) : FnOk P w K mg base CX0 1 f fd ["self"] (spClosed Cr Cs) := by
  refine F.ok scSC (fun vs H Q E h => ?_) (fun cdv A outer s H vs Q E hr h => ?_)
  · obtain ⟨s, H0, p, M, rfl, _⟩ := h
    rfl
  obtain ⟨s, H0, p, M, rfl, A0, q⟩ := h
  obtain ⟨dx, es⟩ := A0.sh
  refine ⟨_, pss_one (ps_ret (pe_cmpR op_eq (pe_callB call_len_seq (by rfl) B.len boot_len (pa_cons (pe_fld (pv 0) rfl) pa_nil)) pe_int (nomark _))), ?_⟩
  refine ⟨_, rfl, s, Cs, dx, _, _, rfl, es, T.cs, T.sn, lkS4 p, p.n, _, rfl, .inl (SqL.of A0.n), rfl, ?_⟩
  have e : decide (V.int ((natsV M.nest).length : Nat) = V.int 1) = decide (M.nest.length = 1) := by
    rw [natsV_len]
    refine decide_eq_decide.mpr ⟨fun z => by have := V.int.inj z; omega, fun z => by rw [z]; rfl⟩
  rw [e]
  exact q
end
end FP
set_option Elab.async false
set_option linter.all false
set_option maxRecDepth 100000
set_option maxHeartbeats 4000000
namespace FP
open PySem PySem.Spec PyProof.Rows L2
/-- the module's constants -/
structure Csts (K : PySem.W.Frag) (mg : Str → Option Value) (aT aP aO : Addr) : Prop where
  cells : ∃ t, mg "MOST_CELLS" = some (.int 5 t)
  open_ : ∃ t, mg "MOST_OPEN" = some (.int 5 t)
  gT : mg "TWO_SIDED" = some (.ref aT)
  sT : ∀ H, SqT K H aT (twoL.map V.str)
  gP : mg "PASSED" = some (.ref aP)
  sP : ∀ H, SqT K H aP (passL.map V.str)
  gO : mg "OPENING" = some (.ref aO)
  sO : ∀ H, SqT K H aO (openL.map V.str)
/-- what holds of a sheet as it is read -/
structure Ok (M : ShM) : Prop where
  lt : ∀ l ∈ M.nest, l < M.rows.length
  ar : ∀ l ∈ M.nest, l ≠ 0 → getN M.around l ≠ none
  hd : M.nest.head? = some 0
  z : ∃ r, M.rows[0]? = some r ∧ r.word = ("" : Str)
  h5 : M.homes.length ≤ 5
  al : M.around.length ≤ M.rows.length
  nl : M.nest.length ≤ 6
theorem last_of {α : Type} {l : List α} {x : α} (h : l.getLast? = some x) : ∃ b, l = b ++ [x] := by
  rw [List.getLast?_eq_some_iff] at h
  exact h
theorem Ok.last {M : ShM} (k : Ok M) : ∃ b l, M.nest = b ++ [l] ∧ M.nest.getLast? = some l ∧ l < M.rows.length := by
  have hd := k.hd
  cases e : M.nest.getLast? with
  | none => rw [List.getLast?_eq_none_iff] at e; rw [e] at hd; cases hd
  | some l =>
    obtain ⟨b, eb⟩ := last_of e
    exact ⟨b, l, eb, rfl, k.lt l (by rw [eb]; simp)⟩
theorem val_homes (l : List (Str × Nat)) (x : Str) : valV (homesV l) (Sum.inr x : Key) = (homeOf l x).map fun n => V.int (n : Nat) := by
  unfold valV homesV homeOf
  rw [List.find?_map]
  have e : ((fun kv : Key × V => decide (kv.1 = Sum.inr x)) ∘ fun q : Str × Nat => (Sum.inr q.1, V.int (q.2 : Nat))) = fun q : Str × Nat => decide (q.1 = x) := by
    funext q
    exact decide_eq_decide.mpr ⟨fun z => Sum.inr.inj z, fun z => congrArg Sum.inr z⟩
  rw [e, Option.map_map, Option.map_map]
  rfl
theorem val_around (l : List (Nat × Nat)) (k : Nat) : valV (aroundV l) (Sum.inl (k : Int) : Key) = (getN l k).map fun n => V.int (n : Nat) := by
  unfold valV aroundV getN
  rw [List.find?_map]
  have e : ((fun kv : Key × V => decide (kv.1 = Sum.inl (k : Int))) ∘ fun q : Nat × Nat => (Sum.inl (q.1 : Int), V.int (q.2 : Nat))) = fun q : Nat × Nat => decide (q.1 = k) := by
    funext q
    exact decide_eq_decide.mpr ⟨fun z => by have := Sum.inl.inj z; omega, fun z => congrArg (fun j : Nat => (Sum.inl (j : Int) : Key)) z⟩
  rw [e, Option.map_map, Option.map_map]
  rfl
theorem put_around (l : List (Nat × Nat)) (k v : Nat) : putK (aroundV l) (Sum.inl (k : Int) : Key) (.int (v : Nat)) = aroundV (putN l k v) := by
  unfold putK aroundV putN
  have e : ∀ q : Nat × Nat, ((Sum.inl (q.1 : Int) : Key) = Sum.inl (k : Int)) ↔ q.1 = k := fun q => ⟨fun z => by have := Sum.inl.inj z; omega, fun z => by rw [z]⟩
  rw [List.any_map]
  have e2 : ((fun kv : Key × V => decide (kv.1 = Sum.inl (k : Int))) ∘ fun q : Nat × Nat => (Sum.inl (q.1 : Int), V.int (q.2 : Nat))) = fun q : Nat × Nat => decide (q.1 = k) := by
    funext q
    exact decide_eq_decide.mpr (e q)
  rw [e2]
  split
  · rw [List.map_map, List.map_map]
    refine List.map_congr_left fun q _ => ?_
    show (if (Sum.inl (q.1 : Int) : Key) = Sum.inl (k : Int) then _ else _) = _
    by_cases c : q.1 = k
    · rw [if_pos ((e q).mpr c)]
      show _ = (fun q : Nat × Nat => ((Sum.inl (q.1 : Int) : Key), V.int (q.2 : Nat))) (if q.1 = k then (q.1, v) else q)
      rw [if_pos c]
    · rw [if_neg (fun z => c ((e q).mp z))]
      show _ = (fun q : Nat × Nat => ((Sum.inl (q.1 : Int) : Key), V.int (q.2 : Nat))) (if q.1 = k then (q.1, v) else q)
      rw [if_neg c]
  · rw [List.map_append]
    rfl
theorem putN_len (l : List (Nat × Nat)) (k v : Nat) : (putN l k v).length ≤ l.length + 1 := by
  unfold putN
  split
  · rw [List.length_map]; omega
  · rw [List.length_append]; simp
theorem inV_nats (x : Nat) (l : List Nat) : inV (.int (x : Nat)) (natsV l) = l.contains x := by
  unfold inV natsV
  rw [List.any_map]
  induction l with
  | nil => rfl
  | cons y r ih =>
    rw [List.any_cons, List.contains_cons, ih]
    show (((y : Int) == (x : Int)) || _) = _
    congr 1
    rw [Bool.eq_iff_iff, beq_iff_eq, beq_iff_eq]
    omega
theorem flat_nats : ∀ l : List Nat, (natsV l).all flatV = true
  | [] => rfl
  | x :: r => by
    show (flatV (.int x) && (natsV r).all flatV) = true
    rw [flat_nats r]
    rfl
section
variable {P : Program} {w : World} {K : PySem.W.Frag} {mg : Str → Option Value} {base : Heap} {Cr Cs aT aP aO : Addr}
def spSeen (Cr Cs : Addr) : Sp := fun vs H Q _ => ∃ (s : Addr) (H0 : Hp) (p : Pt) (M : ShM) (x : Str), vs = [.ref s, .str x] ∧ ShAt Cr Cs H0 H s p M ∧ Q (.bl (seenM M x)) H
theorem scSS : FnScope ["self", "name"] ["self", "name"] (defScope mSheet_is_seen) := ⟨rfl, rfl, rfl, by decide +kernel, rfl, by decide +kernel, by decide +kernel⟩
theorem ok_seen {f : Addr} {fd : FuncData} (F : Fun K "_is_seen" "Sheet._is_seen" mSheet_is_seen f fd) (T : ShTxt K mg Cr Cs) : FnOk P w K mg base CX0 1 f fd ["self", "name"] (spSeen Cr Cs) := by
  refine F.ok scSS (fun vs H Q E h => ?_) (fun cdv A outer s H vs Q E hr h => ?_)
  · obtain ⟨s, H0, p, M, x, rfl, _⟩ := h
    rfl
  obtain ⟨s, H0, p, M, x, rfl, A0, q⟩ := h
  obtain ⟨dx, es⟩ := A0.sh
  have hu := hu_of hr
  refine ⟨_, pss_one (ps_ret (pe_and (pe_cmp (pc_din hu (pv 1) (pe_fld (pv 0) rfl))) (pe_one (pe_cmpR op_in_seq (pe_dget hu (pe_fld (pv 0) rfl) (pv 1) (fun _ _ => rfl)) (pe_fld (pv 0) rfl) (by rfl))))), ?_⟩
  refine ⟨_, rfl, _, rfl, s, Cs, dx, _, _, rfl, es, T.cs, T.sh, lkS2 p, p.h, _, rfl, DGet.k (k := Sum.inr x) A0.h, _, rfl, ?_⟩
  rw [val_homes]
  cases e : homeOf M.homes x with
  | none =>
    have : seenM M x = false := by unfold seenM; rw [e]
    rw [this] at q
    exact iteF q
  | some n =>
    have : seenM M x = M.nest.contains n := by unfold seenM; rw [e]
    rw [this] at q
    refine iteT ⟨_, rfl, s, Cs, dx, _, _, rfl, es, T.cs, T.sh, lkS2 p, ?_⟩
    refine ⟨_, rfl, p.h, V.int (n : Nat), rfl, ?_, ?_⟩
    · have := DGet.k (k := Sum.inr x) A0.h
      rw [val_homes, e] at this
      exact this
    refine ⟨_, rfl, s, Cs, dx, _, _, rfl, es, T.cs, T.sn, lkS4 p, p.n, _, rfl, .inl (SqL.of A0.n), rfl, flat_nats _, ?_⟩
    rw [show (if false = true then !inV (V.int (n : Nat)) (natsV M.nest) else inV (V.int (n : Nat)) (natsV M.nest)) = M.nest.contains n from inV_nats n M.nest]
    exact q
end
end FP
set_option Elab.async false
set_option linter.all false
set_option maxRecDepth 100000
set_option maxHeartbeats 4000000
namespace FP
open PySem PySem.Spec PyProof.Rows L2
theorem neg1 : V.int (-1) = V.int (-1) := rfl
theorem natsV_app (b : List Nat) (l : Nat) : natsV (b ++ [l]) = natsV b ++ [V.int (l : Nat)] := by
  unfold natsV
  rw [List.map_append]
  rfl
theorem atI_nats {l : List Nat} {b : List Nat} {x : Nat} (h : l = b ++ [x]) : atI (natsV l) (-1) = some (V.int (x : Nat)) := by
  rw [h, natsV_app]
  exact atI_last _ _
theorem ShAt.rowsAt {Cr Cs s : Addr} {H0 H : Hp} {p : Pt} {M : ShM} {i : Nat} {m : RowM} (A : ShAt Cr Cs H0 H s p M) (h : M.rows[i]? = some m) : ∃ r dx t, p.ras[i]? = some r ∧ atI (p.ras.map V.ref) ((i : Nat) : Int) = some (V.ref r) ∧ H r = some (.ins Cr dx (rowF m t)) ∧ H t = some (.tup (m.names.map V.str)) := by
  have hi : i < p.ras.length := by rw [A.len]; exact (List.getElem?_eq_some_iff.mp h).1
  have e := List.getElem?_eq_getElem hi
  obtain ⟨dx, t, e1, e2⟩ := A.rows i _ m e h
  exact ⟨_, dx, t, e, atI_nat (by rw [List.getElem?_map, e]; rfl), e1, e2⟩
section
variable {P : Program} {w : World} {K : PySem.W.Frag} {mg : Str → Option Value} {base : Heap} {Cr Cs aT aP aO : Addr}
/-- a step of the sheet by the row number n -/
def spStep (Cr Cs : Addr) (step : ShM → Nat → Option ShM) (pre : ShM → Nat → Prop) : Sp := fun vs H Q _ => ∃ (s : Addr) (n : Nat) (H0 : Hp) (p : Pt) (M : ShM), vs = [.ref s, .int (n : Nat)] ∧ ShAt Cr Cs H0 H s p M ∧ pre M n ∧
  (∀ M', step M n = some M' → ∀ H', ShAt Cr Cs H0 H' s p M' → Q (.bl true) H') ∧ (step M n = none → Q (.bl false) H)
def preOpen (M : ShM) (n : Nat) : Prop := (∃ b l, M.nest = b ++ [l]) ∧ M.around.length ≤ 100000 ∧ M.nest.length ≤ 100000
theorem scOB : FnScope ["self", "number"] ["self", "number"] (defScope mSheet_open_block) := ⟨rfl, rfl, rfl, by decide +kernel, rfl, by decide +kernel, by decide +kernel⟩
theorem ok_open {f : Addr} {fd : FuncData} (F : Fun K "_open_block" "Sheet._open_block" mSheet_open_block f fd) (T : ShTxt K mg Cr Cs) (C : Csts K mg aT aP aO) (B : Blt2 mg) : FnOk P w K mg base CX0 1 f fd ["self", "number"] (spStep Cr Cs openM preOpen) := by
  obtain ⟨tO, gO⟩ := C.open_
  refine F.ok scOB (fun vs H Q E h => ?_) (fun cdv A outer s H vs Q E hr h => ?_)
  · obtain ⟨s, n, H0, p, M, rfl, _⟩ := h
    rfl
  obtain ⟨s, n, H0, p, M, rfl, A0, ⟨⟨b, l, eb⟩, ha, hn⟩, k1, k2⟩ := h
  obtain ⟨dx, es⟩ := A0.sh
  have hu := hu_of hr
  have hlast : M.nest.getLast? = some l := by rw [eb]; simp
  refine ⟨_, pss_cons (ps_if (pt_cmpR op_gt (pe_callB call_len_seq (by rfl) B.len boot_len (pa_cons (pe_fld (pv 0) rfl) pa_nil)) (pe_glob (v := .int 5) (by rfl) gO ⟨_, rfl⟩) (nomark _)) (pss_one (ps_ret pe_bl)) pss_nil)
    (pss_cons (ps_dput hu (pe_fld (pv 0) rfl) (pv 1) (pe_ix ix_list (pe_fld (pv 0) rfl) (pe_un un_neg pe_int) (fun _ _ => rfl)) rfl)
    (pss_cons (ps_expr (pe_bm PySem.F.plainAttrs_list PySem.F.slot_list_append PySem.F.type_list_append mt_append (pe_fld (pv 0) rfl) (pa_cons (pv 1) pa_nil)))
    (pss_one (ps_ret pe_bl)))), ?_⟩
  refine ⟨_, rfl, s, Cs, dx, _, _, rfl, es, T.cs, T.sn, lkS4 p, p.n, _, rfl, .inl (SqL.of A0.n), _, _, rfl, rfl, _, rfl, ?_⟩
  rw [natsV_len]
  have hm : openM M n = if M.nest.length ≤ 5 then some ⟨M.rows, M.homes, putN M.around n l, M.nest ++ [n]⟩ else none := by unfold openM; rw [hlast]
  refine ite2 (fun c => ?_) fun c => ?_
  · have hc : ¬ M.nest.length ≤ 5 := by have := of_decide_eq_true c; omega
    exact k2 (by rw [hm, if_neg hc])
  · have hc : M.nest.length ≤ 5 := by
      by_cases z : M.nest.length ≤ 5
      · exact z
      · exact absurd (decide_eq_true (by omega)) c
    refine ⟨_, rfl, s, Cs, dx, _, _, rfl, es, T.cs, T.sn, lkS4 p, _, rfl, p.n, _, _, _, rfl, rfl, SqL.of A0.n, atI_nats eb, ?_⟩
    refine ⟨_, rfl, s, Cs, dx, _, _, rfl, es, T.cs, T.sa, lkS3 p, _, rfl, p.ar, _, rfl, DPut.k (k := Sum.inl (n : Int)) A0.ar ?_, ?_⟩
    · unfold aroundV
      rw [List.length_map, sizeLine_eq]
      omega
    rw [put_around]
    have A1 := A0.setAround (putN M.around n l)
    obtain ⟨d1, e1⟩ := A1.sh
    refine ⟨_, rfl, s, Cs, d1, _, _, rfl, e1, T.cs, T.sn, lkS4 p, .inl ⟨rfl, _, SqL.of A1.n⟩, _, rfl, p.n, _, _, rfl, rfl, A1.n, ?_, ?_⟩
    · rw [natsV_len, sizeLine_eq]
      show M.nest.length < _
      omega
    · have A2 := A1.setN (M.nest ++ [n])
      rw [natsV_app] at A2
      exact k1 _ (by rw [hm, if_pos hc]) _ A2
end
end FP
set_option Elab.async false
set_option linter.all false
set_option maxRecDepth 100000
set_option maxHeartbeats 4000000
namespace FP
open PySem PySem.Spec PyProof.Rows L2
section
variable {P : Program} {w : World} {K : PySem.W.Frag} {mg : Str → Option Value} {base : Heap} {Cr Cs aT aP aO : Addr}
def preTurn (M : ShM) (n : Nat) : Prop := (∃ b l r, M.nest = b ++ [l] ∧ M.rows[l]? = some r ∧ (twoL.contains r.word = true → getN M.around l ≠ none)) ∧ M.around.length ≤ 100000
theorem scTU : FnScope ["self", "number", "first"] ["self", "number"] (defScope mSheet_turn) := ⟨rfl, rfl, rfl, by decide +kernel, rfl, by decide +kernel, by decide +kernel⟩
theorem ixN_last {n : Nat} (h : 0 < n) : ixN n (-1) = some (n - 1) := by
  unfold ixN
  rw [if_neg (by decide), if_pos (by omega)]
  congr 1
  omega
theorem ok_turn {f : Addr} {fd : FuncData} (F : Fun K "_turn" "Sheet._turn" mSheet_turn f fd) (T : ShTxt K mg Cr Cs) (C : Csts K mg aT aP aO) (B : Blt2 mg) : FnOk P w K mg base CX0 1 f fd ["self", "number"] (spStep Cr Cs turnM preTurn) := by
  refine F.ok scTU (fun vs H Q E h => ?_) (fun cdv A outer s H vs Q E hr h => ?_)
  · obtain ⟨s, n, H0, p, M, rfl, _⟩ := h
    rfl
  obtain ⟨s, n, H0, p, M, rfl, A0, ⟨⟨b, l, m, eb, em, har⟩, ha⟩, k1, k2⟩ := h
  obtain ⟨dx, es⟩ := A0.sh
  have hu := hu_of hr
  have hlast : M.nest.getLast? = some l := by rw [eb]; simp
  refine ⟨_, pss_cons (ps_set (i := 2) scTU.nd rfl (.inl rfl) (pe_ix ix_list (pe_fld (pv 0) rfl) (pe_un un_neg pe_int) (fun _ _ => rfl)))
    (pss_cons (ps_if (pt_cmpR op_notIn_seq (pe_fld (pe_ix ix_list (pe_fld (pv 0) rfl) (pv 2) (fun _ _ => rfl)) rfl) (pe_glob (v := .ref aT) (by rfl) C.gT rfl) (by rfl)) (pss_one (ps_ret pe_bl)) pss_nil)
    (pss_cons (ps_fld (pe_ix ix_list (pe_fld (pv 0) rfl) (pv 2) (fun _ _ => rfl)) (pe_op op_add (pv 1) pe_int) rfl)
    (pss_cons (ps_dput hu (pe_fld (pv 0) rfl) (pv 1) (pe_dget hu (pe_fld (pv 0) rfl) (pv 2) (fun _ _ => rfl)) rfl)
    (pss_cons (ps_asg (pv 1) (pg_sub (pe_fld (pv 0) rfl) (pe_un un_neg pe_int) set_list))
    (pss_one (ps_ret pe_bl)))))), ?_⟩
  obtain ⟨r, dr, t, hr_, eat, er, et⟩ := A0.rowsAt em
  refine ⟨_, rfl, s, Cs, dx, _, _, rfl, es, T.cs, T.sn, lkS4 p, _, rfl, p.n, _, _, _, rfl, rfl, SqL.of A0.n, atI_nats eb, ?_⟩
  refine ⟨_, rfl, s, Cs, dx, _, _, rfl, es, T.cs, T.sr, lkS1 p, _, rfl, p.R, _, _, _, rfl, rfl, SqL.of A0.R, eat, r, Cr, dr, _, _, rfl, er, T.cr, T.rw_, lkR1 m t, aT, _, rfl, .inr (C.sT H), rfl, flat_strs _, _, rfl, ?_⟩
  rw [show (if true = true then !inV (V.str m.word) (twoL.map V.str) else inV (V.str m.word) (twoL.map V.str)) = !twoL.contains m.word from congrArg (!·) (inV_strs m.word twoL)]
  cases hc : twoL.contains m.word with
  | false =>
    refine iteT (k2 ?_)
    unfold turnM
    rw [hlast]
    dsimp only
    rw [em]
    cases getN M.around l <;> simp only [hc] <;> rfl
  | true =>
    obtain ⟨a, ga⟩ : ∃ a, getN M.around l = some a := by
      cases e : getN M.around l with
      | none => exact absurd e (har hc)
      | some a => exact ⟨a, rfl⟩
    have hm : turnM M n = some ⟨setRow M.rows l fun r => { r with other := n + 1 }, M.homes, putN M.around n a, M.nest.dropLast ++ [n]⟩ := by
      unfold turnM
      rw [hlast]
      dsimp only
      rw [em, ga]
      dsimp only
      rw [if_pos hc]
    have hset : setRow M.rows l (fun r => { r with other := n + 1 }) = M.rows.set l { m with other := n + 1 } := by
      unfold setRow
      rw [em]
    rw [hset] at hm
    refine iteF ⟨_, rfl, _, _, rfl, rfl, _, rfl, s, Cs, dx, _, _, rfl, es, T.cs, T.sr, lkS1 p, _, rfl, p.R, _, _, _, rfl, rfl, SqL.of A0.R, eat, r, Cr, dr, _, rfl, er, T.cr, T.ro, (by show 4 < 1000; decide), ?_⟩
    have A1 := A0.setRow (m' := { m with other := n + 1 }) hr_ em er et rfl
    rw [show putF "other" (V.int ((n : Int) + 1)) (rowF m t) = rowF { m with other := n + 1 } t from rfl]
    obtain ⟨d1, e1⟩ := A1.sh
    have g1 := DGet.k (k := Sum.inl (l : Int)) A1.ar
    rw [val_around, ga] at g1
    refine ⟨_, rfl, s, Cs, d1, _, _, rfl, e1, T.cs, T.sa, lkS3 p, _, rfl, p.ar, _, rfl, g1, _, rfl, s, Cs, d1, _, _, rfl, e1, T.cs, T.sa, lkS3 p, _, rfl, p.ar, _, rfl, DPut.k (k := Sum.inl (n : Int)) A1.ar ?_, ?_⟩
    · unfold aroundV
      rw [List.length_map, sizeLine_eq]
      show M.around.length < _
      omega
    rw [put_around]
    have A2 := A1.setAround (putN M.around n a)
    obtain ⟨d2, e2⟩ := A2.sh
    refine ⟨_, rfl, _, rfl, s, Cs, d2, _, _, rfl, e2, T.cs, T.sn, lkS4 p, _, rfl, p.n, _, _, M.nest.length - 1, rfl, rfl, A2.n, ?_, ?_⟩
    · rw [natsV_len]
      refine ixN_last ?_
      show 0 < M.nest.length
      rw [eb]; simp
    · have A3 := A2.setN (M.nest.dropLast ++ [n])
      have e : (natsV M.nest).set (M.nest.length - 1) (V.int (n : Nat)) = natsV (M.nest.dropLast ++ [n]) := by
        rw [eb, natsV_app, List.dropLast_concat, natsV_app, List.length_append, List.length_singleton, Nat.add_sub_cancel]
        rw [show b.length = (natsV b).length from (natsV_len b).symm]
        simp
      rw [← e] at A3
      exact k1 _ hm _ A3
end
end FP
set_option Elab.async false
set_option linter.all false
set_option maxRecDepth 100000
set_option maxHeartbeats 4000000
namespace FP
open PySem PySem.Spec PyProof.Rows L2
section
variable {P : Program} {w : World} {K : PySem.W.Frag} {mg : Str → Option Value} {base : Heap} {Cr Cs aT aP aO : Addr}
def preClose (M : ShM) (n : Nat) : Prop := (∃ b l r, M.nest = b ++ [l] ∧ M.rows[l]? = some r) ∧ n < M.rows.length
theorem scCB : FnScope ["self", "number", "first", "opener"] ["self", "number"] (defScope mSheet_close_block) := ⟨rfl, rfl, rfl, by decide +kernel, rfl, by decide +kernel, by decide +kernel⟩
theorem ok_close {f : Addr} {fd : FuncData} (F : Fun K "_close_block" "Sheet._close_block" mSheet_close_block f fd) (T : ShTxt K mg Cr Cs) : FnOk P w K mg base CX0 1 f fd ["self", "number"] (spStep Cr Cs closeM preClose) := by
  refine F.ok scCB (fun vs H Q E h => ?_) (fun cdv A outer s H vs Q E hr h => ?_)
  · obtain ⟨s, n, H0, p, M, rfl, _⟩ := h
    rfl
  obtain ⟨s, n, H0, p, M, rfl, A0, ⟨⟨b, l, m, eb, em⟩, hn⟩, k1, k2⟩ := h
  obtain ⟨dx, es⟩ := A0.sh
  have hu := hu_of hr
  have hlast : M.nest.getLast? = some l := by rw [eb]; simp
  refine ⟨_, pss_cons (ps_set (i := 2) scCB.nd rfl (.inl rfl) (pe_ix ix_list (pe_fld (pv 0) rfl) (pe_un un_neg pe_int) (fun _ _ => rfl)))
    (pss_cons (ps_if (pt_cmpR op_eq (pv 2) pe_int (nomark _)) (pss_one (ps_ret pe_bl)) pss_nil)
    (pss_cons (ps_set (i := 3) scCB.nd rfl (.inl rfl) (pe_ix ix_list (pe_fld (pv 0) rfl) (pv 2) (fun _ _ => rfl)))
    (pss_cons (ps_if (pt_cmpR op_eq (pe_fld (pv 3) rfl) pe_str (nomark _)) (pss_one (ps_fld (pv 3) (pv 1) rfl)) (pss_one (ps_fld (pv 3) (pe_op op_add (pv 1) pe_int) rfl)))
    (pss_cons (ps_if (pt_cmpR op_eq (pe_fld (pv 3) rfl) pe_str (nomark _)) (pss_one (ps_fld (pe_ix ix_list (pe_fld (pv 0) rfl) (pv 1) (fun _ _ => rfl)) (pv 2) rfl)) pss_nil)
    (pss_cons (ps_expr (pe_bm0 PySem.F.plainAttrs_list PySem.F.slot_list_pop PySem.F.type_list_pop mt_pop (pe_fld (pv 0) rfl)))
    (pss_one (ps_ret pe_bl))))))), ?_⟩
  obtain ⟨r, dr, t, hr_, eat, er, et⟩ := A0.rowsAt em
  refine ⟨_, rfl, s, Cs, dx, _, _, rfl, es, T.cs, T.sn, lkS4 p, _, rfl, p.n, _, _, _, rfl, rfl, SqL.of A0.n, atI_nats eb, ?_⟩
  refine ⟨_, rfl, rfl, _, rfl, ?_⟩
  refine ite2 (fun c => ?_) fun c => ?_
  · have hl : l = 0 := by have := V.int.inj (of_decide_eq_true c); omega
    refine k2 ?_
    unfold closeM
    rw [hlast]
    dsimp only
    rw [em]
    dsimp only
    rw [if_neg (by rw [hl]; simp)]
  have hl : l ≠ 0 := fun z => c (decide_eq_true (by rw [z]; rfl))
  refine ⟨_, rfl, s, Cs, dx, _, _, rfl, es, T.cs, T.sr, lkS1 p, _, rfl, p.R, _, _, _, rfl, rfl, SqL.of A0.R, eat, ?_⟩
  refine ⟨_, rfl, r, Cr, dr, _, _, rfl, er, T.cr, T.rw_, lkR1 m t, rfl, _, rfl, ?_⟩
  -- behind the first if
  let m1 : RowM := if m.word = ("else" : Str) then { m with after := n } else { m with other := n + 1 }
  have hm1 : m1.names = m.names := by show (if _ then _ else _ : RowM).names = _; split <;> rfl
  have hw1 : m1.word = m.word := by show (if _ then _ else _ : RowM).word = _; split <;> rfl
  have A1 := A0.setRow (m' := m1) hr_ em er et hm1
  have hset : setRow M.rows l (fun r => if r.word = ("else" : Str) then { r with after := n } else { r with other := n + 1 }) = M.rows.set l m1 := by
    unfold setRow
    rw [em]
  have hll : l < M.rows.length := (List.getElem?_eq_some_iff.mp em).1
  have hnl : n < (M.rows.set l m1).length := by rw [List.length_set]; exact hn
  have en := List.getElem?_eq_getElem hnl
  generalize (M.rows.set l m1)[n] = mn at en
  have hdrop : (natsV M.nest).dropLast = natsV M.nest.dropLast := by rw [eb, natsV_app, List.dropLast_concat, List.dropLast_concat]
  have hlastV : ∃ y, (natsV M.nest)[(natsV M.nest).length - 1]? = some y := by
    rw [eb, natsV_app]
    exact ⟨V.int (l : Nat), by simp⟩
  obtain ⟨yl, hyl⟩ := hlastV
  have hm : closeM M n = some ⟨if m.word = ("loop" : Str) then (M.rows.set l m1).set n { mn with after := l } else M.rows.set l m1, M.homes, M.around, M.nest.dropLast⟩ := by
    unfold closeM
    rw [hlast]
    dsimp only
    rw [em]
    dsimp only
    rw [if_pos hl, hset]
    unfold setRow
    rw [en]
  refine ite2 (fun cw => ?_) fun cw => ?_
  · have hw : m.word = ("else" : Str) := V.str.inj (of_decide_eq_true cw)
    have em1 : m1 = { m with after := n } := if_pos hw
    refine ⟨_, rfl, _, rfl, r, Cr, dr, _, rfl, er, T.cr, T.ra, (by show 4 < 1000; decide), ?_⟩
    rw [show putF "after" (V.int (n : Nat)) (rowF m t) = rowF m1 t by rw [em1]; rfl]
    obtain ⟨d1, e1⟩ := A1.sh
    refine ⟨_, rfl, r, Cr, dr, _, _, rfl, upd_same, T.cr, T.rw_, lkR1 m1 t, rfl, _, rfl, ?_⟩
    refine ite2 (fun cl => ?_) fun cl => ?_
    · have hw2 : m.word = ("loop" : Str) := hw1.symm.trans (V.str.inj (of_decide_eq_true cl))
      obtain ⟨rn, dn, tn, hrn, eatn, ern, etn⟩ := A1.rowsAt en
      refine ⟨_, rfl, _, rfl, s, Cs, d1, _, _, rfl, e1, T.cs, T.sr, lkS1 p, _, rfl, p.R, _, _, _, rfl, rfl, SqL.of A1.R, eatn, rn, Cr, dn, _, rfl, ern, T.cr, T.ra, (by show 4 < 1000; decide), ?_⟩
      have A2 := A1.setRow (m' := { mn with after := l }) hrn en ern etn rfl
      rw [show putF "after" (V.int (l : Nat)) (rowF mn tn) = rowF { mn with after := l } tn from rfl]
      obtain ⟨d2, e2⟩ := A2.sh
      refine ⟨_, rfl, s, Cs, d2, _, _, rfl, e2, T.cs, T.sn, lkS4 p, .inl ⟨rfl, _, SqL.of A2.n⟩, p.n, _, yl, rfl, rfl, A2.n, hyl, ?_⟩
      have A3 := A2.setN M.nest.dropLast
      rw [← hdrop] at A3
      rw [if_pos hw2] at hm
      exact k1 _ hm _ A3
    · have hw2 : ¬ m.word = ("loop" : Str) := fun z => cl (decide_eq_true (by rw [hw1, z]))
      refine ⟨_, rfl, s, Cs, d1, _, _, rfl, e1, T.cs, T.sn, lkS4 p, .inl ⟨rfl, _, SqL.of A1.n⟩, p.n, _, yl, rfl, rfl, A1.n, hyl, ?_⟩
      have A3 := A1.setN M.nest.dropLast
      rw [← hdrop] at A3
      rw [if_neg hw2] at hm
      exact k1 _ hm _ A3
  · have hw : ¬ m.word = ("else" : Str) := fun z => cw (decide_eq_true (by rw [z]))
    have em1 : m1 = { m with other := n + 1 } := if_neg hw
    refine ⟨_, rfl, _, _, rfl, rfl, _, rfl, r, Cr, dr, _, rfl, er, T.cr, T.ro, (by show 4 < 1000; decide), ?_⟩
    rw [show putF "other" (V.int ((n : Int) + 1)) (rowF m t) = rowF m1 t by rw [em1]; rfl]
    obtain ⟨d1, e1⟩ := A1.sh
    refine ⟨_, rfl, r, Cr, dr, _, _, rfl, upd_same, T.cr, T.rw_, lkR1 m1 t, rfl, _, rfl, ?_⟩
    refine ite2 (fun cl => ?_) fun cl => ?_
    · have hw2 : m.word = ("loop" : Str) := hw1.symm.trans (V.str.inj (of_decide_eq_true cl))
      obtain ⟨rn, dn, tn, hrn, eatn, ern, etn⟩ := A1.rowsAt en
      refine ⟨_, rfl, _, rfl, s, Cs, d1, _, _, rfl, e1, T.cs, T.sr, lkS1 p, _, rfl, p.R, _, _, _, rfl, rfl, SqL.of A1.R, eatn, rn, Cr, dn, _, rfl, ern, T.cr, T.ra, (by show 4 < 1000; decide), ?_⟩
      have A2 := A1.setRow (m' := { mn with after := l }) hrn en ern etn rfl
      rw [show putF "after" (V.int (l : Nat)) (rowF mn tn) = rowF { mn with after := l } tn from rfl]
      obtain ⟨d2, e2⟩ := A2.sh
      refine ⟨_, rfl, s, Cs, d2, _, _, rfl, e2, T.cs, T.sn, lkS4 p, .inl ⟨rfl, _, SqL.of A2.n⟩, p.n, _, yl, rfl, rfl, A2.n, hyl, ?_⟩
      have A3 := A2.setN M.nest.dropLast
      rw [← hdrop] at A3
      rw [if_pos hw2] at hm
      exact k1 _ hm _ A3
    · have hw2 : ¬ m.word = ("loop" : Str) := fun z => cl (decide_eq_true (by rw [hw1, z]))
      refine ⟨_, rfl, s, Cs, d1, _, _, rfl, e1, T.cs, T.sn, lkS4 p, .inl ⟨rfl, _, SqL.of A1.n⟩, p.n, _, yl, rfl, rfl, A1.n, hyl, ?_⟩
      have A3 := A1.setN M.nest.dropLast
      rw [← hdrop] at A3
      rw [if_neg hw2] at hm
      exact k1 _ hm _ A3
end
end FP
set_option Elab.async false
set_option linter.all false
set_option maxRecDepth 100000
set_option maxHeartbeats 4000000
namespace FP
open PySem PySem.Spec PyProof.Rows L2
theorem row_made {Cr : Addr} {H Hq H' : Hp} {x dx t : Addr} {names : List Str} {wd : Str} {k : Nat} (S : Same H Hq) (et : Hq t = some (.tup (names.map V.str))) (nx : Hq x = none) (nd : Hq dx = none)
    (e1 : H' x = some (.ins Cr dx [("word", .str wd), ("names", .ref t), ("after", .int ((k + 1 : Nat) : Int)), ("other", .int ((0 : Nat) : Int))])) (e2 : ∀ b, b ≠ x → H' b = (upd (upd Hq dx (.own x)) x (.ins Cr dx [])) b) :
    Same H H' ∧ RowAt Cr H' x ⟨wd, names, k + 1, 0⟩ := by
  have S2 : Same Hq H' := fun b u e => by
    rw [e2 b (ne_of_none e nx), upd_ne (ne_of_none e nx), upd_ne (ne_of_none e nd)]
    exact e
  exact ⟨S.trans S2, dx, t, e1, S2 _ _ et⟩
theorem addNames_snoc (n : Nat) : ∀ (xs : List Str) (homes : List (Str × Nat)) (x : Str), addNames n homes (xs ++ [x]) = (addNames n homes xs).bind fun h => addName n h x
  | [], homes, x => by
    show (addName n homes x).bind (fun h => addNames n h []) = addName n homes x
    cases addName n homes x <;> rfl
  | y :: r, homes, x => by
    show (addName n homes y).bind (fun h => addNames n h (r ++ [x])) = ((addName n homes y).bind fun h => addNames n h r).bind fun h => addName n h x
    cases addName n homes y with
    | none => rfl
    | some h => exact addNames_snoc n r h x
theorem addNames_stop (n : Nat) : ∀ (xs : List Str) (homes : List (Str × Nat)) (i : Nat), addNames n homes (xs.take i) = none → addNames n homes xs = none
  | [], _, i, h => by rw [List.take_nil] at h; exact h
  | _ :: _, homes, 0, h => by cases h
  | y :: r, homes, i + 1, h => by
    show (addName n homes y).bind (fun h => addNames n h r) = none
    have h' : (addName n homes y).bind (fun h => addNames n h (r.take i)) = none := h
    cases e : addName n homes y with
    | none => rfl
    | some g =>
      rw [e] at h'
      exact addNames_stop n r g i h'
theorem addNames_len (n : Nat) : ∀ (xs : List Str) (homes h : List (Str × Nat)), addNames n homes xs = some h → homes.length ≤ 5 → h.length ≤ 5
  | [], homes, h, e, l => by cases e; exact l
  | y :: r, homes, h, e, l => by
    have e' : (addName n homes y).bind (fun h => addNames n h r) = some h := e
    cases ey : addName n homes y with
    | none => rw [ey] at e'; cases e'
    | some g =>
      rw [ey] at e'
      refine addNames_len n r g h e' ?_
      unfold addName at ey
      split at ey
      · rename_i c
        cases ey
        rw [List.length_append, List.length_singleton]
        have := c.2.2
        omega
      · cases ey
section
variable {P : Program} {w : World} {K : PySem.W.Frag} {mg : Str → Option Value} {base : Heap} {Cr Cs aT aP aO : Addr}
/-- the sheet takes something, or it is wrong -/
def Took (Cr Cs : Addr) (H0 : Hp) (s : Addr) (r : Option ShM) (Q : VK) : Prop :=
  (∀ M', r = some M' → ∀ p' H', ShAt Cr Cs H0 H' s p' M' → Q (.bl true) H') ∧ (r = none → ∀ H', Same H0 H' → Q (.bl false) H')
def spDeclare (Cr Cs : Addr) : Sp := fun vs H Q _ => ∃ (s a : Addr) (names : List Str) (H0 : Hp) (p : Pt) (M : ShM), vs = [.ref s, .ref a] ∧ ShAt Cr Cs H0 H s p M ∧ Ok M ∧ H0 a = some (.lst (names.map V.str)) ∧
  names.length ≤ 100000 ∧ (∀ x ∈ names, x.length ≤ 1000000) ∧ M.rows.length ≤ 100000 ∧ Took Cr Cs H0 s (declareM M names) Q
theorem scDE : FnScope ["self", "names", "number", "name"] ["self", "names"] (defScope mSheet_declare) := ⟨rfl, rfl, rfl, by decide +kernel, rfl, by decide +kernel, by decide +kernel⟩
theorem ok_declare {f : Addr} {fd : FuncData} (F : Fun K "_declare" "Sheet._declare" mSheet_declare f fd) (T : ShTxt K mg Cr Cs) (C : Csts K mg aT aP aO) (B : Blt2 mg) (D : Def P w K mg base "is_name" 1 ["text"] spIsName) (DR : CDef P w K mg base Cr 1 ["self", "word", "names", "number"] (spRow Cr)) :
    FnOk P w K mg base CX0 3 f fd ["self", "names"] (spDeclare Cr Cs) := by
  obtain ⟨fD, fdD, gD, kD, bD, GD⟩ := D.ex
  obtain ⟨fR, fdR, mR, bR, GR⟩ := DR.ex
  obtain ⟨tC5, gC5⟩ := C.cells
  refine F.ok scDE (fun vs H Q E h => ?_) (fun cdv A outer s H vs Q E hr h => ?_)
  · obtain ⟨s, a, names, H0, p, M, rfl, _⟩ := h
    rfl
  obtain ⟨s, a, names, H0, p, M, rfl, A0, O, ea0, hl, hx, hrl, k1, k2⟩ := h
  obtain ⟨dx, es⟩ := A0.sh
  have hu := hu_of hr
  have ea := A0.same _ _ ea0
  obtain ⟨b, l, eb, hlast, hll⟩ := O.last
  refine ⟨_, pss_cons (ps_set (i := 2) scDE.nd rfl (.inl rfl) (pe_callB call_len_seq (by rfl) B.len boot_len (pa_cons (pe_fld (pv 0) rfl) pa_nil)))
    (pss_cons (ps_if (PW.pt (pw_or (pt_cmpR op_eq (pe_callB call_len_seq (by rfl) B.len boot_len (pa_cons (pv 1) pa_nil)) pe_int (nomark _)) (pw_or1 (pt_cmpR op_ne (pe_ix ix_list (pe_fld (pv 0) rfl) (pe_un un_neg pe_int) (fun _ _ => rfl)) (pe_op op_sub (pv 2) pe_int) (nomark _))))) (pss_one (ps_ret pe_bl)) pss_nil)
    (pss_cons (ps_for PassesOwn.never rfl (pi_list (pv 1)) (pg_name (i := 3) scDE.nd rfl (Or.inl rfl))
      (pss_cons (ps_if (PW.pt (pw_or (pt_not (pt_val (pe_call GD (hr.mono (by decide)) rfl gD kD bD .nil pass0 (pa_cons (pv 3) pa_nil)))) (pw_or (pt_cmp (pc_din hu (pv 3) (pe_fld (pv 0) rfl)))
          (pw_or1 (pt_cmpR op_eq (pe_callB call_lenD (by rfl) B.len boot_len (pa_cons (pe_fld (pv 0) rfl) pa_nil)) (pe_glob (v := .int 5) (by rfl) gC5 ⟨_, rfl⟩) (nomark _)))))) (pss_one (ps_ret pe_bl)) pss_nil)
        (pss_one (ps_dput hu (pe_fld (pv 0) rfl) (pv 3) (pe_op op_sub (pv 2) pe_int) rfl))))
    (pss_cons (ps_expr (pe_bm PySem.F.plainAttrs_list PySem.F.slot_list_append PySem.F.type_list_append mt_append (pe_fld (pv 0) rfl) (pa_cons (pe_make mR GR hr rfl T.gr bR .nil pass0 (pa_cons pe_str (pa_cons (pe_callTy call_tuple_of (by rfl) B.tuple (by decide +kernel) (pa_cons (pv 1) pa_nil)) (pa_cons (pv 2) pa_nil)))) pa_nil)))
    (pss_one (ps_ret pe_bl))))), ?_⟩
  have h0r : 0 < M.rows.length := by
    obtain ⟨r0, e0, _⟩ := O.z
    exact (List.getElem?_eq_some_iff.mp e0).1
  refine ⟨_, rfl, s, Cs, dx, _, _, rfl, es, T.cs, T.sr, lkS1 p, p.R, _, rfl, .inl (SqL.of A0.R), ?_⟩
  rw [show (p.ras.map V.ref).length = M.rows.length by rw [List.length_map, A0.len]]
  refine ⟨_, rfl, a, _, rfl, .inl (SqL.of ea), rfl, _, rfl, ?_⟩
  rw [List.length_map]
  have hm : declareM M names = if names ≠ [] ∧ M.nest.getLast? = some (M.rows.length - 1) then (addNames (M.rows.length - 1) M.homes names).map fun h => ⟨M.rows ++ [⟨"local", names, M.rows.length + 1, 0⟩], h, M.around, M.nest⟩ else none := rfl
  refine ite2 (fun c => ?_) fun c => ?_
  · have hn : names = [] := List.eq_nil_of_length_eq_zero (by have := V.int.inj (of_decide_eq_true c); omega)
    exact iteT (k2 (by rw [hm, if_neg (fun z => z.1 hn)]) _ A0.same)
  have hn : names ≠ [] := fun z => c (decide_eq_true (by rw [z]; rfl))
  refine ⟨_, rfl, s, Cs, dx, _, _, rfl, es, T.cs, T.sn, lkS4 p, _, rfl, p.n, _, _, _, rfl, rfl, SqL.of A0.n, atI_nats eb, _, rfl, _, _, rfl, rfl, rfl, _, rfl, ?_⟩
  refine ite2 (fun c2 => ?_) fun c2 => ?_
  · have hne : l ≠ M.rows.length - 1 := fun z => by
      have e : V.int (l : Nat) = V.int ((M.rows.length : Int) - 1) := congrArg V.int (by omega)
      rw [decide_eq_true e] at c2
      cases c2
    refine k2 ?_ _ A0.same
    rw [hm, if_neg (fun z => hne (by have := hlast.symm.trans z.2; cases this; rfl))]
  have hle : l = M.rows.length - 1 := by
    have e : decide (V.int (l : Nat) = V.int ((M.rows.length : Int) - 1)) = true := by simpa using c2
    have := V.int.inj (of_decide_eq_true e)
    omega
  have hm2 : declareM M names = (addNames (M.rows.length - 1) M.homes names).map fun h => ⟨M.rows ++ [⟨"local", names, M.rows.length + 1, 0⟩], h, M.around, M.nest⟩ := by
    rw [hm, if_pos ⟨hn, by rw [hlast, hle]⟩]
  refine ⟨_, rfl, a, rfl, ⟨_, SqL.of ea⟩, for_it (walk_list (xs := names.map V.str)) (fun i σ H' => ∃ hs, (∃ z, σ = [some (.ref s), some (.ref a), some (.int (M.rows.length : Nat)), z]) ∧ addNames (M.rows.length - 1) M.homes (names.take i) = some hs ∧ ShAt Cr Cs H0 H' s p ⟨M.rows, hs, M.around, M.nest⟩)
    ⟨M.homes, ⟨none, rfl⟩, rfl, A0⟩ (fun i σ H' _ z => ?_) ?_ ?_⟩
  · obtain ⟨hs, _, _, A1⟩ := z
    exact SqL.of (A1.same _ _ ea0)
  · rintro i x σ H' H'' hi ⟨hs, ⟨z, rfl⟩, eh, A1⟩ ⟨rfl, hxi⟩
    rw [List.length_map] at hi
    rw [List.getElem?_map, List.getElem?_eq_getElem hi] at hxi
    obtain rfl : V.str names[i] = x := Option.some.inj hxi
    have hmem : names[i] ∈ names := List.getElem_mem hi
    have htk : names.take (i + 1) = names.take i ++ [names[i]] := by rw [List.take_add_one, List.getElem?_eq_getElem hi]; rfl
    have hnx : addNames (M.rows.length - 1) M.homes (names.take (i + 1)) = addName (M.rows.length - 1) hs names[i] := by rw [htk, addNames_snoc, eh]; rfl
    have hadd : addName (M.rows.length - 1) hs names[i] = if isName names[i] = true ∧ homeOf hs names[i] = none ∧ hs.length ≠ 5 then some (hs ++ [(names[i], M.rows.length - 1)]) else none := rfl
    have bad : ¬ (isName names[i] = true ∧ homeOf hs names[i] = none ∧ hs.length ≠ 5) → declareM M names = none := fun z => by
      rw [hm2, addNames_stop _ names _ (i + 1) (by rw [hnx, hadd, if_neg z])]
      rfl
    refine ⟨_, rfl, names[i], rfl, hx _ hmem, fun H2 S2 => ?_⟩
    have A2 := A1.grow S2
    refine ⟨_, rfl, ?_⟩
    cases e1 : isName names[i] with
    | false => exact iteT (k2 (bad fun z => by rw [e1] at z; exact Bool.noConfusion z.1) _ A2.same)
    | true =>
      obtain ⟨d2, es2⟩ := A2.sh
      refine iteF ⟨_, rfl, _, rfl, s, Cs, d2, _, _, rfl, es2, T.cs, T.sh, lkS2 p, p.h, _, rfl, DGet.k (k := Sum.inr names[i]) A2.h, _, rfl, ?_⟩
      rw [val_homes]
      cases e2 : homeOf hs names[i] with
      | some g => exact iteT (k2 (bad fun z => by rw [e2] at z; cases z.2.1) _ A2.same)
      | none =>
        refine iteF ⟨_, rfl, s, Cs, d2, _, _, rfl, es2, T.cs, T.sh, lkS2 p, p.h, _, rfl, A2.h, rfl, _, rfl, ?_⟩
        have hsl : (homesV hs).length = hs.length := List.length_map ..
        have hs5 : hs.length ≤ 5 := addNames_len _ _ _ _ eh O.h5
        rw [hsl]
        refine ite2 (fun c3 => ?_) fun c3 => ?_
        · have : hs.length = 5 := by have := V.int.inj (of_decide_eq_true c3); omega
          exact k2 (bad fun z => z.2.2 this) _ A2.same
        have h5 : hs.length ≠ 5 := fun z => c3 (decide_eq_true (by rw [z]; rfl))
        refine ⟨_, rfl, _, _, rfl, rfl, _, rfl, s, Cs, d2, _, _, rfl, es2, T.cs, T.sh, lkS2 p, _, rfl, p.h, _, rfl, DPut.k (k := Sum.inr names[i]) A2.h (by show (homesV hs).length < _; rw [hsl, sizeLine_eq]; omega), ?_⟩
        refine ⟨hs ++ [(names[i], M.rows.length - 1)], ⟨_, rfl⟩, by rw [hnx, hadd, if_pos ⟨e1, e2, h5⟩], ?_⟩
        have A3 := A2.setHomes (hs ++ [(names[i], M.rows.length - 1)])
        have ep : putK (homesV hs) (Sum.inr names[i] : Key) (V.int ((M.rows.length : Int) - 1)) = homesV (hs ++ [(names[i], M.rows.length - 1)]) := by
          rw [putK_new _ (by rw [val_homes, e2]; rfl)]
          unfold homesV
          rw [List.map_append, show ((M.rows.length : Int) - 1) = ((M.rows.length - 1 : Nat) : Int) by omega]
          rfl
        rw [← ep] at A3
        exact A3
  · rintro σ H' ⟨hs, ⟨z, rfl⟩, eh, A1⟩
    rw [List.length_map, List.take_length] at eh
    obtain ⟨d1, es1⟩ := A1.sh
    have ea1 := A1.same _ _ ea0
    refine ⟨_, rfl, s, Cs, d1, _, _, rfl, es1, T.cs, T.sr, lkS1 p, .inl ⟨rfl, _, SqL.of A1.R⟩, _, rfl, a, _, rfl, .inl ⟨SqL.of ea1, fun q hq => ?_⟩⟩
    have nR : q ≠ p.R := (ne_of_none A1.R hq).symm
    refine ⟨_, rfl, fun x dx' nx ndx nex => ⟨x, dx', q, _, M.rows.length, rfl, upd_same, fun H3 e1 e2 => ⟨rfl, ?_⟩⟩⟩
    obtain ⟨S3, new⟩ := row_made (names := names) (Same.new (o := .tup (names.map V.str)) (Same.refl H') hq) upd_same nx ndx e1 e2
    have nx' : H' x = none := (Same.new (o := .tup (names.map V.str)) (Same.refl H') hq).free nx
    have A2 := A1.addRow S3 nx' new
    refine ⟨p.R, _, _, rfl, rfl, S3 _ _ A1.R, ?_, ?_⟩
    · rw [List.length_map, A1.len, sizeLine_eq]
      show M.rows.length < _
      omega
    · rw [List.map_append] at A2
      refine k1 _ ?_ _ _ A2
      rw [hm2, eh]
      rfl
end
end FP
set_option Elab.async false
set_option linter.all false
set_option maxRecDepth 100000
set_option maxHeartbeats 4000000
namespace FP
open PySem PySem.Spec PyProof.Rows L2
theorem getN_put (l : List (Nat × Nat)) (k v j : Nat) : getN (putN l k v) j = if j = k then some v else getN l j := by
  have h1 := val_around (putN l k v) j
  rw [← put_around] at h1
  have key : ∀ (d : List (Nat × Nat)), getN (d.map fun p => if p.1 = k then (p.1, v) else p) j = if j = k then (getN d k).map (fun _ => v) else getN d j := by
    intro d
    induction d with
    | nil => by_cases c : j = k <;> simp [getN, c]
    | cons p r ih =>
      unfold getN at ih ⊢
      rw [List.map_cons, List.find?_cons, List.find?_cons, List.find?_cons]
      by_cases c1 : p.1 = k
      · by_cases c2 : j = k
        · simp [c1, c2]
        · have : ¬ k = j := fun z => c2 z.symm
          simp only [c1, if_true, this, decide_false, ih, c2, if_false]
      · by_cases c2 : p.1 = j
        · have : ¬ j = k := fun z => c1 (c2.trans z)
          simp [c1, c2, this]
        · simp only [c1, if_false, c2, decide_false, ih]
  unfold putN
  split
  · rename_i c
    rw [key]
    by_cases e : j = k
    · rw [if_pos e, if_pos e]
      obtain ⟨q, hq, hk⟩ := List.any_eq_true.mp c
      have : getN l k ≠ none := by
        unfold getN
        intro z
        rw [Option.map_eq_none_iff, List.find?_eq_none] at z
        exact z q hq hk
      cases eg : getN l k with
      | none => exact absurd eg this
      | some _ => rfl
    · rw [if_neg e, if_neg e]
  · rename_i c
    unfold getN
    rw [List.find?_append]
    by_cases e : j = k
    · have : l.find? (fun p => decide (p.1 = j)) = none := by
        rw [List.find?_eq_none]
        intro q hq hk
        exact c (List.any_eq_true.mpr ⟨q, hq, by rw [e] at hk; exact hk⟩)
      rw [this, if_pos e]
      simp [e]
    · rw [if_neg e]
      have : ¬ k = j := fun z => e z.symm
      cases l.find? (fun p => decide (p.1 = j)) <;> simp [this]
/-- a row more -/
theorem Ok.row {M : ShM} (O : Ok M) (m : RowM) : Ok ⟨M.rows ++ [m], M.homes, M.around, M.nest⟩ := by
  refine ⟨fun l hl => ?_, O.ar, O.hd, ?_, O.h5, ?_, O.nl⟩
  · have := O.lt l hl
    show l < (M.rows ++ [m]).length
    rw [List.length_append]; omega
  · obtain ⟨r, e, hw⟩ := O.z
    refine ⟨r, ?_, hw⟩
    show (M.rows ++ [m])[0]? = _
    rw [List.getElem?_append_left (List.getElem?_eq_some_iff.mp e).1]
    exact e
  · show M.around.length ≤ (M.rows ++ [m]).length
    have := O.al
    rw [List.length_append]; omega
theorem Ok.declare {M M' : ShM} {names : List Str} (O : Ok M) (h : declareM M names = some M') : Ok M' ∧ M'.rows.length = M.rows.length + 1 := by
  unfold declareM at h
  split at h
  · cases e : addNames (M.rows.length - 1) M.homes names with
    | none => rw [e] at h; cases h
    | some hs =>
      rw [e] at h
      obtain rfl := Option.some.inj h
      have O1 := O.row ⟨"local", names, M.rows.length + 1, 0⟩
      exact ⟨⟨O1.lt, O1.ar, O1.hd, O1.z, addNames_len _ _ _ _ e O.h5, O1.al, O1.nl⟩, by simp⟩
  · cases h
/-- what holds ahead of a block's step: as Ok, and room for one entry of around -/
structure Ok1 (M : ShM) : Prop extends Ok M where
  a1 : M.around.length + 1 ≤ M.rows.length
theorem Ok.row1 {M : ShM} (O : Ok M) (m : RowM) : Ok1 ⟨M.rows ++ [m], M.homes, M.around, M.nest⟩ :=
  ⟨O.row m, by show M.around.length + 1 ≤ (M.rows ++ [m]).length; have := O.al; rw [List.length_append, List.length_singleton]; omega⟩
theorem Ok1.open_ {M M' : ShM} {n : Nat} (O : Ok1 M) (hn : n < M.rows.length) (h : openM M n = some M') : Ok M' ∧ M'.rows.length = M.rows.length := by
  obtain ⟨b, l, eb, hlast, hll⟩ := O.toOk.last
  unfold openM at h
  rw [hlast] at h
  dsimp only at h
  split at h
  · rename_i c
    obtain rfl := Option.some.inj h
    refine ⟨⟨fun k hk => ?_, fun k hk k0 => ?_, ?_, O.z, O.h5, ?_, ?_⟩, rfl⟩
    · rcases List.mem_append.mp hk with z | z
      · exact O.lt k z
      · rw [List.mem_singleton.mp z]; exact hn
    · show getN (putN M.around n l) k ≠ none
      rw [getN_put]
      split
      · exact Option.some_ne_none _
      · rename_i z
        rcases List.mem_append.mp hk with y | y
        · exact O.ar k y k0
        · exact absurd (List.mem_singleton.mp y) z
    · show (M.nest ++ [n]).head? = some 0
      have hh := O.hd
      rw [eb] at hh ⊢
      cases b with
      | nil => exact hh
      | cons x r => exact hh
    · exact Nat.le_trans (putN_len _ _ _) O.a1
    · show (M.nest ++ [n]).length ≤ 6
      rw [List.length_append, List.length_singleton]; omega
  · cases h
theorem setRow_len (rows : List RowM) (i : Nat) (f : RowM → RowM) : (setRow rows i f).length = rows.length := by
  unfold setRow
  split
  · exact List.length_set
  · rfl
theorem setRow_zero {rows : List RowM} {i : Nat} {f : RowM → RowM} (hf : ∀ r, (f r).word = r.word) (h : ∃ r, rows[0]? = some r ∧ r.word = ("" : Str)) : ∃ r, (setRow rows i f)[0]? = some r ∧ r.word = ("" : Str) := by
  obtain ⟨r, e, hw⟩ := h
  unfold setRow
  split
  · rename_i m em
    by_cases c : i = 0
    · subst c
      rw [e] at em
      cases em
      exact ⟨f r, List.getElem?_set_self (List.getElem?_eq_some_iff.mp e).1, (hf r).trans hw⟩
    · exact ⟨r, (List.getElem?_set_ne c).trans e, hw⟩
  · exact ⟨r, e, hw⟩
theorem Ok1.turn {M M' : ShM} {n : Nat} (O : Ok1 M) (hn : n < M.rows.length) (h : turnM M n = some M') : Ok M' ∧ M'.rows.length = M.rows.length := by
  obtain ⟨b, l, eb, hlast, hll⟩ := O.toOk.last
  unfold turnM at h
  rw [hlast] at h
  dsimp only at h
  split at h
  · rename_i m a em ea
    split at h
    · rename_i c
      obtain rfl := Option.some.inj h
      have hl0 : l ≠ 0 := fun z => by
        obtain ⟨r, e, hw⟩ := O.z
        rw [z, e] at em
        cases em
        rw [hw] at c
        exact absurd c (by decide)
      have hb : ∃ r, b = 0 :: r := by
        have := O.hd
        rw [eb] at this
        cases b with
        | nil => exact absurd (Option.some.inj this) hl0
        | cons x r => exact ⟨r, by rw [Option.some.inj this]⟩
      have ed : M.nest.dropLast = b := by rw [eb, List.dropLast_concat]
      refine ⟨⟨fun k hk => ?_, fun k hk k0 => ?_, ?_, setRow_zero (fun _ => rfl) O.z, O.h5, ?_, ?_⟩, setRow_len _ _ _⟩
      · show k < (setRow M.rows l _).length
        rw [setRow_len]
        replace hk : k ∈ M.nest.dropLast ++ [n] := hk
        rw [ed] at hk
        rcases List.mem_append.mp hk with z | z
        · exact O.lt k (by rw [eb]; exact List.mem_append_left _ z)
        · rw [List.mem_singleton.mp z]; exact hn
      · show getN (putN M.around n a) k ≠ none
        replace hk : k ∈ M.nest.dropLast ++ [n] := hk
        rw [ed] at hk
        rw [getN_put]
        split
        · exact Option.some_ne_none _
        · rename_i z
          rcases List.mem_append.mp hk with y | y
          · exact O.ar k (by rw [eb]; exact List.mem_append_left _ y) k0
          · exact absurd (List.mem_singleton.mp y) z
      · show (M.nest.dropLast ++ [n]).head? = some 0
        obtain ⟨r, er⟩ := hb
        rw [ed, er]
        rfl
      · show (putN M.around n a).length ≤ (setRow M.rows l _).length
        rw [setRow_len]
        exact Nat.le_trans (putN_len _ _ _) O.a1
      · show (M.nest.dropLast ++ [n]).length ≤ 6
        have := O.nl
        rw [eb, List.length_append] at this
        rw [ed, List.length_append]
        exact this
    · cases h
  · cases h
theorem Ok1.close {M M' : ShM} {n : Nat} (O : Ok1 M) (h : closeM M n = some M') : Ok M' ∧ M'.rows.length = M.rows.length := by
  obtain ⟨b, l, eb, hlast, hll⟩ := O.toOk.last
  unfold closeM at h
  rw [hlast] at h
  dsimp only at h
  split at h
  · rename_i m em
    split at h
    · rename_i hl0
      obtain rfl := Option.some.inj h
      have ed : M.nest.dropLast = b := by rw [eb, List.dropLast_concat]
      have hb : ∃ r, b = 0 :: r := by
        have := O.hd
        rw [eb] at this
        cases b with
        | nil => exact absurd (Option.some.inj this) hl0
        | cons x r => exact ⟨r, by rw [Option.some.inj this]⟩
      have kw1 : ∀ r : RowM, (if r.word = ("else" : Str) then { r with after := n } else { r with other := n + 1 } : RowM).word = r.word := fun r => by split <;> rfl
      have hz := setRow_zero (i := l) kw1 O.z
      have hlen : (if m.word = ("loop" : Str) then setRow (setRow M.rows l fun r => if r.word = ("else" : Str) then { r with after := n } else { r with other := n + 1 }) n (fun r => { r with after := l }) else (setRow M.rows l fun r => if r.word = ("else" : Str) then { r with after := n } else { r with other := n + 1 })).length = M.rows.length := by
        split
        · rw [setRow_len, setRow_len]
        · rw [setRow_len]
      refine ⟨⟨fun k hk => ?_, fun k hk k0 => ?_, ?_, ?_, O.h5, ?_, ?_⟩, hlen⟩
      · show k < (if m.word = ("loop" : Str) then _ else _ : List RowM).length
        rw [hlen]
        replace hk : k ∈ M.nest.dropLast := hk
        rw [ed] at hk
        exact O.lt k (by rw [eb]; exact List.mem_append_left _ hk)
      · replace hk : k ∈ M.nest.dropLast := hk
        rw [ed] at hk
        exact O.ar k (by rw [eb]; exact List.mem_append_left _ hk) k0
      · show M.nest.dropLast.head? = some 0
        obtain ⟨r, er⟩ := hb
        rw [ed, er]
        rfl
      · show ∃ r, (if m.word = ("loop" : Str) then _ else _ : List RowM)[0]? = some r ∧ _
        split
        · exact setRow_zero (f := fun r => { r with after := l }) (fun _ => rfl) hz
        · exact hz
      · show M.around.length ≤ (if m.word = ("loop" : Str) then _ else _ : List RowM).length
        rw [hlen]
        exact O.al
      · show M.nest.dropLast.length ≤ 6
        have := O.nl
        rw [List.length_dropLast]
        omega
    · cases h
  · cases h
theorem ok_new : Ok ShM.new := by
  refine ⟨?_, ?_, rfl, ⟨_, rfl, rfl⟩, by decide, by decide, by decide⟩
  · intro l hl
    have : l = 0 := List.mem_singleton.mp hl
    rw [this]
    decide
  · intro l hl h0
    exact absurd (List.mem_singleton.mp hl) h0
theorem Ok.takeRow {M M' : ShM} {word : Str} {words form : List Str} (O : Ok M) (h : takeRowM M word words form = some M') : Ok M' ∧ M'.rows.length = M.rows.length + 1 := by
  unfold takeRowM at h
  dsimp only at h
  generalize ((words.zip form).filter fun p => p.2 == ("" : Str)).map (·.1) = nm at h
  by_cases c0 : nm.all (seenM M) = true
  · rw [if_pos c0] at h
    have O1 := O.row1 ⟨word, nm, M.rows.length + 1, 0⟩
    have hn : M.rows.length < (M.rows ++ [(⟨word, nm, M.rows.length + 1, 0⟩ : RowM)]).length := by simp
    have fin : (Ok M' ∧ M'.rows.length = (M.rows ++ [(⟨word, nm, M.rows.length + 1, 0⟩ : RowM)]).length) → Ok M' ∧ M'.rows.length = M.rows.length + 1 := fun z => ⟨z.1, z.2.trans (by simp)⟩
    by_cases c1 : openL.contains word = true
    · rw [if_pos c1] at h
      exact fin (O1.open_ hn h)
    · rw [if_neg c1] at h
      by_cases c2 : word = ("else" : Str)
      · rw [if_pos c2] at h
        exact fin (O1.turn hn h)
      · rw [if_neg c2] at h
        by_cases c3 : word = ("end" : Str)
        · rw [if_pos c3] at h
          exact fin (O1.close h)
        · rw [if_neg c3] at h
          obtain rfl := Option.some.inj h
          exact ⟨O1.toOk, by simp⟩
  · rw [if_neg c0] at h
    cases h
theorem Ok.take {M M' : ShM} {parts : List Str} (O : Ok M) (h : takeM M parts = some M') : Ok M' ∧ M'.rows.length = M.rows.length + 1 := by
  unfold takeM at h
  split at h
  · cases h
  · split at h
    · exact O.declare h
    · split at h
      · split at h
        · exact O.takeRow h
        · cases h
      · cases h
end FP
set_option Elab.async false
set_option linter.all false
set_option maxRecDepth 100000
set_option maxHeartbeats 4000000
namespace FP
open PySem PySem.Spec PyProof.Rows L2
/-- the written dict of the forms -/
structure FormsAt (K : PySem.W.Frag) (w : World) (mg : Str → Option Value) (aF : Addr) (fs : Array DictEntry) (fn : Nat) : Prop where
  g : mg "FORMS" = some (.ref aF)
  d : KDict K w aF fs fn
  in_ : ∀ z : Str, ∃ r, PySem.W.nsIn K aF z = some r ∧ r.isSome = (formsL.lookup z).isSome
  at_ : ∀ (z : Str) (form : List Str), formsL.lookup z = some form → ∃ t, KDct K w aF z (.ref t) ∧ ∀ H, SqT K H t (form.map V.str)
section
variable {P : Program} {w : World} {K : PySem.W.Frag} {mg : Str → Option Value} {base : Heap} {Cr Cs aT aP aO aF : Addr} {fes : Array DictEntry} {fen : Nat}
def spTakeRow (Cr Cs : Addr) : Sp := fun vs H Q _ => ∃ (s a : Addr) (word : Str) (words form : List Str) (H0 : Hp) (p : Pt) (M : ShM), vs = [.ref s, .str word, .ref a] ∧ ShAt Cr Cs H0 H s p M ∧ Ok M ∧ H0 a = some (.lst (words.map V.str)) ∧
  formsL.lookup word = some form ∧ words.length = form.length ∧ form.length ≤ 100000 ∧ M.rows.length ≤ 100000 ∧ Took Cr Cs H0 s (takeRowM M word words form) Q
abbrev nTR : List Str := ["self", "word", "words", "names", "number", "right", "name", "part"]
theorem scTR : FnScope nTR ["self", "word", "words"] (defScope mSheet_take_row) := ⟨rfl, rfl, rfl, by decide +kernel, rfl, by decide +kernel, by decide +kernel⟩
theorem ok_takeRow {f : Addr} {fd : FuncData} (F : Fun K "_take_row" "Sheet._take_row" mSheet_take_row f fd) (T : ShTxt K mg Cr Cs) (C : Csts K mg aT aP aO) (B : Blt2 mg) (FA : FormsAt K w mg aF fes fen) (DR : CDef P w K mg base Cr 1 ["self", "word", "names", "number"] (spRow Cr))
    (DS : MDef P w K mg base Cs "_is_seen" 1 ["self", "name"] (spSeen Cr Cs)) (DO : MDef P w K mg base Cs "_open_block" 1 ["self", "number"] (spStep Cr Cs openM preOpen)) (DT : MDef P w K mg base Cs "_turn" 1 ["self", "number"] (spStep Cr Cs turnM preTurn)) (DC : MDef P w K mg base Cs "_close_block" 1 ["self", "number"] (spStep Cr Cs closeM preClose)) :
    FnOk P w K mg base CX0 3 f fd ["self", "word", "words"] (spTakeRow Cr Cs) := by
  obtain ⟨fR, fdR, mR, bR, GR⟩ := DR.ex
  obtain ⟨fS, fdS, mS, bS, GS⟩ := DS.ex
  obtain ⟨fO, fdO, mO, bO, GO⟩ := DO.ex
  obtain ⟨fT, fdT, mT, bT, GT⟩ := DT.ex
  obtain ⟨fC, fdC, mC, bC, GC⟩ := DC.ex
  refine F.ok scTR (fun vs H Q E h => ?_) (fun cdv A outer s H vs Q E hr h => ?_)
  · obtain ⟨s, a, word, words, form, H0, p, M, rfl, _⟩ := h
    rfl
  obtain ⟨s, a, word, words, form, H0, p, M, rfl, A0, O, ea0, hf, hlen, hfl, hrl, k1, k2⟩ := h
  obtain ⟨dx, es⟩ := A0.sh
  have hu := hu_of hr
  have hr1 := hr.mono (show 1 ≤ 2 by decide)
  have ea := A0.same _ _ ea0
  obtain ⟨tF, kd, sF⟩ := FA.at_ word form hf
  refine ⟨_, pss_cons (ps_setLc (i := 3) (own := [("name", 6), ("part", 7)]) (g := gTup K 2 (gCons (gName 6) (gCons (gName 7) gNil))) (te := tVar 6) (by rfl) scTR.nd rfl rfl (sw_true rfl rfl rfl (by decide +kernel))
      (pi_zipB true false (by rfl) B.zip (pa_cons (pv 2) (pa_cons (pe_ix ix_kdict (pe_glob (v := .ref aF) (by rfl) FA.g rfl) (pv 1) (fun _ _ => rfl)) pa_nil))) (blkOk_by (own := [("name", 6), ("part", 7)]) (N := nTR) (sc := defScope mSheet_take_row) (by decide +kernel))
      (fun _ _ _ _ _ => pg_tup (by rfl) (pgs_cons (pg_name (i := 6) scTR.nd rfl (Or.inl rfl)) (pgs_cons (pg_name (i := 7) scTR.nd rfl (Or.inl rfl)) pgs_nil))) (fun _ _ _ _ _ => pts_one (pt_cmpR op_eq (pv 7) pe_str (nomark _))) (fun _ _ _ _ _ => pv 6))
    (pss_cons (ps_if (pt_not (pt_val (pe_callB (cr_all (by rfl)) (by rfl) B.all (by decide +kernel) (pa_cons (pe_lc (own := [("name", 6)]) (g := gName 6) (te := tMeth Cs "_is_seen" (spSeen Cr Cs) [] E0 (tVar 0) (tCons (tVar 6) tNil)) (by rfl) scTR.nd (pi_list (pv 3))
        (blkOk_by (own := [("name", 6)]) (N := nTR) (sc := defScope mSheet_take_row) (by decide +kernel)) (fun _ _ _ _ _ => pg_name (i := 6) scTR.nd rfl (Or.inl rfl)) (fun _ _ _ _ _ => pts_nil) (fun _ _ _ _ _ => pe_meth (pv 0) T.cs mS GS hr1 bS .nil pass0 (pa_cons (pv 6) pa_nil))) pa_nil)))) (pss_one (ps_ret pe_bl)) pss_nil)
    (pss_cons (ps_set (i := 4) scTR.nd rfl (.inl rfl) (pe_callB call_len_seq (by rfl) B.len boot_len (pa_cons (pe_fld (pv 0) rfl) pa_nil)))
    (pss_cons (ps_expr (pe_bm PySem.F.plainAttrs_list PySem.F.slot_list_append PySem.F.type_list_append mt_append (pe_fld (pv 0) rfl) (pa_cons (pe_make mR GR hr rfl T.gr bR .nil pass0 (pa_cons (pv 1) (pa_cons (pe_callTy call_tuple_of (by rfl) B.tuple (by decide +kernel) (pa_cons (pv 3) pa_nil)) (pa_cons (pv 4) pa_nil)))) pa_nil)))
    (pss_cons (ps_set (i := 5) scTR.nd rfl (.inl rfl) pe_bl)
    (pss_cons (ps_if (pt_cmpR op_in_seq (pv 1) (pe_glob (v := .ref aO) (by rfl) C.gO rfl) (by rfl)) (pss_one (ps_set (i := 5) scTR.nd rfl (.inl rfl) (pe_meth (pv 0) T.cs mO GO hr1 bO .nil pass0 (pa_cons (pv 4) pa_nil))))
      (pss_one (ps_if (pt_cmpR op_eq (pv 1) pe_str (nomark _)) (pss_one (ps_set (i := 5) scTR.nd rfl (.inl rfl) (pe_meth (pv 0) T.cs mT GT hr1 bT .nil pass0 (pa_cons (pv 4) pa_nil))))
      (pss_one (ps_if (pt_cmpR op_eq (pv 1) pe_str (nomark _)) (pss_one (ps_set (i := 5) scTR.nd rfl (.inl rfl) (pe_meth (pv 0) T.cs mC GC hr1 bC .nil pass0 (pa_cons (pv 4) pa_nil)))) pss_nil)))))
    (pss_one (ps_ret (pv 5)))))))), ?_⟩
  let nm : List Str := ((words.zip form).filter fun p => p.2 == ("" : Str)).map (·.1)
  have hnm : nm.length ≤ 100000 := by
    show (((words.zip form).filter fun p => p.2 == ("" : Str)).map (·.1)).length ≤ _
    rw [List.length_map]
    refine Nat.le_trans (List.length_filter_le _ _) ?_
    rw [List.length_zip]; omega
  refine ⟨_, rfl, _, rfl, aF, word, _, rfl, rfl, kd, a, tF, _, _, rfl, SqL.of ea, sF H, fun D hD => lc_it (walk_zipB (n := form.length) (xs := words.map V.str) (ys := form.map V.str) (by simp [hlen]) (by simp))
    (fun n H' => Same H H' ∧ H' D = some (.lst (((((words.zip form).take n).filter fun p => p.2 == ("" : Str)).map (·.1)).map V.str))) ⟨Same.new (Same.refl H) hD, upd_same⟩ (fun _ H' _ z => ⟨SqL.of (z.1 _ _ ea), sF H'⟩) ?_ ?_⟩
  · rintro n v H' H'' hn' ⟨S1, eD⟩ ⟨T', x, y, rfl, hT, rfl, hx, hy⟩
    have hwn : n < words.length := by omega
    replace hx : (words.map V.str)[n]? = some x := hx
    replace hy : (form.map V.str)[n]? = some y := hy
    rw [List.getElem?_map, List.getElem?_eq_getElem hwn] at hx
    rw [List.getElem?_map, List.getElem?_eq_getElem hn'] at hy
    obtain rfl : V.str words[n] = x := Option.some.inj hx
    obtain rfl : V.str form[n] = y := Option.some.inj hy
    have eD2 : (upd H' T' (.tup [.str words[n], .str form[n]])) D = _ := (upd_ne (ne_of_none eD hT)).trans eD
    have S2 := Same.new (o := .tup [.str words[n], .str form[n]]) S1 hT
    have htk : (words.zip form).take (n + 1) = (words.zip form).take n ++ [(words[n], form[n])] := by
      rw [List.take_add_one, List.getElem?_eq_getElem (by rw [List.length_zip]; omega), List.getElem_zip]
      rfl
    refine ⟨T', _, rfl, SqT.of upd_same, rfl, _, _, rfl, _, _, rfl, rfl, rfl, _, rfl, rfl, _, rfl, ?_⟩
    refine ite2 (fun c => ?_) fun c => ?_
    · have hc : (form[n] == ("" : Str)) = true := beq_iff_eq.mpr (V.str.inj (of_decide_eq_true c))
      refine ⟨_, rfl, _, eD2, ?_, ?_, ?_⟩
      · rw [List.length_map, List.length_map, sizeLine_eq]
        have := List.length_filter_le (fun p : Str × Str => p.2 == ("" : Str)) ((words.zip form).take n)
        rw [List.length_take] at this
        omega
      · intro c' o e
        rw [upd_ne (ne_of_none e hD)]
        exact S2 c' o e
      · rw [upd_same, htk, List.filter_append, List.map_append, List.map_append]
        simp [hc]
    · have hc : (form[n] == ("" : Str)) = false := by
        cases e : form[n] == ("" : Str) with
        | false => rfl
        | true => exact absurd (decide_eq_true (congrArg V.str (beq_iff_eq.mp e))) c
      refine ⟨S2, ?_⟩
      rw [eD2, htk, List.filter_append]
      simp [hc]
  rintro H1 ⟨S1, eD⟩
  rw [List.take_of_length_le (by rw [List.length_zip]; omega)] at eD
  replace eD : H1 D = some (.lst (nm.map V.str)) := eD
  have A1 := A0.grow S1
  have hm : takeRowM M word words form = if nm.all (seenM M) = true then
      (if openL.contains word = true then openM ⟨M.rows ++ [⟨word, nm, M.rows.length + 1, 0⟩], M.homes, M.around, M.nest⟩ M.rows.length else if word = ("else" : Str) then turnM ⟨M.rows ++ [⟨word, nm, M.rows.length + 1, 0⟩], M.homes, M.around, M.nest⟩ M.rows.length
        else if word = ("end" : Str) then closeM ⟨M.rows ++ [⟨word, nm, M.rows.length + 1, 0⟩], M.homes, M.around, M.nest⟩ M.rows.length else some ⟨M.rows ++ [⟨word, nm, M.rows.length + 1, 0⟩], M.homes, M.around, M.nest⟩) else none := rfl
  -- are all of them seen
  refine ⟨_, rfl, D, rfl, ⟨_, SqL.of eD⟩, fun D2 hD2 => lc_it (walk_list (xs := nm.map V.str)) (fun n H' => Same H1 H' ∧ H' D2 = some (.lst (((nm.take n).map (seenM M)).map V.bl))) ⟨Same.new (Same.refl H1) hD2, upd_same⟩ (fun _ H' _ z => SqL.of (z.1 _ _ eD)) ?_ ?_⟩
  · rintro n v H' H'' hn' ⟨S2, eD2⟩ ⟨rfl, hxi⟩
    rw [List.length_map] at hn'
    rw [List.getElem?_map, List.getElem?_eq_getElem hn'] at hxi
    obtain rfl : V.str nm[n] = v := Option.some.inj hxi
    have A2 := A1.grow S2
    obtain ⟨d2, es2⟩ := A2.sh
    refine ⟨rfl, _, rfl, s, d2, _, rfl, es2, rfl, _, rfl, s, H0, p, M, nm[n], rfl, A2, _, eD2, ?_, ?_, ?_⟩
    · rw [List.length_map, List.length_map, List.length_take, sizeLine_eq]
      omega
    · intro c' o e
      rw [upd_ne (ne_of_none e hD2)]
      exact S2 c' o e
    · rw [upd_same, List.take_add_one, List.getElem?_eq_getElem hn', List.map_append, List.map_append]
      rfl
  rintro H2 ⟨S2, eD2⟩
  rw [List.length_map, List.take_length] at eD2
  have A2 := A1.grow S2
  refine ⟨D2, _, rfl, SqL.of eD2, _, rfl, ?_⟩
  have ea2 : (nm.map (seenM M)).all id = nm.all (seenM M) := by rw [List.all_map]; rfl
  rw [ea2]
  cases hs : nm.all (seenM M) with
  | false => exact iteT (k2 (by rw [hm, hs]; rfl) _ A2.same)
  | true =>
    rw [hs, if_pos rfl] at hm
    obtain ⟨d2, es2⟩ := A2.sh
    refine iteF ⟨_, rfl, s, Cs, d2, _, _, rfl, es2, T.cs, T.sr, lkS1 p, p.R, _, rfl, .inl (SqL.of A2.R), ?_⟩
    rw [show (p.ras.map V.ref).length = M.rows.length by rw [List.length_map, A2.len]]
    refine ⟨_, rfl, s, Cs, d2, _, _, rfl, es2, T.cs, T.sr, lkS1 p, .inl ⟨rfl, _, SqL.of A2.R⟩, _, rfl, _, rfl, D, _, rfl, .inl ⟨SqL.of (S2 _ _ eD), fun q hq => ?_⟩⟩
    refine ⟨_, rfl, fun x dx' nx ndx nex => ⟨x, dx', q, _, M.rows.length, rfl, upd_same, fun H3 e1 e2 => ⟨rfl, ?_⟩⟩⟩
    obtain ⟨S3, new⟩ := row_made (names := nm) (Same.new (o := .tup (nm.map V.str)) (Same.refl H2) hq) upd_same nx ndx e1 e2
    have nx' : H2 x = none := (Same.new (o := .tup (nm.map V.str)) (Same.refl H2) hq).free nx
    have A3 := A2.addRow S3 nx' new
    have O1 := O.row1 ⟨word, nm, M.rows.length + 1, 0⟩
    refine ⟨p.R, _, _, rfl, rfl, S3 _ _ A2.R, ?_, ?_⟩
    · rw [List.length_map, A2.len, sizeLine_eq]
      omega
    rw [List.map_append] at A3
    obtain ⟨d3, es3⟩ := A3.sh
    obtain ⟨b, l, eb, hlast, hll⟩ := O1.toOk.last
    have h1k : M.around.length ≤ 100000 := Nat.le_trans O.al hrl
    obtain ⟨mL, em⟩ : ∃ m, (M.rows ++ [(⟨word, nm, M.rows.length + 1, 0⟩ : RowM)])[l]? = some m := ⟨_, List.getElem?_eq_getElem hll⟩
    refine ⟨_, rfl, aO, _, rfl, .inr (C.sO _), rfl, flat_strs _, _, rfl, ?_⟩
    rw [show (if false = true then !inV (V.str word) (openL.map V.str) else inV (V.str word) (openL.map V.str)) = openL.contains word from inV_strs word openL]
    cases c1 : openL.contains word with
    | true =>
      rw [c1, if_pos rfl] at hm
      refine iteT ⟨_, rfl, s, d3, _, rfl, es3, rfl, _, rfl, s, M.rows.length, H0, _, _, rfl, A3, ⟨⟨b, l, eb⟩, h1k, Nat.le_trans O.nl (by decide)⟩, fun M' e H' A' => ⟨_, rfl, k1 M' (hm.trans e) _ _ A'⟩, fun e => ⟨_, rfl, k2 (hm.trans e) _ A3.same⟩⟩
    | false =>
      rw [c1, if_neg Bool.false_ne_true] at hm
      refine iteF ⟨_, rfl, rfl, _, rfl, ite2 (fun c2 => ?_) fun c2 => ?_⟩
      · have hw : word = ("else" : Str) := V.str.inj (of_decide_eq_true c2)
        rw [if_pos hw] at hm
        refine ⟨_, rfl, s, d3, _, rfl, es3, rfl, _, rfl, s, M.rows.length, H0, _, _, rfl, A3, ⟨⟨b, l, _, eb, em, fun ht => ?_⟩, h1k⟩, fun M' e H' A' => ⟨_, rfl, k1 M' (hm.trans e) _ _ A'⟩, fun e => ⟨_, rfl, k2 (hm.trans e) _ A3.same⟩⟩
        refine O1.ar l (by rw [eb]; simp) fun z => ?_
        obtain ⟨r0, e0, hw0⟩ := O1.z
        rw [z] at em
        rw [← Option.some.inj (e0.symm.trans em), hw0] at ht
        exact absurd ht (by decide)
      · rw [if_neg (fun z => c2 (decide_eq_true (by rw [z])))] at hm
        refine ⟨_, rfl, rfl, _, rfl, ite2 (fun c3 => ?_) fun c3 => ?_⟩
        · have hw : word = ("end" : Str) := V.str.inj (of_decide_eq_true c3)
          rw [if_pos hw] at hm
          exact ⟨_, rfl, s, d3, _, rfl, es3, rfl, _, rfl, s, M.rows.length, H0, _, _, rfl, A3, ⟨⟨b, l, _, eb, em⟩, by simp⟩, fun M' e H' A' => ⟨_, rfl, k1 M' (hm.trans e) _ _ A'⟩, fun e => ⟨_, rfl, k2 (hm.trans e) _ A3.same⟩⟩
        · rw [if_neg (fun z => c3 (decide_eq_true (by rw [z])))] at hm
          exact ⟨_, rfl, k1 _ hm _ _ A3⟩
end
end FP
set_option Elab.async false
set_option linter.all false
set_option maxRecDepth 100000
set_option maxHeartbeats 4000000
namespace FP
open PySem PySem.Spec PyProof.Rows L2 TL
theorem spl_ne (S : List Nat) : ∀ (l : List Nat) (k : Nat) (acc : List Nat), spl S k acc l ≠ []
  | [], k, acc => by rw [spl_nil]; exact List.cons_ne_nil _ _
  | c :: r, 0, acc => by
    show (if pre S (c :: r) = true then acc :: spl S (S.length - 1) [] r else spl S 0 (acc ++ [c]) r) ≠ []
    split
    · exact List.cons_ne_nil _ _
    · exact spl_ne S r 0 _
  | c :: r, k + 1, acc => spl_ne S r k acc
theorem spl_lens (S : List Nat) : ∀ (l : List Nat) (k : Nat) (acc : List Nat), ∀ p ∈ spl S k acc l, p.length ≤ acc.length + l.length
  | [], k, acc, p, hp => by
    rw [spl_nil] at hp
    rw [List.mem_singleton.mp hp]
    exact Nat.le_refl _
  | c :: r, 0, acc, p, hp => by
    have hp' : p ∈ (if pre S (c :: r) = true then acc :: spl S (S.length - 1) [] r else spl S 0 (acc ++ [c]) r) := hp
    rw [List.length_cons]
    split at hp'
    · rcases List.mem_cons.mp hp' with z | z
      · rw [z]; omega
      · have := spl_lens S r _ _ p z
        rw [List.length_nil] at this
        omega
    · have := spl_lens S r _ _ p hp'
      rw [List.length_append, List.length_singleton] at this
      omega
  | c :: r, k + 1, acc, p, hp => by
    have := spl_lens S r k acc p hp
    rw [List.length_cons]
    omega
theorem split_ne (x y : Str) (hy : tl y ≠ []) (hk : y.cps.all (· < 256) = true) : Txt.split x y ≠ [] := fun z => by
  have := split_spl x y hy (kind_ok hk)
  rw [z] at this
  exact spl_ne _ _ _ _ this.symm
theorem split_lens (x y : Str) (hy : tl y ≠ []) (hk : y.cps.all (· < 256) = true) : ∀ p ∈ Txt.split x y, p.length ≤ x.length := fun p hp => by
  have e := split_spl x y hy (kind_ok hk)
  have : tl p ∈ spl (tl y) 0 [] (tl x) := by rw [← e]; exact List.mem_map_of_mem hp
  have := spl_lens _ _ _ _ _ this
  rw [len_tl p, len_tl x]
  simpa using this
section
variable {P : Program} {w : World} {K : PySem.W.Frag} {mg : Str → Option Value} {base : Heap} {Cr Cs aT aP aO aF : Addr} {fes : Array DictEntry} {fen : Nat}
def spTakeLine (Cr Cs : Addr) : Sp := fun vs H Q _ => ∃ (s : Addr) (line : Str) (H0 : Hp) (p : Pt) (M : ShM), vs = [.ref s, .str line] ∧ ShAt Cr Cs H0 H s p M ∧ Ok M ∧ line.length ≤ 90000 ∧ M.rows.length ≤ 100000 ∧ Took Cr Cs H0 s (takeM M (Txt.split line " ")) Q
abbrev nTL : List Str := ["self", "line", "parts", "word", "words", "right"]
theorem scTL : FnScope nTL ["self", "line"] (defScope mSheet_take_line) := ⟨rfl, rfl, rfl, by decide +kernel, rfl, by decide +kernel, by decide +kernel⟩
theorem cut_drop1 (x : V) (xs : List V) : cutV (x :: xs) (some 1) none = xs := by
  unfold cutV
  rw [show HT.sIx (x :: xs).length 0 (some 1) = 1 from (HT.sIx_nat ..).trans (by simp), show HT.sIx (x :: xs).length (x :: xs).length none = (x :: xs).length from rfl]
  simp
theorem ok_takeLine {f : Addr} {fd : FuncData} (F : Fun K "take_line" "Sheet.take_line" mSheet_take_line f fd) (T : ShTxt K mg Cr Cs) (B : Blt2 mg) (FA : FormsAt K w mg aF fes fen)
    (DF : Def P w K mg base "fits" 1 ["words", "form"] (spFits K)) (DD : MDef P w K mg base Cs "_declare" 3 ["self", "names"] (spDeclare Cr Cs)) (DT : MDef P w K mg base Cs "_take_row" 3 ["self", "word", "words"] (spTakeRow Cr Cs)) :
    FnOk P w K mg base CX0 4 f fd ["self", "line"] (spTakeLine Cr Cs) := by
  obtain ⟨fF, fdF, gF, kF, bF, GF⟩ := DF.ex
  obtain ⟨fD, fdD, mD, bD, GD⟩ := DD.ex
  obtain ⟨fT, fdT, mT, bT, GT⟩ := DT.ex
  refine F.ok scTL (fun vs H Q E h => ?_) (fun cdv A outer s H vs Q E hr h => ?_)
  · obtain ⟨s, line, H0, p, M, rfl, _⟩ := h
    rfl
  obtain ⟨s, line, H0, p, M, rfl, A0, O, hll, hrl, k1, k2⟩ := h
  have hr1 := hr.mono (show 1 ≤ 3 by decide)
  refine ⟨_, pss_cons (ps_set (i := 2) scTL.nd rfl (.inl rfl) (pe_split (pv 1) pe_str))
    (pss_cons (ps_set (i := 3) scTL.nd rfl (.inl rfl) (pe_ix ix_list (pv 2) pe_int (fun _ _ => rfl)))
    (pss_cons (ps_set (i := 4) scTL.nd rfl (.inl rfl) (pe_slice sl_list (pv 2) (po_some pe_int) po_none))
    (pss_cons (ps_if (pt_cmpR op_eq (pv 3) pe_str (nomark _)) (pss_one (ps_set (i := 5) scTL.nd rfl (.inl rfl) (pe_meth (pv 0) T.cs mD GD hr bD .nil pass0 (pa_cons (pv 4) pa_nil))))
      (pss_one (ps_if (PW.pt (pw_and (pt_cmpR (op_in_kd FA.d) (pv 3) (pe_glob (v := .ref aF) (by rfl) FA.g rfl) (by rfl)) (pw_and1 (pt_val (pe_call GF hr1 rfl gF kF bF .nil pass0 (pa_cons (pv 4) (pa_cons (pe_ix ix_kdict (pe_glob (v := .ref aF) (by rfl) FA.g rfl) (pv 3) (fun _ _ => rfl)) pa_nil)))))))
        (pss_one (ps_set (i := 5) scTL.nd rfl (.inl rfl) (pe_meth (pv 0) T.cs mT GT hr bT .nil pass0 (pa_cons (pv 3) (pa_cons (pv 4) pa_nil)))))
        (pss_one (ps_set (i := 5) scTL.nd rfl (.inl rfl) pe_bl)))))
    (pss_one (ps_ret (pv 5)))))), ?_⟩
  have hsl : tl (" " : Str) ≠ [] := by decide
  have hsk : (" " : Str).cps.all (· < 256) = true := by decide +kernel
  have hlens := split_lens line " " hsl hsk
  have hcnt := PyProof.Rows.split_le line " "
  obtain ⟨word, words, ew⟩ : ∃ word words, Txt.split line " " = word :: words := by
    cases e : Txt.split line " " with
    | nil => exact absurd e (split_ne line " " hsl hsk)
    | cons a b => exact ⟨a, b, rfl⟩
  rw [ew] at k1 k2 hlens hcnt
  rw [List.length_cons] at hcnt
  refine ⟨_, rfl, ⟨_, rfl⟩, line, _, rfl, rfl, rfl, (by rw [sizeLine_eq]; omega), fun l1 h1 => ?_⟩
  rw [ew]
  refine ⟨_, rfl, l1, _, _, V.str word, rfl, rfl, SqL.of upd_same, atI_nat (j := 0) rfl, ?_⟩
  refine ⟨_, rfl, 1, rfl, l1, _, rfl, SqL.of upd_same, fun a ha => ?_⟩
  rw [show cutV (List.map V.str (word :: words)) (some 1) none = words.map V.str from cut_drop1 _ _]
  have A1 := (A0.grow (Same.new (o := .lst ((word :: words).map V.str)) (Same.refl H) h1)).root (o := .lst (words.map V.str)) ha
  have ea0 : (upd H0 a (.lst (words.map V.str))) a = some (.lst (words.map V.str)) := upd_same
  have ha0 : H0 a = none := (A0.same.trans (Same.new (o := .lst ((word :: words).map V.str)) (Same.refl H) h1)).free ha
  have S0 : Same H0 (upd H0 a (.lst (words.map V.str))) := Same.new (Same.refl H0) ha0
  obtain ⟨d1, es1⟩ := A1.sh
  have hm : takeM M (word :: words) = if word = ("local" : Str) then declareM M words else match formsL.lookup word with
    | some form => if fitsM words form = true then takeRowM M word words form else none
    | none => none := rfl
  refine ⟨_, rfl, rfl, _, rfl, ite2 (fun c => ?_) fun c => ?_⟩
  · have hw : word = ("local" : Str) := V.str.inj (of_decide_eq_true c)
    rw [if_pos hw] at hm
    exact ⟨_, rfl, s, d1, _, rfl, es1, rfl, _, rfl, s, a, words, _, p, M, rfl, A1, O, ea0, by omega, fun x hx => Nat.le_trans (hlens x (List.mem_cons_of_mem _ hx)) (by omega), hrl,
      fun M' e p' H' A' => ⟨_, rfl, k1 M' (hm.trans e) _ _ (A'.back S0)⟩, fun e H' S => ⟨_, rfl, k2 (hm.trans e) _ (S0.trans S)⟩⟩
  rw [if_neg (fun z => c (decide_eq_true (by rw [z])))] at hm
  obtain ⟨r, er, hr_⟩ := FA.in_ word
  refine ⟨_, rfl, word, r, rfl, rfl, er, _, rfl, ?_⟩
  rw [hr_]
  cases ef : formsL.lookup word with
  | none =>
    rw [ef] at hm
    exact iteF ⟨_, rfl, k2 hm _ (S0.trans A1.same)⟩
  | some form =>
    rw [ef] at hm
    replace hm : takeM M (word :: words) = if fitsM words form = true then takeRowM M word words form else none := hm
    obtain ⟨tF, kd, sF⟩ := FA.at_ word form ef
    have hfl : form.length ≤ 100 := by
      have : form ∈ formsL.map (·.2) := by
        have h2 : ∀ (l : List (Str × List Str)), l.lookup word = some form → form ∈ l.map (·.2) := by
          intro l
          induction l with
          | nil => intro z; cases z
          | cons q r ih =>
            intro z
            obtain ⟨q1, q2⟩ := q
            rw [List.lookup_cons] at z
            split at z
            · rw [Option.some.inj z]; exact List.mem_cons_self
            · exact List.mem_cons_of_mem _ (ih z)
        exact h2 _ ef
      have hall : ∀ f ∈ formsL.map (·.2), f.length ≤ 100 := by decide
      exact hall form this
    refine iteT ⟨_, rfl, _, rfl, aF, word, _, rfl, rfl, kd, a, tF, words, form, rfl, upd_same, sF, by omega, by omega, fun H2 S2 => ⟨_, rfl, ?_⟩⟩
    have A2 := A1.grow S2
    obtain ⟨d2, es2⟩ := A2.sh
    cases eq : fitsM words form with
    | false =>
      rw [eq, if_neg Bool.false_ne_true] at hm
      exact iteF ⟨_, rfl, k2 hm _ (S0.trans A2.same)⟩
    | true =>
      rw [eq, if_pos rfl] at hm
      have hlen : words.length = form.length := by
        unfold fitsM at eq
        rw [Bool.and_eq_true] at eq
        exact of_decide_eq_true eq.1
      exact iteT ⟨_, rfl, s, d2, _, rfl, es2, rfl, _, rfl, _, rfl, s, a, word, words, form, _, p, M, rfl, A2, O, ea0, ef, hlen, by omega, hrl,
        fun M' e p' H' A' => ⟨_, rfl, k1 M' (hm.trans e) _ _ (A'.back S0)⟩, fun e H' S => ⟨_, rfl, k2 (hm.trans e) _ (S0.trans S)⟩⟩
end
end FP
set_option Elab.async false
set_option linter.all false
set_option maxRecDepth 100000
set_option maxHeartbeats 4000000
namespace FP
open PySem PySem.Spec PyProof.Rows L2
section
variable {P : Program} {w : World} {K : PySem.W.Frag} {mg : Str → Option Value} {base : Heap} {Cr Cs aT aP aO : Addr}
def spLand (Cr Cs : Addr) : Sp := fun vs H Q _ => ∃ (s : Addr) (n f k : Nat) (H0 : Hp) (p : Pt) (M : ShM), vs = [.ref s, .int (n : Nat)] ∧ ShAt Cr Cs H0 H s p M ∧ landM M.rows f n = some k ∧ Q (.int (k : Nat)) H
theorem scLA : FnScope ["self", "number"] ["self", "number"] (defScope mSheet_landing) := ⟨rfl, rfl, rfl, by decide +kernel, rfl, by decide +kernel, by decide +kernel⟩
theorem ok_land {f : Addr} {fd : FuncData} (F : Fun K "_landing" "Sheet._landing" mSheet_landing f fd) (T : ShTxt K mg Cr Cs) (C : Csts K mg aT aP aO) (B : Blt2 mg) : FnOk P w K mg base CX0 1 f fd ["self", "number"] (spLand Cr Cs) := by
  refine F.ok scLA (fun vs H Q E h => ?_) (fun cdv A outer s H vs Q E hr h => ?_)
  · obtain ⟨s, n, f, k, H0, p, M, rfl, _⟩ := h
    rfl
  obtain ⟨s, n, f, k, H0, p, M, rfl, A0, hk, q⟩ := h
  obtain ⟨dx, es⟩ := A0.sh
  have hlen : (p.ras.map V.ref).length = M.rows.length := by rw [List.length_map, A0.len]
  refine ⟨_, pss_cons (ps_while PassesOwn.never (PW.pt (pw_and (pt_cmpR op_lt (pv 1) (pe_callB call_len_seq (by rfl) B.len boot_len (pa_cons (pe_fld (pv 0) rfl) pa_nil)) (nomark _))
      (pw_and1 (pt_cmpR op_in_seq (pe_fld (pe_ix ix_list (pe_fld (pv 0) rfl) (pv 1) (fun _ _ => rfl)) rfl) (pe_glob (v := .ref aP) (by rfl) C.gP rfl) (by rfl)))))
      (pss_one (ps_set (i := 1) scLA.nd rfl (.inl rfl) (pe_fld (pe_ix ix_list (pe_fld (pv 0) rfl) (pv 1) (fun _ _ => rfl)) rfl))))
    (pss_one (ps_ret (pe_ifExp (pt_cmpR op_lt (pv 1) (pe_callB call_len_seq (by rfl) B.len boot_len (pa_cons (pe_fld (pv 0) rfl) pa_nil)) (nomark _)) (pv 1) pe_int))), ?_⟩
  refine ⟨fun m σ H' => H' = H ∧ ∃ n' : Nat, σ = [some (.ref s), some (.int (n' : Nat))] ∧ landM M.rows m n' = some k, ⟨f, rfl, n, rfl, hk⟩, ?_⟩
  rintro m σ H' ⟨rfl, n', rfl, hm⟩
  cases m with
  | zero => cases hm
  | succ m =>
    have e0 : landM M.rows (m + 1) n' = if n' < M.rows.length then (match M.rows[n']? with
      | some r => if passL.contains r.word = true then landM M.rows m r.after else some n'
      | none => none) else some 0 := rfl
    rw [e0] at hm
    refine ⟨_, rfl, _, rfl, s, Cs, dx, _, _, rfl, es, T.cs, T.sr, lkS1 p, p.R, _, rfl, .inl (SqL.of A0.R), _, _, rfl, rfl, _, rfl, ?_⟩
    rw [hlen]
    refine ite2 (fun c => ?_) fun c => ?_
    · have hn : n' < M.rows.length := by have := of_decide_eq_true c; omega
      rw [if_pos hn] at hm
      have em := List.getElem?_eq_getElem hn
      obtain ⟨r, dr, t, hr_, eat, er, et⟩ := A0.rowsAt em
      rw [em] at hm
      refine ⟨_, rfl, s, Cs, dx, _, _, rfl, es, T.cs, T.sr, lkS1 p, _, rfl, p.R, _, _, _, rfl, rfl, SqL.of A0.R, eat, r, Cr, dr, _, _, rfl, er, T.cr, T.rw_, lkR1 _ t, aP, _, rfl, .inr (C.sP H'), rfl, flat_strs _, _, rfl, ?_⟩
      rw [show (if false = true then !inV (V.str M.rows[n'].word) (passL.map V.str) else inV (V.str M.rows[n'].word) (passL.map V.str)) = passL.contains M.rows[n'].word from inV_strs _ passL]
      cases hc : passL.contains M.rows[n'].word with
      | true =>
        replace hm : (if passL.contains M.rows[n'].word = true then landM M.rows m M.rows[n'].after else some n') = some k := hm
        rw [if_pos hc] at hm
        refine iteT ⟨fun σ H2 => H2 = H' ∧ ∃ n' : Nat, σ = [some (.ref s), some (.int (n' : Nat))] ∧ landM M.rows m n' = some k, fun σ' H2 z => ⟨m, Nat.lt_succ_self _, z⟩, ?_⟩
        exact ⟨_, rfl, s, Cs, dx, _, _, rfl, es, T.cs, T.sr, lkS1 p, _, rfl, p.R, _, _, _, rfl, rfl, SqL.of A0.R, eat, r, Cr, dr, _, _, rfl, er, T.cr, T.ra, lkR3 _ t, rfl, _, rfl, hm⟩
      | false =>
        replace hm : (if passL.contains M.rows[n'].word = true then landM M.rows m M.rows[n'].after else some n') = some k := hm
        rw [if_neg (by rw [hc]; exact Bool.false_ne_true)] at hm
        refine iteF ?_
        refine ⟨_, rfl, _, rfl, s, Cs, dx, _, _, rfl, es, T.cs, T.sr, lkS1 p, p.R, _, rfl, .inl (SqL.of A0.R), _, _, rfl, rfl, _, rfl, ?_⟩
        rw [hlen, decide_eq_true (show (n' : Int) < (M.rows.length : Nat) by omega)]
        refine iteT ⟨_, rfl, ?_⟩
        rw [Option.some.inj hm]
        exact q
    · have hn : ¬ n' < M.rows.length := fun z => c (decide_eq_true (by omega))
      rw [if_neg hn] at hm
      refine ⟨_, rfl, _, rfl, s, Cs, dx, _, _, rfl, es, T.cs, T.sr, lkS1 p, p.R, _, rfl, .inl (SqL.of A0.R), _, _, rfl, rfl, _, rfl, ?_⟩
      rw [hlen, decide_eq_false (show ¬ (n' : Int) < (M.rows.length : Nat) by omega)]
      refine iteF ?_
      rw [← Option.some.inj hm] at q
      exact q
end
end FP
set_option Elab.async false
set_option linter.all false
set_option maxRecDepth 100000
set_option maxHeartbeats 4000000
namespace FP
open PySem PySem.Spec PyProof.Rows L2
section
variable {P : Program} {w : World} {K : PySem.W.Frag} {mg : Str → Option Value} {base : Heap} {Cr Cs aT aP aO : Addr}
def spWays (Cr Cs : Addr) : Sp := fun vs H Q _ => ∃ (s : Addr) (f : Nat) (rows' : List RowM) (H0 : Hp) (p : Pt) (M : ShM), vs = [.ref s] ∧ ShAt Cr Cs H0 H s p M ∧ waysM f M.rows.length 0 M.rows = some rows' ∧
  ∀ H', ShAt Cr Cs H0 H' s p ⟨rows', M.homes, M.around, M.nest⟩ → Q .non H'
theorem wayM_len {f i : Nat} {rows rows' : List RowM} (h : wayM f rows i = some rows') : rows'.length = rows.length := by
  unfold wayM at h
  split at h
  · split at h
    · rw [← Option.some.inj h]
    · cases e1 : landM rows f (‹RowM›).after with
      | none => rw [e1] at h; cases h
      | some a =>
        rw [e1] at h
        obtain ⟨o, _, e⟩ := Option.map_eq_some_iff.mp h
        rw [← e, List.length_set]
  · cases h
theorem scFW : FnScope ["self", "row"] ["self"] (defScope mSheet_find_ways) := ⟨rfl, rfl, rfl, by decide +kernel, rfl, by decide +kernel, by decide +kernel⟩
theorem ok_ways {f : Addr} {fd : FuncData} (F : Fun K "find_ways" "Sheet.find_ways" mSheet_find_ways f fd) (T : ShTxt K mg Cr Cs) (C : Csts K mg aT aP aO) (B : Blt2 mg) (DL : MDef P w K mg base Cs "_landing" 1 ["self", "number"] (spLand Cr Cs)) :
    FnOk P w K mg base CX0 2 f fd ["self"] (spWays Cr Cs) := by
  obtain ⟨fL, fdL, mL, bL, GL⟩ := DL.ex
  refine F.ok scFW (fun vs H Q E h => ?_) (fun cdv A outer s H vs Q E hr h => ?_)
  · obtain ⟨s, f, rows', H0, p, M, rfl, _⟩ := h
    rfl
  obtain ⟨s, fu, rows', H0, p, M, rfl, A0, hw, q⟩ := h
  obtain ⟨dx, es⟩ := A0.sh
  refine ⟨_, pss_one (ps_for PassesOwn.never rfl (pi_list (pe_callTy call_list_of (by rfl) B.list (by decide +kernel) (pa_cons (pe_fld (pv 0) rfl) pa_nil))) (pg_name (i := 1) scFW.nd rfl (Or.inl rfl))
    (pss_one (ps_if (pt_cmpR op_notIn_seq (pe_fld (pv 1) rfl) (pe_glob (v := .ref aP) (by rfl) C.gP rfl) (by rfl))
      (pss_cons (ps_fld (pv 1) (pe_meth (pv 0) T.cs mL GL hr bL .nil pass0 (pa_cons (pe_fld (pv 1) rfl) pa_nil)) rfl) (pss_one (ps_fld (pv 1) (pe_meth (pv 0) T.cs mL GL hr bL .nil pass0 (pa_cons (pe_fld (pv 1) rfl) pa_nil)) rfl))) pss_nil))), ?_⟩
  refine ⟨_, rfl, s, Cs, dx, _, _, rfl, es, T.cs, T.sr, lkS1 p, p.R, _, rfl, .inl (SqL.of A0.R), fun D hD => ?_⟩
  have S0 : Same H0 (upd H0 D (.lst (p.ras.map V.ref))) := Same.new (Same.refl H0) (A0.same.free hD)
  have eD0 : (upd H0 D (.lst (p.ras.map V.ref))) D = some (.lst (p.ras.map V.ref)) := upd_same
  have A1 := A0.root (o := .lst (p.ras.map V.ref)) hD
  generalize upd H0 D (.lst (p.ras.map V.ref)) = HD at S0 eD0 A1
  refine ⟨D, rfl, ⟨_, SqL.of upd_same⟩, for_it (walk_list (xs := p.ras.map V.ref)) (fun i σ H' => ∃ rows, (∃ z, σ = [some (.ref s), z]) ∧ rows.length = M.rows.length ∧ ShAt Cr Cs HD H' s p ⟨rows, M.homes, M.around, M.nest⟩ ∧ waysM fu (M.rows.length - i) i rows = some rows')
    ⟨M.rows, ⟨none, rfl⟩, rfl, A1, hw⟩ (fun i σ H' _ z => ?_) ?_ ?_⟩
  · obtain ⟨rows, _, _, A2, _⟩ := z
    exact SqL.of (A2.same _ _ eD0)
  · rintro i x σ H' H'' hi ⟨rows, ⟨z, rfl⟩, hl, A2, hw2⟩ ⟨rfl, hxi⟩
    rw [List.length_map, A0.len] at hi
    obtain ⟨m, em⟩ : ∃ m, rows[i]? = some m := ⟨_, List.getElem?_eq_getElem (by rw [hl]; exact hi)⟩
    obtain ⟨r, dr, t, hr_, _, er, et⟩ := A2.rowsAt (M := ⟨rows, M.homes, M.around, M.nest⟩) em
    rw [List.getElem?_map, hr_] at hxi
    obtain rfl : V.ref r = x := Option.some.inj hxi
    rw [show M.rows.length - i = (M.rows.length - (i + 1)) + 1 by omega] at hw2
    have hw3 : (wayM fu rows i).bind (fun r => waysM fu (M.rows.length - (i + 1)) (i + 1) r) = some rows' := hw2
    have hway : wayM fu rows i = if passL.contains m.word = true then some rows else (landM rows fu m.after).bind fun a => (landM (rows.set i { m with after := a }) fu m.other).map fun o => rows.set i { m with after := a, other := o } := by
      unfold wayM
      rw [em]
    refine ⟨_, rfl, r, Cr, dr, _, _, rfl, er, T.cr, T.rw_, lkR1 m t, aP, _, rfl, .inr (C.sP _), rfl, flat_strs _, _, rfl, ?_⟩
    rw [show (if true = true then !inV (V.str m.word) (passL.map V.str) else inV (V.str m.word) (passL.map V.str)) = !passL.contains m.word from congrArg (!·) (inV_strs m.word passL)]
    cases hc : passL.contains m.word with
    | true =>
      rw [hway, if_pos hc] at hw3
      exact iteF ⟨rows, ⟨_, rfl⟩, hl, A2, hw3⟩
    | false =>
      rw [hway, if_neg (by rw [hc]; exact Bool.false_ne_true)] at hw3
      cases e1 : landM rows fu m.after with
      | none => rw [e1] at hw3; cases hw3
      | some a =>
        rw [e1] at hw3
        cases e2 : landM (rows.set i { m with after := a }) fu m.other with
        | none =>
          replace hw3 : ((landM (rows.set i { m with after := a }) fu m.other).map fun o => rows.set i { m with after := a, other := o }).bind (fun r => waysM fu (M.rows.length - (i + 1)) (i + 1) r) = some rows' := hw3
          rw [e2] at hw3
          cases hw3
        | some o =>
          replace hw3 : ((landM (rows.set i { m with after := a }) fu m.other).map fun o => rows.set i { m with after := a, other := o }).bind (fun r => waysM fu (M.rows.length - (i + 1)) (i + 1) r) = some rows' := hw3
          rw [e2] at hw3
          replace hw3 : waysM fu (M.rows.length - (i + 1)) (i + 1) (rows.set i { m with after := a, other := o }) = some rows' := hw3
          obtain ⟨d2, es2⟩ := A2.sh
          refine iteT ⟨_, rfl, s, d2, _, rfl, es2, rfl, _, rfl, r, Cr, dr, _, _, rfl, er, T.cr, T.ra, lkR3 m t, s, m.after, fu, a, HD, p, _, rfl, A2, e1, ?_⟩
          refine ⟨_, rfl, r, Cr, dr, _, rfl, er, T.cr, T.ra, (by show 4 < 1000; decide), ?_⟩
          have A3 := A2.setRow (m' := { m with after := a }) hr_ em er et rfl
          rw [show putF "after" (V.int (a : Nat)) (rowF m t) = rowF { m with after := a } t from rfl]
          obtain ⟨d3, es3⟩ := A3.sh
          refine ⟨_, rfl, s, d3, _, rfl, es3, rfl, _, rfl, r, Cr, dr, _, _, rfl, upd_same, T.cr, T.ro, lkR4 _ t, s, m.other, fu, o, HD, p, _, rfl, A3, e2, ?_⟩
          refine ⟨_, rfl, r, Cr, dr, _, rfl, upd_same, T.cr, T.ro, (by show 4 < 1000; decide), ?_⟩
          have hil : i < rows.length := by rw [hl]; exact hi
          have A4 := A3.setRow (m' := { m with after := a, other := o }) hr_ (List.getElem?_set_self hil) upd_same ((upd_ne (ne_of et er (by intro z; cases z))).trans et) rfl
          rw [show putF "other" (V.int (o : Nat)) (rowF { m with after := a } t) = rowF { m with after := a, other := o } t from rfl]
          refine ⟨rows.set i { m with after := a, other := o }, ⟨_, rfl⟩, by rw [List.length_set]; exact hl, ?_, hw3⟩
          replace A4 := A4
          rw [show (⟨(rows.set i { m with after := a }).set i { m with after := a, other := o }, M.homes, M.around, M.nest⟩ : ShM) = ⟨rows.set i { m with after := a, other := o }, M.homes, M.around, M.nest⟩ by rw [List.set_set]] at A4
          exact A4
  · rintro σ H' ⟨rows, ⟨z, rfl⟩, hl, A2, hw2⟩
    rw [List.length_map, A0.len, Nat.sub_self] at hw2
    have e : rows = rows' := Option.some.inj hw2
    rw [← e] at q
    exact q _ (A2.back S0)
end
end FP
set_option Elab.async false
set_option linter.all false
set_option maxRecDepth 100000
set_option maxHeartbeats 4000000
namespace FP
open PySem PySem.Spec PyProof.Rows L2 TL
section
variable {P : Program} {w : World} {K : PySem.W.Frag} {mg : Str → Option Value} {base : Heap} {Cr Cs aT aP aO : Addr}
def spSheet (Cr Cs : Addr) : Sp := fun vs H Q _ => ∃ (x dx : Addr) (H0 : Hp), vs = [.ref x] ∧ H x = some (.ins Cs dx []) ∧ Same H0 H ∧ H0 x = none ∧ ∀ p H', ShAt Cr Cs H0 H' x p ShM.new → Q .non H'
theorem scSI : FnScope ["self"] ["self"] (defScope mSheet_init) := ⟨rfl, rfl, rfl, by decide +kernel, rfl, by decide +kernel, by decide +kernel⟩
theorem ok_sheetInit {f : Addr} {fd : FuncData} (F : Fun K "__init__" "Sheet.__init__" mSheet_init f fd) (T : ShTxt K mg Cr Cs) (DR : CDef P w K mg base Cr 1 ["self", "word", "names", "number"] (spRow Cr)) : FnOk P w K mg base CX0 3 f fd ["self"] (spSheet Cr Cs) := by
  obtain ⟨fR, fdR, mR, bR, GR⟩ := DR.ex
  refine F.ok scSI (fun vs H Q E h => ?_) (fun cdv A outer s H vs Q E hr h => ?_)
  · obtain ⟨x, dx, H0, rfl, _⟩ := h
    rfl
  obtain ⟨x, dx, H0, rfl, hx, S0, hx0, q⟩ := h
  refine ⟨_, pss_cons (ps_fld (pv 0) (pe_lst (pa_cons (pe_make mR GR hr rfl T.gr bR .nil pass0 (pa_cons pe_str (pa_cons (pe_tup pa_nil) (pa_cons pe_int pa_nil)))) pa_nil)) rfl) (pss_cons (ps_fld (pv 0) pe_dnewK rfl) (pss_cons (ps_fld (pv 0) pe_dnewK rfl) (pss_one (ps_fld (pv 0) (pe_lst (pa_cons pe_int pa_nil)) rfl)))), ?_⟩
  refine ⟨Nat.zero_le _, fun t ht => ?_⟩
  refine fun r dr nr nd ne => ⟨r, dr, t, _, 0, rfl, upd_same, fun H3 e1 e2 => ⟨rfl, ?_⟩⟩
  obtain ⟨S3, new⟩ := row_made (names := []) (wd := "") (k := 0) (Same.new (o := .tup []) (Same.refl H) ht) upd_same nr nd e1 e2
  have nrH : H r = none := (Same.new (o := .tup []) (Same.refl H) ht).free nr
  have hx3 := S3 _ _ hx
  refine ⟨by rw [sizeLine_eq]; show 1 ≤ 16777216; decide, fun R hR => ⟨_, rfl, x, Cs, dx, [], rfl, (upd_ne (ne_of_none hx3 hR)).trans hx3, T.cs, T.sr, (by show 0 < 1000; decide), fun h hh => ?_⟩⟩
  have nRx : R ≠ x := (ne_of_none hx3 hR).symm
  have hh1 : h ≠ x := fun z => by rw [z, upd_same] at hh; cases hh
  rw [upd_ne hh1] at hh
  have hhR : h ≠ R := fun z => by rw [z, upd_same] at hh; cases hh
  rw [upd_ne hhR] at hh
  refine ⟨_, rfl, x, Cs, dx, _, rfl, (upd_ne hh1.symm).trans upd_same, T.cs, T.sh, (by show 1 < 1000; decide), fun ar ha => ?_⟩
  have ha1 : ar ≠ x := fun z => by rw [z, upd_same] at ha; cases ha
  rw [upd_ne ha1] at ha
  have hah : ar ≠ h := fun z => by rw [z, upd_same] at ha; cases ha
  rw [upd_ne hah, upd_ne ha1] at ha
  have haR : ar ≠ R := fun z => by rw [z, upd_same] at ha; cases ha
  rw [upd_ne haR] at ha
  refine ⟨_, rfl, x, Cs, dx, _, rfl, (upd_ne ha1.symm).trans upd_same, T.cs, T.sa, (by show 2 < 1000; decide), by rw [sizeLine_eq]; show 1 ≤ 16777216; decide, fun n hn => ?_⟩
  have hn1 : n ≠ x := fun z => by rw [z, upd_same] at hn; cases hn
  rw [upd_ne hn1] at hn
  have hna : n ≠ ar := fun z => by rw [z, upd_same] at hn; cases hn
  rw [upd_ne hna, upd_ne hn1] at hn
  have hnh : n ≠ h := fun z => by rw [z, upd_same] at hn; cases hn
  rw [upd_ne hnh, upd_ne hn1] at hn
  have hnR : n ≠ R := fun z => by rw [z, upd_same] at hn; cases hn
  rw [upd_ne hnR] at hn
  refine ⟨_, rfl, x, Cs, dx, _, rfl, (upd_ne hn1.symm).trans upd_same, T.cs, T.sn, (by show 3 < 1000; decide), ?_⟩
  obtain ⟨d9, t9, er9, et9⟩ := new
  have keep : ∀ {b : Addr} {u : HO}, H3 b = some u → b ≠ x → (upd (upd (upd (upd (upd (upd (upd (upd H3 R (.lst [.ref r])) x (.ins Cs dx (putF "rows" (.ref R) []))) h (.dK [])) x (.ins Cs dx (putF "homes" (.ref h) (putF "rows" (.ref R) [])))) ar (.dK [])) x (.ins Cs dx (putF "around" (.ref ar) (putF "homes" (.ref h) (putF "rows" (.ref R) []))))) n (.lst [.int 0])) x (.ins Cs dx (putF "_nest" (.ref n) (putF "around" (.ref ar) (putF "homes" (.ref h) (putF "rows" (.ref R) [])))))) b = some u := fun e nx => by
    rw [upd_ne nx, upd_ne (ne_of_none e hn), upd_ne nx, upd_ne (ne_of_none e ha), upd_ne nx, upd_ne (ne_of_none e hh), upd_ne nx, upd_ne (ne_of_none e hR)]
    exact e
  have S03 : Same H0 H3 := S0.trans S3
  have nrx : r ≠ x := fun z => by rw [z, hx] at nrH; cases nrH
  have t9x : t9 ≠ x := ne_of et9 hx3 (by intro z; cases z)
  refine q ⟨R, h, ar, n, [r]⟩ _ ⟨⟨dx, upd_same⟩, ?_, ?_, ?_, ?_, rfl, ?_, by simp, hnR.symm, hah.symm, ?_, S03.free hR, S03.free hh, S03.free ha, S03.free hn, ?_, fun b u e => keep (S03 _ _ e) (ne_of_none e hx0)⟩
  · show _ = some (HO.lst [.ref r])
    rw [upd_ne nRx, upd_ne hnR.symm, upd_ne nRx, upd_ne haR.symm, upd_ne nRx, upd_ne hhR.symm, upd_ne nRx, upd_same]
  · show _ = some (HO.dK [])
    rw [upd_ne hh1, upd_ne hnh.symm, upd_ne hh1, upd_ne hah.symm, upd_ne hh1, upd_same]
  · show _ = some (HO.dK [])
    rw [upd_ne ha1, upd_ne hna.symm, upd_ne ha1, upd_same]
  · show _ = some (HO.lst [.int 0])
    rw [upd_ne hn1, upd_same]
  · intro i r' m' h1 h2
    cases i with
    | zero =>
      cases h1
      cases h2
      exact ⟨d9, t9, keep er9 nrx, keep et9 t9x⟩
    | succ i => cases h1
  · intro z
    exact nrx (List.mem_singleton.mp z).symm
  · intro b hb
    rw [List.mem_singleton.mp hb]
    exact S0.free nrH
end
end FP
set_option Elab.async false
set_option linter.all false
set_option maxRecDepth 100000
set_option maxHeartbeats 4000000
namespace FP
open PySem PySem.Spec PyProof.Rows L2 TL
theorem readLines_snoc : ∀ (xs : List (List Str)) (M : ShM) (l : List Str), readLines M (xs ++ [l]) = (readLines M xs).bind fun M1 => takeM M1 l
  | [], M, l => by
    show (takeM M l).bind (fun M1 => readLines M1 []) = takeM M l
    cases takeM M l <;> rfl
  | y :: r, M, l => by
    show (takeM M y).bind (fun M1 => readLines M1 (r ++ [l])) = ((takeM M y).bind fun M1 => readLines M1 r).bind fun M1 => takeM M1 l
    cases takeM M y with
    | none => rfl
    | some h => exact readLines_snoc r h l
theorem readLines_stop : ∀ (xs : List (List Str)) (M : ShM) (i : Nat), readLines M (xs.take i) = none → readLines M xs = none
  | [], _, i, h => by rw [List.take_nil] at h; exact h
  | _ :: _, M, 0, h => by cases h
  | y :: r, M, i + 1, h => by
    show (takeM M y).bind (fun h => readLines h r) = none
    have h' : (takeM M y).bind (fun h => readLines h (r.take i)) = none := h
    cases e : takeM M y with
    | none => rfl
    | some g =>
      rw [e] at h'
      exact readLines_stop r g i h'
theorem readLines_step {xs : List (List Str)} {M M' : ShM} (h : readLines M xs = some M') {i : Nat} (hi : i < xs.length) : ∃ Mi Mj, readLines M (xs.take i) = some Mi ∧ takeM Mi xs[i] = some Mj ∧ readLines M (xs.take (i + 1)) = some Mj := by
  have e : xs.take (i + 1) = xs.take i ++ [xs[i]] := by rw [List.take_add_one, List.getElem?_eq_getElem hi]; rfl
  cases e1 : readLines M (xs.take i) with
  | none => rw [readLines_stop xs M i e1] at h; cases h
  | some Mi =>
    cases e2 : readLines M (xs.take (i + 1)) with
    | none => rw [readLines_stop xs M (i + 1) e2] at h; cases h
    | some Mj =>
      refine ⟨Mi, Mj, rfl, ?_, rfl⟩
      rw [e, readLines_snoc, e1] at e2
      exact e2
theorem lines_lens (x : Str) : ∀ l ∈ linesM x, l.length ≤ x.length := by
  unfold linesM
  split
  · intro l hl; cases hl
  · exact split_lens x "\n" (by decide) (by decide +kernel)
theorem lines_cnt (x : Str) : (linesM x).length ≤ x.length + 2 := by
  unfold linesM
  split
  · simp
  · exact PyProof.Rows.split_le x "\n"
section
variable {P : Program} {w : World} {K : PySem.W.Frag} {mg : Str → Option Value} {base : Heap} {Cr Cs aT aP aO : Addr}
def spRead (Cr Cs : Addr) : Sp := fun vs H Q _ => ∃ (x : Str) (m : Nat) (M : ShM), vs = [.str x, .int (m : Nat)] ∧ x.length ≤ 80000 ∧ readM x m = some M ∧ ∀ s p H', ShAt Cr Cs H H' s p M → Q (.ref s) H'
abbrev nRS : List Str := ["text", "most", "sheet", "lines", "number", "line"]
theorem scRS : FnScope nRS ["text", "most"] (defScope sRead) := ⟨rfl, rfl, rfl, by decide +kernel, rfl, by decide +kernel, by decide +kernel⟩
theorem ok_read {f : Addr} {fd : FuncData} (F : Fun K "read_sheet" "read_sheet" sRead f fd) (T : ShTxt K mg Cr Cs) (B : Blt2 mg) (DI : CDef P w K mg base Cs 3 ["self"] (spSheet Cr Cs)) (DL : Def P w K mg base "lines_of" 1 ["text"] spLines)
    (DT : MDef P w K mg base Cs "take_line" 4 ["self", "line"] (spTakeLine Cr Cs)) (DC : MDef P w K mg base Cs "is_closed" 1 ["self"] (spClosed Cr Cs)) (DW : MDef P w K mg base Cs "find_ways" 2 ["self"] (spWays Cr Cs)) :
    FnOk P w K mg base CX0 5 f fd ["text", "most"] (spRead Cr Cs) := by
  obtain ⟨fI, fdI, mI, bI, GI⟩ := DI.ex
  obtain ⟨fL, fdL, gL, kL, bL, GL⟩ := DL.ex
  obtain ⟨fT, fdT, mT, bT, GT⟩ := DT.ex
  obtain ⟨fC, fdC, mC, bC, GC⟩ := DC.ex
  obtain ⟨fW, fdW, mW, bW, GW⟩ := DW.ex
  refine F.ok scRS (fun vs H Q E h => ?_) (fun cdv A outer s H vs Q E hr h => ?_)
  · obtain ⟨x, m, M, rfl, _⟩ := h
    rfl
  obtain ⟨x, m, M, rfl, hx, hread, q⟩ := h
  have hr1 := hr.mono (show 1 ≤ 4 by decide)
  have hr2 := hr.mono (show 2 ≤ 4 by decide)
  refine ⟨_, pss_cons (ps_set (i := 2) scRS.nd rfl (.inl rfl) (pe_make0 mI GI hr rfl T.gs bI .nil pass0))
    (pss_cons (ps_set (i := 3) scRS.nd rfl (.inl rfl) (pe_call GL hr1 rfl gL kL bL .nil pass0 (pa_cons (pv 0) pa_nil)))
    (pss_cons (ps_for PassesOwn.never rfl (pi_enumS true (by rfl) B.enum (pa_cons (pv 3) pa_nil) (pk_cons pe_int pk_nil)) (pg_tup (by rfl) (pgs_cons (pg_name (i := 4) scRS.nd rfl (Or.inl rfl)) (pgs_cons (pg_name (i := 5) scRS.nd rfl (Or.inl rfl)) pgs_nil)))
      (pss_one (ps_if (PW.pt (pw_or (pt_cmpR op_gt (pv 4) (pv 1) (nomark _)) (pw_or1 (pt_not (pt_val (pe_meth (pv 2) T.cs mT GT hr bT .nil pass0 (pa_cons (pv 5) pa_nil))))))) (pss_one ps_never) pss_nil)))
    (pss_cons (ps_if (pt_not (pt_val (pe_meth0 (pv 2) T.cs mC GC hr1 bC .nil pass0))) (pss_one ps_never) pss_nil)
    (pss_cons (ps_expr (pe_meth0 (pv 2) T.cs mW GW hr2 bW .nil pass0))
    (pss_one (ps_ret (pv 2))))))), ?_⟩
  -- what the mirror says
  unfold readM at hread
  by_cases hml : (linesM x).length ≤ m
  case neg => rw [if_neg hml] at hread; cases hread
  rw [if_pos hml] at hread
  obtain ⟨M1, hM1, hread⟩ := Option.bind_eq_some_iff.mp hread
  by_cases hn1 : M1.nest.length = 1
  case neg => rw [if_neg hn1] at hread; cases hread
  rw [if_pos hn1] at hread
  obtain ⟨rows', hrows, hread⟩ := Option.map_eq_some_iff.mp hread
  have hcnt := lines_cnt x
  have hlens := lines_lens x
  refine fun s dx ns nd ne => ⟨s, dx, H, rfl, upd_same, (Same.new (Same.new (Same.refl H) nd) ((upd_ne ne.symm).trans ns)), ns, fun p H1 A1 => ⟨rfl, ?_⟩⟩
  refine ⟨_, rfl, x, rfl, by omega, fun l H2 hl S2 el => ?_⟩
  have A2 := A1.grow S2
  have nl : H l = none := A1.same.free hl
  -- the lines' list belongs to the beginning
  have A3 : ShAt Cr Cs (upd H l (.lst ((linesM x).map V.str))) H2 s p ShM.new := by
    have B := A1.root (o := .lst ((linesM x).map V.str)) hl
    refine B.grow fun b u e => ?_
    by_cases z : b = l
    · rw [z, upd_same] at e
      rw [z, el]
      exact e
    · rw [upd_ne z] at e
      exact S2 _ _ e
  have S0 : Same H (upd H l (.lst ((linesM x).map V.str))) := Same.new (Same.refl H) nl
  have eD0 : (upd H l (.lst ((linesM x).map V.str))) l = some (.lst ((linesM x).map V.str)) := upd_same
  generalize upd H l (.lst ((linesM x).map V.str)) = HD at A3 S0 eD0
  refine ⟨_, rfl, l, _, 1, rfl, rfl, by decide, by decide, SqL.of el, for_it (walk_enumB (xs := (linesM x).map V.str)) (fun i σ H' => ∃ p Mi, (∃ z z2, σ = [some (.str x), some (.int (m : Nat)), some (.ref s), some (.ref l), z, z2]) ∧ readLines ShM.new (((linesM x).map fun l => Txt.split l " ").take i) = some Mi ∧ Ok Mi ∧ Mi.rows.length = i + 1 ∧ ShAt Cr Cs HD H' s p Mi)
    ⟨p, ShM.new, ⟨none, none, rfl⟩, rfl, ok_new, rfl, A3⟩ (fun i σ H' _ z => ?_) ?_ ?_⟩
  · obtain ⟨p, Mi, _, _, _, _, A4⟩ := z
    exact SqL.of (A4.same _ _ eD0)
  · rintro i v σ H' H'' hi ⟨p, Mi, ⟨z, z2, rfl⟩, hMi, Oi, hli, A4⟩ ⟨T', a, b, rfl, hT, rfl, ha, hb⟩
    rw [List.length_map] at hi
    obtain rfl : V.int (1 + (i : Nat)) = a := Option.some.inj ha
    replace hb : ((linesM x).map V.str)[i]? = some b := hb
    rw [List.getElem?_map, List.getElem?_eq_getElem hi] at hb
    obtain rfl : V.str (linesM x)[i] = b := Option.some.inj hb
    have A5 := A4.grow (Same.new (o := .tup [.int (1 + (i : Nat)), .str (linesM x)[i]]) (Same.refl H') hT)
    obtain ⟨Mi', Mj, h1, h2, h3⟩ := readLines_step hM1 (i := i) (by rw [List.length_map]; exact hi)
    rw [hMi] at h1
    obtain rfl := Option.some.inj h1
    rw [List.getElem_map] at h2
    obtain ⟨Oj, hlj⟩ := Oi.take h2
    obtain ⟨d5, es5⟩ := A5.sh
    refine ⟨T', _, rfl, SqT.of upd_same, rfl, _, _, rfl, _, _, rfl, rfl, ?_⟩
    refine ⟨_, rfl, _, rfl, _, _, rfl, rfl, _, rfl, ?_⟩
    rw [decide_eq_false (show ¬ ((m : Nat) : Int) < 1 + (i : Nat) by omega)]
    refine iteF ⟨_, rfl, s, d5, _, rfl, es5, rfl, _, rfl, s, (linesM x)[i], HD, p, Mi, rfl, A5, Oi, ?_, by omega, fun M' e p' H3 A6 => ⟨_, rfl, iteF ?_⟩, fun e => ?_⟩
    · have := hlens _ (List.getElem_mem hi)
      omega
    · rw [h2] at e
      obtain rfl := Option.some.inj e
      exact ⟨p', Mj, ⟨_, _, rfl⟩, h3, Oj, by omega, A6⟩
    · rw [h2] at e; cases e
  · rintro σ H' ⟨p, Mi, ⟨z, z2, rfl⟩, hMi, Oi, hli, A4⟩
    rw [List.length_map] at hMi
    rw [List.take_of_length_le (by rw [List.length_map]; exact Nat.le_refl _), hM1] at hMi
    obtain rfl := Option.some.inj hMi
    obtain ⟨d4, es4⟩ := A4.sh
    refine ⟨_, rfl, s, d4, _, rfl, es4, rfl, s, HD, p, M1, rfl, A4, _, rfl, ?_⟩
    rw [decide_eq_true hn1]
    refine iteF ⟨_, rfl, s, d4, _, rfl, es4, rfl, s, 100, rows', HD, p, M1, rfl, A4, hrows, fun H5 A5 => ⟨_, rfl, ?_⟩⟩
    rw [← hread] at q
    exact q s p _ (A5.back S0)
end
end FP
set_option Elab.async false
set_option linter.all false
set_option maxRecDepth 100000
set_option maxHeartbeats 4000000
/-! repr of data where nothing else is being shown; a law's def that knows what runs around it. -/
namespace FP
open PySem PySem.Spec PyProof.Rows L2 NdefX TL
def rReprD (K : W.Frag) : List V → Hp → VK → Prop := fun xs H Q => ∃ (a : Addr) (d : PyData), xs = [.ref a] ∧ Dp K H (.ref a) d ∧ d.showable = true ∧ d.hasDict = false ∧ d.depth ≤ 5 ∧ d.shown.length ≤ sizeLine ∧ Q (.str d.shown) H
theorem call_reprD {X : Cx} (hg : X.A.guards = some []) (hu : X.A.units + 64 < cLine) : CallR X (.builtin "repr") (rReprD X.K) := by
  intro pins s σ H xs us Q I r h
  obtain ⟨a, d, rfl, hd, hs, hnd, hdep, hz, q⟩ := h
  obtain ⟨u, rfl, ru⟩ := vals1 r
  obtain ⟨as, rd⟩ := Dp.reads I d (.ref a) u hd ru
  have ru : u = Value.ref a := ru
  subst ru
  exact repr_of_reads' rd hs (fun z => by rw [hnd] at z; cases z) hg (by omega) (fun _ _ e => e) (fun h' u tk k => ⟨.str d.shown, H, I.kept (t' := tk) k, ⟨u, rfl⟩, q⟩) hz
theorem pe_reprD {X : Cx} {e : Expr} {te : TE} {p pos : Pos} (hg : X.A.guards = some []) (hu : X.A.units + 64 < cLine) (hgl : Gl X "repr" := by rfl) (hm : X.mg "repr" = none) (he : PE X e te) (h1 : starEach [e] X.env = (false, eval e X.env) :: starEach [] X.env := by rfl) :
    PE X (.Call (.Name "repr" p) [e] [] pos) (tCB (rReprD X.K) (tCons te tNil)) :=
  pe_callB (call_reprD hg hu) hgl hm (by decide +kernel) (pa_cons he pa_nil h1) (by decide) (by decide) h1 (by rfl)
/-- a repr of an int -/
def rReprI : List V → Hp → VK → Prop := fun xs H Q => ∃ i, xs = [.int i] ∧ i.natAbs.log2 < 1920 ∧ Q (.str (toString i)) H
theorem call_reprI {X : Cx} : CallR X (.builtin "repr") rReprI := by
  intro pins s σ H xs us Q I r h
  obtain ⟨i, rfl, hz, q⟩ := h
  obtain ⟨u, rfl, t, rfl⟩ := vals1 r
  exact PySem.P.repr_of_int hz ⟨.str _, H, I.tok _, ⟨_, rfl⟩, q⟩
/-- a law's def, called with nothing being shown around -/
structure LawOk (P : Program) (w : World) (K : W.Frag) (mg : Str → Option Value) (base : Heap) (k : Nat) (f : Addr) (fd : FuncData) (x : Str) (sp : Sp) : Prop where
  len : ∀ vs H Q E, sp vs H Q E → vs.length = 1
  run : ∀ (A : Around) (outer : List Env) (s : Shared) (H : Hp) (u : Value) (v : V) (Q : VK) (E : XK), A.guards = some [] → Room k A → Env0 P w K mg base A outer s H → BindsTo s fd ⟨[u], []⟩ [(x, u)] → RelV v u → sp [v] H Q E →
    codeAny (model P w) A (.call (.ref f) ⟨[u], []⟩) (CR CX0 outer P w H s Q E) s
/-- the words of a plain def -/
abbrev plF (name qual : Str) (params : Arguments) (body : List Stmt) (scope : Scope) (cda : Addr) : NF := ⟨name, qual, params, body, scope, [], cda⟩
theorem law_fn {P : Program} {w : World} {K : W.Frag} {mg : Str → Option Value} {base : Heap} {k : Nat} {f cda : Addr} {name qual x : Str} {params : Arguments} {body : List Stmt} {scope : Scope} {N : List Str} {sp : Sp} {dV kV doc pm ct oc : Value} {an od : Option Addr} {osl : Array (Option Value)}
    (lk : K.lookup f = some ⟨oc, od, .func (W.fnOf name qual params body scope dV kV doc pm an (.ref cda) ct), osl⟩) (hcd : W.codeIn K (.ref cda) qual = true) (S : NScope N [x] [] scope) (len : ∀ vs H Q E, sp vs H Q E → vs.length = 1)
    (hbody : ∀ (A : Around) (outer : List Env) (s : Shared) (H : Hp) (vs : List V) (Q : VK) (E : XK), A.guards = some [] → Room k (A.deeper (envF (plF name qual params body scope cda) f s.heap.objs.size)) → sp vs H Q E →
      ∃ t, PSs (ncx CX0 P w K mg base N (plF name qual params body scope cda) f A outer s H E).nox body t ∧ t { nx := fun _ H' => Q .non H', rt := Q } (startF N vs []) H) :
    LawOk P w K mg base (k + 1) f (W.fnOf name qual params body scope dV kV doc pm an (.ref cda) ct) x sp := by
  refine ⟨len, fun A outer s H u v Q E hg hr e0 hb rv hsp => ?_⟩
  have KX : K.In s.heap := fun b o e => (e0.bs b o (e0.mod.kin b o e)).1
  have lim : s.heap.NoLimit := e0.mod.nolimit.keeps fun b o e => (e0.bs b o e).1
  have cells : CellsAt ([] : List (Str × Addr)) [] [] s.heap H := ⟨rfl, fun y c z => by simp [List.lookup] at z, fun x y c z _ => by simp [List.lookup] at z, fun i y z => by simp at z⟩
  refine ks_codeAny_call_defAt hr.depth (KX _ _ lk) rfl lim (W.codeRec_of KX hcd) rfl hb S.nocell (fun y hy => ?_) (fun h₁ hns kp => ?_) S.co S.gen S.kind
  · rw [List.mem_singleton] at hy
    rw [hy]
    exact S.par x List.mem_cons_self
  obtain ⟨t, ht, hq⟩ := hbody A outer s H [v] Q E hg (hr.deeper _) hsp
  have I := inv_startN (CX := CX0) (P := P) (w := w) (K := K) (mg := mg) (base := base) (F := plF name qual params body scope cda) (f := f) (outer := outer) (E := E) (tk := s.toks + [(x, u)].length) (us := [u]) S hr.hd e0 rfl (.cons rv .nil) cells hns kp
  refine ks_wpAt_mono (wpAt_of_wpAny (ht.nox.run [] _ _ H _ I hq)) (fun fl s' hs => ?_) fun e s' hs => hs
  have fin : ∀ {σ' : L2.St} {H' : Hp} {v : V} {u : Value}, Inv (ncx CX0 P w K mg base N (plF name qual params body scope cda) f A outer s H E) [] σ' H' s' → L2.RelV v u → Q v H' → CE outer P w H s Q u s' :=
    fun {σ' H' v u} J rv q => ⟨v, H', J.os, J.bare, J.base, J.hok, rv, q⟩
  cases fl with
  | ret u => obtain ⟨v, σ', H', J, rv, q⟩ := hs; exact fin J rv q
  | next => obtain ⟨σ', H', J, q⟩ := hs; exact fin (v := V.non) (u := Value.none) J rfl q
  | brk => exact False.elim hs.choose_spec.choose_spec.2
  | cont => exact False.elim hs.choose_spec.choose_spec.2
end FP
set_option Elab.async false
set_option linter.all false
set_option maxRecDepth 100000
set_option maxHeartbeats 4000000
namespace FP
open PySem PySem.Spec PyProof.Rows L2 NdefX
section
variable {P : Program} {w : World} {K : W.Frag} {mg mb : Str → Option Value} {k : Nat} {fa a : Addr} {fd : FuncData} {x : Str} {sp : Sp} {s₁ : Shared} {vs : List Value} {ns : List Int}
/-- the call behind the top, from an abstract heap that tracks nothing but perhaps the script -/
theorem call_from (KX : K.In s₁.heap) (hns : s₁.heap.Ns mainGlobals mg) (hb : s₁.heap.Ns builtinsNs mb) (hbb : ∀ x : Str, x ≠ "__name__" → mb x = bootBuiltins x) (hlim : s₁.heap.NoLimit) (hg : s₁.gens = #[])
    (ha : s₁.heap.get? a = some { cls := .type "list", data := .seq vs.toArray }) (hr : Room k callerA)
    (F : ∀ base : Heap, K.In base → base.Ns mainGlobals mg → LawOk P w K mg base k fa fd x sp) (hbind : ∀ (s : Shared) (u : Value), BindsTo s fd ⟨[u], []⟩ [(x, u)])
    (H : Hp) (hO : Only H) (hq : sp [.ref a] H (fun v _ => v = .bl true) fun _ _ _ => False) (hok : HOk P w H s₁.heap) (only : ∀ b, H b ≠ none → b = a) (apart : H a ≠ none → K.lookup a = none) :
    codeAny (model P w) callerA (.call (.ref fa) ⟨[.ref a], []⟩) (fun r s' => r = .ok (.ret (.bool true)) ∧ OldK s₁.heap s'.heap ∧ s'.os = s₁.os ∧ AllBare s'.gens) s₁ := by
  have un : ∀ b, b ≠ a → H b = none := fun b n => by
    cases q : H b with
    | none => rfl
    | some u => exact absurd (only b (by rw [q]; simp)) n
  have dict : ∀ {b : Addr} {m : Str → Option Value}, s₁.heap.Ns b m → (hidT s₁.heap H).Ns b m := fun {b m} ⟨o, es, ep, e, d, r⟩ => by
    have nb : b ≠ a := fun z => by
      rw [z, ha] at e
      cases e
      cases d
    exact ⟨o, es, ep, hidT_get e (un b nb), d, r⟩
  have KB : K.In (hidT s₁.heap H) := fun b o e => hidT_get (KX b o e) (by
    by_cases z : b = a
    · cases q : H b with
      | none => rfl
      | some u =>
        have y := apart (by rw [← z, q]; simp)
        rw [← z, e] at y
        cases y
    · exact un b z)
  obtain ⟨mc, l1, l2⟩ := hlim
  have M : Mod K mg (hidT s₁.heap H) := ⟨KB, dict hns, ⟨mb, dict hb, hbb⟩, ⟨mc, dict l1, l2⟩⟩
  have e0 : Env0 P w K mg (hidT s₁.heap H) callerA [] s₁ H := ⟨rfl, M, fun b o e => of_hidT e, Nat.le_of_eq (hidT_size _ _), trivial, fun b z => absurd (show b ∈ ([] : List Addr) from z) List.not_mem_nil, hok, .of_eq hg⟩
  refine codeAny_mono ((F _ KB (dict hns)).run callerA [] s₁ H (.ref a) (.ref a) _ _ rfl hr e0 (hbind s₁ (.ref a)) rfl hq) fun r s' z => ?_
  match r, z with
  | .ok (.ret u), ⟨v, H', os, bare, U, hok', rv, qv⟩ =>
    have qv : v = .bl true := qv
    subst qv
    have rv : u = Value.bool true := rv
    subst rv
    refine ⟨rfl, OldK.of_keep fun b o e => ?_, os, bare⟩
    rcases hO b with z | ⟨ob, xs, z⟩
    · exact U.keep b o e z (fun y => absurd (show b ∈ ([] : List Addr) from y) List.not_mem_nil) List.not_mem_nil
    · have y := (hok b _ z).1
      rw [e] at y
      cases y
      exact (hok' b _ (U.frzs b _ _ z)).1
theorem call_law (KX : K.In s₁.heap) (hns : s₁.heap.Ns mainGlobals mg) (hb : s₁.heap.Ns builtinsNs mb) (hbb : ∀ x : Str, x ≠ "__name__" → mb x = bootBuiltins x) (hlim : s₁.heap.NoLimit) (hg : s₁.gens = #[])
    (ha : s₁.heap.get? a = some { cls := .type "list", data := .seq vs.toArray }) (hi : IntsAre vs ns) (hl : ns.length ≤ sizeLine) (hr : Room k callerA)
    (F : ∀ base : Heap, K.In base → base.Ns mainGlobals mg → LawOk P w K mg base k fa fd x sp) (hbind : ∀ (s : Shared) (u : Value), BindsTo s fd ⟨[u], []⟩ [(x, u)])
    (hsp : ∀ H : Hp, SqL K H a (ns.map V.int) → sp [.ref a] H (fun v _ => v = .bl true) fun _ _ _ => False) :
    codeAny (model P w) callerA (.call (.ref fa) ⟨[.ref a], []⟩) (fun r s' => r = .ok (.ret (.bool true)) ∧ OldK s₁.heap s'.heap ∧ s'.os = s₁.os ∧ AllBare s'.gens) s₁ := by
  have rv := vals_ints hi
  have hlen := hi.length
  cases hk : K.lookup a with
  | some o =>
    have e := KX a o hk
    rw [ha] at e
    cases e
    exact call_from KX hns hb hbb hlim hg ha hr F hbind (fun _ => none) (fun _ => .inl rfl) (hsp _ (.inr ⟨_, vs.toArray, _, hk, rfl, rfl, rfl, by rw [List.size_toArray, hlen]; exact hl, by simpa using rv⟩)) (fun b u z => by cases z) (fun b z => absurd rfl z) fun z => absurd rfl z
  | none =>
    have at_a : (upd (fun _ => none) a (.frz { cls := .type "list", data := .seq vs.toArray } (.lst (ns.map V.int))) : Hp) a = some (.frz { cls := .type "list", data := .seq vs.toArray } (.lst (ns.map V.int))) := upd_same
    refine call_from KX hns hb hbb hlim hg ha hr F hbind (upd (fun _ => none) a (.frz { cls := .type "list", data := .seq vs.toArray } (.lst (ns.map V.int)))) (fun b => ?_) (hsp _ (.inl (.inr ⟨_, at_a⟩))) (fun b u z => ?_) (fun b z => ?_) fun _ => hk
    · by_cases h : b = a
      · exact .inr ⟨_, _, by rw [h]; exact at_a⟩
      · exact .inl (upd_ne h)
    · by_cases h : b = a
      · subst h
        rw [upd_same] at z
        cases z
        exact ⟨ha, by rw [List.length_map]; exact hl, vs, _, rv, ha⟩
      · rw [upd_ne h] at z
        cases z
    · by_cases h : b = a
      · exact h
      · exact absurd (upd_ne h) z
end
/-- the end of a law's row -/
theorem walk_law {l : W.OpenLaw} {n k : Nat} {q : Program} {loose : List Str} {XP : (Str → Option Value) → Heap → Prop} {YP : World → Heap → Prop} {d : DefRec} {K : Params → W.Frag} {sp : W.Frag → Sp} {x : Str}
    (hn : l.most = some n) (hn2 : n ≤ sizeLine) (hdf : d.params.defaults = []) (hr : Room k callerA) (hY : ∀ (w : World) (h : Heap), YP w h → (K w.params).In h)
    (F : ∀ (w : World) (mg : Str → Option Value) (fa : Addr) (h : Heap), (K w.params).In h → h.Ns mainGlobals mg → mg d.name = some (.ref fa) →
      ∃ fd : FuncData, (∀ (s : Shared) (u : Value), BindsTo s fd ⟨[u], []⟩ [(x, u)]) ∧ ∀ base : Heap, (K w.params).In base → base.Ns mainGlobals mg → LawOk l.prog w (K w.params) mg base k fa fd x (sp (K w.params)))
    (hsp : ∀ (K : W.Frag) (H : Hp) (a : Addr) (ns : List Int), ns.length ≤ n → SqL K H a (ns.map V.int) → sp K [.ref a] H (fun v _ => v = .bl true) fun _ _ _ => False) :
    W.WalkO q loose XP YP l.row.toRowW d [] (fun f vs => PySem.call f vs) := by
  refine Att.attach_call hn hdf fun w s₀ s₁ mg mb fa o pm cd doc a vs ns G Y ho hd hcd hmg hobj hints hlen hg => ?_
  have KX := hY w _ Y
  obtain ⟨fd, hb, hF⟩ := F w mg fa _ KX G.T.g hmg
  exact call_law KX G.T.g G.T.b G.T.builtins G.T.nolimit hg hobj hints (Nat.le_trans hlen hn2) hr hF hb fun H hS => hsp _ H a ns hlen hS
theorem law_of {P : Program} {w : World} {K : W.Frag} {mg : Str → Option Value} {base : Heap} {k : Nat} {f : Addr} {fd : FuncData} {st : Stmt} {x y : Str} {sp : Sp} (F : Fun K y y st f fd)
    (h : ∀ {cda : Addr} {dV kV doc pm ct oc : Value} {an od : Option Addr} {osl : Array (Option Value)}, K.lookup f = some ⟨oc, od, .func (W.fnOf y y (defArgs st) (defBody st) (defScope st) dV kV doc pm an (.ref cda) ct), osl⟩ → W.codeIn K (.ref cda) y = true →
      LawOk P w K mg base k f (W.fnOf y y (defArgs st) (defBody st) (defScope st) dV kV doc pm an (.ref cda) ct) x sp) : LawOk P w K mg base k f fd x sp := by
  obtain ⟨oc, od, kV, doc, pm, an, cdv, ct, osl, rfl, lk, hcd⟩ := F.ex
  cases cdv with
  | ref c => exact h lk hcd
  | _ => cases hcd
end FP
set_option Elab.async false
set_option linter.all false
set_option maxRecDepth 100000
set_option maxHeartbeats 4000000
/-! Facts for the head: plain defs of the heap's functions; a written dict by its keys. -/
namespace FP
open PySem PySem.Spec PyProof.Rows L2
theorem fun_of {K : PySem.W.Frag} {x qual : Str} {st : Stmt} {f : Addr} {fd : FuncData} (F : FunD K x qual (defArgs st) (defBody st) (defScope st) [] [] f fd) : Fun K x qual st f fd := by
  obtain ⟨oc, od, dV, kV, doc, pm, an, cdv, ct, osl, e, l, c, hd, _⟩ := F.ex
  rcases hd with ⟨_, rfl⟩ | ⟨z, _⟩
  · exact ⟨⟨oc, od, kV, doc, pm, an, cdv, ct, osl, e, l, c⟩, F.kp⟩
  · exact absurd rfl z
/-- the entries of a written dict -/
def dictE (K : PySem.W.Frag) (a : Addr) : Option (List DictEntry) := match K.lookup a with
  | some ⟨c, d, .dict es _, sl⟩ => if c = .type "dict" ∧ d = none ∧ sl = #[] then some es.toList else none
  | _ => none
theorem dictE_ok {K : PySem.W.Frag} {a : Addr} {l : List DictEntry} (h : dictE K a = some l) : ∃ es n, K.lookup a = some ⟨.type "dict", none, .dict es n, #[]⟩ ∧ es.toList = l := by
  unfold dictE at h
  split at h
  · rename_i c d es n sl e
    split at h
    · rename_i z
      obtain ⟨rfl, rfl, rfl⟩ := z
      exact ⟨es, n, e, Option.some.inj h⟩
    · cases h
  · cases h
def keyS : Value → Option Str
  | .str s _ => some s
  | _ => none
theorem keyS_ok {v : Value} {s : Str} (h : keyS v = some s) : ∃ t, v = .str s t := by
  cases v with
  | str z t => exact ⟨t, by rw [Option.some.inj h]⟩
  | _ => cases h
/-- what is seen of an entry: its key, its hash, what g tells of its value -/
def seenE {β : Type} (g : Value → β) (e : DictEntry) : Option Str × Int × β := (keyS e.key, e.hash, g e.val)
def wantE {β : Type} (w : World) (p : Str × β) : Option Str × Int × β := (some p.1, PyData.keyHash w.params p.1, p.2)
theorem lit_of {β : Type} {w : World} {g : Value → β} : ∀ {l : List DictEntry} {ks : List (Str × β)}, l.map (seenE g) = ks.map (wantE w) → PySem.W.KeysLit w.params l
  | [], _, _ => trivial
  | e :: r, [], h => by cases h
  | e :: r, p :: ks, h => by
    rw [List.map_cons, List.map_cons] at h
    obtain ⟨h1, h2⟩ := List.cons.inj h
    obtain ⟨t, ht⟩ := keyS_ok (congrArg (·.1) h1)
    exact ⟨⟨p.1, t, ht, congrArg (·.2.1) h1⟩, lit_of h2⟩
theorem find_of {β : Type} {w : World} {g : Value → β} (z : Str) : ∀ {l : List DictEntry} {ks : List (Str × β)}, l.map (seenE g) = ks.map (wantE w) → (l.find? (·.key.isStr z)).map (fun e => g e.val) = ks.lookup z
  | [], [], _ => rfl
  | [], _ :: _, h => by cases h
  | e :: r, [], h => by cases h
  | e :: r, p :: ks, h => by
    rw [List.map_cons, List.map_cons] at h
    obtain ⟨h1, h2⟩ := List.cons.inj h
    obtain ⟨t, ht⟩ := keyS_ok (congrArg (·.1) h1)
    have hg : g e.val = p.2 := congrArg (·.2.2) h1
    have ih := find_of z h2
    obtain ⟨p1, p2⟩ := p
    have hs : e.key.isStr z = (z == p1) := by
      rw [ht]
      show (p1 == z) = (z == p1)
      exact Bool.beq_comm
    rw [List.find?_cons, List.lookup_cons, hs]
    cases z == p1 with
    | true => exact congrArg some hg
    | false => exact ih
theorem norefs {β : Type} {w : World} {g : Value → β} : ∀ {l : List DictEntry} {ks : List (Str × β)}, l.map (seenE g) = ks.map (wantE w) → l.any (·.refKey) = false
  | [], _, _ => rfl
  | e :: r, [], h => by cases h
  | e :: r, p :: ks, h => by
    rw [List.map_cons, List.map_cons] at h
    obtain ⟨h1, h2⟩ := List.cons.inj h
    obtain ⟨t, ht⟩ := keyS_ok (congrArg (·.1) h1)
    rw [List.any_cons, norefs h2, Bool.or_false]
    obtain ⟨hh, kk, vv⟩ := e
    replace ht : kk = .str p.1 t := ht
    subst ht
    rfl
theorem nsIn_of {β : Type} {K : PySem.W.Frag} {w : World} {g : Value → β} {a : Addr} {es : Array DictEntry} {n : Nat} {ks : List (Str × β)} (e : K.lookup a = some ⟨.type "dict", none, .dict es n, #[]⟩) (h : es.toList.map (seenE g) = ks.map (wantE w)) (z : Str) :
    ∃ r, PySem.W.nsIn K a z = some r ∧ r.map g = ks.lookup z := by
  have hf := find_of z h
  unfold PySem.W.nsIn
  rw [e]
  dsimp only
  cases q : es.toList.find? (·.key.isStr z) with
  | some en =>
    rw [q] at hf
    exact ⟨some en.val, rfl, hf⟩
  | none =>
    rw [q] at hf
    refine ⟨none, ?_, hf⟩
    rw [norefs h]
    rfl
end FP
set_option Elab.async false
set_option linter.all false
set_option maxRecDepth 100000
set_option maxHeartbeats 0
/-! The facts of the top, by names (printed by gen_head.py). -/
namespace FP
open PySem PySem.Spec PyProof.Rows L2
def layA (m : Str) (K : PySem.W.Frag) : Addr := match K.lookup (He.fAd K ("Program", some m)) with
  | some ⟨_, _, .func fd, _⟩ => (match fd.kwdefaults with
    | .ref D => (match PySem.W.nsIn K D "layout" with
      | some (some (.ref a)) => a
      | _ => 0)
    | _ => 0)
  | _ => 0
def strV : Value → Option Str
  | .str s _ => some s
  | _ => none
/-- the texts of a written tuple -/
def tupS (K : PySem.W.Frag) : Value → Option (List (Option Str))
  | .ref a => (match K.lookup a with
    | some ⟨c, _, .seq its _, _⟩ => if c = .type "tuple" ∧ its.size ≤ 1000 then some (its.toList.map strV) else none
    | _ => none)
  | _ => none
theorem vals_strs : ∀ {l : List Value} {ss : List Str}, l.map strV = ss.map some → Vals (ss.map V.str) l
  | [], [], _ => .nil
  | [], _ :: _, h => by cases h
  | _ :: _, [], h => by cases h
  | v :: l, s :: ss, h => by
    rw [List.map_cons, List.map_cons] at h
    obtain ⟨h1, h2⟩ := List.cons.inj h
    refine .cons ?_ (vals_strs h2)
    cases v with
    | str z t => exact ⟨t, by rw [← Option.some.inj h1]⟩
    | _ => cases h1
theorem tupS_ok {K : PySem.W.Frag} {v : Value} {ss : List Str} (h : tupS K v = some (ss.map some)) : ∃ a, v = .ref a ∧ ∀ H, SqT K H a (ss.map V.str) := by
  cases v with
  | ref a =>
    refine ⟨a, rfl, fun H => .inr ?_⟩
    unfold tupS at h
    dsimp only at h
    split at h
    · rename_i c d its n sl e
      split at h
      · rename_i z
        exact ⟨_, its, n, e, z.1, rfl, Nat.le_trans z.2 (by decide), vals_strs (Option.some.inj h)⟩
      · cases h
    · cases h
  | _ => cases h
def linesN : List (Str × Str) := [("input", "_do_input"), ("copy", "_do_copy"), ("point", "_do_point"), ("load", "_do_load"), ("store", "_do_store"), ("use", "_do_use"), ("call", "_do_call"), ("same", "_do_same"), ("loop", "_do_loop"), ("maybe", "_do_maybe")]
def nameA (K : PySem.W.Frag) : Value → Option Str
  | .ref a => (linesN.map (·.2)).find? fun x => decide (He.ga K x = a)
  | _ => none
theorem nameA_ok {K : PySem.W.Frag} {v : Value} {x : Str} (h : nameA K v = some x) : v = .ref (He.ga K x) := by
  cases v with
  | ref a =>
    have := List.find?_some h
    rw [of_decide_eq_true this]
  | _ => cases h

def dd (a : Str × Option Str) (n q : Str) (st : Stmt) (kwd : List (Str × He.Dv)) : He.DefD := ⟨a, n, q, defArgs st, defBody st, defScope st, [], kwd⟩

def fnL0 : List He.DefD := [dd ("is_name", none) "is_name" "is_name" sIsName [],
  dd ("lines_of", none) "lines_of" "lines_of" sLines [],
  dd ("fits", none) "fits" "fits" sFits [],
  dd ("read_sheet", none) "read_sheet" "read_sheet" sRead [],
  dd ("Row", some "__init__") "__init__" "Row.__init__" mRow_init [],
  dd ("Sheet", some "__init__") "__init__" "Sheet.__init__" mSheet_init [],
  dd ("Sheet", some "is_closed") "is_closed" "Sheet.is_closed" mSheet_is_closed [],
  dd ("Sheet", some "take_line") "take_line" "Sheet.take_line" mSheet_take_line [],
  dd ("Sheet", some "find_ways") "find_ways" "Sheet.find_ways" mSheet_find_ways [],
  dd ("Sheet", some "_landing") "_landing" "Sheet._landing" mSheet_landing [],
  dd ("Sheet", some "_declare") "_declare" "Sheet._declare" mSheet_declare [],
  dd ("Sheet", some "_take_row") "_take_row" "Sheet._take_row" mSheet_take_row [],
  dd ("Sheet", some "_is_seen") "_is_seen" "Sheet._is_seen" mSheet_is_seen [],
  dd ("Sheet", some "_open_block") "_open_block" "Sheet._open_block" mSheet_open_block [],
  dd ("Sheet", some "_turn") "_turn" "Sheet._turn" mSheet_turn [],
  dd ("Sheet", some "_close_block") "_close_block" "Sheet._close_block" mSheet_close_block [],
  dd ("Program", some "__init__") "__init__" "Program.__init__" mProgram_init [],
  dd ("Program", some "_hold") "_hold" "Program._hold" mProgram_hold [],
  dd ("_law_begun_pen", none) "_law_begun_pen" "_law_begun_pen" sPen [],
  dd ("_law_draw", none) "_law_draw" "_law_draw" sDraw []]

def fnL1 : List He.DefD := [dd ("_law_pick", none) "_law_pick" "_law_pick" sPick [],
  dd ("_law_shuffled", none) "_law_shuffled" "_law_shuffled" sShuf [],
  dd ("_law_new_names", none) "_law_new_names" "_law_new_names" sNames [],
  dd ("_law_block_lines", none) "_law_block_lines" "_law_block_lines" qBlockLines [],
  dd ("_law_block_size", none) "_law_block_size" "_law_block_size" qBlockSize [],
  dd ("_law_new_order", none) "_law_new_order" "_law_new_order" qNewOrder [],
  dd ("_law_wide_block", none) "_law_wide_block" "_law_wide_block" qWideBlock [],
  dd ("_law_new_program", none) "_law_new_program" "_law_new_program" qNewProgram [],
  dd ("_law_is_name", none) "_law_is_name" "_law_is_name" qIsName [],
  dd ("_law_is_deed", none) "_law_is_deed" "_law_is_deed" qIsDeed [],
  dd ("_law_line_read", none) "_law_line_read" "_law_line_read" qLineRead [],
  dd ("_law_wrong_line", none) "_law_wrong_line" "_law_wrong_line" qWrongLine [],
  dd ("_law_bent", none) "_law_bent" "_law_bent" qBent [],
  dd ("_law_told", none) "_law_told" "_law_told" qTold [],
  dd ("_law_hand_right", none) "_law_hand_right" "_law_hand_right" qHandRight [],
  dd ("law", none) "law" "law" sLaw []]

def fnL : List He.DefD := fnL0 ++ (fnL1)

def faL0 : List He.Fa := [.glo "is_name",
  .glo "lines_of",
  .glo "fits",
  .glo "read_sheet",
  .glo "_law_begun_pen",
  .glo "_law_draw",
  .glo "_law_pick",
  .glo "_law_shuffled",
  .glo "_law_new_names",
  .glo "_law_block_lines",
  .glo "_law_block_size",
  .glo "_law_new_order",
  .glo "_law_wide_block",
  .glo "_law_new_program",
  .glo "_law_is_name",
  .glo "_law_is_deed",
  .glo "_law_line_read",
  .glo "_law_wrong_line",
  .glo "_law_bent",
  .glo "_law_told"]

def faL1 : List He.Fa := [.glo "_law_hand_right",
  .glo "law",
  .glo "Row",
  .cls "Row",
  .mkr "Row",
  .glo "Sheet",
  .cls "Sheet",
  .mkr "Sheet",
  .glo "Program",
  .cls "Program",
  .mkr "Program",
  .glo "WORDS",
  .glo "TWO_SIDED",
  .glo "PASSED",
  .glo "OPENING",
  .glo "FORMS",
  .free "len",
  .free "all",
  .free "zip",
  .free "enumerate"]

def faL2 : List He.Fa := [.free "list",
  .free "tuple",
  .free "int",
  .free "abs",
  .free "range",
  .free "repr",
  .free "isinstance",
  .free "dict",
  .free "str",
  .free "min",
  .free "sum",
  .int "LONGEST_NAME" 12,
  .int "MOST_CELLS" 5,
  .int "MOST_OPEN" 5,
  .int "MOST_LINES" 40,
  .noat "Row" "word",
  .noat "Row" "names",
  .noat "Row" "after",
  .noat "Row" "other",
  .noat "Sheet" "rows"]

def faL3 : List He.Fa := [.noat "Sheet" "homes",
  .noat "Sheet" "around",
  .noat "Sheet" "_nest",
  .noat "Program" "text",
  .noat "Program" "cells",
  .noat "Program" "sheet",
  .meth "Sheet" "is_closed",
  .meth "Sheet" "take_line",
  .meth "Sheet" "find_ways",
  .meth "Sheet" "_landing",
  .meth "Sheet" "_declare",
  .meth "Sheet" "_take_row",
  .meth "Sheet" "_is_seen",
  .meth "Sheet" "_open_block",
  .meth "Sheet" "_turn",
  .meth "Sheet" "_close_block",
  .meth "Program" "_hold"]

def faL : List He.Fa := faL0 ++ (faL1 ++ (faL2 ++ (faL3)))

abbrev Al5 : Type := He.AlD × List (Option (List (Option Str))) × Option (List (Option Str × Int × Option (List (Option Str))))
def obs5 (K : PySem.W.Frag) : Al5 := (He.obsD faL fnL K, [tupS K (.ref (He.ga K "WORDS")), tupS K (.ref (He.ga K "TWO_SIDED")), tupS K (.ref (He.ga K "PASSED")), tupS K (.ref (He.ga K "OPENING"))],
  (dictE K (He.ga K "FORMS")).map fun l => l.map (seenE (tupS K)))
def val5 (w : World) : Al5 := (He.valD fnL, [some (wordsL.map some), some (twoL.map some), some (passL.map some), some (openL.map some)], some (formsL.map fun p => wantE w (p.1, some (p.2.map some))))
def hook5 : PySem.W.Hook where
  α := Al5
  obs := fun s => obs5 (He.frG s.heap.get? (He.asD s.heap.get? 6))
  val := val5
  says := fun w h => ∃ K : PySem.W.Frag, K.In h ∧ obs5 K = val5 w
  of := fun _ _ e => ⟨_, He.frG_in, e⟩
  keeps := fun _ _ _ ⟨K, hK, c⟩ k => ⟨K, PySem.W.Frag.In.keeps hK k, c⟩
def ob5 (s : PySem.W.SharedT) : Al5 := obs5 (He.frG (HandSHeadRun.getT s) (He.asD (HandSHeadRun.getT s) 6))
theorem ob5_eq (s : PySem.W.SharedT) : ob5 s = hook5.obs s.abs := by
  have e : HandSHeadRun.getT s = s.abs.heap.get? := funext (HandSHeadRun.getT_eq s)
  show obs5 _ = obs5 _
  rw [e]
end FP
set_option Elab.async false
set_option linter.all false
set_option maxRecDepth 100000
set_option maxHeartbeats 4000000
/-! tuple(d): the keys of a dict. -/
namespace FP
open PySem PySem.Spec PyProof.Rows L2
open PySem.W in
theorem tupD_code {prog : Program} {w : World} {A : Around} {E : Value → Shared → Prop} {s : Shared} {T : String} {r d : Addr} {n : Nat} {P : Nat → Value → Prop} {OK : Heap → Prop} {Q₁ : Value → Shared → Prop} (S : PySem.W.KdlSrc prog w T r d n P OK) (hh : A.handled = none) (hok : OK s.heap) (hn : n ≤ sizeLine)
    (h : ∀ (h' : Heap) (tk : Nat) (acc : Array Value), (∀ b o, s.heap.get? b = some o → h'.get? b = some o) → ItemsOf P acc n → Q₁ (.ref h'.objs.size) { s with heap := h'.push { cls := .type "tuple", data := .seq acc }, toks := tk }) :
    codeAny (model prog w) A (.call (.builtin "tuple.__new__") ⟨[.type "tuple", .ref r], []⟩) (wants Q₁ E) s := by
  refine codeAny_of_tree ?_
  show wpAny _ A.in1 (do checkBuiltinCall "tuple.__new__" ⟨[.type "tuple", .ref r], []⟩; again (.builtin "tuple.__new__" ⟨[.type "tuple", .ref r], []⟩)) _ _ s
  refine wpAny_bind (wpAny_of_eq (PySem.F.newCall_tuple_1 _) (wpAny_pure ⟨plainId_quiet PySem.F.plain_tuple_new _, codeAny_builtin PySem.F.entry_tuple_new ?_⟩))
  rw [Around.under_plainId PySem.F.plain_tuple_new _]
  have hsub := sub_tuple_self
  have hinit := init_tuple_lookup
  have hmh := madeHere_tuple
  have hTI : s.TypeIs (.ref r) T := S.type _ hok
  have hne := S.notTuple
  have hh1 : A.in1.handled = none := hh
  wp_walk using wpAny_typeOf hTI, PySem.W.kdu_collect (A := A.in1) S hh1 hok hn
  intro h' tk acc hk hacc
  show wpAny _ _ (Builtin.Tuple.tupleExact acc.toList.toArray >>= fun v => ret v) _ _ _
  unfold Builtin.Tuple.tupleExact
  refine wpAny_bind (wpAny_newObj_type ?_ (by show acc.toList.toArray.size ≤ sizeLine; simp only [Array.toArray_toList]; rw [hacc.1]; exact hn))
  refine wpAny_pure ?_
  have e : acc.toList.toArray = acc := by simp
  rw [e]
  exact h h' tk acc hk hacc
theorem call_tupD {prog : Program} {w : World} {A : Around} {E : Value → Shared → Prop} {s : Shared} {T : String} {r d : Addr} {n : Nat} {P : Nat → Value → Prop} {OK : Heap → Prop} {Q : Value → Shared → Prop} (S : PySem.W.KdlSrc prog w T r d n P OK) (hh : A.handled = none) (hok : OK s.heap) (hn : n ≤ sizeLine)
    (hQ : ∀ (h' : Heap) (tk : Nat) (acc : Array Value), (∀ b o, s.heap.get? b = some o → h'.get? b = some o) → ItemsOf P acc n → Q (.ref h'.objs.size) { s with heap := h'.push { cls := .type "tuple", data := .seq acc }, toks := tk }) :
    wpAny (model prog w) A (call (.type "tuple") [.ref r]) Q E s := by
  refine callType_codes (Q₁ := fun obj s₁ => s₁.TypeIs obj "tuple" ∧ Q obj s₁) PySem.F.called_tuple (PySem.F.typeCall_tuple_1 _) PySem.F.entry_object_init
    (tupD_code (A := A.in1) S hh hok hn fun h' tk acc hk hacc => ⟨⟨_, Heap.get?_push_size _ rfl, rfl⟩, hQ h' tk acc hk hacc⟩) fun obj s₁ h₁ => ?_
  exact ⟨h₁.1, PySem.F.args_object_init_2 obj _, object_init_meets PySem.F.called_tuple.init.lookup PySem.F.called_tuple.made (by decide) prog w A.in1 _ s₁ ⟨h₁.1, rfl, h₁.2⟩⟩
/-- tuple(d) of a dict of the heap -/
theorem cr_tupD {X : Cx} (hcalm : X.calm = true) : CallR X (.type "tuple") (fun xs H Q => ∃ (a : Addr) (kvs : List (Key × V)), xs = [.ref a] ∧ Rd H a (.dK kvs) ∧ ∀ p, H p = none → Q (.ref p) (upd H p (.tup (kvs.map fun kv => kV kv.1)))) := by
  intro pins s σ H xs us Q I r q
  obtain ⟨a, kvs, rfl, hd, q⟩ := q
  obtain ⟨u, rfl, rx⟩ := vals1 r
  cases rx
  obtain ⟨z, lo, vs, rel, dd⟩ := dk_rd I.hok hd
  obtain ⟨ep, hat⟩ := dd.dictAt
  have ek : (kvs.map fun kv => kV kv.1) = vs.map fun p => kV p.1 := by
    have e := congrArg (List.map kV) rel.keys
    rw [List.map_map, List.map_map] at e
    exact e
  refine call_tupD (PySem.W.kdl_dict (knd := mixKind X.prog X.w) (kvs := vs) (ep := ep) lo) (I.ok.hd hcalm) hat (by rw [← rel.length]; exact z) fun h' tk acc hk hacc => ?_
  have hv : Vals (vs.map fun p => kV p.1) acc.toList := keys_at (by rw [Array.length_toList]; exact hacc.1) fun j v e => hacc.2 j v (by rw [← Array.getElem?_toList]; exact e)
  have I1 : Inv X pins σ H { s with heap := h', toks := tk } := I.kept (t' := tk) hk
  have I2 : Inv X pins σ (upd H h'.objs.size (.tup (kvs.map fun kv => kV kv.1))) { s with heap := h'.push { cls := .type "tuple", data := .seq acc }, toks := tk } :=
    I1.laid (t' := tk) (fun b u e => Heap.get?_push_of_some _ e) (Nat.le_refl _)
      (show ObjOk X.prog X.w _ _ _ (.tup (kvs.map fun kv => kV kv.1)) from ⟨by rw [List.length_map]; exact z, acc.toList, by rw [ek]; exact hv, by simpa using IsTup.new h' acc⟩)
  exact ⟨.ref h'.objs.size, _, I2, rfl, q _ (I1.hok.fresh (Nat.le_refl _))⟩
end FP
set_option Elab.async false
set_option linter.all false
set_option maxRecDepth 100000
set_option maxHeartbeats 4000000
namespace FP
open PySem PySem.Spec PyProof.Rows L2 GenW
def pgF (x : Str) (t s : Addr) : List (Str × V) := [("text", .str x), ("cells", .ref t), ("sheet", .ref s)]
/-- a program at x -/
structure PgAt (Cp Cr Cs : Addr) (H : Hp) (x : Addr) (text : Str) (M : ShM) : Prop where
  ex : ∃ (dx t s : Addr) (p : Pt) (H0 : Hp), H x = some (.ins Cp dx (pgF text t s)) ∧ H t = some (.tup ((M.homes.map (·.1)).map V.str)) ∧ ShAt Cr Cs H0 H s p M
theorem PgAt.grow {Cp Cr Cs : Addr} {H H' : Hp} {x : Addr} {text : Str} {M : ShM} (A : PgAt Cp Cr Cs H x text M) (S : Same H H') : PgAt Cp Cr Cs H' x text M := by
  obtain ⟨dx, t, s, p, H0, e1, e2, e3⟩ := A.ex
  exact ⟨dx, t, s, p, H0, S _ _ e1, S _ _ e2, e3.grow S⟩
/-- .. whose parts are new since H0 -/
structure PgN (Cp Cr Cs : Addr) (H0 H : Hp) (x : Addr) (text : Str) (M : ShM) : Prop where
  ex : ∃ (dx t s : Addr) (p : Pt), H x = some (.ins Cp dx (pgF text t s)) ∧ H t = some (.tup ((M.homes.map (·.1)).map V.str)) ∧ ShAt Cr Cs H0 H s p M
theorem PgN.at_ {Cp Cr Cs : Addr} {H0 H : Hp} {x : Addr} {text : Str} {M : ShM} (A : PgN Cp Cr Cs H0 H x text M) : PgAt Cp Cr Cs H x text M := by
  obtain ⟨dx, t, s, p, e1, e2, e3⟩ := A.ex
  exact ⟨dx, t, s, p, H0, e1, e2, e3⟩
structure PgTxt (K : PySem.W.Frag) (mg : Str → Option Value) (Cp : Addr) : Prop where
  cp : Cls K Cp
  gp : mg "Program" = some (.ref Cp)
  nt : NoAttr K Cp "text"
  nc : NoAttr K Cp "cells"
  ns : NoAttr K Cp "sheet"
  ml : ∃ t, mg "MOST_LINES" = some (.int 40 t)
section
variable {P : Program} {w : World} {K : PySem.W.Frag} {mg : Str → Option Value} {base : Heap} {Cn Cc Cr Cs Cp aL : Addr}
def spHold (Cp Cr Cs : Addr) : Sp := fun vs H Q _ => ∃ (x dx s : Addr) (text : Str) (M : ShM) (H0 : Hp) (p : Pt), vs = [.ref x, .str text, .ref s] ∧ H x = some (.ins Cp dx []) ∧ ShAt Cr Cs H0 H s p M ∧ H0 x ≠ none ∧
  ∀ t H', H t = none → H' t = some (.tup ((M.homes.map (·.1)).map V.str)) → H' x = some (.ins Cp dx (pgF text t s)) → (∀ b o, H b = some o → b ≠ x → H' b = some o) → Q .non H'
theorem scHo : FnScope ["self", "text", "sheet"] ["self", "text", "sheet"] (defScope mProgram_hold) := ⟨rfl, rfl, rfl, by decide +kernel, rfl, by decide +kernel, by decide +kernel⟩
theorem ok_hold {f : Addr} {fd : FuncData} (F : Fun K "_hold" "Program._hold" mProgram_hold f fd) (T : PgTxt K mg Cp) (TS : ShTxt K mg Cr Cs) (B : Blt2 mg) : FnOk P w K mg base CX0 1 f fd ["self", "text", "sheet"] (spHold Cp Cr Cs) := by
  refine F.ok scHo (fun vs H Q E h => ?_) (fun cdv A outer s H vs Q E hr h => ?_)
  · obtain ⟨x, dx, s, text, M, H0, p, rfl, _⟩ := h
    rfl
  obtain ⟨x, dx, s, text, M, H0, p, rfl, hx, A0, h0x, q⟩ := h
  obtain ⟨ds, es⟩ := A0.sh
  refine ⟨_, pss_cons (ps_fld (pv 0) (pv 1) rfl) (pss_cons (ps_fld (pv 0) (pe_callTy (cr_tupD (by rfl)) (by rfl) B.tuple (by decide +kernel) (pa_cons (pe_fld (pv 2) rfl) pa_nil)) rfl) (pss_one (ps_fld (pv 0) (pv 2) rfl))), ?_⟩
  have nsx : s ≠ x := fun z => by
    rw [z, hx] at es
    cases es
  have nhx : p.h ≠ x := fun z => h0x (z ▸ A0.fh)
  refine ⟨_, rfl, _, rfl, x, Cp, dx, [], rfl, hx, T.cp, T.nt, (by show 0 < 1000; decide), ?_⟩
  refine ⟨_, rfl, s, Cs, ds, _, _, rfl, (upd_ne nsx).trans es, TS.cs, TS.sh, lkS2 p, p.h, _, rfl, .inl ((upd_ne nhx).trans A0.h), fun t ht => ?_⟩
  have ntx : t ≠ x := fun z => by rw [z, upd_same] at ht; cases ht
  rw [upd_ne ntx] at ht
  refine ⟨_, rfl, x, Cp, dx, _, rfl, (upd_ne ntx.symm).trans upd_same, T.cp, T.nc, (by show 1 < 1000; decide), ?_⟩
  refine ⟨_, rfl, _, rfl, x, Cp, dx, _, rfl, upd_same, T.cp, T.ns, (by show 2 < 1000; decide), ?_⟩
  refine q t _ ht ?_ upd_same fun b u e nb => ?_
  · rw [upd_ne ntx, upd_ne ntx, upd_same]
    have : (homesV M.homes).map (fun kv => kV kv.1) = (M.homes.map (·.1)).map V.str := by
      unfold homesV
      rw [List.map_map, List.map_map]
      rfl
    rw [this]
  · rw [upd_ne nb, upd_ne nb, upd_ne (ne_of_none e ht), upd_ne nb]
    exact e
def spProg (Cp Cr Cs : Addr) : Sp := fun vs H Q _ => ∃ (x dx : Addr) (text : Str) (M : ShM), vs = [.ref x, .str text] ∧ H x = some (.ins Cp dx []) ∧ text.length ≤ 80000 ∧ readM text 40 = some M ∧
  ∀ H', PgN Cp Cr Cs (fun b => if b = x then none else H b) H' x text M → (∀ b o, H b = some o → b ≠ x → H' b = some o) → Q .non H'
theorem scPI : FnScope ["self", "text"] ["self", "text"] (defScope mProgram_init) := ⟨rfl, rfl, rfl, by decide +kernel, rfl, by decide +kernel, by decide +kernel⟩
theorem ok_progInit {f : Addr} {fd : FuncData} (F : Fun K "__init__" "Program.__init__" mProgram_init f fd) (T : PgTxt K mg Cp) (DR : Def P w K mg base "read_sheet" 5 ["text", "most"] (spRead Cr Cs)) (DH : MDef P w K mg base Cp "_hold" 1 ["self", "text", "sheet"] (spHold Cp Cr Cs)) :
    FnOk P w K mg base CX0 6 f fd ["self", "text"] (spProg Cp Cr Cs) := by
  obtain ⟨fR, fdR, gR, kR, bR, GR⟩ := DR.ex
  obtain ⟨fH, fdH, mH, bH, GH⟩ := DH.ex
  obtain ⟨tm, gm⟩ := T.ml
  refine F.ok scPI (fun vs H Q E h => ?_) (fun cdv A outer s H vs Q E hr h => ?_)
  · obtain ⟨x, dx, text, M, rfl, _⟩ := h
    rfl
  obtain ⟨x, dx, text, M, rfl, hx, hl, hM, q⟩ := h
  refine ⟨_, pss_one (ps_expr (pe_meth (pv 0) T.cp mH GH (hr.mono (by decide)) bH .nil pass0 (pa_cons (pv 1) (pa_cons (pe_call GR hr rfl gR kR bR .nil pass0 (pa_cons (pv 1) (pa_cons (pe_glob (v := .int 40) (by rfl) gm ⟨_, rfl⟩) pa_nil))) pa_nil)))), ?_⟩
  refine ⟨_, rfl, x, dx, _, rfl, hx, rfl, _, rfl, _, rfl, text, 40, M, rfl, hl, hM, fun s p H1 A1 => ?_⟩
  have hx1 := A1.same _ _ hx
  refine ⟨x, dx, s, text, M, H, p, rfl, hx1, A1, by rw [hx]; exact Option.some_ne_none _, fun t H2 ht e1 e2 e3 => ?_⟩
  have K2 : ∀ b o, H1 b = some o → b ≠ x → H2 b = some o := e3
  have nx : ∀ {b}, H b = none → b ≠ x := fun z e => by rw [e, hx] at z; cases z
  have A2 : ShAt Cr Cs (fun b => if b = x then none else H b) H2 s p M := by
    obtain ⟨ds, es⟩ := A1.sh
    have nsx : s ≠ x := fun z => by rw [z, hx1] at es; cases es
    refine ⟨⟨ds, K2 _ _ es nsx⟩, K2 _ _ A1.R (nx A1.fR), K2 _ _ A1.h (nx A1.fh), K2 _ _ A1.ar (nx A1.far), K2 _ _ A1.n (nx A1.fn), A1.len, fun i r m g1 g2 => ?_, A1.nd, A1.Rn, A1.har, A1.sr, ?_, ?_, ?_, ?_, fun r hr => ?_, fun b u e => ?_⟩
    · obtain ⟨d9, t9, er, et⟩ := A1.rows i r m g1 g2
      exact ⟨d9, t9, K2 _ _ er (nx (A1.fr r (List.mem_iff_getElem?.mpr ⟨i, g1⟩))), K2 _ _ et (ne_of et hx1 (by intro z; cases z))⟩
    · show (if p.R = x then none else H p.R) = none
      rw [if_neg (nx A1.fR)]; exact A1.fR
    · show (if p.h = x then none else H p.h) = none
      rw [if_neg (nx A1.fh)]; exact A1.fh
    · show (if p.ar = x then none else H p.ar) = none
      rw [if_neg (nx A1.far)]; exact A1.far
    · show (if p.n = x then none else H p.n) = none
      rw [if_neg (nx A1.fn)]; exact A1.fn
    · show (if r = x then none else H r) = none
      rw [if_neg (nx (A1.fr r hr))]; exact A1.fr r hr
    · by_cases z : b = x
      · rw [if_pos z] at e; cases e
      · rw [if_neg z] at e
        exact K2 _ _ (A1.same _ _ e) z
  exact q _ ⟨dx, t, s, p, e2, e1, A2⟩ fun b u e nb => K2 _ _ (A1.same _ _ e) nb
end
end FP
set_option Elab.async false
set_option linter.all false
set_option maxRecDepth 100000
set_option maxHeartbeats 4000000
/-! Own exception classes (over an own base over ValueError) whose __init__ calls super().__init__: made as values, held, their fields read, asked by isinstance. -/
namespace FP
open PySem PySem.Spec PyProof.Rows L2 NdefX
/-- what the written part says of such a class at C -/
structure ExK (K : W.Frag) (C : Addr) : Prop where
  oex : OexC K C
  ga : W.findIn K (.ref C) "__getattribute__" = some (some (.builtin "BaseException.__getattribute__"))
  gg : W.findIn K (.ref C) "__getattr__" = some none
  hd : W.hasDictIn K C = true
  ca : W.findIn K (.ref C) "__class__" = some (some (.builtin "object.__class__"))
  cn : W.specialIn K (.builtin "object.__class__") "__get__" = some (some (.builtin "getset_descriptor.__get__"))
  ct : W.takesIn K (.builtin "object.__class__") = some true
  cm : W.mroIn K C (.type "object") = some true
  iV : W.subIn K (.ref C) (.type "ValueError") = some true
  sup : W.ks_superIn K C C "__init__" = some (some (.builtin "ValueError.__init__"))
  me : W.mroIn K C (.ref C) = some true
  op : W.nsIn K cStatics "thirdparty.any" = some none
theorem ExK.is {K : W.Frag} {C : Addr} (T : ExK K C) : ∃ cd, W.clsIn K C = some cd := by
  obtain ⟨nm, q, N, bs, bm, sn, sub, ab, col, dd, k0, k1, k2, k3, k5, hC, _⟩ := T.oex.cls
  exact ⟨_, by unfold W.clsIn; rw [hC] <;> rfl⟩
/-- the running __init__ knows its class, its code's record -/
structure SupAt (X : Cx) (C : Addr) : Prop where
  ks : X.env.kindOf "super" = some .globalImplicit
  kc : X.env.kindOf "__class__" = some .free
  fu : ∃ (f : Addr) (fo : Obj) (fd : FuncData) (ar : Arg), X.env.func = some f ∧ X.K.lookup f = some fo ∧ fo.data = .func fd ∧
    (fd.params.posonlyargs ++ fd.params.args).head? = some ar ∧ X.N[0]? = some ar.arg ∧ X.env.kindOf ar.arg = some .local
  co : ∃ (c : Addr) (o : Obj) (vs : Array Value) (file : Str) (tf : Tok), X.env.code = .ref c ∧ X.K.lookup c = some o ∧ o.data = .fields vs ∧ vs[2]? = some (.str file tf) ∧ ((X.prog.main.file : Str) == file) = true
  cell : ∃ (c : Addr) (o : Obj), X.env.cells.lookup ("__class__" : Str) = some c ∧ X.K.lookup c = some o ∧ o.data = .cell (some (.ref C))
  top : (X.prog.main.scope.names.lookup ("super" : Str)).isSome = false
  mg : X.mg "super" = none
section
variable {X : Cx} {pins : List (Addr × Obj)} {σ : L2.St} {H : Hp} {s : Shared} {a C : Addr} {E : Value → Shared → Prop}
/-- where a tracked exception without a dict stands -/
theorem exo_inst (I : Inv X pins σ H s) (e : H a = some (exo a C none)) : ∃ ox, W.InstAt s.heap a ox C none ∧ ∃ t, ox = W.excObj C t none .none := by
  obtain ⟨t, h⟩ := exo_at I.hok e
  exact ⟨_, ⟨h, rfl, rfl, trivial⟩, t, rfl⟩
/-- super() -/
theorem sup_obj (S : SupAt X C) (T : ExK X.K C) (I : Inv X pins σ H s) (h0 : σ[0]? = some (some (.ref a))) (e : H a = some (exo a C none)) {body : List Stmt} {p0 p1 : Pos} {attr : Str} {whole : Sem Value} {Q : Value → Shared → Prop}
    (hat : (attr == ("__class__" : Str)) = false)
    (q : ∀ so s', Inv X pins σ H s' → s'.heap.get? so = some (W.ks_superObj C a C) → Q (.ref so) s') :
    _root_.PySem.wpAt (model X.prog X.w) X.A (.func body X.env) (attributeBase (.Call (.Name "super" p0) [] [] p1) attr X.env whole) Q E s := by
  obtain ⟨f, fo, fd, ar, u1, u2, u3, u4, u5, u6⟩ := S.fu
  obtain ⟨c, oc, vs, file, tf, c1, c2, c3, c4, c5⟩ := S.co
  obtain ⟨cc, occ, d1, d2, d3⟩ := S.cell
  obtain ⟨mb, b1, b2⟩ := I.ok.mod.blt
  refine ks_wpAt_super_base S.ks S.kc hat u1 (I.kIn _ _ u2) u3 u4 c1 (I.kIn _ _ c2) c3 c4 c5 S.top ?_
  refine W.ks_loadName_global I.ok.kind S.ks ?_
  have g1 : s.heap.Ns X.env.globals X.mg := by rw [I.ok.glob]; exact I.ok.mod.glob.keeps I.bk
  have g2 : s.heap.Ns X.env.builtins mb := by rw [I.ok.blt]; exact b1.keeps I.bk
  have g3 : mb "super" = some (.type "super") := (b2 "super" (by decide +kernel)).trans (by decide +kernel)
  refine Calls.loadGlobal_builtin g1 S.mg g2 g3 ⟨rfl, ?_⟩
  refine wpAny_loadName_free I.ok.kind S.kc d1 ⟨_, I.kIn _ _ d2, d3⟩ ?_
  obtain ⟨m, hn, hl⟩ := I.loc
  obtain ⟨u, ru, lk⟩ := hl 0 ar.arg (.ref a) u5 h0 (.inl u6)
  have ru : u = Value.ref a := ru
  subst ru
  have hm : m ar.arg = some (.ref a) := by
    rcases lk with ⟨_, z⟩ | ⟨z, _⟩
    · exact z
    · rw [u6] at z
      rcases z with z | z <;> cases z
  refine wpAny_loadName_local I.ok.kind u6 hn hm ?_
  obtain ⟨ox, J, t0, eo⟩ := exo_inst I e
  obtain ⟨cd, hcd⟩ := T.is
  obtain ⟨oD, D1, D2⟩ : ∃ oD, s.heap.get? C = some oD ∧ oD.data = .cls cd := by
    unfold W.clsIn at hcd
    split at hcd
    · rename_i ho
      cases hcd
      exact ⟨_, I.kIn _ _ ho, rfl⟩
    · cases hcd
  have L := W.looks_mroIn (M := model X.prog X.w) I.kIn T.me
  have K1 := fun (h' : Heap) (k : ∀ b o, s.heap.get? b = some o → h'.get? b = some o) => I.kept (h' := h') (t' := s.toks) k
  obtain ⟨hp, g, d, t, os⟩ := s
  refine ks_wpAny_isType_cls D1 D2 ⟨rfl, ?_⟩
  refine ks_wpAny_call_super D1 D2 J.at_ J.cls (fun c z => ?_) L fun h' e' k => q _ _ (K1 h' k) e'
  rw [eo] at z
  cases z
/-- the bound ValueError.__init__ at u is called with us: the exception stays one without a dict -/
theorem mw_call (T : ExK X.K C) (I : Inv X pins σ H s) (e : H a = some (exo a C none)) {u : Addr} {us : List Value} {Q : Value → Shared → Prop}
    (hu : s.heap.get? u = some (W.kxs_mw "ValueError.__init__" a)) (hl : us.length ≤ sizeLine) (q : ∀ s', Inv X pins σ H s' → Q .none s') :
    wpAny (model X.prog X.w) X.A (call (.ref u) us) Q E s := by
  obtain ⟨nm, qn, N, bs, bm, sn, sub, ab, col, dd, k0, k1, k2, k3, k5, hC, hbm⟩ := T.oex.cls
  obtain ⟨t1, ho⟩ := exo_at I.hok e
  have W1 := fun (h' : Heap) (t2 : Addr) (k : ∀ b o, b ≠ a → s.heap.get? b = some o → h'.get? b = some o) (hx : h'.get? a = some (W.excObj C t2 none .none)) =>
    I.write (t' := s.toks) (x := a) (e := a) (o := exo a C none) (by rw [e]; exact True.intro) (.inl rfl) k ⟨_, hx⟩ (exo_ok hx)
  have same : upd H a (exo a C none) = H := by
    funext b
    by_cases hb : b = a
    · subst hb
      rw [upd_same, e]
    · rw [upd_ne hb]
  have hK := I.kIn _ _ hC
  obtain ⟨hp, g, d, t, os⟩ := s
  refine wpAny_call (codeAny_of_tree ?_)
  show wpAny _ X.A.in1 (callAny (.ref u) ⟨us, []⟩) _ _ _
  unfold callAny
  have m1 : (Value.type "method-wrapper" == Value.type "method" || Value.type "method-wrapper" == Value.type "builtin_function_or_method" ||
    Value.type "method-wrapper" == Value.type "method-wrapper") = true := by decide
  refine wpAny_bind (wpAny_load hu ?_); simp only [W.kxs_mw, m1, if_true]
  refine W.KFB.if_so (by decide) (wpAny_bind (W.check_bound_init F.excBase_ValueError.toExcCallFacts hK ho rfl (wpAny_bind (wpAny_pure (wpAny_pure ?_)))))
  refine ⟨plainId_quiet F.excBase_ValueError.init.plain _, codeAny_builtin F.excBase_ValueError.initEntry ?_⟩
  refine W.exc_init_tree (e := a) (t0 := t1) (cls := .ref C) (dv := none) (c2 := .none) (c3 := .none) (b4 := .bool false) ho hl fun h' k hx ht => ?_
  have J := W1 h' _ k hx
  rw [same] at J
  exact q _ J
/-- a block at the activation of its own def (super() asks for that) -/
structure PSA (X : Cx) (body st : List Stmt) (t : TS) : Prop where
  run : ∀ (pins : List (Addr × Obj)) (s : Shared) (σ : L2.St) (H : Hp) (D : Ends), Inv X pins σ H s → t D σ H →
    _root_.PySem.wpAt (model X.prog X.w) X.A (.func body X.env) (execs st X.env) (SP X pins D) X.xe s
theorem psa_of {body st : List Stmt} {t : TS} (h : PSs X st t) : PSA X body st t := ⟨fun pins s σ H D I q => wpAt_of_wpAny (h.run pins s σ H D I q)⟩
theorem psa_cons {body rest : List Stmt} {st : Stmt} {t u : TS} (h : PS X st t) (r : PSA X body rest u) : PSA X body (st :: rest) (tSeq t u) := by
  refine ⟨fun pins s σ H D I q => ks_wpAt_execs_cons (wpAt_of_wpAny (thn (h.run pins s σ H _ I q) fun f s1 z => ?_))⟩
  cases f with
  | next =>
    obtain ⟨σ', H', I', q⟩ := z
    exact r.run pins s1 σ' H' D I' q
  | ret v => exact z
  | brk => exact z
  | cont => exact z
/-- super().__init__(e, ..), then the rest; a: the exception that is made -/
def tSup (C : Addr) (ta : TA) (u : TS) : TS := fun D σ H => ∃ a : Addr, σ[0]? = some (some (.ref a)) ∧ H a = some (exo a C none) ∧ ta σ H fun vs H1 => vs.length ≤ 1000 ∧ H1 a = some (exo a C none) ∧ u D σ H1
theorem psa_sup {body rest : List Stmt} {e : Expr} {es : List Expr} {p0 p1 p2 pos pos2 : Pos} {ta : TA} {u : TS} {pl : Sem Bool} (S : SupAt X C) (T : ExK X.K C) (ha : PA X (e :: es) ta) (hr : PSA X body rest u)
    (hc : eval (.Call (.Attribute (.Call (.Name "super" p0) [] [] p1) "__init__" p2) (e :: es) [] pos) X.env = (do
      let ov ← attributeBase (.Call (.Name "super" p0) [] [] p1) "__init__" X.env (eval (.Call (.Name "super" p0) [] [] p1) X.env)
      standAt p2.atName
      let (f, first) ← holding [ov] (getMethod ov "__init__" pl)
      callWith pos f first (backTo pos (starEach (e :: es) X.env)) []) := by rfl)
    (he : starEach (e :: es) X.env = (false, eval e X.env) :: starEach es X.env := by rfl) (hpl : (backTo pos (starEach es X.env)).any (·.1) = false := by rfl) :
    PSA X body (.Expr (.Call (.Attribute (.Call (.Name "super" p0) [] [] p1) "__init__" p2) (e :: es) [] pos) pos2 :: rest) (tSup C ta u) := by
  refine ⟨fun pins s σ H D I q => ?_⟩
  obtain ⟨a, h0, ea, q⟩ := q
  refine ks_wpAt_execs_cons (ks_wpAt_Expr_any (ks_wpAt_MethodCall (pl := pl) (sup_obj S T I h0 ea (by decide) fun so s1 I1 hso => ?_) hc) I.quiet)
  obtain ⟨ox, J, t0, eo⟩ := exo_inst I1 ea
  obtain ⟨cd, hcd⟩ := T.is
  have hal : W.alongIn X.K "__init__" ((cd.mro.dropWhile (· != .ref C)).drop 1) = some (some (.builtin "ValueError.__init__")) := by
    have z := T.sup
    unfold W.ks_superIn at z
    rw [hcd] at z
    exact z
  have isV : W.Looks (model X.prog X.w) s1.heap (isInstance (.ref a) (.type "ValueError")) true := J.type.andThen (W.looks_subIn I1.kIn T.iV)
  have mro : W.Looks (model X.prog X.w) s1.heap (mroOf (.ref C)) cd.mro := (W.looks_clsIn I1.kIn hcd).andThen .now
  have opq := W.looks_opaque (M := model X.prog X.w) (C := C) I1.kIn T.op
  have hne : a ≠ C := W.ks_ne I1.kIn J hcd
  have K1 := fun (t' : Nat) => I1.kept (h' := s1.heap.push (W.kxs_mw "ValueError.__init__" a)) (t' := t') fun b o z => Heap.get?_push_of_some _ z
  have lt := I1.lt
  have nfs := I1.nofs (Nat.le_refl s1.heap.objs.size)
  have fresh : H s1.heap.objs.size = none := I1.hok.fresh (Nat.le_refl _)
  have KI := I1.kIn
  obtain ⟨hp, g, d, t, os⟩ := s1
  refine W.kxs_getMethod W.kxs_ValueError hso opq mro rfl KI hal isV hne (by decide) ?_
  have I2 := K1 (t + 1)
  have at_u : (hp.push (W.kxs_mw "ValueError.__init__" a)).get? hp.objs.size = some (W.kxs_mw "ValueError.__init__" a) := Heap.get?_push_at rfl rfl
  have I3 : Inv X ((hp.objs.size, W.kxs_mw "ValueError.__init__" a) :: pins) σ H ⟨hp.push (W.kxs_mw "ValueError.__init__" a), g, d, t + 1, os⟩ := I2.pins_of fun p hp' => by
    rcases List.mem_cons.mp hp' with rfl | hp'
    · exact ⟨at_u, fresh, Nat.ne_of_gt lt, nfs, fun v z => by cases z⟩
    · exact I2.pin p (List.mem_append_right _ hp')
  show wpAny _ _ (callWith pos (.ref hp.objs.size) [] (backTo pos (starEach (e :: es) X.env)) []) _ _ _
  have run := ha.run pos _ _ σ H _ I3 q
  rw [he] at run ⊢
  refine W.kxs_callWith (i := "ValueError.__init__") (x := a) (by show (false || (backTo pos (starEach es X.env)).any (·.1)) = false; rw [hpl]; rfl) (Calls.evalArgs_plain (thn run fun us s4 z => ?_))
  obtain ⟨vs, H1, I4, r4, hz, ea1, q4⟩ := z
  obtain ⟨pin, _⟩ := I4.pin _ (List.mem_append_right _ List.mem_cons_self)
  have hus : us.length ≤ sizeLine := by
    rw [← Paired.length r4, sizeLine_eq]
    omega
  refine ⟨pin, mw_call T I4 ea1 pin hus fun s5 I5 => ?_⟩
  have I6 : Inv X pins σ H1 s5 := I5.pins_of fun p hp' => I5.pin p (List.mem_append.mpr ((List.mem_append.mp (List.mem_append_right X.pn hp')).imp id (List.mem_cons_of_mem _)))
  exact hr.run pins s5 σ H1 D I6 q4
end
section
variable {CX : CXT} {P : Program} {w : World} {K : W.Frag} {mg : Str → Option Value} {base : Heap} {N ps : List Str} {k : Nat} {f cc cda C : Addr} {name qual : Str} {params : Arguments} {body : List Stmt} {scope : Scope} {sp : Sp}
/-- the words of a def over the cell of its class -/
abbrev supF (name qual : Str) (params : Arguments) (body : List Stmt) (scope : Scope) (cc cda : Addr) : NF := ⟨name, qual, params, body, scope, [("__class__", cc)], cda⟩
/-- A DEF THAT SAYS super(), by its body -/
theorem fn_sup {dV kV doc pm ct oc cl : Value} {an od cld : Option Addr} {osl csl : Array (Option Value)}
    (lk : K.lookup f = some ⟨oc, od, .func (W.fnX name qual params body scope [("__class__", cc)] dV kV doc pm an (.ref cda) ct), osl⟩) (hcd : W.codeIn K (.ref cda) qual = true)
    (hcell : K.lookup cc = some ⟨cl, cld, .cell (some (.ref C)), csl⟩) (S : NScope N ps ["__class__"] scope) (len : ∀ vs H Q E, sp vs H Q E → vs.length = ps.length)
    (hbody : ∀ (A : Around) (outer : List Env) (s : Shared) (H : Hp) (vs : List V) (Q : VK) (E : XK), Room k (A.deeper (envF (supF name qual params body scope cc cda) f s.heap.objs.size)) → sp vs H Q E →
      ∃ t, PSA (ncx CX P w K mg base N (supF name qual params body scope cc cda) f A outer s H E) body body t ∧ t { nx := fun _ H' => Q .non H', rt := Q } (startF N vs [none]) H) :
    FnOk P w K mg base CX (k + 1) f (W.fnX name qual params body scope [("__class__", cc)] dV kV doc pm an (.ref cda) ct) ps sp := by
  refine ⟨len, fun A outer s H args us vs Q E hr e0 hb r hsp => ?_⟩
  have hl := len _ _ _ _ hsp
  have KB : ∀ b o, K.lookup b = some o → s.heap.get? b = some o ∧ H b = none := fun b o e => e0.bs b o (e0.mod.kin b o e)
  have KX : K.In s.heap := fun b o e => (KB b o e).1
  have lim : s.heap.NoLimit := e0.mod.nolimit.keeps fun b o e => (e0.bs b o e).1
  have cells : CellsAt [(("__class__" : Str), cc)] ["__class__"] [none] s.heap H := by
    have one : ∀ {y : Str} {c : Addr}, List.lookup y [(("__class__" : Str), cc)] = some c → y = "__class__" ∧ c = cc := fun {y c} z => by
      have m := PySem.mem_of_lookup z
      rw [List.mem_singleton] at m
      exact ⟨congrArg Prod.fst m, congrArg Prod.snd m⟩
    refine ⟨rfl, fun y c z => ?_, fun x y c z1 z2 => (one z1).1.trans (one z2).1.symm, fun i y z => ?_⟩
    · rw [(one z).2]
      exact ⟨(KB _ _ hcell).2, _, _, (KB _ _ hcell).1, rfl⟩
    · match i, z with
      | 0, z =>
        have z : some ("__class__" : Str) = some y := z
        cases z
        exact ⟨cc, by simp [List.lookup], fun v q => by cases q⟩
  refine ks_codeAny_call_defAt hr.depth (KX _ _ lk) rfl lim (W.codeRec_of KX hcd) rfl hb S.nocell (fun ⟨n, _⟩ hy => S.par n (List.of_mem_zip hy).1) (fun h₁ hns kp => ?_) S.co S.gen S.kind
  obtain ⟨t, ht, hq⟩ := hbody A outer s H vs Q E (hr.deeper _) hsp
  have I := inv_startN (CX := CX) (P := P) (w := w) (K := K) (mg := mg) (base := base) (F := supF name qual params body scope cc cda) (f := f) (outer := outer) (E := E) (tk := s.toks + (ps.zip us).length) S hr.hd e0 hl r cells hns kp
  refine ks_wpAt_mono (ht.run [] _ _ H _ I hq) (fun fl s' hs => ?_) fun e s' hs => hs
  have fin : ∀ {σ' : L2.St} {H' : Hp} {v : V} {u : Value}, Inv (ncx CX P w K mg base N (supF name qual params body scope cc cda) f A outer s H E) [] σ' H' s' → L2.RelV v u → Q v H' → CE outer P w H s Q u s' :=
    fun {σ' H' v u} J rv q => ⟨v, H', J.os, J.bare, J.base, J.hok, rv, q⟩
  cases fl with
  | ret u => obtain ⟨v, σ', H', J, rv, q⟩ := hs; exact fin J rv q
  | next => obtain ⟨σ', H', J, q⟩ := hs; exact fin (v := V.non) (u := Value.none) J rfl q
  | brk => exact False.elim hs.choose_spec.choose_spec.2
  | cont => exact False.elim hs.choose_spec.choose_spec.2
end
section
variable {X : Cx} {pins : List (Addr × Obj)} {σ : L2.St} {H : Hp} {s : Shared} {C fI : Addr} {CX : CXT} {k : Nat} {fd : FuncData} {ps : List Str} {sp : Sp} {x : Str} {p pos p' : Pos} {e : Expr} {es : List Expr} {ta : TA} {te : TE} {f : Str}
/-- the class at C is called: its __init__ (which keeps sp) fills the new exception -/
theorem made_run {us : List Value} {vs : List V} {Q : VK} (T : ExK X.K C) (iC : W.findIn X.K (.ref C) "__init__" = some (some (.ref fI))) (tI : W.typeIn X.K (.ref fI) = some (.type "function")) (F : FnOk X.prog X.w X.K X.mg X.base CX k fI fd ps sp)
    (hr : Room (k + 1) X.A) (hb : Binds X.K fd ps []) (hx : Passes CX X (fun _ _ _ => False)) (I : Inv X pins σ H s) (r : Vals vs us) (hz : vs.length ≤ 1000)
    (h : ∀ a, H a = none → sp (.ref a :: vs) (upd H a (exo a C none)) (fun v H2 => v = .non ∧ Q (.ref a) H2) (fun _ _ _ => False)) : wpAny (model X.prog X.w) X.A (call (.ref C) us) (EP X pins σ Q) X.xe s := by
  obtain ⟨nm, q, N, bs, bm, sn, sub, ab, col, dd, k0, k1, k2, k3, k5, hC, hbm⟩ := T.oex.cls
  have hsz : s.heap.objs.size ≤ s.heap.objs.size + 1 := Nat.le_succ _
  have hq := h (s.heap.objs.size + 1) (I.hok.fresh hsz)
  have KC := I.kIn _ _ hC
  have Li := W.looks_findIn (M := model X.prog X.w) I.kIn iC
  have Lb := fun self => W.bind_fn (M := model X.prog X.w) I.kIn self tI
  have I2 : Inv X pins σ (upd H (s.heap.objs.size + 1) (exo (s.heap.objs.size + 1) C none)) { s with heap := (s.heap.push (W.kdv_tup us)).push (HandSPX.excO C s.heap.objs.size), toks := s.toks } :=
    I.laid (t' := s.toks) (fun b o z => Heap.get?_push_of_some _ (Heap.get?_push_of_some _ z)) hsz (exo_ok (t1 := s.heap.objs.size) (by heap_get))
  have r2 : Vals (V.ref (s.heap.objs.size + 1) :: vs) (Value.ref (s.heap.objs.size + 1) :: us) := .cons rfl r
  have hl : (Value.ref (s.heap.objs.size + 1) :: us).length = ps.length := by
    rw [← r2.length]
    exact F.len _ _ _ _ hq
  have hus : us.length ≤ sizeLine := by
    rw [← Paired.length r, sizeLine_eq]
    omega
  have bd := hb _ (Value.ref (s.heap.objs.size + 1) :: us) I2.kIn (by rw [List.append_nil]; exact hl)
  rw [List.append_nil] at bd
  have run := F.run _ X.stack _ _ ⟨Value.ref (s.heap.objs.size + 1) :: us, []⟩ _ _ _ (fun _ _ _ => False) (hr.make C us []) (I2.env0.make C us []) bd r2 hq
  obtain ⟨hp, g, dr, tk, os⟩ := s
  refine wpAny_call (HandSPX.call_own PySem.F.excBase_ValueError (fun Y => HandSPX.refsVE_contains Y bm hbm) KC Li Lb hus (codeAny_mono run fun rs s' z => ?_))
  cases rs with
  | error er => exact hx pins σ _ _ er s' I2 z
  | ok fl =>
    cases fl with
    | ret u =>
      obtain ⟨v, H', I3, rv, ev, q3⟩ := I2.after z
      subst ev
      exact ⟨rv, .ref _, H', I3, rfl, q3⟩
    | next => exact False.elim z
    | brk => exact False.elim z
    | cont => exact False.elim z
def tMkE (C : Addr) (sp : Sp) (ta : TA) : TE := fun σ H Q => ta σ H fun vs H1 => vs.length ≤ 1000 ∧ ∀ a, H1 a = none → sp (.ref a :: vs) (upd H1 a (exo a C none)) (fun v H2 => v = .non ∧ Q (.ref a) H2) (fun _ _ _ => False)
/-- C(e, ..) as a value -/
theorem pe_mkE (T : ExK X.K C) (iC : W.findIn X.K (.ref C) "__init__" = some (some (.ref fI))) (tI : W.typeIn X.K (.ref fI) = some (.type "function")) (F : FnOk X.prog X.w X.K X.mg X.base CX k fI fd ps sp)
    (hr : Room (k + 1) X.A) (hb : Binds X.K fd ps []) (hx : Passes CX X (fun _ _ _ => False)) (hg : Gl X x) (hm : X.mg x = some (.ref C)) (ha : PA X (e :: es) ta)
    (hdb : (x == ("__debug__" : Str)) = false := by decide) (he : starEach (e :: es) X.env = (false, eval e X.env) :: starEach es X.env := by rfl) (hpl : (backTo pos (starEach es X.env)).any (·.1) = false := by rfl) :
    PE X (.Call (.Name x p) (e :: es) [] pos) (tMkE C sp ta) := by
  refine ⟨fun pins s σ H Q I h => wpAny_Call_Name_kw (ld_glob I hg hm ?_ hdb)⟩
  exact W.callWith_K (h₀ := X.base) I.ok.mod.kin T.oex.kC (thn (ha.run pos pins s σ H _ I h) fun us s1 ⟨vs, H1, I1, r1, hz, q1⟩ => ⟨I1.kIn, made_run T iC tI F hr hb hx I1 r1 hz q1⟩) he hpl
/-- C() as a value -/
theorem pe_mkE0 (T : ExK X.K C) (iC : W.findIn X.K (.ref C) "__init__" = some (some (.ref fI))) (tI : W.typeIn X.K (.ref fI) = some (.type "function")) (F : FnOk X.prog X.w X.K X.mg X.base CX k fI fd ps sp)
    (hr : Room (k + 1) X.A) (hb : Binds X.K fd ps []) (hx : Passes CX X (fun _ _ _ => False)) (hg : Gl X x) (hm : X.mg x = some (.ref C)) (hdb : (x == ("__debug__" : Str)) = false := by decide) :
    PE X (.Call (.Name x p) [] [] pos) (tMkE C sp tNil) :=
  ⟨fun pins s σ H Q I h => wpAny_Call_Name_kw (ld_glob I hg hm (W.callWith_K0 I.kIn T.oex.kC (made_run (us := []) T iC tI F hr hb hx I .nil h.1 h.2)) hdb)⟩
/-- e.f, e an exception that is held, f one of its fields -/
def tXat (K : W.Frag) (f : Str) (te : TE) : TE := fun σ H Q => te σ H fun x H1 => ∃ (a C d : Addr) (fs : List (Str × V)) (v : V), x = .ref a ∧ ExK K C ∧ W.findIn K (.ref C) f = some none ∧
  H1 a = some (exo a C (some d)) ∧ H1 d = some (exd d fs) ∧ fs.lookup f = some v ∧ Q v H1
theorem pe_xat (he : PE X e te) (hb : attributeBase e f X.env (eval e X.env) = eval e X.env := by rfl) : PE X (.Attribute e f pos) (tXat X.K f te) := by
  refine ⟨fun pins s σ H Q I h => attr_of hb (thn (he.run pins s σ H _ I h) fun u s1 hh => ?_)⟩
  obtain ⟨y, H1, I1, ry, a, C, d, fs, v, ey, T, hno, ea, ed, hv, q⟩ := hh
  subst ey
  have ry : u = Value.ref a := ry
  subst ry
  obtain ⟨t1, ha⟩ := exo_at I1.hok ea
  obtain ⟨mA, hns, rel⟩ := exd_at I1.hok ed
  obtain ⟨od, ho, hl⟩ := lookIn_ns hns
  obtain ⟨w, hw, rw'⟩ := RelO.some_of (v := v) (o := mA f) (by rw [← hv]; exact rel f)
  exact HandSPX.exc_get (C := C) (od := some od) I1.kIn ⟨ha, rfl, rfl, ho⟩ T.ga T.gg T.oex.exC (W.findObj_own T.hd hno rfl (by rw [hl, hw])) (handed_of rw') ⟨v, H1, I1.tok _, rw', q⟩
/-- isinstance(e, c), e an exception that is held -/
def rIsX (K : W.Frag) : List V → Hp → VK → Prop := fun xs H Q => ∃ (a C : Addr) (d : Option Addr) (c : V) (cv : Value) (b : Bool), xs = [.ref a, c] ∧ ExK K C ∧ H a = some (exo a C d) ∧
  (∀ dx, d = some dx → ∃ fs, H dx = some (exd dx fs)) ∧ (∀ u, RelV c u → u = cv) ∧ W.kitOne K (.ref C) cv = some b ∧ Q (.bl b) H
theorem call_isX : CallR X (.builtin "isinstance") (rIsX X.K) := by
  intro pins s σ H xs us Q I r h
  obtain ⟨a, C, d, c, cv, b, rfl, T, ea, hd, hcv, kt, q⟩ := h
  match us, r with
  | [_, _], .cons rx (.cons rt .nil) =>
    cases rx
    have ec := hcv _ rt
    subst ec
    obtain ⟨t1, ha⟩ := exo_at I.hok ea
    have Z := fun (od : Option Obj) => W.kitx_exc (x := a) (ox := { cls := .ref C, dict := d, data := .fields #[.ref t1, .none, .none, .none, .bool false, .none] }) (od := od)
      (by obtain ⟨cd, z⟩ := T.is; rw [z]; rfl) T.ga T.gg T.oex.exC T.ca T.cn T.ct T.cm
    have fin : ∀ tk, EP X pins σ Q (.bool b) { s with toks := tk } := fun tk => ⟨.bl b, H, I.tok tk, rfl, q⟩
    cases d with
    | none => exact W.kia_one (Z none) I.kIn ⟨ha, rfl, rfl, trivial⟩ kt (fun z => nomatch z) fin
    | some dx =>
      obtain ⟨fs, e2⟩ := hd dx rfl
      obtain ⟨mA, hns, rel⟩ := exd_at I.hok e2
      obtain ⟨od, ho, hl⟩ := lookIn_ns hns
      exact W.kia_one (Z (some od)) I.kIn ⟨ha, rfl, rfl, ho⟩ kt (fun z => nomatch z) fin
end
end FP
set_option Elab.async false
set_option linter.all false
set_option maxRecDepth 100000
set_option maxHeartbeats 4000000
set_option exponentiation.threshold 2000
namespace FP
open PySem PySem.Spec PyProof.Rows L2
def twelve : List Str := ["p", "q", "a", "b", "x", "y", "low", "ends", "pointer", "sames", "callee", "abcdefghijkl"]
theorem twelve_ok : ∀ y ∈ twelve, PyData.strOk y = true := by decide +kernel
/-- some of the twelve names, in some order: a new list -/
def spNames : Sp := fun vs H Q _ => ∃ (p a : Addr) (ns : List Int) (t l m : Int), vs = [.ref p, .int m] ∧ PenAt H p a ns t l ∧ t ≤ 999000 ∧ 0 ≤ m ∧ m ≤ 12 ∧
  ∀ (r : Addr) (ys : List Str) (t' l' : Int) (H' : Hp), ys.Perm twelve → t ≤ t' → t' ≤ t + 12 → But p H H' → PenAt H' p a ns t' l' → H r = none → H' r = some (.lst ((ys.take m.toNat).map V.str)) → Q (.ref r) H'
/-- a new pen over the script -/
def spPen (K : W.Frag) : Sp := fun vs H Q _ => ∃ (o : Addr) (ns : List Int), vs = [.ref o] ∧ SqL K H o (ns.map V.int) ∧ ns.length ≤ 63 ∧
  ∀ (p a : Addr) (H' : Hp), H p = none → Same H H' → PenAt H' p a ns 0 0 → Q (.ref p) H'
section
variable {P : Program} {w : World} {K : W.Frag} {mg : Str → Option Value} {base : Heap}
theorem scN : FnScope ["_law_pen", "_law_many", "_law_found"] ["_law_pen", "_law_many"] (defScope sNames) := ⟨rfl, rfl, rfl, by decide +kernel, rfl, by decide +kernel, by decide +kernel⟩
theorem cut_take (xs : List V) (m : Int) (h : 0 ≤ m) : cutV xs none (some m) = xs.take m.toNat := by
  have e : HT.sIx xs.length 0 none = 0 := rfl
  unfold cutV
  rw [e, List.drop_zero, Nat.sub_zero]
  obtain ⟨n, rfl⟩ : ∃ n : Nat, m = (n : Int) := ⟨_, (Int.toNat_of_nonneg h).symm⟩
  rw [HT.sIx_nat, Int.toNat_natCast]
  rcases Nat.le_total n xs.length with z | z
  · rw [Nat.min_eq_left z]
  · rw [Nat.min_eq_right z, List.take_length, List.take_of_length_le z]
theorem ok_names {f : Addr} {fd : FuncData} (F : Fun K "_law_new_names" "_law_new_names" sNames f fd) (D : Def P w K mg base "_law_shuffled" 2 ["_law_pen", "_law_items"] spShuf) : FnOk P w K mg base CX0 3 f fd ["_law_pen", "_law_many"] spNames := by
  obtain ⟨fD, fdD, gD, kD, bD, GD⟩ := D.ex
  refine F.ok scN (fun vs H Q E h => ?_) (fun cdv A outer s H vs Q E hr h => ?_)
  · obtain ⟨p, a, ns, t, l, m, rfl, _⟩ := h
    rfl
  obtain ⟨p, a, ns, t, l, m, rfl, PA0, ht, h0, h1, k⟩ := h
  refine ⟨_, pss_cons (ps_set (i := 2) scN.nd rfl (.inl rfl) (pe_lst (pa_cons pe_str (pa_cons pe_str (pa_cons pe_str (pa_cons pe_str (pa_cons pe_str (pa_cons pe_str (pa_cons pe_str (pa_cons pe_str (pa_cons pe_str (pa_cons pe_str (pa_cons pe_str (pa_cons pe_str pa_nil))))))))))))))
    (pss_one (ps_ret (pe_slice sl_list (pe_call GD hr rfl gD kD bD .nil pass0 (pa_cons (pv 0) (pa_cons (pv 2) pa_nil))) po_none (po_some (pv 1))))), ?_⟩
  refine ⟨(by rw [sizeLine_eq]; exact (by decide : 12 ≤ 16777216)), fun o ho => ?_⟩
  have nop : o ≠ p := (ne_of_none PA0.p ho).symm
  refine ⟨_, rfl, _, rfl, p, a, o, ns, t, l, twelve, rfl, PA0.new ho, by show t + 12 ≤ 1000000; omega, nop, upd_same, by show 12 ≤ 1000; decide, twelve_ok, ?_⟩
  intro r ys t' l' H' pm t1 t2 b PA1 hr0 er
  have nro : r ≠ o := fun z => by rw [z, upd_same] at hr0; cases hr0
  rw [upd_ne nro] at hr0
  have b0 : But p H H' := fun c u n e => b c u n ((upd_ne (ne_of_none e ho)).trans e)
  refine ⟨_, rfl, m, rfl, r, _, rfl, SqL.of er, fun z hz => ?_⟩
  rw [cut_take _ _ h0, ← List.map_take]
  have hz0 : H z = none := by
    cases e : H z with
    | none => rfl
    | some u => by_cases zp : z = p
                · rw [zp, PA1.p] at hz; cases hz
                · rw [b0 z u zp e] at hz; cases hz
  exact k z ys t' l' _ pm t1 (by have : t' ≤ t + 12 := t2; omega) (b0.new hz) (PA1.new hz) hz0 upd_same
theorem scB : FnScope ["_law_script"] ["_law_script"] (defScope sPen) := ⟨rfl, rfl, rfl, by decide +kernel, rfl, by decide +kernel, by decide +kernel⟩
theorem ok_pen {f : Addr} {fd : FuncData} (F : Fun K "_law_begun_pen" "_law_begun_pen" sPen f fd) (B : Blt mg) : FnOk P w K mg base CX0 1 f fd ["_law_script"] (spPen K) := by
  refine F.ok scB (fun vs H Q E h => ?_) (fun cdv A outer s H vs Q E hr h => ?_)
  · obtain ⟨o, ns, rfl, _⟩ := h
    rfl
  obtain ⟨o, ns, rfl, hS, hl, k⟩ := h
  refine ⟨_, pss_one (ps_ret (pe_disp (pps_cons pe_str (pe_callTy call_list_of (by rfl) B.list (by decide +kernel) (pa_cons (pe_slice sl_list (pv 0) po_none (po_some pe_int)) pa_nil)) (pps_cons pe_str pe_int (pps_cons pe_str pe_int pps_nil)))
    (by rfl) (by rfl) (fun z => by cases z) (by decide))), ?_⟩
  intro p hp
  have S1 : ∀ {b : Addr} {u : HO}, H b = some u → upd H p (.dK []) b = some u := fun {b u} e => (upd_ne (ne_of_none e hp)).trans e
  have S2 : Same H (upd H p (.dK [])) := fun b u e => S1 e
  refine ⟨_, rfl, 63, rfl, o, _, rfl, S2.seq hS, fun z hz => ⟨z, _, rfl, .inl (SqL.of upd_same), fun l hl0 => ?_⟩⟩
  have nzp : z ≠ p := fun e => by rw [e, upd_same] at hz; cases hz
  have nlz : l ≠ z := fun e => by rw [e, upd_same] at hl0; cases hl0
  rw [upd_ne nlz] at hl0
  have nlp : l ≠ p := fun e => by rw [e, upd_same] at hl0; cases hl0
  have hl1 : H l = none := by rwa [upd_ne nlp] at hl0
  have hz1 : H z = none := by rwa [upd_ne nzp] at hz
  have cut : cutV (ns.map V.int) none (some 63) = ns.map V.int := by
    rw [cut_take _ _ (by decide)]
    exact List.take_of_length_le (by rw [List.length_map]; exact hl)
  refine ⟨(upd_ne nlp.symm).trans ((upd_ne nzp.symm).trans upd_same), penD l 0 0, rfl, by show 3 ≤ 15; decide, k p l _ hp (fun b u e => ?_) ⟨upd_same, ?_, hl, Int.le_refl _, Int.le_refl _⟩⟩
  · rw [upd_ne (ne_of_none e hp), upd_ne (ne_of_none e hl1), upd_ne (ne_of_none e hz1), upd_ne (ne_of_none e hp)]
    exact e
  · rw [upd_ne nlp, upd_same, cut]
end
end FP
set_option Elab.async false
set_option linter.all false
set_option maxRecDepth 100000
set_option maxHeartbeats 4000000
set_option exponentiation.threshold 2000
/-! BadProgram: how it is made, how an error of it is asked for its class. -/
namespace FP
open PySem PySem.Spec PyProof.Rows L2 NdefX
/-- what the written part says of a def that says super(): its function, its code's record, its class's cell -/
structure SupDef (K : W.Frag) (mg : Str → Option Value) (qual : Str) (st : Stmt) (C f : Addr) (fd : FuncData) : Prop where
  ex : ∃ (cc cda : Addr) (dV kV doc pm ct oc cl : Value) (an od cld od2 : Option Addr) (osl csl sl2 : Array (Option Value)) (c2 : Value) (vs : Array Value) (tf : Tok),
    fd = W.fnX "__init__" qual (defArgs st) (defBody st) (defScope st) [("__class__", cc)] dV kV doc pm an (.ref cda) ct ∧ K.lookup f = some ⟨oc, od, .func fd, osl⟩ ∧ W.codeIn K (.ref cda) qual = true ∧
    K.lookup cc = some ⟨cl, cld, .cell (some (.ref C)), csl⟩ ∧ K.lookup cda = some ⟨c2, od2, .fields vs, sl2⟩ ∧ vs[2]? = some (.str "/claim/cut.py" tf)
  mg : mg "super" = none
theorem shortB {x y : Str} {a b : Nat} (hx : x.length ≤ a) (hy : y.length ≤ b) : (x ++ y).length ≤ a + b := by
  rw [strLen_append]
  omega
theorem lineB {x : Str} {a : Nat} (hx : x.length ≤ a) (ha : a ≤ 16777216) : x.length ≤ sizeLine := by
  rw [sizeLine_eq]
  omega
theorem intB {i : Int} (h : i.natAbs.log2 < 1920) : (Str.ofString (toString i)).length ≤ 2000 := by
  have e := int_text_length_le (k := 1920) (by decide) h
  rw [PySem.ofString_length]
  omega
theorem pp_file : ((PP.main.file : Str) == ("/claim/cut.py" : Str)) = true := by decide +kernel
theorem pp_sup : (PP.main.scope.names.lookup ("super" : Str)).isSome = false := by decide +kernel
/-- an __init__ of one field -/
def spE (C : Addr) (f : Str) (ok : V → Prop) : Sp := fun vs H Q _ => ∃ (a : Addr) (v : V), vs = [.ref a, v] ∧ H a = some (exo a C none) ∧ ok v ∧ ∀ dx, H dx = none → dx ≠ a → Q .non (upd (upd H dx (exd dx [(f, v)])) a (exo a C (some dx)))
def okI (v : V) : Prop := ∃ i : Int, v = .int i ∧ i.natAbs.log2 < 1920
theorem scBadP : NScope ["self", "line", "__class__"] ["self", "line"] ["__class__"] (defScope mBadProgram_init) := nscope_by (by decide +kernel)
theorem ok_badP {w : World} {K : W.Frag} {mg : Str → Option Value} {base : Heap} {C f : Addr} {fd : FuncData} (S : SupDef K mg "BadProgram.__init__" mBadProgram_init C f fd) (T : ExK K C) (no : W.findIn K (.ref C) "line" = some none) :
    FnOk PP w K mg base CX0 1 f fd ["self", "line"] (spE C "line" okI) := by
  obtain ⟨cc, cda, dV, kV, doc, pm, ct, oc, cl, an, od, cld, od2, osl, csl, sl2, c2, vs, tf, rfl, lk, hcd, hcell, hcode, hfile⟩ := S.ex
  refine fn_sup lk hcd hcell scBadP (fun vs H Q E h => ?_) fun A outer s H vs Q E hr h => ?_
  · obtain ⟨a, v, rfl, _⟩ := h
    rfl
  obtain ⟨a, v, rfl, ha, ⟨i, rfl, hz⟩, k⟩ := h
  refine ⟨_, psa_sup (C := C) ⟨rfl, rfl, ⟨f, _, _, _, rfl, lk, rfl, rfl, rfl, rfl⟩, ⟨cda, _, vs, _, tf, rfl, hcode, rfl, hfile, pp_file⟩, ⟨cc, _, by rfl, hcell, rfl⟩, pp_sup, S.mg⟩ T
    (pa_cons (pe_joined (.cons pe_str (.cons (pe_fmt (pv 1)) (.cons pe_str .nil)))) pa_nil) (psa_of (pss_one (ps_ost (pv 0) (pv 1)))), ?_⟩
  refine ⟨a, rfl, ha, ?_⟩
  have z0 : (Str.empty).length ≤ 0 := Nat.le_refl _
  refine ⟨_, rfl, lineB (shortB z0 (b := 100) (by decide +kernel)) (by decide), _, rfl, .inr ⟨i, rfl, hz, _, rfl, lineB (shortB (shortB z0 (b := 100) (by decide +kernel)) (intB hz)) (by decide), _, rfl, lineB (shortB (shortB (shortB z0 (b := 100) (by decide +kernel)) (intB hz)) (b := 100) (by decide +kernel)) (by decide), by show 1 ≤ 1000; decide, ha, _, rfl, _, rfl, a, C, rfl, T.oex, no, .inl ⟨ha, fun dx n ne => k dx n ne⟩⟩⟩
/-- isinstance of the error that an except suite holds, where it has its dict -/
def rIsD (K : PySem.W.Frag) (C a : Addr) (cls : Value) (d : Option Addr) : List V → Hp → VK → Prop := fun xs H Q => ∃ (c : V) (cv : Value) (b : Bool) (dd : Addr) (fs : List (Str × V)), cls = .ref C ∧ d = some dd ∧ H dd = some (.xd fs) ∧ xs = [.ref a, c] ∧ (∀ u, RelV c u → u = cv) ∧ PySem.W.kitOne K (.ref C) cv = some b ∧ Q (.bl b) H
theorem call_isD {X : Cx} {a C : Addr} {oe : Obj} {pn : List (Addr × Obj)} {cls : Value} {d : Option Addr} (T : ExK X.K C) (hz : Zc cls d oe) (hf : ∃ vs, oe.data = .fields vs) : CallR (X.suite a ((a, oe) :: pn)) (.builtin "isinstance") (rIsD X.K C a cls d) := by
  intro pins s σ H xs us Q I r h
  obtain ⟨c, cv, b, dd, fs, rfl, rfl, ea, rfl, hcv, e, q⟩ := h
  cases r with
  | cons rx rr =>
    cases rr with
    | cons rt rr =>
      cases rr
      cases rx
      have ec := hcv _ rt
      subst ec
      obtain ⟨hget, _⟩ := I.pin (a, oe) (List.mem_append.mpr (.inl List.mem_cons_self))
      obtain ⟨vs, hv⟩ := hf
      have hx : ObjOk X.prog X.w H s.heap dd (.xd fs) := I.hok dd _ ea
      obtain ⟨mA, hns, hr⟩ := hx
      obtain ⟨od, ho, hl⟩ := lookIn_ns hns
      have J : PySem.W.InstAt s.heap a oe C (some od) := ⟨hget, hz.1, by unfold PySem.W.notCls; rw [hv] <;> rfl, by rw [hz.2]; exact ho⟩
      exact PySem.W.kia_one (PySem.W.kitx_exc (by obtain ⟨cd, h⟩ := T.is; exact Option.isSome_iff_exists.mpr ⟨cd, h⟩) T.ga T.gg T.oex.exC T.ca T.cn T.ct T.cm) I.kIn J e (fun z => nomatch z) fun tk => ⟨.bl b, H, I.kept (t' := tk) fun _ _ z => z, rfl, q⟩
end FP
set_option Elab.async false
set_option linter.all false
set_option maxRecDepth 100000
/-! The first wrong line of a text: as the program's reader finds it, as a second reader finds it, and that both find the same. -/
namespace FP
open PySem
def goW (m : Nat) (M : ShM) : List (List Str) → Nat → Nat
  | [], k => if M.nest.length = 1 then 0 else k + 1
  | l :: r, k => if m ≤ k then k + 1 else match takeM M l with
      | none => k + 1
      | some M' => goW m M' r (k + 1)
def wrongM (x : Str) (m : Nat) : Nat := goW m ShM.new ((linesM x).map fun l => Txt.split l " ") 0
abbrev BlL := List (Str × List Str)
def formsC : List (Str × Nat) := [("input", 2), ("use", 2), ("call", 2), ("copy", 4), ("point", 4), ("load", 4), ("store", 4)]
def isDeed (words seen : List Str) : Bool := match formsC.lookup (words.getD 0 "") with
  | none => false
  | some n => decide (words.length = n) && seen.contains (words.getD 1 "") && (decide (words.length = 2) || (decide (words.getD 2 "" = if words.getD 0 "" = "load" then ("from" : Str) else ("to" : Str)) && seen.contains (words.getD 3 "")))
def seenB (B : BlL) : List Str := B.flatMap (·.2)
def topB (B : BlL) : Str × List Str := B.getLast?.getD ("", [])
def lineRead (B : BlL) (E : List Str) (f : Bool) (words : List Str) : Option (BlL × List Str) :=
  if words.getD 0 "" = "local" then
    if f = true ∧ ((words.drop 1).filter fun x => isName x && !E.contains x) = words.drop 1 ∧ words.drop 1 ≠ [] ∧ (E ++ words.drop 1).length ≤ 5 ∧ (E ++ words.drop 1).Nodup then
      some (B.dropLast ++ [((topB B).1, (topB B).2 ++ words.drop 1)], E ++ words.drop 1) else none
  else if openL.contains (words.getD 0 "") = true then
    if (if words.getD 0 "" = "same" then decide ((words.drop 1).length = 2) && ((seenB B).contains ((words.drop 1).getD 0 "") && (seenB B).contains ((words.drop 1).getD 1 "")) else decide (words.drop 1 = [])) = true ∧ B.length + 1 ≤ 6 then some (B ++ [(words.getD 0 "", [])], E) else none
  else if words = [("else" : Str)] then if twoL.contains (topB B).1 = true then some (B.dropLast ++ [(("else" : Str), [])], E) else none
  else if words = [("end" : Str)] then if (topB B).1 ≠ ("text" : Str) then some (B.dropLast, E) else none
  else if isDeed words (seenB B) = true then some (B, E) else none
def openE : List Str := ["block", "loop", "maybe", "same", "else"]
def firstOf (words : List Str) : Bool := openE.contains (words.getD 0 "")
def goL (B : BlL) (E : List Str) (f : Bool) : List (List Str) → Nat → Nat
  | [], k => if B.length = 1 then 0 else k + 1
  | l :: r, k => if k = 40 then k + 1 else match lineRead B E f l with
      | none => k + 1
      | some p => goL p.1 p.2 (firstOf l) r (k + 1)
def wrongL (x : Str) : Nat := goL [("text", [])] [] true ((linesM x).map fun l => Txt.split l " ") 0
/-! ### they find the same -/
def kindOf (M : ShM) (n : Nat) : Str := if n = 0 then "text" else (M.rows[n]?.map (·.word)).getD ""
def cellsOf (M : ShM) (n : Nat) : List Str := (M.homes.filter fun p => decide (p.2 = n)).map (·.1)
def blocksOf (M : ShM) : BlL := M.nest.map fun n => (kindOf M n, cellsOf M n)
def namesOf (M : ShM) : List Str := M.homes.map (·.1)
structure Iv (M : ShM) : Prop where
  so : M.nest.Pairwise (· < ·)
  lt : ∀ n ∈ M.nest, n < M.rows.length
  hd : M.nest.head? = some 0
  z : M.rows[0]?.map (·.word) = some ("" : Str)
  ar : ∀ n ∈ M.nest, n ≠ 0 → getN M.around n ≠ none
  kw : ∀ n ∈ M.nest, n ≠ 0 → openE.contains (kindOf M n) = true
  hv : ∀ p ∈ M.homes, p.2 < M.rows.length
  kn : (namesOf M).Nodup
  h5 : M.homes.length ≤ 5
theorem Iv.last {M : ShM} (I : Iv M) : ∃ b l, M.nest = b ++ [l] ∧ M.nest.getLast? = some l ∧ l < M.rows.length ∧ M.nest.dropLast = b := by
  have hd := I.hd
  have : M.nest ≠ [] := by intro z; rw [z] at hd; cases hd
  obtain ⟨b, l, e⟩ : ∃ b l, M.nest = b ++ [l] := ⟨_, _, (List.dropLast_concat_getLast this).symm⟩
  exact ⟨b, l, e, by rw [e, List.getLast?_concat], I.lt l (by rw [e]; simp), by rw [e, List.dropLast_concat]⟩
theorem setRow_word (rows : List RowM) (i : Nat) (f : RowM → RowM) (hf : ∀ r, (f r).word = r.word) (n : Nat) : (setRow rows i f)[n]?.map (·.word) = rows[n]?.map (·.word) := by
  unfold setRow
  split
  · rename_i m em
    by_cases c : i = n
    · subst c
      rw [List.getElem?_set_self (List.getElem?_eq_some_iff.mp em).1, em]
      show some (f m).word = some m.word
      rw [hf]
    · rw [List.getElem?_set_ne c]
  · rfl
theorem setRow_len' (rows : List RowM) (i : Nat) (f : RowM → RowM) : (setRow rows i f).length = rows.length := by
  unfold setRow
  split
  · exact List.length_set
  · rfl
theorem homeOf_iff {h : List (Str × Nat)} {x : Str} {n : Nat} (nd : (h.map (·.1)).Nodup) : homeOf h x = some n ↔ (x, n) ∈ h := by
  unfold homeOf
  induction h with
  | nil => simp
  | cons p r ih =>
    obtain ⟨a, b⟩ := p
    rw [List.map_cons, List.nodup_cons] at nd
    rw [List.find?_cons]
    by_cases c : a = x
    · subst c
      simp only [decide_true, Option.map_some, Option.some.injEq, List.mem_cons, Prod.mk.injEq, true_and]
      constructor
      · intro z; exact .inl z.symm
      · rintro (z | z)
        · exact z.symm
        · exact absurd (List.mem_map.mpr ⟨_, z, rfl⟩) nd.1
    · simp only [c, decide_false, List.mem_cons, Prod.mk.injEq]
      rw [ih nd.2]
      constructor
      · intro z; exact .inr z
      · rintro (z | z)
        · exact absurd z.1.symm c
        · exact z
theorem homeOf_non {h : List (Str × Nat)} {x : Str} : homeOf h x = none ↔ x ∉ h.map (·.1) := by
  unfold homeOf
  rw [Option.map_eq_none_iff, List.find?_eq_none]
  constructor
  · intro z hm
    obtain ⟨p, hp, e⟩ := List.mem_map.mp hm
    exact z p hp (by rw [e]; simp)
  · intro z p hp e
    exact z (List.mem_map.mpr ⟨p, hp, of_decide_eq_true e⟩)
theorem seen_same {M : ShM} (I : Iv M) (x : Str) : (seenB (blocksOf M)).contains x = seenM M x := by
  rw [Bool.eq_iff_iff, List.contains_iff_mem]
  unfold seenB blocksOf cellsOf seenM
  rw [List.mem_flatMap]
  constructor
  · rintro ⟨q, hq, hx⟩
    obtain ⟨n, hn, rfl⟩ := List.mem_map.mp hq
    obtain ⟨p, hp, e⟩ := List.mem_map.mp hx
    obtain ⟨hp1, hp2⟩ := List.mem_filter.mp hp
    obtain ⟨a, b⟩ := p
    replace e : a = x := e
    subst e
    replace hp2 : b = n := of_decide_eq_true hp2
    subst hp2
    rw [(homeOf_iff I.kn).mpr hp1]
    exact List.contains_iff_mem.mpr hn
  · intro h
    cases e : homeOf M.homes x with
    | none => rw [e] at h; cases h
    | some n =>
      rw [e] at h
      exact ⟨_, List.mem_map.mpr ⟨n, List.contains_iff_mem.mp h, rfl⟩, List.mem_map.mpr ⟨(x, n), List.mem_filter.mpr ⟨(homeOf_iff I.kn).mp e, by simp⟩, rfl⟩⟩
theorem addNames_w (n : Nat) : ∀ (ns : List Str) (h : List (Str × Nat)), (h.map (·.1)).Nodup → h.length ≤ 5 →
    addNames n h ns = if (∀ x ∈ ns, isName x = true) ∧ (h.map (·.1) ++ ns).Nodup ∧ (h.map (·.1) ++ ns).length ≤ 5 then some (h ++ ns.map fun x => (x, n)) else none
  | [], h, nd, h5 => by
    rw [if_pos ⟨fun _ z => (nomatch z), by simpa using nd, by simpa using h5⟩]
    simp [addNames]
  | x :: r, h, nd, h5 => by
    show (addName n h x).bind (fun h => addNames n h r) = _
    unfold addName
    by_cases c : isName x = true ∧ homeOf h x = none ∧ h.length ≠ 5
    · rw [if_pos c]
      obtain ⟨c1, c2, c3⟩ := c
      have nx := homeOf_non.mp c2
      have nd' : ((h ++ [(x, n)]).map (·.1)).Nodup := by
        rw [List.map_append]
        refine List.nodup_append.mpr ⟨nd, by simp, ?_⟩
        intro a ha b hb e
        replace hb : b = x := by simpa using hb
        rw [e, hb] at ha
        exact nx ha
      have ih := addNames_w n r (h ++ [(x, n)]) nd' (by rw [List.length_append]; simp; omega)
      rw [Option.bind_some, ih]
      have e1 : (h ++ [(x, n)]).map (·.1) ++ r = h.map (·.1) ++ x :: r := by simp
      rw [e1]
      have e2 : h ++ [(x, n)] ++ r.map (fun y => (y, n)) = h ++ (x :: r).map (fun y => (y, n)) := by simp
      rw [e2]
      by_cases q : (∀ y ∈ r, isName y = true) ∧ (h.map (·.1) ++ x :: r).Nodup ∧ (h.map (·.1) ++ x :: r).length ≤ 5
      · rw [if_pos q, if_pos ⟨fun y hy => (List.mem_cons.mp hy).elim (fun z => by rw [z]; exact c1) (q.1 y), q.2⟩]
      · rw [if_neg q, if_neg fun z => q ⟨fun y hy => z.1 y (List.mem_cons_of_mem _ hy), z.2⟩]
    · have nq : ¬ ((∀ y ∈ x :: r, isName y = true) ∧ (h.map (·.1) ++ x :: r).Nodup ∧ (h.map (·.1) ++ x :: r).length ≤ 5) := fun z => by
        refine c ⟨z.1 x (List.mem_cons_self ..), homeOf_non.mpr fun hx => ?_, fun e => ?_⟩
        · exact (List.nodup_append.mp z.2.1).2.2 x hx x (List.mem_cons_self ..) rfl
        · have := z.2.2
          rw [List.length_append, List.length_map, List.length_cons] at this
          omega
      rw [if_neg c, if_neg nq]
      rfl

theorem kindOf_congr {M M' : ShM} {n : Nat} (h : M'.rows[n]?.map (·.word) = M.rows[n]?.map (·.word)) : kindOf M' n = kindOf M n := by
  unfold kindOf
  rw [h]
theorem word_app {rows : List RowM} {r : RowM} {n : Nat} (h : n < rows.length) : (rows ++ [r])[n]?.map (·.word) = rows[n]?.map (·.word) := by rw [List.getElem?_append_left h]
theorem word_at {rows : List RowM} {r : RowM} : (rows ++ [r])[rows.length]?.map (·.word) = some r.word := by rw [List.getElem?_concat_length]; rfl
/-- the first and the top of the open blocks -/
theorem topB_of {M : ShM} {b : List Nat} {l : Nat} (e : M.nest = b ++ [l]) : topB (blocksOf M) = (kindOf M l, cellsOf M l) ∧ (blocksOf M).dropLast = b.map fun n => (kindOf M n, cellsOf M n) := by
  unfold topB blocksOf
  rw [e, List.map_append]
  exact ⟨by simp, by simp⟩
/-- .. stays so when a row comes -/
theorem Iv.row {M : ShM} (I : Iv M) (r : RowM) : Iv ⟨M.rows ++ [r], M.homes, M.around, M.nest⟩ := by
  refine ⟨I.so, fun n hn => ?_, I.hd, ?_, I.ar, fun n hn n0 => ?_, fun p hp => ?_, I.kn, I.h5⟩
  · have := I.lt n hn
    show n < (M.rows ++ [r]).length
    rw [List.length_append]; omega
  · have z0 : 0 < M.rows.length := I.lt 0 (by have := I.hd; cases e : M.nest with | nil => rw [e] at this; cases this | cons a t => rw [e] at this; cases this; exact List.mem_cons_self ..)
    exact (word_app z0).trans I.z
  · rw [kindOf_congr (M := M) (word_app (I.lt n hn))]
    exact I.kw n hn n0
  · have := I.hv p hp
    show p.2 < (M.rows ++ [r]).length
    rw [List.length_append]; omega
theorem Iv.row_blocks {M : ShM} (I : Iv M) (r : RowM) : blocksOf ⟨M.rows ++ [r], M.homes, M.around, M.nest⟩ = blocksOf M := by
  unfold blocksOf
  refine List.map_congr_left fun n hn => ?_
  rw [kindOf_congr (M := M) (word_app (I.lt n hn))]
  rfl
/-- what a step of both readers says -/
def StepOk (M : ShM) (words : List Str) (a : Option ShM) (b : Option (BlL × List Str)) : Prop :=
  match a, b with
  | none, none => True
  | some M', some p => Iv M' ∧ p = (blocksOf M', namesOf M') ∧ firstOf words = decide (M'.nest.getLast? = some (M'.rows.length - 1))
  | _, _ => False
theorem step_declare {M : ShM} (I : Iv M) {f : Bool} (hf : f = decide (M.nest.getLast? = some (M.rows.length - 1))) (ns : List Str) :
    StepOk M ("local" :: ns) (declareM M ns) (lineRead (blocksOf M) (namesOf M) f ("local" :: ns)) := by
  obtain ⟨b, l, eb, hl, hll, hdr⟩ := I.last
  have e1 : lineRead (blocksOf M) (namesOf M) f ("local" :: ns) = if f = true ∧ (ns.filter fun x => isName x && !(namesOf M).contains x) = ns ∧ ns ≠ [] ∧ (namesOf M ++ ns).length ≤ 5 ∧ (namesOf M ++ ns).Nodup then
      some ((blocksOf M).dropLast ++ [((topB (blocksOf M)).1, (topB (blocksOf M)).2 ++ ns)], namesOf M ++ ns) else none := rfl
  rw [e1]
  unfold declareM
  by_cases c : ns ≠ [] ∧ M.nest.getLast? = some (M.rows.length - 1)
  · rw [if_pos c]
    have hft : f = true := by rw [hf]; exact decide_eq_true c.2
    have ea : addNames (M.rows.length - 1) M.homes ns = if (∀ x ∈ ns, isName x = true) ∧ (namesOf M ++ ns).Nodup ∧ (namesOf M ++ ns).length ≤ 5 then some (M.homes ++ ns.map fun x => (x, M.rows.length - 1)) else none := addNames_w _ ns M.homes I.kn I.h5
    by_cases q : (∀ x ∈ ns, isName x = true) ∧ (namesOf M ++ ns).Nodup ∧ (namesOf M ++ ns).length ≤ 5
    · rw [ea, if_pos q]
      have hfil : (ns.filter fun x => isName x && !(namesOf M).contains x) = ns := by
        refine List.filter_eq_self.mpr fun x hx => ?_
        rw [q.1 x hx, Bool.true_and, Bool.not_eq_true']
        refine Bool.eq_false_iff.mpr fun z => ?_
        exact (List.nodup_append.mp q.2.1).2.2 x (List.contains_iff_mem.mp z) x hx rfl
      rw [if_pos ⟨hft, hfil, c.1, q.2.2, q.2.1⟩]
      have hlast : l = M.rows.length - 1 := Option.some.inj (hl.symm.trans c.2)
      rw [Option.map_some]
      have I1 := I.row ⟨"local", ns, M.rows.length + 1, 0⟩
      refine ⟨⟨I1.so, I1.lt, I1.hd, I1.z, I1.ar, I1.kw, fun p hp => ?_, ?_, ?_⟩, ?_, ?_⟩
      · show p.2 < (M.rows ++ [_]).length
        rw [List.length_append, List.length_singleton]
        rcases List.mem_append.mp hp with z | z
        · have := I.hv p z
          omega
        · obtain ⟨x, _, rfl⟩ := List.mem_map.mp z
          show M.rows.length - 1 < _
          omega
      · show ((M.homes ++ ns.map fun x => (x, M.rows.length - 1)).map (·.1)).Nodup
        rw [List.map_append, List.map_map]
        have : ns.map ((fun p : Str × Nat => p.1) ∘ fun x => (x, M.rows.length - 1)) = ns := by
          rw [show ((fun p : Str × Nat => p.1) ∘ fun x => (x, M.rows.length - 1)) = id from rfl, List.map_id]
        rw [this]
        exact q.2.1
      · have := q.2.2
        unfold namesOf at this
        rw [List.length_append, List.length_map] at this
        show (M.homes ++ ns.map fun x => (x, M.rows.length - 1)).length ≤ 5
        rw [List.length_append, List.length_map]
        exact this
      · have hn2 : namesOf (⟨M.rows ++ [⟨"local", ns, M.rows.length + 1, 0⟩], M.homes ++ ns.map fun x => (x, M.rows.length - 1), M.around, M.nest⟩ : ShM) = namesOf M ++ ns := by
          show (M.homes ++ ns.map fun x => (x, M.rows.length - 1)).map (·.1) = _
          rw [List.map_append, List.map_map]
          have : ns.map ((fun p : Str × Nat => p.1) ∘ fun x => (x, M.rows.length - 1)) = ns := by
            rw [show ((fun p : Str × Nat => p.1) ∘ fun x => (x, M.rows.length - 1)) = id from rfl, List.map_id]
          rw [this]
          rfl
        rw [hn2]
        refine Prod.ext ?_ rfl
        show _ = blocksOf _
        obtain ⟨t1, t2⟩ := topB_of (M := M) eb
        rw [t1, t2]
        unfold blocksOf
        show _ = M.nest.map _
        rw [eb, List.map_append]
        have so := I.so
        rw [eb] at so
        have hbl : ∀ n ∈ b, n < l := fun n hn => (List.pairwise_append.mp so).2.2 n hn l (List.mem_singleton.mpr rfl)
        refine congr (congrArg _ (List.map_congr_left fun n hn => ?_)) (congrArg (fun x => [x]) ?_)
        · have hk : kindOf (⟨M.rows ++ [⟨"local", ns, M.rows.length + 1, 0⟩], M.homes ++ ns.map fun x => (x, M.rows.length - 1), M.around, M.nest⟩ : ShM) n = kindOf M n := kindOf_congr (word_app (I.lt n (by rw [eb]; exact List.mem_append_left _ hn)))
          refine Prod.ext hk.symm ?_
          show cellsOf M n = ((M.homes ++ ns.map fun x => (x, M.rows.length - 1)).filter fun p => decide (p.2 = n)).map (·.1)
          have : (ns.map fun x => (x, M.rows.length - 1)).filter (fun p => decide (p.2 = n)) = [] := by
            refine List.filter_eq_nil_iff.mpr fun p hp => ?_
            obtain ⟨x, _, rfl⟩ := List.mem_map.mp hp
            have := hbl n hn
            show ¬ decide (M.rows.length - 1 = n) = true
            rw [decide_eq_true_iff]
            omega
          rw [List.filter_append, this, List.append_nil]
          rfl
        · have hk : kindOf (⟨M.rows ++ [⟨"local", ns, M.rows.length + 1, 0⟩], M.homes ++ ns.map fun x => (x, M.rows.length - 1), M.around, M.nest⟩ : ShM) l = kindOf M l := kindOf_congr (word_app hll)
          refine Prod.ext hk.symm ?_
          show cellsOf M l ++ ns = ((M.homes ++ ns.map fun x => (x, M.rows.length - 1)).filter fun p => decide (p.2 = l)).map (·.1)
          have : (ns.map fun x => (x, M.rows.length - 1)).filter (fun p => decide (p.2 = l)) = ns.map fun x => (x, M.rows.length - 1) := by
            refine List.filter_eq_self.mpr fun p hp => ?_
            obtain ⟨x, _, rfl⟩ := List.mem_map.mp hp
            show decide (M.rows.length - 1 = l) = true
            rw [decide_eq_true_iff]
            omega
          rw [List.filter_append, this, List.map_append, List.map_map]
          rw [show ((fun p : Str × Nat => p.1) ∘ fun x => (x, M.rows.length - 1)) = id from rfl, List.map_id]
          rfl
      · show firstOf ("local" :: ns) = decide (M.nest.getLast? = some ((M.rows ++ [_]).length - 1))
        rw [hl, List.length_append, List.length_singleton]
        have : firstOf ("local" :: ns) = false := rfl
        rw [this]
        symm
        refine decide_eq_false fun z => ?_
        have := Option.some.inj z
        omega
    · have nq : ¬ (f = true ∧ (ns.filter fun x => isName x && !(namesOf M).contains x) = ns ∧ ns ≠ [] ∧ (namesOf M ++ ns).length ≤ 5 ∧ (namesOf M ++ ns).Nodup) := fun z =>
        q ⟨fun x hx => (Bool.and_eq_true_iff.mp (List.filter_eq_self.mp z.2.1 x hx)).1, z.2.2.2.2, z.2.2.2.1⟩
      rw [ea, if_neg q, if_neg nq]
      trivial
  · rw [if_neg c, if_neg fun z => c ⟨z.2.2.1, of_decide_eq_true (by rw [← hf]; exact z.1)⟩]
    trivial

theorem at_end {rows : List RowM} {r : RowM} {n : Nat} (h : n = rows.length) : ((rows ++ [r]).length - 1) = n := by rw [List.length_append, List.length_singleton]; omega
/-- no block is opened and none is closed -/
theorem step_plain {M : ShM} (I : Iv M) (r : RowM) {words : List Str} (hw : firstOf words = false) : StepOk M words (some ⟨M.rows ++ [r], M.homes, M.around, M.nest⟩) (some (blocksOf M, namesOf M)) := by
  obtain ⟨b, l, eb, hl, hll, hdr⟩ := I.last
  refine ⟨I.row r, ?_, ?_⟩
  · rw [I.row_blocks r]
    rfl
  · rw [hw]
    show false = decide (M.nest.getLast? = some ((M.rows ++ [r]).length - 1))
    rw [hl, at_end rfl]
    symm
    refine decide_eq_false fun z => ?_
    have := Option.some.inj z
    omega
theorem getN_put' (l : List (Nat × Nat)) (k v j : Nat) : getN (putN l k v) j ≠ none ↔ j = k ∨ getN l j ≠ none := by
  have key : ∀ (d : List (Nat × Nat)), getN d j ≠ none ↔ ∃ p ∈ d, p.1 = j := by
    intro d
    unfold getN
    rw [Ne, Option.map_eq_none_iff, List.find?_eq_none]
    constructor
    · intro h
      refine Classical.byContradiction fun z => h fun x hx e => z ⟨x, hx, of_decide_eq_true e⟩
    · rintro ⟨p, hp, e⟩ h
      exact h p hp (decide_eq_true e)
  rw [key, key]
  unfold putN
  split
  · rename_i c
    obtain ⟨q, hq, hk⟩ := List.any_eq_true.mp c
    constructor
    · rintro ⟨p, hp, e⟩
      obtain ⟨p0, hp0, rfl⟩ := List.mem_map.mp hp
      by_cases z : p0.1 = k
      · rw [if_pos z] at e
        exact .inr ⟨p0, hp0, e⟩
      · rw [if_neg z] at e
        exact .inr ⟨p0, hp0, e⟩
    · rintro (e | ⟨p, hp, e⟩)
      · refine ⟨_, List.mem_map.mpr ⟨q, hq, rfl⟩, ?_⟩
        rw [if_pos (of_decide_eq_true hk), e]
        exact of_decide_eq_true hk
      · refine ⟨_, List.mem_map.mpr ⟨p, hp, rfl⟩, ?_⟩
        split <;> exact e
  · constructor
    · rintro ⟨p, hp, e⟩
      rcases List.mem_append.mp hp with z | z
      · exact .inr ⟨p, z, e⟩
      · rw [List.mem_singleton.mp z] at e
        exact .inl e.symm
    · rintro (e | ⟨p, hp, e⟩)
      · exact ⟨(k, v), List.mem_append_right _ (List.mem_singleton.mpr rfl), e.symm⟩
      · exact ⟨p, List.mem_append_left _ hp, e⟩
theorem cells_fresh {M : ShM} (I : Iv M) : cellsOf M M.rows.length = [] := by
  unfold cellsOf
  rw [List.map_eq_nil_iff, List.filter_eq_nil_iff]
  intro p hp
  have := I.hv p hp
  rw [decide_eq_true_iff]
  omega
theorem step_open {M : ShM} (I : Iv M) {w : Str} {names ws : List Str} (hw : openL.contains w = true) : 
    StepOk M (w :: ws) (openM ⟨M.rows ++ [⟨w, names, M.rows.length + 1, 0⟩], M.homes, M.around, M.nest⟩ M.rows.length) (if (blocksOf M).length + 1 ≤ 6 then some (blocksOf M ++ [(w, [])], namesOf M) else none) := by
  obtain ⟨b, l, eb, hl, hll, hdr⟩ := I.last
  have hwe : openE.contains w = true := by
    have : ∀ x ∈ openL, openE.contains x = true := by decide +kernel
    exact this w (List.contains_iff_mem.mp hw)
  unfold openM
  show StepOk M (w :: ws) (match M.nest.getLast? with | some l => _ | none => none) _
  rw [hl]
  have e6 : (blocksOf M).length = M.nest.length := by unfold blocksOf; rw [List.length_map]
  by_cases c : M.nest.length ≤ 5
  · rw [if_pos (show (blocksOf M).length + 1 ≤ 6 by omega)]
    show StepOk M (w :: ws) (if M.nest.length ≤ 5 then _ else none) _
    rw [if_pos c]
    have I1 := I.row ⟨w, names, M.rows.length + 1, 0⟩
    have kn : ∀ (M2 : ShM), M2.rows = M.rows ++ [⟨w, names, M.rows.length + 1, 0⟩] → kindOf M2 M.rows.length = w := fun M2 e => by
      unfold kindOf
      rw [if_neg (by omega), e, word_at]
      rfl
    refine ⟨⟨?_, ?_, ?_, I1.z, ?_, ?_, I1.hv, I1.kn, I1.h5⟩, ?_, ?_⟩
    · show (M.nest ++ [M.rows.length]).Pairwise (· < ·)
      refine List.pairwise_append.mpr ⟨I.so, List.pairwise_singleton _ _, fun a ha c hc => ?_⟩
      rw [List.mem_singleton.mp hc]
      exact I.lt a ha
    · intro n hn
      show n < (M.rows ++ [_]).length
      rw [List.length_append, List.length_singleton]
      rcases List.mem_append.mp hn with z | z
      · have := I.lt n z
        omega
      · rw [List.mem_singleton.mp z]
        omega
    · show (M.nest ++ [M.rows.length]).head? = some 0
      have := I.hd
      cases e : M.nest with
      | nil => rw [e] at this; cases this
      | cons a t => rw [e] at this; exact this
    · intro n hn n0
      show getN (putN M.around M.rows.length l) n ≠ none
      rw [getN_put']
      rcases List.mem_append.mp hn with z | z
      · exact .inr (I.ar n z n0)
      · exact .inl (List.mem_singleton.mp z)
    · intro n hn n0
      rcases List.mem_append.mp hn with z | z
      · exact (congrArg openE.contains (kindOf_congr (M := M) (word_app (I.lt n z)))).trans (I.kw n z n0)
      · rw [List.mem_singleton.mp z, kn _ rfl]
        exact hwe
    · refine Prod.ext ?_ rfl
      show blocksOf M ++ [(w, [])] = (M.nest ++ [M.rows.length]).map _
      rw [List.map_append]
      refine congr (congrArg _ ?_) (congrArg (fun x => [x]) ?_)
      · unfold blocksOf
        refine List.map_congr_left fun n hn => ?_
        exact Prod.ext (kindOf_congr (word_app (I.lt n hn))).symm rfl
      · exact Prod.ext (kn _ rfl).symm (cells_fresh I).symm
    · show openE.contains w = decide ((M.nest ++ [M.rows.length]).getLast? = some ((M.rows ++ [_]).length - 1))
      rw [hwe, List.getLast?_concat, at_end rfl]
      simp
  · rw [if_neg (show ¬ (blocksOf M).length + 1 ≤ 6 by omega)]
    show StepOk M (w :: ws) (if M.nest.length ≤ 5 then _ else none) _
    rw [if_neg c]
    trivial
theorem two_kind {M : ShM} (I : Iv M) {l : Nat} {r : RowM} (er : M.rows[l]? = some r) : twoL.contains (kindOf M l) = twoL.contains r.word := by
  unfold kindOf
  by_cases c : l = 0
  · rw [if_pos c]
    have hz := I.z
    rw [← c, er] at hz
    have : r.word = "" := Option.some.inj hz
    rw [this]
    decide +kernel
  · rw [if_neg c, er]
    rfl
theorem step_else {M : ShM} (I : Iv M) : StepOk M ["else"] (turnM ⟨M.rows ++ [⟨"else", [], M.rows.length + 1, 0⟩], M.homes, M.around, M.nest⟩ M.rows.length)
    (if twoL.contains (topB (blocksOf M)).1 = true then some ((blocksOf M).dropLast ++ [(("else" : Str), [])], namesOf M) else none) := by
  obtain ⟨b, l, eb, hl, hll, hdr⟩ := I.last
  obtain ⟨t1, t2⟩ := topB_of (M := M) eb
  obtain ⟨r, er⟩ : ∃ r, M.rows[l]? = some r := ⟨_, List.getElem?_eq_getElem hll⟩
  have er2 : (M.rows ++ [(⟨"else", [], M.rows.length + 1, 0⟩ : RowM)])[l]? = some r := by rw [List.getElem?_append_left hll]; exact er
  rw [t1, t2]
  show StepOk M _ _ (if twoL.contains (kindOf M l) = true then _ else none)
  rw [two_kind I er]
  unfold turnM
  show StepOk M ["else"] (match M.nest.getLast? with | some l => _ | none => none) _
  rw [hl]
  show StepOk M ["else"] (match (M.rows ++ [(⟨"else", [], M.rows.length + 1, 0⟩ : RowM)])[l]?, getN M.around l with | some r, some a => _ | _, _ => none) _
  rw [er2]
  by_cases c : twoL.contains r.word = true
  · rw [if_pos c]
    have l0 : l ≠ 0 := fun z => by
      have hz := I.z
      rw [← z, er] at hz
      have : r.word = "" := Option.some.inj hz
      rw [this] at c
      exact absurd c (by decide +kernel)
    cases ea : getN M.around l with
    | none => exact absurd ea (I.ar l (by rw [eb]; simp) l0)
    | some a =>
      show StepOk M ["else"] (if twoL.contains r.word = true then _ else none) _
      rw [if_pos c]
      have I1 := I.row ⟨"else", [], M.rows.length + 1, 0⟩
      have wd := setRow_word (M.rows ++ [⟨"else", [], M.rows.length + 1, 0⟩]) l (fun r => { r with other := M.rows.length + 1 }) (fun _ => rfl)
      have ln := setRow_len' (M.rows ++ [⟨"else", [], M.rows.length + 1, 0⟩]) l (fun r => { r with other := M.rows.length + 1 })
      generalize hRR : setRow (M.rows ++ [⟨"else", [], M.rows.length + 1, 0⟩]) l (fun r => { r with other := M.rows.length + 1 }) = RR at wd ln
      rw [List.length_append, List.length_singleton] at ln
      have kn : ∀ (M2 : ShM), M2.rows = RR → kindOf M2 M.rows.length = "else" := fun M2 e => by
        unfold kindOf
        rw [if_neg (by omega), e, wd, word_at]
        rfl
      have ko : ∀ (M2 : ShM), M2.rows = RR → ∀ n, n < M.rows.length → kindOf M2 n = kindOf M n := fun M2 e n hn => kindOf_congr (by rw [e, wd, word_app hn])
      have so := I.so
      rw [eb] at so
      have mb : ∀ n ∈ b, n ∈ M.nest := fun n hn => by rw [eb]; exact List.mem_append_left _ hn
      refine ⟨⟨?_, ?_, ?_, ?_, ?_, ?_, ?_, I.kn, I.h5⟩, ?_, ?_⟩
      · show (M.nest.dropLast ++ [M.rows.length]).Pairwise (· < ·)
        rw [hdr]
        refine List.pairwise_append.mpr ⟨(List.pairwise_append.mp so).1, List.pairwise_singleton _ _, fun x hx y hy => ?_⟩
        rw [List.mem_singleton.mp hy]
        exact I.lt x (mb x hx)
      · intro n hn
        show n < RR.length
        replace hn : n ∈ M.nest.dropLast ++ [M.rows.length] := hn
        rw [hdr] at hn
        rcases List.mem_append.mp hn with z | z
        · have := I.lt n (mb n z)
          omega
        · rw [List.mem_singleton.mp z]
          omega
      · show (M.nest.dropLast ++ [M.rows.length]).head? = some 0
        have h := I.hd
        rw [hdr]
        rw [eb] at h
        cases b with
        | nil => exact absurd (Option.some.inj h) l0
        | cons x t => exact h
      · show RR[0]?.map (·.word) = some ("" : Str)
        rw [wd]
        exact I1.z
      · intro n hn n0
        show getN (putN M.around M.rows.length a) n ≠ none
        rw [getN_put']
        replace hn : n ∈ M.nest.dropLast ++ [M.rows.length] := hn
        rw [hdr] at hn
        rcases List.mem_append.mp hn with z | z
        · exact .inr (I.ar n (mb n z) n0)
        · exact .inl (List.mem_singleton.mp z)
      · intro n hn n0
        replace hn : n ∈ M.nest.dropLast ++ [M.rows.length] := hn
        rw [hdr] at hn
        rcases List.mem_append.mp hn with z | z
        · exact (congrArg openE.contains (ko _ rfl n (I.lt n (mb n z)))).trans (I.kw n (mb n z) n0)
        · rw [List.mem_singleton.mp z, kn _ rfl]
          decide +kernel
      · intro p hp
        have := I.hv p hp
        show p.2 < RR.length
        omega
      · refine Prod.ext ?_ rfl
        show _ = (M.nest.dropLast ++ [M.rows.length]).map _
        rw [hdr, List.map_append]
        refine congr (congrArg _ (List.map_congr_left fun n hn => ?_)) (congrArg (fun x => [x]) ?_)
        · exact Prod.ext (ko _ rfl n (I.lt n (mb n hn))).symm rfl
        · exact Prod.ext (kn _ rfl).symm (cells_fresh I).symm
      · show firstOf ["else"] = decide ((M.nest.dropLast ++ [M.rows.length]).getLast? = some (RR.length - 1))
        rw [List.getLast?_concat, ln]
        simp
        decide +kernel
  · rw [if_neg c]
    cases getN M.around l with
    | none => trivial
    | some a =>
      show StepOk M ["else"] (if twoL.contains r.word = true then _ else none) _
      rw [if_neg c]
      trivial
theorem step_end {M : ShM} (I : Iv M) : StepOk M ["end"] (closeM ⟨M.rows ++ [⟨"end", [], M.rows.length + 1, 0⟩], M.homes, M.around, M.nest⟩ M.rows.length)
    (if (topB (blocksOf M)).1 ≠ ("text" : Str) then some ((blocksOf M).dropLast, namesOf M) else none) := by
  obtain ⟨b, l, eb, hl, hll, hdr⟩ := I.last
  obtain ⟨t1, t2⟩ := topB_of (M := M) eb
  obtain ⟨r, er⟩ : ∃ r, M.rows[l]? = some r := ⟨_, List.getElem?_eq_getElem hll⟩
  have er2 : (M.rows ++ [(⟨"end", [], M.rows.length + 1, 0⟩ : RowM)])[l]? = some r := by rw [List.getElem?_append_left hll]; exact er
  have hk : kindOf M l ≠ ("text" : Str) ↔ l ≠ 0 := by
    constructor
    · intro h z
      exact h (by unfold kindOf; rw [if_pos z])
    · intro h z
      have := I.kw l (by rw [eb]; simp) h
      rw [z] at this
      exact absurd this (by decide +kernel)
  rw [t1, t2]
  show StepOk M _ _ (if kindOf M l ≠ ("text" : Str) then _ else none)
  unfold closeM
  show StepOk M ["end"] (match M.nest.getLast? with | some l => _ | none => none) _
  rw [hl]
  show StepOk M ["end"] (match (M.rows ++ [(⟨"end", [], M.rows.length + 1, 0⟩ : RowM)])[l]? with | some r => _ | none => none) _
  rw [er2]
  by_cases c : l ≠ 0
  · rw [if_pos (hk.mpr c)]
    show StepOk M ["end"] (if l ≠ 0 then _ else none) _
    rw [if_pos c]
    have I1 := I.row ⟨"end", [], M.rows.length + 1, 0⟩
    obtain ⟨RR, hRR, wd, ln⟩ : ∃ RR : List RowM, (if r.word = ("loop" : Str) then setRow (setRow (M.rows ++ [(⟨"end", [], M.rows.length + 1, 0⟩ : RowM)]) l fun r => if r.word = ("else" : Str) then { r with after := M.rows.length } else { r with other := M.rows.length + 1 }) M.rows.length (fun r => { r with after := l }) else (setRow (M.rows ++ [(⟨"end", [], M.rows.length + 1, 0⟩ : RowM)]) l fun r => if r.word = ("else" : Str) then { r with after := M.rows.length } else { r with other := M.rows.length + 1 })) = RR ∧
        (∀ n, RR[n]?.map (fun r : RowM => r.word) = (M.rows ++ [(⟨"end", [], M.rows.length + 1, 0⟩ : RowM)])[n]?.map (fun r : RowM => r.word)) ∧ RR.length = M.rows.length + 1 := by
      have kw1 : ∀ r : RowM, (if r.word = ("else" : Str) then { r with after := M.rows.length } else { r with other := M.rows.length + 1 } : RowM).word = r.word := fun r => by split <;> rfl
      refine ⟨_, rfl, fun n => ?_, ?_⟩
      · split
        · exact (setRow_word _ M.rows.length (fun r => { r with after := l }) (fun _ => rfl) n).trans (setRow_word _ _ _ kw1 n)
        · exact setRow_word _ _ _ kw1 n
      · split
        · rw [setRow_len', setRow_len', List.length_append, List.length_singleton]
        · rw [setRow_len', List.length_append, List.length_singleton]
    show StepOk M ["end"] (some ⟨if r.word = ("loop" : Str) then setRow (setRow (M.rows ++ [(⟨"end", [], M.rows.length + 1, 0⟩ : RowM)]) l fun r => if r.word = ("else" : Str) then { r with after := M.rows.length } else { r with other := M.rows.length + 1 }) M.rows.length (fun r => { r with after := l }) else (setRow (M.rows ++ [(⟨"end", [], M.rows.length + 1, 0⟩ : RowM)]) l fun r => if r.word = ("else" : Str) then { r with after := M.rows.length } else { r with other := M.rows.length + 1 }), M.homes, M.around, M.nest.dropLast⟩) _
    rw [hRR]
    have ko : ∀ (M2 : ShM), M2.rows = RR → ∀ n, n < M.rows.length → kindOf M2 n = kindOf M n := fun M2 e n hn => kindOf_congr (by rw [e, wd, word_app hn])
    have so := I.so
    rw [eb] at so
    have mb : ∀ n ∈ b, n ∈ M.nest := fun n hn => by rw [eb]; exact List.mem_append_left _ hn
    have md : ∀ n ∈ M.nest.dropLast, n ∈ M.nest := fun n hn => mb n (hdr ▸ hn)
    refine ⟨⟨?_, ?_, ?_, ?_, ?_, ?_, ?_, I.kn, I.h5⟩, ?_, ?_⟩
    · show M.nest.dropLast.Pairwise (· < ·)
      rw [hdr]
      exact (List.pairwise_append.mp so).1
    · intro n hn
      have := I.lt n (md n hn)
      show n < RR.length
      omega
    · show M.nest.dropLast.head? = some 0
      have h := I.hd
      rw [hdr]
      rw [eb] at h
      cases b with
      | nil => exact absurd (Option.some.inj h) c
      | cons x t => exact h
    · show RR[0]?.map (·.word) = some ("" : Str)
      rw [wd]
      exact I1.z
    · exact fun n hn n0 => I.ar n (md n hn) n0
    · exact fun n hn n0 => (congrArg openE.contains (ko _ rfl n (I.lt n (md n hn)))).trans (I.kw n (md n hn) n0)
    · intro p hp
      have := I.hv p hp
      show p.2 < RR.length
      omega
    · refine Prod.ext ?_ rfl
      show _ = M.nest.dropLast.map _
      rw [hdr]
      exact List.map_congr_left fun n hn => Prod.ext (ko _ rfl n (I.lt n (mb n hn))).symm rfl
    · show firstOf ["end"] = decide (M.nest.dropLast.getLast? = some (RR.length - 1))
      have e0 : firstOf ["end"] = false := by decide +kernel
      rw [e0]
      symm
      refine decide_eq_false fun z => ?_
      have := I.lt _ (md _ (List.mem_of_getLast? z))
      omega
  · rw [if_neg (fun z => c (hk.mp z))]
    show StepOk M ["end"] (if l ≠ 0 then _ else none) _
    rw [if_neg c]
    trivial

theorem fits0 (ws : List Str) : fitsM ws [] = decide (ws = []) := by
  unfold fitsM
  cases ws with
  | nil => rfl
  | cons a r => rfl
theorem fits1 (ws : List Str) : fitsM ws [""] = decide (ws.length = 1) := by
  unfold fitsM
  match ws with
  | [] => rfl
  | [a] => rfl
  | a :: b :: r => rfl
theorem fits2 (ws : List Str) : fitsM ws ["", ""] = decide (ws.length = 2) := by
  unfold fitsM
  match ws with
  | [] => rfl
  | [a] => rfl
  | [a, b] => rfl
  | a :: b :: c :: r => rfl
theorem fits3 (k : Str) (hk : (k == ("" : Str)) = false) (ws : List Str) : fitsM ws ["", k, ""] = (decide (ws.length = 3) && decide (ws.getD 1 "" = k)) := by
  unfold fitsM
  match ws with
  | [] => rfl
  | [a] => rfl
  | [a, b] => rfl
  | [a, b, c] =>
    show (true && ([(a, ("" : Str)), (b, k), (c, "")].all fun p => p.2 == ("" : Str) || p.2 == p.1)) = (true && decide (b = k))
    simp only [List.all_cons, List.all_nil, Bool.true_and, Bool.and_true]
    rw [hk, Bool.false_or]
    show (true && ((k == b) && true)) = _
    rw [Bool.true_and, Bool.and_true, Bool.eq_iff_iff, beq_iff_eq, decide_eq_true_iff]
    exact ⟨fun z => z.symm, fun z => z.symm⟩
  | a :: b :: c :: d :: r => rfl
/-- a deed's line, both readers -/
theorem step_deed {M : ShM} (I : Iv M) {w : Str} {ws form : List Str} {n : Nat} (hfo : formsL.lookup w = some form) (hfc : formsC.lookup w = some n) (h1 : w ≠ "local") (h2 : openL.contains w = false) (h3 : w ≠ "else") (h4 : w ≠ "end")
    (hd : (fitsM ws form && (((ws.zip form).filter fun p => p.2 == ("" : Str)).map (·.1)).all (seenM M)) = isDeed (w :: ws) (seenB (blocksOf M))) (f : Bool) :
    StepOk M (w :: ws) (takeM M (w :: ws)) (lineRead (blocksOf M) (namesOf M) f (w :: ws)) := by
  have e1 : lineRead (blocksOf M) (namesOf M) f (w :: ws) = if isDeed (w :: ws) (seenB (blocksOf M)) = true then some (blocksOf M, namesOf M) else none := by
    unfold lineRead
    rw [show (w :: ws).getD 0 "" = w from rfl, if_neg h1, if_neg (by rw [h2]; exact Bool.false_ne_true), if_neg (fun z => h3 (List.cons.inj z).1), if_neg (fun z => h4 (List.cons.inj z).1)]
  have e2 : takeM M (w :: ws) = if fitsM ws form = true then takeRowM M w ws form else none := by
    show (if w = "local" then _ else match formsL.lookup w with | some form => _ | none => none) = _
    rw [if_neg h1, hfo]
  have e3 : takeRowM M w ws form = if (((ws.zip form).filter fun p => p.2 == ("" : Str)).map (·.1)).all (seenM M) = true then some ⟨M.rows ++ [⟨w, ((ws.zip form).filter fun p => p.2 == ("" : Str)).map (·.1), M.rows.length + 1, 0⟩], M.homes, M.around, M.nest⟩ else none := by
    unfold takeRowM
    dsimp only
    rw [h2, if_neg (c := false = true) Bool.false_ne_true, if_neg h3, if_neg h4]
  rw [e1, e2, e3, ← hd]
  have hfi : firstOf (w :: ws) = false := by
    refine Bool.eq_false_iff.mpr fun z => ?_
    have : ∀ x ∈ openE, x = "else" ∨ openL.contains x = true := by decide +kernel
    rcases this w (List.contains_iff_mem.mp z) with q | q
    · exact h3 q
    · rw [h2] at q; cases q
  cases c1 : fitsM ws form with
  | false =>
    rw [if_neg Bool.false_ne_true, Bool.false_and, if_neg Bool.false_ne_true]
    trivial
  | true =>
    rw [if_pos rfl, Bool.true_and]
    split
    · exact step_plain I _ hfi
    · trivial
theorem deed1 {M : ShM} (I : Iv M) {w : Str} {ws : List Str} (hfc : formsC.lookup w = some 2) : (fitsM ws [""] && (((ws.zip [("" : Str)]).filter fun p => p.2 == ("" : Str)).map (·.1)).all (seenM M)) = isDeed (w :: ws) (seenB (blocksOf M)) := by
  rw [fits1]
  unfold isDeed
  rw [show (w :: ws).getD 0 "" = w from rfl, hfc]
  match ws with
  | [] => rfl
  | [a] =>
    show (true && (seenM M a && true)) = (true && (seenB (blocksOf M)).contains a && (true || _))
    rw [seen_same I, Bool.true_or, Bool.and_true, Bool.and_true]
  | a :: b :: r =>
    show (false && _) = (decide (r.length + 1 + 1 + 1 = 2) && _ && _)
    rw [decide_eq_false (by omega), Bool.false_and, Bool.false_and, Bool.false_and]
theorem deed3 {M : ShM} (I : Iv M) {w k : Str} {ws : List Str} (hfc : formsC.lookup w = some 4) (hk : (k == ("" : Str)) = false) (hwk : k = if w = "load" then ("from" : Str) else ("to" : Str)) :
    (fitsM ws [("" : Str), k, ""] && (((ws.zip [("" : Str), k, ""]).filter fun p => p.2 == ("" : Str)).map (·.1)).all (seenM M)) = isDeed (w :: ws) (seenB (blocksOf M)) := by
  rw [fits3 k hk]
  unfold isDeed
  rw [show (w :: ws).getD 0 "" = w from rfl, hfc, ← hwk]
  match ws with
  | [] => rfl
  | [a] => rfl
  | [a, b] => rfl
  | [a, b, c] =>
    show (true && decide (b = k) && ((([(a, ("" : Str)), (b, k), (c, "")].filter fun p => p.2 == ("" : Str)).map (·.1)).all (seenM M))) = (true && (seenB (blocksOf M)).contains a && (false || (decide (b = k) && (seenB (blocksOf M)).contains c)))
    have : ([(a, ("" : Str)), (b, k), (c, "")].filter fun p => p.2 == ("" : Str)) = [(a, ("" : Str)), (c, ("" : Str))] := by
      have z : (("" : Str) == ("" : Str)) = true := by decide +kernel
      simp only [List.filter_cons, List.filter_nil, hk, z, if_true, Bool.false_eq_true, if_false]
    rw [this, seen_same I, seen_same I]
    show (true && decide (b = k) && (seenM M a && (seenM M c && true))) = _
    cases seenM M a <;> cases seenM M c <;> cases decide (b = k) <;> rfl
  | a :: b :: c :: d :: r =>
    show (decide (r.length + 1 + 1 + 1 + 1 = 3) && _ && _) = (decide (r.length + 1 + 1 + 1 + 1 + 1 = 4) && _ && _)
    rw [decide_eq_false (show ¬ r.length + 1 + 1 + 1 + 1 = 3 by omega), decide_eq_false (show ¬ r.length + 1 + 1 + 1 + 1 + 1 = 4 by omega), Bool.false_and, Bool.false_and, Bool.false_and, Bool.false_and]
theorem step_opener {M : ShM} (I : Iv M) {w : Str} {ws form : List Str} (hfo : formsL.lookup w = some form) (h1 : w ≠ "local") (h2 : openL.contains w = true)
    (hd : (fitsM ws form && (((ws.zip form).filter fun p => p.2 == ("" : Str)).map (·.1)).all (seenM M)) = if w = "same" then decide (ws.length = 2) && ((seenB (blocksOf M)).contains (ws.getD 0 "") && (seenB (blocksOf M)).contains (ws.getD 1 "")) else decide (ws = [])) (f : Bool) :
    StepOk M (w :: ws) (takeM M (w :: ws)) (lineRead (blocksOf M) (namesOf M) f (w :: ws)) := by
  have e1 : lineRead (blocksOf M) (namesOf M) f (w :: ws) = if (if w = "same" then decide (ws.length = 2) && ((seenB (blocksOf M)).contains (ws.getD 0 "") && (seenB (blocksOf M)).contains (ws.getD 1 "")) else decide (ws = [])) = true ∧ (blocksOf M).length + 1 ≤ 6 then some (blocksOf M ++ [(w, [])], namesOf M) else none := by
    unfold lineRead
    rw [show (w :: ws).getD 0 "" = w from rfl, if_neg h1, if_pos h2]
    rfl
  have e2 : takeM M (w :: ws) = if fitsM ws form = true then takeRowM M w ws form else none := by
    show (if w = "local" then _ else match formsL.lookup w with | some form => _ | none => none) = _
    rw [if_neg h1, hfo]
  have e3 : takeRowM M w ws form = if (((ws.zip form).filter fun p => p.2 == ("" : Str)).map (·.1)).all (seenM M) = true then openM ⟨M.rows ++ [⟨w, ((ws.zip form).filter fun p => p.2 == ("" : Str)).map (·.1), M.rows.length + 1, 0⟩], M.homes, M.around, M.nest⟩ M.rows.length else none := by
    unfold takeRowM
    dsimp only
    rw [h2, if_pos (c := true = true) rfl]
  rw [e1, e2, e3, ← hd]
  cases c1 : fitsM ws form with
  | false =>
    rw [if_neg Bool.false_ne_true, Bool.false_and, if_neg (fun z => Bool.false_ne_true z.1)]
    trivial
  | true =>
    rw [if_pos rfl, Bool.true_and]
    cases c2 : (((ws.zip form).filter fun p => p.2 == ("" : Str)).map (·.1)).all (seenM M) with
    | false =>
      rw [if_neg Bool.false_ne_true, if_neg (fun z => Bool.false_ne_true z.1)]
      trivial
    | true =>
      rw [if_pos rfl]
      have := step_open I (w := w) (names := ((ws.zip form).filter fun p => p.2 == ("" : Str)).map (·.1)) (ws := ws) h2
      by_cases c3 : (blocksOf M).length + 1 ≤ 6
      · rw [if_pos c3] at this
        rw [if_pos ⟨rfl, c3⟩]
        exact this
      · rw [if_neg c3] at this
        rw [if_neg fun z => c3 z.2]
        exact this
theorem open0 {M : ShM} {w : Str} {ws : List Str} (hw : w ≠ "same") : (fitsM ws [] && (((ws.zip ([] : List Str)).filter fun p => p.2 == ("" : Str)).map (·.1)).all (seenM M)) = if w = "same" then decide (ws.length = 2) && ((seenB (blocksOf M)).contains (ws.getD 0 "") && (seenB (blocksOf M)).contains (ws.getD 1 "")) else decide (ws = []) := by
  rw [if_neg hw, fits0]
  cases ws with
  | nil => rfl
  | cons a r => rfl
theorem open2 {M : ShM} (I : Iv M) {ws : List Str} : (fitsM ws ["", ""] && (((ws.zip [("" : Str), ""]).filter fun p => p.2 == ("" : Str)).map (·.1)).all (seenM M)) = if ("same" : Str) = "same" then decide (ws.length = 2) && ((seenB (blocksOf M)).contains (ws.getD 0 "") && (seenB (blocksOf M)).contains (ws.getD 1 "")) else decide (ws = []) := by
  rw [if_pos rfl, fits2]
  match ws with
  | [] => rfl
  | [a] => rfl
  | [a, b] =>
    show (true && (seenM M a && (seenM M b && true))) = (true && ((seenB (blocksOf M)).contains a && (seenB (blocksOf M)).contains b))
    rw [seen_same I, seen_same I, Bool.and_true]
  | a :: b :: c :: r => rfl
theorem step_same {M : ShM} (I : Iv M) {f : Bool} (hf : f = decide (M.nest.getLast? = some (M.rows.length - 1))) (w : Str) (ws : List Str) :
    StepOk M (w :: ws) (takeM M (w :: ws)) (lineRead (blocksOf M) (namesOf M) f (w :: ws)) := by
  by_cases h1 : w = "local"
  · subst h1
    exact step_declare I hf ws
  cases hfo : formsL.lookup w with
  | none =>
    have hnf : ∀ p ∈ formsL, p.1 ≠ w := fun p hp e => by
      rw [List.lookup_eq_none_iff] at hfo
      have := hfo p hp
      rw [e] at this
      simp at this
    have n1 : openL.contains w = false := by
      refine Bool.eq_false_iff.mpr fun z => ?_
      have : ∀ x ∈ openL, ∃ p ∈ formsL, p.1 = x := by decide +kernel
      obtain ⟨p, hp, e⟩ := this w (List.contains_iff_mem.mp z)
      exact hnf p hp e
    have n2 : w ≠ "else" := fun z => hnf ("else", []) (by decide +kernel) z.symm
    have n3 : w ≠ "end" := fun z => hnf ("end", []) (by decide +kernel) z.symm
    have n4 : formsC.lookup w = none := by
      rw [List.lookup_eq_none_iff]
      intro p hp
      have : ∀ p ∈ formsC, ∃ q ∈ formsL, q.1 = p.1 := by decide +kernel
      obtain ⟨q, hq, e⟩ := this p hp
      have := hnf q hq
      rw [e] at this
      simpa using fun z => this z.symm
    have e2 : takeM M (w :: ws) = none := by
      show (if w = "local" then _ else match formsL.lookup w with | some form => _ | none => none) = _
      rw [if_neg h1, hfo]
    have e1 : lineRead (blocksOf M) (namesOf M) f (w :: ws) = none := by
      unfold lineRead
      rw [show (w :: ws).getD 0 "" = w from rfl, if_neg h1, if_neg (by rw [n1]; exact Bool.false_ne_true), if_neg (fun z => n2 (List.cons.inj z).1), if_neg (fun z => n3 (List.cons.inj z).1)]
      unfold isDeed
      rw [show (w :: ws).getD 0 "" = w from rfl, n4, if_neg Bool.false_ne_true]
    rw [e1, e2]
    trivial
  | some form =>
    have key : ∀ p ∈ formsL, w = p.1 → form = p.2 → StepOk M (w :: ws) (takeM M (w :: ws)) (lineRead (blocksOf M) (namesOf M) f (w :: ws)) := by
      intro p hp ew ef
      subst ew ef
      have : p ∈ [(("input" : Str), [("" : Str)]), ("copy", ["", "to", ""]), ("point", ["", "to", ""]), ("load", ["", "from", ""]), ("store", ["", "to", ""]), ("use", [""]), ("call", [""]), ("block", []), ("loop", []), ("maybe", []), ("same", ["", ""]), ("else", []), ("end", [])] := hp
      simp only [List.mem_cons, List.not_mem_nil, or_false] at this
      rcases this with rfl | rfl | rfl | rfl | rfl | rfl | rfl | rfl | rfl | rfl | rfl | rfl | rfl
      · exact step_deed (w := "input") (n := 2) I hfo (by decide +kernel) h1 (by decide +kernel) (by decide +kernel) (by decide +kernel) (deed1 (w := "input") I (by decide +kernel)) f
      · exact step_deed (w := "copy") (n := 4) I hfo (by decide +kernel) h1 (by decide +kernel) (by decide +kernel) (by decide +kernel) (deed3 (w := "copy") (k := "to") I (by decide +kernel) (by decide +kernel) (by decide +kernel)) f
      · exact step_deed (w := "point") (n := 4) I hfo (by decide +kernel) h1 (by decide +kernel) (by decide +kernel) (by decide +kernel) (deed3 (w := "point") (k := "to") I (by decide +kernel) (by decide +kernel) (by decide +kernel)) f
      · exact step_deed (w := "load") (n := 4) I hfo (by decide +kernel) h1 (by decide +kernel) (by decide +kernel) (by decide +kernel) (deed3 (w := "load") (k := "from") I (by decide +kernel) (by decide +kernel) (by decide +kernel)) f
      · exact step_deed (w := "store") (n := 4) I hfo (by decide +kernel) h1 (by decide +kernel) (by decide +kernel) (by decide +kernel) (deed3 (w := "store") (k := "to") I (by decide +kernel) (by decide +kernel) (by decide +kernel)) f
      · exact step_deed (w := "use") (n := 2) I hfo (by decide +kernel) h1 (by decide +kernel) (by decide +kernel) (by decide +kernel) (deed1 (w := "use") I (by decide +kernel)) f
      · exact step_deed (w := "call") (n := 2) I hfo (by decide +kernel) h1 (by decide +kernel) (by decide +kernel) (by decide +kernel) (deed1 (w := "call") I (by decide +kernel)) f
      · exact step_opener (w := "block") I hfo h1 (by decide +kernel) (open0 (w := "block") (by decide +kernel)) f
      · exact step_opener (w := "loop") I hfo h1 (by decide +kernel) (open0 (w := "loop") (by decide +kernel)) f
      · exact step_opener (w := "maybe") I hfo h1 (by decide +kernel) (open0 (w := "maybe") (by decide +kernel)) f
      · exact step_opener (w := "same") I hfo h1 (by decide +kernel) (open2 I) f
      · -- else
        cases ws with
        | nil => exact step_else I
        | cons a r => exact (show StepOk M _ none none from trivial)
      · cases ws with
        | nil => exact step_end I
        | cons a r => exact (show StepOk M _ none none from trivial)
    obtain ⟨l1, l2, e, _⟩ := List.lookup_eq_some_iff.mp hfo
    exact key (w, form) (by rw [e]; simp) rfl rfl
theorem iv_new : Iv ShM.new := by
  refine ⟨by simp [ShM.new], by decide, rfl, rfl, ?_, ?_, by decide, by decide, by decide⟩
  · intro n hn h0
    exact absurd (List.mem_singleton.mp hn) h0
  · intro n hn h0
    exact absurd (List.mem_singleton.mp hn) h0
theorem go_same : ∀ (ls : List (List Str)) (M : ShM) (f : Bool) (k : Nat), Iv M → f = decide (M.nest.getLast? = some (M.rows.length - 1)) → (∀ l ∈ ls, l ≠ []) → k ≤ 40 → goL (blocksOf M) (namesOf M) f ls k = goW 40 M ls k
  | [], M, f, k, _, _, _, _ => by
    show (if (blocksOf M).length = 1 then 0 else k + 1) = if M.nest.length = 1 then 0 else k + 1
    rw [show (blocksOf M).length = M.nest.length from by unfold blocksOf; rw [List.length_map]]
  | l :: r, M, f, k, I, hf, hn, hk => by
    show (if k = 40 then k + 1 else match lineRead (blocksOf M) (namesOf M) f l with | none => k + 1 | some p => goL p.1 p.2 (firstOf l) r (k + 1)) = if 40 ≤ k then k + 1 else match takeM M l with | none => k + 1 | some M' => goW 40 M' r (k + 1)
    by_cases c : k = 40
    · rw [if_pos c, if_pos (by omega)]
    rw [if_neg c, if_neg (by omega)]
    cases l with
    | nil => exact absurd rfl (hn [] (List.mem_cons_self ..))
    | cons w ws =>
      have S := step_same I hf w ws
      cases e1 : takeM M (w :: ws) with
      | none =>
        rw [e1] at S
        cases e2 : lineRead (blocksOf M) (namesOf M) f (w :: ws) with
        | none => rfl
        | some p => rw [e2] at S; exact S.elim
      | some M' =>
        rw [e1] at S
        cases e2 : lineRead (blocksOf M) (namesOf M) f (w :: ws) with
        | none => rw [e2] at S; exact S.elim
        | some p =>
          rw [e2] at S
          obtain ⟨I', rfl, hf'⟩ := S
          exact go_same r M' _ (k + 1) I' hf' (fun l hl => hn l (List.mem_cons_of_mem _ hl)) (by omega)
end FP
set_option Elab.async false
set_option linter.all false
set_option maxRecDepth 100000
/-! The ways of a text that is read line by line are always found. -/
namespace FP
open PySem
def tgt (rows : List RowM) (k : Nat) : Prop := rows[k]?.map (fun q : RowM => passL.contains q.word) = some false
def Fw (rows : List RowM) : Prop := ∀ (i : Nat) (r : RowM), rows[i]? = some r → passL.contains r.word = true → i < r.after ∨ tgt rows r.after
theorem set_word {rows : List RowM} {i : Nat} {r r' : RowM} (e : rows[i]? = some r) (hw : r'.word = r.word) (k : Nat) : (rows.set i r')[k]?.map (fun q : RowM => q.word) = rows[k]?.map (fun q : RowM => q.word) := by
  by_cases c : i = k
  · subst c
    rw [List.getElem?_set_self (List.getElem?_eq_some_iff.mp e).1, e]
    show some r'.word = some r.word
    rw [hw]
  · rw [List.getElem?_set_ne c]
theorem tgt_word {rows rows' : List RowM} {k : Nat} (h : rows'[k]?.map (fun q : RowM => q.word) = rows[k]?.map (fun q : RowM => q.word)) : tgt rows k → tgt rows' k := by
  unfold tgt
  intro z
  have e : ∀ l : List RowM, l[k]?.map (fun q : RowM => passL.contains q.word) = (l[k]?.map (fun q : RowM => q.word)).map passL.contains := fun l => by rw [Option.map_map]; rfl
  rw [e] at z ⊢
  rw [h]
  exact z
theorem Fw.set {rows : List RowM} (F : Fw rows) {i : Nat} {r r' : RowM} (e : rows[i]? = some r) (hw : r'.word = r.word) (ha : passL.contains r.word = true → i < r'.after ∨ tgt rows r'.after) : Fw (rows.set i r') := by
  intro j q hq hp
  by_cases c : i = j
  · subst c
    rw [List.getElem?_set_self (List.getElem?_eq_some_iff.mp e).1] at hq
    obtain rfl := Option.some.inj hq
    rw [hw] at hp
    exact (ha hp).imp id (tgt_word (set_word e hw _))
  · rw [List.getElem?_set_ne c] at hq
    exact (F j q hq hp).imp id (tgt_word (set_word e hw _))
theorem Fw.app {rows : List RowM} (F : Fw rows) {w : Str} {names : List Str} : Fw (rows ++ [⟨w, names, rows.length + 1, 0⟩]) := by
  intro j q hq hp
  by_cases c : j < rows.length
  · rw [List.getElem?_append_left c] at hq
    refine (F j q hq hp).imp id fun z => ?_
    unfold tgt at z ⊢
    have : q.after < rows.length := by
      refine Nat.lt_of_not_le fun h => ?_
      rw [List.getElem?_eq_none h] at z
      cases z
    rw [List.getElem?_append_left this]
    exact z
  · have h1 := (List.getElem?_eq_some_iff.mp hq).1
    rw [List.length_append, List.length_singleton] at h1
    have : j = rows.length := by omega
    subst this
    rw [List.getElem?_concat_length] at hq
    obtain rfl := Option.some.inj hq
    exact .inl (by show rows.length < rows.length + 1; omega)
theorem Fw.setRow {rows : List RowM} (F : Fw rows) {i : Nat} {f : RowM → RowM} (hw : ∀ r, (f r).word = r.word) (ha : ∀ r, rows[i]? = some r → passL.contains r.word = true → i < (f r).after ∨ tgt rows (f r).after) : Fw (FP.setRow rows i f) := by
  unfold FP.setRow
  split
  · rename_i r e
    exact F.set e (hw r) (ha r e)
  · exact F
theorem land_some {rows : List RowM} (F : Fw rows) : ∀ (f n : Nat), 2 ≤ f → rows.length + 2 ≤ f + n → landM rows f n ≠ none
  | 0, _, h, _ => by omega
  | f + 1, n, _, h => by
    unfold landM
    by_cases c : n < rows.length
    · rw [if_pos c, List.getElem?_eq_getElem c]
      dsimp only
      by_cases p : passL.contains rows[n].word = true
      · rw [if_pos p]
        rcases F n _ (List.getElem?_eq_getElem c) p with z | z
        · exact land_some F f _ (by omega) (by omega)
        · cases f with
          | zero => omega
          | succ f =>
            unfold landM
            unfold tgt at z
            cases e : rows[rows[n].after]? with
            | none => rw [e] at z; cases z
            | some q =>
              rw [e] at z
              have z : passL.contains q.word = false := Option.some.inj z
              rw [if_pos (List.getElem?_eq_some_iff.mp e).1]
              dsimp only
              rw [z, if_neg Bool.false_ne_true]
              exact Option.some_ne_none _
      · rw [if_neg p]
        exact Option.some_ne_none _
    · rw [if_neg c]
      exact Option.some_ne_none _
theorem way_some {rows : List RowM} (F : Fw rows) {f i : Nat} (hf : rows.length + 2 ≤ f) (hi : i < rows.length) : ∃ rows', wayM f rows i = some rows' ∧ Fw rows' ∧ rows'.length = rows.length := by
  unfold wayM
  rw [List.getElem?_eq_getElem hi]
  dsimp only
  by_cases p : passL.contains rows[i].word = true
  · rw [if_pos p]
    exact ⟨rows, rfl, F, rfl⟩
  rw [if_neg p]
  have e := List.getElem?_eq_getElem hi
  cases e1 : landM rows f rows[i].after with
  | none => exact absurd e1 (land_some F f _ (by omega) (by omega))
  | some a =>
    have F1 : Fw (rows.set i { rows[i] with after := a }) := F.set e rfl fun z => absurd z p
    rw [Option.bind_some]
    cases e2 : landM (rows.set i { rows[i] with after := a }) f rows[i].other with
    | none => exact absurd e2 (land_some F1 f _ (by omega) (by rw [List.length_set]; omega))
    | some o => exact ⟨_, rfl, F.set e rfl fun z => absurd z p, List.length_set⟩
theorem ways_some {f : Nat} : ∀ (n i : Nat) (rows : List RowM), Fw rows → rows.length + 2 ≤ f → i + n ≤ rows.length → ∃ rows', waysM f n i rows = some rows'
  | 0, _, rows, _, _, _ => ⟨rows, rfl⟩
  | n + 1, i, rows, F, hf, hi => by
    obtain ⟨r', e, F', hl⟩ := way_some F (f := f) (i := i) hf (by omega)
    show ∃ rows', (wayM f rows i).bind (fun r => waysM f n (i + 1) r) = some rows'
    rw [e]
    exact ways_some n (i + 1) r' F' (by omega) (by omega)
theorem Fw.take {M M' : ShM} {words : List Str} (I : Iv M) (F : Fw M.rows) (h : takeM M words = some M') : Fw M'.rows := by
  obtain ⟨b, l, eb, hl, hll, hdr⟩ := I.last
  unfold takeM at h
  split at h
  · cases h
  · rename_i word words
    split at h
    · unfold declareM at h
      split at h
      · obtain ⟨hs, _, rfl⟩ := Option.map_eq_some_iff.mp h
        exact F.app
      · cases h
    · split at h
      · rename_i form hfo
        split at h
        · unfold takeRowM at h
          dsimp only at h
          generalize ((words.zip form).filter fun p => p.2 == ("" : Str)).map (·.1) = nm at h
          split at h
          · split at h
            · unfold openM at h
              replace h : (match M.nest.getLast? with | some l => _ | none => none) = some M' := h
              rw [hl] at h
              dsimp only at h
              split at h
              · obtain rfl := Option.some.inj h
                exact F.app
              · cases h
            · split at h
              · unfold turnM at h
                dsimp only at h
                rw [hl] at h
                dsimp only at h
                split at h
                · split at h
                  · obtain rfl := Option.some.inj h
                    exact F.app.setRow (fun _ => rfl) fun r e p => F.app l r e p
                  · cases h
                · cases h
              · split at h
                · unfold closeM at h
                  dsimp only at h
                  rw [hl] at h
                  dsimp only at h
                  split at h
                  · rename_i r er
                    split at h
                    · obtain rfl := Option.some.inj h
                      have F1 : Fw (FP.setRow (M.rows ++ [⟨word, nm, M.rows.length + 1, 0⟩]) l fun r => if r.word = ("else" : Str) then { r with after := M.rows.length } else { r with other := M.rows.length + 1 }) := by
                        refine F.app.setRow (fun r => by split <;> rfl) fun q e p => ?_
                        by_cases c : q.word = ("else" : Str)
                        · rw [if_pos c]
                          exact .inl hll
                        · rw [if_neg c]
                          exact F.app l q e p
                      show Fw (if r.word = ("loop" : Str) then _ else _)
                      split
                      · rename_i hloop
                        refine F1.setRow (fun _ => rfl) fun q e p => .inr ?_
                        show tgt _ l
                        unfold tgt
                        have wd := setRow_word (M.rows ++ [⟨word, nm, M.rows.length + 1, 0⟩]) l (fun r => if r.word = ("else" : Str) then { r with after := M.rows.length } else { r with other := M.rows.length + 1 }) (fun r => by split <;> rfl) l
                        have e0 : ∀ o : Option RowM, o.map (fun q : RowM => passL.contains q.word) = (o.map (fun q : RowM => q.word)).map passL.contains := fun o => by rw [Option.map_map]; rfl
                        rw [e0]
                        refine (congrArg (Option.map passL.contains) wd).trans ?_
                        rw [er]
                        show some (passL.contains r.word) = some false
                        rw [hloop]
                        decide +kernel
                      · exact F1
                    · cases h
                  · cases h
                · obtain rfl := Option.some.inj h
                  exact F.app
          · cases h
        · cases h
      · cases h
theorem rows_take {M M' : ShM} {words : List Str} (h : takeM M words = some M') : M'.rows.length = M.rows.length + 1 := by
  unfold takeM at h
  split at h
  · cases h
  · rename_i word words
    split at h
    · unfold declareM at h
      split at h
      · obtain ⟨hs, _, rfl⟩ := Option.map_eq_some_iff.mp h
        exact List.length_append
      · cases h
    · split at h
      · split at h
        · unfold takeRowM at h
          dsimp only at h
          split at h
          · rename_i nm
            split at h
            · unfold openM at h
              split at h
              · split at h
                · obtain rfl := Option.some.inj h
                  exact List.length_append
                · cases h
              · cases h
            · split at h
              · unfold turnM at h
                split at h
                · split at h
                  · split at h
                    · obtain rfl := Option.some.inj h
                      exact (setRow_len' _ _ _).trans List.length_append
                    · cases h
                  · cases h
                · cases h
              · split at h
                · unfold closeM at h
                  split at h
                  · split at h
                    · split at h
                      · obtain rfl := Option.some.inj h
                        show (if _ then _ else _ : List RowM).length = _
                        split
                        · exact (setRow_len' _ _ _).trans ((setRow_len' _ _ _).trans List.length_append)
                        · exact (setRow_len' _ _ _).trans List.length_append
                      · cases h
                    · cases h
                  · cases h
                · obtain rfl := Option.some.inj h
                  exact List.length_append
          · cases h
        · cases h
      · cases h
theorem iv_take {M M' : ShM} {words : List Str} (I : Iv M) (h : takeM M words = some M') : Iv M' := by
  cases words with
  | nil => cases h
  | cons w ws =>
    have S := step_same I (f := _) rfl w ws
    rw [h] at S
    cases e : lineRead (blocksOf M) (namesOf M) (decide (M.nest.getLast? = some (M.rows.length - 1))) (w :: ws) with
    | none => rw [e] at S; exact S.elim
    | some p => rw [e] at S; exact S.1
theorem fw_new : Fw ShM.new.rows := by
  intro i r e p
  have := (List.getElem?_eq_some_iff.mp e).1
  replace this : i < 1 := this
  have : i = 0 := by omega
  subst this
  obtain rfl := Option.some.inj e
  exact absurd p (by decide +kernel)
theorem fw_lines : ∀ (ls : List (List Str)) {M M' : ShM}, Iv M → Fw M.rows → readLines M ls = some M' → Iv M' ∧ Fw M'.rows ∧ M'.rows.length = M.rows.length + ls.length
  | [], M, M', I, F, h => by obtain rfl := Option.some.inj h; exact ⟨I, F, rfl⟩
  | l :: r, M, M', I, F, h => by
    obtain ⟨M1, h1, h2⟩ := Option.bind_eq_some_iff.mp (show (takeM M l).bind (fun M1 => readLines M1 r) = some M' from h)
    obtain ⟨a, b, c⟩ := fw_lines r (iv_take I h1) (F.take I h1) h2
    refine ⟨a, b, ?_⟩
    rw [c, rows_take h1, List.length_cons]
    omega
theorem goW_of {m : Nat} : ∀ (ls : List (List Str)) {M Mi : ShM} (i k : Nat), readLines M (ls.take i) = some Mi → i ≤ ls.length → k + i ≤ m → goW m M ls k = goW m Mi (ls.drop i) (k + i)
  | ls, M, Mi, 0, k, h, _, _ => by
    rw [List.take_zero] at h
    obtain rfl := Option.some.inj h
    rfl
  | [], _, _, i + 1, _, _, h, _ => by
    rw [List.length_nil] at h
    omega
  | l :: r, M, Mi, i + 1, k, h, hi, hk => by
    obtain ⟨M1, h1, h2⟩ := Option.bind_eq_some_iff.mp (show (takeM M l).bind (fun M1 => readLines M1 (r.take i)) = some Mi from h)
    show (if m ≤ k then k + 1 else match takeM M l with | none => k + 1 | some M' => goW m M' r (k + 1)) = _
    rw [if_neg (by omega), h1]
    dsimp only
    rw [goW_of r i (k + 1) h2 (by rw [List.length_cons] at hi; omega) (by omega), show k + (i + 1) = k + 1 + i from by omega]
    rfl
theorem goW_pos {m : Nat} : ∀ (ls : List (List Str)) (M : ShM) (k : Nat), goW m M ls k = 0 → ∃ M', readLines M ls = some M' ∧ M'.nest.length = 1 ∧ ls.length + k ≤ max m k
  | [], M, k, h => by
    replace h : (if M.nest.length = 1 then 0 else k + 1) = 0 := h
    split at h
    · exact ⟨M, rfl, by assumption, by rw [List.length_nil]; omega⟩
    · omega
  | l :: r, M, k, h => by
    replace h : (if m ≤ k then k + 1 else match takeM M l with | none => k + 1 | some M' => goW m M' r (k + 1)) = 0 := h
    split at h
    · omega
    · cases e : takeM M l with
      | none => rw [e] at h; dsimp only at h; omega
      | some M1 =>
        rw [e] at h
        obtain ⟨M', h1, h2, h3⟩ := goW_pos r M1 (k + 1) h
        refine ⟨M', ?_, h2, ?_⟩
        · show (takeM M l).bind (fun M1 => readLines M1 r) = some M'
          rw [e]
          exact h1
        · rw [List.length_cons]
          omega
/-- a text without a wrong line is read -/
theorem read_right {x : Str} {m : Nat} (hm : m ≤ 90) (h : wrongM x m = 0) : ∃ M, readM x m = some M := by
  obtain ⟨M', h1, h2, h3⟩ := goW_pos _ _ _ h
  rw [List.length_map] at h3
  obtain ⟨I, F, hl⟩ := fw_lines _ iv_new fw_new h1
  rw [List.length_map] at hl
  replace hl : M'.rows.length = 1 + (linesM x).length := hl
  obtain ⟨rows', e⟩ := ways_some (f := 100) M'.rows.length 0 M'.rows F (by omega) (by omega)
  refine ⟨{ M' with rows := rows' }, ?_⟩
  unfold readM
  rw [if_pos (by omega), h1]
  show (if M'.nest.length = 1 then _ else none) = _
  rw [if_pos h2, e]
  rfl
/-- .. and the other way -/
theorem right_read {x : Str} {m : Nat} {M : ShM} (h : readM x m = some M) : wrongM x m = 0 := by
  unfold readM at h
  split at h
  · rename_i hl
    obtain ⟨M1, h1, h2⟩ := Option.bind_eq_some_iff.mp h
    split at h2
    · rename_i hn
      unfold wrongM
      have e := goW_of (m := m) ((linesM x).map fun l => Txt.split l " ") (M := ShM.new) (Mi := M1) ((linesM x).map fun l => Txt.split l " ").length 0 (by rw [List.take_length]; exact h1) (Nat.le_refl _) (by rw [List.length_map]; omega)
      rw [e, List.drop_length]
      show (if M1.nest.length = 1 then 0 else _) = 0
      rw [if_pos hn]
    · cases h2
  · cases h
theorem wrong_same (x : Str) : wrongL x = wrongM x 40 := by
  have := go_same ((linesM x).map fun l => Txt.split l " ") ShM.new true 0 iv_new rfl ?_ (by omega)
  · exact this
  · intro l hl
    obtain ⟨y, _, rfl⟩ := List.mem_map.mp hl
    have := PyProof.Rows.split_pos y " "
    intro z
    rw [z] at this
    exact absurd this (by decide)
end FP
set_option Elab.async false
set_option linter.all false
set_option maxRecDepth 100000
set_option maxHeartbeats 4000000
set_option exponentiation.threshold 2000
/-! The reader and Program.__init__ on any text: what is read, or BadProgram with the first wrong line. -/
namespace FP
open PySem PySem.Spec PyProof.Rows L2 TL
/-- the class BadProgram -/
structure BadDef (P : Program) (w : World) (K : PySem.W.Frag) (mg : Str → Option Value) (base : Heap) (CB : Addr) : Prop where
  T : ExK K CB
  g : mg "BadProgram" = some (.ref CB)
  no : PySem.W.findIn K (.ref CB) "line" = some none
  te : PySem.W.exmOne K (.ref CB) (.ref CB) = some true
  ex : ∃ f fd, PySem.W.findIn K (.ref CB) "__init__" = some (some (.ref f)) ∧ PySem.W.typeIn K (.ref f) = some (.type "function") ∧ Binds K fd ["self", "line"] [] ∧ FnOk P w K mg base CX0 1 f fd ["self", "line"] (spE CB "line" okI)
section
variable {P : Program} {w : World} {K : PySem.W.Frag} {mg : Str → Option Value} {base : Heap} {Cr Cs Cp CB aT aP aO : Addr}
/-- what is left of a made error -/
theorem bad_heap {H0 H1 : Hp} {a d C : Addr} {fs : List (Str × V)} (S : Same H0 H1) (ha : H1 a = none) (hd : H1 d = none) (hda : d ≠ a) :
    H0 d = none ∧ Same H0 (upd (del (upd (upd (upd H1 a (exo a C none)) d (exd d fs)) a (exo a C (some d))) a) d (.xd fs)) ∧ (upd (del (upd (upd (upd H1 a (exo a C none)) d (exd d fs)) a (exo a C (some d))) a) d (.xd fs)) d = some (.xd fs) := by
  refine ⟨S.free hd, fun b u e => ?_, upd_same⟩
  have e1 := S _ _ e
  have nd := ne_of_none e1 hd
  have na := ne_of_none e1 ha
  rw [upd_ne nd, del_ne na, upd_ne na, upd_ne nd, upd_ne na]
  exact e1
def spReadX (CB Cr Cs : Addr) : Sp := fun vs H Q E => ∃ (x : Str) (m : Nat), vs = [.str x, .int (m : Nat)] ∧ x.length ≤ 80000 ∧ m ≤ 90 ∧
  (∀ M, readM x m = some M → ∀ s p H', ShAt Cr Cs H H' s p M → Q (.ref s) H') ∧
  (wrongM x m ≠ 0 → ∀ d H', H d = none → Same H H' → H' d = some (.xd [("line", .int ((wrongM x m : Nat) : Int))]) → E (.ref CB) (some d) H')
theorem log_smallB {n : Nat} (h : n ≤ 100000) : ((n : Nat) : Int).natAbs.log2 < 1920 := by
  rw [Int.natAbs_natCast]
  have h1 := Nat.log2_le_self n
  by_cases z : n = 0
  · rw [z]; decide
  · have : n.log2 < 17 := (Nat.log2_lt z).mpr (by omega)
    omega
/-- BadProgram(z) is made -/
theorem mk_bad {H' : Hp} {z : Int} {n : Nat} (hz : z = (n : Nat)) (hn : n ≤ 100000) {Q : XK} (k : ∀ a dx, H' a = none → H' dx = none → dx ≠ a →
      Q (.ref CB) (some dx) (upd (del (upd (upd (upd H' a (exo a CB none)) dx (exd dx [("line", .int z)])) a (exo a CB (some dx))) a) dx (.xd [("line", .int z)]))) :
    [V.int z].length ≤ 1000 ∧ ∀ a, H' a = none → spE CB "line" okI (.ref a :: ([.int z] ++ [])) (upd H' a (exo a CB none))
      (fun v H2 => v = .non ∧ ∃ (d : Addr) (fs : List (Str × V)), H2 a = some (exo a CB (some d)) ∧ H2 d = some (exd d fs) ∧ H' d = none ∧ Q (.ref CB) (some d) (upd (del H2 a) d (.xd fs))) (fun _ _ _ => False) := by
  refine ⟨by show 1 ≤ 1000; decide, fun a ha => ⟨a, .int z, rfl, upd_same, ⟨z, rfl, by rw [hz]; exact log_smallB hn⟩, fun dx hd hda => ?_⟩⟩
  have hd' : H' dx = none := by rw [upd_ne hda] at hd; exact hd
  exact ⟨rfl, dx, _, upd_same, (upd_ne hda).trans upd_same, hd', k a dx ha hd' hda⟩
theorem ok_readX {f : Addr} {fd : FuncData} (F : Fun K "read_sheet" "read_sheet" sRead f fd) (T : ShTxt K mg Cr Cs) (B : Blt2 mg) (DI : CDef P w K mg base Cs 3 ["self"] (spSheet Cr Cs)) (DL : Def P w K mg base "lines_of" 1 ["text"] spLines)
    (DT : MDef P w K mg base Cs "take_line" 4 ["self", "line"] (spTakeLine Cr Cs)) (DC : MDef P w K mg base Cs "is_closed" 1 ["self"] (spClosed Cr Cs)) (DW : MDef P w K mg base Cs "find_ways" 2 ["self"] (spWays Cr Cs)) (DB : BadDef P w K mg base CB) :
    FnOk P w K mg base (L2.CX P w) 5 f fd ["text", "most"] (spReadX CB Cr Cs) := by
  obtain ⟨fI, fdI, mI, bI, GI⟩ := DI.ex
  obtain ⟨fL, fdL, gL, kL, bL, GL⟩ := DL.ex
  obtain ⟨fT, fdT, mT, bT, GT⟩ := DT.ex
  obtain ⟨fC, fdC, mC, bC, GC⟩ := DC.ex
  obtain ⟨fW, fdW, mW, bW, GW⟩ := DW.ex
  obtain ⟨fB, fdB, iB, tB, bB, GB⟩ := DB.ex
  refine F.okX scRS (fun vs H Q E h => ?_) (fun cdv A outer s H vs Q E hr h => ?_)
  · obtain ⟨x, m, rfl, _⟩ := h
    rfl
  obtain ⟨x, m, rfl, hx, hm90, q, qe⟩ := h
  have hr1 := hr.mono (show 1 ≤ 4 by decide)
  have hr2 := hr.mono (show 2 ≤ 4 by decide)
  refine ⟨_, pss_cons (ps_set (i := 2) scRS.nd rfl (.inl rfl) (pe_make0 mI GI hr rfl T.gs bI .nil pass0))
    (pss_cons (ps_set (i := 3) scRS.nd rfl (.inl rfl) (pe_call GL hr1 rfl gL kL bL .nil pass0 (pa_cons (pv 0) pa_nil)))
    (pss_cons (ps_for PassesOwn.leaving rfl (pi_enumS true (by rfl) B.enum (pa_cons (pv 3) pa_nil) (pk_cons pe_int pk_nil)) (pg_tup (by rfl) (pgs_cons (pg_name (i := 4) scRS.nd rfl (Or.inl rfl)) (pgs_cons (pg_name (i := 5) scRS.nd rfl (Or.inl rfl)) pgs_nil)))
      (pss_one (ps_if (PW.pt (pw_or (pt_cmpR op_gt (pv 4) (pv 1) (nomark _)) (pw_or1 (pt_not (pt_val (pe_meth (pv 2) T.cs mT GT hr bT .nil pass0 (pa_cons (pv 5) pa_nil))))))) (pss_one (ps_raise rfl (takes_of rfl rfl rfl rfl) (pmk_oex DB.T.oex iB tB GB hr2 bB .nil pass0 (by rfl) DB.g (pa_cons (pv 4) pa_nil)))) pss_nil)))
    (pss_cons (ps_if (pt_not (pt_val (pe_meth0 (pv 2) T.cs mC GC hr1 bC .nil pass0))) (pss_one (ps_raise rfl (takes_of rfl rfl rfl rfl) (pmk_oex DB.T.oex iB tB GB hr2 bB .nil pass0 (by rfl) DB.g (pa_cons (pe_op op_add (pe_callB call_len_seq (by rfl) B.len boot_len (pa_cons (pv 3) pa_nil)) pe_int) pa_nil)))) pss_nil)
    (pss_cons (ps_expr (pe_meth0 (pv 2) T.cs mW GW hr2 bW .nil pass0))
    (pss_one (ps_ret (pv 2))))))), ?_⟩
  have hcnt := lines_cnt x
  have hlens := lines_lens x
  let ls := (linesM x).map fun l => Txt.split l " "
  have hll : ls.length = (linesM x).length := List.length_map _
  refine fun s dx ns nd ne => ⟨s, dx, H, rfl, upd_same, (Same.new (Same.new (Same.refl H) nd) ((upd_ne ne.symm).trans ns)), ns, fun p H1 A1 => ⟨rfl, ?_⟩⟩
  refine ⟨_, rfl, x, rfl, by omega, fun l H2 hl S2 el => ?_⟩
  have A2 := A1.grow S2
  have nl : H l = none := A1.same.free hl
  -- the lines' list belongs to the beginning
  have A3 : ShAt Cr Cs (upd H l (.lst ((linesM x).map V.str))) H2 s p ShM.new := by
    have B := A1.root (o := .lst ((linesM x).map V.str)) hl
    refine B.grow fun b u e => ?_
    by_cases z : b = l
    · rw [z, upd_same] at e
      rw [z, el]
      exact e
    · rw [upd_ne z] at e
      exact S2 _ _ e
  have S0 : Same H (upd H l (.lst ((linesM x).map V.str))) := Same.new (Same.refl H) nl
  have eD0 : (upd H l (.lst ((linesM x).map V.str))) l = some (.lst ((linesM x).map V.str)) := upd_same
  generalize upd H l (.lst ((linesM x).map V.str)) = HD at A3 S0 eD0
  -- a wrong line
  have bad : ∀ (z : Int) (H' : Hp), z = ((wrongM x m : Nat) : Int) → wrongM x m ≠ 0 → Same H H' → ∀ a dx, H' a = none → H' dx = none → dx ≠ a →
      E (.ref CB) (some dx) (upd (del (upd (upd (upd H' a (exo a CB none)) dx (exd dx [("line", .int z)])) a (exo a CB (some dx))) a) dx (.xd [("line", .int z)])) := fun z H' ez n0 S a dx ha hd hda => by
    obtain ⟨h1, h2, h3⟩ := bad_heap (C := CB) (fs := [("line", .int z)]) S ha hd hda
    exact qe n0 dx _ h1 h2 (by rw [← ez]; exact h3)
  refine ⟨_, rfl, l, _, 1, rfl, rfl, by decide, by decide, SqL.of el, for_it (walk_enumB (xs := (linesM x).map V.str)) (fun i σ H' => i ≤ m ∧ ∃ p Mi, (∃ z z2, σ = [some (.str x), some (.int (m : Nat)), some (.ref s), some (.ref l), z, z2]) ∧ readLines ShM.new (ls.take i) = some Mi ∧ Ok Mi ∧ Mi.rows.length = i + 1 ∧ ShAt Cr Cs HD H' s p Mi)
    ⟨Nat.zero_le _, p, ShM.new, ⟨none, none, rfl⟩, rfl, ok_new, rfl, A3⟩ (fun i σ H' _ z => ?_) ?_ ?_⟩
  · obtain ⟨_, p, _, _, _, _, _, A4⟩ := z
    exact SqL.of (A4.same _ _ eD0)
  · rintro i v σ H' H'' hi ⟨him, p, Mi, ⟨z, z2, rfl⟩, hMi, Oi, hli, A4⟩ ⟨T', a, b, rfl, hT, rfl, ha, hb⟩
    rw [List.length_map] at hi
    obtain rfl : V.int (1 + (i : Nat)) = a := Option.some.inj ha
    replace hb : ((linesM x).map V.str)[i]? = some b := hb
    rw [List.getElem?_map, List.getElem?_eq_getElem hi] at hb
    obtain rfl : V.str (linesM x)[i] = b := Option.some.inj hb
    have A5 := A4.grow (Same.new (o := .tup [.int (1 + (i : Nat)), .str (linesM x)[i]]) (Same.refl H') hT)
    have hw : wrongM x m = goW m Mi (ls.drop i) i := by
      have := goW_of (m := m) ls i 0 hMi (by omega) (by omega)
      rw [Nat.zero_add] at this
      exact this
    have hdr : ls.drop i = Txt.split (linesM x)[i] " " :: ls.drop (i + 1) := by
      rw [List.drop_eq_getElem_cons (by omega)]
      congr 1
      exact List.getElem_map _
    rw [hdr] at hw
    replace hw : wrongM x m = if m ≤ i then i + 1 else match takeM Mi (Txt.split (linesM x)[i] " ") with | none => i + 1 | some M' => goW m M' (ls.drop (i + 1)) (i + 1) := hw
    obtain ⟨d5, es5⟩ := A5.sh
    refine ⟨T', _, rfl, SqT.of upd_same, rfl, _, _, rfl, _, _, rfl, rfl, ?_⟩
    refine ⟨_, rfl, _, rfl, _, _, rfl, rfl, _, rfl, ?_⟩
    by_cases hmi : m ≤ i
    · rw [decide_eq_true (show ((m : Nat) : Int) < 1 + (i : Nat) by omega)]
      rw [if_pos hmi] at hw
      exact iteT ⟨_, rfl, mk_bad (n := i + 1) (by omega) (by omega) (bad _ _ (by omega) (by omega) (S0.trans A5.same))⟩
    rw [decide_eq_false (show ¬ ((m : Nat) : Int) < 1 + (i : Nat) by omega)]
    rw [if_neg hmi] at hw
    refine iteF ⟨_, rfl, s, d5, _, rfl, es5, rfl, _, rfl, s, (linesM x)[i], HD, p, Mi, rfl, A5, Oi, ?_, by omega, fun M' e p' H3 A6 => ⟨_, rfl, iteF ?_⟩, fun e => ?_⟩
    · have := hlens _ (List.getElem_mem hi)
      omega
    · obtain ⟨Oj, hlj⟩ := Oi.take e
      refine ⟨by omega, p', M', ⟨_, _, rfl⟩, ?_, Oj, by omega, A6⟩
      have htk : ls.take (i + 1) = ls.take i ++ [Txt.split (linesM x)[i] " "] := by
        rw [List.take_add_one, List.getElem?_eq_getElem (show i < ls.length by omega)]
        congr 1
        show [_] = [_]
        congr 1
        exact List.getElem_map _
      rw [htk, readLines_snoc, hMi]
      exact e
    · rw [e] at hw
      intro H3 S3
      exact ⟨_, rfl, iteT ⟨_, rfl, mk_bad (n := i + 1) (by omega) (by omega) (bad _ _ (by dsimp only at hw; omega) (by dsimp only at hw; omega) (S0.trans S3))⟩⟩
  · rintro σ H' ⟨him, p, Mi, ⟨z, z2, rfl⟩, hMi, Oi, hli, A4⟩
    rw [List.length_map] at hMi him
    rw [List.take_of_length_le (by omega)] at hMi
    obtain ⟨d4, es4⟩ := A4.sh
    refine ⟨_, rfl, s, d4, _, rfl, es4, rfl, s, HD, p, Mi, rfl, A4, _, rfl, ?_⟩
    have hn : ls.length ≤ m := by omega
    have hw : wrongM x m = if Mi.nest.length = 1 then 0 else ls.length + 1 := by
      have := goW_of (m := m) ls ls.length 0 (by rw [List.take_length]; exact hMi) (Nat.le_refl _) (by omega)
      rw [Nat.zero_add, List.drop_length] at this
      exact this
    by_cases hn1 : Mi.nest.length = 1
    · rw [if_pos hn1] at hw
      rw [decide_eq_true hn1]
      obtain ⟨M, hM⟩ := read_right hm90 hw
      have hM0 := hM
      unfold readM at hM
      rw [if_pos (by omega)] at hM
      obtain ⟨M1, h1, h2⟩ := Option.bind_eq_some_iff.mp hM
      rw [hMi] at h1
      obtain rfl := Option.some.inj h1
      rw [if_pos hn1] at h2
      obtain ⟨rows', hrows, h3⟩ := Option.map_eq_some_iff.mp h2
      refine iteF ⟨_, rfl, s, d4, _, rfl, es4, rfl, s, 100, rows', HD, p, Mi, rfl, A4, hrows, fun H5 A5 => ⟨_, rfl, ?_⟩⟩
      have := q M hM0 s p H5
      rw [← h3] at this
      exact this (A5.back S0)
    · rw [if_neg hn1] at hw
      rw [decide_eq_false hn1]
      refine iteT ⟨_, rfl, l, _, rfl, .inl (SqL.of (A4.same _ _ eD0)), _, _, rfl, rfl, ?_⟩
      rw [List.length_map]
      exact mk_bad (n := ls.length + 1) (by omega) (by omega) (bad _ _ (by omega) (by omega) (S0.trans A4.same))
end
end FP
set_option Elab.async false
set_option linter.all false
set_option maxRecDepth 100000
set_option maxHeartbeats 4000000
/-! Programs as trees; how the reader reads them. -/
namespace FP
open PySem
inductive Deed where
  | input (a : Str)
  | copy (a b : Str)
  | point (a b : Str)
  | load (a p : Str)
  | store (a p : Str)
  | use (a : Str)
  | call (p : Str)
deriving DecidableEq
def Deed.word : Deed → Str
  | .input _ => "input"
  | .copy _ _ => "copy"
  | .point _ _ => "point"
  | .load _ _ => "load"
  | .store _ _ => "store"
  | .use _ => "use"
  | .call _ => "call"
def Deed.names : Deed → List Str
  | .input a => [a]
  | .copy a b => [a, b]
  | .point a b => [a, b]
  | .load a p => [a, p]
  | .store a p => [a, p]
  | .use a => [a]
  | .call p => [p]
def Deed.words : Deed → List Str
  | .input a => ["input", a]
  | .copy a b => ["copy", a, "to", b]
  | .point a b => ["point", a, "to", b]
  | .load a p => ["load", a, "from", p]
  | .store a p => ["store", a, "to", p]
  | .use a => ["use", a]
  | .call p => ["call", p]
inductive Op where
  | block
  | loop
  | maybe
  | same (a b : Str)
deriving DecidableEq
def Op.word : Op → Str
  | .block => "block"
  | .loop => "loop"
  | .maybe => "maybe"
  | .same _ _ => "same"
def Op.names : Op → List Str
  | .same a b => [a, b]
  | _ => []
def Op.two : Op → Bool
  | .maybe => true
  | .same _ _ => true
  | _ => false
/-- the orders of a block, one behind the other -/
inductive T where
  | nil
  | deed (d : Deed) (r : T)
  | one (o : Op) (cs : List Str) (b r : T)
  | two (o : Op) (cs : List Str) (b : T) (cs' : List Str) (b' r : T)
deriving DecidableEq
/-- the line of a block's cells -/
def loc (cs : List Str) : List (List Str) := if cs = [] then [] else ["local" :: cs]
def wEnd : List Str := ["end"]
def wElse : List Str := ["else"]
def linesT : T → List (List Str)
  | .nil => []
  | .deed d r => d.words :: linesT r
  | .one o cs b r => (o.word :: o.names) :: (loc cs ++ linesT b ++ wEnd :: linesT r)
  | .two o cs b cs' b' r => (o.word :: o.names) :: (loc cs ++ linesT b ++ wElse :: (loc cs' ++ linesT b' ++ wEnd :: linesT r))
def locN (cs : List Str) : Nat := if cs = [] then 0 else 1
theorem loc_len (cs : List Str) : (loc cs).length = locN cs := by unfold loc locN; split <;> rfl
def sizeT : T → Nat
  | .nil => 0
  | .deed _ r => 1 + sizeT r
  | .one _ cs b r => 1 + (locN cs + sizeT b) + 1 + sizeT r
  | .two _ cs b cs' b' r => 1 + (locN cs + sizeT b) + 1 + (locN cs' + sizeT b') + 1 + sizeT r
theorem lines_len : ∀ t : T, (linesT t).length = sizeT t
  | .nil => rfl
  | .deed _ r => by rw [linesT, List.length_cons, lines_len r, sizeT]; omega
  | .one _ cs b r => by rw [linesT, List.length_cons, List.length_append, List.length_append, List.length_cons, loc_len, lines_len b, lines_len r, sizeT]; omega
  | .two _ cs b cs' b' r => by
    rw [linesT, List.length_cons, List.length_append, List.length_append, List.length_cons, List.length_append, List.length_append, List.length_cons, loc_len, loc_len, lines_len b, lines_len b', lines_len r, sizeT]
    omega
/-! ### the rows, as they are read -/
def locRows (n : Nat) (cs : List Str) : List RowM := if cs = [] then [] else [⟨"local", cs, n + 1, 0⟩]
theorem locRows_len (n : Nat) (cs : List Str) : (locRows n cs).length = locN cs := by unfold locRows locN; split <;> rfl
def rowsT : Nat → T → List RowM
  | _, .nil => []
  | n, .deed d r => ⟨d.word, d.names, n + 1, 0⟩ :: rowsT (n + 1) r
  | n, .one o cs b r =>
    ⟨o.word, o.names, n + 1, n + 1 + (locN cs + sizeT b) + 1⟩ :: (locRows (n + 1) cs ++ rowsT (n + 1 + locN cs) b ++
      ⟨"end", [], if o = .loop then n else n + 1 + (locN cs + sizeT b) + 1, 0⟩ :: rowsT (n + 1 + (locN cs + sizeT b) + 1) r)
  | n, .two o cs b cs' b' r =>
    ⟨o.word, o.names, n + 1, n + 1 + (locN cs + sizeT b) + 1⟩ :: (locRows (n + 1) cs ++ rowsT (n + 1 + locN cs) b ++
      ⟨"else", [], n + 1 + (locN cs + sizeT b) + 1 + (locN cs' + sizeT b'), 0⟩ :: (locRows (n + 1 + (locN cs + sizeT b) + 1) cs' ++ rowsT (n + 1 + (locN cs + sizeT b) + 1 + locN cs') b' ++
        ⟨"end", [], n + 1 + (locN cs + sizeT b) + 1 + (locN cs' + sizeT b') + 1, 0⟩ :: rowsT (n + 1 + (locN cs + sizeT b) + 1 + (locN cs' + sizeT b') + 1) r))
theorem rows_len : ∀ (t : T) (n : Nat), (rowsT n t).length = sizeT t
  | .nil, _ => rfl
  | .deed _ r, n => by rw [rowsT, List.length_cons, rows_len r, sizeT]; omega
  | .one _ cs b r, n => by rw [rowsT, List.length_cons, List.length_append, List.length_append, List.length_cons, locRows_len, rows_len b, rows_len r, sizeT]; omega
  | .two _ cs b cs' b' r, n => by
    rw [rowsT, List.length_cons, List.length_append, List.length_append, List.length_cons, List.length_append, List.length_append, List.length_cons, locRows_len, locRows_len, rows_len b, rows_len b', rows_len r, sizeT]
    omega
/-- the cells of the blocks, each with the line that opens its block -/
def homesT : Nat → T → List (Str × Nat)
  | _, .nil => []
  | n, .deed _ r => homesT (n + 1) r
  | n, .one _ cs b r => cs.map (·, n) ++ homesT (n + 1 + locN cs) b ++ homesT (n + 1 + (locN cs + sizeT b) + 1) r
  | n, .two _ cs b cs' b' r => cs.map (·, n) ++ homesT (n + 1 + locN cs) b ++ (cs'.map (·, n + 1 + (locN cs + sizeT b)) ++ homesT (n + 1 + (locN cs + sizeT b) + 1 + locN cs') b' ++ homesT (n + 1 + (locN cs + sizeT b) + 1 + (locN cs' + sizeT b') + 1) r)
/-- the blocks around, h the line that opens the block -/
def aroundT : Nat → Nat → T → List (Nat × Nat)
  | _, _, .nil => []
  | n, h, .deed _ r => aroundT (n + 1) h r
  | n, h, .one _ cs b r => (n, h) :: (aroundT (n + 1 + locN cs) n b ++ aroundT (n + 1 + (locN cs + sizeT b) + 1) h r)
  | n, h, .two _ cs b cs' b' r => (n, h) :: (aroundT (n + 1 + locN cs) n b ++ (n + 1 + (locN cs + sizeT b), h) :: (aroundT (n + 1 + (locN cs + sizeT b) + 1 + locN cs') (n + 1 + (locN cs + sizeT b)) b' ++ aroundT (n + 1 + (locN cs + sizeT b) + 1 + (locN cs' + sizeT b') + 1) h r))
/-- the cells declared in inner blocks -/
def declT : T → List Str
  | .nil => []
  | .deed _ r => declT r
  | .one _ cs b r => cs ++ declT b ++ declT r
  | .two _ cs b cs' b' r => cs ++ declT b ++ (cs' ++ declT b' ++ declT r)
theorem homes_names : ∀ (t : T) (n : Nat), (homesT n t).map (·.1) = declT t
  | .nil, _ => rfl
  | .deed _ r, n => homes_names r _
  | .one _ cs b r, n => by
    rw [homesT, declT, List.map_append, List.map_append, homes_names b, homes_names r, List.map_map]
    congr 2
    exact (List.map_congr_left fun _ _ => rfl).trans (List.map_id cs)
  | .two _ cs b cs' b' r, n => by
    rw [homesT, declT, List.map_append, List.map_append, List.map_append, List.map_append, homes_names b, homes_names b', homes_names r, List.map_map, List.map_map]
    congr 2
    · exact (List.map_congr_left fun _ _ => rfl).trans (List.map_id cs)
    · congr 1
      exact (List.map_congr_left fun _ _ => rfl).trans (List.map_id cs')
/-- every named cell can be named; d blocks more may be opened -/
def wfT (seen : List Str) : Nat → T → Prop
  | _, .nil => True
  | d, .deed k r => (∀ x ∈ k.names, x ∈ seen) ∧ wfT seen d r
  | 0, .one .. => False
  | 0, .two .. => False
  | d + 1, .one o cs b r => (∀ x ∈ o.names, x ∈ seen) ∧ wfT (seen ++ cs) d b ∧ wfT seen (d + 1) r
  | d + 1, .two o cs b cs' b' r => o.two = true ∧ (∀ x ∈ o.names, x ∈ seen) ∧ wfT (seen ++ cs) d b ∧ wfT (seen ++ cs') d b' ∧ wfT seen (d + 1) r
end FP
set_option Elab.async false
set_option linter.all false
set_option maxRecDepth 100000
set_option maxHeartbeats 4000000
namespace FP
open PySem
theorem readLines_app : ∀ (xs ys : List (List Str)) (M : ShM), readLines M (xs ++ ys) = (readLines M xs).bind fun M1 => readLines M1 ys
  | [], _, _ => rfl
  | x :: xs, ys, M => by
    show (takeM M x).bind (fun M1 => readLines M1 (xs ++ ys)) = ((takeM M x).bind fun M1 => readLines M1 xs).bind _
    cases takeM M x with
    | none => rfl
    | some M1 => exact readLines_app xs ys M1
theorem readLines_cons (x : List Str) (ys : List (List Str)) (M : ShM) : readLines M (x :: ys) = (takeM M x).bind fun M1 => readLines M1 ys := rfl
/-! ### what is named -/
theorem homeOf_app {l m : List (Str × Nat)} {x : Str} {n : Nat} (h : homeOf l x = some n) : homeOf (l ++ m) x = some n := by
  unfold homeOf at h ⊢
  rw [List.find?_append]
  cases e : l.find? (fun p => decide (p.1 = x)) with
  | none => rw [e] at h; cases h
  | some p => rw [e] at h; exact h
theorem homeOf_app_none {l m : List (Str × Nat)} {x : Str} (h : homeOf l x = none) : homeOf (l ++ m) x = homeOf m x := by
  unfold homeOf at h ⊢
  rw [List.find?_append]
  rw [Option.map_eq_none_iff] at h
  rw [h]
  rfl
theorem homeOf_none {l : List (Str × Nat)} {x : Str} : homeOf l x = none ↔ x ∉ l.map (·.1) := by
  unfold homeOf
  rw [Option.map_eq_none_iff, List.find?_eq_none]
  constructor
  · intro h z
    obtain ⟨p, hp, rfl⟩ := List.mem_map.mp z
    exact h p hp (decide_eq_true rfl)
  · intro h p hp z
    exact h (List.mem_map.mpr ⟨p, hp, of_decide_eq_true z⟩)
theorem homeOf_map {cs : List Str} {n : Nat} {x : Str} (h : x ∈ cs) : homeOf (cs.map (·, n)) x = some n := by
  induction cs with
  | nil => cases h
  | cons c r ih =>
    unfold homeOf
    rw [List.map_cons, List.find?_cons]
    by_cases e : c = x
    · rw [decide_eq_true e]; rfl
    · rw [decide_eq_false e]
      exact ih ((List.mem_cons.mp h).resolve_left fun z => e z.symm)
theorem seen_iff {M : ShM} {x : Str} : seenM M x = true ↔ ∃ h, homeOf M.homes x = some h ∧ h ∈ M.nest := by
  unfold seenM
  cases e : homeOf M.homes x with
  | none => simp
  | some h => simp
/-! ### single lines -/
section
variable {M : ShM}
def addRow (M : ShM) (r : RowM) : ShM := ⟨M.rows ++ [r], M.homes, M.around, M.nest⟩
theorem seen_addRow (M : ShM) (r : RowM) : seenM (addRow M r) = seenM M := rfl
theorem take_deed (d : Deed) (h : ∀ x ∈ d.names, seenM M x = true) : takeM M d.words = some (addRow M ⟨d.word, d.names, M.rows.length + 1, 0⟩) := by
  have key : ∀ (w : Str) (ws form ns : List Str), w ≠ "local" → formsL.lookup w = some form → fitsM ws form = true → ((ws.zip form).filter fun p => p.2 == ("" : Str)).map (·.1) = ns → (∀ x ∈ ns, seenM M x = true) →
      openL.contains w = false → w ≠ "else" → w ≠ "end" → takeM M (w :: ws) = some (addRow M ⟨w, ns, M.rows.length + 1, 0⟩) := by
    intro w ws form ns h1 h2 h3 h4 h5 h6 h7 h8
    show (if w = "local" then declareM M ws else match formsL.lookup w with
      | some form => if fitsM ws form = true then takeRowM M w ws form else none
      | none => none) = _
    rw [if_neg h1, h2]
    show (if fitsM ws form = true then takeRowM M w ws form else none) = _
    rw [if_pos h3]
    unfold takeRowM
    dsimp only
    rw [h4, if_pos (List.all_eq_true.mpr h5), if_neg (by rw [h6]; exact Bool.false_ne_true), if_neg h7, if_neg h8]
    rfl
  have two : ∀ (a b t : Str), fitsM [a, t, b] ["", t, ""] = true := by
    intro a b t
    unfold fitsM
    simp
  have one : ∀ (a : Str), fitsM [a] [""] = true := by
    intro a
    unfold fitsM
    simp
  cases d with
  | input a => exact key "input" [a] [""] [a] (by decide) (by decide) (one a) rfl h (by decide) (by decide) (by decide)
  | copy a b => exact key "copy" [a, "to", b] ["", "to", ""] [a, b] (by decide) (by decide) (two a b _) rfl h (by decide) (by decide) (by decide)
  | point a b => exact key "point" [a, "to", b] ["", "to", ""] [a, b] (by decide) (by decide) (two a b _) rfl h (by decide) (by decide) (by decide)
  | load a p => exact key "load" [a, "from", p] ["", "from", ""] [a, p] (by decide) (by decide) (two a p _) rfl h (by decide) (by decide) (by decide)
  | store a p => exact key "store" [a, "to", p] ["", "to", ""] [a, p] (by decide) (by decide) (two a p _) rfl h (by decide) (by decide) (by decide)
  | use a => exact key "use" [a] [""] [a] (by decide) (by decide) (one a) rfl h (by decide) (by decide) (by decide)
  | call p => exact key "call" [p] [""] [p] (by decide) (by decide) (one p) rfl h (by decide) (by decide) (by decide)
theorem getN_fresh {l : List (Nat × Nat)} {k : Nat} (h : ∀ p ∈ l, p.1 < k) : (l.any fun p => decide (p.1 = k)) = false := by
  rw [List.any_eq_false]
  intro p hp z
  have := h p hp
  rw [of_decide_eq_true z] at this
  exact Nat.lt_irrefl _ this
theorem putN_fresh {l : List (Nat × Nat)} {k v : Nat} (h : ∀ p ∈ l, p.1 < k) : putN l k v = l ++ [(k, v)] := by
  unfold putN
  rw [getN_fresh h, if_neg Bool.false_ne_true]
theorem take_open (o : Op) {l : Nat} (h : ∀ x ∈ o.names, seenM M x = true) (hn : M.nest.getLast? = some l) (hl : M.nest.length ≤ 5) (ha : ∀ p ∈ M.around, p.1 < M.rows.length) :
    takeM M (o.word :: o.names) = some ⟨M.rows ++ [⟨o.word, o.names, M.rows.length + 1, 0⟩], M.homes, M.around ++ [(M.rows.length, l)], M.nest ++ [M.rows.length]⟩ := by
  have key : ∀ (w : Str) (ws form ns : List Str), w ≠ "local" → formsL.lookup w = some form → fitsM ws form = true → ((ws.zip form).filter fun p => p.2 == ("" : Str)).map (·.1) = ns → (∀ x ∈ ns, seenM M x = true) →
      openL.contains w = true → takeM M (w :: ws) = some ⟨M.rows ++ [⟨w, ns, M.rows.length + 1, 0⟩], M.homes, M.around ++ [(M.rows.length, l)], M.nest ++ [M.rows.length]⟩ := by
    intro w ws form ns h1 h2 h3 h4 h5 h6
    show (if w = "local" then declareM M ws else match formsL.lookup w with
      | some form => if fitsM ws form = true then takeRowM M w ws form else none
      | none => none) = _
    rw [if_neg h1, h2]
    show (if fitsM ws form = true then takeRowM M w ws form else none) = _
    rw [if_pos h3]
    unfold takeRowM
    dsimp only
    rw [h4, if_pos (List.all_eq_true.mpr h5), if_pos h6]
    unfold openM
    rw [show (⟨M.rows ++ [⟨w, ns, M.rows.length + 1, 0⟩], M.homes, M.around, M.nest⟩ : ShM).nest = M.nest from rfl, hn]
    show (if M.nest.length ≤ 5 then _ else none) = _
    rw [if_pos hl]
    show some (⟨_, _, putN M.around _ _, _⟩ : ShM) = _
    rw [putN_fresh ha]
  cases o with
  | block => exact key "block" [] [] [] (by decide) (by decide) rfl rfl h (by decide)
  | loop => exact key "loop" [] [] [] (by decide) (by decide) rfl rfl h (by decide)
  | maybe => exact key "maybe" [] [] [] (by decide) (by decide) rfl rfl h (by decide)
  | same a b => exact key "same" [a, b] ["", ""] [a, b] (by decide) (by decide) (by unfold fitsM; simp) rfl h (by decide)
theorem addNames_ok (n : Nat) : ∀ (cs : List Str) (homes : List (Str × Nat)), (∀ x ∈ cs, isName x = true) → cs.Nodup → (∀ x ∈ cs, homeOf homes x = none) → homes.length + cs.length ≤ 5 → addNames n homes cs = some (homes ++ cs.map (·, n))
  | [], homes, _, _, _, _ => by rw [List.map_nil, List.append_nil]; rfl
  | c :: r, homes, h1, h2, h3, h4 => by
    obtain ⟨hc, hr⟩ := List.nodup_cons.mp h2
    rw [List.length_cons] at h4
    have e : addName n homes c = some (homes ++ [(c, n)]) := by
      unfold addName
      rw [if_pos ⟨h1 c List.mem_cons_self, h3 c List.mem_cons_self, by omega⟩]
    show (addName n homes c).bind (fun h => addNames n h r) = _
    rw [e]
    show addNames n (homes ++ [(c, n)]) r = _
    rw [addNames_ok n r _ (fun x hx => h1 x (List.mem_cons_of_mem _ hx)) hr (fun x hx => ?_) (by rw [List.length_append, List.length_singleton]; omega), List.append_assoc]
    · rfl
    · rw [homeOf_app_none (h3 x (List.mem_cons_of_mem _ hx)), homeOf_none]
      intro z
      rw [List.map_singleton, List.mem_singleton] at z
      have z' : x = c := z
      exact hc (z' ▸ hx)
theorem read_loc {h : Nat} (cs : List Str) (h1 : ∀ x ∈ cs, isName x = true) (h2 : cs.Nodup) (h3 : ∀ x ∈ cs, homeOf M.homes x = none) (h4 : M.homes.length + cs.length ≤ 5) (hr : M.rows.length = h + 1) (hn : M.nest.getLast? = some h) :
    readLines M (loc cs) = some ⟨M.rows ++ locRows (h + 1) cs, M.homes ++ cs.map (·, h), M.around, M.nest⟩ := by
  unfold loc locRows
  by_cases c : cs = []
  · subst c
    simp [readLines]
  · rw [if_neg c, if_neg c, readLines_cons]
    show (takeM M ("local" :: cs)).bind _ = _
    have : takeM M ("local" :: cs) = declareM M cs := by
      unfold takeM
      dsimp only
      rw [if_pos rfl]
    rw [this]
    unfold declareM
    rw [if_pos ⟨c, by rw [hn, hr]; rfl⟩, hr, Nat.add_sub_cancel, addNames_ok h cs _ h1 h2 h3 h4]
    rfl
theorem setRow_mid {pre post : List RowM} {r : RowM} {f : RowM → RowM} : setRow (pre ++ r :: post) pre.length f = pre ++ f r :: post := by
  unfold setRow
  rw [List.getElem?_append_right (Nat.le_refl _), Nat.sub_self]
  show (pre ++ r :: post).set pre.length (f r) = _
  rw [List.set_append_right pre.length (f r) (Nat.le_refl _), Nat.sub_self]
  rfl
/-- a line end that closes the side that n opened -/
theorem take_end {pre mid : List RowM} {r : RowM} {b : List Nat} (hrows : M.rows = pre ++ r :: mid) (hnest : M.nest = b ++ [pre.length]) (h0 : pre.length ≠ 0) :
    takeM M wEnd = some ⟨pre ++ (if r.word = ("else" : Str) then { r with after := M.rows.length } else { r with other := M.rows.length + 1 }) :: mid ++ [⟨"end", [], if r.word = ("loop" : Str) then pre.length else M.rows.length + 1, 0⟩], M.homes, M.around, b⟩ := by
  have hlast : M.nest.getLast? = some pre.length := by rw [hnest, List.getLast?_concat]
  have e1 : takeM M wEnd = closeM ⟨M.rows ++ [⟨"end", [], M.rows.length + 1, 0⟩], M.homes, M.around, M.nest⟩ M.rows.length := by
    show (if ("end" : Str) = "local" then declareM M [] else match formsL.lookup ("end" : Str) with
      | some form => if fitsM [] form = true then takeRowM M "end" [] form else none
      | none => none) = _
    rw [if_neg (by decide), show formsL.lookup ("end" : Str) = some [] by decide]
    show takeRowM M "end" [] [] = _
    unfold takeRowM
    dsimp only
    rw [show ((([] : List Str).zip ([] : List Str)).filter fun p => p.2 == ("" : Str)).map (·.1) = ([] : List Str) from rfl, if_pos (show ([] : List Str).all (seenM M) = true from rfl), if_neg (show ¬ openL.contains ("end" : Str) = true by decide), if_neg (show ¬ ("end" : Str) = "else" by decide), if_pos rfl]
  rw [e1]
  unfold closeM
  rw [show (⟨M.rows ++ [⟨"end", [], M.rows.length + 1, 0⟩], M.homes, M.around, M.nest⟩ : ShM).nest = M.nest from rfl, hlast]
  have hrow : (M.rows ++ [(⟨"end", [], M.rows.length + 1, 0⟩ : RowM)])[pre.length]? = some r := by
    rw [hrows, List.append_assoc, List.getElem?_append_right (Nat.le_refl _), Nat.sub_self]
    rfl
  dsimp only
  rw [hrow]
  dsimp only
  rw [if_pos h0, hnest, List.dropLast_concat]
  have hlen : M.rows.length = pre.length + 1 + mid.length := by rw [hrows, List.length_append, List.length_cons]; omega
  have e2 : setRow (M.rows ++ [(⟨"end", [], M.rows.length + 1, 0⟩ : RowM)]) pre.length (fun r => if r.word = ("else" : Str) then { r with after := M.rows.length } else { r with other := M.rows.length + 1 }) =
      (pre ++ (if r.word = ("else" : Str) then { r with after := M.rows.length } else { r with other := M.rows.length + 1 }) :: mid) ++ [⟨"end", [], M.rows.length + 1, 0⟩] := by
    conv => lhs; rw [hrows, List.append_assoc, List.cons_append]
    rw [setRow_mid]
    rw [← hrows, List.append_assoc, List.cons_append]
  rw [e2]
  by_cases cl : r.word = ("loop" : Str)
  · rw [if_pos cl, if_pos cl]
    have l2 : (pre ++ (if r.word = ("else" : Str) then { r with after := M.rows.length } else { r with other := M.rows.length + 1 }) :: mid).length = M.rows.length := by
      rw [hlen, List.length_append, List.length_cons]; omega
    have := setRow_mid (pre := pre ++ (if r.word = ("else" : Str) then { r with after := M.rows.length } else { r with other := M.rows.length + 1 }) :: mid) (post := []) (r := (⟨"end", [], M.rows.length + 1, 0⟩ : RowM)) (f := fun r => { r with after := pre.length })
    rw [l2] at this
    rw [this]
  · rw [if_neg cl, if_neg cl]
/-- a line else -/
theorem take_else {pre mid : List RowM} {r : RowM} {b : List Nat} {a : Nat} (hrows : M.rows = pre ++ r :: mid) (hnest : M.nest = b ++ [pre.length]) (hw : twoL.contains r.word = true) (hg : getN M.around pre.length = some a) (ha : ∀ p ∈ M.around, p.1 < M.rows.length) :
    takeM M wElse = some ⟨pre ++ { r with other := M.rows.length + 1 } :: mid ++ [⟨"else", [], M.rows.length + 1, 0⟩], M.homes, M.around ++ [(M.rows.length, a)], b ++ [M.rows.length]⟩ := by
  have hlast : M.nest.getLast? = some pre.length := by rw [hnest, List.getLast?_concat]
  have e1 : takeM M wElse = turnM ⟨M.rows ++ [⟨"else", [], M.rows.length + 1, 0⟩], M.homes, M.around, M.nest⟩ M.rows.length := by
    show (if ("else" : Str) = "local" then declareM M [] else match formsL.lookup ("else" : Str) with
      | some form => if fitsM [] form = true then takeRowM M "else" [] form else none
      | none => none) = _
    rw [if_neg (by decide), show formsL.lookup ("else" : Str) = some [] by decide]
    show takeRowM M "else" [] [] = _
    unfold takeRowM
    dsimp only
    rw [show ((([] : List Str).zip ([] : List Str)).filter fun p => p.2 == ("" : Str)).map (·.1) = ([] : List Str) from rfl, if_pos (show ([] : List Str).all (seenM M) = true from rfl), if_neg (show ¬ openL.contains ("else" : Str) = true by decide), if_pos rfl]
  rw [e1]
  unfold turnM
  rw [show (⟨M.rows ++ [⟨"else", [], M.rows.length + 1, 0⟩], M.homes, M.around, M.nest⟩ : ShM).nest = M.nest from rfl, hlast]
  have hrow : (M.rows ++ [(⟨"else", [], M.rows.length + 1, 0⟩ : RowM)])[pre.length]? = some r := by
    rw [hrows, List.append_assoc, List.getElem?_append_right (Nat.le_refl _), Nat.sub_self]
    rfl
  dsimp only
  rw [hrow, hg]
  dsimp only
  rw [if_pos hw, hnest, List.dropLast_concat, putN_fresh ha]
  have e2 : setRow (M.rows ++ [(⟨"else", [], M.rows.length + 1, 0⟩ : RowM)]) pre.length (fun r => { r with other := M.rows.length + 1 }) = (pre ++ { r with other := M.rows.length + 1 } :: mid) ++ [⟨"else", [], M.rows.length + 1, 0⟩] := by
    conv => lhs; rw [hrows, List.append_assoc, List.cons_append]
    rw [setRow_mid]
    rw [← hrows, List.append_assoc, List.cons_append]
  rw [e2]
end
end FP
set_option Elab.async false
set_option linter.all false
set_option maxRecDepth 100000
set_option maxHeartbeats 4000000
namespace FP
open PySem
theorem around_lt : ∀ (t : T) (n h : Nat), ∀ p ∈ aroundT n h t, p.1 < n + sizeT t
  | .nil, n, h, p, hp => by cases hp
  | .deed _ r, n, h, p, hp => by
    have := around_lt r (n + 1) h p hp
    rw [sizeT]; omega
  | .one _ cs b r, n, h, p, hp => by
    rw [aroundT] at hp
    rw [sizeT]
    rcases List.mem_cons.mp hp with z | z
    · rw [z]
      show n < _
      omega
    rcases List.mem_append.mp z with z | z
    · have := around_lt b _ _ p z
      omega
    · have := around_lt r _ _ p z
      omega
  | .two _ cs b cs' b' r, n, h, p, hp => by
    rw [aroundT] at hp
    rw [sizeT]
    rcases List.mem_cons.mp hp with z | z
    · rw [z]
      show n < _
      omega
    rcases List.mem_append.mp z with z | z
    · have := around_lt b _ _ p z
      omega
    rcases List.mem_cons.mp z with z | z
    · rw [z]
      show n + 1 + _ < _
      omega
    rcases List.mem_append.mp z with z | z
    · have := around_lt b' _ _ p z
      omega
    · have := around_lt r _ _ p z
      omega
theorem getN_app {l m : List (Nat × Nat)} {k v : Nat} (h : ∀ p ∈ l, p.1 < k) : getN (l ++ (k, v) :: m) k = some v := by
  unfold getN
  rw [List.find?_append]
  have : l.find? (fun p => decide (p.1 = k)) = none := by
    rw [List.find?_eq_none]
    intro p hp z
    have := h p hp
    rw [of_decide_eq_true z] at this
    exact Nat.lt_irrefl _ this
  rw [this, List.find?_cons, decide_eq_true rfl]
  rfl
/-- what the reader asks ahead of a body -/
structure RdOk (M : ShM) (seen : List Str) (d h : Nat) (dec : List Str) : Prop where
  seen : ∀ x ∈ seen, seenM M x = true
  last : M.nest.getLast? = some h
  deep : M.nest.length + d = 6
  ar : ∀ p ∈ M.around, p.1 < M.rows.length
  pos : M.rows.length ≠ 0
  nm : ∀ x ∈ dec, isName x = true
  nd : dec.Nodup
  fr : ∀ x ∈ dec, homeOf M.homes x = none
  h5 : M.homes.length + dec.length ≤ 5
theorem op_notelse (o : Op) : o.word ≠ ("else" : Str) := match o with
  | .block => (by decide : ("block" : Str) ≠ "else")
  | .loop => (by decide : ("loop" : Str) ≠ "else")
  | .maybe => (by decide : ("maybe" : Str) ≠ "else")
  | .same _ _ => (by decide : ("same" : Str) ≠ "else")
theorem op_two (o : Op) (h : o.two = true) : twoL.contains o.word = true := match o, h with
  | .maybe, _ => (by decide : twoL.contains ("maybe" : Str) = true)
  | .same _ _, _ => (by decide : twoL.contains ("same" : Str) = true)
theorem op_loop (o : Op) : (o.word = ("loop" : Str)) ↔ o = .loop := by
  cases o with
  | block => exact ⟨fun z => absurd z (by decide), fun z => by cases z⟩
  | loop => exact ⟨fun _ => rfl, fun _ => rfl⟩
  | maybe => exact ⟨fun z => absurd z (by decide), fun z => by cases z⟩
  | same a b => exact ⟨fun z => absurd z (by show ¬ (("same" : Str) = "loop"); decide), fun z => by cases z⟩
/-- behind the opening of a side and its cells -/
theorem RdOk.inner {M : ShM} {seen dec : List Str} {d h : Nat} {rows : List RowM} {around : List (Nat × Nat)} {homes : List (Str × Nat)} {nest : List Nat} {k : Nat} (cs : List Str) {db : List Str} (hs : ∀ x ∈ seen, ∃ y, homeOf homes x = some y ∧ y ∈ nest)
    (hd : nest.length + (d + 1) = 6) (har : ∀ p ∈ around, p.1 < rows.length) (hp : rows.length ≠ 0) (hnm : ∀ x ∈ cs ++ db, isName x = true) (hnd : (cs ++ db).Nodup) (hfr : ∀ x ∈ cs ++ db, homeOf homes x = none) (h5 : homes.length + (cs ++ db).length ≤ 5) :
    RdOk ⟨rows, homes ++ cs.map (·, k), around, nest ++ [k]⟩ (seen ++ cs) d k db := by
  have hnd' := List.nodup_append.mp hnd
  refine ⟨fun x hx => seen_iff.mpr ?_, List.getLast?_concat, ?_, har, hp, fun x hx => hnm x (List.mem_append_right _ hx), hnd'.2.1, fun x hx => ?_, ?_⟩
  · rcases List.mem_append.mp hx with z | z
    · obtain ⟨y, h1, h2⟩ := hs x z
      exact ⟨y, homeOf_app h1, List.mem_append_left _ h2⟩
    · exact ⟨k, by show homeOf (homes ++ _) x = _; rw [homeOf_app_none (hfr x (List.mem_append_left _ z)), homeOf_map z], List.mem_append_right _ (List.mem_singleton.mpr rfl)⟩
  · show (nest ++ [k]).length + d = 6
    rw [List.length_append, List.length_singleton]; omega
  · show homeOf (homes ++ cs.map (·, k)) x = none
    rw [homeOf_app_none (hfr x (List.mem_append_right _ hx)), homeOf_none]
    intro z
    obtain ⟨p, hp, e⟩ := List.mem_map.mp z
    obtain ⟨c, hc, rfl⟩ := List.mem_map.mp hp
    have e' : c = x := e
    exact hnd'.2.2 c hc x hx e'
  · show (homes ++ cs.map (·, k)).length + db.length ≤ 5
    rw [List.length_append] at h5 ⊢
    rw [List.length_map]; omega
theorem bindS {α β : Type} {o : Option α} {f : α → Option β} {a : α} (h : o = some a) : o.bind f = f a := by rw [h]; rfl
theorem read_T : ∀ (t : T) (M : ShM) (seen : List Str) (d h : Nat), wfT seen d t → RdOk M seen d h (declT t) →
    readLines M (linesT t) = some ⟨M.rows ++ rowsT M.rows.length t, M.homes ++ homesT M.rows.length t, M.around ++ aroundT M.rows.length h t, M.nest⟩
  | .nil, M, seen, d, h, _, _ => by simp [linesT, rowsT, homesT, aroundT, readLines]
  | .deed k r, M, seen, d, h, wf, R => by
    have wf' : (∀ x ∈ k.names, x ∈ seen) ∧ wfT seen d r := by cases d <;> exact wf
    rw [linesT, readLines_cons, bindS (take_deed k fun x hx => R.seen x (wf'.1 x hx))]
    have hl : (addRow M ⟨k.word, k.names, M.rows.length + 1, 0⟩).rows.length = M.rows.length + 1 := by
      show (M.rows ++ [_]).length = _
      rw [List.length_append, List.length_singleton]
    have R1 : RdOk (addRow M ⟨k.word, k.names, M.rows.length + 1, 0⟩) seen d h (declT r) :=
      ⟨R.seen, R.last, R.deep, fun p hp => by rw [hl]; exact Nat.lt_succ_of_lt (R.ar p hp), by rw [hl]; omega, R.nm, R.nd, R.fr, R.h5⟩
    rw [read_T r _ seen d h wf'.2 R1, hl]
    show some (⟨(M.rows ++ [_]) ++ _, _, _, _⟩ : ShM) = _
    rw [List.append_assoc]
    rfl
  | .one o cs b r, M, seen, 0, h, wf, R => wf.elim
  | .one o cs b r, M, seen, d + 1, h, wf, R => by
    obtain ⟨w1, w2, w3⟩ := wf
    have hcb : ∀ x ∈ cs ++ declT b, x ∈ declT (.one o cs b r) := fun x hx => List.mem_append_left _ hx
    have nd0 := List.nodup_append.mp R.nd
    have h50 := R.h5
    rw [declT, List.length_append] at h50
    rw [linesT, readLines_cons, bindS (take_open o (fun x hx => R.seen x (w1 x hx)) R.last (by have := R.deep; omega) R.ar), List.append_assoc, readLines_app]
    have hl1 : (M.rows ++ [(⟨o.word, o.names, M.rows.length + 1, 0⟩ : RowM)]).length = M.rows.length + 1 := by rw [List.length_append, List.length_singleton]
    have nd1 := List.nodup_append.mp nd0.1
    rw [bindS (read_loc (M := ⟨M.rows ++ [(⟨o.word, o.names, M.rows.length + 1, 0⟩ : RowM)], M.homes, M.around ++ [(M.rows.length, h)], M.nest ++ [M.rows.length]⟩) (h := M.rows.length) cs (fun x hx => R.nm x (hcb x (List.mem_append_left _ hx))) nd1.1 (fun x hx => R.fr x (hcb x (List.mem_append_left _ hx))) (by rw [List.length_append] at h50; show M.homes.length + _ ≤ 5; omega) hl1 List.getLast?_concat), readLines_app]
    have hl2 : ((M.rows ++ [(⟨o.word, o.names, M.rows.length + 1, 0⟩ : RowM)]) ++ locRows (M.rows.length + 1) cs).length = M.rows.length + 1 + locN cs := by rw [List.length_append, hl1, locRows_len]
    have R2 : RdOk ⟨(M.rows ++ [(⟨o.word, o.names, M.rows.length + 1, 0⟩ : RowM)]) ++ locRows (M.rows.length + 1) cs, M.homes ++ cs.map (·, M.rows.length), M.around ++ [(M.rows.length, h)], M.nest ++ [M.rows.length]⟩ (seen ++ cs) d M.rows.length (declT b) := by
      refine RdOk.inner (M := M) (dec := []) (h := h) cs (fun x hx => seen_iff.mp (R.seen x hx)) R.deep (fun p hp => ?_) (by rw [hl2]; omega) (fun x hx => R.nm x (hcb x hx)) nd0.1 (fun x hx => R.fr x (hcb x hx)) (by omega)
      rw [hl2]
      rcases List.mem_append.mp hp with z | z
      · have := R.ar p z; omega
      · rw [List.mem_singleton.mp z]
        show M.rows.length < _
        omega
    rw [bindS (read_T b _ (seen ++ cs) d M.rows.length w2 R2)]
    dsimp only
    rw [hl2, readLines_cons]
    have hrows : ((M.rows ++ [(⟨o.word, o.names, M.rows.length + 1, 0⟩ : RowM)]) ++ locRows (M.rows.length + 1) cs) ++ rowsT (M.rows.length + 1 + locN cs) b = M.rows ++ ⟨o.word, o.names, M.rows.length + 1, 0⟩ :: (locRows (M.rows.length + 1) cs ++ rowsT (M.rows.length + 1 + locN cs) b) := by
      rw [List.append_assoc, List.append_assoc]; rfl
    have hl3 : (M.rows ++ (⟨o.word, o.names, M.rows.length + 1, 0⟩ : RowM) :: (locRows (M.rows.length + 1) cs ++ rowsT (M.rows.length + 1 + locN cs) b)).length = M.rows.length + 1 + (locN cs + sizeT b) := by
      rw [List.length_append, List.length_cons, List.length_append, locRows_len, rows_len]; omega
    rw [hrows]
    rw [bindS (take_end (M := ⟨M.rows ++ ⟨o.word, o.names, M.rows.length + 1, 0⟩ :: (locRows (M.rows.length + 1) cs ++ rowsT (M.rows.length + 1 + locN cs) b), _, _, _⟩) rfl rfl R.pos)]
    dsimp only
    rw [hl3, if_neg (op_notelse o)]
    have hl4 : (M.rows ++ (⟨o.word, o.names, M.rows.length + 1, M.rows.length + 1 + (locN cs + sizeT b) + 1⟩ : RowM) :: (locRows (M.rows.length + 1) cs ++ rowsT (M.rows.length + 1 + locN cs) b) ++ [(⟨"end", [], if o.word = ("loop" : Str) then M.rows.length else M.rows.length + 1 + (locN cs + sizeT b) + 1, 0⟩ : RowM)]).length = M.rows.length + 1 + (locN cs + sizeT b) + 1 := by
      rw [List.length_append, List.length_append, List.length_cons, List.length_append, locRows_len, rows_len, List.length_singleton]; omega
    have hnames : (M.homes ++ cs.map (·, M.rows.length) ++ homesT (M.rows.length + 1 + locN cs) b).map (·.1) = M.homes.map (·.1) ++ (cs ++ declT b) := by
      rw [List.map_append, List.map_append, homes_names, List.map_map, List.append_assoc]
      congr 2
      exact (List.map_congr_left fun _ _ => rfl).trans (List.map_id cs)
    have R4 : RdOk ⟨M.rows ++ (⟨o.word, o.names, M.rows.length + 1, M.rows.length + 1 + (locN cs + sizeT b) + 1⟩ : RowM) :: (locRows (M.rows.length + 1) cs ++ rowsT (M.rows.length + 1 + locN cs) b) ++ [⟨"end", [], if o.word = ("loop" : Str) then M.rows.length else M.rows.length + 1 + (locN cs + sizeT b) + 1, 0⟩], M.homes ++ cs.map (·, M.rows.length) ++ homesT (M.rows.length + 1 + locN cs) b, M.around ++ [(M.rows.length, h)] ++ aroundT (M.rows.length + 1 + locN cs) M.rows.length b, M.nest⟩ seen (d + 1) h (declT r) := by
      refine ⟨fun x hx => ?_, R.last, R.deep, fun p hp => ?_, by rw [hl4]; omega, fun x hx => R.nm x (List.mem_append_right _ hx), nd0.2.1, fun x hx => ?_, ?_⟩
      · obtain ⟨y, h1, h2⟩ := seen_iff.mp (R.seen x hx)
        exact seen_iff.mpr ⟨y, homeOf_app (homeOf_app h1), h2⟩
      · rw [hl4]
        rcases List.mem_append.mp hp with z | z
        · rcases List.mem_append.mp z with z | z
          · have := R.ar p z; omega
          · rw [List.mem_singleton.mp z]; show M.rows.length < _; omega
        · have := around_lt b _ _ p z
          omega
      · rw [homeOf_none, hnames]
        intro z
        rcases List.mem_append.mp z with z | z
        · exact homeOf_none.mp (R.fr x (List.mem_append_right _ hx)) z
        · exact nd0.2.2 x z x hx rfl
      · show (M.homes ++ cs.map (·, M.rows.length) ++ homesT _ b).length + _ ≤ 5
        have := congrArg List.length hnames
        simp only [List.length_map, List.length_append] at this h50 ⊢
        omega
    rw [read_T r _ seen (d + 1) h w3 R4]
    dsimp only
    rw [hl4]
    refine congrArg some ?_
    have hend : (if o.word = ("loop" : Str) then M.rows.length else M.rows.length + 1 + (locN cs + sizeT b) + 1) = if o = .loop then M.rows.length else M.rows.length + 1 + (locN cs + sizeT b) + 1 := by
      by_cases c : o = .loop
      · rw [if_pos c, if_pos ((op_loop o).mpr c)]
      · rw [if_neg c, if_neg (fun z => c ((op_loop o).mp z))]
    rw [hend]
    simp only [rowsT, homesT, aroundT, List.append_assoc, List.cons_append, List.nil_append]
  | .two o cs b cs' b' r, M, seen, 0, h, wf, R => wf.elim
  | .two o cs b cs' b' r, M, seen, d + 1, h, wf, R => by
    obtain ⟨w0, w1, w2, w2', w3⟩ := wf
    have hcb : ∀ x ∈ cs ++ declT b, x ∈ declT (.two o cs b cs' b' r) := fun x hx => List.mem_append_left _ hx
    have hcb' : ∀ x ∈ cs' ++ declT b', x ∈ declT (.two o cs b cs' b' r) := fun x hx => List.mem_append_right _ (List.mem_append_left _ hx)
    have nd0 := List.nodup_append.mp R.nd
    have nd00 := List.nodup_append.mp nd0.2.1
    have h50 := R.h5
    rw [declT, List.length_append, List.length_append (as := cs' ++ declT b')] at h50
    rw [linesT, readLines_cons, bindS (take_open o (fun x hx => R.seen x (w1 x hx)) R.last (by have := R.deep; omega) R.ar), List.append_assoc, readLines_app]
    have hl1 : (M.rows ++ [(⟨o.word, o.names, M.rows.length + 1, 0⟩ : RowM)]).length = M.rows.length + 1 := by rw [List.length_append, List.length_singleton]
    have nd1 := List.nodup_append.mp nd0.1
    rw [bindS (read_loc (M := ⟨M.rows ++ [(⟨o.word, o.names, M.rows.length + 1, 0⟩ : RowM)], M.homes, M.around ++ [(M.rows.length, h)], M.nest ++ [M.rows.length]⟩) (h := M.rows.length) cs (fun x hx => R.nm x (hcb x (List.mem_append_left _ hx))) nd1.1 (fun x hx => R.fr x (hcb x (List.mem_append_left _ hx))) (by rw [List.length_append] at h50; show M.homes.length + _ ≤ 5; omega) hl1 List.getLast?_concat), readLines_app]
    have hl2 : ((M.rows ++ [(⟨o.word, o.names, M.rows.length + 1, 0⟩ : RowM)]) ++ locRows (M.rows.length + 1) cs).length = M.rows.length + 1 + locN cs := by rw [List.length_append, hl1, locRows_len]
    have R2 : RdOk ⟨(M.rows ++ [(⟨o.word, o.names, M.rows.length + 1, 0⟩ : RowM)]) ++ locRows (M.rows.length + 1) cs, M.homes ++ cs.map (·, M.rows.length), M.around ++ [(M.rows.length, h)], M.nest ++ [M.rows.length]⟩ (seen ++ cs) d M.rows.length (declT b) := by
      refine RdOk.inner (M := M) (dec := []) (h := h) cs (fun x hx => seen_iff.mp (R.seen x hx)) R.deep (fun p hp => ?_) (by rw [hl2]; omega) (fun x hx => R.nm x (hcb x hx)) nd0.1 (fun x hx => R.fr x (hcb x hx)) (by omega)
      rw [hl2]
      rcases List.mem_append.mp hp with z | z
      · have := R.ar p z; omega
      · rw [List.mem_singleton.mp z]
        show M.rows.length < _
        omega
    rw [bindS (read_T b _ (seen ++ cs) d M.rows.length w2 R2)]
    dsimp only
    rw [hl2, readLines_cons]
    have hrows : ((M.rows ++ [(⟨o.word, o.names, M.rows.length + 1, 0⟩ : RowM)]) ++ locRows (M.rows.length + 1) cs) ++ rowsT (M.rows.length + 1 + locN cs) b = M.rows ++ ⟨o.word, o.names, M.rows.length + 1, 0⟩ :: (locRows (M.rows.length + 1) cs ++ rowsT (M.rows.length + 1 + locN cs) b) := by
      rw [List.append_assoc, List.append_assoc]; rfl
    have hl3 : (M.rows ++ (⟨o.word, o.names, M.rows.length + 1, 0⟩ : RowM) :: (locRows (M.rows.length + 1) cs ++ rowsT (M.rows.length + 1 + locN cs) b)).length = M.rows.length + 1 + (locN cs + sizeT b) := by
      rw [List.length_append, List.length_cons, List.length_append, locRows_len, rows_len]; omega
    rw [hrows]
    have hal : ∀ p ∈ M.around ++ [(M.rows.length, h)] ++ aroundT (M.rows.length + 1 + locN cs) M.rows.length b, p.1 < M.rows.length + 1 + (locN cs + sizeT b) := fun p hp => by
      rcases List.mem_append.mp hp with z | z
      · rcases List.mem_append.mp z with z | z
        · have := R.ar p z; omega
        · rw [List.mem_singleton.mp z]; show M.rows.length < _; omega
      · have := around_lt b _ _ p z
        omega
    rw [bindS (take_else (M := ⟨M.rows ++ ⟨o.word, o.names, M.rows.length + 1, 0⟩ :: (locRows (M.rows.length + 1) cs ++ rowsT (M.rows.length + 1 + locN cs) b), _, M.around ++ [(M.rows.length, h)] ++ aroundT (M.rows.length + 1 + locN cs) M.rows.length b, _⟩) (a := h) rfl rfl (op_two o w0) (by have z := getN_app (m := aroundT (M.rows.length + 1 + locN cs) M.rows.length b) (v := h) R.ar; simpa only [List.append_assoc, List.cons_append, List.nil_append] using z) (by rw [hl3]; exact hal))]
    dsimp only
    rw [hl3]
    -- the second side
    have hl4 : (M.rows ++ (⟨o.word, o.names, M.rows.length + 1, M.rows.length + 1 + (locN cs + sizeT b) + 1⟩ : RowM) :: (locRows (M.rows.length + 1) cs ++ rowsT (M.rows.length + 1 + locN cs) b) ++ [(⟨"else", [], M.rows.length + 1 + (locN cs + sizeT b) + 1, 0⟩ : RowM)]).length = M.rows.length + 1 + (locN cs + sizeT b) + 1 := by
      rw [List.length_append, List.length_append, List.length_cons, List.length_append, locRows_len, rows_len, List.length_singleton]; omega
    have hnames : (M.homes ++ cs.map (·, M.rows.length) ++ homesT (M.rows.length + 1 + locN cs) b).map (·.1) = M.homes.map (·.1) ++ (cs ++ declT b) := by
      rw [List.map_append, List.map_append, homes_names, List.map_map, List.append_assoc]
      congr 2
      exact (List.map_congr_left fun _ _ => rfl).trans (List.map_id cs)
    have hlen4 : (M.homes ++ cs.map (·, M.rows.length) ++ homesT (M.rows.length + 1 + locN cs) b).length = M.homes.length + (cs ++ declT b).length := by
      have := congrArg List.length hnames
      simp only [List.length_map, List.length_append] at this ⊢
      omega
    have fr4 : ∀ x ∈ cs' ++ declT b' ++ declT r, homeOf (M.homes ++ cs.map (·, M.rows.length) ++ homesT (M.rows.length + 1 + locN cs) b) x = none := fun x hx => by
      rw [homeOf_none, hnames]
      intro z
      rcases List.mem_append.mp z with z | z
      · exact homeOf_none.mp (R.fr x (List.mem_append_right _ hx)) z
      · exact nd0.2.2 x z x hx rfl
    generalize hH4 : M.homes ++ cs.map (·, M.rows.length) ++ homesT (M.rows.length + 1 + locN cs) b = H4 at hlen4 fr4 hnames
    have seen4 : ∀ x ∈ seen, ∃ y, homeOf H4 x = some y ∧ y ∈ M.nest := fun x hx => by
      obtain ⟨y, h1, h2⟩ := seen_iff.mp (R.seen x hx)
      exact ⟨y, by rw [← hH4]; exact homeOf_app (homeOf_app h1), h2⟩
    rw [List.append_assoc (as := loc cs'), readLines_app]
    rw [bindS (read_loc (M := ⟨M.rows ++ (⟨o.word, o.names, M.rows.length + 1, M.rows.length + 1 + (locN cs + sizeT b) + 1⟩ : RowM) :: (locRows (M.rows.length + 1) cs ++ rowsT (M.rows.length + 1 + locN cs) b) ++ [(⟨"else", [], M.rows.length + 1 + (locN cs + sizeT b) + 1, 0⟩ : RowM)], H4, _, _⟩) (h := M.rows.length + 1 + (locN cs + sizeT b)) cs' (fun x hx => R.nm x (hcb' x (List.mem_append_left _ hx))) (List.nodup_append.mp nd00.1).1 (fun x hx => fr4 x (List.mem_append_left _ (List.mem_append_left _ hx)))
      (by show H4.length + _ ≤ 5; rw [hlen4]; rw [List.length_append (as := cs')] at h50; omega) hl4 List.getLast?_concat), readLines_app]
    dsimp only
    have hl5 : (M.rows ++ (⟨o.word, o.names, M.rows.length + 1, M.rows.length + 1 + (locN cs + sizeT b) + 1⟩ : RowM) :: (locRows (M.rows.length + 1) cs ++ rowsT (M.rows.length + 1 + locN cs) b) ++ [(⟨"else", [], M.rows.length + 1 + (locN cs + sizeT b) + 1, 0⟩ : RowM)] ++ locRows (M.rows.length + 1 + (locN cs + sizeT b) + 1) cs').length = M.rows.length + 1 + (locN cs + sizeT b) + 1 + locN cs' := by rw [List.length_append, hl4, locRows_len]
    have har5 : ∀ p ∈ M.around ++ [(M.rows.length, h)] ++ aroundT (M.rows.length + 1 + locN cs) M.rows.length b ++ [(M.rows.length + 1 + (locN cs + sizeT b), h)], p.1 < M.rows.length + 1 + (locN cs + sizeT b) + 1 + locN cs' := fun p hp => by
      rcases List.mem_append.mp hp with z | z
      · have := hal p z; omega
      · rw [List.mem_singleton.mp z]; show M.rows.length + 1 + (locN cs + sizeT b) < _; omega
    have R5 : RdOk ⟨M.rows ++ (⟨o.word, o.names, M.rows.length + 1, M.rows.length + 1 + (locN cs + sizeT b) + 1⟩ : RowM) :: (locRows (M.rows.length + 1) cs ++ rowsT (M.rows.length + 1 + locN cs) b) ++ [⟨"else", [], M.rows.length + 1 + (locN cs + sizeT b) + 1, 0⟩] ++ locRows (M.rows.length + 1 + (locN cs + sizeT b) + 1) cs', H4 ++ cs'.map (·, M.rows.length + 1 + (locN cs + sizeT b)), M.around ++ [(M.rows.length, h)] ++ aroundT (M.rows.length + 1 + locN cs) M.rows.length b ++ [(M.rows.length + 1 + (locN cs + sizeT b), h)], M.nest ++ [M.rows.length + 1 + (locN cs + sizeT b)]⟩ (seen ++ cs') d (M.rows.length + 1 + (locN cs + sizeT b)) (declT b') :=
      RdOk.inner (M := M) (dec := []) (h := h) cs' seen4 R.deep (by rw [hl5]; exact har5) (by rw [hl5]; omega) (fun x hx => R.nm x (hcb' x hx)) nd00.1 (fun x hx => fr4 x (List.mem_append_left _ hx)) (by rw [hlen4]; omega)
    rw [bindS (read_T b' _ (seen ++ cs') d _ w2' R5)]
    dsimp only
    rw [hl5, readLines_cons]
    have hrows6 : (M.rows ++ (⟨o.word, o.names, M.rows.length + 1, M.rows.length + 1 + (locN cs + sizeT b) + 1⟩ : RowM) :: (locRows (M.rows.length + 1) cs ++ rowsT (M.rows.length + 1 + locN cs) b) ++ [(⟨"else", [], M.rows.length + 1 + (locN cs + sizeT b) + 1, 0⟩ : RowM)] ++ locRows (M.rows.length + 1 + (locN cs + sizeT b) + 1) cs') ++ rowsT (M.rows.length + 1 + (locN cs + sizeT b) + 1 + locN cs') b' =
        (M.rows ++ (⟨o.word, o.names, M.rows.length + 1, M.rows.length + 1 + (locN cs + sizeT b) + 1⟩ : RowM) :: (locRows (M.rows.length + 1) cs ++ rowsT (M.rows.length + 1 + locN cs) b)) ++ (⟨"else", [], M.rows.length + 1 + (locN cs + sizeT b) + 1, 0⟩ : RowM) :: (locRows (M.rows.length + 1 + (locN cs + sizeT b) + 1) cs' ++ rowsT (M.rows.length + 1 + (locN cs + sizeT b) + 1 + locN cs') b') := by
      simp only [List.append_assoc, List.cons_append, List.nil_append]
    have hpre : (M.rows ++ (⟨o.word, o.names, M.rows.length + 1, M.rows.length + 1 + (locN cs + sizeT b) + 1⟩ : RowM) :: (locRows (M.rows.length + 1) cs ++ rowsT (M.rows.length + 1 + locN cs) b)).length = M.rows.length + 1 + (locN cs + sizeT b) := by
      rw [List.length_append, List.length_cons, List.length_append, locRows_len, rows_len]; omega
    rw [hrows6]
    have hl6 : ((M.rows ++ (⟨o.word, o.names, M.rows.length + 1, M.rows.length + 1 + (locN cs + sizeT b) + 1⟩ : RowM) :: (locRows (M.rows.length + 1) cs ++ rowsT (M.rows.length + 1 + locN cs) b)) ++ (⟨"else", [], M.rows.length + 1 + (locN cs + sizeT b) + 1, 0⟩ : RowM) :: (locRows (M.rows.length + 1 + (locN cs + sizeT b) + 1) cs' ++ rowsT (M.rows.length + 1 + (locN cs + sizeT b) + 1 + locN cs') b')).length = M.rows.length + 1 + (locN cs + sizeT b) + 1 + (locN cs' + sizeT b') := by
      rw [List.length_append, hpre, List.length_cons, List.length_append, locRows_len, rows_len]; omega
    rw [bindS (take_end (M := ⟨(M.rows ++ (⟨o.word, o.names, M.rows.length + 1, M.rows.length + 1 + (locN cs + sizeT b) + 1⟩ : RowM) :: (locRows (M.rows.length + 1) cs ++ rowsT (M.rows.length + 1 + locN cs) b)) ++ (⟨"else", [], M.rows.length + 1 + (locN cs + sizeT b) + 1, 0⟩ : RowM) :: (locRows (M.rows.length + 1 + (locN cs + sizeT b) + 1) cs' ++ rowsT (M.rows.length + 1 + (locN cs + sizeT b) + 1 + locN cs') b'), _, _, M.nest ++ [M.rows.length + 1 + (locN cs + sizeT b)]⟩) (b := M.nest) rfl (by rw [hpre]) (by rw [hpre]; omega))]
    dsimp only
    rw [hl6, if_pos rfl, if_neg (show ¬ ("else" : Str) = "loop" by decide)]
    have hl7 : ((M.rows ++ (⟨o.word, o.names, M.rows.length + 1, M.rows.length + 1 + (locN cs + sizeT b) + 1⟩ : RowM) :: (locRows (M.rows.length + 1) cs ++ rowsT (M.rows.length + 1 + locN cs) b)) ++ (⟨"else", [], M.rows.length + 1 + (locN cs + sizeT b) + 1 + (locN cs' + sizeT b'), 0⟩ : RowM) :: (locRows (M.rows.length + 1 + (locN cs + sizeT b) + 1) cs' ++ rowsT (M.rows.length + 1 + (locN cs + sizeT b) + 1 + locN cs') b') ++ [(⟨"end", [], M.rows.length + 1 + (locN cs + sizeT b) + 1 + (locN cs' + sizeT b') + 1, 0⟩ : RowM)]).length = M.rows.length + 1 + (locN cs + sizeT b) + 1 + (locN cs' + sizeT b') + 1 := by
      rw [List.length_append, List.length_append, hpre, List.length_cons, List.length_append, locRows_len, rows_len, List.length_singleton]; omega
    have hnames7 : (H4 ++ cs'.map (·, M.rows.length + 1 + (locN cs + sizeT b)) ++ homesT (M.rows.length + 1 + (locN cs + sizeT b) + 1 + locN cs') b').map (·.1) = M.homes.map (·.1) ++ (cs ++ declT b) ++ (cs' ++ declT b') := by
      rw [List.map_append, List.map_append, homes_names, List.map_map, List.append_assoc, hnames]
      congr 2
      exact (List.map_congr_left fun _ _ => rfl).trans (List.map_id cs')
    have R7 : RdOk ⟨(M.rows ++ (⟨o.word, o.names, M.rows.length + 1, M.rows.length + 1 + (locN cs + sizeT b) + 1⟩ : RowM) :: (locRows (M.rows.length + 1) cs ++ rowsT (M.rows.length + 1 + locN cs) b)) ++ (⟨"else", [], M.rows.length + 1 + (locN cs + sizeT b) + 1 + (locN cs' + sizeT b'), 0⟩ : RowM) :: (locRows (M.rows.length + 1 + (locN cs + sizeT b) + 1) cs' ++ rowsT (M.rows.length + 1 + (locN cs + sizeT b) + 1 + locN cs') b') ++ [⟨"end", [], M.rows.length + 1 + (locN cs + sizeT b) + 1 + (locN cs' + sizeT b') + 1, 0⟩], H4 ++ cs'.map (·, M.rows.length + 1 + (locN cs + sizeT b)) ++ homesT (M.rows.length + 1 + (locN cs + sizeT b) + 1 + locN cs') b',
        M.around ++ [(M.rows.length, h)] ++ aroundT (M.rows.length + 1 + locN cs) M.rows.length b ++ [(M.rows.length + 1 + (locN cs + sizeT b), h)] ++ aroundT (M.rows.length + 1 + (locN cs + sizeT b) + 1 + locN cs') (M.rows.length + 1 + (locN cs + sizeT b)) b', M.nest⟩ seen (d + 1) h (declT r) := by
      refine ⟨fun x hx => ?_, R.last, R.deep, fun p hp => ?_, by rw [hl7]; omega, fun x hx => R.nm x (List.mem_append_right _ (List.mem_append_right _ hx)), nd00.2.1, fun x hx => ?_, ?_⟩
      · obtain ⟨y, h1, h2⟩ := seen4 x hx
        exact seen_iff.mpr ⟨y, homeOf_app (homeOf_app h1), h2⟩
      · rw [hl7]
        rcases List.mem_append.mp hp with z | z
        · have := har5 p z; omega
        · have := around_lt b' _ _ p z
          omega
      · rw [homeOf_none, hnames7]
        intro z
        rcases List.mem_append.mp z with z | z
        · rcases List.mem_append.mp z with z | z
          · exact homeOf_none.mp (R.fr x (List.mem_append_right _ (List.mem_append_right _ hx))) z
          · exact nd0.2.2 x z x (List.mem_append_right _ hx) rfl
        · exact nd00.2.2 x z x hx rfl
      · have := congrArg List.length hnames7
        simp only [List.length_map, List.length_append] at this h50 ⊢
        omega
    rw [read_T r _ seen (d + 1) h w3 R7]
    dsimp only
    rw [hl7]
    refine congrArg some ?_
    rw [← hH4]
    simp only [rowsT, homesT, aroundT, List.append_assoc, List.cons_append, List.nil_append]
end FP
set_option Elab.async false
set_option linter.all false
set_option maxRecDepth 100000
set_option maxHeartbeats 4000000
namespace FP
open PySem TL
/-- a word without a space and a newline -/
def plainW (w : Str) : Prop := 1 ≤ (tl w).length ∧ (tl w).length ≤ 12 ∧ ∀ c ∈ tl w, c ≠ 10 ∧ c ≠ 32
instance (w : Str) : Decidable (plainW w) := by unfold plainW; infer_instance
theorem plain_name {x : Str} (h : isName x = true) : plainW x := by
  unfold isName at h
  rw [Bool.and_eq_true, Bool.and_eq_true, Bool.and_eq_true] at h
  obtain ⟨⟨_, h1, h2⟩, h3⟩ := h
  refine ⟨by rw [← len_tl]; exact of_decide_eq_true h1, by rw [← len_tl]; exact of_decide_eq_true h2, fun c hc => ?_⟩
  have := List.all_eq_true.mp h3 c hc
  unfold letter at this
  rw [Bool.and_eq_true] at this
  have := of_decide_eq_true this.1
  omega
/-- a line's words -/
def plainL (ws : List Str) : Prop := ws ≠ [] ∧ ws.length ≤ 6 ∧ ∀ w ∈ ws, plainW w
theorem plain_deed {seen : List Str} (hs : ∀ x ∈ seen, plainW x) (k : Deed) (h : ∀ x ∈ k.names, x ∈ seen) : plainL k.words := by
  have two : ∀ (w a t b : Str), plainW w → plainW t → a ∈ seen → b ∈ seen → plainL [w, a, t, b] := fun w a t b h1 h2 h3 h4 => by
    refine ⟨by simp, by simp, fun x hx => ?_⟩
    rcases List.mem_cons.mp hx with z | hx
    · rw [z]; exact h1
    rcases List.mem_cons.mp hx with z | hx
    · rw [z]; exact hs a h3
    rcases List.mem_cons.mp hx with z | hx
    · rw [z]; exact h2
    · rw [List.mem_singleton.mp hx]; exact hs b h4
  have one : ∀ (w a : Str), plainW w → a ∈ seen → plainL [w, a] := fun w a h1 h3 => by
    refine ⟨by simp, by simp, fun x hx => ?_⟩
    rcases List.mem_cons.mp hx with z | hx
    · rw [z]; exact h1
    · rw [List.mem_singleton.mp hx]; exact hs a h3
  cases k with
  | input a => exact one _ a (by decide) (h a (by simp [Deed.names]))
  | copy a b => exact two _ a _ b (by decide) (by decide) (h a (by simp [Deed.names])) (h b (by simp [Deed.names]))
  | point a b => exact two _ a _ b (by decide) (by decide) (h a (by simp [Deed.names])) (h b (by simp [Deed.names]))
  | load a b => exact two _ a _ b (by decide) (by decide) (h a (by simp [Deed.names])) (h b (by simp [Deed.names]))
  | store a b => exact two _ a _ b (by decide) (by decide) (h a (by simp [Deed.names])) (h b (by simp [Deed.names]))
  | use a => exact one _ a (by decide) (h a (by simp [Deed.names]))
  | call p => exact one _ p (by decide) (h p (by simp [Deed.names]))
theorem plain_op {seen : List Str} (hs : ∀ x ∈ seen, plainW x) (o : Op) (h : ∀ x ∈ o.names, x ∈ seen) : plainL (o.word :: o.names) := by
  have none_ : ∀ (w : Str), plainW w → plainL [w] := fun w h1 => ⟨by simp, by simp, fun x hx => by rw [List.mem_singleton.mp hx]; exact h1⟩
  cases o with
  | block => exact none_ _ (by decide)
  | loop => exact none_ _ (by decide)
  | maybe => exact none_ _ (by decide)
  | same a b =>
    refine ⟨by simp, by show 3 ≤ 6; decide, fun x hx => ?_⟩
    rcases List.mem_cons.mp hx with z | hx
    · rw [z]; exact (by decide : plainW "same")
    · exact hs x (h x hx)
theorem plain_loc {cs : List Str} (hs : ∀ x ∈ cs, plainW x) (h5 : cs.length ≤ 5) : ∀ ws ∈ loc cs, plainL ws := by
  intro ws h
  unfold loc at h
  split at h
  · cases h
  · rw [List.mem_singleton.mp h]
    refine ⟨by simp, by rw [List.length_cons]; omega, fun x hx => ?_⟩
    rcases List.mem_cons.mp hx with z | hx
    · rw [z]; exact (by decide : plainW "local")
    · exact hs x hx
theorem plain_T : ∀ (t : T) (seen : List Str) (d : Nat), wfT seen d t → (∀ x ∈ seen, plainW x) → (∀ x ∈ declT t, plainW x) → (declT t).length ≤ 5 → ∀ ws ∈ linesT t, plainL ws
  | .nil, _, _, _, _, _, _, ws, h => by cases h
  | .deed k r, seen, d, wf, hs, hd, hl, ws, h => by
    have wf' : (∀ x ∈ k.names, x ∈ seen) ∧ wfT seen d r := by cases d <;> exact wf
    rcases List.mem_cons.mp h with z | z
    · rw [z]; exact plain_deed hs k wf'.1
    · exact plain_T r seen d wf'.2 hs hd hl ws z
  | .one o cs b r, _, 0, wf, _, _, _, _, _ => wf.elim
  | .one o cs b r, seen, d + 1, wf, hs, hd, hl, ws, h => by
    obtain ⟨w1, w2, w3⟩ := wf
    rw [declT, List.length_append, List.length_append] at hl
    have dcs : ∀ x ∈ cs, plainW x := fun x hx => hd x (List.mem_append_left _ (List.mem_append_left _ hx))
    rw [linesT] at h
    rcases List.mem_cons.mp h with z | z
    · rw [z]; exact plain_op hs o w1
    rcases List.mem_append.mp z with z | z
    · rcases List.mem_append.mp z with z | z
      · exact plain_loc dcs (by omega) ws z
      · exact plain_T b _ d w2 (fun x hx => (List.mem_append.mp hx).elim (hs x) (dcs x)) (fun x hx => hd x (List.mem_append_left _ (List.mem_append_right _ hx))) (by omega) ws z
    rcases List.mem_cons.mp z with z | z
    · rw [z]
      exact ⟨by decide, by decide, by decide⟩
    · exact plain_T r seen (d + 1) w3 hs (fun x hx => hd x (List.mem_append_right _ hx)) (by omega) ws z
  | .two o cs b cs' b' r, _, 0, wf, _, _, _, _, _ => wf.elim
  | .two o cs b cs' b' r, seen, d + 1, wf, hs, hd, hl, ws, h => by
    obtain ⟨w0, w1, w2, w2', w3⟩ := wf
    rw [declT, List.length_append, List.length_append, List.length_append (as := cs' ++ declT b'), List.length_append] at hl
    have dcs : ∀ x ∈ cs, plainW x := fun x hx => hd x (List.mem_append_left _ (List.mem_append_left _ hx))
    have dcs' : ∀ x ∈ cs', plainW x := fun x hx => hd x (List.mem_append_right _ (List.mem_append_left _ (List.mem_append_left _ hx)))
    rw [linesT] at h
    rcases List.mem_cons.mp h with z | z
    · rw [z]; exact plain_op hs o w1
    rcases List.mem_append.mp z with z | z
    · rcases List.mem_append.mp z with z | z
      · exact plain_loc dcs (by omega) ws z
      · exact plain_T b _ d w2 (fun x hx => (List.mem_append.mp hx).elim (hs x) (dcs x)) (fun x hx => hd x (List.mem_append_left _ (List.mem_append_right _ hx))) (by omega) ws z
    rcases List.mem_cons.mp z with z | z
    · rw [z]
      exact ⟨by decide, by decide, by decide⟩
    rcases List.mem_append.mp z with z | z
    · rcases List.mem_append.mp z with z | z
      · exact plain_loc dcs' (by omega) ws z
      · exact plain_T b' _ d w2' (fun x hx => (List.mem_append.mp hx).elim (hs x) (dcs' x)) (fun x hx => hd x (List.mem_append_right _ (List.mem_append_left _ (List.mem_append_right _ hx)))) (by omega) ws z
    rcases List.mem_cons.mp z with z | z
    · rw [z]
      exact ⟨by decide, by decide, by decide⟩
    · exact plain_T r seen (d + 1) w3 hs (fun x hx => hd x (List.mem_append_right _ (List.mem_append_right _ hx))) (by omega) ws z
/-! ### the text -/
def textL (ls : List (List Str)) : Str := Txt.join "\n" (ls.map (Txt.join " "))
theorem joinL_mem {S : List Nat} {c : Nat} : ∀ {l : List (List Nat)}, c ∈ joinL S l → c ∈ S ∨ ∃ p ∈ l, c ∈ p
  | [], h => by cases h
  | [p], h => .inr ⟨p, by simp, h⟩
  | p :: q :: r, h => by
    have h' : c ∈ p ++ (S ++ joinL S (q :: r)) := h
    rcases List.mem_append.mp h' with z | z
    · exact .inr ⟨p, by simp, z⟩
    rcases List.mem_append.mp z with z | z
    · exact .inl z
    · rcases joinL_mem z with y | ⟨x, hx, hc⟩
      · exact .inl y
      · exact .inr ⟨x, List.mem_cons_of_mem _ hx, hc⟩
theorem joinL_len {S : List Nat} {k : Nat} : ∀ {l : List (List Nat)}, (∀ p ∈ l, p.length ≤ k) → (joinL S l).length ≤ l.length * (k + S.length)
  | [], _ => Nat.zero_le _
  | [p], h => by
    show p.length ≤ 1 * _
    have := h p (by simp)
    omega
  | p :: q :: r, h => by
    show (p ++ (S ++ joinL S (q :: r))).length ≤ (q :: r).length.succ * _
    have h1 := h p (by simp)
    have h2 := joinL_len (S := S) (l := q :: r) fun x hx => h x (List.mem_cons_of_mem _ hx)
    rw [List.length_append, List.length_append, Nat.succ_mul]
    omega
theorem tl_tjoin (y : Str) (l : List Str) : tl (Txt.join y l) = joinL (tl y) (l.map tl) := by rw [join_eq, tl_join]
theorem line_words {ws : List Str} (h : plainL ws) : Txt.split (Txt.join " " ws) " " = ws :=
  split_join (s := 32) (S := []) rfl (by decide +kernel) h.1 fun w hw c => ((h.2.2 w hw).2.2 _ c).2 rfl
theorem line_nonl {ws : List Str} (h : plainL ws) : (10 : Nat) ∉ tl (Txt.join " " ws) := by
  rw [tl_tjoin]
  intro z
  rcases joinL_mem z with y | ⟨p, hp, hc⟩
  · exact absurd y (by decide)
  · obtain ⟨w, hw, rfl⟩ := List.mem_map.mp hp
    exact ((h.2.2 w hw).2.2 _ hc).1 rfl
theorem line_ne {ws : List Str} (h : plainL ws) : tl (Txt.join " " ws) ≠ [] := by
  rw [tl_tjoin]
  obtain ⟨h1, _, h3⟩ := h
  cases ws with
  | nil => exact absurd rfl h1
  | cons w r =>
    have hw := (h3 w (by simp)).1
    intro z
    have z' : joinL (tl " ") (tl w :: r.map tl) = [] := z
    cases hr : r.map tl with
    | nil =>
      rw [hr] at z'
      have : tl w = [] := z'
      rw [this] at hw
      exact absurd hw (by decide)
    | cons x y =>
      rw [hr] at z'
      have : tl w ++ _ = [] := z'
      have := (List.append_eq_nil_iff.mp this).1
      rw [this] at hw
      exact absurd hw (by decide)
theorem lines_text {ls : List (List Str)} (h : ∀ ws ∈ ls, plainL ws) : linesM (textL ls) = ls.map (Txt.join " ") := by
  unfold linesM textL
  cases ls with
  | nil => rfl
  | cons ws r =>
    have ne : Txt.join "\n" ((ws :: r).map (Txt.join " ")) ≠ "" := fun z => by
      have z' := congrArg tl z
      rw [tl_tjoin] at z'
      have h1 := line_ne (h ws (by simp))
      rw [List.map_cons, List.map_cons] at z'
      cases hr : (r.map (Txt.join " ")).map tl with
      | nil => rw [hr] at z'; exact h1 z'
      | cons x y =>
        rw [hr] at z'
        have z2 : tl (Txt.join " " ws) ++ _ = [] := z'
        exact h1 (List.append_eq_nil_iff.mp z2).1
    rw [if_neg ne]
    refine split_join (s := 10) (S := []) rfl (by decide +kernel) (by simp) fun p hp => ?_
    obtain ⟨w, hw, rfl⟩ := List.mem_map.mp hp
    exact line_nonl (h w hw)
theorem words_text {ls : List (List Str)} (h : ∀ ws ∈ ls, plainL ws) : (linesM (textL ls)).map (fun l => Txt.split l " ") = ls := by
  rw [lines_text h, List.map_map]
  exact (List.map_congr_left fun ws hw => line_words (h ws hw)).trans (List.map_id ls)
theorem text_len {ls : List (List Str)} (h : ∀ ws ∈ ls, plainL ws) : (textL ls).length ≤ ls.length * 79 := by
  unfold textL
  rw [len_tl, tl_tjoin]
  refine Nat.le_trans (joinL_len (k := 78) fun p hp => ?_) ?_
  · obtain ⟨l, hl, rfl⟩ := List.mem_map.mp hp
    obtain ⟨ws, hw, rfl⟩ := List.mem_map.mp hl
    rw [tl_tjoin]
    obtain ⟨_, h2, h3⟩ := h ws hw
    refine Nat.le_trans (joinL_len (k := 12) fun p hp => ?_) ?_
    · obtain ⟨w, hw, rfl⟩ := List.mem_map.mp hp
      exact (h3 w hw).2.1
    · rw [List.length_map]
      show ws.length * 13 ≤ 78
      omega
  · rw [List.length_map, List.length_map]
    exact Nat.le_refl _
/-- a program: the cells of the text, its orders -/
structure WfP (cs : List Str) (t : T) : Prop where
  wf : wfT cs 5 t
  nm : ∀ x ∈ cs ++ declT t, isName x = true
  nd : (cs ++ declT t).Nodup
  h5 : (cs ++ declT t).length ≤ 5
def linesP (cs : List Str) (t : T) : List (List Str) := loc cs ++ linesT t
def textP (cs : List Str) (t : T) : Str := textL (linesP cs t)
def sizeP (cs : List Str) (t : T) : Nat := locN cs + sizeT t
theorem linesP_len (cs : List Str) (t : T) : (linesP cs t).length = sizeP cs t := by unfold linesP sizeP; rw [List.length_append, loc_len, lines_len]
theorem WfP.plain {cs : List Str} {t : T} (W : WfP cs t) : ∀ ws ∈ linesP cs t, plainL ws := fun ws h => by
  have h5 := W.h5
  rw [List.length_append] at h5
  rcases List.mem_append.mp h with z | z
  · exact plain_loc (fun x hx => plain_name (W.nm x (List.mem_append_left _ hx))) (by omega) ws z
  · exact plain_T t cs 5 W.wf (fun x hx => plain_name (W.nm x (List.mem_append_left _ hx))) (fun x hx => plain_name (W.nm x (List.mem_append_right _ hx))) (by omega) ws z
def rows0 (cs : List Str) (t : T) : List RowM := ⟨"", [], 1, 0⟩ :: (locRows 1 cs ++ rowsT (1 + locN cs) t)
def homesP (cs : List Str) (t : T) : List (Str × Nat) := cs.map (·, 0) ++ homesT (1 + locN cs) t
def aroundP (cs : List Str) (t : T) : List (Nat × Nat) := aroundT (1 + locN cs) 0 t
theorem rows0_len (cs : List Str) (t : T) : (rows0 cs t).length = 1 + sizeP cs t := by
  unfold rows0 sizeP
  rw [List.length_cons, List.length_append, locRows_len, rows_len]; omega
theorem homesP_names (cs : List Str) (t : T) : (homesP cs t).map (·.1) = cs ++ declT t := by
  unfold homesP
  rw [List.map_append, homes_names, List.map_map]
  congr 1
  exact (List.map_congr_left fun _ _ => rfl).trans (List.map_id cs)
theorem readLines_P {cs : List Str} {t : T} (W : WfP cs t) : readLines ShM.new (linesP cs t) = some ⟨rows0 cs t, homesP cs t, aroundP cs t, [0]⟩ := by
  have h5 := W.h5
  rw [List.length_append] at h5
  have nd := List.nodup_append.mp W.nd
  unfold linesP
  rw [readLines_app, bindS (read_loc (M := ShM.new) (h := 0) cs (fun x hx => W.nm x (List.mem_append_left _ hx)) nd.1 (fun x _ => rfl) (by show 0 + cs.length ≤ 5; omega) rfl rfl)]
  have hl : (ShM.new.rows ++ locRows (0 + 1) cs).length = 1 + locN cs := by
    rw [List.length_append, locRows_len]; rfl
  have R : RdOk ⟨ShM.new.rows ++ locRows (0 + 1) cs, ShM.new.homes ++ cs.map (·, 0), ShM.new.around, ShM.new.nest⟩ cs 5 0 (declT t) := by
    refine ⟨fun x hx => seen_iff.mpr ⟨0, homeOf_map hx, by show 0 ∈ [0]; simp⟩, rfl, rfl, (fun p hp => by cases hp), by rw [hl]; omega, fun x hx => W.nm x (List.mem_append_right _ hx), nd.2.1, fun x hx => ?_, ?_⟩
    · show homeOf (cs.map (·, 0)) x = none
      rw [homeOf_none]
      intro z
      obtain ⟨p, hp, e⟩ := List.mem_map.mp z
      obtain ⟨c, hc, rfl⟩ := List.mem_map.mp hp
      have e' : c = x := e
      exact nd.2.2 c hc x hx e'
    · show (cs.map (·, 0)).length + _ ≤ 5
      rw [List.length_map]; omega
  rw [read_T t _ cs 5 0 W.wf R]
  dsimp only
  rw [hl]
  rfl
theorem readM_P {cs : List Str} {t : T} {most : Nat} (W : WfP cs t) (hm : sizeP cs t ≤ most) : readM (textP cs t) most = (waysM 100 (1 + sizeP cs t) 0 (rows0 cs t)).map fun rows => ⟨rows, homesP cs t, aroundP cs t, [0]⟩ := by
  unfold readM
  have hw := words_text W.plain
  have hl : (linesM (textP cs t)).length ≤ most := by
    have := congrArg List.length hw
    rw [List.length_map, linesP_len] at this
    show (linesM (textL (linesP cs t))).length ≤ most
    omega
  rw [if_pos hl]
  show (readLines ShM.new ((linesM (textL (linesP cs t))).map fun l => Txt.split l " ")).bind _ = _
  rw [hw, bindS (readLines_P W)]
  dsimp only
  rw [if_pos (show [0].length = 1 from rfl), rows0_len]
theorem textP_len {cs : List Str} {t : T} (W : WfP cs t) : (textP cs t).length ≤ sizeP cs t * 79 := by
  have := text_len W.plain
  rwa [linesP_len] at this
end FP
set_option Elab.async false
set_option linter.all false
set_option maxRecDepth 100000
set_option maxHeartbeats 4000000
namespace FP
open PySem PySem.Spec PyProof.Rows L2 TL
theorem tNil_i {σ : L2.St} {H : Hp} {Q : List V → Hp → Prop} (h : Q [] H) : tNil σ H Q := h
theorem tJs_i {acc : Str} {σ : L2.St} {H : Hp} {Q : Str → Hp → Prop} (h : Q acc H) : tJs [] acc σ H Q := h
theorem amp_e (c : Str) : Str.empty ++ "&" ++ c = "&" ++ c := ext_tl (by rw [tl_append, tl_append, tl_append]; rfl)
theorem sz1000 {n : Nat} (h : n ≤ 1000) : n ≤ sizeLine := by rw [sizeLine_eq]; omega
theorem tConsC_i {v : V} {t : TA} {σ : L2.St} {H : Hp} {Q : List V → Hp → Prop} (h : t σ H fun xs H2 => Q (v :: xs) H2) : tCons (tC v) t σ H Q := h
theorem len_app (a b : Str) : (a ++ b).length = a.length + b.length := by
  rw [TL.len_tl, TL.tl_append, List.length_append, ← TL.len_tl, ← TL.len_tl]
theorem new_same {H : Hp} {l : Addr} {o : HO} (n : H l = none) : Same H (upd H l o) := Same.new (Same.refl H) n
theorem new_at {H : Hp} {l : Addr} {o : HO} (n : H l = none) : (upd H l o) l = some o := upd_same
end FP
set_option Elab.async false
set_option linter.all false
set_option maxRecDepth 100000
set_option maxHeartbeats 4000000
/-! The trees of a law, as they lie in the heap. -/
namespace FP
open PySem PySem.Spec PyProof.Rows L2 TL
def blkD (c l : Addr) : List (Key × V) := [(.inr "cells", .ref c), (.inr "body", .ref l)]
def Op.parts (o : Op) (x : Addr) : List V := o.names.map V.str ++ (.ref x :: if o.two = true then [.non] else [])
def Op.parts2 (o : Op) (x y : Addr) : List V := o.names.map V.str ++ [.ref x, .ref y]
def OrdsAt (H : Hp) : T → List Addr → Prop
  | .nil, os => os = []
  | .deed d r, os => ∃ o rest, os = o :: rest ∧ H o = some (.tup (d.words.map V.str)) ∧ OrdsAt H r rest
  | .one op cs b r, os => ∃ o x c l ors rest, os = o :: rest ∧ H o = some (.tup (.str op.word :: op.parts x)) ∧ H x = some (.dK (blkD c l)) ∧ H c = some (.lst (cs.map V.str)) ∧ H l = some (.lst (ors.map V.ref)) ∧ OrdsAt H b ors ∧ OrdsAt H r rest
  | .two op cs b cs' b' r, os => ∃ o x c l ors y c' l' ors' rest, os = o :: rest ∧ H o = some (.tup (.str op.word :: op.parts2 x y)) ∧ H x = some (.dK (blkD c l)) ∧ H c = some (.lst (cs.map V.str)) ∧ H l = some (.lst (ors.map V.ref)) ∧ OrdsAt H b ors ∧
      H y = some (.dK (blkD c' l')) ∧ H c' = some (.lst (cs'.map V.str)) ∧ H l' = some (.lst (ors'.map V.ref)) ∧ OrdsAt H b' ors' ∧ OrdsAt H r rest
theorem OrdsAt.same {H H' : Hp} (S : Same H H') : ∀ (t : T) {os : List Addr}, OrdsAt H t os → OrdsAt H' t os
  | .nil, _, h => h
  | .deed d r, _, ⟨o, rest, e, h1, h2⟩ => ⟨o, rest, e, S _ _ h1, OrdsAt.same S r h2⟩
  | .one op cs b r, _, ⟨o, x, c, l, ors, rest, e, h1, h2, h3, h4, h5, h6⟩ => ⟨o, x, c, l, ors, rest, e, S _ _ h1, S _ _ h2, S _ _ h3, S _ _ h4, OrdsAt.same S b h5, OrdsAt.same S r h6⟩
  | .two op cs b cs' b' r, _, ⟨o, x, c, l, ors, y, c', l', ors', rest, e, h1, h2, h3, h4, h5, h2', h3', h4', h5', h6⟩ =>
    ⟨o, x, c, l, ors, y, c', l', ors', rest, e, S _ _ h1, S _ _ h2, S _ _ h3, S _ _ h4, OrdsAt.same S b h5, S _ _ h2', S _ _ h3', S _ _ h4', OrdsAt.same S b' h5', OrdsAt.same S r h6⟩
def BlkAt (H : Hp) (x : Addr) (cs : List Str) (t : T) : Prop := ∃ c l ors, H x = some (.dK (blkD c l)) ∧ H c = some (.lst (cs.map V.str)) ∧ H l = some (.lst (ors.map V.ref)) ∧ OrdsAt H t ors
theorem BlkAt.same {H H' : Hp} {x : Addr} {cs : List Str} {t : T} (S : Same H H') (h : BlkAt H x cs t) : BlkAt H' x cs t := by
  obtain ⟨c, l, ors, h1, h2, h3, h4⟩ := h
  exact ⟨c, l, ors, S _ _ h1, S _ _ h2, S _ _ h3, h4.same S⟩
def depT : T → Nat
  | .nil => 0
  | .deed _ r => depT r
  | .one _ _ b r => max (depT b + 1) (depT r)
  | .two _ _ b _ b' r => max (max (depT b + 1) (depT b' + 1)) (depT r)
def lenT : T → Nat
  | .nil => 0
  | .deed _ r => lenT r + 1
  | .one _ _ _ r => lenT r + 1
  | .two _ _ _ _ _ r => lenT r + 1
theorem OrdsAt.len {H : Hp} : ∀ (t : T) {os : List Addr}, OrdsAt H t os → os.length = lenT t
  | .nil, _, h => by rw [h]; rfl
  | .deed d r, _, ⟨o, rest, e, h1, h2⟩ => by rw [e, List.length_cons, OrdsAt.len r h2]; rfl
  | .one op cs b r, _, ⟨o, x, c, l, ors, rest, e, h1, h2, h3, h4, h5, h6⟩ => by rw [e, List.length_cons, OrdsAt.len r h6]; rfl
  | .two op cs b cs' b' r, _, ⟨o, x, c, l, ors, y, c', l', ors', rest, e, h1, h2, h3, h4, h5, h2', h3', h4', h5', h6⟩ => by rw [e, List.length_cons, OrdsAt.len r h6]; rfl
theorem lenT_le : ∀ t : T, lenT t ≤ sizeT t
  | .nil => Nat.le_refl _
  | .deed _ r => by have := lenT_le r; rw [lenT, sizeT]; omega
  | .one _ cs b r => by have := lenT_le r; rw [lenT, sizeT]; omega
  | .two _ cs b cs' b' r => by have := lenT_le r; rw [lenT, sizeT]; omega
/-! ### parts of an order by their kinds -/
def isDv : V → Bool
  | .ref _ => true
  | _ => false
def isSv : V → Bool
  | .str _ => true
  | _ => false
def PartOk (H : Hp) (v : V) : Prop := (∃ s, v = .str s) ∨ (∃ x kvs, v = .ref x ∧ H x = some (.dK kvs)) ∨ v = .non
theorem PartOk.same {H H' : Hp} {v : V} (S : Same H H') (h : PartOk H v) : PartOk H' v := by
  rcases h with h | ⟨x, kvs, e, h⟩ | h
  · exact .inl h
  · exact .inr (.inl ⟨x, kvs, e, S _ _ h⟩)
  · exact .inr (.inr h)
theorem part_dict {K : PySem.W.Frag} {H : Hp} {v : V} (h : PartOk H v) : ∃ t, TyX K H v t ∧ PySem.W.kitOne K t (.type "dict") = some (isDv v) := by
  rcases h with ⟨s, rfl⟩ | ⟨x, kvs, rfl, h⟩ | rfl
  · exact ⟨_, .base (.str s), kit_ty (r := false) (by decide +kernel)⟩
  · exact ⟨_, .base (.dK h), kit_ty (r := true) (by decide +kernel)⟩
  · exact ⟨_, .base .non, kit_ty (r := false) (by decide +kernel)⟩
theorem part_str {K : PySem.W.Frag} {H : Hp} {v : V} (h : PartOk H v) : ∃ t, TyX K H v t ∧ PySem.W.kitOne K t (.type "str") = some (isSv v) := by
  rcases h with ⟨s, rfl⟩ | ⟨x, kvs, rfl, h⟩ | rfl
  · exact ⟨_, .base (.str s), kit_ty (r := true) (by decide +kernel)⟩
  · exact ⟨_, .base (.dK h), kit_ty (r := false) (by decide +kernel)⟩
  · exact ⟨_, .base .non, kit_ty (r := false) (by decide +kernel)⟩
theorem parts_ok {H : Hp} {o : Op} {x : Addr} {kvs : List (Key × V)} (h : H x = some (.dK kvs)) : ∀ v ∈ o.parts x, PartOk H v := by
  intro v hv
  rcases List.mem_append.mp hv with z | z
  · obtain ⟨s, _, rfl⟩ := List.mem_map.mp z
    exact .inl ⟨s, rfl⟩
  rcases List.mem_cons.mp z with z | z
  · exact .inr (.inl ⟨x, kvs, z, h⟩)
  · split at z
    · exact .inr (.inr (List.mem_singleton.mp z))
    · cases z
theorem parts2_ok {H : Hp} {o : Op} {x y : Addr} {kvs kvs' : List (Key × V)} (h : H x = some (.dK kvs)) (h' : H y = some (.dK kvs')) : ∀ v ∈ o.parts2 x y, PartOk H v := by
  intro v hv
  rcases List.mem_append.mp hv with z | z
  · obtain ⟨s, _, rfl⟩ := List.mem_map.mp z
    exact .inl ⟨s, rfl⟩
  rcases List.mem_cons.mp z with z | z
  · exact .inr (.inl ⟨x, kvs, z, h⟩)
  · exact .inr (.inl ⟨y, kvs', List.mem_singleton.mp z, h'⟩)
theorem parts_D (o : Op) (x : Addr) : (o.parts x).filter isDv = [.ref x] := by cases o <;> rfl
theorem parts_S (o : Op) (x : Addr) : (o.parts x).filter isSv = o.names.map V.str := by cases o <;> rfl
theorem parts2_D (o : Op) (x y : Addr) : (o.parts2 x y).filter isDv = [.ref x, .ref y] := by cases o <;> rfl
theorem parts2_S (o : Op) (x y : Addr) : (o.parts2 x y).filter isSv = o.names.map V.str := by cases o <;> rfl
theorem parts_len (o : Op) (x : Addr) : (o.parts x).length ≤ 4 := by cases o <;> (show _ ≤ 4) <;> simp [Op.parts, Op.names, Op.two]
theorem parts2_len (o : Op) (x y : Addr) : (o.parts2 x y).length ≤ 4 := by cases o <;> (show _ ≤ 4) <;> simp [Op.parts2, Op.names]
theorem filter_take {p : V → Bool} {ps : List V} {n : Nat} {v : V} (h : ps[n]? = some v) : (ps.take (n + 1)).filter p = (ps.take n).filter p ++ (if p v = true then [v] else []) := by
  rw [List.take_add_one, h, List.filter_append]
  congr 1
  show [v].filter p = _
  rw [List.filter_cons]
  rfl
theorem filter_len {p : V → Bool} {ps : List V} {n : Nat} (h : ps.length ≤ 4) : ((ps.take n).filter p).length < sizeLine := by
  have h1 := List.length_filter_le p (ps.take n)
  have h2 : (ps.take n).length ≤ ps.length := by rw [List.length_take]; omega
  rw [sizeLine_eq]
  omega
/-- t[1:] of a tuple that isn't empty -/
theorem cut_tl {v : V} {ps : List V} : ¬ (HT.sIx (v :: ps).length 0 (some (1 : Int)) = 0 ∧ HT.sIx (v :: ps).length (v :: ps).length none = (v :: ps).length) := by
  intro z
  have h1 : HT.sIx (v :: ps).length 0 (some ((1 : Nat) : Int)) = min 1 (v :: ps).length := HT.sIx_nat ..
  have h2 := z.1
  rw [show (some (1 : Int)) = some ((1 : Nat) : Int) from rfl, h1] at h2
  rw [List.length_cons] at h2
  omega
theorem deed_words (d : Deed) : ∃ ws, d.words = d.word :: ws ∧ ws.length ≤ 3 := by
  cases d <;> exact ⟨_, rfl, by simp⟩
def openW : List V := [.str "block", .str "loop", .str "maybe", .str "same"]
theorem deed_notopen (d : Deed) : inV (.str d.word) openW = false := match d with
  | .input _ => (by decide : inV (.str "input") openW = false)
  | .copy _ _ => (by decide : inV (.str "copy") openW = false)
  | .point _ _ => (by decide : inV (.str "point") openW = false)
  | .load _ _ => (by decide : inV (.str "load") openW = false)
  | .store _ _ => (by decide : inV (.str "store") openW = false)
  | .use _ => (by decide : inV (.str "use") openW = false)
  | .call _ => (by decide : inV (.str "call") openW = false)
theorem op_open (o : Op) : inV (.str o.word) openW = true := match o with
  | .block => (by decide : inV (.str "block") openW = true)
  | .loop => (by decide : inV (.str "loop") openW = true)
  | .maybe => (by decide : inV (.str "maybe") openW = true)
  | .same _ _ => (by decide : inV (.str "same") openW = true)
/-- the kinds of what comes next -/
inductive OrdV (H : Hp) (o : Addr) : T → T → Prop where
  | deed (d : Deed) (r : T) (h : H o = some (.tup (d.words.map V.str))) : OrdV H o (.deed d r) r
  | one (op : Op) (cs : List Str) (b r : T) (x : Addr) (h : H o = some (.tup (.str op.word :: op.parts x))) (hb : BlkAt H x cs b) : OrdV H o (.one op cs b r) r
  | two (op : Op) (cs : List Str) (b : T) (cs' : List Str) (b' r : T) (x y : Addr) (h : H o = some (.tup (.str op.word :: op.parts2 x y))) (hb : BlkAt H x cs b) (hb' : BlkAt H y cs' b') : OrdV H o (.two op cs b cs' b' r) r
theorem OrdsAt.step {H : Hp} {t : T} {o : Addr} {rest : List Addr} (h : OrdsAt H t (o :: rest)) : ∃ r, OrdV H o t r ∧ OrdsAt H r rest := by
  cases t with
  | nil => cases h
  | deed d r =>
    obtain ⟨o', rest', e, h1, h2⟩ := h
    cases e
    exact ⟨r, .deed d r h1, h2⟩
  | one op cs b r =>
    obtain ⟨o', x, c, l, ors, rest', e, h1, h2, h3, h4, h5, h6⟩ := h
    cases e
    exact ⟨r, .one op cs b r x h1 ⟨c, l, ors, h2, h3, h4, h5⟩, h6⟩
  | two op cs b cs' b' r =>
    obtain ⟨o', x, c, l, ors, y, c', l', ors', rest', e, h1, h2, h3, h4, h5, h2', h3', h4', h5', h6⟩ := h
    cases e
    exact ⟨r, .two op cs b cs' b' r x y h1 ⟨c, l, ors, h2, h3, h4, h5⟩ ⟨c', l', ors', h2', h3', h4', h5'⟩, h6⟩
theorem OrdsAt.end_ {H : Hp} {t : T} (h : OrdsAt H t []) : t = .nil := by
  cases t with
  | nil => rfl
  | deed d r => obtain ⟨_, _, e, _⟩ := h; cases e
  | one op cs b r => obtain ⟨_, _, _, _, _, _, e, _⟩ := h; cases e
  | two op cs b cs' b' r => obtain ⟨_, _, _, _, _, _, _, _, _, _, e, _⟩ := h; cases e
theorem drop_at {α β : Type} {l : List α} {f : α → β} {i : Nat} {v : β} (h : (l.map f)[i]? = some v) : ∃ x, v = f x ∧ l.drop i = x :: l.drop (i + 1) := by
  rw [List.getElem?_map] at h
  obtain ⟨x, hx, rfl⟩ := Option.map_eq_some_iff.mp h
  obtain ⟨hi, hx⟩ := List.getElem?_eq_some_iff.mp hx
  exact ⟨x, rfl, by rw [List.drop_eq_getElem_cons hi, hx]⟩
theorem blk_cells (c l : Addr) : valV (blkD c l) (.inr "cells") = some (.ref c) := rfl
theorem blk_body (c l : Addr) : valV (blkD c l) (.inr "body") = some (.ref l) := rfl
theorem get_cells {H : Hp} {x c l : Addr} (h : H x = some (.dK (blkD c l))) : DGet H x (.str "cells") (some (.ref c)) := DGet.k (k := .inr "cells") h
theorem get_body {H : Hp} {x c l : Addr} (h : H x = some (.dK (blkD c l))) : DGet H x (.str "body") (some (.ref l)) := DGet.k (k := .inr "body") h
theorem strs_nil (cs : List Str) : PyData.eqv (.list (cs.map PyData.str)) (.list []) = decide (cs = []) := by
  cases cs with
  | nil => rfl
  | cons c r =>
    rw [decide_eq_false (by intro e; cases e)]
    rfl
end FP
set_option Elab.async false
set_option linter.all false
set_option maxRecDepth 100000
set_option maxHeartbeats 4000000
set_option exponentiation.threshold 2000
/-! The lines of a law's tree. -/
namespace FP
open PySem PySem.Spec PyProof.Rows L2 TL
structure Blt3 (mg : Str → Option Value) : Prop where
  len : mg "len" = none
  list : mg "list" = none
  isi : mg "isinstance" = none
  dict : mg "dict" = none
  str : mg "str" = none
/-- the lines as texts -/
def lnJ (ls : List (List Str)) : List Str := ls.map (Txt.join " ")
/-- good lines: short words, few lines -/
structure OkB (cs : List Str) (t : T) : Prop where
  sz : sizeP cs t ≤ 1000
  pl : ∀ ws ∈ linesP cs t, plainL ws
  ok : ∀ x ∈ cs ++ declT t, PyData.strOk x = true
  dl : (cs ++ declT t).length ≤ 1000
theorem plain_join {ws : List Str} (h : plainL ws) (sep : Str) (hs : sep.length ≤ 1) : (ws.map (·.length)).sum + ws.length * sep.length ≤ 16777216 := by
  obtain ⟨_, h6, hw⟩ := h
  have : ∀ l : List Str, (∀ w ∈ l, plainW w) → (l.map (·.length)).sum ≤ l.length * 12 := by
    intro l
    induction l with
    | nil => intro _; exact Nat.le_refl _
    | cons w r ih =>
      intro hw
      have h1 := ih fun x hx => hw x (List.mem_cons_of_mem _ hx)
      have h2 := (hw w List.mem_cons_self).2.1
      rw [← len_tl] at h2
      rw [List.map_cons, List.sum_cons, List.length_cons]
      omega
  have h1 := this ws hw
  have h2 : ws.length * sep.length ≤ ws.length * 1 := Nat.mul_le_mul_left _ hs
  omega
/-- what is left of a block -/
structure OkT (t : T) : Prop where
  sz : sizeT t ≤ 1000
  pl : ∀ ws ∈ linesT t, plainL ws
  ok : ∀ x ∈ declT t, PyData.strOk x = true
  dl : (declT t).length ≤ 1000
theorem OkB.t {cs : List Str} {t : T} (O : OkB cs t) : OkT t :=
  ⟨by have := O.sz; unfold sizeP at this; omega, fun ws hw => O.pl ws (List.mem_append_right _ hw), fun x hx => O.ok x (List.mem_append_right _ hx), by have := O.dl; rw [List.length_append] at this; omega⟩
theorem OkT.deed {d : Deed} {r : T} (O : OkT (.deed d r)) : plainL d.words ∧ OkT r :=
  ⟨O.pl _ List.mem_cons_self, by have := O.sz; rw [sizeT] at this; omega, fun ws hw => O.pl ws (List.mem_cons_of_mem _ hw), fun x hx => O.ok x hx, O.dl⟩
theorem OkT.one {o : Op} {cs : List Str} {b r : T} (O : OkT (.one o cs b r)) : plainL (o.word :: o.names) ∧ OkB cs b ∧ OkT r := by
  have hs := O.sz
  rw [sizeT] at hs
  have hd := O.dl
  rw [declT, List.length_append] at hd
  refine ⟨O.pl _ List.mem_cons_self, ⟨by unfold sizeP; omega, fun ws hw => O.pl ws ?_, fun x hx => O.ok x ?_, by omega⟩, ⟨by omega, fun ws hw => O.pl ws ?_, fun x hx => O.ok x ?_, by omega⟩⟩
  · rw [linesT]
    exact List.mem_cons_of_mem _ (List.mem_append_left _ hw)
  · rw [declT]
    exact List.mem_append_left _ hx
  · rw [linesT]
    exact List.mem_cons_of_mem _ (List.mem_append_right _ (List.mem_cons_of_mem _ hw))
  · rw [declT]
    exact List.mem_append_right _ hx
theorem OkT.two {o : Op} {cs : List Str} {b : T} {cs' : List Str} {b' r : T} (O : OkT (.two o cs b cs' b' r)) : plainL (o.word :: o.names) ∧ OkB cs b ∧ OkB cs' b' ∧ OkT r := by
  have hs := O.sz
  rw [sizeT] at hs
  have hd := O.dl
  rw [declT] at hd
  simp only [List.length_append] at hd
  refine ⟨O.pl _ List.mem_cons_self, ⟨by unfold sizeP; omega, fun ws hw => O.pl ws ?_, fun x hx => O.ok x ?_, by rw [List.length_append]; omega⟩, ⟨by unfold sizeP; omega, fun ws hw => O.pl ws ?_, fun x hx => O.ok x ?_, by rw [List.length_append]; omega⟩, ⟨by omega, fun ws hw => O.pl ws ?_, fun x hx => O.ok x ?_, by omega⟩⟩
  · rw [linesT]
    exact List.mem_cons_of_mem _ (List.mem_append_left _ hw)
  · rw [declT]
    exact List.mem_append_left _ hx
  · rw [linesT]
    exact List.mem_cons_of_mem _ (List.mem_append_right _ (List.mem_cons_of_mem _ (List.mem_append_left _ hw)))
  · rw [declT]
    exact List.mem_append_right _ (List.mem_append_left _ hx)
  · rw [linesT]
    exact List.mem_cons_of_mem _ (List.mem_append_right _ (List.mem_cons_of_mem _ (List.mem_append_right _ (List.mem_cons_of_mem _ hw))))
  · rw [declT]
    exact List.mem_append_right _ (List.mem_append_right _ hx)
theorem boot_isi : bootBuiltins "isinstance" = some (.builtin "isinstance") := by decide +kernel
abbrev ttIsi (K : PySem.W.Frag) (i : Nat) (c : String) : TT := tB (tCB (rIsi K) (tCons (tVar i) (tCons (tC (.ty c)) tNil)))
/-- an order that opens blocks -/
structure OpAt (H : Hp) (o : Addr) (t r : T) (d : Nat) (op : Op) (ps : List V) (y : Addr) (cb : List Str) (b : T) (dr : List Addr) : Prop where
  at_ : H o = some (.tup (.str op.word :: ps))
  part : ∀ v ∈ ps, PartOk H v
  dv : ps.filter isDv = .ref y :: dr.map V.ref
  sv : ps.filter isSv = op.names.map V.str
  len : ps.length ≤ 4
  blk : BlkAt H y cb b
  dep : depT b < d
  okb : OkB cb b
  pl : plainL (op.word :: op.names)
  depr : depT r < d + 1
  okr : OkT r
  idx : ∀ n v, ps[n]? = some v → (n < op.names.length ∧ ∃ s, v = .str s) ∨ (n = op.names.length ∧ v = .ref y) ∨ (n = op.names.length + 1 ∧ ((dr = [] ∧ v = .non) ∨ ∃ z, dr = [z] ∧ v = .ref z))
  end_ : op.names.length + 1 ≤ ps.length ∧ ps.length ≤ op.names.length + 2 ∧ (dr ≠ [] → ps.length = op.names.length + 2)
  more : (dr = [] ∧ t = .one op cb b r) ∨ ∃ y' cb' b', dr = [y'] ∧ BlkAt H y' cb' b' ∧ depT b' < d ∧ OkB cb' b' ∧ t = .two op cb b cb' b' r
theorem blk_dict {H : Hp} {y : Addr} {cb : List Str} {b : T} (h : BlkAt H y cb b) : ∃ kvs, H y = some (.dK kvs) := let ⟨c, l, _, h, _⟩ := h; ⟨_, h⟩
theorem parts_idx (o : Op) (y : Addr) (n : Nat) (v : V) (h : (o.parts y)[n]? = some v) : (n < o.names.length ∧ ∃ s, v = .str s) ∨ (n = o.names.length ∧ v = .ref y) ∨ (n = o.names.length + 1 ∧ ((([] : List Addr) = [] ∧ v = .non) ∨ ∃ z, ([] : List Addr) = [z] ∧ v = .ref z)) := by
  unfold Op.parts at h
  by_cases h1 : n < o.names.length
  · rw [List.getElem?_append_left (by rw [List.length_map]; exact h1), List.getElem?_map] at h
    obtain ⟨s, _, rfl⟩ := Option.map_eq_some_iff.mp h
    exact .inl ⟨h1, s, rfl⟩
  · rw [List.getElem?_append_right (by rw [List.length_map]; omega), List.length_map] at h
    obtain ⟨k, rfl⟩ : ∃ k, n = o.names.length + k := ⟨n - o.names.length, by omega⟩
    rw [Nat.add_sub_cancel_left] at h
    match k, h with
    | 0, h => exact .inr (.inl ⟨rfl, (Option.some.inj h).symm⟩)
    | 1, h =>
      rw [List.getElem?_cons_succ] at h
      split at h
      · exact .inr (.inr ⟨rfl, .inl ⟨rfl, (Option.some.inj h).symm⟩⟩)
      · cases h
    | k + 2, h =>
      rw [List.getElem?_cons_succ] at h
      split at h <;> cases h
theorem parts2_idx (o : Op) (y y' : Addr) (n : Nat) (v : V) (h : (o.parts2 y y')[n]? = some v) : (n < o.names.length ∧ ∃ s, v = .str s) ∨ (n = o.names.length ∧ v = .ref y) ∨ (n = o.names.length + 1 ∧ (([y'] = ([] : List Addr) ∧ v = .non) ∨ ∃ z, [y'] = [z] ∧ v = .ref z)) := by
  unfold Op.parts2 at h
  by_cases h1 : n < o.names.length
  · rw [List.getElem?_append_left (by rw [List.length_map]; exact h1), List.getElem?_map] at h
    obtain ⟨s, _, rfl⟩ := Option.map_eq_some_iff.mp h
    exact .inl ⟨h1, s, rfl⟩
  · rw [List.getElem?_append_right (by rw [List.length_map]; omega), List.length_map] at h
    obtain ⟨k, rfl⟩ : ∃ k, n = o.names.length + k := ⟨n - o.names.length, by omega⟩
    rw [Nat.add_sub_cancel_left] at h
    match k, h with
    | 0, h => exact .inr (.inl ⟨rfl, (Option.some.inj h).symm⟩)
    | 1, h => exact .inr (.inr ⟨rfl, .inr ⟨y', rfl, (Option.some.inj h).symm⟩⟩)
    | k + 2, h => cases h
theorem parts_end (o : Op) (y : Addr) : o.names.length + 1 ≤ (o.parts y).length ∧ (o.parts y).length ≤ o.names.length + 2 := by
  unfold Op.parts
  rw [List.length_append, List.length_map, List.length_cons]
  split
  · exact ⟨by omega, Nat.le_refl _⟩
  · exact ⟨Nat.le_refl _, by show _ + (0 + 1) ≤ _; omega⟩
theorem parts2_end (o : Op) (y y' : Addr) : (o.parts2 y y').length = o.names.length + 2 := by
  unfold Op.parts2
  rw [List.length_append, List.length_map]
  rfl
theorem OrdV.open_ {H : Hp} {o : Addr} {t r : T} {d : Nat} (h : OrdV H o t r) (hd : depT t < d + 1) (O : OkT t) : (∃ k, t = .deed k r ∧ H o = some (.tup (k.words.map V.str))) ∨ ∃ op ps y cb b dr, OpAt H o t r d op ps y cb b dr := by
  cases h with
  | deed k _ h => exact .inl ⟨k, rfl, h⟩
  | one op cs b _ x h hb =>
    obtain ⟨h1, h2, h3⟩ := O.one
    obtain ⟨kvs, hk⟩ := blk_dict hb
    rw [depT] at hd
    exact .inr ⟨op, _, x, cs, b, [], h, parts_ok hk, parts_D op x, parts_S op x, parts_len op x, hb, by omega, h2, h1, by omega, h3, parts_idx op x, ⟨(parts_end op x).1, (parts_end op x).2, fun z => absurd rfl z⟩, .inl ⟨rfl, rfl⟩⟩
  | two op cs b cs' b' _ x y h hb hb' =>
    obtain ⟨h1, h2, h2', h3⟩ := O.two
    obtain ⟨kvs, hk⟩ := blk_dict hb
    obtain ⟨kvs', hk'⟩ := blk_dict hb'
    rw [depT] at hd
    exact .inr ⟨op, _, x, cs, b, [y], h, parts2_ok hk hk', parts2_D op x y, parts2_S op x y, parts2_len op x y, hb, by omega, h2, h1, by omega, h3, parts2_idx op x y, ⟨by rw [parts2_end]; omega, by rw [parts2_end]; exact Nat.le_refl _, fun _ => parts2_end op x y⟩, .inr ⟨y, cs', b', rfl, hb', by omega, h2', rfl⟩⟩
/-- a value that is made by one way or another -/
theorem seq_mid {te : TE} {g : TG} {tb : TS} {D : Ends} {σ : L2.St} {H : Hp} (R : V → Hp → Prop) (k : ∀ Qy : V → Hp → Prop, (∀ v H1, R v H1 → Qy v H1) → te σ H Qy) (m : ∀ v H1, R v H1 → g v σ H1 (tb D)) : tSeq (tAsg te g) tb D σ H := k _ m
theorem seq_drop {te : TE} {tb : TS} {D : Ends} {σ : L2.St} {H : Hp} (h : te σ H fun _ H1 => tb D σ H1) : tSeq (tDrop te) tb D σ H := h
theorem lnJ_app (a b : List (List Str)) : lnJ (a ++ b) = lnJ a ++ lnJ b := List.map_append ..
theorem lnJ_cons (a : List Str) (b : List (List Str)) : lnJ (a :: b) = Txt.join " " a :: lnJ b := rfl
theorem lnJ_len (a : List (List Str)) : (lnJ a).length = a.length := List.length_map ..
section
variable {P : Program} {w : World} {K : PySem.W.Frag} {mg : Str → Option Value} {base : Heap}
def spBL (d : Nat) : Sp := fun vs H Q _ => ∃ (x : Addr) (cs : List Str) (t : T), vs = [.ref x] ∧ BlkAt H x cs t ∧ depT t < d ∧ OkB cs t ∧ ∀ r H', Same H H' → H r = none → H' r = some (.lst ((lnJ (linesP cs t)).map V.str)) → Q (.ref r) H'
abbrev nBL : List Str := ["_law_block", "_law_found", "_law_order", "_law_inner", "_law_part"]
theorem scBL : FnScope nBL ["_law_block"] (defScope qBlockLines) := ⟨rfl, rfl, rfl, by decide +kernel, rfl, by decide +kernel, by decide +kernel⟩
theorem ok_bl {f : Addr} {fd : FuncData} (F : Fun K "_law_block_lines" "_law_block_lines" qBlockLines f fd) (B : Blt3 mg) (g : mg "_law_block_lines" = some (.ref f)) (kp : W.keepIn K (.ref f) = true) (b : Binds K fd ["_law_block"] []) :
    ∀ d, FnOk P w K mg base CX0 d f fd ["_law_block"] (spBL d)
  | 0 => ⟨fun vs H Q E h => (by obtain ⟨x, cs, t, _, _, h, _⟩ := h; exact absurd h (Nat.not_lt_zero _)), fun A outer s H args us vs Q E _ _ _ _ h => (by obtain ⟨x, cs, t, _, _, h, _⟩ := h; exact absurd h (Nat.not_lt_zero _))⟩
  | d + 1 => by
    have GD := ok_bl F B g kp b d
    refine F.ok scBL (fun vs H Q E h => ?_) (fun cdv A outer s H vs Q E hr h => ?_)
    · obtain ⟨x, cs, t, rfl, _⟩ := h
      rfl
    obtain ⟨x, cs, t, rfl, hx, hd, O, q⟩ := h
    have hu := hu_of hr
    refine ⟨_, pss_cons (ps_set (i := 1) scBL.nd rfl (.inl rfl) (pe_ifExp (pt_cmpR (op_neD hr.units) (pe_dget hu (pv 0) pe_str (fun _ _ => rfl)) (pe_lst pa_nil) (nomark _)) (pe_lst (pa_cons (pe_join pe_str (pe_op op_cat (pe_lst (pa_cons pe_str pa_nil)) (pe_dget hu (pv 0) pe_str (fun _ _ => rfl)))) pa_nil)) (pe_lst pa_nil)))
      (pss_cons (ps_for PassesOwn.never rfl (pi_list (pe_dget hu (pv 0) pe_str (fun _ _ => rfl))) (pg_name (i := 2) scBL.nd rfl (Or.inl rfl))
        (pss_cons (ps_if (pt_cmpR op_notIn_seq (pe_ix ix_tup (pv 2) pe_int (fun _ _ => rfl)) (pe_tup (pa_cons pe_str (pa_cons pe_str (pa_cons pe_str (pa_cons pe_str pa_nil))))) (by rfl))
          (pss_cons (ps_expr (pe_bm PySem.F.plainAttrs_list PySem.F.slot_list_append PySem.F.type_list_append mt_append (pv 1) (pa_cons (pe_join pe_str (pe_callTy call_list_of (by rfl) B.list (by decide +kernel) (pa_cons (pv 2) pa_nil))) pa_nil))) (pss_one ps_continue)) pss_nil)
        (pss_cons (ps_setLc (i := 3) (own := [("_law_part", 4)]) (g := gName 4) (tt := ttIsi K 4 "dict") (te := tVar 4) (by rfl) scBL.nd rfl rfl (sw_true rfl rfl rfl (by decide +kernel)) (pi_tup (pe_slice sl_tup (pv 2) (po_some pe_int) po_none)) (blkOk_by (own := [("_law_part", 4)]) (N := nBL) (sc := defScope qBlockLines) (by decide +kernel))
          (fun _ _ _ _ _ => pg_name (i := 4) scBL.nd rfl (Or.inl rfl)) (fun _ _ _ _ _ => pts_one (pt_val (pe_callB call_isi (by rfl) B.isi boot_isi (pa_cons (pv 4) (pa_cons (pe_bltn (v := .ty "dict") (by rfl) B.dict (by decide +kernel) rfl) pa_nil))))) (fun _ _ _ _ _ => pv 4))
        (pss_cons (ps_expr (pe_bm PySem.F.plainAttrs_list PySem.F.slot_list_append PySem.F.type_list_append mt_append (pv 1) (pa_cons (pe_join pe_str (pe_op op_cat (pe_lst (pa_cons (pe_ix ix_tup (pv 2) pe_int (fun _ _ => rfl)) pa_nil))
          (pe_lc (own := [("_law_part", 4)]) (g := gName 4) (tt := ttIsi K 4 "str") (te := tVar 4) (by rfl) scBL.nd (pi_tup (pe_slice sl_tup (pv 2) (po_some pe_int) po_none)) (blkOk_by (own := [("_law_part", 4)]) (N := nBL) (sc := defScope qBlockLines) (by decide +kernel))
            (fun _ _ _ _ _ => pg_name (i := 4) scBL.nd rfl (Or.inl rfl)) (fun _ _ _ _ _ => pts_one (pt_val (pe_callB call_isi (by rfl) B.isi boot_isi (pa_cons (pv 4) (pa_cons (pe_bltn (v := .ty "str") (by rfl) B.str (by decide +kernel) rfl) pa_nil))))) (fun _ _ _ _ _ => pv 4)))) pa_nil)))
        (pss_cons (ps_set (i := 1) scBL.nd rfl (.inl rfl) (pe_op op_cat (pv 1) (pe_call GD hr rfl g kp b .nil pass0 (pa_cons (pe_ix ix_list (pv 3) pe_int (fun _ _ => rfl)) pa_nil))))
        (pss_cons (ps_if (pt_cmpR op_eq (pe_callB call_len_seq (by rfl) B.len boot_len (pa_cons (pv 3) pa_nil)) pe_int (nomark _))
          (pss_one (ps_set (i := 1) scBL.nd rfl (.inl rfl) (pe_op op_cat (pe_op op_cat (pv 1) (pe_lst (pa_cons pe_str pa_nil))) (pe_call GD hr rfl g kp b .nil pass0 (pa_cons (pe_ix ix_list (pv 3) pe_int (fun _ _ => rfl)) pa_nil))))) pss_nil)
        (pss_one (ps_expr (pe_bm PySem.F.plainAttrs_list PySem.F.slot_list_append PySem.F.type_list_append mt_append (pv 1) (pa_cons pe_str pa_nil))))))))))
      (pss_one (ps_ret (pv 1)))), ?_⟩
    obtain ⟨c, l, ors, h1, h2, h3, h4⟩ := hx
    have hoks : ∀ y ∈ cs, PyData.strOk y = true := fun y hy => O.ok y (List.mem_append_left _ hy)
    refine seq_mid (fun v H1 => ∃ f, v = .ref f ∧ Same H H1 ∧ H f = none ∧ H1 f = some (.lst ((lnJ (loc cs)).map V.str))) (fun Qy hq => ?_) ?_
    · refine ⟨_, rfl, x, _, rfl, get_cells h1, Nat.zero_le _, fun z nz => ⟨_, _, .lst (SqL.of ((new_same nz) _ _ h2)) (strs_dp _ _ cs), .lst (SqL.of upd_same) .nil, strs_shaped _ hoks, rfl, _, rfl, ?_⟩⟩
      have S0 := new_same (o := .lst []) nz
      rw [strs_nil]
      by_cases hc : cs = []
      · rw [decide_eq_true hc]
        refine iteF ⟨Nat.zero_le _, fun f nf => hq _ _ ⟨f, rfl, S0.trans (new_same nf), S0.free nf, ?_⟩⟩
        rw [upd_same, loc, if_pos hc]
        rfl
      · rw [decide_eq_false hc]
        refine iteT ⟨⟨_, rfl⟩, sz1000 (by show 1 ≤ 1000; decide), fun l1 n1 => ?_⟩
        have S1 := S0.trans (new_same (o := .lst [.str "local"]) n1)
        have e1 := new_at (o := .lst [.str "local"]) n1
        have hpl : plainL ("local" :: cs) := O.pl _ (by unfold linesP; rw [loc, if_neg hc]; exact List.mem_append_left _ List.mem_cons_self)
        have h6 := hpl.2.1
        rw [List.length_cons] at h6
        refine ⟨_, rfl, x, _, rfl, get_cells (S1 _ _ h1), l1, c, [.str "local"], cs.map V.str, rfl, rfl, e1, S1 _ _ h2, sz1000 (by rw [List.length_map]; show 1 + cs.length ≤ 1000; omega), fun l2 n2 => ?_⟩
        have S2 := S1.trans (new_same (o := .lst ([.str "local"] ++ cs.map V.str)) n2)
        have e2 := new_at (o := .lst ([.str "local"] ++ cs.map V.str)) n2
        refine ⟨" ", l2, "local" :: cs, rfl, rfl, .inl (SqL.of e2), plain_join hpl _ (by decide), sz1000 (by show 1 ≤ 1000; decide), fun f nf => hq _ _ ⟨f, rfl, S2.trans (new_same nf), S2.free nf, ?_⟩⟩
        rw [upd_same, loc, if_neg hc]
        rfl
    rintro _ H1 ⟨f0, rfl, S1, hf0, e1⟩
    have hlen : (lnJ (linesP cs t)).length ≤ 1000 := by rw [lnJ_len, linesP_len]; exact O.sz
    refine ⟨_, rfl, x, _, rfl, get_body (S1 _ _ h1), l, rfl, ⟨_, SqL.of (S1 _ _ h3)⟩, for_it walk_list (fun i σ H' => ∃ f z2 z3 A rest, σ = [some (.ref x), some (.ref f), z2, z3, none] ∧ Same H H' ∧ H f = none ∧ OrdsAt H rest (ors.drop i) ∧ depT rest < d + 1 ∧ OkT rest ∧ H' f = some (.lst (List.map V.str A)) ∧ A ++ lnJ (linesT rest) = lnJ (linesP cs t))
      ⟨f0, _, _, _, t, rfl, S1, hf0, h4, hd, O.t, e1, by unfold linesP; rw [lnJ_app]⟩ (fun i σ H' _ z => by obtain ⟨f, z2, z3, A, rest, _, S, _⟩ := z; exact SqL.of (S _ _ h3)) ?_ ?_⟩
    · rintro i v σ H' H'' hi ⟨f, z2, z3, A, rest, rfl, S, hf, ho, hdr, hok, ef, eA⟩ ⟨rfl, hv⟩
      obtain ⟨o, rfl, edr⟩ := drop_at hv
      rw [edr] at ho
      obtain ⟨r, hk, ho'⟩ := ho.step
      have hAl : A.length + (linesT rest).length ≤ 1000 := by rw [← lnJ_len (linesT rest), ← List.length_append, eA]; exact hlen
      rcases hk.open_ hdr hok with ⟨k, rfl, hh⟩ | ⟨op, ps, y, cb, b, dr, V0⟩
      · obtain ⟨kpl, hokr⟩ := hok.deed
        have hh' := S _ _ hh
        refine ⟨_, rfl, o, _, 0, _, rfl, rfl, SqT.of hh', atI_nat (j := 0) (v := .str k.word) (by obtain ⟨ws, e, _⟩ := deed_words k; rw [e]; rfl), sz1000 (by show 4 ≤ 1000; decide), fun T nT => ?_⟩
        have S2 := S.trans (new_same (o := .tup openW) nT)
        have ef2 := (new_same (o := .tup openW) nT) _ _ ef
        refine ⟨T, openW, rfl, .inr (SqT.of upd_same), rfl, rfl, ?_⟩
        rw [if_pos rfl, deed_notopen]
        refine ⟨_, rfl, iteT ⟨_, rfl, .inl ⟨rfl, _, SqL.of ef2⟩, ⟨_, rfl⟩, _, rfl, o, _, rfl, .inr (SqT.of (S2 _ _ hh)), fun l1 n1 => ?_⟩⟩
        have S3 := S2.trans (new_same (o := .lst (k.words.map V.str)) n1)
        have ef3 := (new_same (o := .lst (k.words.map V.str)) n1) _ _ ef2
        have e3 := new_at (o := .lst (k.words.map V.str)) n1
        rw [linesT, List.length_cons] at hAl
        refine ⟨" ", l1, k.words, rfl, rfl, .inl (SqL.of e3), plain_join kpl _ (by decide), f, _, _, rfl, rfl, ef3, small1000 (by rw [List.length_map]; omega), f, _, _, A ++ [Txt.join " " k.words], r, rfl, Same.put S3 hf, hf, ho', hdr, hokr, ?_, ?_⟩
        · rw [upd_same, List.map_append]
          rfl
        · rw [← eA, linesT, lnJ_cons, List.append_assoc]
          rfl
      · have hh := V0.at_
        have hsz : A.length + (1 + sizeP cb b + (if dr = [] then 0 else 1) + 1) ≤ 1000 := by
          rw [lines_len] at hAl
          rcases V0.more with ⟨e, rfl⟩ | ⟨y', cb', b', e, _, _, _, rfl⟩
          · rw [sizeT] at hAl; rw [if_pos e]; unfold sizeP; omega
          · rw [sizeT] at hAl; rw [e, if_neg (by simp)]; unfold sizeP; omega
        refine ⟨_, rfl, o, _, 0, _, rfl, rfl, SqT.of (S _ _ hh), atI_nat (j := 0) (v := .str op.word) rfl, sz1000 (by show 4 ≤ 1000; decide), fun T nT => ?_⟩
        have S2 := S.trans (new_same (o := .tup openW) nT)
        have ef2 := (new_same (o := .tup openW) nT) _ _ ef
        refine ⟨T, openW, rfl, .inr (SqT.of upd_same), rfl, rfl, ?_⟩
        rw [if_pos rfl, op_open]
        refine ⟨_, rfl, iteF ?_⟩
        -- the blocks of the order
        refine ⟨_, rfl, 1, rfl, o, _, rfl, SqT.of (S2 _ _ hh), cut_tl, fun p np => ?_⟩
        rw [show cutV (V.str op.word :: ps) (some 1) none = ps from cut_drop1 _ _]
        have S3 := S2.trans (new_same (o := .tup ps) np)
        have ef3 := (new_same (o := .tup ps) np) _ _ ef2
        have ep := new_at (o := .tup ps) np
        refine ⟨p, rfl, ⟨_, SqT.of ep⟩, fun D nD => lc_it (walk_tup (xs := ps)) (fun n H' => Same (upd (upd H'' T (.tup openW)) p (.tup ps)) H' ∧ H' D = some (.lst ((ps.take n).filter isDv))) ⟨new_same nD, upd_same⟩ (fun _ H' _ z => SqT.of (z.1 _ _ ep)) ?_ ?_⟩
        · rintro n v H4 H5 hn ⟨S4, eD⟩ ⟨rfl, hv⟩
          have hp := (V0.part v (List.mem_of_getElem? hv)).same (S3.trans S4)
          obtain ⟨ty, h1, h2⟩ := part_dict (K := K) hp
          refine ⟨rfl, _, rfl, v, _, ty, _, _, rfl, .ty "dict", h1, h2, _, rfl, ?_⟩
          refine ite2 (fun c => ⟨_, rfl, _, eD, filter_len V0.len, Same.put S4 nD, ?_⟩) fun c => ⟨S4, ?_⟩
          · rw [upd_same, filter_take hv, if_pos c]
          · rw [filter_take hv, if_neg c, List.append_nil]
            exact eD
        rintro H4 ⟨S4, eD⟩
        rw [List.take_length, V0.dv] at eD
        have S4' := S3.trans S4
        have ef4 := S4 _ _ ef3
        -- its own line
        refine ⟨_, rfl, .inl ⟨rfl, _, SqL.of ef4⟩, ⟨_, rfl⟩, _, rfl, o, _, 0, _, rfl, rfl, SqT.of (S4' _ _ hh), atI_nat (j := 0) (v := .str op.word) rfl, sz1000 (by show 1 ≤ 1000; decide), fun l5 n5 => ?_⟩
        have S5 := new_same (o := .lst [.str op.word]) n5
        have e5 := new_at (o := .lst [.str op.word]) n5
        refine ⟨_, rfl, 1, rfl, o, _, rfl, SqT.of (S5 _ _ (S4' _ _ hh)), cut_tl, fun p6 n6 => ?_⟩
        rw [show cutV (V.str op.word :: ps) (some 1) none = ps from cut_drop1 _ _]
        have S6 := S5.trans (new_same (o := .tup ps) n6)
        have e6 := new_at (o := .tup ps) n6
        have e56 := (new_same (o := .tup ps) n6) _ _ e5
        have S46 := S4'.trans S6
        refine ⟨p6, rfl, ⟨_, SqT.of e6⟩, fun D7 n7 => lc_it (walk_tup (xs := ps)) (fun n H' => Same (upd (upd H4 l5 (.lst [.str op.word])) p6 (.tup ps)) H' ∧ H' D7 = some (.lst ((ps.take n).filter isSv))) ⟨new_same n7, upd_same⟩ (fun _ H' _ z => SqT.of (z.1 _ _ e6)) ?_ ?_⟩
        · rintro n v H7 H8 hn ⟨S7, eD7⟩ ⟨rfl, hv⟩
          have hp := (V0.part v (List.mem_of_getElem? hv)).same (S46.trans S7)
          obtain ⟨ty, h1, h2⟩ := part_str (K := K) hp
          refine ⟨rfl, _, rfl, v, _, ty, _, _, rfl, .ty "str", h1, h2, _, rfl, ?_⟩
          refine ite2 (fun c => ⟨_, rfl, _, eD7, filter_len V0.len, Same.put S7 n7, ?_⟩) fun c => ⟨S7, ?_⟩
          · rw [upd_same, filter_take hv, if_pos c]
          · rw [filter_take hv, if_neg c, List.append_nil]
            exact eD7
        rintro H7 ⟨S7, eD7⟩
        rw [List.take_length, V0.sv] at eD7
        have h6 := V0.pl.2.1
        rw [List.length_cons] at h6
        refine ⟨l5, D7, [.str op.word], op.names.map V.str, rfl, rfl, S7 _ _ e56, eD7, sz1000 (by rw [List.length_map]; show 1 + _ ≤ 1000; omega), fun l8 n8 => ?_⟩
        have S8 := (S6.trans S7).trans (new_same (o := .lst ([.str op.word] ++ op.names.map V.str)) n8)
        have e8 := new_at (o := .lst ([.str op.word] ++ op.names.map V.str)) n8
        refine ⟨" ", l8, op.word :: op.names, rfl, rfl, .inl (SqL.of e8), plain_join V0.pl _ (by decide), f, _, _, rfl, rfl, S8 _ _ ef4, small1000 (by rw [List.length_map]; omega), ?_⟩
        have nDf : D ≠ f := (ne_of_none ef3 nD).symm
        have S9 : Same H (upd (upd H7 l8 (.lst ([.str op.word] ++ op.names.map V.str))) f (.lst (A.map V.str ++ [.str (Txt.join " " (op.word :: op.names))]))) := Same.put (S4'.trans S8) hf
        have ef9 : (upd (upd H7 l8 (.lst ([.str op.word] ++ op.names.map V.str))) f (.lst (A.map V.str ++ [.str (Txt.join " " (op.word :: op.names))]))) f = some (.lst ((A ++ [Txt.join " " (op.word :: op.names)]).map V.str)) := by rw [upd_same, List.map_append]; rfl
        have eD9 : (upd (upd H7 l8 (.lst ([.str op.word] ++ op.names.map V.str))) f (.lst (A.map V.str ++ [.str (Txt.join " " (op.word :: op.names))]))) D = some (.lst (.ref y :: dr.map V.ref)) := (upd_ne nDf).trans (S8 _ _ eD)
        generalize upd (upd H7 l8 (.lst ([.str op.word] ++ op.names.map V.str))) f (.lst (A.map V.str ++ [.str (Txt.join " " (op.word :: op.names))])) = H9 at *
        -- the first block
        refine ⟨_, rfl, _, rfl, D, _, 0, _, rfl, rfl, SqL.of eD9, atI_nat (j := 0) (v := .ref y) rfl, tNil_i ⟨y, cb, b, rfl, V0.blk.same S9, V0.dep, V0.okb, fun r9 Ha Sa hr9 er9 => ⟨f, r9, _, _, rfl, rfl, Sa _ _ ef9, er9, ?_, fun f2 nf2 => ?_⟩⟩⟩
        · rw [List.length_map, List.length_map, lnJ_len, linesP_len, List.length_append, List.length_singleton]
          exact sz1000 (by omega)
        have hf2 : H f2 = none := (S9.trans Sa).free nf2
        have Sb : Same H9 (upd Ha f2 (.lst ((A ++ [Txt.join " " (op.word :: op.names)]).map V.str ++ (lnJ (linesP cb b)).map V.str))) := Sa.trans (new_same nf2)
        have eb : (upd Ha f2 (.lst ((A ++ [Txt.join " " (op.word :: op.names)]).map V.str ++ (lnJ (linesP cb b)).map V.str))) f2 = some (.lst ((A ++ [Txt.join " " (op.word :: op.names)] ++ lnJ (linesP cb b)).map V.str)) := by rw [upd_same, List.map_append (l₁ := A ++ _)]
        generalize upd Ha f2 (.lst ((A ++ [Txt.join " " (op.word :: op.names)]).map V.str ++ (lnJ (linesP cb b)).map V.str)) = Hb at *
        have eDb := Sb _ _ eD9
        have S9b := S9.trans Sb
        refine ⟨_, rfl, D, _, rfl, .inl (SqL.of eDb), rfl, _, rfl, ?_⟩
        rcases V0.more with ⟨ed, et⟩ | ⟨y', cb', b', ed, hb', hdb', hob', et⟩
        · subst ed
          rw [if_pos rfl] at hsz
          refine iteF ⟨_, rfl, .inl ⟨rfl, _, SqL.of eb⟩, f2, _, _, rfl, rfl, eb, ?_, f2, _, _, A ++ [Txt.join " " (op.word :: op.names)] ++ lnJ (linesP cb b) ++ [("end" : Str)], r, rfl, Same.put S9b hf2, hf2, ho', V0.depr, V0.okr, ?_, ?_⟩
          · rw [List.length_map, List.length_append, List.length_append, List.length_singleton, lnJ_len, linesP_len]
            exact small1000 (by omega)
          · rw [upd_same, List.map_append (l₂ := [("end" : Str)])]
            rfl
          · rw [← eA, et, linesT, lnJ_cons]
            simp only [lnJ_app, lnJ_cons, linesP, List.append_assoc]
            rfl
        · subst ed
          rw [if_neg (by simp)] at hsz
          have hs2 : A.length + (1 + sizeP cb b + 1 + sizeP cb' b' + 1) ≤ 1000 := by
            rw [lines_len, et, sizeT] at hAl; unfold sizeP; omega
          refine iteT ⟨_, rfl, sz1000 (by show 1 ≤ 1000; decide), fun lc nc => ?_⟩
          have Sc := new_same (o := .lst [.str "else"]) nc
          have ec := new_at (o := .lst [.str "else"]) nc
          refine ⟨f2, lc, _, _, rfl, rfl, Sc _ _ eb, ec, ?_, fun fd nd => ?_⟩
          · rw [List.length_map, List.length_append, List.length_append, List.length_singleton, lnJ_len, linesP_len]
            exact sz1000 (by show _ + 1 ≤ 1000; omega)
          have Sd := Sc.trans (new_same (o := .lst ((A ++ [Txt.join " " (op.word :: op.names)] ++ lnJ (linesP cb b)).map V.str ++ [.str "else"])) nd)
          have ed2 := new_at (o := .lst ((A ++ [Txt.join " " (op.word :: op.names)] ++ lnJ (linesP cb b)).map V.str ++ [.str "else"])) nd
          have S9d := S9b.trans Sd
          refine ⟨_, rfl, D, _, 1, _, rfl, rfl, SqL.of (Sd _ _ eDb), atI_nat (j := 1) (v := .ref y') rfl, tNil_i ⟨y', cb', b', rfl, hb'.same S9d, hdb', hob', fun re He Se hre ere => ⟨fd, re, _, _, rfl, rfl, Se _ _ ed2, ere, ?_, fun f3 nf3 => ?_⟩⟩⟩
          · rw [List.length_append, List.length_map, List.length_map, lnJ_len, linesP_len, List.length_append, List.length_append, List.length_singleton, lnJ_len, linesP_len]
            exact sz1000 (by show _ + 1 + _ ≤ 1000; omega)
          have S9e := S9d.trans Se
          have hf3 : H f3 = none := S9e.free nf3
          have S9f := S9e.trans (new_same (o := .lst ((A ++ [Txt.join " " (op.word :: op.names)] ++ lnJ (linesP cb b)).map V.str ++ [.str "else"] ++ (lnJ (linesP cb' b')).map V.str)) nf3)
          have ef3' := new_at (o := .lst ((A ++ [Txt.join " " (op.word :: op.names)] ++ lnJ (linesP cb b)).map V.str ++ [.str "else"] ++ (lnJ (linesP cb' b')).map V.str)) nf3
          refine ⟨_, rfl, .inl ⟨rfl, _, SqL.of ef3'⟩, f3, _, _, rfl, rfl, ef3', ?_, f3, _, _, A ++ [Txt.join " " (op.word :: op.names)] ++ lnJ (linesP cb b) ++ [("else" : Str)] ++ lnJ (linesP cb' b') ++ [("end" : Str)], r, rfl, Same.put S9f hf3, hf3, ho', V0.depr, V0.okr, ?_, ?_⟩
          · rw [List.length_append, List.length_append, List.length_map, List.length_map, lnJ_len, linesP_len, List.length_append, List.length_append, List.length_singleton, lnJ_len, linesP_len]
            exact small1000 (by show _ + 1 + _ ≤ 1000; omega)
          · rw [upd_same]
            simp only [List.map_append]
            rfl
          · rw [← eA, et, linesT, lnJ_cons]
            simp only [lnJ_app, lnJ_cons, linesP, List.append_assoc]
            rfl
    · rintro σ H' ⟨f, z2, z3, A, rest, rfl, S, hf, ho, hdr, hok, ef, eA⟩
      rw [List.length_map, List.drop_length] at ho
      rw [ho.end_] at eA
      rw [show lnJ (linesT .nil) = [] from rfl, List.append_nil] at eA
      exact ⟨_, rfl, q f H' S hf (by rw [ef, eA])⟩
end
end FP
set_option Elab.async false
set_option linter.all false
set_option maxRecDepth 100000
set_option maxHeartbeats 4000000
set_option exponentiation.threshold 2000
/-! Program(text) on any text, and a law's own try around it. -/
namespace FP
open PySem PySem.Spec PyProof.Rows L2 TL
section
variable {X : Cx} {CX : CXT} {k : Nat} {f C : Addr} {fd : FuncData} {ps : List Str} {sp : Sp} {E : L2.St → XK} {x m : Str} {p pos apos : Pos} {e o : Expr} {es : List Expr} {ta : TE} {t : TA} {ds : List Value} {dvs : List V}
theorem run_makeS {pins : List (Addr × Obj)} {σ : L2.St} {H : Hp} {s : Shared} {Q : VK} {us : List Value} {vs : List V} (M : Mk X.K C f) (F : FnOk X.prog X.w X.K X.mg X.base CX k f fd ps sp) (hr : Room (k + 1) X.A) (hb : Binds X.K fd ps ds) (hd : Vals dvs ds)
    (hx : PassesAt CX X σ (E σ)) (I : Inv X pins σ H s) (r : Vals vs us)
    (h : ∀ x dx, H x = none → H dx = none → dx ≠ x → sp (.ref x :: (vs ++ dvs)) (upd (upd H dx (.own x)) x (.ins C dx [])) (fun v H2 => v = .non ∧ Q (.ref x) H2) (E σ)) :
    wpAny (model X.prog X.w) X.A (call (.ref C) us) (EP X pins σ Q) X.xe s := by
  have hq := h (s.heap.objs.size + 1) s.heap.objs.size (I.hok.fresh (Nat.le_succ _)) (I.hok.fresh (Nat.le_refl _)) (Nat.ne_of_lt (Nat.lt_succ_self _))
  have I2 := Inv.made (C := C) I
  have r2 : Vals (V.ref (s.heap.objs.size + 1) :: (vs ++ dvs)) (Value.ref (s.heap.objs.size + 1) :: (us ++ ds)) := .cons rfl (r.append hd)
  have hl : (Value.ref (s.heap.objs.size + 1) :: us ++ ds).length = ps.length := by
    have e := r2.length
    rw [F.len _ _ _ _ hq] at e
    exact e.symm
  refine wpAny_call (make_map (f := f) I.kIn M.makes M.init (beq_iff_eq.mp M.fn) (codeAny_mono (F.run _ X.stack _ _ ⟨Value.ref (s.heap.objs.size + 1) :: us, []⟩ (Value.ref (s.heap.objs.size + 1) :: (us ++ ds)) _ _ (E σ) (hr.make C us [])
    (I2.env0.make C us []) (hb _ (Value.ref (s.heap.objs.size + 1) :: us) I2.kIn hl) r2 hq) fun r s' hq' => ?_))
  cases r with
  | error e => exact hx pins _ _ e s' I2 hq'
  | ok fl =>
    cases fl with
    | ret u =>
      obtain ⟨v, H', I3, rv, ev, q3⟩ := I2.after hq'
      subst ev
      exact ⟨rv, ⟨V.ref (s.heap.objs.size + 1), H', I3, rfl, q3⟩⟩
    | next => exact False.elim hq'
    | brk => exact False.elim hq'
    | cont => exact False.elim hq'
def tMakeS (C : Addr) (sp : Sp) (dvs : List V) (E : L2.St → XK) (t : TA) : TE := fun σ H Q => t σ H fun vs H1 => ∀ x dx, H1 x = none → H1 dx = none → dx ≠ x → sp (.ref x :: (vs ++ dvs)) (upd (upd H1 dx (.own x)) x (.ins C dx [])) (fun v H2 => v = .non ∧ Q (.ref x) H2) (E σ)
/-- C(e, ..) whose __init__ may raise -/
theorem pe_makeS (M : Mk X.K C f) (F : FnOk X.prog X.w X.K X.mg X.base CX k f fd ps sp) (hr : Room (k + 1) X.A) (hg : Gl X x) (hm : X.mg x = some (.ref C)) (hb : Binds X.K fd ps ds) (hd : Vals dvs ds) (hx : ∀ σ, PassesAt CX X σ (E σ))
    (ha : PA X (e :: es) t) (hdb : (x == ("__debug__" : Str)) = false := by decide) (he : starEach (e :: es) X.env = (false, eval e X.env) :: starEach es X.env := by rfl) (hpl : (backTo pos (starEach es X.env)).any (·.1) = false := by rfl) :
    PE X (.Call (.Name x p) (e :: es) [] pos) (tMakeS C sp dvs E t) := by
  refine ⟨fun pins s σ H Q I h => ?_⟩
  refine wpAny_Call_Name_kw (ld_glob I hg hm ?_ hdb)
  refine PySem.W.callWith_K (h₀ := X.base) I.ok.mod.kin M.kp (thn (ha.run pos pins s σ H _ I h) fun us s1 ⟨vs, H1, I1, r, q⟩ => ⟨I1.kIn, ?_⟩) he hpl
  exact run_makeS M F hr hb hd (hx σ) I1 r q
end
section
variable {P : Program} {w : World} {K : PySem.W.Frag} {mg : Str → Option Value} {base : Heap} {Cr Cs Cp CB CF : Addr}
def spProgX (CB Cp Cr Cs : Addr) : Sp := fun vs H Q E => ∃ (x dx : Addr) (text : Str), vs = [.ref x, .str text] ∧ H x = some (.ins Cp dx []) ∧ text.length ≤ 80000 ∧
  (∀ M, readM text 40 = some M → ∀ H', PgN Cp Cr Cs (fun b => if b = x then none else H b) H' x text M → (∀ b o, H b = some o → b ≠ x → H' b = some o) → Q .non H') ∧
  (wrongM text 40 ≠ 0 → ∀ d H', H d = none → Same H H' → H' d = some (.xd [("line", .int ((wrongM text 40 : Nat) : Int))]) → E (.ref CB) (some d) H')
/-- Program.__init__ that may raise -/
structure CDefX (P : Program) (w : World) (K : PySem.W.Frag) (mg : Str → Option Value) (base : Heap) (C : Addr) (k : Nat) (ps : List Str) (sp : Sp) : Prop where
  ex : ∃ f fd, Mk K C f ∧ Binds K fd ps [] ∧ FnOk P w K mg base (L2.CX P w) k f fd ps sp
structure DefX (P : Program) (w : World) (K : PySem.W.Frag) (mg : Str → Option Value) (base : Heap) (x : Str) (k : Nat) (ps : List Str) (sp : Sp) : Prop where
  ex : ∃ f fd, mg x = some (.ref f) ∧ PySem.W.keepIn K (.ref f) = true ∧ Binds K fd ps [] ∧ FnOk P w K mg base (L2.CX P w) k f fd ps sp
theorem ok_progInitX {f : Addr} {fd : FuncData} (F : Fun K "__init__" "Program.__init__" mProgram_init f fd) (T : PgTxt K mg Cp) (DR : DefX P w K mg base "read_sheet" 5 ["text", "most"] (spReadX CB Cr Cs)) (DH : MDef P w K mg base Cp "_hold" 1 ["self", "text", "sheet"] (spHold Cp Cr Cs)) :
    FnOk P w K mg base (L2.CX P w) 6 f fd ["self", "text"] (spProgX CB Cp Cr Cs) := by
  obtain ⟨fR, fdR, gR, kR, bR, GR⟩ := DR.ex
  obtain ⟨fH, fdH, mH, bH, GH⟩ := DH.ex
  obtain ⟨tm, gm⟩ := T.ml
  refine F.okX scPI (fun vs H Q E h => ?_) (fun cdv A outer s H vs Q E hr h => ?_)
  · obtain ⟨x, dx, text, rfl, _⟩ := h
    rfl
  obtain ⟨x, dx, text, rfl, hx, hl, q, qe⟩ := h
  refine ⟨_, pss_one (ps_expr (pe_meth (pv 0) T.cp mH GH (hr.mono (by decide)) bH .nil pass0 (pa_cons (pv 1) (pa_cons (pe_callS GR hr rfl gR kR bR (fun σ => passAt (takes_of rfl rfl rfl rfl) σ) (pa_cons (pv 1) (pa_cons (pe_glob (v := .int 40) (by rfl) gm ⟨_, rfl⟩) pa_nil))) pa_nil)))), ?_⟩
  refine ⟨_, rfl, x, dx, _, rfl, hx, rfl, _, rfl, _, rfl, text, 40, rfl, hl, by decide, fun M hM s p H1 A1 => ?_, fun n0 d H1 hd S ed => qe n0 d H1 hd S ed⟩
  have hx1 := A1.same _ _ hx
  refine ⟨x, dx, s, text, M, H, p, rfl, hx1, A1, by rw [hx]; exact Option.some_ne_none _, fun t H2 ht e1 e2 e3 => ?_⟩
  have K2 : ∀ b o, H1 b = some o → b ≠ x → H2 b = some o := e3
  have nx : ∀ {b}, H b = none → b ≠ x := fun z e => by rw [e, hx] at z; cases z
  have A2 : ShAt Cr Cs (fun b => if b = x then none else H b) H2 s p M := by
    obtain ⟨ds, es⟩ := A1.sh
    have nsx : s ≠ x := fun z => by rw [z, hx1] at es; cases es
    refine ⟨⟨ds, K2 _ _ es nsx⟩, K2 _ _ A1.R (nx A1.fR), K2 _ _ A1.h (nx A1.fh), K2 _ _ A1.ar (nx A1.far), K2 _ _ A1.n (nx A1.fn), A1.len, fun i r m g1 g2 => ?_, A1.nd, A1.Rn, A1.har, A1.sr, ?_, ?_, ?_, ?_, fun r hr => ?_, fun b u e => ?_⟩
    · obtain ⟨d9, t9, er, et⟩ := A1.rows i r m g1 g2
      exact ⟨d9, t9, K2 _ _ er (nx (A1.fr r (List.mem_iff_getElem?.mpr ⟨i, g1⟩))), K2 _ _ et (ne_of et hx1 (by intro z; cases z))⟩
    · show (if p.R = x then none else H p.R) = none
      rw [if_neg (nx A1.fR)]; exact A1.fR
    · show (if p.h = x then none else H p.h) = none
      rw [if_neg (nx A1.fh)]; exact A1.fh
    · show (if p.ar = x then none else H p.ar) = none
      rw [if_neg (nx A1.far)]; exact A1.far
    · show (if p.n = x then none else H p.n) = none
      rw [if_neg (nx A1.fn)]; exact A1.fn
    · show (if r = x then none else H r) = none
      rw [if_neg (nx (A1.fr r hr))]; exact A1.fr r hr
    · by_cases z : b = x
      · rw [if_pos z] at e; cases e
      · rw [if_neg z] at e
        exact K2 _ _ (A1.same _ _ e) z
  exact q M hM _ ⟨dx, t, s, p, e2, e1, A2⟩ fun b u e nb => K2 _ _ (A1.same _ _ e) nb
/-- what the errors' classes say of themselves -/
structure FrIs (K : PySem.W.Frag) (mg : Str → Option Value) (CB CF : Addr) : Prop where
  gF : mg "FrameError" = some (.ref CF)
  kF : PySem.W.kitOne K (.ref CB) (.ref CF) = some true
  kV : PySem.W.kitOne K (.ref CB) (.type "ValueError") = some true
  nV : mg "ValueError" = none
def spTold : Sp := fun vs H Q _ => ∃ t : Str, vs = [.str t] ∧ t.length ≤ 80000 ∧ ∀ H', Same H H' → Q (.int ((wrongM t 40 : Nat) : Int)) H'
abbrev nTd : List Str := ["_law_text", "_law_made", "e"]
theorem scTd : FnScope nTd ["_law_text"] (defScope qTold) := ⟨rfl, rfl, rfl, by decide +kernel, rfl, by decide +kernel, by decide +kernel⟩
theorem ok_told {f : Addr} {fd : FuncData} (F : Fun K "_law_told" "_law_told" qTold f fd) (T : PgTxt K mg Cp) (DB : BadDef P w K mg base CB) (FI : FrIs K mg CB CF) (BI : mg "isinstance" = none) (DP : CDefX P w K mg base Cp 6 ["self", "text"] (spProgX CB Cp Cr Cs)) :
    FnOk P w K mg base CX0 8 f fd ["_law_text"] spTold := by
  obtain ⟨fP, fdP, mP, bP, GP⟩ := DP.ex
  refine F.ok scTd (fun vs H Q E h => ?_) (fun cdv A outer s H vs Q E hr h => ?_)
  · obtain ⟨t, rfl, _⟩ := h
    rfl
  obtain ⟨t, rfl, hl, q⟩ := h
  refine ⟨_, pss_cons (ps_try_as (i := 2) rfl rfl scTd.nd rfl rfl ⟨rfl, by decide, .inl DB.g⟩ takes0
      (fun W pn xe tk _ => pss_one (ps_set (i := 1) scTd.nd rfl (.inl rfl) (pe_makeS mP GP hr rfl T.gp bP .nil (fun σ => passAt tk σ) (pa_cons (pv 0) pa_nil))))
      (fun a oe cls d pn hz hf => pss_one (ps_ret (pe_ifExp (PW.pt (pw_and (pt_val (pe_callB (call_isD DB.T hz hf) (by rfl) BI boot_isi (pa_cons (pv 2) (pa_cons (pe_glob (v := .ref CF) (by rfl) FI.gF rfl) pa_nil))))
        (pw_and1 (pt_val (pe_callB (call_isD DB.T hz hf) (by rfl) BI boot_isi (pa_cons (pv 2) (pa_cons (pe_bltn (v := .ty "ValueError") (by rfl) FI.nV (by decide +kernel) rfl) pa_nil)))))))
        (pe_xf ⟨DB.T.ga, DB.T.gg, DB.T.oex.exC, DB.T.hd⟩ DB.no hz hf (pv 2)) pe_str))))
    (pss_one (ps_ret (pe_ifExp (pt_cmpR op_eq (pe_fld (pv 1) rfl) (pv 0) (nomark _)) pe_int pe_str))), ?_⟩
  refine ⟨_, rfl, fun x dx nx nd ne => ⟨x, dx, t, rfl, upd_same, hl, fun M hM H1 A1 k1 => ⟨rfl, ?_⟩, fun n0 d H1 hd S ed => ⟨true, DB.te, fun _ a ha => ?_, fun z => nomatch z⟩⟩⟩
  · obtain ⟨dx', t', s', p, e1, e2, e3⟩ := A1.ex
    refine ⟨_, rfl, x, Cp, dx', _, _, rfl, e1, T.cp, T.nt, rfl, _, rfl, rfl, ?_⟩
    rw [decide_eq_true (show (V.str t) = V.str t from rfl)]
    refine ⟨true, rfl, iteT ?_⟩
    have S1 : Same H H1 := fun b u e => k1 b u (by
      have nb := ne_of_none e nx
      have nbd : b ≠ dx := ne_of_none e nd
      rw [upd_ne nb, upd_ne nbd]
      exact e) (ne_of_none e nx)
    have := q H1 S1
    rw [right_read hM] at this
    exact this
  · have S1 : Same H H1 := fun b u e => S b u (by
      have nb := ne_of_none e nx
      have nbd : b ≠ dx := ne_of_none e nd
      rw [upd_ne nb, upd_ne nbd]
      exact e)
    refine ⟨_, rfl, V.ref CF, .ref CF, true, d, _, rfl, rfl, ed, rfl, fun u r => r, FI.kF, true, rfl, iteT ?_⟩
    refine ⟨_, rfl, V.ty "ValueError", .type "ValueError", true, d, _, rfl, rfl, ed, rfl, fun u r => r, FI.kV, true, rfl, iteT ?_⟩
    exact ⟨_, rfl, rfl, rfl, d, _, _, rfl, ed, rfl, q H1 S1⟩
end
end FP
set_option Elab.async false
set_option linter.all false
set_option maxRecDepth 100000
set_option maxHeartbeats 4000000
/-! Lengths and signs of texts that are split and joined. -/
namespace FP
open PySem PySem.Spec PyProof.Rows L2 TL
theorem strOk_tl (x : Str) : PyData.strOk x = (tl x).all (· < 0x110000) := by
  show x.cps.all _ = x.cps.toList.all _
  rw [Array.all_toList]
theorem spl_sum (s : Nat) : ∀ (l : List Nat) (acc : List Nat), ((spl [s] 0 acc l).map (·.length)).sum + (spl [s] 0 acc l).length = acc.length + l.length + 1
  | [], acc => by
    rw [spl_nil]
    simp
  | c :: r, acc => by
    by_cases h : c = s
    · have hp : pre [s] (c :: r) = true := by
        unfold pre
        simp [h]
      rw [spl_hit hp]
      have := spl_sum s r []
      rw [List.map_cons, List.sum_cons, List.length_cons]
      simp only [List.length_singleton, List.length_nil, List.length_cons, Nat.sub_self] at this ⊢
      omega
    · have hp : pre [s] (c :: r) = false := by
        unfold pre
        simpa using h
      rw [spl_miss hp]
      have := spl_sum s r (acc ++ [c])
      rw [List.length_append, List.length_singleton] at this
      rw [List.length_cons]
      omega
theorem spl_mem (S : List Nat) : ∀ (l : List Nat) (k : Nat) (acc : List Nat), ∀ p ∈ spl S k acc l, ∀ c ∈ p, c ∈ acc ∨ c ∈ l
  | [], k, acc, p, hp, c, hc => by
    rw [spl_nil] at hp
    rw [List.mem_singleton.mp hp] at hc
    exact .inl hc
  | x :: r, 0, acc, p, hp, c, hc => by
    have hp' : p ∈ (if pre S (x :: r) = true then acc :: spl S (S.length - 1) [] r else spl S 0 (acc ++ [x]) r) := hp
    split at hp'
    · rcases List.mem_cons.mp hp' with z | z
      · rw [z] at hc; exact .inl hc
      · rcases spl_mem S r _ _ p z c hc with y | y
        · cases y
        · exact .inr (List.mem_cons_of_mem _ y)
    · rcases spl_mem S r _ _ p hp' c hc with y | y
      · rcases List.mem_append.mp y with q | q
        · exact .inl q
        · rw [List.mem_singleton.mp q]; exact .inr (List.mem_cons_self ..)
      · exact .inr (List.mem_cons_of_mem _ y)
  | x :: r, k + 1, acc, p, hp, c, hc => by
    rcases spl_mem S r k acc p hp c hc with y | y
    · exact .inl y
    · exact .inr (List.mem_cons_of_mem _ y)

theorem strOk_iff {x : Str} : PyData.strOk x = true ↔ ∀ c ∈ tl x, c < 0x110000 := by
  rw [strOk_tl, List.all_eq_true]
  exact ⟨fun h c hc => of_decide_eq_true (h c hc), fun h c hc => decide_eq_true (h c hc)⟩
/-- a text that is split at one sign -/
theorem split_facts (x y : Str) (s : Nat) (hy : tl y = [s]) (hk : y.cps.all (· < 256) = true) :
    ((Txt.split x y).map (·.length)).sum + (Txt.split x y).length = x.length + 1 ∧ (PyData.strOk x = true → ∀ p ∈ Txt.split x y, PyData.strOk p = true) := by
  have e := split_spl x y (by rw [hy]; exact List.cons_ne_nil _ _) (kind_ok hk)
  rw [hy] at e
  constructor
  · have := spl_sum s (tl x) []
    rw [← e, List.length_map, List.map_map] at this
    have h2 : (Txt.split x y).map ((fun p : List Nat => p.length) ∘ tl) = (Txt.split x y).map (·.length) := List.map_congr_left fun p _ => (len_tl p).symm
    rw [h2] at this
    rw [len_tl x]
    simp only [List.length_nil] at this
    omega
  · intro h p hp
    rw [strOk_iff] at h ⊢
    intro c hc
    rcases spl_mem [s] (tl x) 0 [] (tl p) (by rw [← e]; exact List.mem_map_of_mem hp) c hc with z | z
    · cases z
    · exact h c z
theorem split_nl (x : Str) : ((Txt.split x "\n").map (·.length)).sum + (Txt.split x "\n").length = x.length + 1 ∧ (PyData.strOk x = true → ∀ p ∈ Txt.split x "\n", PyData.strOk p = true) := split_facts x "\n" 10 rfl (by decide +kernel)
theorem split_bl (x : Str) : ((Txt.split x " ").map (·.length)).sum + (Txt.split x " ").length = x.length + 1 ∧ (PyData.strOk x = true → ∀ p ∈ Txt.split x " ", PyData.strOk p = true) := split_facts x " " 32 rfl (by decide +kernel)
theorem joinL_le (S : List Nat) : ∀ l : List (List Nat), (joinL S l).length ≤ (l.map (·.length)).sum + l.length * S.length
  | [] => Nat.zero_le _
  | [p] => by
    show p.length ≤ _
    simp
  | p :: q :: r => by
    show (p ++ (S ++ joinL S (q :: r))).length ≤ _
    have := joinL_le S (q :: r)
    rw [List.length_append, List.length_append, List.map_cons, List.sum_cons, List.length_cons, Nat.succ_mul]
    omega
theorem join_facts (y : Str) (l : List Str) : (Txt.join y l).length ≤ (l.map (·.length)).sum + l.length * y.length ∧ (PyData.strOk y = true → (∀ p ∈ l, PyData.strOk p = true) → PyData.strOk (Txt.join y l) = true) := by
  constructor
  · rw [len_tl, tl_tjoin]
    have := joinL_le (tl y) (l.map tl)
    rw [List.length_map, List.map_map] at this
    have h2 : l.map ((fun p : List Nat => p.length) ∘ tl) = l.map (·.length) := List.map_congr_left fun p _ => (len_tl p).symm
    rw [h2, ← len_tl y] at this
    exact this
  · intro hy hl
    rw [strOk_iff, tl_tjoin]
    intro c hc
    rcases joinL_mem hc with z | ⟨p, hp, hc⟩
    · exact strOk_iff.mp hy c z
    · obtain ⟨q, hq, rfl⟩ := List.mem_map.mp hp
      exact strOk_iff.mp (hl q hq) c hc
theorem strOk_app {x y : Str} (hx : PyData.strOk x = true) (hy : PyData.strOk y = true) : PyData.strOk (x ++ y) = true := by
  rw [strOk_iff, tl_append]
  intro c hc
  rcases List.mem_append.mp hc with z | z
  · exact strOk_iff.mp hx c z
  · exact strOk_iff.mp hy c z
/-- the lines of a text -/
theorem lines_facts {x : Str} (h : PyData.strOk x = true) : ∀ l ∈ linesM x, l.length ≤ x.length ∧ PyData.strOk l = true := by
  intro l hl
  unfold linesM at hl
  split at hl
  · cases hl
  · exact ⟨split_lens x "\n" (by decide) (by decide +kernel) l hl, (split_nl x).2 h l hl⟩
theorem strs_eqv : ∀ a b : List Str, PyData.eqv (.list (a.map PyData.str)) (.list (b.map PyData.str)) = decide (a = b)
  | [], [] => rfl
  | [], b :: r => by rw [decide_eq_false (by intro e; cases e)]; rfl
  | a :: r, [] => by rw [decide_eq_false (by intro e; cases e)]; rfl
  | a :: r, b :: q => by
    have ih := strs_eqv r q
    have h1 : PyData.eqv (.list ((a :: r).map PyData.str)) (.list ((b :: q).map PyData.str)) = (decide (a = b) && PyData.eqv (.list (r.map PyData.str)) (.list (q.map PyData.str))) := by
      simp only [List.map_cons, PyData.eqv, PyData.eqvAll]
      congr 1
    rw [h1, ih]
    by_cases z : a = b
    · by_cases y : r = q
      · rw [decide_eq_true z, decide_eq_true y, decide_eq_true (by rw [z, y])]; rfl
      · rw [decide_eq_true z, decide_eq_false y, decide_eq_false fun e => y (List.cons.inj e).2]; rfl
    · rw [decide_eq_false z, decide_eq_false fun e => z (List.cons.inj e).1]; rfl
end FP
set_option Elab.async false
set_option linter.all false
set_option maxRecDepth 100000
set_option maxHeartbeats 4000000
/-! sum(lists, start), start a list: the lists one behind another. -/
namespace FP
open PySem PySem.Spec PyProof.Rows L2
theorem args_sum2 (a b : Value) : argsOk "sum" ⟨[a, b], []⟩ := by unfold argsOk; kernel_rfl
theorem sub_l_str : isSubtype (.type "list") (.type "str") = pure false := by kernel_rfl
theorem sub_l_byt : isSubtype (.type "list") (.type "bytes") = pure false := by kernel_rfl
theorem sub_l_bya : isSubtype (.type "list") (.type "bytearray") = pure false := by kernel_rfl
section
variable {prog : Program} {w : World} {A : Around} {R : Result → Shared → Prop} {I ax : Addr} {E : Value → Shared → Prop}
/-- what is summed up to the place i -/
def preL (zs : List Value) (xs : Nat → List Value) : Nat → List Value
  | 0 => zs
  | i + 1 => preL zs xs i ++ xs i
theorem preL_le (zs : List Value) (xs : Nat → List Value) {i j : Nat} (h : i ≤ j) : (preL zs xs i).length ≤ (preL zs xs j).length := by
  induction j with
  | zero => rw [Nat.le_zero.mp h]; exact Nat.le_refl _
  | succ j ih =>
    by_cases c : i = j + 1
    · rw [c]; exact Nat.le_refl _
    · refine Nat.le_trans (ih (by omega)) ?_
      show _ ≤ (preL zs xs j ++ xs j).length
      rw [List.length_append]
      omega
theorem sum_loopL {as : List Addr} (hh : A.handled = none) (hne : ax ≠ I) (zs : List Value) (xs : Nat → List Value) (S : Addr) (hSI : S ≠ I) (hSa : S ≠ ax) (hz : (preL zs xs as.length).length ≤ sizeLine) :
    ∀ (k i : Nat) (s : Shared) (T : Addr) (c cT : Nat), as.length - i = k → i ≤ as.length → (s.heap.IsListIter I ax i ∧ s.heap.IsList ax (as.map Value.ref).toArray) →
    s.heap.get? S = some { cls := .type "list", dict := none, data := .seq #[.ref T] c, slots := #[] } →
    IsL s.heap T (preL zs xs i).toArray cT → T ≠ I → T ≠ S →
    (∀ j a, i ≤ j → as[j]? = some a → (∃ n, IsL s.heap a (xs j).toArray n) ∧ a ≠ I ∧ a ≠ S) →
    (∀ h' tk T' c', (∀ b o, b ≠ I → b ≠ S → s.heap.get? b = some o → h'.get? b = some o) → IsL h' T' (preL zs xs as.length).toArray c' → (i = as.length → T' = T) → (i < as.length → s.heap.get? T' = none) →
      R (.ok (.ret (.ref T'))) { s with heap := h', toks := tk }) →
    codeAny (model prog w) A (.builtin "sum.loop" ⟨[.ref I, .ref S, rawInt 2, rawInt 0], []⟩) R s := by
  have W : Walks prog w A.in1 I [I, ax] [I] (as.map Value.ref).toArray.size _ _ := Walks.list (A := A.in1) hh I ax hne (as.map Value.ref).toArray
  have hsz : (as.map Value.ref).toArray.size = as.length := by simp
  intro k
  induction k with
  | zero =>
    intro i s T c cT hk hi hst hS hT hTI hTS hL hR
    have hin : i = as.length := by omega
    subst hin
    refine codeAny_builtin F.entry_sum_loop ?_
    rw [Around.under_plainId F.plain_sum_loop _]
    show wpAny _ A.in1 (seqItems? (.ref S) >>= _) _ _ s
    refine wpAny_bind (wpAny_seqItems hS rfl ?_)
    show wpAny _ A.in1 (tryCatch (pyNext (.ref I)) _ >>= _) _ _ s
    refine wpAny_bind (wpAny_tryCatch (W.done s _ _ (by rw [hsz]; exact hst) fun h' tk hk' => ?_))
    exact wpAny_pure (hR h' tk T cT (fun b o h1 _ e => hk' b o (by simpa using h1) e) (hk' T _ (by simpa using hTI) hT) (fun _ => rfl) (fun z => absurd z (Nat.lt_irrefl _)))
  | succ k ih =>
    intro i s T c cT hk hi hst hS hT hTI hTS hL hR
    have hlt : i < as.length := by omega
    refine codeAny_builtin F.entry_sum_loop ?_
    rw [Around.under_plainId F.plain_sum_loop _]
    show wpAny _ A.in1 (seqItems? (.ref S) >>= _) _ _ s
    refine wpAny_bind (wpAny_seqItems hS rfl ?_)
    show wpAny _ A.in1 (tryCatch (pyNext (.ref I)) _ >>= _) _ _ s
    refine wpAny_bind (wpAny_tryCatch (W.item i s _ _ (by rw [hsz]; exact hlt) hst fun v h' tk hP hst' hk' => ?_))
    have hv : v = .ref as[i] := by
      have : (as.map Value.ref).toArray[i]? = some v := hP
      simp [hlt] at this
      exact this.symm
    subst hv
    obtain ⟨⟨n1, hx⟩, hxI, hxS⟩ := hL i as[i] (Nat.le_refl _) (List.getElem?_eq_getElem hlt)
    have kk : ∀ b o, b ≠ I → s.heap.get? b = some o → h'.get? b = some o := fun b o hb e => hk' b o (by simpa using hb) e
    have hS' := kk S _ hSI hS
    have hT' := kk T _ hTI hT
    have hx' := kk as[i] _ hxI hx
    show wpAny _ A.in1 ((holding [Value.ref as[i]] (binaryOp .Add (.ref T) (.ref as[i]))).attempt >>= _) _ _ _
    have hlen : (preL zs xs i).length + (xs i).length ≤ sizeLine := by
      have := preL_le zs xs (i := i + 1) (j := as.length) hlt
      replace this : (preL zs xs i ++ xs i).length ≤ _ := this
      rw [List.length_append] at this
      omega
    refine wpAny_bind (wpAny_attempt (wpAny_holding (PySem.P.add_list hT' hx' ?_ (by rw [List.size_toArray, List.size_toArray]; exact hlen))))
    have ea : (preL zs xs i).toArray ++ (xs i).toArray = (preL zs xs (i + 1)).toArray := by simp [preL]
    rw [ea]
    show wpAny _ A.in1 (updateSeq S (fun _ => #[.ref h'.objs.size]) >>= _) _ _ _
    refine wpAny_bind ?_
    have hS1 := Heap.get?_push_of_some ({ cls := .type "list", data := .seq (preL zs xs (i + 1)).toArray } : Obj) hS'
    refine wpAny_updateSeq hS1 rfl ?_
    have hS2 := Heap.get?_update_self (Obj.mapSeq fun _ => #[Value.ref h'.objs.size]) hS1 rfl
    refine wpAny_bind (wpAny_letGo ?_)
    refine wpAny_bind ?_
    have hn : h'.objs.size ≠ S := (Nat.ne_of_lt (Heap.lt_size hS')).symm
    have keep : ∀ b o, b ≠ S → h'.get? b = some o → (((h'.push ({ cls := .type "list", data := .seq (preL zs xs (i + 1)).toArray } : Obj)).update S (Obj.mapSeq fun _ => #[Value.ref h'.objs.size])).update S (Obj.mapSeq fun _ => #[Value.ref h'.objs.size])).get? b = some o := fun b o hb e => by
      rw [Heap.get?_update_other _ _ (Ne.symm hb), Heap.get?_update_other _ _ (Ne.symm hb)]
      exact Heap.get?_push_of_some _ e
    have hnew : (((h'.push ({ cls := .type "list", data := .seq (preL zs xs (i + 1)).toArray } : Obj)).update S (Obj.mapSeq fun _ => #[Value.ref h'.objs.size])).update S (Obj.mapSeq fun _ => #[Value.ref h'.objs.size])).get? h'.objs.size = some ({ cls := .type "list", data := .seq (preL zs xs (i + 1)).toArray } : Obj) := by
      rw [Heap.get?_update_other _ _ hn.symm, Heap.get?_update_other _ _ hn.symm]
      exact Heap.get?_push_size _ rfl
    have hIlt : I < h'.objs.size := by
      obtain ⟨o, e, _⟩ := hst'.1
      exact Heap.lt_size e
    refine wpAny_updateSeq hS2 rfl (wpAny_pure ⟨plainId_quiet F.plain_sum_loop _, ih (i + 1) _ h'.objs.size _ 0 (by omega) hlt (W.frame _ _ _ hst' fun b hb o e => ?_) (Heap.get?_update_self _ hS2 rfl) hnew (Nat.ne_of_gt hIlt) hn (fun j a hj ha => ?_) fun h'' tk'' T' c' k2 hT2 e1 e2 => ?_⟩)
    · rcases List.mem_cons.mp hb with z | z
      · exact keep b o (by rw [z]; exact hSI.symm) e
      · rw [List.mem_singleton.mp z] at e ⊢
        exact keep ax o hSa.symm e
    · obtain ⟨⟨n2, q⟩, q1, q2⟩ := hL j a (by omega) ha
      exact ⟨⟨n2, keep a _ q2 (kk a _ q1 q)⟩, q1, q2⟩
    · refine hR h'' tk'' T' c' (fun b o h1 h2 e => k2 b o h1 h2 (keep b o h2 (kk b o h1 e))) hT2 (fun z => absurd z (by omega)) fun _ => ?_
      have no : ∀ o, h'.get? h'.objs.size ≠ some o := fun o e => absurd (Heap.lt_size e) (Nat.lt_irrefl _)
      by_cases z : i + 1 = as.length
      · rw [e1 z]
        cases q : s.heap.get? h'.objs.size with
        | none => rfl
        | some o => exact absurd (kk _ o (Nat.ne_of_gt hIlt) q) (no o)
      · have f := e2 (by omega)
        cases q : s.heap.get? T' with
        | none => rfl
        | some o =>
          exfalso
          by_cases zS : T' = S
          · rw [zS] at f
            have := (Heap.get?_update_self (Obj.mapSeq fun _ => #[Value.ref h'.objs.size]) hS2 rfl).symm.trans f
            cases this
          · by_cases zI : T' = I
            · obtain ⟨oI, eI, _⟩ := hst'.1
              rw [zI] at f
              have := (keep I oI hSI.symm eI).symm.trans f
              cases this
            · have := (keep T' o zS (kk T' o zI q)).symm.trans f
              cases this
end
theorem vals_refsL : ∀ {as : List Addr} {its : List Value}, Vals (as.map V.ref) its → its = as.map Value.ref
  | [], _, r => by cases r; rfl
  | a :: t, _, r => by
    cases r with
    | cons rx rr =>
      cases rx
      rw [vals_refsL rr]
      rfl
section
variable {X : Cx}
/-- sum(a, b): a a list of lists, b a list -/
def rSumL : List V → Hp → VK → Prop := fun vs H Q => ∃ (a b : Addr) (as : List Addr) (zs : List V) (ls : List (List V)), vs = [.ref a, .ref b] ∧ H a = some (.lst (as.map V.ref)) ∧ H b = some (.lst zs) ∧ as.length = ls.length ∧ (∀ (i : Nat) (c : Addr) (l : List V), as[i]? = some c → ls[i]? = some l → H c = some (.lst l)) ∧
  zs.length + ls.flatten.length ≤ sizeLine ∧ (as = [] → Q (.ref b) H) ∧ (as ≠ [] → ∀ p, H p = none → Q (.ref p) (upd H p (.lst (zs ++ ls.flatten))))
theorem cr_sumL (hc : X.calm = true) : CallR X (.builtin "sum") rSumL := by
  intro pins s σ H vs us Q I r h
  obtain ⟨a, b, as, zs, ls, rfl, ha, hb, hlen, hl, hz, q0, q1⟩ := h
  cases r with
  | cons rx rr =>
    cases rr with
    | cons ry rr =>
      cases rr
      cases rx
      cases ry
      obtain ⟨z1, its, n, r1, hl1, e1⟩ := I.lstM ha
      obtain ⟨z2, its2, n2, r2, hl2, e2⟩ := I.lstM hb
      obtain rfl := vals_refsL r1
      have ch : ∀ j : Nat, ∃ its : List Value, ∀ (c : Addr) (l : List V), as[j]? = some c → ls[j]? = some l → Vals l its ∧ ∃ m, IsL s.heap c its.toArray m := fun j => by
        cases q1 : as[j]? with
        | none => exact ⟨[], fun c l z => nomatch z⟩
        | some c =>
          cases q2 : ls[j]? with
          | none => exact ⟨[], fun c l _ z => nomatch z⟩
          | some l =>
            obtain ⟨_, its, m, r, _, e⟩ := I.lstM (hl j c l q1 q2)
            exact ⟨its, fun c' l' z1 z2 => by cases z1; cases z2; exact ⟨r, m, e⟩⟩
      obtain ⟨xs, hxs⟩ := Classical.axiomOfChoice ch
      have hv : ∀ i, i ≤ as.length → Vals (zs ++ (ls.take i).flatten) (preL its2 xs i) := by
        intro i
        induction i with
        | zero => intro _; rw [List.take_zero, List.flatten_nil, List.append_nil]; exact r2
        | succ i ih =>
          intro hi
          have h1 : i < as.length := hi
          have h2 : i < ls.length := by omega
          obtain ⟨rv, _⟩ := hxs i as[i] ls[i] (List.getElem?_eq_getElem h1) (List.getElem?_eq_getElem h2)
          have : (ls.take (i + 1)).flatten = (ls.take i).flatten ++ ls[i] := by
            rw [List.take_add_one, List.getElem?_eq_getElem h2, List.flatten_append]
            simp
          rw [this, ← List.append_assoc]
          exact (ih (by omega)).append rv
      have hvn := hv as.length (Nat.le_refl _)
      rw [List.take_of_length_le (by omega)] at hvn
      have hz' : (preL its2 xs as.length).length ≤ sizeLine := by
        rw [← hvn.length, List.length_append]
        exact hz
      have hla : s.heap.IsList a (as.map Value.ref).toArray := ⟨_, e1, rfl, _, rfl⟩
      have alt : a < s.heap.objs.size := Heap.lt_size e1
      have blt : b < s.heap.objs.size := Heap.lt_size e2
      refine call_function_tree F.kind_sum F.plain_sum F.entry_sum (args_sum2 _ _) ?_
      unfold Builtin.«sum»
      simp only [List.length_cons, List.length_nil]
      rw [if_neg (by decide)]
      refine wpAny_bind (wpAny_of_eq (show Builtin.Builtins.bindParams "sum" ["start"] 0 ⟨[Value.ref b], []⟩ = pure [some (Value.ref b)] from rfl) ?_)
      refine wpAny_bind (wpAny_pyIter_list hla ?_)
      refine wpAny_bind (wpAny_pure ?_)
      have e2' := Heap.get?_push_of_some ({ cls := .type "list_iterator", data := .fields #[.ref a, .int 0 0] } : Obj) e2
      have tb : Shared.TypeIs { s with heap := s.heap.push { cls := .type "list_iterator", data := .fields #[.ref a, .int 0 0] } } (.ref b) "list" := ⟨_, e2', rfl⟩
      simp only [List.forIn_cons, List.forIn_nil]
      refine wpAny_bind (wpAny_bind (wpAny_bind (wpAny_isInstance (T := "list") (b := false) tb sub_l_str ?_)))
      simp only [Bool.false_eq_true, if_false]
      refine wpAny_pure (wpAny_bind (wpAny_bind (wpAny_isInstance (T := "list") (b := false) tb sub_l_byt ?_)))
      simp only [Bool.false_eq_true, if_false]
      refine wpAny_pure (wpAny_bind (wpAny_bind (wpAny_isInstance (T := "list") (b := false) tb sub_l_bya ?_)))
      simp only [Bool.false_eq_true, if_false]
      refine wpAny_pure (wpAny_pure ?_)
      refine wpAny_bind (wpAny_newObj_type ?_)
      have push2 : ∀ c o, s.heap.get? c = some o → ((s.heap.push ({ cls := .type "list_iterator", data := .fields #[.ref a, .int 0 0] } : Obj)).push ({ cls := .type "list", data := .seq #[Value.ref b] } : Obj)).get? c = some o := fun c o e => Heap.get?_push_of_some _ (Heap.get?_push_of_some _ e)
      have szI : (s.heap.push ({ cls := .type "list_iterator", data := .fields #[.ref a, .int 0 0] } : Obj)).objs.size = s.heap.objs.size + 1 := Heap.size_push ..
      have nS1 : (s.heap.push ({ cls := .type "list_iterator", data := .fields #[.ref a, .int 0 0] } : Obj)).objs.size ≠ s.heap.objs.size := by rw [szI]; exact Nat.succ_ne_self _
      have nS2 : ∀ c, c < s.heap.objs.size → c ≠ (s.heap.push ({ cls := .type "list_iterator", data := .fields #[.ref a, .int 0 0] } : Obj)).objs.size := fun c h => by rw [szI]; exact Nat.ne_of_lt (Nat.lt_succ_of_lt h)
      refine wpAny_pure ⟨plainId_quiet F.plain_sum_loop _, sum_loopL (ax := a) (I := s.heap.objs.size) (as := as) (I.ok.hd hc) (Nat.ne_of_lt alt) its2 xs (s.heap.push ({ cls := .type "list_iterator", data := .fields #[.ref a, .int 0 0] } : Obj)).objs.size nS1 (nS2 a alt).symm hz' as.length 0 _ b _ n2 (by omega) (Nat.zero_le _)
        ⟨⟨_, Heap.get?_push_of_some _ (Heap.get?_push_size _ rfl), rfl, rfl⟩, (hla.push _).push _⟩ (Heap.get?_push_size _ rfl) (push2 b _ e2) (Nat.ne_of_lt blt) (nS2 b blt) (fun j c _ hc' => ?_) fun h' tk T' c' k hT e0 en => ?_⟩
      · have h1 : j < as.length := (List.getElem?_eq_some_iff.mp hc').1
        obtain ⟨_, m, em⟩ := hxs j c ls[j] hc' (List.getElem?_eq_getElem (show j < ls.length by omega))
        have := Heap.lt_size em
        exact ⟨⟨m, push2 c _ em⟩, Nat.ne_of_lt this, nS2 c this⟩
      · have kk : ∀ c o, s.heap.get? c = some o → h'.get? c = some o := fun c o e => by
          have := Heap.lt_size e
          exact k c o (Nat.ne_of_lt this) (nS2 c this) (push2 c o e)
        by_cases z : as = []
        · subst z
          rw [e0 rfl]
          exact ⟨.ref b, H, I.kept kk, rfl, q0 rfl⟩
        · have hp : 0 < as.length := List.length_pos_iff.mpr z
          have f : s.heap.get? T' = none := by
            cases q : s.heap.get? T' with
            | none => rfl
            | some o => exact absurd ((push2 T' o q).symm.trans (en hp)) (fun z => nomatch z)
          have fn : H T' = none := I.hok.gone f
          exact ⟨.ref T', _, I.laidN (o := .lst (zs ++ ls.flatten)) kk f fn ⟨by rw [List.length_append]; exact hz, _, _, hvn, hT⟩, rfl, q1 z T' fn⟩
end
end FP
set_option Elab.async false
set_option linter.all false
set_option maxRecDepth 100000
set_option maxHeartbeats 4000000
/-! Which line is done after which. -/
namespace FP
open PySem TL
def passR (r : RowM) : Bool := passL.contains r.word
theorem land_succ (R : List RowM) (k n : Nat) : landM R (k + 1) n = if n < R.length then (match R[n]? with
      | some r => if passL.contains r.word = true then landM R k r.after else some n
      | none => none) else some 0 := rfl
theorem land_mono {R : List RowM} : ∀ {k n m : Nat}, landM R k n = some m → landM R (k + 1) n = some m
  | 0, n, m, h => by cases h
  | k + 1, n, m, h => by
    rw [land_succ] at h ⊢
    split at h
    · rename_i hn
      rw [if_pos hn]
      split at h
      · rename_i r e
        split at h
        · rename_i c
          rw [if_pos c]
          exact land_mono h
        · rename_i c
          rw [if_neg c]
          exact h
      · cases h
    · rename_i hn
      rw [if_neg hn]
      exact h
theorem land_le {R : List RowM} {k k' n m : Nat} (h : landM R k n = some m) (hk : k ≤ k') : landM R k' n = some m := by
  obtain ⟨d, rfl⟩ := Nat.exists_eq_add_of_le hk
  induction d with
  | zero => exact h
  | succ d ih => exact land_mono (ih (Nat.le_add_right _ _))
/-- from line n one comes to line m -/
structure LandP (R : List RowM) (n m : Nat) : Prop where
  le : n ≤ R.length
  to : landM R (R.length + 2 - n) n = some m
section
variable {R : List RowM}
theorem LandP.last : LandP R R.length 0 := by
  refine ⟨Nat.le_refl _, ?_⟩
  rw [show R.length + 2 - R.length = 1 + 1 by omega, land_succ, if_neg (Nat.lt_irrefl _)]
theorem LandP.stop {n : Nat} {r : RowM} (h : R[n]? = some r) (hp : passR r = false) : LandP R n n := by
  have hn : n < R.length := (List.getElem?_eq_some_iff.mp h).1
  refine ⟨by omega, ?_⟩
  rw [show R.length + 2 - n = (R.length + 1 - n) + 1 by omega, land_succ, if_pos hn, h]
  show (if passR r = true then _ else some n) = _
  rw [hp, if_neg Bool.false_ne_true]
theorem LandP.pass {n m : Nat} {r : RowM} (h : R[n]? = some r) (hp : passR r = true) (hlt : n < r.after) (hl : LandP R r.after m) : LandP R n m := by
  have hn : n < R.length := (List.getElem?_eq_some_iff.mp h).1
  refine ⟨by omega, ?_⟩
  rw [show R.length + 2 - n = (R.length + 1 - n) + 1 by omega, land_succ, if_pos hn, h]
  show (if passR r = true then landM R _ r.after else some n) = _
  rw [if_pos hp]
  exact land_le hl.to (by omega)
theorem LandP.back {n : Nat} {r q : RowM} (h : R[n]? = some r) (hp : passR r = true) (hq : R[r.after]? = some q) (hqp : passR q = false) : LandP R n r.after := by
  have hn : n < R.length := (List.getElem?_eq_some_iff.mp h).1
  have hm : r.after < R.length := (List.getElem?_eq_some_iff.mp hq).1
  refine ⟨by omega, ?_⟩
  rw [show R.length + 2 - n = (R.length - n + 1) + 1 by omega, land_succ, if_pos hn, h]
  show (if passR r = true then landM R _ r.after else some n) = _
  rw [if_pos hp, land_succ, if_pos hm, hq]
  show (if passR q = true then _ else some r.after) = _
  rw [hqp, if_neg Bool.false_ne_true]
theorem LandP.run {n m : Nat} (h : LandP R n m) (hl : R.length ≤ 98) : landM R 100 n = some m := land_le h.to (by omega)
end
/-! ### the first line that is done, the rows at the end -/
def firstT : Nat → T → Nat → Nat
  | _, .nil, g => g
  | n, .deed _ _, _ => n
  | n, .one .block cs b r, g => firstT (n + 1 + locN cs) b (firstT (n + 1 + (locN cs + sizeT b) + 1) r g)
  | n, .one _ _ _ _, _ => n
  | n, .two .., _ => n
/-- the line that opens a block n, e behind its end, b the first line of the body with what follows at g, bl with what follows at n -/
def opRow (o : Op) (n e b bl g : Nat) : RowM := match o with
  | .block => ⟨"block", [], n + 1, e⟩
  | .loop => ⟨"loop", [], bl, g⟩
  | .maybe => ⟨"maybe", [], b, g⟩
  | .same x y => ⟨"same", [x, y], b, g⟩
def finT : Nat → T → Nat → List RowM
  | _, .nil, _ => []
  | n, .deed d r, g => ⟨d.word, d.names, firstT (n + 1) r g, 0⟩ :: finT (n + 1) r g
  | n, .one o cs b r, g =>
    opRow o n (n + 1 + (locN cs + sizeT b) + 1) (firstT (n + 1 + locN cs) b (firstT (n + 1 + (locN cs + sizeT b) + 1) r g)) (firstT (n + 1 + locN cs) b n) (firstT (n + 1 + (locN cs + sizeT b) + 1) r g) ::
    (locRows (n + 1) cs ++ finT (n + 1 + locN cs) b (if o = .loop then n else firstT (n + 1 + (locN cs + sizeT b) + 1) r g) ++
      ⟨"end", [], if o = .loop then n else n + 1 + (locN cs + sizeT b) + 1, 0⟩ :: finT (n + 1 + (locN cs + sizeT b) + 1) r g)
  | n, .two o cs b cs' b' r, g =>
    ⟨o.word, o.names, firstT (n + 1 + locN cs) b (firstT (n + 1 + (locN cs + sizeT b) + 1 + (locN cs' + sizeT b') + 1) r g), firstT (n + 1 + (locN cs + sizeT b) + 1 + locN cs') b' (firstT (n + 1 + (locN cs + sizeT b) + 1 + (locN cs' + sizeT b') + 1) r g)⟩ ::
    (locRows (n + 1) cs ++ finT (n + 1 + locN cs) b (firstT (n + 1 + (locN cs + sizeT b) + 1 + (locN cs' + sizeT b') + 1) r g) ++
      ⟨"else", [], n + 1 + (locN cs + sizeT b) + 1 + (locN cs' + sizeT b'), 0⟩ :: (locRows (n + 1 + (locN cs + sizeT b) + 1) cs' ++ finT (n + 1 + (locN cs + sizeT b) + 1 + locN cs') b' (firstT (n + 1 + (locN cs + sizeT b) + 1 + (locN cs' + sizeT b') + 1) r g) ++
        ⟨"end", [], n + 1 + (locN cs + sizeT b) + 1 + (locN cs' + sizeT b') + 1, 0⟩ :: finT (n + 1 + (locN cs + sizeT b) + 1 + (locN cs' + sizeT b') + 1) r g))
/-- l stands in R from n on -/
def AtR (R : List RowM) (n : Nat) (l : List RowM) : Prop := ∃ pre post, R = pre ++ (l ++ post) ∧ pre.length = n
theorem AtR.app {R : List RowM} {n : Nat} {l m : List RowM} (h : AtR R n (l ++ m)) : AtR R n l ∧ AtR R (n + l.length) m := by
  obtain ⟨pre, post, rfl, rfl⟩ := h
  exact ⟨⟨pre, m ++ post, by rw [List.append_assoc], rfl⟩, ⟨pre ++ l, post, by simp only [List.append_assoc], by rw [List.length_append]⟩⟩
theorem AtR.cons {R : List RowM} {n : Nat} {r : RowM} {m : List RowM} (h : AtR R n (r :: m)) : R[n]? = some r ∧ AtR R (n + 1) m := by
  have h2 : AtR R n ([r] ++ m) := h
  refine ⟨?_, h2.app.2⟩
  obtain ⟨pre, post, rfl, rfl⟩ := h
  rw [List.getElem?_append_right (Nat.le_refl _), Nat.sub_self]
  rfl
theorem AtR.len {R : List RowM} {n : Nat} {l : List RowM} (h : AtR R n l) : n + l.length ≤ R.length := by
  obtain ⟨pre, post, rfl, rfl⟩ := h
  simp only [List.length_append]
  omega
theorem pass_deed (d : Deed) (a b : Nat) : passR ⟨d.word, d.names, a, b⟩ = false := match d with
  | .input _ => (by decide : passL.contains ("input" : Str) = false)
  | .copy _ _ => (by decide : passL.contains ("copy" : Str) = false)
  | .point _ _ => (by decide : passL.contains ("point" : Str) = false)
  | .load _ _ => (by decide : passL.contains ("load" : Str) = false)
  | .store _ _ => (by decide : passL.contains ("store" : Str) = false)
  | .use _ => (by decide : passL.contains ("use" : Str) = false)
  | .call _ => (by decide : passL.contains ("call" : Str) = false)
theorem pass_op (o : Op) (a b : Nat) : passR ⟨o.word, o.names, a, b⟩ = decide (o = .block) := match o with
  | .block => (by decide : passL.contains ("block" : Str) = true)
  | .loop => (by decide : passL.contains ("loop" : Str) = false)
  | .maybe => (by decide : passL.contains ("maybe" : Str) = false)
  | .same a b => (by decide : passL.contains ("same" : Str) = false)
theorem pass_end (a b : Nat) (ns : List Str) : passR ⟨"end", ns, a, b⟩ = true := (by decide : passL.contains ("end" : Str) = true)
theorem pass_else (a b : Nat) (ns : List Str) : passR ⟨"else", ns, a, b⟩ = true := (by decide : passL.contains ("else" : Str) = true)
theorem pass_local (a b : Nat) (ns : List Str) : passR ⟨"local", ns, a, b⟩ = true := (by decide : passL.contains ("local" : Str) = true)
theorem pass_text (a b : Nat) (ns : List Str) : passR ⟨"", ns, a, b⟩ = false := (by decide : passL.contains ("" : Str) = false)
theorem land_loc {R : List RowM} {n m : Nat} {cs : List Str} (h : AtR R n (locRows n cs)) (hl : LandP R (n + locN cs) m) : LandP R n m := by
  unfold locRows at h
  unfold locN at hl
  by_cases c : cs = []
  · rw [if_pos c] at hl
    exact hl
  · rw [if_neg c] at h hl
    exact .pass h.cons.1 (pass_local _ _ _) (Nat.lt_succ_self n) hl
/-- sides are sides -/
def ok2 : T → Prop
  | .nil => True
  | .deed _ r => ok2 r
  | .one _ _ b r => ok2 b ∧ ok2 r
  | .two o _ b _ b' r => o.two = true ∧ ok2 b ∧ ok2 b' ∧ ok2 r
theorem ok2_wf : ∀ (t : T) (seen : List Str) (d : Nat), wfT seen d t → ok2 t
  | .nil, _, _, _ => trivial
  | .deed k r, seen, d, wf => by
    have wf' : (∀ x ∈ k.names, x ∈ seen) ∧ wfT seen d r := by cases d <;> exact wf
    exact ok2_wf r seen d wf'.2
  | .one _ _ _ _, _, 0, wf => wf.elim
  | .one o cs b r, seen, d + 1, wf => ⟨ok2_wf b _ d wf.2.1, ok2_wf r _ (d + 1) wf.2.2⟩
  | .two _ _ _ _ _ _, _, 0, wf => wf.elim
  | .two o cs b cs' b' r, seen, d + 1, wf => ⟨wf.1, ok2_wf b _ d wf.2.2.1, ok2_wf b' _ d wf.2.2.2.1, ok2_wf r _ (d + 1) wf.2.2.2.2⟩
/-- the parts of what stands in R -/
theorem at_one {R : List RowM} {n : Nat} {o : Op} {cs : List Str} {b r : T} (h : AtR R n (rowsT n (.one o cs b r))) :
    R[n]? = some ⟨o.word, o.names, n + 1, n + 1 + (locN cs + sizeT b) + 1⟩ ∧ AtR R (n + 1) (locRows (n + 1) cs) ∧ AtR R (n + 1 + locN cs) (rowsT (n + 1 + locN cs) b) ∧
      R[n + 1 + (locN cs + sizeT b)]? = some ⟨"end", [], if o = .loop then n else n + 1 + (locN cs + sizeT b) + 1, 0⟩ ∧ AtR R (n + 1 + (locN cs + sizeT b) + 1) (rowsT (n + 1 + (locN cs + sizeT b) + 1) r) := by
  rw [rowsT] at h
  obtain ⟨h0, h1⟩ := h.cons
  rw [List.append_assoc] at h1
  obtain ⟨h2, h3⟩ := h1.app
  rw [locRows_len] at h3
  obtain ⟨h4, h5⟩ := h3.app
  rw [rows_len, Nat.add_assoc (n + 1)] at h5
  obtain ⟨h6, h7⟩ := h5.cons
  exact ⟨h0, h2, h4, h6, h7⟩
theorem at_two {R : List RowM} {n : Nat} {o : Op} {cs cs' : List Str} {b b' r : T} (h : AtR R n (rowsT n (.two o cs b cs' b' r))) :
    R[n]? = some ⟨o.word, o.names, n + 1, n + 1 + (locN cs + sizeT b) + 1⟩ ∧ AtR R (n + 1) (locRows (n + 1) cs) ∧ AtR R (n + 1 + locN cs) (rowsT (n + 1 + locN cs) b) ∧
      R[n + 1 + (locN cs + sizeT b)]? = some ⟨"else", [], n + 1 + (locN cs + sizeT b) + 1 + (locN cs' + sizeT b'), 0⟩ ∧ AtR R (n + 1 + (locN cs + sizeT b) + 1) (locRows (n + 1 + (locN cs + sizeT b) + 1) cs') ∧
      AtR R (n + 1 + (locN cs + sizeT b) + 1 + locN cs') (rowsT (n + 1 + (locN cs + sizeT b) + 1 + locN cs') b') ∧ R[n + 1 + (locN cs + sizeT b) + 1 + (locN cs' + sizeT b')]? = some ⟨"end", [], n + 1 + (locN cs + sizeT b) + 1 + (locN cs' + sizeT b') + 1, 0⟩ ∧
      AtR R (n + 1 + (locN cs + sizeT b) + 1 + (locN cs' + sizeT b') + 1) (rowsT (n + 1 + (locN cs + sizeT b) + 1 + (locN cs' + sizeT b') + 1) r) := by
  rw [rowsT] at h
  obtain ⟨h0, h1⟩ := h.cons
  rw [List.append_assoc] at h1
  obtain ⟨h2, h3⟩ := h1.app
  rw [locRows_len] at h3
  obtain ⟨h4, h5⟩ := h3.app
  rw [rows_len, Nat.add_assoc (n + 1)] at h5
  obtain ⟨h6, h7⟩ := h5.cons
  rw [List.append_assoc] at h7
  obtain ⟨h8, h9⟩ := h7.app
  rw [locRows_len] at h9
  obtain ⟨h10, h11⟩ := h9.app
  rw [rows_len, Nat.add_assoc (n + 1 + (locN cs + sizeT b) + 1)] at h11
  obtain ⟨h12, h13⟩ := h11.cons
  exact ⟨h0, h2, h4, h6, h8, h10, h12, h13⟩
/-- from a body's beginning one comes to its first line -/
theorem land_T {R : List RowM} : ∀ (t : T) (n g : Nat), ok2 t → AtR R n (rowsT n t) → LandP R (n + sizeT t) g → LandP R n (firstT n t g)
  | .nil, n, g, _, _, hl => hl
  | .deed d r, n, g, _, h, hl => by
    rw [rowsT] at h
    exact .stop h.cons.1 (pass_deed d _ _)
  | .one o cs b r, n, g, ok, h, hl => by
    obtain ⟨h0, h1, h2, h3, h4⟩ := at_one h
    cases o with
    | block =>
      rw [sizeT] at hl
      have hr := land_T r (n + 1 + (locN cs + sizeT b) + 1) g ok.2 h4 (by rw [show n + 1 + (locN cs + sizeT b) + 1 + sizeT r = n + (1 + (locN cs + sizeT b) + 1 + sizeT r) by omega]; exact hl)
      rw [if_neg (show ¬ Op.block = .loop by intro z; cases z)] at h3
      have he : LandP R (n + 1 + (locN cs + sizeT b)) (firstT (n + 1 + (locN cs + sizeT b) + 1) r g) := .pass h3 (pass_end _ _ _) (Nat.lt_succ_self _) hr
      have hb := land_T b (n + 1 + locN cs) _ ok.1 h2 (by rw [Nat.add_assoc (n + 1)]; exact he)
      exact .pass h0 (pass_op .block _ _) (Nat.lt_succ_self n) (land_loc h1 hb)
    | loop => exact .stop h0 (pass_op .loop _ _)
    | maybe => exact .stop h0 (pass_op .maybe _ _)
    | same x y => exact .stop h0 (pass_op (.same x y) _ _)
  | .two o cs b cs' b' r, n, g, ok, h, hl => by
    obtain ⟨h0, _⟩ := at_two h
    cases o with
    | block => cases ok.1
    | loop => cases ok.1
    | maybe => exact .stop h0 (pass_op .maybe _ _)
    | same x y => exact .stop h0 (pass_op (.same x y) _ _)
/-! ### find_ways -/
def wayRow (R : List RowM) (r : RowM) : RowM := if passR r = true then r else { r with after := (landM R 100 r.after).getD 0, other := (landM R 100 r.other).getD 0 }
/-- as far as one lands, two sheets of rows are the same -/
structure Agree (R S : List RowM) : Prop where
  len : R.length = S.length
  at_ : ∀ (i : Nat) (r : RowM), R[i]? = some r → ∃ s, S[i]? = some s ∧ s.word = r.word ∧ (passR r = true → s = r)
theorem Agree.land {R S : List RowM} (A : Agree R S) : ∀ (k n : Nat), landM S k n = landM R k n
  | 0, _ => rfl
  | k + 1, n => by
    rw [land_succ, land_succ, A.len]
    by_cases hn : n < S.length
    · rw [if_pos hn, if_pos hn]
      have hr : n < R.length := by rw [A.len]; exact hn
      obtain ⟨s, hs, hw, hp⟩ := A.at_ n _ (List.getElem?_eq_getElem hr)
      rw [hs, List.getElem?_eq_getElem hr]
      dsimp only
      rw [hw]
      by_cases c : passL.contains R[n].word = true
      · rw [if_pos c, if_pos c, hp c]
        exact A.land k _
      · rw [if_neg c, if_neg c]
    · rw [if_neg hn, if_neg hn]
theorem ways_map {R : List RowM} (h : ∀ (i : Nat) (r : RowM), R[i]? = some r → passR r = false → (landM R 100 r.after).isSome = true ∧ (landM R 100 r.other).isSome = true) : ∀ (k i : Nat), i + k = R.length →
    waysM 100 k i ((R.take i).map (wayRow R) ++ R.drop i) = some (R.map (wayRow R)) := by
  have ag : ∀ (i : Nat), Agree R ((R.take i).map (wayRow R) ++ R.drop i) := fun i => by
    refine ⟨by rw [List.length_append, List.length_map, List.length_take, List.length_drop]; omega, fun j r hj => ?_⟩
    have hjl := (List.getElem?_eq_some_iff.mp hj).1
    by_cases c : j < i
    · refine ⟨wayRow R r, ?_, ?_, ?_⟩
      · rw [List.getElem?_append_left (by rw [List.length_map, List.length_take]; omega), List.getElem?_map, List.getElem?_take, if_pos c, hj]
        rfl
      · unfold wayRow; split <;> rfl
      · intro hp; unfold wayRow; rw [if_pos hp]
    · refine ⟨r, ?_, rfl, fun _ => rfl⟩
      rw [List.getElem?_append_right (by rw [List.length_map, List.length_take]; omega), List.length_map, List.length_take, List.getElem?_drop, ← hj]
      congr 1
      omega
  intro k
  induction k with
  | zero =>
    intro i hi
    have : i = R.length := by omega
    subst this
    show some _ = _
    rw [List.take_length, List.drop_length, List.append_nil]
  | succ k ih =>
    intro i hi
    have hil : i < R.length := by omega
    have hlen : ((R.take i).map (wayRow R)).length = i := by rw [List.length_map, List.length_take]; omega
    have ed : R.drop i = R[i] :: R.drop (i + 1) := List.drop_eq_getElem_cons hil
    have eRi := List.getElem?_eq_getElem hil
    have et : R.take (i + 1) = R.take i ++ [R[i]] := by rw [List.take_add_one, eRi]; rfl
    have eS : ((R.take i).map (wayRow R) ++ R.drop i)[i]? = some R[i] := by
      rw [ed, List.getElem?_append_right (by omega), hlen, Nat.sub_self]
      rfl
    have key : wayM 100 ((R.take i).map (wayRow R) ++ R.drop i) i = some ((R.take (i + 1)).map (wayRow R) ++ R.drop (i + 1)) := by
      unfold wayM
      rw [eS]
      dsimp only
      by_cases c : passL.contains R[i].word = true
      · rw [if_pos c, et, List.map_append, List.append_assoc, ed]
        show some (_ ++ R[i] :: _) = some (_ ++ ([wayRow R R[i]] ++ _))
        have : wayRow R R[i] = R[i] := by unfold wayRow; rw [if_pos (show passR R[i] = true from c)]
        rw [this]
        rfl
      · rw [if_neg c]
        have cp : passR R[i] = false := by
          cases e : passR R[i] with
          | false => rfl
          | true => exact absurd e c
        obtain ⟨ha, ho⟩ := h i R[i] eRi cp
        rw [(ag i).land 100]
        obtain ⟨a, ea⟩ := Option.isSome_iff_exists.mp ha
        obtain ⟨o, eo⟩ := Option.isSome_iff_exists.mp ho
        rw [ea]
        show (landM (((R.take i).map (wayRow R) ++ R.drop i).set i { R[i] with after := a }) 100 R[i].other).map _ = _
        have ag2 : Agree R (((R.take i).map (wayRow R) ++ R.drop i).set i { R[i] with after := a }) := by
          refine ⟨by rw [List.length_set]; exact (ag i).len, fun j r hj => ?_⟩
          by_cases cj : j = i
          · subst cj
            rw [eRi] at hj
            cases hj
            exact ⟨_, List.getElem?_set_self (by rw [← (ag j).len]; exact hil), rfl, fun z => by rw [cp] at z; cases z⟩
          · rw [List.getElem?_set_ne (Ne.symm cj)]
            exact (ag i).at_ j r hj
        rw [ag2.land 100, eo]
        show some (((R.take i).map (wayRow R) ++ R.drop i).set i _) = _
        rw [ed, List.set_append_right _ _ (by omega), hlen, Nat.sub_self, et, List.map_append, List.append_assoc]
        have : wayRow R R[i] = { R[i] with after := a, other := o } := by
          unfold wayRow
          rw [cp, if_neg Bool.false_ne_true, ea, eo]
          rfl
        show some (_ ++ _ :: _) = some (_ ++ ([wayRow R R[i]] ++ _))
        rw [this]
        rfl
    show (wayM 100 _ i).bind (fun r => waysM 100 k (i + 1) r) = _
    rw [key]
    exact ih (i + 1) (by omega)
end FP
set_option Elab.async false
set_option linter.all false
set_option maxRecDepth 100000
set_option maxHeartbeats 4000000
namespace FP
open PySem TL
def Fine (R : List RowM) (r : RowM) : Prop := passR r = false → (landM R 100 r.after).isSome = true ∧ (landM R 100 r.other).isSome = true
theorem way_pass {R : List RowM} {r : RowM} (h : passR r = true) : wayRow R r = r := by unfold wayRow; rw [if_pos h]
theorem way_ok {R : List RowM} {r : RowM} {a o : Nat} (h : passR r = false) (ha : landM R 100 r.after = some a) (ho : landM R 100 r.other = some o) : wayRow R r = ⟨r.word, r.names, a, o⟩ := by
  unfold wayRow
  rw [h, if_neg Bool.false_ne_true, ha, ho]
  rfl
theorem fine_pass {R : List RowM} {r : RowM} (h : passR r = true) : Fine R r := fun z => by rw [h] at z; cases z
theorem fine_ok {R : List RowM} {r : RowM} {a o : Nat} (ha : landM R 100 r.after = some a) (ho : landM R 100 r.other = some o) : Fine R r := fun _ => by rw [ha, ho]; exact ⟨rfl, rfl⟩
theorem fin_loc (R : List RowM) (n : Nat) (cs : List Str) : (locRows n cs).map (wayRow R) = locRows n cs ∧ ∀ r ∈ locRows n cs, Fine R r := by
  unfold locRows
  split
  · exact ⟨rfl, fun r h => by cases h⟩
  · refine ⟨?_, fun r h => by rw [List.mem_singleton.mp h]; exact fine_pass (pass_local _ _ _)⟩
    rw [List.map_singleton, way_pass (pass_local _ _ _)]
theorem fin_T {R : List RowM} (hR : R.length ≤ 98) (h0 : landM R 100 0 = some 0) : ∀ (t : T) (n g : Nat), ok2 t → AtR R n (rowsT n t) → LandP R (n + sizeT t) g →
    (rowsT n t).map (wayRow R) = finT n t g ∧ ∀ r ∈ rowsT n t, Fine R r
  | .nil, n, g, _, _, _ => ⟨rfl, fun r h => by cases h⟩
  | .deed d r, n, g, ok, h, hl => by
    rw [rowsT] at h ⊢
    rw [sizeT] at hl
    obtain ⟨h1, h2⟩ := h.cons
    have hl' : LandP R (n + 1 + sizeT r) g := by rw [Nat.add_assoc]; exact hl
    obtain ⟨e, f⟩ := fin_T hR h0 r (n + 1) g ok h2 hl'
    have ha := (land_T r (n + 1) g ok h2 hl').run hR
    refine ⟨?_, fun x hx => ?_⟩
    · rw [List.map_cons, e, finT, way_ok (pass_deed d _ _) ha h0]
    · rcases List.mem_cons.mp hx with z | z
      · rw [z]; exact fine_ok ha h0
      · exact f x z
  | .one o cs b r, n, g, ok, h, hl => by
    obtain ⟨q0, q1, q2, q3, q4⟩ := at_one h
    rw [sizeT] at hl
    have hl' : LandP R (n + 1 + (locN cs + sizeT b) + 1 + sizeT r) g := by rw [show n + 1 + (locN cs + sizeT b) + 1 + sizeT r = n + (1 + (locN cs + sizeT b) + 1 + sizeT r) by omega]; exact hl
    have hr := land_T r (n + 1 + (locN cs + sizeT b) + 1) g ok.2 q4 hl'
    obtain ⟨er, fr⟩ := fin_T hR h0 r (n + 1 + (locN cs + sizeT b) + 1) g ok.2 q4 hl'
    -- the line that closes, and the body
    have hend : LandP R (n + 1 + (locN cs + sizeT b)) (if o = .loop then n else firstT (n + 1 + (locN cs + sizeT b) + 1) r g) := by
      by_cases c : o = .loop
      · subst c
        rw [if_pos rfl] at q3 ⊢
        exact .back q3 (pass_end _ _ _) q0 (pass_op .loop _ _)
      · rw [if_neg c] at q3 ⊢
        exact .pass q3 (pass_end _ _ _) (Nat.lt_succ_self _) hr
    have hend' : LandP R (n + 1 + locN cs + sizeT b) (if o = .loop then n else firstT (n + 1 + (locN cs + sizeT b) + 1) r g) := by rw [Nat.add_assoc (n + 1)]; exact hend
    obtain ⟨eb, fb⟩ := fin_T hR h0 b (n + 1 + locN cs) _ ok.1 q2 hend'
    have hb := land_loc q1 (land_T b (n + 1 + locN cs) _ ok.1 q2 hend')
    obtain ⟨el, fl⟩ := fin_loc R (n + 1) cs
    have top : wayRow R ⟨o.word, o.names, n + 1, n + 1 + (locN cs + sizeT b) + 1⟩ = opRow o n (n + 1 + (locN cs + sizeT b) + 1) (firstT (n + 1 + locN cs) b (firstT (n + 1 + (locN cs + sizeT b) + 1) r g)) (firstT (n + 1 + locN cs) b n) (firstT (n + 1 + (locN cs + sizeT b) + 1) r g) ∧ Fine R ⟨o.word, o.names, n + 1, n + 1 + (locN cs + sizeT b) + 1⟩ := by
      cases o with
      | block => exact ⟨way_pass (pass_op .block _ _), fine_pass (pass_op .block _ _)⟩
      | loop =>
        rw [if_pos rfl] at hb
        exact ⟨way_ok (pass_op .loop _ _) (hb.run hR) (hr.run hR), fine_ok (hb.run hR) (hr.run hR)⟩
      | maybe =>
        rw [if_neg (by intro z; cases z)] at hb
        exact ⟨way_ok (pass_op .maybe _ _) (hb.run hR) (hr.run hR), fine_ok (hb.run hR) (hr.run hR)⟩
      | same x y =>
        rw [if_neg (by intro z; cases z)] at hb
        exact ⟨way_ok (pass_op (.same x y) _ _) (hb.run hR) (hr.run hR), fine_ok (hb.run hR) (hr.run hR)⟩
    rw [rowsT, finT]
    refine ⟨?_, fun x hx => ?_⟩
    · rw [List.map_cons, top.1, List.map_append, List.map_append, List.map_cons, el, eb, er, way_pass (pass_end _ _ _)]
    · rcases List.mem_cons.mp hx with z | z
      · rw [z]; exact top.2
      rcases List.mem_append.mp z with z | z
      · rcases List.mem_append.mp z with z | z
        · exact fl x z
        · exact fb x z
      rcases List.mem_cons.mp z with z | z
      · rw [z]; exact fine_pass (pass_end _ _ _)
      · exact fr x z
  | .two o cs b cs' b' r, n, g, ok, h, hl => by
    obtain ⟨q0, q1, q2, q3, q4, q5, q6, q7⟩ := at_two h
    obtain ⟨ok0, ok1, ok1', ok3⟩ := ok
    rw [sizeT] at hl
    have hl' : LandP R (n + 1 + (locN cs + sizeT b) + 1 + (locN cs' + sizeT b') + 1 + sizeT r) g := by
      rw [show n + 1 + (locN cs + sizeT b) + 1 + (locN cs' + sizeT b') + 1 + sizeT r = n + (1 + (locN cs + sizeT b) + 1 + (locN cs' + sizeT b') + 1 + sizeT r) by omega]; exact hl
    have hr := land_T r _ g ok3 q7 hl'
    obtain ⟨er, fr⟩ := fin_T hR h0 r _ g ok3 q7 hl'
    have hend : LandP R (n + 1 + (locN cs + sizeT b) + 1 + (locN cs' + sizeT b')) (firstT (n + 1 + (locN cs + sizeT b) + 1 + (locN cs' + sizeT b') + 1) r g) := .pass q6 (pass_end _ _ _) (Nat.lt_succ_self _) hr
    have helse : LandP R (n + 1 + (locN cs + sizeT b)) (firstT (n + 1 + (locN cs + sizeT b) + 1 + (locN cs' + sizeT b') + 1) r g) := .pass q3 (pass_else _ _ _) (by show n + 1 + (locN cs + sizeT b) < n + 1 + (locN cs + sizeT b) + 1 + (locN cs' + sizeT b'); omega) hend
    have helse' : LandP R (n + 1 + locN cs + sizeT b) (firstT (n + 1 + (locN cs + sizeT b) + 1 + (locN cs' + sizeT b') + 1) r g) := by rw [Nat.add_assoc (n + 1)]; exact helse
    have hend' : LandP R (n + 1 + (locN cs + sizeT b) + 1 + locN cs' + sizeT b') (firstT (n + 1 + (locN cs + sizeT b) + 1 + (locN cs' + sizeT b') + 1) r g) := by rw [Nat.add_assoc (n + 1 + (locN cs + sizeT b) + 1)]; exact hend
    obtain ⟨eb, fb⟩ := fin_T hR h0 b (n + 1 + locN cs) _ ok1 q2 helse'
    obtain ⟨eb', fb'⟩ := fin_T hR h0 b' _ _ ok1' q5 hend'
    have hb := land_loc q1 (land_T b (n + 1 + locN cs) _ ok1 q2 helse')
    have hb' := land_loc q4 (land_T b' _ _ ok1' q5 hend')
    obtain ⟨el, fl⟩ := fin_loc R (n + 1) cs
    obtain ⟨el', fl'⟩ := fin_loc R (n + 1 + (locN cs + sizeT b) + 1) cs'
    have np : passR ⟨o.word, o.names, n + 1, n + 1 + (locN cs + sizeT b) + 1⟩ = false := by
      rw [pass_op]
      cases o with
      | block => cases ok0
      | loop => cases ok0
      | maybe => rfl
      | same x y => exact decide_eq_false (by intro z; cases z)
    rw [rowsT, finT]
    refine ⟨?_, fun x hx => ?_⟩
    · rw [List.map_cons, way_ok np (hb.run hR) (hb'.run hR), List.map_append, List.map_append, List.map_cons, List.map_append, List.map_append, List.map_cons, el, eb, el', eb', er, way_pass (pass_end _ _ _), way_pass (pass_else _ _ _)]
    · rcases List.mem_cons.mp hx with z | z
      · rw [z]; exact fine_ok (hb.run hR) (hb'.run hR)
      rcases List.mem_append.mp z with z | z
      · rcases List.mem_append.mp z with z | z
        · exact fl x z
        · exact fb x z
      rcases List.mem_cons.mp z with z | z
      · rw [z]; exact fine_pass (pass_else _ _ _)
      rcases List.mem_append.mp z with z | z
      · rcases List.mem_append.mp z with z | z
        · exact fl' x z
        · exact fb' x z
      rcases List.mem_cons.mp z with z | z
      · rw [z]; exact fine_pass (pass_end _ _ _)
      · exact fr x z
/-- the rows of a program, at the end -/
def rowsP (cs : List Str) (t : T) : List RowM := ⟨"", [], firstT (1 + locN cs) t 0, 0⟩ :: (locRows 1 cs ++ finT (1 + locN cs) t 0)
def sheetP (cs : List Str) (t : T) : ShM := ⟨rowsP cs t, homesP cs t, aroundP cs t, [0]⟩
theorem at_self (pre l : List RowM) : AtR (pre ++ l) pre.length l := ⟨pre, [], by rw [List.append_nil], rfl⟩
theorem read_P {cs : List Str} {t : T} {most : Nat} (W : WfP cs t) (hm : sizeP cs t ≤ most) (h90 : sizeP cs t ≤ 90) : readM (textP cs t) most = some (sheetP cs t) := by
  rw [readM_P W hm]
  have ok := ok2_wf t cs 5 W.wf
  have hlen : (rows0 cs t).length = 1 + sizeP cs t := rows0_len cs t
  have hR : (rows0 cs t).length ≤ 98 := by rw [hlen]; omega
  have r0 : (rows0 cs t)[0]? = some ⟨"", [], 1, 0⟩ := rfl
  have h0 : landM (rows0 cs t) 100 0 = some 0 := (LandP.stop r0 (pass_text _ _ _)).run hR
  have hat : AtR (rows0 cs t) 1 (locRows 1 cs ++ rowsT (1 + locN cs) t) := at_self [⟨"", [], 1, 0⟩] _
  obtain ⟨a1, a2⟩ := hat.app
  rw [locRows_len] at a2
  have hlast : LandP (rows0 cs t) (1 + locN cs + sizeT t) 0 := by
    have := LandP.last (R := rows0 cs t)
    rw [hlen] at this
    unfold sizeP at this
    rw [Nat.add_assoc]
    exact this
  obtain ⟨e, f⟩ := fin_T hR h0 t (1 + locN cs) 0 ok a2 hlast
  have hfirst := (land_loc a1 (land_T t (1 + locN cs) 0 ok a2 hlast)).run hR
  obtain ⟨el, fl⟩ := fin_loc (rows0 cs t) 1 cs
  have fine : ∀ r ∈ rows0 cs t, Fine (rows0 cs t) r := fun r hr => by
    rcases List.mem_cons.mp hr with z | z
    · rw [z]; exact fine_ok hfirst h0
    rcases List.mem_append.mp z with z | z
    · exact fl r z
    · exact f r z
  have hw := ways_map (R := rows0 cs t) (fun i r hi hp => fine r (List.mem_of_getElem? hi) hp) (rows0 cs t).length 0 (by omega)
  rw [List.take_zero, List.map_nil, List.nil_append, List.drop_zero, hlen] at hw
  rw [hw]
  show some (⟨(rows0 cs t).map (wayRow (rows0 cs t)), _, _, _⟩ : ShM) = some (sheetP cs t)
  have er : (rows0 cs t).map (wayRow (rows0 cs t)) = rowsP cs t := by
    conv => lhs; arg 2; unfold rows0
    rw [List.map_cons, List.map_append, el, e, way_ok (pass_text _ _ _) hfirst h0]
    rfl
  rw [er]
  rfl
end FP
set_option Elab.async false
set_option linter.all false
set_option maxRecDepth 100000
set_option maxHeartbeats 4000000
set_option exponentiation.threshold 2000
/-! What a law says of Program. -/
namespace FP
open PySem PySem.Spec PyProof.Rows L2 TL
theorem new_same' {H : Hp} {l : Addr} {o : HO} (n : H l = none) : Same H (upd H l o) := Same.new (Same.refl H) n
theorem made_same {H H' : Hp} {x dx C : Addr} (nx : H x = none) (ndx : H dx = none) (eo : ∀ b o, (upd (upd H dx (.own x)) x (.ins C dx [])) b = some o → b ≠ x → H' b = some o) : Same H H' :=
  fun b u e => eo b u ((upd_ne (ne_of_none e nx)).trans ((upd_ne (ne_of_none e ndx)).trans e)) (ne_of_none e nx)
/-- a program of two or three cells declared at the top -/
theorem wf_twelve {cs : List Str} {t : T} (hc : ∀ x ∈ cs, x ∈ twelve) (hn : cs.Nodup) (h5 : cs.length ≤ 5) (hd : declT t = []) (wf : wfT cs 5 t) : WfP cs t := by
  have nm : ∀ x ∈ twelve, isName x = true := by decide +kernel
  refine ⟨wf, ?_, ?_, ?_⟩
  · rw [hd, List.append_nil]
    exact fun x hx => nm x (hc x hx)
  · rw [hd, List.append_nil]; exact hn
  · rw [hd, List.append_nil]; exact h5
theorem twelve_len : ∀ c ∈ twelve, c.length ≤ 12 := by decide +kernel
/-- a program made of a text -/
theorem use_made {cs : List Str} {t : T} {text : Str} (W : WfP cs t) (hs : sizeP cs t ≤ 40) (e : text = textP cs t) : text.length ≤ 80000 ∧ readM text 40 = some (sheetP cs t) := by
  rw [e]
  refine ⟨?_, read_P W hs (by omega)⟩
  have := textP_len W
  have h2 : sizeP cs t * 79 ≤ 40 * 79 := Nat.mul_le_mul_right _ hs
  omega
end FP
set_option Elab.async false
set_option linter.all false
set_option maxRecDepth 100000
set_option maxHeartbeats 4000000
set_option exponentiation.threshold 2000
/-! Sizes and cells of a law's tree. -/
namespace FP
open PySem PySem.Spec PyProof.Rows L2 TL
section
variable {P : Program} {w : World} {K : PySem.W.Frag} {mg : Str → Option Value} {base : Heap}
def spBS (d : Nat) : Sp := fun vs H Q _ => ∃ (x : Addr) (cs : List Str) (t : T), vs = [.ref x] ∧ BlkAt H x cs t ∧ depT t < d ∧ OkB cs t ∧ ∀ H', Same H H' → Q (.int (sizeP cs t : Nat)) H'
theorem scBS : FnScope ["_law_block"] ["_law_block"] (defScope qBlockSize) := ⟨rfl, rfl, rfl, by decide +kernel, rfl, by decide +kernel, by decide +kernel⟩
theorem ok_bs {f : Addr} {fd : FuncData} (F : Fun K "_law_block_size" "_law_block_size" qBlockSize f fd) (B : Blt3 mg) {d : Nat} (D : Def P w K mg base "_law_block_lines" d ["_law_block"] (spBL d)) :
    FnOk P w K mg base CX0 (d + 1) f fd ["_law_block"] (spBS d) := by
  obtain ⟨fD, fdD, gD, kD, bD, GD⟩ := D.ex
  refine F.ok scBS (fun vs H Q E h => ?_) (fun cdv A outer s H vs Q E hr h => ?_)
  · obtain ⟨x, cs, t, rfl, _⟩ := h
    rfl
  obtain ⟨x, cs, t, rfl, hx, hd, O, q⟩ := h
  refine ⟨_, pss_one (ps_ret (pe_callB call_len_seq (by rfl) B.len boot_len (pa_cons (pe_call GD hr rfl gD kD bD .nil pass0 (pa_cons (pv 0) pa_nil)) pa_nil))), ?_⟩
  refine ⟨_, rfl, tNil_i ⟨x, cs, t, rfl, hx, hd, O, fun r H' S hr er => ⟨r, _, rfl, .inl (SqL.of er), ?_⟩⟩⟩
  rw [List.length_map, lnJ_len, linesP_len]
  exact q H' S
end
theorem OkT.b {t : T} (O : OkT t) : OkB [] t :=
  ⟨by unfold sizeP; rw [show locN [] = 0 from rfl, Nat.zero_add]; exact O.sz, fun ws hw => O.pl ws hw, fun x hx => O.ok x hx, O.dl⟩
end FP
set_option Elab.async false
set_option linter.all false
set_option maxRecDepth 100000
set_option maxHeartbeats 4000000
set_option exponentiation.threshold 2000
/-! A law's own reader of lines: names, deeds. -/
namespace FP
open PySem PySem.Spec PyProof.Rows L2 TL
section
variable {P : Program} {w : World} {K : PySem.W.Frag} {mg : Str → Option Value} {base : Heap}
/-- the signs that are no letters -/
def oddS (x : Str) (n : Nat) : List Str := ((tl x).take n |>.filter fun c => !letter c).map fun c => ⟨#[c]⟩
def spLName : Sp := fun vs H Q _ => ∃ x : Str, vs = [.str x] ∧ x.length ≤ 1000000 ∧ PyData.strOk x = true ∧ ∀ H', Same H H' → Q (.bl (isName x)) H'
abbrev nLN : List Str := ["_law_word", "_law_odd", "_law_words", "_law_sign"]
theorem scLN : FnScope nLN ["_law_word"] (defScope qIsName) := ⟨rfl, rfl, rfl, by decide +kernel, rfl, by decide +kernel, by decide +kernel⟩
theorem alpha_mem (c : Nat) : decide (c ∈ ("abcdefghijklmnopqrstuvwxyz" : Str).cps.toList) = letter c := by
  have e : ("abcdefghijklmnopqrstuvwxyz" : Str).cps.toList = [97, 98, 99, 100, 101, 102, 103, 104, 105, 106, 107, 108, 109, 110, 111, 112, 113, 114, 115, 116, 117, 118, 119, 120, 121, 122] := by decide +kernel
  rw [e]
  unfold letter
  rw [Bool.eq_iff_iff, decide_eq_true_iff, Bool.and_eq_true_iff, decide_eq_true_iff, decide_eq_true_iff]
  simp only [List.mem_cons, List.not_mem_nil, or_false]
  omega
theorem words_split : Txt.split "local block loop maybe same else end input copy point load store use call to from" " " = wordsL := by decide +kernel
theorem ok_lname {f : Addr} {fd : FuncData} (F : Fun K "_law_is_name" "_law_is_name" qIsName f fd) (B : Blt3 mg) : FnOk P w K mg base CX0 1 f fd ["_law_word"] spLName := by
  refine F.ok scLN (fun vs H Q E h => ?_) (fun cdv A outer s H vs Q E hr h => ?_)
  · obtain ⟨x, rfl, _⟩ := h
    rfl
  obtain ⟨x, rfl, hl, hok, q⟩ := h
  refine ⟨_, pss_cons (ps_setLc (i := 1) (own := [("_law_sign", 3)]) (g := gName 3) (te := tVar 3) (by rfl) scLN.nd rfl rfl (sw_true rfl rfl rfl (by decide +kernel)) (pi_str (pv 0)) (blkOk_by (own := [("_law_sign", 3)]) (N := nLN) (sc := defScope qIsName) (by decide +kernel))
      (fun _ _ _ _ _ => pg_name (i := 3) scLN.nd rfl (Or.inl rfl)) (fun _ _ _ _ _ => pts_one (pt_cmpR op_notIn_sign (pv 3) pe_str (by rfl))) (fun _ _ _ _ _ => pv 3))
    (pss_cons (ps_set (i := 2) scLN.nd rfl (.inl rfl) pe_str)
    (pss_one (ps_ret (pe_and (pe_chain op_le op_le pe_int (pe_callB call_len_str (by rfl) B.len boot_len (pa_cons (pv 0) pa_nil)) pe_int)
      (pe_and (pe_cmpR (op_eqD hr.units) (pv 1) (pe_lst pa_nil) (nomark _)) (pe_one (pe_cmpR op_notIn_seq (pv 0) (pe_split (pv 2) pe_str) (by rfl)))))))), ?_⟩
  have hz : x.length ≤ sizeLine := by rw [sizeLine_eq]; omega
  have hlt : (tl x).length = x.length := (len_tl x).symm
  refine ⟨_, rfl, x, rfl, fun D hD => lc_it walk_str (fun n H' => Same H H' ∧ H' D = some (.lst ((oddS x n).map V.str))) ⟨Same.new (Same.refl H) hD, upd_same⟩ (fun _ _ _ _ => trivial) ?_ ?_⟩
  · rintro n v H' H'' hn' ⟨S1, eD⟩ ⟨rfl, c, hc', rfl⟩
    have hcl : (tl x)[n]? = some c := by
      show x.cps.toList[n]? = some c
      simpa using hc'
    have e1 : oddS x (n + 1) = oddS x n ++ (if letter c = true then [] else [⟨#[c]⟩]) := by
      unfold oddS
      rw [List.take_add_one, hcl, List.filter_append, List.map_append]
      congr 1
      show (List.map _ (List.filter _ [c])) = _
      rw [List.filter_cons, List.filter_nil]
      cases letter c <;> rfl
    refine ⟨rfl, _, rfl, c, _, rfl, rfl, _, rfl, ?_⟩
    rw [alpha_mem]
    cases hc : letter c with
    | false =>
      refine iteT ⟨_, rfl, _, eD, ?_, ?_, ?_⟩
      · rw [List.length_map, sizeLine_eq]
        have : (oddS x n).length ≤ (tl x).length := by
          unfold oddS
          rw [List.length_map]
          refine Nat.le_trans (List.length_filter_le _ _) ?_
          rw [List.length_take]; omega
        omega
      · intro a o e
        rw [upd_ne (ne_of_none e hD)]
        exact S1 a o e
      · rw [upd_same, e1, hc, if_neg Bool.false_ne_true, List.map_append]
        rfl
    | true =>
      refine iteF ⟨S1, ?_⟩
      rw [e1, hc, if_pos rfl, List.append_nil]
      exact eD
  rintro H1 ⟨S1, eD⟩
  have hall : (oddS x (tl x).length = []) ↔ (tl x).all letter = true := by
    unfold oddS
    rw [List.take_length, List.map_eq_nil_iff, List.filter_eq_nil_iff, List.all_eq_true]
    exact ⟨fun h c hc => by have := h c hc; simpa using this, fun h c hc => by rw [h c hc]; decide⟩
  have hoo : ∀ y ∈ oddS x (tl x).length, PyData.strOk y = true := by
    intro y hy
    unfold oddS at hy
    obtain ⟨c, hc, rfl⟩ := List.mem_map.mp hy
    rw [List.take_length] at hc
    rw [strOk_iff]
    intro d hd
    rw [show tl (⟨#[c]⟩ : Str) = [c] from rfl, List.mem_singleton] at hd
    rw [hd]
    exact strOk_iff.mp hok c (List.mem_filter.mp hc).1
  have hn : isName x = (!(wordsL.contains x) && (decide (1 ≤ x.length) && decide (x.length ≤ 12)) && (tl x).all letter) := rfl
  have fin : ∀ (b : Bool) (H' : Hp), b = isName x → Same H H' → Q (.bl b) H' := fun b H' e S => by rw [e]; exact q H' S
  refine ⟨_, rfl, x, rfl, hz, _, _, rfl, rfl, ?_⟩
  replace eD : H1 D = some (HO.lst ((oddS x x.length).map V.str)) := eD
  have hodd : oddS x x.length = [] ↔ (tl x).all letter = true := by rw [← hlt]; exact hall
  refine ⟨_, rfl, ite2 (fun c1 => ?_) fun c1 => ⟨_, rfl, iteF (fin _ _ ?_ S1)⟩⟩
  · have h1 : 1 ≤ x.length := by have := of_decide_eq_true c1; omega
    refine ⟨_, _, rfl, rfl, _, rfl, ite2 (fun c2 => ?_) fun c2 => fin _ _ ?_ S1⟩
    · have h2 : x.length ≤ 12 := by have := of_decide_eq_true c2; omega
      refine ⟨_, rfl, Nat.zero_le _, fun z nz => ⟨_, _, .lst (SqL.of ((new_same nz) _ _ eD)) (strs_dp _ _ _), .lst (SqL.of upd_same) .nil, strs_shaped _ (by rw [← hlt]; exact hoo), rfl, _, rfl, ?_⟩⟩
      rw [strs_nil]
      by_cases c3 : oddS x x.length = []
      · rw [decide_eq_true c3]
        refine iteT ⟨_, rfl, _, rfl, ⟨_, rfl⟩, _, _, rfl, rfl, rfl, by rw [sizeLine_eq]; decide +kernel, fun l nl => ?_⟩
        rw [words_split]
        have S2 := new_same nz (o := .lst [])
        refine ⟨l, _, rfl, .inl (SqL.of upd_same), rfl, flat_strs _, fin _ _ ?_ (S1.trans (S2.trans (new_same nl)))⟩
        rw [show inV (V.str x) (wordsL.map V.str) = wordsL.contains x from inV_strs x wordsL, if_pos rfl, hn, hodd.mp c3, decide_eq_true h1, decide_eq_true h2, Bool.and_true, Bool.and_true, Bool.and_true]
      · rw [decide_eq_false c3]
        refine iteF (fin _ _ ?_ (S1.trans (new_same nz)))
        rw [hn]
        have : (tl x).all letter = false := Bool.eq_false_iff.mpr fun z => c3 (hodd.mpr z)
        rw [this, Bool.and_false]
    · rw [hn, decide_eq_false (show ¬ x.length ≤ 12 from fun z => c2 (decide_eq_true (by omega))), Bool.and_false, Bool.and_false, Bool.false_and]
  · rw [hn, decide_eq_false (show ¬ 1 ≤ x.length from fun z => c1 (decide_eq_true (by omega))), Bool.false_and, Bool.and_false, Bool.false_and]
def formsK : List (Key × V) := formsC.map fun p => (.inr p.1, .int (p.2 : Nat))
theorem val_formsL (z : Str) : ∀ l : List (Str × Nat), valV (l.map fun p => ((.inr p.1 : Key), V.int (p.2 : Nat))) (.inr z) = (l.lookup z).map fun n => V.int (n : Nat)
  | [] => rfl
  | p :: r => by
    obtain ⟨a, b⟩ := p
    have ih := val_formsL z r
    rw [List.map_cons, List.lookup_cons]
    by_cases h : z = a
    · subst h
      simp [valV]
    · have h2 : (z == a) = false := by simpa using h
      rw [h2, ← ih]
      have h3 : ¬ a = z := fun e => h e.symm
      simp [valV, List.find?_cons, h3]
theorem val_forms (z : Str) : valV formsK (.inr z) = (formsC.lookup z).map fun n => V.int (n : Nat) := val_formsL z formsC
def spLDeed : Sp := fun vs H Q _ => ∃ (a b : Addr) (words seen : List Str), vs = [.ref a, .ref b] ∧ H a = some (.lst (words.map V.str)) ∧ H b = some (.lst (seen.map V.str)) ∧ words ≠ [] ∧ words.length ≤ 1000000 ∧ ∀ H', Same H H' → Q (.bl (isDeed words seen)) H'
abbrev nLD : List Str := ["_law_words", "_law_seen", "_law_forms"]
theorem scLD : FnScope nLD ["_law_words", "_law_seen"] (defScope qIsDeed) := ⟨rfl, rfl, rfl, by decide +kernel, rfl, by decide +kernel, by decide +kernel⟩
theorem ok_ldeed {f : Addr} {fd : FuncData} (F : Fun K "_law_is_deed" "_law_is_deed" qIsDeed f fd) (B : Blt3 mg) : FnOk P w K mg base CX0 1 f fd ["_law_words", "_law_seen"] spLDeed := by
  refine F.ok scLD (fun vs H Q E h => ?_) (fun cdv A outer s H vs Q E hr h => ?_)
  · obtain ⟨a, b, words, seen, rfl, _⟩ := h
    rfl
  obtain ⟨a, b, words, seen, rfl, ea, eb, hne, hlen, q⟩ := h
  have hu := hu_of hr
  refine ⟨_, pss_cons (ps_set (i := 2) scLD.nd rfl (.inl rfl) (pe_disp (pps_cons pe_str pe_int (pps_cons pe_str pe_int (pps_cons pe_str pe_int (pps_cons pe_str pe_int (pps_cons pe_str pe_int (pps_cons pe_str pe_int (pps_cons pe_str pe_int pps_nil))))))) (by rfl) (by rfl) (fun z => by cases z) (by decide)))
    (pss_cons (ps_if (PW.pt (pw_or (pt_cmp (pc_dnotin hu (pe_ix ix_list (pv 0) pe_int (fun _ _ => rfl)) (pv 2)))
        (pw_or (pt_cmpR op_ne (pe_callB call_len_seq (by rfl) B.len boot_len (pa_cons (pv 0) pa_nil)) (pe_dget hu (pv 2) (pe_ix ix_list (pv 0) pe_int (fun _ _ => rfl)) (fun _ _ => rfl)) (nomark _))
          (pw_or1 (pt_cmpR op_notIn_seq (pe_ix ix_list (pv 0) pe_int (fun _ _ => rfl)) (pv 1) (by rfl)))))) (pss_one (ps_ret pe_bl)) pss_nil)
    (pss_one (ps_ret (pe_or (pe_cmpR op_eq (pe_callB call_len_seq (by rfl) B.len boot_len (pa_cons (pv 0) pa_nil)) pe_int (nomark _))
      (pe_one (pe_and (pe_cmpR op_eq (pe_ix ix_list (pv 0) pe_int (fun _ _ => rfl)) (pe_ifExp (pt_cmpR op_eq (pe_ix ix_list (pv 0) pe_int (fun _ _ => rfl)) pe_str (nomark _)) pe_str pe_str) (nomark _))
        (pe_one (pe_cmpR op_in_seq (pe_ix ix_list (pv 0) pe_int (fun _ _ => rfl)) (pv 1) (by rfl))))))))), ?_⟩
  obtain ⟨w0, ws, rfl⟩ : ∃ w0 ws, words = w0 :: ws := by
    cases words with
    | nil => exact absurd rfl hne
    | cons x r => exact ⟨x, r, rfl⟩
  have hz : ((w0 :: ws).map V.str).length ≤ sizeLine := by rw [List.length_map, sizeLine_eq]; omega
  have at0 : atI ((w0 :: ws).map V.str) 0 = some (.str w0) := atI_nat (j := 0) rfl
  have ats : ∀ (j : Nat) (x : Str), (w0 :: ws)[j]? = some x → atI ((w0 :: ws).map V.str) (j : Int) = some (.str x) := fun j x e => atI_nat (by rw [List.getElem?_map, e]; rfl)
  have fin : ∀ (c : Bool) (H' : Hp), c = isDeed (w0 :: ws) seen → Same H H' → Q (.bl c) H' := fun c H' e S => by rw [e]; exact q H' S
  have hd : isDeed (w0 :: ws) seen = match formsC.lookup w0 with
    | none => false
    | some n => decide (ws.length + 1 = n) && seen.contains ((w0 :: ws).getD 1 "") && (decide (ws.length + 1 = 2) || (decide ((w0 :: ws).getD 2 "" = if w0 = "load" then ("from" : Str) else ("to" : Str)) && seen.contains ((w0 :: ws).getD 3 ""))) := rfl
  intro p np
  have S1 := fun o => new_same (o := o) np
  refine ⟨upd_same, formsK, rfl, by decide, ?_⟩
  rw [show mergeK [] formsK = formsK from rfl]
  have S1 : Same H (upd (upd H p (.dK [])) p (.dK formsK)) := Same.put (new_same np) np
  have ep : (upd (upd H p (.dK [])) p (.dK formsK)) p = some (.dK formsK) := upd_same
  generalize upd (upd H p (.dK [])) p (.dK formsK) = H1 at S1 ep
  have ea1 := S1 _ _ ea
  have eb1 := S1 _ _ eb
  refine ⟨_, rfl, a, _, 0, _, rfl, rfl, SqL.of ea1, at0, _, rfl, p, _, rfl, DGet.k (k := .inr w0) ep, _, rfl, ?_⟩
  rw [val_forms]
  cases hl : formsC.lookup w0 with
  | none =>
    rw [hl] at hd
    exact iteT (fin _ _ hd.symm S1)
  | some n =>
    rw [hl] at hd
    have hdn : DGet H1 p (.str w0) (some (.int (n : Nat))) := by
      have := DGet.k (k := .inr w0) ep
      rw [val_forms, hl] at this
      exact this
    refine iteF ⟨_, rfl, a, _, rfl, .inl (SqL.of ea1), _, rfl, _, rfl, a, _, 0, _, rfl, rfl, SqL.of ea1, at0, p, _, rfl, hdn, rfl, _, rfl, ?_⟩
    rw [show decide (V.int (((w0 :: ws).map V.str).length : Nat) = V.int (n : Nat)) = decide (ws.length + 1 = n) from decide_eq_decide.mpr ⟨fun z => by have := V.int.inj z; rw [List.length_map, List.length_cons] at this; omega, fun z => by rw [List.length_map, List.length_cons, z]⟩]
    by_cases hn : ws.length + 1 = n
    case neg =>
      rw [decide_eq_false hn]
      refine iteT (fin _ _ ?_ S1)
      rw [hd]
      dsimp only
      rw [decide_eq_false hn, Bool.false_and, Bool.false_and]
    rw [decide_eq_true hn]
    -- two words or four
    have hn24 : n = 2 ∨ n = 4 := by
      have : ∀ p ∈ formsC, p.2 = 2 ∨ p.2 = 4 := by decide +kernel
      obtain ⟨l1, l2, e, _⟩ := List.lookup_eq_some_iff.mp hl
      exact this (w0, n) (by rw [e]; simp)
    obtain ⟨w1, w1s, rfl⟩ : ∃ w1 w1s, ws = w1 :: w1s := by
      cases ws with
      | nil => exfalso; rw [List.length_nil] at hn; omega
      | cons x r => exact ⟨x, r, rfl⟩
    have flt := flat_strs seen
    have eq2 : decide (V.int (((w0 :: w1 :: w1s).map V.str).length : Nat) = V.int 2) = decide (w1s.length + 1 + 1 = 2) := decide_eq_decide.mpr ⟨fun z => by have := V.int.inj z; rw [List.length_map, List.length_cons, List.length_cons] at this; omega, fun z => by rw [List.length_map, List.length_cons, List.length_cons, z]; rfl⟩
    refine iteF ⟨_, rfl, a, _, 1, _, rfl, rfl, SqL.of ea1, ats 1 w1 rfl, _, rfl, b, _, rfl, .inl (SqL.of eb1), rfl, flt, _, rfl, ?_⟩
    rw [show inV (V.str w1) (seen.map V.str) = seen.contains w1 from inV_strs w1 seen, if_pos rfl]
    have hd1 : isDeed (w0 :: w1 :: w1s) seen = (seen.contains w1 && (decide (w1s.length + 1 + 1 = 2) || (decide ((w0 :: w1 :: w1s).getD 2 "" = if w0 = "load" then ("from" : Str) else ("to" : Str)) && seen.contains ((w0 :: w1 :: w1s).getD 3 "")))) := by
      rw [hd]
      dsimp only
      rw [decide_eq_true hn, Bool.true_and]
      rfl
    cases c1 : seen.contains w1 with
    | false =>
      refine iteT (fin _ _ ?_ S1)
      rw [hd1, c1, Bool.false_and]
    | true =>
      rw [c1, Bool.true_and] at hd1
      refine iteF ⟨_, rfl, a, _, rfl, .inl (SqL.of ea1), rfl, _, rfl, ?_⟩
      rw [eq2]
      by_cases h2 : w1s.length + 1 + 1 = 2
      · rw [decide_eq_true h2]
        refine iteT (fin _ _ ?_ S1)
        rw [hd1, decide_eq_true h2, Bool.true_or]
      rw [decide_eq_false h2]
      rw [decide_eq_false h2, Bool.false_or] at hd1
      obtain ⟨w2, w3, rfl⟩ : ∃ w2 w3, w1s = [w2, w3] := by
        match w1s, hn, h2 with
        | [], hn, h2 => exact absurd rfl h2
        | [x], hn, h2 => simp at hn; omega
        | [x, y], _, _ => exact ⟨x, y, rfl⟩
        | x :: y :: z :: r, hn, h2 => simp at hn; omega
      refine iteF ⟨_, rfl, a, _, 2, _, rfl, rfl, SqL.of ea1, ats 2 w2 rfl, _, rfl, a, _, 0, _, rfl, rfl, SqL.of ea1, at0, rfl, _, rfl, ?_⟩
      have last : ∀ k : Str, k = (if w0 = "load" then ("from" : Str) else ("to" : Str)) → rEq (V.str w2) (.str k) H1 fun x H1 => ∃ c, x = V.bl c ∧ if c = true then
          tOp (rIn K false) (tOp (rIxL K) (tVar 0) (tC (V.int 3))) (tVar 1) (List.set (L2.start nLD [V.ref a, V.ref b]) 2 (some (V.ref p))) H1 Q else Q (V.bl false) H1 := fun k ek => by
        refine ⟨rfl, _, rfl, ite2 (fun c => ?_) fun c => ?_⟩
        · have hk : w2 = k := V.str.inj (of_decide_eq_true c)
          refine ⟨_, rfl, a, _, 3, _, rfl, rfl, SqL.of ea1, ats 3 w3 rfl, _, rfl, b, _, rfl, .inl (SqL.of eb1), rfl, flt, fin _ _ ?_ S1⟩
          rw [show inV (V.str w3) (seen.map V.str) = seen.contains w3 from inV_strs w3 seen, if_neg Bool.false_ne_true, hd1]
          show _ = (decide (w2 = _) && seen.contains w3)
          rw [← ek, decide_eq_true hk, Bool.true_and]
        · refine fin _ _ ?_ S1
          have hk : ¬ w2 = k := fun z => c (decide_eq_true (by rw [z]))
          rw [hd1]
          show _ = (decide (w2 = _) && seen.contains w3)
          rw [← ek, decide_eq_false hk, Bool.false_and]
      refine ite2 (fun c => ?_) fun c => ?_
      · exact last "from" (by rw [if_pos (V.str.inj (of_decide_eq_true c))])
      · exact last "to" (by rw [if_neg (fun z => c (decide_eq_true (by rw [z])))])
end
end FP
set_option Elab.async false
set_option linter.all false
set_option maxRecDepth 100000
set_option maxHeartbeats 4000000
set_option exponentiation.threshold 2000
namespace FP
open PySem PySem.Spec PyProof.Rows L2 TL
/-- all stays but what stands at some addresses -/
def Kp (ms : List Addr) (H H' : Hp) : Prop := ∀ b u, b ∉ ms → H b = some u → H' b = some u
/-- the heap without some addresses -/
def hid (ms : List Addr) (H : Hp) : Hp := fun b => if b ∈ ms then none else H b
theorem Kp.refl (ms : List Addr) (H : Hp) : Kp ms H H := fun _ _ _ e => e
theorem Kp.trans {ms : List Addr} {H H1 H2 : Hp} (a : Kp ms H H1) (b : Kp ms H1 H2) : Kp ms H H2 := fun c u n e => b c u n (a c u n e)
theorem Kp.of {ms : List Addr} {H H1 : Hp} (a : Same H H1) : Kp ms H H1 := fun c u _ e => a c u e
theorem Kp.but {ms : List Addr} {p : Addr} {H H1 : Hp} (a : But p H H1) (h : p ∈ ms) : Kp ms H H1 := fun c u n e => a c u (fun z => n (by rw [z]; exact h)) e
theorem Kp.put {ms : List Addr} {m : Addr} {H H1 : Hp} {o : HO} (a : Kp ms H H1) (h : m ∈ ms) : Kp ms H (upd H1 m o) := fun c u n e => (upd_ne (fun z => n (by rw [z]; exact h))).trans (a c u n e)
theorem Kp.put0 {ms : List Addr} {m : Addr} {H H1 : Hp} {o : HO} (a : Kp ms H H1) (h : H m = none) : Kp ms H (upd H1 m o) := fun c u n e => (upd_ne (ne_of_none e h)).trans (a c u n e)
theorem Kp.sub {ms ms' : List Addr} {H H1 : Hp} (a : Kp ms H H1) (h : ∀ m ∈ ms, m ∈ ms') : Kp ms' H H1 := fun c u n e => a c u (fun z => n (h c z)) e
theorem Kp.hid {ms : List Addr} {H H1 : Hp} (a : Kp ms H H1) : Same (hid ms H) (hid ms H1) := fun b u e => by
  unfold FP.hid at e ⊢
  by_cases h : b ∈ ms
  · rw [if_pos h] at e; cases e
  · rw [if_neg h] at e ⊢
    exact a b u h e
theorem hid_at {ms : List Addr} {H : Hp} {b : Addr} {u : HO} (h : b ∉ ms) (e : H b = some u) : hid ms H b = some u := (if_neg h).trans e
theorem hid_le {ms : List Addr} {H : Hp} : Same (hid ms H) H := fun b u e => by
  unfold FP.hid at e
  by_cases h : b ∈ ms
  · rw [if_pos h] at e; cases e
  · rwa [if_neg h] at e
theorem hid_sub {ms ms' : List Addr} {H : Hp} (h : ∀ m ∈ ms, m ∈ ms') : Same (hid ms' H) (hid ms H) := fun b u e => by
  unfold FP.hid at e ⊢
  by_cases c : b ∈ ms'
  · rw [if_pos c] at e; cases e
  · rw [if_neg c] at e
    rw [if_neg fun z => c (h b z)]
    exact e
/-- a test that is asked one way or another -/
theorem seq_if {c : TT} {t tb : TS} {D : Ends} {σ : L2.St} {H : Hp} (R R' : Hp → Prop) (k : ∀ Qy : Bool → Hp → Prop, (∀ H1, R H1 → Qy true H1) → (∀ H1, R' H1 → Qy false H1) → c σ H Qy) (y : ∀ H1, R H1 → t { D with nx := tb D } σ H1)
    (n : ∀ H1, R' H1 → tb D σ H1) : tSeq (tIfS c t tNext) tb D σ H := k (fun b H1 => if b = true then t { D with nx := tb D } σ H1 else tNext { D with nx := tb D } σ H1) (fun H1 h => (if_pos rfl).mpr (y H1 h)) (fun H1 h => n H1 h)
/-- what a law may still give out -/
def leftD (lo ca : Int) : List (Key × V) := [(.inr "loop", .int lo), (.inr "call", .int ca)]
theorem get_loop {H : Hp} {x : Addr} {lo ca : Int} (h : H x = some (.dK (leftD lo ca))) : DGet H x (.str "loop") (some (.int lo)) := DGet.k (k := .inr "loop") h
theorem get_call {H : Hp} {x : Addr} {lo ca : Int} (h : H x = some (.dK (leftD lo ca))) : DGet H x (.str "call") (some (.int ca)) := DGet.k (k := .inr "call") h
theorem left_len (lo ca : Int) : (leftD lo ca).length < sizeLine := by rw [sizeLine_eq]; show 2 < _; omega
theorem put_loop {H : Hp} {x : Addr} {lo ca lo' : Int} (h : H x = some (.dK (leftD lo ca))) : DPut H x (.str "loop") (.int lo') (upd H x (.dK (leftD lo' ca))) := DPut.k (k := .inr "loop") h (left_len lo ca)
theorem put_call {H : Hp} {x : Addr} {lo ca ca' : Int} (h : H x = some (.dK (leftD lo ca))) : DPut H x (.str "call") (.int ca') (upd H x (.dK (leftD lo ca'))) := DPut.k (k := .inr "call") h (left_len lo ca)
/-- pen, pointed names, what is left -/
structure NoAt (H0 H : Hp) (p a po lf : Addr) (ns : List Int) (t0 t : Int) (pt : List Str) (lo ca : Int) : Prop where
  kp : Kp [p, po, lf] H0 H
  pen : ∃ l, PenAt H p a ns t l
  lo_ : t0 ≤ t
  hi_ : t ≤ t0 + 4
  po : H po = some (.lst (pt.map V.str))
  lf : H lf = some (.dK (leftD lo ca))
section
variable {P : Program} {w : World} {K : PySem.W.Frag} {mg : Str → Option Value} {base : Heap}
def spNO : Sp := fun vs H Q _ => ∃ (p a nA po lf : Addr) (ns : List Int) (t l lo ca : Int) (nm pt : List Str), vs = [.ref p, .ref nA, .ref po, .ref lf] ∧ PenAt H p a ns t l ∧ t ≤ 999000 ∧ H nA = some (.lst (nm.map V.str)) ∧ 0 < nm.length ∧ nm.length ≤ 1000 ∧
  H po = some (.lst (pt.map V.str)) ∧ pt.length ≤ 900 ∧ (∀ y ∈ nm, PyData.strOk y = true) ∧ (∀ y ∈ pt, y ∈ nm) ∧ nA ≠ po ∧ a ≠ po ∧ lf ≠ p ∧ H lf = some (.dK (leftD lo ca)) ∧
  ∀ (k : Deed) (r : Addr) (pt' : List Str) (t' ca' : Int) (H' : Hp), (∀ y ∈ k.names, y ∈ nm) → NoAt H H' p a po lf ns t t' pt' lo ca' → pt'.length ≤ pt.length + 1 → (∀ y ∈ pt', y ∈ nm) → H r = none → H' r = some (.tup (k.words.map V.str)) → Q (.ref r) H'
abbrev nNO : List Str := ["_law_pen", "_law_names", "_law_pointed", "_law_left", "_law_way", "_law_a", "_law_b", "_law_p"]
theorem scNO : FnScope nNO ["_law_pen", "_law_names", "_law_pointed", "_law_left"] (defScope qNewOrder) := ⟨rfl, rfl, rfl, by decide +kernel, rfl, by decide +kernel, by decide +kernel⟩
theorem ok_no {f : Addr} {fd : FuncData} (F : Fun K "_law_new_order" "_law_new_order" qNewOrder f fd) (DD : Def P w K mg base "_law_draw" 1 ["_law_pen", "_law_span"] spDraw) (DP : Def P w K mg base "_law_pick" 2 ["_law_pen", "_law_options"] spPick) :
    FnOk P w K mg base CX0 3 f fd ["_law_pen", "_law_names", "_law_pointed", "_law_left"] spNO := by
  obtain ⟨fD, fdD, gD, kD, bD, GD⟩ := DD.ex
  obtain ⟨fP, fdP, gP, kP, bP, GP⟩ := DP.ex
  refine F.ok scNO (fun vs H Q E h => ?_) (fun cdv A outer s H vs Q E hr h => ?_)
  · obtain ⟨p, a, nA, po, lf, ns, t, l, lo, ca, nm, pt, rfl, _⟩ := h
    rfl
  obtain ⟨p, a, nA, po, lf, ns, t, l, lo, ca, nm, pt, rfl, PA0, ht, hn, hn0, hnl, hpo, hptl, hok, hsub, nnp, nap, nlp, hlf, q⟩ := h
  have hu := hu_of hr
  have hr1 := hr.mono (show 1 ≤ 2 by decide)
  refine ⟨_, pss_cons (ps_par3 (i := 4) (j := 5) (l := 6) (by rfl) scNO.nd rfl rfl rfl (by decide) (by decide) (by decide) rfl rfl rfl (pa_cons (pe_call GD hr1 rfl gD kD bD .nil pass0 (pa_cons (pv 0) (pa_cons pe_int pa_nil)))
        (pa_cons (pe_call GP hr rfl gP kP bP .nil pass0 (pa_cons (pv 0) (pa_cons (pv 1) pa_nil))) (pa_cons (pe_call GP hr rfl gP kP bP .nil pass0 (pa_cons (pv 0) (pa_cons (pv 1) pa_nil))) pa_nil))) (by rfl))
    (pss_cons (ps_set (i := 7) scNO.nd rfl (.inl rfl) (pe_ifExp (pt_cmpR (op_neD hr.units) (pv 2) (pe_lst pa_nil) (nomark _)) (pe_call GP hr rfl gP kP bP .nil pass0 (pa_cons (pv 0) (pa_cons (pv 2) pa_nil))) (pv 6)))
    (pss_cons (ps_if (pt_cmpR op_lt (pv 4) pe_int (nomark _)) (pss_one (ps_ret (pe_tup (pa_cons pe_str (pa_cons (pv 5) pa_nil))))) pss_nil)
    (pss_cons (ps_if (pt_cmpR op_lt (pv 4) pe_int (nomark _)) (pss_one (ps_ret (pe_tup (pa_cons pe_str (pa_cons (pv 5) (pa_cons pe_str (pa_cons (pv 6) pa_nil))))))) pss_nil)
    (pss_cons (ps_if (PW.pt (pw_or (pt_cmpR op_lt (pv 4) pe_int (nomark _)) (pw_or1 (PW.pt (pw_and (pt_cmpR op_lt (pv 4) pe_int (nomark _)) (pw_and1 (pt_cmpR (op_eqD hr.units) (pv 2) (pe_lst pa_nil) (nomark _))))))))
      (pss_cons (ps_expr (pe_bm PySem.F.plainAttrs_list PySem.F.slot_list_append PySem.F.type_list_append mt_append (pv 2) (pa_cons (pv 5) pa_nil))) (pss_one (ps_ret (pe_tup (pa_cons pe_str (pa_cons (pv 5) (pa_cons pe_str (pa_cons (pv 6) pa_nil)))))))) pss_nil)
    (pss_cons (ps_if (pt_cmpR op_lt (pv 4) pe_int (nomark _)) (pss_one (ps_ret (pe_tup (pa_cons pe_str (pa_cons (pv 5) (pa_cons pe_str (pa_cons (pv 7) pa_nil))))))) pss_nil)
    (pss_cons (ps_if (pt_cmpR op_lt (pv 4) pe_int (nomark _)) (pss_one (ps_ret (pe_tup (pa_cons pe_str (pa_cons (pv 5) (pa_cons pe_str (pa_cons (pv 7) pa_nil))))))) pss_nil)
    (pss_cons (ps_if (PW.pt (pw_and (pt_cmpR op_lt (pv 4) pe_int (nomark _)) (pw_and1 (pt_cmpR op_gt (pe_dget hu (pv 3) pe_str (fun _ _ => rfl)) pe_int (nomark _)))))
      (pss_cons (ps_dput hu (pv 3) pe_str (pe_op op_sub (pe_dget hu (pv 3) pe_str (fun _ _ => rfl)) pe_int) rfl) (pss_one (ps_ret (pe_tup (pa_cons pe_str (pa_cons (pv 7) pa_nil)))))) pss_nil)
    (pss_one (ps_ret (pe_tup (pa_cons pe_str (pa_cons (pv 5) pa_nil)))))))))))), ?_⟩
  have npp : po ≠ p := ne_of hpo PA0.p (by intro z; cases z)
  have nnp' : nA ≠ p := ne_of hn PA0.p (by intro z; cases z)
  have nlo : lf ≠ po := ne_of hlf hpo (by intro z; cases z)
  have nal : a ≠ lf := ne_of PA0.a hlf (by intro z; cases z)
  have hnV : (nm.map V.str).length = nm.length := List.length_map ..
  refine ⟨_, rfl, tConsC_i (tNil_i ⟨p, a, ns, t, l, 16, rfl, PA0, by omega, by decide, by decide, fun way t1 l1 H1 w0 w1 u0 u1 b1 PA1 => ?_⟩)⟩
  have hn1 := b1 nA _ nnp' hn
  refine ⟨_, rfl, _, rfl, tNil_i ⟨p, a, nA, ns, t1, l1, _, rfl, PA1, by omega, nnp', hn1, by rw [hnV]; exact hn0, by rw [hnV]; exact hnl, fun i1 v1 t2 l2 H2 hv1 u2 u3 b2 PA2 => ?_⟩⟩
  have hn2 := b2 nA _ nnp' hn1
  refine ⟨_, rfl, _, rfl, tNil_i ⟨p, a, nA, ns, t2, l2, _, rfl, PA2, by omega, nnp', hn2, by rw [hnV]; exact hn0, by rw [hnV]; exact hnl, fun i2 v2 t3 l3 H3 hv2 u4 u5 b3 PA3 => tNil_i ⟨_, _, _, rfl, ?_⟩⟩⟩
  rw [List.getElem?_map] at hv1 hv2
  obtain ⟨sa, hsa, rfl⟩ := Option.map_eq_some_iff.mp hv1
  obtain ⟨sb, hsb, rfl⟩ := Option.map_eq_some_iff.mp hv2
  have ma := List.mem_of_getElem? hsa
  have mb := List.mem_of_getElem? hsb
  have B3 : But p H H3 := (b1.trans b2).trans b3
  have hok' : ∀ y ∈ pt, PyData.strOk y = true := fun y hy => hok y (hsub y hy)
  dsimp only
  refine seq_mid (fun v H4 => ∃ (sp : Str) (t4 : Int), v = .str sp ∧ sp ∈ nm ∧ NoAt H H4 p a po lf ns t t4 pt lo ca) (fun Qy hq => ?_) ?_
  · have hp3 := B3 po _ npp hpo
    refine ⟨_, rfl, Nat.zero_le _, fun z nz => ⟨_, _, .lst (SqL.of ((new_same nz) _ _ hp3)) (strs_dp _ _ pt), .lst (SqL.of upd_same) .nil, strs_shaped _ hok', rfl, _, rfl, ?_⟩⟩
    have S4 := new_same (o := .lst []) nz
    have PA4 := PA3.new (o := .lst []) nz
    have B4 : But p H (upd H3 z (.lst [])) := B3.new nz
    rw [strs_nil]
    by_cases hc : pt = []
    · rw [decide_eq_true hc]
      exact iteF ⟨_, rfl, hq _ _ ⟨sb, t3, rfl, mb, Kp.but B4 List.mem_cons_self, ⟨l3, PA4⟩, by omega, by omega, B4 po _ npp hpo, B4 lf _ nlp hlf⟩⟩
    · rw [decide_eq_false hc]
      have hp0 : 0 < pt.length := List.length_pos_iff.mpr hc
      refine iteT ⟨_, rfl, _, rfl, tNil_i ⟨p, a, po, ns, t3, l3, _, rfl, PA4, by omega, npp, B4 po _ npp hpo, by rw [List.length_map]; exact hp0, by rw [List.length_map]; omega, fun i3 v3 t4 l4 H4 hv3 u6 u7 b5 PA5 => ?_⟩⟩
      rw [List.getElem?_map] at hv3
      obtain ⟨sp, hsp, rfl⟩ := Option.map_eq_some_iff.mp hv3
      have B5 := B4.trans b5
      exact hq _ _ ⟨sp, t4, rfl, hsub _ (List.mem_of_getElem? hsp), Kp.but B5 List.mem_cons_self, ⟨l4, PA5⟩, by omega, by omega, B5 po _ npp hpo, B5 lf _ nlp hlf⟩
  rintro _ H4 ⟨sp, t4, rfl, mp, N4⟩
  -- a new order behind whatever else was laid
  have fin : ∀ (k : Deed) (H5 : Hp) (pt' : List Str) (ca' : Int), (∀ y ∈ k.names, y ∈ nm) → NoAt H H5 p a po lf ns t t4 pt' lo ca' → pt'.length ≤ pt.length + 1 → (∀ y ∈ pt', y ∈ nm) → k.words.length ≤ 1000 ∧ ∀ r, H5 r = none → Q (.ref r) (upd H5 r (.tup (k.words.map V.str))) := by
    intro k H5 pt' ca' hk N hl hs
    obtain ⟨ws, e, hw⟩ := deed_words k
    refine ⟨by rw [e, List.length_cons]; omega, fun r nr => ?_⟩
    obtain ⟨l5, PA5⟩ := N.pen
    have nr0 : H r = none := by
      cases e0 : H r with
      | none => rfl
      | some u =>
        by_cases h : r ∈ [p, po, lf]
        · rcases List.mem_cons.mp h with rfl | h
          · rw [PA5.p] at nr; cases nr
          rcases List.mem_cons.mp h with rfl | h
          · rw [N.po] at nr; cases nr
          · rw [List.mem_singleton.mp h, N.lf] at nr; cases nr
        · rw [N.kp r u h e0] at nr; cases nr
    exact q k r pt' t4 ca' _ hk ⟨N.kp.trans (Kp.of (new_same nr)), ⟨l5, PA5.new nr⟩, N.lo_, N.hi_, (new_same nr) _ _ N.po, (new_same nr) _ _ N.lf⟩ hl hs nr0 upd_same
  have one : ∀ x : Str, x ∈ nm → ∀ y ∈ [x], y ∈ nm := fun x hx y hy => by rw [List.mem_singleton.mp hy]; exact hx
  have two : ∀ x z : Str, x ∈ nm → z ∈ nm → ∀ y ∈ [x, z], y ∈ nm := fun x z hx hz y hy => by
    rcases List.mem_cons.mp hy with rfl | hy
    · exact hx
    · rw [List.mem_singleton.mp hy]; exact hz
  have s2 : 2 ≤ sizeLine := sz1000 (by decide)
  have s4 : 4 ≤ sizeLine := sz1000 (by decide)
  refine ⟨_, rfl, _, _, rfl, rfl, _, rfl, ite2 (fun _ => ⟨_, rfl, s2, (fin (.input sa) H4 pt ca (one _ ma) N4 (by omega) hsub).2⟩) fun c3 => ?_⟩
  refine ⟨_, rfl, _, _, rfl, rfl, _, rfl, ite2 (fun _ => ⟨_, rfl, _, rfl, s4, (fin (.copy sa sb) H4 pt ca (two _ _ ma mb) N4 (by omega) hsub).2⟩) fun c6 => ?_⟩
  -- a pointer
  have pnt : ∀ H5, Same H4 H5 → tSeq (tDrop (tBM K "list" rAppend (tVar 2) (tCons (tVar 5) tNil))) (tRet (tTup (tCons (tC (.str "point")) (tCons (tVar 5) (tCons (tC (.str "to")) (tCons (tVar 6) tNil))))))
      { nx := fun _ H' => Q .non H', rt := Q } [some (.ref p), some (.ref nA), some (.ref po), some (.ref lf), some (.int way), some (.str sa), some (.str sb), some (.str sp)] H5 := by
    intro H5 S5
    have hp5 := S5 _ _ N4.po
    refine ⟨_, rfl, .inl ⟨rfl, _, SqL.of hp5⟩, _, rfl, po, _, _, rfl, rfl, hp5, small1000 (by rw [List.length_map]; omega), _, rfl, _, rfl, s4, ?_⟩
    obtain ⟨l5, PA5⟩ := N4.pen
    refine (fin (.point sa sb) _ (pt ++ [sa]) ca (two _ _ ma mb) ⟨(N4.kp.trans (Kp.of S5)).put (by simp), ⟨l5, ⟨(upd_ne npp.symm).trans (S5 _ _ PA5.p), (upd_ne nap).trans (S5 _ _ PA5.a), PA5.n, PA5.t0, PA5.l0⟩⟩, N4.lo_, N4.hi_, ?_, (upd_ne nlo).trans (S5 _ _ N4.lf)⟩ (by simp) ?_).2
    · rw [upd_same, List.map_append]
      rfl
    · intro y hy
      rcases List.mem_append.mp hy with z | z
      · exact hsub y z
      · rw [List.mem_singleton.mp z]; exact ma
  dsimp only [tNext]
  refine seq_if (fun H5 => Same H4 H5) (fun H5 => Same H4 H5) (fun Qy hy hn => ?_) (fun H5 S5 => ?_) fun H5 S5 => ?_
  rotate_left
  · exact pnt H5 S5
  rotate_left
  · refine ⟨_, rfl, _, _, rfl, rfl, _, rfl, ite2 (fun _ => hy _ (Same.refl _)) fun _ => ⟨_, rfl, _, _, rfl, rfl, _, rfl, ite2 (fun _ => ?_) fun _ => hn _ (Same.refl _)⟩⟩
    refine ⟨_, rfl, Nat.zero_le _, fun z nz => ⟨_, _, .lst (SqL.of ((new_same nz) _ _ N4.po)) (strs_dp _ _ pt), .lst (SqL.of upd_same) .nil, strs_shaped _ hok', rfl, _, rfl, ?_⟩⟩
    rw [strs_nil]
    by_cases hc : pt = []
    · rw [decide_eq_true hc]
      exact hy _ (new_same nz)
    · rw [decide_eq_false hc]
      exact hn _ (new_same nz)
  obtain ⟨l4, PA4⟩ := N4.pen
  have N5 : NoAt H H5 p a po lf ns t t4 pt lo ca := ⟨N4.kp.trans (Kp.of S5), ⟨l4, ⟨S5 _ _ PA4.p, S5 _ _ PA4.a, PA4.n, PA4.t0, PA4.l0⟩⟩, N4.lo_, N4.hi_, S5 _ _ N4.po, S5 _ _ N4.lf⟩
  refine ⟨_, rfl, _, _, rfl, rfl, _, rfl, ite2 (fun _ => ⟨_, rfl, _, rfl, s4, (fin (.load sa sp) H5 pt ca (two _ _ ma mp) N5 (by omega) hsub).2⟩) fun c10 => ?_⟩
  refine ⟨_, rfl, _, _, rfl, rfl, _, rfl, ite2 (fun _ => ⟨_, rfl, _, rfl, s4, (fin (.store sa sp) H5 pt ca (two _ _ ma mp) N5 (by omega) hsub).2⟩) fun c12 => ?_⟩
  have use_ : ∀ (D : Ends), D.rt = Q → tRet (tTup (tCons (tC (.str "use")) (tCons (tVar 5) tNil))) D [some (.ref p), some (.ref nA), some (.ref po), some (.ref lf), some (.int way), some (.str sa), some (.str sb), some (.str sp)] H5 := by
    intro D eD
    refine ⟨_, rfl, s2, ?_⟩
    rw [eD]
    exact (fin (.use sa) H5 pt ca (one _ ma) N5 (by omega) hsub).2
  refine ⟨_, rfl, _, _, rfl, rfl, _, rfl, ite2 (fun _ => ?_) fun _ => use_ _ rfl⟩
  refine ⟨_, rfl, lf, _, rfl, get_call N5.lf, _, _, rfl, rfl, _, rfl, ite2 (fun _ => ?_) fun _ => use_ _ rfl⟩
  refine ⟨_, rfl, lf, _, rfl, get_call N5.lf, _, _, rfl, rfl, _, rfl, lf, _, rfl, put_call N5.lf, _, rfl, s2, ?_⟩
  obtain ⟨l5, PA5⟩ := N5.pen
  exact (fin (.call sp) _ pt (ca - 1) (one _ mp) ⟨N5.kp.put (by simp), ⟨l5, ⟨(upd_ne nlp.symm).trans PA5.p, (upd_ne nal).trans PA5.a, PA5.n, PA5.t0, PA5.l0⟩⟩, N5.lo_, N5.hi_, (upd_ne nlo.symm).trans N5.po, upd_same⟩ (by omega) hsub).2
end
end FP
set_option Elab.async false
set_option linter.all false
set_option maxRecDepth 100000
set_option maxHeartbeats 4000000
set_option exponentiation.threshold 2000
namespace FP
open PySem PySem.Spec PyProof.Rows L2 TL
/-- orders behind one another -/
def T.app : T → T → T
  | .nil, u => u
  | .deed d r, u => .deed d (r.app u)
  | .one o cs b r, u => .one o cs b (r.app u)
  | .two o cs b cs' b' r, u => .two o cs b cs' b' (r.app u)
theorem OrdsAt.app {H : Hp} {u : T} {us : List Addr} (hu : OrdsAt H u us) : ∀ (t : T) {os : List Addr}, OrdsAt H t os → OrdsAt H (t.app u) (os ++ us)
  | .nil, _, h => by rw [h]; exact hu
  | .deed d r, _, ⟨o, rest, e, h1, h2⟩ => ⟨o, rest ++ us, by rw [e]; rfl, h1, OrdsAt.app hu r h2⟩
  | .one op cs b r, _, ⟨o, x, c, l, ors, rest, e, h1, h2, h3, h4, h5, h6⟩ => ⟨o, x, c, l, ors, rest ++ us, by rw [e]; rfl, h1, h2, h3, h4, h5, OrdsAt.app hu r h6⟩
  | .two op cs b cs' b' r, _, ⟨o, x, c, l, ors, y, c', l', ors', rest, e, h1, h2, h3, h4, h5, h2', h3', h4', h5', h6⟩ =>
    ⟨o, x, c, l, ors, y, c', l', ors', rest ++ us, by rw [e]; rfl, h1, h2, h3, h4, h5, h2', h3', h4', h5', OrdsAt.app hu r h6⟩
theorem size_app (u : T) : ∀ t : T, sizeT (t.app u) = sizeT t + sizeT u
  | .nil => by rw [T.app, sizeT]; omega
  | .deed _ r => by rw [T.app, sizeT, sizeT, size_app u r]; omega
  | .one _ cs b r => by rw [T.app, sizeT, sizeT, size_app u r]; omega
  | .two _ cs b cs' b' r => by rw [T.app, sizeT, sizeT, size_app u r]; omega
theorem decl_app (u : T) : ∀ t : T, declT (t.app u) = declT t ++ declT u
  | .nil => rfl
  | .deed _ r => decl_app u r
  | .one _ cs b r => by rw [T.app, declT, declT, decl_app u r]; simp only [List.append_assoc]
  | .two _ cs b cs' b' r => by rw [T.app, declT, declT, decl_app u r]; simp only [List.append_assoc]
theorem dep_app (u : T) : ∀ t : T, depT (t.app u) = max (depT t) (depT u)
  | .nil => by rw [T.app, depT]; omega
  | .deed _ r => by rw [T.app, depT, depT, dep_app u r]
  | .one _ cs b r => by rw [T.app, depT, depT, dep_app u r]; omega
  | .two _ cs b cs' b' r => by rw [T.app, depT, depT, dep_app u r]; omega
theorem wf_app {seen : List Str} {u : T} : ∀ (t : T) {d : Nat}, wfT seen d u → wfT seen d t → wfT seen d (t.app u)
  | .nil, d, hu, _ => hu
  | .deed k r, 0, hu, ⟨h1, h2⟩ => ⟨h1, wf_app r hu h2⟩
  | .deed k r, d + 1, hu, ⟨h1, h2⟩ => ⟨h1, wf_app r hu h2⟩
  | .one .., 0, _, h => h.elim
  | .two .., 0, _, h => h.elim
  | .one o cs b r, d + 1, hu, ⟨h1, h2, h3⟩ => ⟨h1, h2, wf_app r hu h3⟩
  | .two o cs b cs' b' r, d + 1, hu, ⟨h1, h2, h3, h4, h5⟩ => ⟨h1, h2, h3, h4, wf_app r hu h5⟩
/-- how many draws, how many lines -/
def wdr : Nat → Nat → Nat
  | 0, s => 1 + 8 * s
  | d + 1, s => 1 + s * (8 + wdr d 3 + wdr d 2)
def wsz : Nat → Nat → Nat
  | 0, s => s
  | d + 1, s => s * (5 + wsz d 3 + wsz d 2)
theorem wdr_le {d s s' : Nat} (h : s ≤ s') : wdr d s ≤ wdr d s' := by
  cases d with
  | zero => unfold wdr; omega
  | succ d => unfold wdr; have := Nat.mul_le_mul_right (8 + wdr d 3 + wdr d 2) h; omega
theorem wsz_le {d s s' : Nat} (h : s ≤ s') : wsz d s ≤ wsz d s' := by
  cases d with
  | zero => exact h
  | succ d => exact Nat.mul_le_mul_right _ h
/-- the draws of one turn, the lines of one turn -/
def wdr1 (d : Nat) : Nat := match d with | 0 => 8 | d + 1 => 8 + wdr d 3 + wdr d 2
def wsz1 (d : Nat) : Nat := match d with | 0 => 1 | d + 1 => 5 + wsz d 3 + wsz d 2
theorem wdr_eq (d s : Nat) : wdr d s = 1 + s * wdr1 d := by cases d <;> simp only [wdr, wdr1] <;> omega
theorem wsz_eq (d s : Nat) : wsz d s = s * wsz1 d := by cases d <;> simp only [wsz, wsz1] <;> omega
/-- a block in the heap without some addresses, whose body's list no order of it names -/
def BlkH (ms : List Addr) (H0 H : Hp) (x : Addr) (cs : List Str) (t : T) : Prop := ∃ c l ors, H0 l = none ∧ x ∉ ms ∧ c ∉ ms ∧ l ∉ ms ∧ H x = some (.dK (blkD c l)) ∧ H c = some (.lst (cs.map V.str)) ∧ H l = some (.lst (ors.map V.ref)) ∧ c ≠ l ∧ OrdsAt (hid (l :: ms) H) t ors
theorem BlkH.at_ {ms : List Addr} {H0 H : Hp} {x : Addr} {cs : List Str} {t : T} (h : BlkH ms H0 H x cs t) : BlkAt (hid ms H) x cs t := by
  obtain ⟨c, l, ors, _, h1, h2, h3, h4, h5, h6, _, h7⟩ := h
  exact ⟨c, l, ors, hid_at h1 h4, hid_at h2 h5, hid_at h3 h6, h7.same (hid_sub fun m hm => List.mem_cons_of_mem _ hm)⟩
/-- a popped list -/
theorem pop_split {α : Type} (l : List α) (h : l ≠ []) : ∃ y, l[l.length - 1]? = some y ∧ l = l.dropLast ++ [y] :=
  ⟨l.getLast h, by rw [← List.getLast?_eq_getElem?, List.getLast?_eq_some_getLast h], (List.dropLast_concat_getLast h).symm⟩
theorem strs_flatB (l : List Str) : (l.map V.str).all flatV = true := by
  rw [List.all_eq_true]
  intro v hv
  obtain ⟨s, _, rfl⟩ := List.mem_map.mp hv
  rfl
theorem inV_strB (c : Str) (l : List Str) : inV (.str c) (l.map V.str) = decide (c ∈ l) := by
  unfold inV
  rw [List.any_map]
  induction l with
  | nil => rfl
  | cons x r ih =>
    rw [List.any_cons, ih, Bool.eq_iff_iff, Bool.or_eq_true, decide_eq_true_iff, decide_eq_true_iff, List.mem_cons]
    have : ((fun y => eqV y (V.str c)) ∘ V.str) x = true ↔ c = x := by
      show (x == c) = true ↔ _
      rw [beq_iff_eq]
      exact eq_comm
    rw [this]
theorem Kp.free {ms : List Addr} {H H1 : Hp} {x : Addr} (k : Kp ms H H1) (hm : ∀ m ∈ ms, H1 m ≠ none) (n : H1 x = none) : H x = none := by
  cases e : H x with
  | none => rfl
  | some u =>
    by_cases h : x ∈ ms
    · exact absurd n (hm x h)
    · rw [k x u h e] at n; cases n
theorem Kp.alive {ms : List Addr} {H H1 : Hp} (k : Kp ms H H1) (hm : ∀ m ∈ ms, H1 m ≠ none) {x : Addr} (h : H x ≠ none) : H1 x ≠ none := fun z => h (k.free hm z)
theorem some_ne {H : Hp} {x : Addr} {u : HO} (e : H x = some u) : H x ≠ none := fun z => by rw [e] at z; cases z
theorem PenAt.kp {ms : List Addr} {H H' : Hp} {p a : Addr} {ns : List Int} {t l : Int} (h : PenAt H p a ns t l) (k : Kp ms H H') (hp : p ∉ ms) (ha : a ∉ ms) : PenAt H' p a ns t l := ⟨k _ _ hp h.p, k _ _ ha h.a, h.n, h.t0, h.l0⟩
theorem PenAt.upd' {H : Hp} {p a m : Addr} {ns : List Int} {t l : Int} {o : HO} (h : PenAt H p a ns t l) (hp : p ≠ m) (ha : a ≠ m) : PenAt (upd H m o) p a ns t l := ⟨(upd_ne hp).trans h.p, (upd_ne ha).trans h.a, h.n, h.t0, h.l0⟩
/-- a drawn block under way -/
structure WbAt (ms : List Addr) (Hb H' : Hp) (p a sp lf so bd : Addr) (ns : List Int) (tb : Int) (nm own spr : List Str) (pl d k : Nat) (t lo ca : Int) (rem lost pts : List Str) (tr : T) (ors : List Addr) : Prop where
  kb : Kp [bd, so, p, sp, lf] Hb H'
  pen : ∃ l, PenAt H' p a ns t l
  lo_ : tb ≤ t
  hi_ : t ≤ tb + (k * wdr1 d : Nat)
  esp : H' sp = some (.lst (rem.map V.str))
  elf : H' lf = some (.dK (leftD lo ca))
  eso : H' so = some (.lst (pts.map V.str))
  ebd : H' bd = some (.lst (ors.map V.ref))
  ords : OrdsAt (hid (bd :: so :: ms) H') tr ors
  perm : (own ++ declT tr ++ rem ++ lost).Perm spr
  wf : wfT (nm ++ own) d tr
  dep : depT tr ≤ d
  sz : sizeT tr ≤ k * wsz1 d
  ptm : ∀ y ∈ pts, y ∈ nm ++ own
  ptl : pts.length ≤ pl + k
  orl : ors.length ≤ k
theorem seq_midS {t tb : TS} {D : Ends} {σ : L2.St} {H : Hp} (R : L2.St → Hp → Prop) (k : ∀ D' : Ends, (∀ σ' H', R σ' H' → D'.nx σ' H') → t D' σ H) (m : ∀ σ' H', R σ' H' → tb D σ' H') : tSeq t tb D σ H := k _ m
theorem if_mid {c : TT} {t u : TS} {D : Ends} {σ : L2.St} {H : Hp} (Ry Rn : Hp → Prop) (k : ∀ Qy : Bool → Hp → Prop, (∀ H1, Ry H1 → Qy true H1) → (∀ H1, Rn H1 → Qy false H1) → c σ H Qy) (y : ∀ H1, Ry H1 → t D σ H1) (n : ∀ H1, Rn H1 → u D σ H1) : tIfS c t u D σ H :=
  k (fun b H1 => if b = true then t D σ H1 else u D σ H1) (fun H1 h => (if_pos rfl).mpr (y H1 h)) (fun H1 h => n H1 h)
theorem ords_one {H : Hp} {op : Op} {y o : Addr} {cb : List Str} {b : T} (h : H o = some (.tup (.str op.word :: op.parts y))) (hb : BlkAt H y cb b) : OrdsAt H (.one op cb b .nil) [o] :=
  let ⟨c, l, ors, h1, h2, h3, h4⟩ := hb
  ⟨o, y, c, l, ors, [], rfl, h, h1, h2, h3, h4, rfl⟩
theorem ords_two {H : Hp} {op : Op} {y y' o : Addr} {cb cb' : List Str} {b b' : T} (h : H o = some (.tup (.str op.word :: op.parts2 y y'))) (hb : BlkAt H y cb b) (hb' : BlkAt H y' cb' b') : OrdsAt H (.two op cb b cb' b' .nil) [o] :=
  let ⟨c, l, ors, h1, h2, h3, h4⟩ := hb
  let ⟨c', l', ors', h1', h2', h3', h4'⟩ := hb'
  ⟨o, y, c, l, ors, y', c', l', ors', [], rfl, h, h1, h2, h3, h4, h1', h2', h3', h4', rfl⟩
/-- the other side of an order, if there is one -/
def othV : Option (Addr × List Str × T) → V
  | none => .non
  | some q => .ref q.1
def othC : Option (Addr × List Str × T) → List Str
  | none => []
  | some q => q.2.1 ++ declT q.2.2
/-- an order with one side or two -/
def mkT (op : Op) (cb : List Str) (b : T) : Option (Addr × List Str × T) → T
  | none => .one op cb b .nil
  | some q => .two op cb b q.2.1 q.2.2 .nil
theorem mk_decl (op : Op) (cb : List Str) (b : T) (ot : Option (Addr × List Str × T)) : declT (mkT op cb b ot) = cb ++ declT b ++ othC ot := by
  cases ot with
  | none => rfl
  | some q => simp only [mkT, declT, othC, List.append_nil]
theorem mk_ords {H : Hp} {op : Op} {y o : Addr} {cb : List Str} {b : T} {ot : Option (Addr × List Str × T)} (h2 : op.two = true) (h : H o = some (.tup (.str op.word :: (op.names.map V.str ++ [.ref y, othV ot])))) (hb : BlkAt H y cb b) (ho : ∀ q, ot = some q → BlkAt H q.1 q.2.1 q.2.2) : OrdsAt H (mkT op cb b ot) [o] := by
  cases ot with
  | none => exact ords_one (by unfold Op.parts; rw [h2, if_pos rfl]; exact h) hb
  | some q => exact ords_two h hb (ho q rfl)
theorem mk_wf {seen : List Str} {d : Nat} {op : Op} {cb : List Str} {b : T} {ot : Option (Addr × List Str × T)} (h2 : op.two = true) (hn : ∀ x ∈ op.names, x ∈ seen) (hb : wfT (seen ++ cb) d b) (ho : ∀ q, ot = some q → wfT (seen ++ q.2.1) d q.2.2) : wfT seen (d + 1) (mkT op cb b ot) := by
  cases ot with
  | none => exact ⟨hn, hb, trivial⟩
  | some q => exact ⟨h2, hn, hb, ho q rfl, trivial⟩
theorem mk_dep {op : Op} {cb : List Str} {b : T} {ot : Option (Addr × List Str × T)} {d : Nat} (hb : depT b ≤ d) (ho : ∀ q, ot = some q → depT q.2.2 ≤ d) : depT (mkT op cb b ot) ≤ d + 1 := by
  cases ot with
  | none => simp only [mkT, depT]; omega
  | some q => have := ho q rfl; simp only [mkT, depT]; omega
theorem mk_size {op : Op} {cb : List Str} {b : T} {ot : Option (Addr × List Str × T)} {x y : Nat} (hb : locN cb + sizeT b ≤ 1 + x) (ho : ∀ q, ot = some q → locN q.2.1 + sizeT q.2.2 ≤ 1 + y) : sizeT (mkT op cb b ot) ≤ 5 + x + y := by
  cases ot with
  | none => simp only [mkT, sizeT]; omega
  | some q => have := ho q rfl; simp only [mkT, sizeT]; omega
theorem loc_le (cs : List Str) : locN cs ≤ 1 := by unfold locN; split <;> omega
/-- one more order -/
theorem WbAt.add {ms : List Addr} {Hb H' H2 : Hp} {p a sp lf so bd : Addr} {ns : List Int} {tb : Int} {nm own spr : List Str} {pl d k : Nat} {t lo ca : Int} {rem lost pts : List Str} {tr : T} {ors : List Addr}
    (W : WbAt ms Hb H' p a sp lf so bd ns tb nm own spr pl d k t lo ca rem lost pts tr ors) (hms : ∀ m ∈ [p, sp, lf], m ∈ ms) (nb : bd ≠ p ∧ bd ≠ sp ∧ bd ≠ lf ∧ bd ≠ a ∧ bd ≠ so)
    {t2 lo2 ca2 : Int} {rem2 lost2 pts2 : List Str} {u : T} {o : Addr} (k2 : Kp [so, p, sp, lf] H' H2) (pen2 : ∃ l, PenAt H2 p a ns t2 l) (h0 : t ≤ t2) (h1 : t2 ≤ t + (wdr1 d : Nat)) (esp : H2 sp = some (.lst (rem2.map V.str))) (elf : H2 lf = some (.dK (leftD lo2 ca2)))
    (eso : H2 so = some (.lst (pts2.map V.str))) (hu : OrdsAt (hid (bd :: so :: ms) H2) u [o]) (pm : (declT u ++ rem2 ++ lost2).Perm rem) (wf : wfT (nm ++ own) d u) (dp : depT u ≤ d) (sz : sizeT u ≤ wsz1 d) (ptm : ∀ y ∈ pts2, y ∈ nm ++ own) (ptl : pts2.length ≤ pts.length + 1) :
    WbAt ms Hb (upd H2 bd (.lst (ors.map V.ref ++ [.ref o]))) p a sp lf so bd ns tb nm own spr pl d (k + 1) t2 lo2 ca2 rem2 (lost2 ++ lost) pts2 (tr.app u) (ors ++ [o]) := by
  obtain ⟨n1, n2, n3, n4, n5⟩ := nb
  obtain ⟨l2, PA2⟩ := pen2
  have e : (k + 1) * wdr1 d = k * wdr1 d + wdr1 d := Nat.succ_mul _ _
  have e2 : (k + 1) * wsz1 d = k * wsz1 d + wsz1 d := Nat.succ_mul _ _
  have h3 := W.lo_
  have h4 := W.hi_
  have sub : ∀ m ∈ [so, p, sp, lf], m ∈ bd :: so :: ms := fun m hm => by
    rcases List.mem_cons.mp hm with rfl | hm
    · simp
    · exact List.mem_cons_of_mem _ (List.mem_cons_of_mem _ (hms m hm))
  have S : Same (hid (bd :: so :: ms) H') (hid (bd :: so :: ms) (upd H2 bd (.lst (ors.map V.ref ++ [.ref o])))) := ((k2.sub sub).put List.mem_cons_self).hid
  have S2 : Same (hid (bd :: so :: ms) H2) (hid (bd :: so :: ms) (upd H2 bd (.lst (ors.map V.ref ++ [.ref o])))) := ((Kp.refl _ H2).put List.mem_cons_self).hid
  refine ⟨?_, ⟨l2, PA2.upd' n1.symm n4.symm⟩, by omega, by rw [e]; omega, (upd_ne n2.symm).trans esp, (upd_ne n3.symm).trans elf, (upd_ne n5.symm).trans eso, by rw [upd_same, List.map_append]; rfl, (hu.same S2).app tr (W.ords.same S), ?_, wf_app tr wf W.wf, ?_, ?_, ptm, ?_, ?_⟩
  · exact (W.kb.trans (k2.sub fun m hm => List.mem_cons_of_mem _ hm)).put List.mem_cons_self
  · rw [decl_app]
    refine List.Perm.trans ?_ W.perm
    have h5 : (own ++ (declT tr ++ declT u) ++ rem2 ++ (lost2 ++ lost)) = (own ++ declT tr) ++ (declT u ++ rem2 ++ lost2) ++ lost := by simp only [List.append_assoc]
    rw [h5]
    exact (List.Perm.append_left _ pm).append_right _
  · rw [dep_app]
    have := W.dep
    omega
  · rw [size_app, e2]
    have := W.sz
    omega
  · have := W.ptl
    omega
  · rw [List.length_append]
    exact Nat.add_le_add_right W.orl 1
structure Blt4 (mg : Str → Option Value) : Prop where
  mn : mg "min" = none
  rg : mg "range" = none
  len : mg "len" = none
section
variable {P : Program} {w : World} {K : PySem.W.Frag} {mg : Str → Option Value} {base : Heap}
/-- a drawn block -/
def spWB (e : Nat) : Sp := fun vs H Q _ => ∃ (p a nA sp po lf : Addr) (ns : List Int) (t l lo ca : Int) (nm spr pt : List Str) (d size : Nat) (ms : List Addr), d < e ∧
  vs = [.ref p, .ref nA, .ref sp, .ref po, .int (size : Nat), .int (d : Nat), .ref lf] ∧ PenAt H p a ns t l ∧ t + wdr d size ≤ 999000 ∧ H nA = some (.lst (nm.map V.str)) ∧ 0 < nm.length ∧ nm.length + spr.length ≤ 900 ∧
  H sp = some (.lst (spr.map V.str)) ∧ H po = some (.lst (pt.map V.str)) ∧ size ≤ 10 ∧ pt.length + 10 * (d + 1) ≤ 800 ∧ (∀ y ∈ nm, PyData.strOk y = true) ∧ (∀ y ∈ spr, PyData.strOk y = true) ∧
  nA ≠ sp ∧ a ≠ sp ∧ po ≠ sp ∧ lf ≠ p ∧ H lf = some (.dK (leftD lo ca)) ∧ (∀ m ∈ [p, sp, lf], m ∈ ms) ∧ (∀ m ∈ ms, H m ≠ none) ∧
  ∀ (x : Addr) (cs : List Str) (tr : T) (spr' lost : List Str) (t' lo' ca' : Int) (H' : Hp), Kp [p, sp, lf] H H' → (∃ l', PenAt H' p a ns t' l') → t ≤ t' → t' ≤ t + wdr d size → H' sp = some (.lst (spr'.map V.str)) → H' lf = some (.dK (leftD lo' ca')) →
    (cs ++ declT tr ++ spr' ++ lost).Perm spr → cs.length ≤ 1 → BlkH ms H H' x cs tr → H x = none → wfT (nm ++ cs) d tr → depT tr ≤ d → sizeT tr ≤ wsz d size → lenT tr ≤ size → Q (.ref x) H'
abbrev nWB : List Str := ["_law_pen", "_law_names", "_law_spare", "_law_pointed", "_law_size", "_law_deep", "_law_left", "_law_own", "_law_here", "_law_some", "_law_body", "_law_k", "_law_way", "_law_inner", "_law_other", "_law_name"]
abbrev pWB : List Str := ["_law_pen", "_law_names", "_law_spare", "_law_pointed", "_law_size", "_law_deep", "_law_left"]
theorem scWB : FnScope nWB pWB (defScope qWideBlock) := ⟨rfl, rfl, rfl, by decide +kernel, rfl, by decide +kernel, by decide +kernel⟩
theorem ok_wb {f : Addr} {fd : FuncData} (F : Fun K "_law_wide_block" "_law_wide_block" qWideBlock f fd) (B : Blt4 mg) (DD : Def P w K mg base "_law_draw" 1 ["_law_pen", "_law_span"] spDraw) (DP : Def P w K mg base "_law_pick" 2 ["_law_pen", "_law_options"] spPick)
    (DN : Def P w K mg base "_law_new_order" 3 ["_law_pen", "_law_names", "_law_pointed", "_law_left"] spNO) (g : mg "_law_wide_block" = some (.ref f)) (kp : W.keepIn K (.ref f) = true) (b : Binds K fd pWB []) :
    ∀ e, FnOk P w K mg base CX0 (e + 3) f fd pWB (spWB e)
  | 0 => ⟨fun vs H Q E h => (by obtain ⟨p, a, nA, sp, po, lf, ns, t, l, lo, ca, nm, spr, pt, d, size, ms, h, _⟩ := h; exact absurd h (Nat.not_lt_zero _)), fun A outer s H args us vs Q E _ _ _ _ h => (by obtain ⟨p, a, nA, sp, po, lf, ns, t, l, lo, ca, nm, spr, pt, d, size, ms, h, _⟩ := h; exact absurd h (Nat.not_lt_zero _))⟩
  | e + 1 => by
    have GW := ok_wb F B DD DP DN g kp b e
    obtain ⟨fD, fdD, gD, kD, bD, GD⟩ := DD.ex
    obtain ⟨fP, fdP, gP, kP, bP, GP⟩ := DP.ex
    obtain ⟨fN, fdN, gN, kN, bN, GN⟩ := DN.ex
    refine F.ok scWB (fun vs H Q E h => ?_) (fun cdv A outer s H vs Q E hr h => ?_)
    · obtain ⟨p, a, nA, sp, po, lf, ns, t, l, lo, ca, nm, spr, pt, d, size, ms, _, rfl, _⟩ := h
      rfl
    obtain ⟨p, a, nA, sp, po, lf, ns, t, l, lo, ca, nm, spr, pt, d, size, ms, hde, rfl, PA0, ht, hn, hn0, hnl, hsp, hpo, hsz, hpl, hok, hoks, nns, nas, nps, nlp, hlf, hms, hma, q⟩ := h
    have hu := hu_of hr
    have hr1 := hr.mono (show 1 ≤ e + 3 by omega)
    have hr2 := hr.mono (show 2 ≤ e + 3 by omega)
    have hr3 := hr.mono (show 3 ≤ e + 3 by omega)
    refine ⟨_, pss_cons (ps_setLc (i := 7) (own := [("_law_k", 11)]) (g := gName 11) (tt := tYes) (te := tBM K "list" rPop (tVar 2) tNil) (by rfl) scWB.nd rfl rfl (sw_true rfl rfl rfl (by decide +kernel))
        (pi_range1 (by rfl) B.rg (pa_cons (pe_callB (call_min2 (by rfl)) (by rfl) B.mn (by decide +kernel) (pa_cons (pe_callB call_len_seq (by rfl) B.len boot_len (pa_cons (pv 2) pa_nil)) (pa_cons (pe_call GD hr1 rfl gD kD bD .nil pass0 (pa_cons (pv 0) (pa_cons pe_int pa_nil))) pa_nil))) pa_nil))
        (blkOk_by (own := [("_law_k", 11)]) (N := nWB) (sc := defScope qWideBlock) (by decide +kernel)) (fun _ _ _ _ _ => pg_name (i := 11) scWB.nd rfl (Or.inl rfl)) (fun _ _ _ _ _ => pts_nil)
        (fun _ _ _ _ _ => pe_bm0 PySem.F.plainAttrs_list PySem.F.slot_list_pop PySem.F.type_list_pop mt_pop (pv 2)))
      (pss_cons (ps_par3 (i := 8) (j := 9) (l := 10) (by rfl) scWB.nd rfl rfl rfl (by decide) (by decide) (by decide) rfl rfl rfl (pa_cons (pe_op op_cat (pv 1) (pv 7))
          (pa_cons (pe_lc (own := [("_law_name", 15)]) (g := gName 15) (tt := tTest (tOp (rIn K false) (tVar 15) (tVar 1))) (te := tVar 15) (by rfl) scWB.nd (pi_list (pv 3)) (blkOk_by (own := [("_law_name", 15)]) (N := nWB) (sc := defScope qWideBlock) (by decide +kernel))
            (fun _ _ _ _ _ => pg_name (i := 15) scWB.nd rfl (Or.inl rfl)) (fun _ _ _ _ _ => pts_one (pt_cmpR op_in_seq (pv 15) (pv 1) (by rfl))) (fun _ _ _ _ _ => pv 15)) (pa_cons (pe_lst pa_nil) pa_nil))) (by rfl))
      (pss_cons (ps_for PassesOwn.never rfl (pi_range1 (by rfl) B.rg (pa_cons (pv 4) pa_nil)) (pg_name (i := 11) scWB.nd rfl (Or.inl rfl))
        (pss_cons (ps_set (i := 12) scWB.nd rfl (.inl rfl) (pe_ifExp (pt_cmpR op_gt (pv 5) pe_int (nomark _)) (pe_call GD hr1 rfl gD kD bD .nil pass0 (pa_cons (pv 0) (pa_cons pe_int pa_nil))) pe_int))
        (pss_cons (ps_if (pt_cmpR op_gt (pv 12) pe_int (nomark _)) (pss_cons (ps_expr (pe_bm PySem.F.plainAttrs_list PySem.F.slot_list_append PySem.F.type_list_append mt_append (pv 10)
            (pa_cons (pe_call GN hr3 rfl gN kN bN .nil pass0 (pa_cons (pv 0) (pa_cons (pv 8) (pa_cons (pv 9) (pa_cons (pv 6) pa_nil))))) pa_nil))) (pss_one ps_continue)) pss_nil)
        (pss_cons (ps_set (i := 13) scWB.nd rfl (.inl rfl) (pe_call GW hr rfl g kp b .nil pass0 (pa_cons (pv 0) (pa_cons (pv 8) (pa_cons (pv 2) (pa_cons (pv 9) (pa_cons (pe_op op_add pe_int (pe_call GD hr1 rfl gD kD bD .nil pass0 (pa_cons (pv 0) (pa_cons pe_int pa_nil)))) (pa_cons (pe_op op_sub (pv 5) pe_int) (pa_cons (pv 6) pa_nil)))))))))
        (pss_cons (ps_set (i := 14) scWB.nd rfl (.inl rfl) pe_non)
        (pss_cons (ps_if (pt_cmpR op_eq (pe_call GD hr1 rfl gD kD bD .nil pass0 (pa_cons (pv 0) (pa_cons pe_int pa_nil))) pe_int (nomark _))
          (pss_one (ps_set (i := 14) scWB.nd rfl (.inl rfl) (pe_call GW hr rfl g kp b .nil pass0 (pa_cons (pv 0) (pa_cons (pv 8) (pa_cons (pv 2) (pa_cons (pv 9) (pa_cons (pe_call GD hr1 rfl gD kD bD .nil pass0 (pa_cons (pv 0) (pa_cons pe_int pa_nil))) (pa_cons (pe_op op_sub (pv 5) pe_int) (pa_cons (pv 6) pa_nil)))))))))) pss_nil)
        (pss_one (ps_if (PW.pt (pw_and (pt_cmpR op_eq (pv 12) pe_int (nomark _)) (pw_and1 (pt_cmpR op_gt (pe_dget hu (pv 6) pe_str (fun _ _ => rfl)) pe_int (nomark _)))))
          (pss_cons (ps_dput hu (pv 6) pe_str (pe_op op_sub (pe_dget hu (pv 6) pe_str (fun _ _ => rfl)) pe_int) rfl) (pss_one (ps_expr (pe_bm PySem.F.plainAttrs_list PySem.F.slot_list_append PySem.F.type_list_append mt_append (pv 10) (pa_cons (pe_tup (pa_cons pe_str (pa_cons (pv 13) pa_nil))) pa_nil)))))
          (pss_one (ps_if (pt_cmpR op_lt (pv 12) pe_int (nomark _)) (pss_one (ps_expr (pe_bm PySem.F.plainAttrs_list PySem.F.slot_list_append PySem.F.type_list_append mt_append (pv 10) (pa_cons (pe_tup (pa_cons pe_str (pa_cons (pv 13) pa_nil))) pa_nil))))
          (pss_one (ps_if (pt_cmpR op_eq (pe_call GD hr1 rfl gD kD bD .nil pass0 (pa_cons (pv 0) (pa_cons pe_int pa_nil))) pe_int (nomark _))
            (pss_one (ps_expr (pe_bm PySem.F.plainAttrs_list PySem.F.slot_list_append PySem.F.type_list_append mt_append (pv 10) (pa_cons (pe_tup (pa_cons pe_str (pa_cons (pv 13) (pa_cons (pv 14) pa_nil)))) pa_nil))))
            (pss_one (ps_expr (pe_bm PySem.F.plainAttrs_list PySem.F.slot_list_append PySem.F.type_list_append mt_append (pv 10) (pa_cons (pe_tup (pa_cons pe_str (pa_cons (pe_call GP hr2 rfl gP kP bP .nil pass0 (pa_cons (pv 0) (pa_cons (pv 8) pa_nil)))
              (pa_cons (pe_call GP hr2 rfl gP kP bP .nil pass0 (pa_cons (pv 0) (pa_cons (pv 8) pa_nil))) (pa_cons (pv 13) (pa_cons (pv 14) pa_nil)))))) pa_nil))))))))))))))))
      (pss_one (ps_ret (pe_disp (pps_cons pe_str (pv 7) (pps_cons pe_str (pv 10) pps_nil)) (by rfl) (by rfl) (fun z => by cases z) (by decide)))))), ?_⟩
    have hsprl : (spr.map V.str).length = spr.length := List.length_map ..
    refine ⟨_, rfl, sp, _, rfl, .inl (SqL.of hsp), _, rfl, tConsC_i (tNil_i ⟨p, a, ns, t, l, 2, rfl, PA0, by omega, by decide, by decide, fun w1 t1 l1 H1 w0 w2 u0 u1 b1 PA1 => ?_⟩)⟩
    have npsp : sp ≠ p := ne_of hsp PA0.p (by intro z; cases z)
    have npoP : po ≠ p := ne_of hpo PA0.p (by intro z; cases z)
    have nnp' : nA ≠ p := ne_of hn PA0.p (by intro z; cases z)
    have nlsp : lf ≠ sp := ne_of hlf hsp (by intro z; cases z)
    have nalf : a ≠ lf := ne_of PA0.a hlf (by intro z; cases z)
    have npolf : po ≠ lf := ne_of hpo hlf (by intro z; cases z)
    have nnlf : nA ≠ lf := ne_of hn hlf (by intro z; cases z)
    have hsp1 := b1 sp _ npsp hsp
    have hlf1 := b1 lf _ nlp hlf
    rw [hsprl]
    obtain ⟨m0, em, hm1, hm2⟩ : ∃ m0 : Nat, (if w1 < (spr.length : Int) then w1 else (spr.length : Int)) = (m0 : Int) ∧ m0 ≤ 1 ∧ m0 ≤ spr.length := by
      split
      · exact ⟨w1.toNat, by omega, by omega, by omega⟩
      · exact ⟨spr.length, rfl, by omega, Nat.le_refl _⟩
    refine tNil_i ⟨_, _, rfl, ?_⟩
    rw [em]
    refine tNil_i ⟨_, rfl, by omega, by omega, fun D nD => ?_⟩
    rw [Int.toNat_natCast]
    have nDsp : D ≠ sp := (ne_of_none hsp1 nD).symm
    have nDp : D ≠ p := (ne_of_none PA1.p nD).symm
    have nDa : D ≠ a := (ne_of_none PA1.a nD).symm
    have nDlf : D ≠ lf := (ne_of_none hlf1 nD).symm
    refine lc_it walk_range (fun k H' => ∃ got rem, k ≤ m0 → (Kp [p, sp, lf] H1 H' ∧ PenAt H' p a ns t1 l1 ∧ H' sp = some (.lst (List.map V.str rem)) ∧ H' D = some (.lst (List.map V.str got)) ∧ H' lf = some (.dK (leftD lo ca)) ∧ (got ++ rem).Perm spr ∧ got.length = k)) ⟨[], spr, fun _ => ⟨Kp.of (new_same nD), PA1.new nD, (new_same nD) _ _ hsp1, upd_same, (new_same nD) _ _ hlf1, .refl _, rfl⟩⟩ (fun _ _ _ _ => True.intro) ?_ ?_
    · rintro k v H' H'' hk ⟨got, rem, hI⟩ ⟨rfl, rfl⟩
      obtain ⟨kp1, PA2, e1, e2, e3, pm, gl⟩ := hI (Nat.le_of_lt hk)
      have hne : rem ≠ [] := by
        intro z
        have := pm.length_eq
        rw [List.length_append, z, List.length_nil] at this
        omega
      obtain ⟨y, hy, ey⟩ := pop_split rem hne
      refine ⟨rfl, _, rfl, .inl ⟨rfl, _, SqL.of e1⟩, tNil_i ⟨sp, _, .str y, rfl, rfl, e1, ?_, got.map V.str, (upd_ne nDsp).trans e2, ?_, got ++ [y], rem.dropLast, fun _ => ⟨(kp1.put (by simp)).put0 nD, ?_, ?_, ?_, ?_, ?_, ?_⟩⟩⟩
      · rw [List.length_map, List.getElem?_map, hy]; rfl
      · rw [List.length_map, gl]; exact small1000 (by omega)
      · exact (PA2.upd' npsp.symm nas).upd' nDp.symm nDa.symm
      · rw [upd_ne nDsp.symm, upd_same, List.map_dropLast]
      · rw [upd_same, List.map_append]; rfl
      · exact (upd_ne nDlf.symm).trans ((upd_ne nlsp).trans e3)
      · refine List.Perm.trans ?_ pm
        conv => rhs; rw [ey]
        rw [List.append_assoc]
        exact List.Perm.append_left _ List.perm_append_comm
      · rw [List.length_append, gl]; rfl
    rintro H2 ⟨own, rem, hI⟩
    obtain ⟨kp2, PA2, esp2, eow2, elf2, pm2, ol⟩ := hI (Nat.le_refl _)
    have k02 : Kp [p, sp, lf] H H2 := (Kp.but b1 (by simp)).trans kp2
    have hms2 : ∀ m ∈ [p, sp, lf], H2 m ≠ none := fun m hm => by
      rcases List.mem_cons.mp hm with rfl | hm
      · exact some_ne PA2.p
      rcases List.mem_cons.mp hm with rfl | hm
      · exact some_ne esp2
      · rw [List.mem_singleton.mp hm]; exact some_ne elf2
    have nn3 : nA ∉ [p, sp, lf] := by simp [nnp', nns, nnlf]
    have np3 : po ∉ [p, sp, lf] := by simp [npoP, nps, npolf]
    have hn2 := k02 _ _ nn3 hn
    have hpo2 := k02 _ _ np3 hpo
    have hownl : own.length ≤ 1 := by omega
    -- what can be named here
    refine ⟨_, rfl, _, rfl, nA, D, _, _, rfl, rfl, hn2, eow2, sz1000 (by rw [List.length_map, List.length_map]; omega), fun he nhe => ?_⟩
    have S3 := new_same (o := .lst (nm.map V.str ++ own.map V.str)) nhe
    have ehe : (upd H2 he (.lst (nm.map V.str ++ own.map V.str))) he = some (.lst ((nm ++ own).map V.str)) := by rw [upd_same, List.map_append]
    generalize upd H2 he (.lst (nm.map V.str ++ own.map V.str)) = H3 at *
    refine ⟨_, rfl, po, rfl, ⟨_, SqL.of (S3 _ _ hpo2)⟩, fun so nso => lc_it (walk_list (xs := pt.map V.str)) (fun k H' => Same H3 H' ∧ ∃ pts, H' so = some (.lst (List.map V.str pts)) ∧ (∀ y ∈ pts, y ∈ nm) ∧ pts.length ≤ k) ⟨new_same nso, [], upd_same, fun _ z => (by cases z), Nat.le_refl _⟩ (fun _ H' _ z => SqL.of ((S3.trans z.1) _ _ hpo2)) ?_ ?_⟩
    · rintro k v H4 H5 hk ⟨S4, pts, e4, hp4, hl4⟩ ⟨rfl, hv⟩
      rw [List.getElem?_map] at hv
      obtain ⟨y, hy, rfl⟩ := Option.map_eq_some_iff.mp hv
      refine ⟨rfl, _, rfl, _, rfl, nA, _, rfl, .inl (SqL.of ((S3.trans S4) _ _ hn2)), rfl, strs_flatB _, ?_⟩
      rw [if_neg Bool.false_ne_true, inV_strB]
      rw [List.length_map] at hk
      refine ⟨_, rfl, ite2 (fun c => ⟨_, rfl, _, e4, by rw [List.length_map]; exact small1000 (by omega), Same.put S4 nso, pts ++ [y], by rw [upd_same, List.map_append]; rfl, fun z hz => ?_, by rw [List.length_append]; exact Nat.add_le_add_right hl4 1⟩) fun _ => ⟨S4, pts, e4, hp4, by omega⟩⟩
      rcases List.mem_append.mp hz with h | h
      · exact hp4 z h
      · rw [List.mem_singleton.mp h]; exact of_decide_eq_true c
    rintro H4 ⟨S4, pts, e4, hp4, hl4⟩
    rw [List.length_map] at hl4
    refine ⟨Nat.zero_le _, fun bd nbd => tNil_i ⟨_, _, _, rfl, ?_⟩⟩
    have S5 := S4.trans (new_same (o := .lst []) nbd)
    have S25 := S3.trans S5
    have k05 : Kp [p, sp, lf] H _ := k02.trans (Kp.of S25)
    have ebd := new_at (o := .lst []) nbd
    have ehe5 := S5 _ _ ehe
    have eow5 := S25 _ _ eow2
    have eso5 := (new_same (o := .lst []) nbd) _ _ e4
    have esp5 := S25 _ _ esp2
    have elf5 := S25 _ _ elf2
    have PA5 : PenAt _ p a ns t1 l1 := ⟨S25 _ _ PA2.p, S25 _ _ PA2.a, PA2.n, PA2.t0, PA2.l0⟩
    have fhe : H he = none := k02.free hms2 nhe
    have fso : H so = none := k02.free hms2 (S3.free nso)
    have fbd : H bd = none := k02.free hms2 ((S3.trans S4).free nbd)
    have fow : H D = none := (Kp.but b1 (ms := [p, sp, lf]) (by simp)).free (fun m hm => by
      rcases List.mem_cons.mp hm with rfl | hm
      · exact some_ne PA1.p
      rcases List.mem_cons.mp hm with rfl | hm
      · exact some_ne hsp1
      · rw [List.mem_singleton.mp hm]; exact some_ne hlf1) nD
    have nbdso : bd ≠ so := (ne_of_none e4 nbd).symm
    have nbdhe : bd ≠ he := (ne_of_none (S4 _ _ ehe) nbd).symm
    have nsohe : so ≠ he := (ne_of_none ehe nso).symm
    have nbdD : bd ≠ D := (ne_of_none ((S3.trans S4) _ _ eow2) nbd).symm
    have nsoD : so ≠ D := (ne_of_none (S3 _ _ eow2) nso).symm
    have nsp_ : ∀ {z : Addr}, H z = none → z ≠ p ∧ z ≠ sp ∧ z ≠ lf ∧ z ≠ a := fun {z} fz => ⟨(ne_of_none PA0.p fz).symm, (ne_of_none hsp fz).symm, (ne_of_none hlf fz).symm, (ne_of_none PA0.a fz).symm⟩
    generalize upd H4 bd (.lst []) = Hb at *
    have nb : bd ≠ p ∧ bd ≠ sp ∧ bd ≠ lf ∧ bd ≠ a ∧ bd ≠ so := ⟨(nsp_ fbd).1, (nsp_ fbd).2.1, (nsp_ fbd).2.2.1, (nsp_ fbd).2.2.2, nbdso⟩
    have hwe := wdr_eq d size
    have hse := wsz_eq d size
    refine ⟨_, rfl, tNil_i ⟨_, rfl, by omega, by omega, ?_⟩⟩
    rw [Int.toNat_natCast]
    refine for_it walk_range (fun k σ H' => ∃ z11 z12 z13 z14 t' lo' ca' rem' lost pts' tr ors, σ = [some (.ref p), some (.ref nA), some (.ref sp), some (.ref po), some (.int (size : Nat)), some (.int (d : Nat)), some (.ref lf), some (.ref D), some (.ref he), some (.ref so), some (.ref bd), z11, z12, z13, z14, none] ∧
      WbAt ms Hb H' p a sp lf so bd ns t1 nm own spr pt.length d k t' lo' ca' rem' lost pts' tr ors)
      ⟨_, _, _, _, t1, lo, ca, rem, [], pts, .nil, [], rfl, ⟨Kp.refl _ _, ⟨l1, PA5⟩, Int.le_refl _, by omega, esp5, elf5, eso5, ebd, rfl, by rw [show declT .nil = [] from rfl, List.append_nil, List.append_nil]; exact pm2, (by cases d <;> trivial), Nat.zero_le _, Nat.zero_le _, fun y hy => List.mem_append_left _ (hp4 y hy), by omega, Nat.zero_le _⟩⟩ (fun _ _ _ _ _ => True.intro) ?_ ?_
    · rintro k v σ H5 H6 hk ⟨z11, z12, z13, z14, t6, lo6, ca6, rem6, lost6, pts6, tr, ors, rfl, W⟩ ⟨rfl, rfl⟩
      have hk10 : (k + 1) * wdr1 d ≤ size * wdr1 d := Nat.mul_le_mul_right _ hk
      have hk1 : (k + 1) * wdr1 d = k * wdr1 d + wdr1 d := Nat.succ_mul _ _
      have w1 := W.hi_
      have w2 := W.lo_
      obtain ⟨l6, PA6⟩ := W.pen
      have nhe5 : he ∉ [bd, so, p, sp, lf] := by simp [nbdhe.symm, nsohe.symm, (nsp_ fhe).1, (nsp_ fhe).2.1, (nsp_ fhe).2.2.1]
      have ehe6 := W.kb _ _ nhe5 ehe5
      have nosp := nsp_ fso
      have hen0 : 0 < (nm ++ own).length := by rw [List.length_append]; omega
      have hokA : ∀ y ∈ nm ++ own, PyData.strOk y = true := fun y hy => by
        rcases List.mem_append.mp hy with h | h
        · exact hok y h
        · exact hoks y (W.perm.subset (by simp [h]))
      have hpml := W.perm.length_eq
      simp only [List.length_append] at hpml
      have wpl := W.ptl
      dsimp only
      refine seq_mid (fun v H7 => ∃ (w7 t7 l7 : Int), v = .int w7 ∧ 0 ≤ w7 ∧ (d = 0 → w7 = 9) ∧ But p H6 H7 ∧ PenAt H7 p a ns t7 l7 ∧ t6 ≤ t7 ∧ t7 ≤ t6 + 1) (fun Qy hq => ?_) ?_
      · refine ⟨_, rfl, _, _, rfl, rfl, _, rfl, ite2 (fun c => ?_) fun c => hq _ _ ⟨9, t6, l6, rfl, by omega, fun _ => rfl, But.refl _ _, PA6, Int.le_refl _, by omega⟩⟩
        refine ⟨_, rfl, tConsC_i (tNil_i ⟨p, a, ns, t6, l6, 9, rfl, PA6, by omega, by decide, by decide, fun w7 t7 l7 H7 z0 z1 z2 z3 b7 PA7 => hq _ _ ⟨w7, t7, l7, rfl, z0, fun hd0 => ?_, b7, PA7, z2, z3⟩⟩)⟩
        subst hd0
        exact absurd (of_decide_eq_true c) (by omega)
      rintro _ H7 ⟨w7, t7, l7, rfl, hw0, hw9, b7, PA7, q0, q1⟩
      have esp7 := b7 _ _ npsp W.esp
      have elf7 := b7 _ _ nlp W.elf
      have eso7 := b7 _ _ nosp.1 W.eso
      have ebd7 := b7 _ _ nb.1 W.ebd
      have ehe7 := b7 _ _ (nsp_ fhe).1 ehe6
      refine ⟨_, rfl, _, _, rfl, rfl, _, rfl, ite2 (fun c => ?_) fun c => ?_⟩
      · refine ⟨_, rfl, .inl ⟨rfl, _, SqL.of ebd7⟩, _, rfl, _, rfl, _, rfl, _, rfl, tNil_i ⟨p, a, he, so, lf, ns, t7, l7, lo6, ca6, nm ++ own, pts6, rfl, PA7, ?_, ehe7, hen0, by rw [List.length_append]; omega, eso7, by omega, hokA, W.ptm, nsohe.symm, nosp.2.2.2.symm, nlp, elf7, fun kd r pts8 t8 ca8 H8 hkd N hl8 hs8 hr8 er8 => ?_⟩⟩
        · have : wdr1 d ≥ 8 := by cases d <;> simp only [wdr1] <;> omega
          omega
        have ebd8 := N.kp _ _ (by simp [nb.1, nb.2.2.1, nb.2.2.2.2]) ebd7
        have hrMS : r ∉ bd :: so :: ms := by
          intro hm
          rcases List.mem_cons.mp hm with rfl | hm
          · rw [ebd7] at hr8; cases hr8
          rcases List.mem_cons.mp hm with rfl | hm
          · rw [eso7] at hr8; cases hr8
          · by_cases h3 : r ∈ [p, sp, lf]
            · rcases List.mem_cons.mp h3 with rfl | h3
              · rw [PA7.p] at hr8; cases hr8
              rcases List.mem_cons.mp h3 with rfl | h3
              · rw [esp7] at hr8; cases hr8
              · rw [List.mem_singleton.mp h3, elf7] at hr8; cases hr8
            · have hne := hma r hm
              cases e0 : H r with
              | none => exact hne e0
              | some u0 =>
                have := k05 r u0 h3 e0
                have h5 : r ∉ [bd, so, p, sp, lf] := fun h => by
                  rcases List.mem_cons.mp h with rfl | h
                  · exact hne fbd
                  rcases List.mem_cons.mp h with rfl | h
                  · exact hne fso
                  · exact h3 h
                have := b7 r u0 (fun z => h3 (by rw [z]; simp)) (W.kb r u0 h5 this)
                rw [hr8] at this
                cases this
        refine ⟨bd, _, _, rfl, rfl, ebd8, by rw [List.length_map]; exact small1000 (by have := W.orl; omega), ?_⟩
        refine ⟨_, _, _, _, t8, lo6, ca8, rem6, [] ++ lost6, pts8, tr.app (.deed kd .nil), ors ++ [r], rfl, W.add hms nb (H2 := H8) (((Kp.but b7 (by simp)).trans (N.kp.sub fun m hm => ?_))) N.pen (by have := N.lo_; omega) ?_ ?_ N.lf N.po ⟨r, [], rfl, hid_at hrMS er8, rfl⟩ (by simp [declT]) ?_ ?_ ?_ hs8 hl8⟩
        · rcases List.mem_cons.mp hm with rfl | hm
          · simp
          rcases List.mem_cons.mp hm with rfl | hm
          · simp
          · rw [List.mem_singleton.mp hm]; simp
        · have := N.hi_
          have : wdr1 d ≥ 8 := by cases d <;> simp only [wdr1] <;> omega
          omega
        · exact N.kp _ _ (by simp [npsp, nosp.2.1.symm, nlsp.symm]) esp7
        · cases d <;> exact ⟨hkd, trivial⟩
        · simp [depT]
        · cases d <;> simp only [sizeT, wsz1] <;> omega
      -- an order with blocks
      have alive6 : ∀ m ∈ bd :: so :: ms, H6 m ≠ none := by
        have h5 : ∀ m ∈ [bd, so, p, sp, lf], H6 m ≠ none := fun m hm => by
          rcases List.mem_cons.mp hm with rfl | hm
          · exact some_ne W.ebd
          rcases List.mem_cons.mp hm with rfl | hm
          · exact some_ne W.eso
          rcases List.mem_cons.mp hm with rfl | hm
          · exact some_ne PA6.p
          rcases List.mem_cons.mp hm with rfl | hm
          · exact some_ne W.esp
          · rw [List.mem_singleton.mp hm]; exact some_ne W.elf
        have h3 : ∀ m ∈ [p, sp, lf], Hb m ≠ none := fun m hm => by
          rcases List.mem_cons.mp hm with rfl | hm
          · exact some_ne PA5.p
          rcases List.mem_cons.mp hm with rfl | hm
          · exact some_ne esp5
          · rw [List.mem_singleton.mp hm]; exact some_ne elf5
        intro m hm
        rcases List.mem_cons.mp hm with rfl | hm
        · exact some_ne W.ebd
        rcases List.mem_cons.mp hm with rfl | hm
        · exact some_ne W.eso
        · exact W.kb.alive h5 (k05.alive h3 (hma m hm))
      have hms3 : ∀ m ∈ [p, sp, lf], m ∈ bd :: so :: ms := fun m hm => List.mem_cons_of_mem _ (List.mem_cons_of_mem _ (hms m hm))
      cases d with
      | zero =>
        have := hw9 rfl
        subst this
        exact absurd (by rfl) c
      | succ d' =>
      have hde' : d' < e := Nat.lt_of_succ_lt_succ hde
      have hd1 : wdr1 (d' + 1) = 8 + wdr d' 3 + wdr d' 2 := rfl
      have hs1 : wsz1 (d' + 1) = 5 + wsz d' 3 + wsz d' 2 := rfl
      have eS : (((d' + 1 : Nat) : Int) - 1) = (d' : Nat) := by omega
      have three : ∀ {H8 : Hp} {t8 l8 : Int} {rem8 : List Str} {lo8 ca8 : Int}, PenAt H8 p a ns t8 l8 → H8 sp = some (.lst (List.map V.str rem8)) → H8 lf = some (.dK (leftD lo8 ca8)) → ∀ m ∈ [p, sp, lf], H8 m ≠ none := fun h1 h2 h3 m hm => by
        rcases List.mem_cons.mp hm with rfl | hm
        · exact some_ne h1.p
        rcases List.mem_cons.mp hm with rfl | hm
        · exact some_ne h2
        · rw [List.mem_singleton.mp hm]; exact some_ne h3
      -- a block within, of at most three orders
      have inner : ∀ (H8 : Hp) (t8 l8 lo8 ca8 : Int) (rem8 : List Str) (n : Nat) (Qy : VK), Kp [p, sp, lf] H6 H8 → PenAt H8 p a ns t8 l8 → t8 + wdr d' n ≤ 999000 → n ≤ 3 → H8 sp = some (.lst (rem8.map V.str)) → H8 lf = some (.dK (leftD lo8 ca8)) → rem8.length ≤ rem6.length → (∀ y ∈ rem8, y ∈ rem6) →
          (∀ (x : Addr) (cs : List Str) (tr : T) (spr' lost : List Str) (t' lo' ca' : Int) (H' : Hp), Kp [p, sp, lf] H8 H' → (∃ l', PenAt H' p a ns t' l') → t8 ≤ t' → t' ≤ t8 + wdr d' n → H' sp = some (.lst (spr'.map V.str)) → H' lf = some (.dK (leftD lo' ca')) →
            (cs ++ declT tr ++ spr' ++ lost).Perm rem8 → BlkAt (hid (bd :: so :: ms) H') x cs tr → wfT (nm ++ own ++ cs) d' tr → depT tr ≤ d' → locN cs + sizeT tr ≤ 1 + wsz d' n → Qy (.ref x) H') →
          spWB e [.ref p, .ref he, .ref sp, .ref so, .int (n : Nat), .int (d' : Nat), .ref lf] H8 Qy E0 := by
        intro H8 t8 l8 lo8 ca8 rem8 n Qy k8 PA8 h1 h2 esp8 elf8 h3 h4 hk
        have ne3 : ∀ z, H z = none → z ∉ [p, sp, lf] := fun z fz => by simp [(nsp_ fz).1, (nsp_ fz).2.1, (nsp_ fz).2.2.1]
        refine ⟨p, a, he, sp, so, lf, ns, t8, l8, lo8, ca8, nm ++ own, rem8, pts6, d', n, bd :: so :: ms, hde', rfl, PA8, h1, k8 _ _ (ne3 _ fhe) ehe6, hen0, by rw [List.length_append]; omega, esp8, k8 _ _ (ne3 _ fso) W.eso, by omega, by omega, hokA, fun y hy => hoks y (W.perm.subset (by simp [h4 y hy])),
          (nsp_ fhe).2.1, nas, nosp.2.1, nlp, elf8, hms3, fun m hm => k8.alive (three PA8 esp8 elf8) (alive6 m hm), ?_⟩
        intro x cs tr spr' lost t' lo' ca' H' a1 a2 a3 a4 a5 a6 a7 a8 a9 a10 a11 a12 a13 _
        exact hk x cs tr spr' lost t' lo' ca' H' a1 a2 a3 a4 a5 a6 a7 a9.at_ a11 a12 (by have := loc_le cs; omega)
      have k67 : Kp [p, sp, lf] H6 H7 := Kp.but b7 (by simp)
      dsimp only [tNext]
      refine seq_mid (fun v H9 => ∃ (y : Addr) (cb : List Str) (bt : T) (rem9 lost9 : List Str) (t9 l9 lo9 ca9 : Int), v = .ref y ∧ Kp [p, sp, lf] H6 H9 ∧ PenAt H9 p a ns t9 l9 ∧ t6 ≤ t9 ∧ t9 ≤ t6 + 2 + wdr d' 3 ∧ H9 sp = some (.lst (rem9.map V.str)) ∧ H9 lf = some (.dK (leftD lo9 ca9)) ∧
        (cb ++ declT bt ++ rem9 ++ lost9).Perm rem6 ∧ BlkAt (hid (bd :: so :: ms) H9) y cb bt ∧ wfT (nm ++ own ++ cb) d' bt ∧ depT bt ≤ d' ∧ locN cb + sizeT bt ≤ 1 + wsz d' 3) (fun Qy hq => ?_) ?_
      · refine ⟨_, rfl, _, rfl, _, rfl, _, rfl, _, rfl, tConsC_i (tNil_i ⟨p, a, ns, t7, l7, 3, rfl, PA7, by omega, by decide, by decide, fun w8 t8 l8 H8 y0 y1 y2 y3 b8 PA8 => ⟨_, _, rfl, rfl, _, rfl, _, _, rfl, rfl, _, rfl, tNil_i ?_⟩⟩)⟩
        obtain ⟨n, rfl⟩ : ∃ n : Nat, w8 = (n : Int) := ⟨_, (Int.toNat_of_nonneg y0).symm⟩
        have hwm := wdr_le (d := d') (show 1 + n ≤ 3 by omega)
        have hzm := wsz_le (d := d') (show 1 + n ≤ 3 by omega)
        show spWB e [.ref p, .ref he, .ref sp, .ref so, .int (1 + (n : Int)), .int (((d' + 1 : Nat) : Int) - 1), .ref lf] H8 _ _
        rw [eS, show (1 + (n : Int)) = ((1 + n : Nat) : Int) from by omega]
        refine inner H8 t8 l8 lo6 ca6 rem6 (1 + n) _ (k67.trans (Kp.but b8 (by simp))) PA8 (by omega) (by omega) (b8 _ _ npsp esp7) (b8 _ _ nlp elf7) (Nat.le_refl _) (fun _ h => h) ?_
        intro x cs tr' spr' lost' t' lo' ca' H' a1 a2 a3 a4 a5 a6 a7 a8 a9 a10 a11
        obtain ⟨l', PA'⟩ := a2
        exact hq _ _ ⟨x, cs, tr', spr', lost', t', l', lo', ca', rfl, (k67.trans (Kp.but b8 (by simp))).trans a1, PA', by omega, by omega, a5, a6, a7, a8, a9, a10, by omega⟩
      rintro _ H9 ⟨y, cb, bt, rem9, lost9, t9, l9, lo9, ca9, rfl, k9, PA9, r0, r1, esp9, elf9, pm9, hb9, wf9, dp9, sz9⟩
      have pm9l := pm9.length_eq
      simp only [List.length_append] at pm9l
      have sub9 : ∀ z ∈ rem9, z ∈ rem6 := fun z hz => pm9.subset (by simp [hz])
      change tSeq _ (tSeq _ _) _ _ _
      refine seq_midS (fun σ' H' => σ' = [some (.ref p), some (.ref nA), some (.ref sp), some (.ref po), some (.int (size : Nat)), some (.int ((d' + 1 : Nat) : Int)), some (.ref lf), some (.ref D), some (.ref he), some (.ref so), some (.ref bd), some (.int (0 + (k : Nat))), some (.int w7), some (.ref y), some .non, none] ∧ H9 = H') (fun D' h => h _ _ ⟨rfl, rfl⟩) ?_
      rintro _ _ ⟨rfl, rfl⟩
      -- the other side
      refine seq_midS (fun σ' Ha => ∃ (ot : Option (Addr × List Str × T)) (rema losta : List Str) (ta la loa caa : Int), σ' = [some (.ref p), some (.ref nA), some (.ref sp), some (.ref po), some (.int (size : Nat)), some (.int ((d' + 1 : Nat) : Int)), some (.ref lf), some (.ref D), some (.ref he), some (.ref so), some (.ref bd), some (.int (0 + (k : Nat))), some (.int w7), some (.ref y), some (othV ot), none] ∧
        Kp [p, sp, lf] H6 Ha ∧ PenAt Ha p a ns ta la ∧ t6 ≤ ta ∧ ta ≤ t6 + 4 + wdr d' 3 + wdr d' 2 ∧ Ha sp = some (.lst (rema.map V.str)) ∧ Ha lf = some (.dK (leftD loa caa)) ∧ (cb ++ declT bt ++ othC ot ++ rema ++ losta).Perm rem6 ∧ BlkAt (hid (bd :: so :: ms) Ha) y cb bt ∧
        (∀ q, ot = some q → BlkAt (hid (bd :: so :: ms) Ha) q.1 q.2.1 q.2.2 ∧ wfT (nm ++ own ++ q.2.1) d' q.2.2 ∧ depT q.2.2 ≤ d' ∧ locN q.2.1 + sizeT q.2.2 ≤ 1 + wsz d' 2)) (fun D' hq => ?_) ?_
      · refine ⟨_, rfl, tConsC_i (tNil_i ⟨p, a, ns, t9, l9, 2, rfl, PA9, by omega, by decide, by decide, fun wa ta la Ha y0 y1 y2 y3 ba PAa => ?_⟩)⟩
        have k9a : Kp [p, sp, lf] H9 Ha := Kp.but ba (by simp)
        have espa := ba _ _ npsp esp9
        have elfa := ba _ _ nlp elf9
        have hba := hb9.same (k9a.sub hms3).hid
        refine ⟨rfl, _, rfl, ite2 (fun _ => ?_) fun _ => ?_⟩
        · refine ⟨_, rfl, _, rfl, _, rfl, _, rfl, _, rfl, tConsC_i (tNil_i ⟨p, a, ns, ta, la, 3, rfl, PAa, by omega, by decide, by decide, fun wb tb lb Hb2 x0 x1 x2 x3 bb PAb => ?_⟩)⟩
          obtain ⟨n, rfl⟩ : ∃ n : Nat, wb = (n : Int) := ⟨_, (Int.toNat_of_nonneg x0).symm⟩
          have hwm := wdr_le (d := d') (show n ≤ 2 by omega)
          have hzm := wsz_le (d := d') (show n ≤ 2 by omega)
          refine ⟨_, rfl, _, _, rfl, rfl, _, rfl, tNil_i ?_⟩
          show spWB e [.ref p, .ref he, .ref sp, .ref so, .int (n : Int), .int (((d' + 1 : Nat) : Int) - 1), .ref lf] Hb2 _ _
          rw [eS]
          refine inner Hb2 tb lb lo9 ca9 rem9 n _ (k9.trans (k9a.trans (Kp.but bb (by simp)))) PAb (by omega) (by omega) (bb _ _ npsp espa) (bb _ _ nlp elfa) (by omega) sub9 ?_
          intro x cs tr' spr' lost' t' lo' ca' H' a1 a2 a3 a4 a5 a6 a7 a8 a9 a10 a11
          obtain ⟨l', PA'⟩ := a2
          have kbb : Kp [p, sp, lf] Ha Hb2 := Kp.but bb (by simp)
          refine hq _ _ ⟨some (x, cs, tr'), spr', lost' ++ lost9, t', l', lo', ca', rfl, k9.trans (k9a.trans (kbb.trans a1)), PA', by omega, by omega, a5, a6, ?_, hba.same ((kbb.trans a1).sub hms3).hid, fun q hq => ?_⟩
          · refine List.Perm.trans ?_ pm9
            show (cb ++ declT bt ++ (cs ++ declT tr') ++ spr' ++ (lost' ++ lost9)).Perm _
            have h5 : (cb ++ declT bt ++ (cs ++ declT tr') ++ spr' ++ (lost' ++ lost9)) = (cb ++ declT bt) ++ (cs ++ declT tr' ++ spr' ++ lost') ++ lost9 := by simp only [List.append_assoc]
            rw [h5]
            exact (List.Perm.append_left _ a7).append_right _
          · cases hq
            exact ⟨a8, a9, a10, by show locN cs + sizeT tr' ≤ _; omega⟩
        · refine hq _ _ ⟨none, rem9, lost9, ta, la, lo9, ca9, rfl, k9.trans k9a, PAa, by omega, by omega, espa, elfa, ?_, hba, fun q hq => (by cases hq)⟩
          show (cb ++ declT bt ++ [] ++ rem9 ++ lost9).Perm _
          rw [List.append_nil]
          exact pm9
      rintro _ Ha ⟨ot, rema, losta, ta, la, loa, caa, rfl, ka, PAa, u2, u3, espa, elfa, pma, hba, hot⟩
      have ebda := ka _ _ (by simp [nb.1, nb.2.1, nb.2.2.1]) W.ebd
      have esoa := ka _ _ (by simp [nosp.1, nosp.2.1, nosp.2.2.1]) W.eso
      have ehea := ka _ _ (by simp [(nsp_ fhe).1, (nsp_ fhe).2.1, (nsp_ fhe).2.2.1]) ehe6
      have alivea : ∀ m ∈ bd :: so :: ms, Ha m ≠ none := fun m hm => ka.alive (three PAa espa elfa) (alive6 m hm)
      have hork := W.orl
      -- the order is made
      have fin : ∀ (Hc : Hp) (o : Addr) (u : T) (tc lc loc_ cac : Int) (lostc : List Str), Kp [p, sp, lf] Ha Hc → PenAt Hc p a ns tc lc → ta ≤ tc → tc ≤ ta + 3 → Hc sp = some (.lst (rema.map V.str)) → Hc lf = some (.dK (leftD loc_ cac)) → OrdsAt (hid (bd :: so :: ms) Hc) u [o] → (declT u ++ rema ++ lostc).Perm rem6 → wfT (nm ++ own) (d' + 1) u → depT u ≤ d' + 1 → sizeT u ≤ 5 + wsz d' 3 + wsz d' 2 →
          rAppend (.ref bd) [.ref o] Hc (fun _ H1 => ∃ z11 z12 z13 z14 t' lo' ca' rem' lost pts' tr ors, [some (.ref p), some (.ref nA), some (.ref sp), some (.ref po), some (.int (size : Nat)), some (.int ((d' + 1 : Nat) : Int)), some (.ref lf), some (.ref D), some (.ref he), some (.ref so), some (.ref bd), some (.int (0 + (k : Nat))), some (.int w7), some (.ref y), some (othV ot), none] = [some (.ref p), some (.ref nA), some (.ref sp), some (.ref po), some (.int (size : Nat)), some (.int ((d' + 1 : Nat) : Int)), some (.ref lf), some (.ref D), some (.ref he), some (.ref so), some (.ref bd), z11, z12, z13, z14, none] ∧
            WbAt ms Hb H1 p a sp lf so bd ns t1 nm own spr pt.length (d' + 1) (k + 1) t' lo' ca' rem' lost pts' tr ors) := by
        intro Hc o u tc lc loc_ cac lostc kc PAc v0 v1 espc elfc hu_ pmu wfu dpu szu
        have ebdc := kc _ _ (by simp [nb.1, nb.2.1, nb.2.2.1]) ebda
        have esoc := kc _ _ (by simp [nosp.1, nosp.2.1, nosp.2.2.1]) esoa
        refine ⟨bd, _, _, rfl, rfl, ebdc, by rw [List.length_map]; exact small1000 (by omega), _, _, _, _, tc, loc_, cac, rema, lostc ++ lost6, pts6, tr.app u, ors ++ [o], rfl, W.add hms nb (H2 := Hc) ((ka.trans kc).sub fun m hm => List.mem_cons_of_mem _ hm) ⟨lc, PAc⟩ (by omega) ?_ espc elfc esoc hu_ pmu wfu dpu ?_ W.ptm (by omega)⟩
        · rw [hd1]; omega
        · rw [hs1]; exact szu
      have pmA : ∀ (u : T), declT u = cb ++ declT bt → (declT u ++ rema ++ (othC ot ++ losta)).Perm rem6 := fun u eu => by
        refine List.Perm.trans ?_ pma
        rw [eu]
        have h5 : cb ++ declT bt ++ rema ++ (othC ot ++ losta) = (cb ++ declT bt) ++ (rema ++ othC ot) ++ losta := by simp only [List.append_assoc]
        have h6 : cb ++ declT bt ++ othC ot ++ rema ++ losta = (cb ++ declT bt) ++ (othC ot ++ rema) ++ losta := by simp only [List.append_assoc]
        rw [h5, h6]
        exact (List.Perm.append_left _ List.perm_append_comm).append_right _
      have s2 : 2 ≤ sizeLine := sz1000 (by decide)
      have s3 : 3 ≤ sizeLine := sz1000 (by decide)
      have s5 : 5 ≤ sizeLine := sz1000 (by decide)
      have sz1_ : ∀ op : Op, sizeT (.one op cb bt .nil) ≤ 5 + wsz d' 3 + wsz d' 2 := fun op => by rw [sizeT, sizeT]; omega
      have dp1_ : ∀ op : Op, depT (.one op cb bt .nil) ≤ d' + 1 := fun op => by rw [depT, depT]; omega
      have out_ : ∀ {Hc : Hp} {o : Addr}, Kp [p, sp, lf] Ha Hc → (∀ m ∈ [p, sp, lf], Hc m ≠ none) → Hc o = none → o ∉ bd :: so :: ms := fun kc h3 no hm => kc.alive h3 (alivea _ hm) no
      refine if_mid (fun H1 => Ha = H1) (fun H1 => Ha = H1) (fun Qy hy hn => ?_) (fun H1 e1 => ?_) (fun H1 e1 => ?_)
      · have both : ∀ b : Bool, Qy b Ha := fun b => by
          cases b with
          | true => exact hy _ rfl
          | false => exact hn _ rfl
        exact ⟨_, rfl, rfl, _, rfl, ite2 (fun _ => ⟨_, rfl, lf, _, rfl, get_loop elfa, _, _, rfl, rfl, _, rfl, both _⟩) fun _ => hn _ rfl⟩
      · subst e1
        refine ⟨_, rfl, lf, _, rfl, get_loop elfa, _, _, rfl, rfl, _, rfl, lf, _, rfl, put_loop elfa, ?_⟩
        have kc : Kp [p, sp, lf] Ha (upd Ha lf (.dK (leftD (loa - 1) caa))) := (Kp.refl _ _).put (by simp)
        have PAc : PenAt (upd Ha lf (.dK (leftD (loa - 1) caa))) p a ns ta la := PAa.upd' nlp.symm nalf
        have espc : (upd Ha lf (.dK (leftD (loa - 1) caa))) sp = some (.lst (rema.map V.str)) := (upd_ne nlsp.symm).trans espa
        have elfc : (upd Ha lf (.dK (leftD (loa - 1) caa))) lf = some (.dK (leftD (loa - 1) caa)) := upd_same
        refine ⟨_, rfl, .inl ⟨rfl, _, SqL.of (kc _ _ (by simp [nb.1, nb.2.1, nb.2.2.1]) ebda)⟩, _, rfl, s2, fun o no => tNil_i ?_⟩
        have So := new_same (o := .tup [.str "loop", .ref y]) no
        have ho := out_ kc (three PAc espc elfc) no
        exact fin _ o (.one .loop cb bt .nil) ta la (loa - 1) caa (othC ot ++ losta) (kc.trans (Kp.of So)) (PAc.new no) (Int.le_refl _) (by omega) (So _ _ espc) (So _ _ elfc) (ords_one (op := .loop) (hid_at ho upd_same) (hba.same ((kc.trans (Kp.of So)).sub hms3).hid)) (pmA _ (by simp only [declT, List.append_nil])) ⟨fun x hx => (by cases hx), wf9, trivial⟩ (dp1_ _) (sz1_ _)
      subst e1
      refine ⟨_, rfl, _, _, rfl, rfl, _, rfl, ite2 (fun _ => ?_) fun _ => ?_⟩
      · refine ⟨_, rfl, .inl ⟨rfl, _, SqL.of ebda⟩, _, rfl, s2, fun o no => tNil_i ?_⟩
        have So := new_same (o := .tup [.str "block", .ref y]) no
        have ho := out_ (Kp.refl _ _) (three PAa espa elfa) no
        exact fin _ o (.one .block cb bt .nil) ta la loa caa (othC ot ++ losta) (Kp.of So) (PAa.new no) (Int.le_refl _) (by omega) (So _ _ espa) (So _ _ elfa) (ords_one (op := .block) (hid_at ho upd_same) (hba.same (Kp.of So).hid)) (pmA _ (by simp only [declT, List.append_nil])) ⟨fun x hx => (by cases hx), wf9, trivial⟩ (dp1_ _) (sz1_ _)
      refine ⟨_, rfl, tConsC_i (tNil_i ⟨p, a, ns, ta, la, 2, rfl, PAa, by omega, by decide, by decide, fun wb tb lb Hc y0 y1 y2 y3 bc PAc => ?_⟩)⟩
      have kc : Kp [p, sp, lf] Ha Hc := Kp.but bc (by simp)
      have espc := bc _ _ npsp espa
      have elfc := bc _ _ nlp elfa
      have ebdc := bc _ _ nb.1 ebda
      have ehec := bc _ _ (nsp_ fhe).1 ehea
      have pmB : ∀ op : Op, (declT (mkT op cb bt ot) ++ rema ++ losta).Perm rem6 := fun op => by rw [mk_decl]; exact pma
      refine ⟨rfl, _, rfl, ite2 (fun _ => ?_) fun _ => ?_⟩
      · refine ⟨_, rfl, .inl ⟨rfl, _, SqL.of ebdc⟩, _, rfl, _, rfl, s3, fun o no => tNil_i ?_⟩
        have So := new_same (o := .tup [.str "maybe", .ref y, othV ot]) no
        have ho := out_ kc (three PAc espc elfc) no
        have kd := kc.trans (Kp.of So)
        exact fin _ o (mkT .maybe cb bt ot) tb lb loa caa losta kd (PAc.new no) y2 (by omega) (So _ _ espc) (So _ _ elfc) (mk_ords (op := .maybe) rfl (hid_at ho upd_same) (hba.same (kd.sub hms3).hid) fun q hq => (hot q hq).1.same (kd.sub hms3).hid) (pmB _) (mk_wf rfl (fun x hx => (by cases hx)) wf9 fun q hq => (hot q hq).2.1) (mk_dep dp9 fun q hq => (hot q hq).2.2.1) (mk_size sz9 fun q hq => (hot q hq).2.2.2)
      · have hneP : he ≠ p := (nsp_ fhe).1
        have hlA : ((nm ++ own).map V.str).length = (nm ++ own).length := List.length_map ..
        have hlB : (nm ++ own).length ≤ 1000 := by rw [List.length_append]; omega
        refine ⟨_, rfl, .inl ⟨rfl, _, SqL.of ebdc⟩, _, rfl, _, rfl, tNil_i ⟨p, a, he, ns, tb, lb, _, rfl, PAc, by omega, hneP, ehec, by rw [hlA]; exact hen0, by rw [hlA]; exact hlB, fun i1 v1 td ld Hd hv1 x0 x1 bdd PAd => ?_⟩⟩
        have ehed := bdd _ _ hneP ehec
        refine ⟨_, rfl, _, rfl, tNil_i ⟨p, a, he, ns, td, ld, _, rfl, PAd, by omega, hneP, ehed, by rw [hlA]; exact hen0, by rw [hlA]; exact hlB, fun i2 v2 te le He hv2 x2 x3 bee PAe => ?_⟩⟩
        rw [List.getElem?_map] at hv1 hv2
        obtain ⟨sa, hsa, rfl⟩ := Option.map_eq_some_iff.mp hv1
        obtain ⟨sb, hsb, rfl⟩ := Option.map_eq_some_iff.mp hv2
        have ke : Kp [p, sp, lf] Ha He := kc.trans (Kp.but (bdd.trans bee) (by simp))
        have espe := bee _ _ npsp (bdd _ _ npsp espc)
        have elfe := bee _ _ nlp (bdd _ _ nlp elfc)
        refine ⟨_, rfl, _, rfl, s5, fun o no => tNil_i ?_⟩
        have So := new_same (o := .tup [.str "same", .str sa, .str sb, .ref y, othV ot]) no
        have ho := out_ ke (three PAe espe elfe) no
        have kd := ke.trans (Kp.of So)
        refine fin _ o (mkT (.same sa sb) cb bt ot) te le loa caa losta kd (PAe.new no) (by omega) (by omega) (So _ _ espe) (So _ _ elfe) (mk_ords (op := .same sa sb) rfl (hid_at ho upd_same) (hba.same (kd.sub hms3).hid) fun q hq => (hot q hq).1.same (kd.sub hms3).hid) (pmB _) (mk_wf rfl (fun x hx => ?_) wf9 fun q hq => (hot q hq).2.1) (mk_dep dp9 fun q hq => (hot q hq).2.2.1) (mk_size sz9 fun q hq => (hot q hq).2.2.2)
        rcases List.mem_cons.mp hx with rfl | hx
        · exact List.mem_of_getElem? hsa
        · rw [List.mem_singleton.mp hx]; exact List.mem_of_getElem? hsb
    · rintro σ H6 ⟨z11, z12, z13, z14, t6, lo6, ca6, rem6, lost6, pts6, tr, ors, rfl, W⟩
      have k06 : Kp [p, sp, lf] H H6 := fun c u nc ec => W.kb c u (fun hc => by
        rcases List.mem_cons.mp hc with rfl | hc
        · rw [fbd] at ec; cases ec
        rcases List.mem_cons.mp hc with rfl | hc
        · rw [fso] at ec; cases ec
        · exact nc hc) (k05 c u nc ec)
      have nD5 : D ∉ [bd, so, p, sp, lf] := by simp [nDp, nDsp, nDlf, nbdD.symm, nsoD.symm]
      have eD6 := W.kb _ _ nD5 eow5
      intro x nx
      obtain ⟨l6, PA6⟩ := W.pen
      have hms6 : ∀ m ∈ [p, sp, lf], H6 m ≠ none := fun m hm => by
        rcases List.mem_cons.mp hm with rfl | hm
        · exact some_ne PA6.p
        rcases List.mem_cons.mp hm with rfl | hm
        · exact some_ne W.esp
        · rw [List.mem_singleton.mp hm]; exact some_ne W.elf
      have fx : H x = none := k06.free hms6 nx
      have out : ∀ {z : Addr}, H z = none → z ∉ ms := fun {z} fz hz => hma z hz fz
      refine ⟨_, rfl, _, rfl, (upd_same), blkD D bd, rfl, by show 2 ≤ 15; decide, ?_⟩
      have nxD : D ≠ x := ne_of_none eD6 nx
      have nxb : bd ≠ x := ne_of_none W.ebd nx
      have w1 := W.hi_
      have w2 := W.lo_
      have S7 : Same H6 (upd (upd H6 x (.dK [])) x (.dK (blkD D bd))) := Same.put (new_same nx) nx
      refine q x own tr rem6 lost6 t6 lo6 ca6 _ (k06.trans (Kp.of S7)) ⟨l6, ⟨S7 _ _ PA6.p, S7 _ _ PA6.a, PA6.n, PA6.t0, PA6.l0⟩⟩ (by omega) (by omega) (S7 _ _ W.esp) (S7 _ _ W.elf) W.perm (by omega) ?_ fx W.wf W.dep (by rw [hse]; exact W.sz) (by rw [← OrdsAt.len _ W.ords]; exact W.orl)
      exact ⟨D, bd, ors, fbd, out fx, out fow, out fbd, upd_same, S7 _ _ eD6, S7 _ _ W.ebd, nbdD.symm, (W.ords.same (Kp.of S7).hid).same (hid_sub fun m hm => by
        rcases List.mem_cons.mp hm with rfl | hm
        · exact List.mem_cons_self
        · exact List.mem_cons_of_mem _ (List.mem_cons_of_mem _ hm))⟩
end
end FP
set_option Elab.async false
set_option linter.all false
set_option maxRecDepth 100000
set_option maxHeartbeats 8000000
set_option exponentiation.threshold 2000
/-! A law's own reader of lines: one line. -/
namespace FP
open PySem PySem.Spec PyProof.Rows L2 TL
theorem hid_mem {ms : List Addr} {H : Hp} {b : Addr} {u : HO} (e : hid ms H b = some u) : b ∉ ms := fun z => by
  unfold hid at e
  rw [if_pos z] at e
  cases e
/-- open blocks in the heap: each a list of its kind and its cells -/
def BlsAt (H : Hp) (es : List Addr) (B : BlL) : Prop := es.length = B.length ∧ ∀ (i : Nat) (e : Addr) (q : Str × List Str), es[i]? = some e → B[i]? = some q → ∃ c, H e = some (.lst [.str q.1, .ref c]) ∧ H c = some (.lst (q.2.map V.str))
theorem BlsAt.same {H H' : Hp} {es : List Addr} {B : BlL} (h : BlsAt H es B) (S : Same H H') : BlsAt H' es B := ⟨h.1, fun i e q h1 h2 => by
  obtain ⟨c, a, b⟩ := h.2 i e q h1 h2
  exact ⟨c, S _ _ a, S _ _ b⟩⟩
theorem BlsAt.app {H : Hp} {es : List Addr} {B : BlL} (h : BlsAt H es B) {e c : Addr} {q : Str × List Str} (h1 : H e = some (.lst [.str q.1, .ref c])) (h2 : H c = some (.lst (q.2.map V.str))) : BlsAt H (es ++ [e]) (B ++ [q]) := by
  refine ⟨by rw [List.length_append, List.length_append, h.1]; rfl, fun i x y e1 e2 => ?_⟩
  by_cases z : i < es.length
  · rw [List.getElem?_append_left z] at e1
    rw [List.getElem?_append_left (by rw [← h.1]; exact z)] at e2
    exact h.2 i x y e1 e2
  · rw [List.getElem?_append_right (by omega)] at e1
    rw [List.getElem?_append_right (by rw [← h.1]; omega)] at e2
    rw [← h.1] at e2
    cases k : i - es.length with
    | zero =>
      rw [k] at e1 e2
      cases e1; cases e2
      exact ⟨c, h1, h2⟩
    | succ n => rw [k] at e1; cases e1
theorem BlsAt.drop {H : Hp} {es : List Addr} {B : BlL} (h : BlsAt H es B) : BlsAt H es.dropLast B.dropLast := by
  refine ⟨by rw [List.length_dropLast, List.length_dropLast, h.1], fun i x y e1 e2 => ?_⟩
  rw [List.getElem?_dropLast] at e1 e2
  split at e1
  · split at e2
    · exact h.2 i x y e1 e2
    · cases e2
  · cases e1
theorem merge_len : ∀ (l : List Str) (acc : List (Key × V)), (acc.map (·.1)).Nodup → (mergeK acc (l.map fun x => ((.inr x : Key), V.bl true))).length ≤ acc.length + l.length ∧
    ((mergeK acc (l.map fun x => ((.inr x : Key), V.bl true))).length = acc.length + l.length ↔ (acc.map (·.1) ++ l.map fun x => (.inr x : Key)).Nodup)
  | [], acc, h => ⟨Nat.le_refl _, ⟨fun _ => by simpa using h, fun _ => rfl⟩⟩
  | x :: r, acc, h => by
    have hp : mergeK acc ((x :: r).map fun x => ((.inr x : Key), V.bl true)) = mergeK (putK acc (.inr x) (.bl true)) (r.map fun x => ((.inr x : Key), V.bl true)) := rfl
    rw [hp]
    by_cases c : (acc.any fun kv => decide (kv.1 = (.inr x : Key))) = true
    · have e : putK acc (.inr x) (.bl true) = acc.map fun kv => if kv.1 = (.inr x : Key) then (kv.1, .bl true) else kv := if_pos c
      have e1 : (putK acc (.inr x) (.bl true)).map (·.1) = acc.map (·.1) := by
        rw [e, List.map_map]
        refine List.map_congr_left fun kv _ => ?_
        show (if kv.1 = (.inr x : Key) then (kv.1, V.bl true) else kv).1 = kv.1
        split <;> rfl
      have e2 : (putK acc (.inr x) (.bl true)).length = acc.length := by rw [e, List.length_map]
      obtain ⟨i1, i2⟩ := merge_len r (putK acc (.inr x) (.bl true)) (by rw [e1]; exact h)
      rw [e2] at i1
      rw [List.length_cons]
      refine ⟨by omega, ⟨fun z => by omega, fun z => ?_⟩⟩
      exfalso
      obtain ⟨kv, hk, hx⟩ := List.any_eq_true.mp c
      rw [List.map_cons] at z
      exact (List.nodup_append.mp z).2.2 _ (List.mem_map_of_mem hk) _ (List.mem_cons_self ..) (of_decide_eq_true hx)
    · have e : putK acc (.inr x) (.bl true) = acc ++ [(.inr x, .bl true)] := if_neg c
      rw [e]
      have nd : ((acc ++ [((.inr x : Key), V.bl true)]).map (·.1)).Nodup := by
        rw [List.map_append]
        refine List.nodup_append.mpr ⟨h, by simp, fun a ha b hb e => ?_⟩
        rw [List.map_singleton, List.mem_singleton] at hb
        obtain ⟨kv, hk, rfl⟩ := List.mem_map.mp ha
        exact c (List.any_eq_true.mpr ⟨kv, hk, decide_eq_true (e.trans hb)⟩)
      obtain ⟨i1, i2⟩ := merge_len r _ nd
      rw [List.length_append, List.length_singleton] at i1 i2
      rw [List.length_cons]
      refine ⟨by omega, ?_⟩
      rw [show acc.length + (r.length + 1) = acc.length + 1 + r.length from by omega, i2, List.map_append, List.append_assoc]
      rfl
/-- as many keys as names just if they are unlike -/
theorem dict_nodup (l : List Str) : decide (((mergeK [] (l.map fun x => ((.inr x : Key), V.bl true))).length : Int) = (l.length : Int)) = decide l.Nodup := by
  obtain ⟨_, h⟩ := merge_len l [] List.nodup_nil
  rw [List.map_nil, List.nil_append, List.length_nil, Nat.zero_add] at h
  have h2 : (l.map fun x => (.inr x : Key)).Nodup ↔ l.Nodup := by
    unfold List.Nodup
    rw [List.pairwise_map]
    exact ⟨fun z => z.imp fun h e => h (congrArg _ e), fun z => z.imp fun h e => h (Sum.inr.inj e)⟩
  exact decide_eq_decide.mpr ⟨fun z => h2.mp (h.mp (by omega)), fun z => by have := h.mpr (h2.mpr z); omega⟩
theorem paired_idx {R : Addr → Key × V → Prop} : ∀ (ps : List Addr) (l : List Str), ps.length = l.length → (∀ (i : Nat) (p : Addr) (x : Str), ps[i]? = some p → l[i]? = some x → R p ((.inr x : Key), V.bl true)) → Paired R ps (l.map fun x => ((.inr x : Key), V.bl true))
  | [], [], _, _ => .nil
  | [], _ :: _, h, _ => nomatch h
  | _ :: _, [], h, _ => nomatch h
  | p :: ps, x :: l, h, k => .cons (k 0 p x rfl rfl) (paired_idx ps l (Nat.succ.inj h) fun i a b h1 h2 => k (i + 1) a b h1 h2)
section
variable {P : Program} {w : World} {K : PySem.W.Frag} {mg : Str → Option Value} {base : Heap}
structure LrOk (H : Hp) (wA bA eA : Addr) (es : List Addr) (B : BlL) (E words : List Str) : Prop where
  w : H wA = some (.lst (words.map V.str))
  nwb : wA ≠ bA
  nwe : wA ≠ eA
  nbe : bA ≠ eA
  b : H bA = some (.lst (es.map V.ref))
  bs : BlsAt (hid [bA, eA] H) es B
  e : H eA = some (.lst (E.map V.str))
  ne : words ≠ []
  wl : words.length ≤ 100000
  wo : ∀ x ∈ words, x.length ≤ 100000 ∧ PyData.strOk x = true
  bn : B ≠ []
  bl : B.length ≤ 100
  el : E.length ≤ 100
  cl : (seenB B).length ≤ 1000
def spLR : Sp := fun vs H Q _ => ∃ (wA bA eA : Addr) (es : List Addr) (B : BlL) (E words : List Str) (f : Bool), vs = [.ref wA, .ref bA, .ref eA, .bl f] ∧ LrOk H wA bA eA es B E words ∧
  (lineRead B E f words = none → ∀ H', Kp [bA, eA] H H' → Q (.bl false) H') ∧
  (∀ p, lineRead B E f words = some p → ∀ es' H', Kp [bA, eA] H H' → H' bA = some (.lst (es'.map V.ref)) → BlsAt (hid [bA, eA] H') es' p.1 → H' eA = some (.lst (p.2.map V.str)) → Q (.bl true) H')
abbrev nLR : List Str := ["_law_words", "_law_blocks", "_law_every", "_law_is_first", "_law_seen", "_law_kind", "_law_fresh", "_law_is_good", "_law_names", "_law_is_named", "_law_top", "_law_block", "_law_name"]
abbrev pLR : List Str := ["_law_words", "_law_blocks", "_law_every", "_law_is_first"]
theorem scLR : FnScope nLR pLR (defScope qLineRead) := ⟨rfl, rfl, rfl, by decide +kernel, rfl, by decide +kernel, by decide +kernel⟩
theorem ok_lr {f : Addr} {fd : FuncData} (F : Fun K "_law_line_read" "_law_line_read" qLineRead f fd) (B3 : Blt3 mg) (gs : mg "sum" = none) (DN : Def P w K mg base "_law_is_name" 1 ["_law_word"] spLName) (DD : Def P w K mg base "_law_is_deed" 1 ["_law_words", "_law_seen"] spLDeed) :
    FnOk P w K mg base CX0 2 f fd pLR spLR := by
  obtain ⟨fN, fdN, gN, kN, bN, GN⟩ := DN.ex
  obtain ⟨fD, fdD, gD, kD, bD, GD⟩ := DD.ex
  refine F.ok scLR (fun vs H Q E h => ?_) (fun cdv A outer s H vs Q E0 hr h => ?_)
  · obtain ⟨wA, bA, eA, es, B, E, words, f, rfl, _⟩ := h
    rfl
  obtain ⟨wA, bA, eA, es, B, E, words, fi, rfl, O, qn, qs⟩ := h
  have hu := hu_of hr
  refine ⟨_, pss_cons (ps_par (i := 4) (j := 5) (by rfl) scLR.nd rfl rfl (by decide) rfl rfl
      (pa_cons (pe_callB (cr_sumL rfl) (by rfl) gs (by decide +kernel) (pa_cons (pe_lc (own := [("_law_block", 11)]) (g := gName 11) (tt := tYes) (te := tOp (rIxL K) (tVar 11) (tC (V.int 1))) (by rfl) scLR.nd (pi_list (pv 1)) (blkOk_by (own := [("_law_block", 11)]) (N := nLR) (sc := defScope qLineRead) (by decide +kernel))
          (fun _ _ _ _ _ => pg_name (i := 11) scLR.nd rfl (Or.inl rfl)) (fun _ _ _ _ _ => pts_nil) (fun _ _ _ _ _ => pe_ix ix_list (pv 11) pe_int (fun _ _ => rfl))) (pa_cons (pe_lst pa_nil) pa_nil)))
        (pa_cons (pe_ix ix_list (pv 0) pe_int (fun _ _ => rfl)) pa_nil)) (by rfl))
    (pss_cons (ps_if (pt_cmpR op_eq (pv 5) pe_str (nomark _))
      (pss_cons (ps_setLc (i := 6) (own := [("_law_name", 12)]) (g := gName 12) (tt := tAnd (tB (tCall spLName [] E0 (tCons (tVar 12) tNil))) (tTest (tOp (rIn K true) (tVar 12) (tVar 2)))) (te := tVar 12) (by rfl) scLR.nd rfl rfl (sw_true rfl rfl rfl (by decide +kernel))
          (pi_list (pe_slice sl_list (pv 0) (po_some pe_int) po_none)) (blkOk_by (own := [("_law_name", 12)]) (N := nLR) (sc := defScope qLineRead) (by decide +kernel)) (fun _ _ _ _ _ => pg_name (i := 12) scLR.nd rfl (Or.inl rfl))
          (fun _ _ _ _ _ => pts_one (PW.pt (pw_and (pt_val (pe_call GN hr rfl gN kN bN .nil pass0 (pa_cons (pv 12) pa_nil))) (pw_and1 (pt_cmpR op_notIn_seq (pv 12) (pv 2) (by rfl)))))) (fun _ _ _ _ _ => pv 12))
      (pss_cons (ps_expr (pe_bm PySem.F.plainAttrs_list PySem.F.slot_list_extend PySem.F.type_list_extend mt_extend (pv 2) (pa_cons (pe_slice sl_list (pv 0) (po_some pe_int) po_none) pa_nil)))
      (pss_cons (ps_expr (pe_bm PySem.F.plainAttrs_list PySem.F.slot_list_append PySem.F.type_list_append mt_append (pv 1) (pa_cons (pe_lst (pa_cons (pe_ix ix_list (pe_ix ix_list (pv 1) (pe_op op_sub (pe_callB call_len_seq (by rfl) B3.len boot_len (pa_cons (pv 1) pa_nil)) pe_int) (fun _ _ => rfl)) pe_int (fun _ _ => rfl))
          (pa_cons (pe_op op_cat (pe_ix ix_list (pe_bm0 PySem.F.plainAttrs_list PySem.F.slot_list_pop PySem.F.type_list_pop mt_pop (pv 1)) pe_int (fun _ _ => rfl)) (pe_slice sl_list (pv 0) (po_some pe_int) po_none)) pa_nil))) pa_nil)))
      (pss_cons (ps_set (i := 7) scLR.nd rfl (.inl rfl) (pe_and (pv 3) (pe_and (pe_cmpR (op_eqD hr.units) (pv 6) (pe_slice sl_list (pv 0) (po_some pe_int) po_none) (nomark _)) (pe_and (pe_cmpR (op_neD hr.units) (pv 6) (pe_lst pa_nil) (nomark _)) (pe_one (pe_cmpR op_le (pe_callB call_len_seq (by rfl) B3.len boot_len (pa_cons (pv 2) pa_nil)) pe_int (nomark _)))))))
      (pss_one (ps_ret (pe_and (pv 7) (pe_one (pe_cmpR op_eq (pe_callB call_lenD (by rfl) B3.len boot_len (pa_cons (pe_callTy (call_dictP rfl) (by rfl) B3.dict (by decide +kernel) (pa_cons (pe_lc (own := [("_law_name", 12)]) (g := gName 12) (tt := tYes) (te := tTup (tCons (tVar 12) (tCons (tC (V.bl true)) tNil))) (by rfl) scLR.nd (pi_list (pv 2)) (blkOk_by (own := [("_law_name", 12)]) (N := nLR) (sc := defScope qLineRead) (by decide +kernel))
          (fun _ _ _ _ _ => pg_name (i := 12) scLR.nd rfl (Or.inl rfl)) (fun _ _ _ _ _ => pts_nil) (fun _ _ _ _ _ => pe_tup (pa_cons (pv 12) (pa_cons pe_bl pa_nil)))) pa_nil)) pa_nil)) (pe_callB call_len_seq (by rfl) B3.len boot_len (pa_cons (pv 2) pa_nil)) (nomark _)))))))))) pss_nil)
    (pss_cons (ps_if (pt_cmpR op_in_seq (pv 5) (pe_tup (pa_cons pe_str (pa_cons pe_str (pa_cons pe_str (pa_cons pe_str pa_nil))))) (by rfl))
      (pss_cons (ps_expr (pe_bm PySem.F.plainAttrs_list PySem.F.slot_list_append PySem.F.type_list_append mt_append (pv 1) (pa_cons (pe_lst (pa_cons (pv 5) (pa_cons (pe_lst pa_nil) pa_nil))) pa_nil)))
      (pss_cons (ps_set (i := 8) scLR.nd rfl (.inl rfl) (pe_slice sl_list (pv 0) (po_some pe_int) po_none))
      (pss_cons (ps_set (i := 9) scLR.nd rfl (.inl rfl) (pe_and (pe_cmpR op_eq (pe_callB call_len_seq (by rfl) B3.len boot_len (pa_cons (pv 8) pa_nil)) pe_int (nomark _)) (pe_and (pe_cmpR op_in_seq (pe_ix ix_list (pv 8) pe_int (fun _ _ => rfl)) (pv 4) (by rfl)) (pe_one (pe_cmpR op_in_seq (pe_ix ix_list (pv 8) pe_int (fun _ _ => rfl)) (pv 4) (by rfl))))))
      (pss_one (ps_ret (pe_and (pe_ifExp (pt_cmpR op_eq (pv 5) pe_str (nomark _)) (pv 9) (pe_cmpR (op_eqD hr.units) (pv 8) (pe_lst pa_nil) (nomark _))) (pe_one (pe_cmpR op_le (pe_callB call_len_seq (by rfl) B3.len boot_len (pa_cons (pv 1) pa_nil)) pe_int (nomark _))))))))) pss_nil)
    (pss_cons (ps_if (pt_cmpR (op_eqD hr.units) (pv 0) (pe_lst (pa_cons pe_str pa_nil)) (nomark _))
      (pss_cons (ps_set (i := 10) scLR.nd rfl (.inl rfl) (pe_bm0 PySem.F.plainAttrs_list PySem.F.slot_list_pop PySem.F.type_list_pop mt_pop (pv 1)))
      (pss_cons (ps_expr (pe_bm PySem.F.plainAttrs_list PySem.F.slot_list_append PySem.F.type_list_append mt_append (pv 1) (pa_cons (pe_lst (pa_cons pe_str (pa_cons (pe_lst pa_nil) pa_nil))) pa_nil)))
      (pss_one (ps_ret (pe_cmpR op_in_seq (pe_ix ix_list (pv 10) pe_int (fun _ _ => rfl)) (pe_tup (pa_cons pe_str (pa_cons pe_str pa_nil))) (by rfl)))))) pss_nil)
    (pss_cons (ps_if (pt_cmpR (op_eqD hr.units) (pv 0) (pe_lst (pa_cons pe_str pa_nil)) (nomark _))
      (pss_one (ps_ret (pe_cmpR op_ne (pe_ix ix_list (pe_bm0 PySem.F.plainAttrs_list PySem.F.slot_list_pop PySem.F.type_list_pop mt_pop (pv 1)) pe_int (fun _ _ => rfl)) pe_str (nomark _)))) pss_nil)
    (pss_one (ps_ret (pe_call GD hr rfl gD kD bD .nil pass0 (pa_cons (pv 0) (pa_cons (pv 4) pa_nil))))))))), ?_⟩
  obtain ⟨hw, nwb, nwe, nbe, hb, hbs, he, hne, hwl, hwo, hbn, hbl, hel, hcl⟩ := O
  obtain ⟨w0, ws, rfl⟩ : ∃ w0 ws, words = w0 :: ws := by
    cases words with
    | nil => exact absurd rfl hne
    | cons x r => exact ⟨x, r, rfl⟩
  have hes : es ≠ [] := fun z => hbn (List.length_eq_zero_iff.mp (by rw [← hbs.1, z]; rfl))
  have hin : ∀ (i : Nat) (e : Addr) (q : Str × List Str), es[i]? = some e → B[i]? = some q → ∃ c, H e = some (.lst [.str q.1, .ref c]) ∧ H c = some (.lst (q.2.map V.str)) := fun i e q h1 h2 => by
    obtain ⟨c, a, b⟩ := hbs.2 i e q h1 h2
    exact ⟨c, hid_le _ _ a, hid_le _ _ b⟩
  -- the cells of the open blocks
  obtain ⟨cs, hcs⟩ : ∃ cs : List Addr, cs.length = es.length ∧ ∀ (i : Nat) (e c : Addr), es[i]? = some e → cs[i]? = some c → ∃ k, H e = some (.lst [.str k, .ref c]) ∧ ∃ q, B[i]? = some q ∧ H c = some (.lst (q.2.map V.str)) := by
    have ch : ∀ i : Nat, ∃ c : Addr, ∀ (e : Addr), es[i]? = some e → ∃ k, H e = some (.lst [.str k, .ref c]) ∧ ∃ q, B[i]? = some q ∧ H c = some (.lst (q.2.map V.str)) := fun i => by
      cases h1 : es[i]? with
      | none => exact ⟨0, fun e z => nomatch z⟩
      | some e =>
        have hi : i < B.length := by rw [← hbs.1]; exact (List.getElem?_eq_some_iff.mp h1).1
        obtain ⟨c, a, b⟩ := hin i e B[i] h1 (List.getElem?_eq_getElem hi)
        exact ⟨c, fun e' z => by cases z; exact ⟨_, a, _, List.getElem?_eq_getElem hi, b⟩⟩
    obtain ⟨g, hg⟩ := Classical.axiomOfChoice ch
    refine ⟨(List.range es.length).map g, by simp, fun i e c h1 h2 => ?_⟩
    have hi := (List.getElem?_eq_some_iff.mp h1).1
    rw [List.getElem?_map, List.getElem?_range hi] at h2
    cases h2
    exact hg i e h1
  obtain ⟨hcl', hcs⟩ := hcs
  refine ⟨_, rfl, bA, rfl, ⟨_, SqL.of hb⟩, fun D nD => lc_it (walk_list (xs := es.map V.ref)) (fun n H' => Same H H' ∧ H' D = some (.lst ((cs.take n).map V.ref))) ⟨new_same nD, upd_same⟩ (fun _ H' _ z => SqL.of (z.1 _ _ hb)) ?_ ?_⟩
  · rintro n v H' H'' hn' ⟨S1, eD⟩ ⟨rfl, hx⟩
    rw [List.length_map] at hn'
    rw [List.getElem?_map, List.getElem?_eq_getElem hn'] at hx
    obtain rfl : V.ref es[n] = v := Option.some.inj hx
    have hcn : n < cs.length := by omega
    obtain ⟨k, ek, _⟩ := hcs n es[n] cs[n] (List.getElem?_eq_getElem hn') (List.getElem?_eq_getElem hcn)
    refine ⟨rfl, _, rfl, es[n], _, 1, _, rfl, rfl, SqL.of (S1 _ _ ek), atI_nat (j := 1) rfl, _, eD, ?_, ?_, ?_⟩
    · rw [List.length_map, List.length_take, sizeLine_eq]
      have := hbs.1
      omega
    · intro a o e
      rw [upd_ne (ne_of_none e nD)]
      exact S1 a o e
    · rw [upd_same, List.take_add_one, List.getElem?_eq_getElem hcn, List.map_append]
      rfl
  rintro H1 ⟨S1, eD⟩
  rw [List.length_map, ← hcl', List.take_length] at eD
  refine ⟨Nat.zero_le _, fun z0 nz0 => ?_⟩
  have Sz := new_same (o := .lst []) nz0
  have ez := new_at (o := .lst []) nz0
  generalize upd H1 z0 (.lst []) = Hz at Sz ez
  have S1z := S1.trans Sz
  have hfl : (B.map fun q => q.2.map V.str).flatten = (seenB B).map V.str := by
    unfold seenB
    rw [List.map_flatMap, List.flatMap_def]
  have hcsne : cs ≠ [] := fun z => hes (List.length_eq_zero_iff.mp (by rw [← hcl', z]; rfl))
  refine tNil_i ⟨D, z0, cs, [], B.map fun q => q.2.map V.str, rfl, Sz _ _ eD, ez, by rw [List.length_map, hcl', hbs.1], fun i c l h1 h2 => ?_, by rw [hfl, List.length_map, List.length_nil, sizeLine_eq]; omega, fun z => absurd z hcsne, fun _ pS nS => ?_⟩
  · have hi : i < es.length := by rw [← hcl']; exact (List.getElem?_eq_some_iff.mp h1).1
    obtain ⟨k, _, q, hq, ec⟩ := hcs i es[i] c (List.getElem?_eq_getElem hi) h1
    rw [List.getElem?_map, hq] at h2
    cases h2
    exact S1z _ _ ec
  rw [List.nil_append, hfl]
  have Sp := new_same (o := .lst ((seenB B).map V.str)) nS
  have eS := new_at (o := .lst ((seenB B).map V.str)) nS
  generalize upd Hz pS (.lst ((seenB B).map V.str)) = H2 at Sp eS
  have S2 : Same H H2 := S1z.trans Sp
  have nS0 : H pS = none := S1z.free nS
  have at0 : atI ((w0 :: ws).map V.str) 0 = some (.str w0) := atI_nat (j := 0) rfl
  refine ⟨_, rfl, wA, _, 0, _, rfl, rfl, SqL.of (S2 _ _ hw), at0, tNil_i ⟨_, _, rfl, ?_⟩⟩
  clear eD hcs Sz ez S1z
  -- what both sides say
  have hlr : lineRead B E fi (w0 :: ws) = if w0 = "local" then
      (if fi = true ∧ (ws.filter fun x => isName x && !E.contains x) = ws ∧ ws ≠ [] ∧ (E ++ ws).length ≤ 5 ∧ (E ++ ws).Nodup then some (B.dropLast ++ [((topB B).1, (topB B).2 ++ ws)], E ++ ws) else none)
    else if openL.contains w0 = true then
      (if (if w0 = "same" then decide (ws.length = 2) && ((seenB B).contains (ws.getD 0 "") && (seenB B).contains (ws.getD 1 "")) else decide (ws = [])) = true ∧ B.length + 1 ≤ 6 then some (B ++ [(w0, [])], E) else none)
    else if w0 :: ws = [("else" : Str)] then (if twoL.contains (topB B).1 = true then some (B.dropLast ++ [(("else" : Str), [])], E) else none)
    else if w0 :: ws = [("end" : Str)] then (if (topB B).1 ≠ ("text" : Str) then some (B.dropLast, E) else none)
    else if isDeed (w0 :: ws) (seenB B) = true then some (B, E) else none := rfl
  have fin : ∀ (c : Bool) (r : Option (BlL × List Str)) (H' : Hp), lineRead B E fi (w0 :: ws) = r → c = r.isSome → Kp [bA, eA] H H' → (∀ p, r = some p → ∃ es', H' bA = some (.lst (es'.map V.ref)) ∧ BlsAt (hid [bA, eA] H') es' p.1 ∧ H' eA = some (.lst (p.2.map V.str))) → Q (.bl c) H' := fun c r H' e1 e2 k h => by
    cases hr : r with
    | none =>
      rw [hr] at e1 e2
      rw [e2]
      exact qn e1 H' k
    | some p =>
      rw [hr] at e1 e2
      obtain ⟨es', a1, a2, a3⟩ := h p hr
      rw [e2]
      exact qs p e1 es' H' k a1 a2 a3
  have eb2 := S2 _ _ hb
  have ee2 := S2 _ _ he
  have ew2 := S2 _ _ hw
  have hbs2 : BlsAt (hid [bA, eA] H2) es B := hbs.same (Kp.of S2).hid
  have hnb : ∀ {q : Addr} {u : HO}, q ≠ bA → q ≠ eA → H2 q = some u → hid [bA, eA] H2 q = some u := fun h1 h2 e => hid_at (by simp [h1, h2]) e
  -- local
  refine ⟨_, rfl, rfl, _, rfl, ite2 (fun c1 => ?_) fun c1 => ?_⟩
  · have hk : w0 = "local" := V.str.inj (of_decide_eq_true c1)
    rw [if_pos hk] at hlr
    -- the last block
    obtain ⟨e, hel1, heq⟩ := pop_split es hes
    obtain ⟨q, hql1, hqeq⟩ := pop_split B hbn
    have htop : topB B = q := by
      unfold topB
      rw [hqeq, List.getLast?_concat]
      rfl
    obtain ⟨ce, hee0, hce0⟩ := hbs.2 (es.length - 1) e q hel1 (by rw [hbs.1]; exact hql1)
    have hee := hid_le _ _ hee0
    have hce := hid_le _ _ hce0
    have hem := hid_mem hee0
    have hcm := hid_mem hce0
    have neb : e ≠ bA := fun z => hem (by simp [z])
    have nee : e ≠ eA := fun z => hem (by simp [z])
    have ncb : ce ≠ bA := fun z => hcm (by simp [z])
    have nce : ce ≠ eA := fun z => hcm (by simp [z])
    have hdl : (es.map V.ref).dropLast = es.dropLast.map V.ref := (List.map_dropLast ..).symm
    have hlast : (es.map V.ref)[(es.map V.ref).length - 1]? = some (.ref e) := by rw [List.length_map, List.getElem?_map, hel1]; rfl
    have hel0 : 0 < es.length := List.length_pos_iff.mpr hes
    have hwoT : ∀ y ∈ ws, PyData.strOk y = true := fun y hy => (hwo y (List.mem_cons_of_mem _ hy)).2
    -- which names are fresh
    refine ⟨_, rfl, 1, rfl, wA, _, rfl, SqL.of ew2, fun n nn => ?_⟩
    rw [show cutV ((w0 :: ws).map V.str) (some 1) none = ws.map V.str from cut_drop1 _ _]
    have S23 := new_same (o := .lst (ws.map V.str)) nn
    have en3 := new_at (o := .lst (ws.map V.str)) nn
    generalize upd H2 n (.lst (ws.map V.str)) = H3 at S23 en3
    have S3 := S2.trans S23
    have ee3 := S3 _ _ he
    refine ⟨n, rfl, ⟨_, SqL.of en3⟩, fun D2 nD2 => lc_it (walk_list (xs := ws.map V.str)) (fun k H' => Same H3 H' ∧ H' D2 = some (.lst (((ws.take k).filter fun x => isName x && !E.contains x).map V.str))) ⟨new_same nD2, upd_same⟩ (fun _ H' _ z => SqL.of (z.1 _ _ en3)) ?_ ?_⟩
    · rintro k v H' H'' hk' ⟨S4, eD2⟩ ⟨rfl, hx⟩
      rw [List.length_map] at hk'
      rw [List.getElem?_map, List.getElem?_eq_getElem hk'] at hx
      obtain rfl : V.str ws[k] = v := Option.some.inj hx
      have hm : ws[k] ∈ w0 :: ws := List.mem_cons_of_mem _ (List.getElem_mem hk')
      have e1 : (ws.take (k + 1)).filter (fun x => isName x && !E.contains x) = (ws.take k).filter (fun x => isName x && !E.contains x) ++ (if (isName ws[k] && !E.contains ws[k]) = true then [ws[k]] else []) := by
        rw [List.take_add_one, List.getElem?_eq_getElem hk', List.filter_append]
        congr 1
        show List.filter _ [ws[k]] = _
        rw [List.filter_cons, List.filter_nil]
      have hcap : ((((ws.take k).filter fun x => isName x && !E.contains x).map V.str).length) < sizeLine := by
        rw [List.length_map, sizeLine_eq]
        have h1 := List.length_filter_le (fun x => isName x && !E.contains x) (ws.take k)
        rw [List.length_take] at h1
        rw [List.length_cons] at hwl
        omega
      refine ⟨rfl, _, rfl, ws[k], rfl, by have := (hwo _ hm).1; omega, (hwo _ hm).2, fun H5 S5 => ⟨_, rfl, ?_⟩⟩
      have S5' := S4.trans S5
      have no : (isName ws[k] && !E.contains ws[k]) = false → Same H3 H5 ∧ H5 D2 = some (.lst (((ws.take (k + 1)).filter fun x => isName x && !E.contains x).map V.str)) := fun z => by
        refine ⟨S5', ?_⟩
        rw [e1, z, if_neg Bool.false_ne_true, List.append_nil]
        exact S5 _ _ eD2
      cases hn : isName ws[k] with
      | false => exact iteF (iteF (no (by rw [hn]; rfl)))
      | true =>
        refine iteT ⟨_, rfl, _, rfl, eA, _, rfl, .inl (SqL.of (S5' _ _ ee3)), rfl, flat_strs E, _, rfl, ?_⟩
        rw [show inV (V.str ws[k]) (E.map V.str) = E.contains ws[k] from inV_strs _ E, if_pos (c := true = true) rfl]
        cases hc : E.contains ws[k] with
        | true => exact iteF (no (by rw [hn, hc]; rfl))
        | false =>
          refine iteT ⟨_, rfl, _, S5 _ _ eD2, hcap, ?_, ?_⟩
          · intro a o x
            rw [upd_ne (ne_of_none x nD2)]
            exact S5' a o x
          · rw [upd_same, e1, hn, hc]
            rw [if_pos (by rfl), List.map_append]
            rfl
    rintro H4 ⟨S34, eD2⟩
    rw [List.length_map, List.take_length] at eD2
    have S4 := S3.trans S34
    -- every
    have ee4 := S4 _ _ he
    have ew4 := S4 _ _ hw
    refine ⟨_, rfl, .inl ⟨rfl, _, SqL.of ee4⟩, _, rfl, 1, rfl, wA, _, rfl, SqL.of ew4, fun n2 nn2 => ?_⟩
    rw [show cutV ((w0 :: ws).map V.str) (some 1) none = ws.map V.str from cut_drop1 _ _]
    have S45 := new_same (o := .lst (ws.map V.str)) nn2
    have en5 := new_at (o := .lst (ws.map V.str)) nn2
    generalize upd H4 n2 (.lst (ws.map V.str)) = H5 at S45 en5
    have S5 := S4.trans S45
    refine tNil_i ⟨eA, n2, _, _, rfl, rfl, S45 _ _ ee4, en5, ?_, ?_⟩
    · rw [List.length_map, List.length_map, sizeLine_eq]
      rw [List.length_cons] at hwl
      omega
    have hD2 : D2 ≠ eA := (ne_of_none ee3 nD2).symm
    have hD2b : D2 ≠ bA := (ne_of_none (S3 _ _ hb) nD2).symm
    have e6 : (upd H5 eA (.lst (E.map V.str ++ ws.map V.str))) eA = some (.lst ((E ++ ws).map V.str)) := by rw [upd_same, List.map_append]
    have k6 : Kp [bA, eA] H (upd H5 eA (.lst (E.map V.str ++ ws.map V.str))) := (Kp.of S5).put (by simp)
    have eb6 : (upd H5 eA (.lst (E.map V.str ++ ws.map V.str))) bA = some (.lst (es.map V.ref)) := (upd_ne nbe).trans (S5 _ _ hb)
    have ew6 : (upd H5 eA (.lst (E.map V.str ++ ws.map V.str))) wA = some (.lst ((w0 :: ws).map V.str)) := (upd_ne nwe).trans (S5 _ _ hw)
    have et6 : (upd H5 eA (.lst (E.map V.str ++ ws.map V.str))) e = some (.lst [.str q.1, .ref ce]) := (upd_ne nee).trans (S5 _ _ hee)
    have ec6 : (upd H5 eA (.lst (E.map V.str ++ ws.map V.str))) ce = some (.lst (q.2.map V.str)) := (upd_ne nce).trans (S5 _ _ hce)
    have eD6 : (upd H5 eA (.lst (E.map V.str ++ ws.map V.str))) D2 = some (.lst ((ws.filter fun x => isName x && !E.contains x).map V.str)) := (upd_ne hD2).trans (S45 _ _ eD2)
    generalize upd H5 eA (.lst (E.map V.str ++ ws.map V.str)) = H6 at *
    -- blocks
    have hidx : atI (es.map V.ref) (((es.map V.ref).length : Int) - 1) = some (.ref e) := by
      rw [show (((es.map V.ref).length : Int) - 1) = (((es.map V.ref).length - 1 : Nat) : Int) from by rw [List.length_map]; omega]
      exact atI_nat hlast
    refine ⟨_, rfl, .inl ⟨rfl, _, SqL.of eb6⟩, _, rfl, _, rfl, bA, _, rfl, .inl (SqL.of eb6), _, _, rfl, rfl, bA, _, _, _, rfl, rfl, SqL.of eb6, hidx, e, _, 0, _, rfl, rfl, SqL.of et6, atI_nat (j := 0) rfl, ?_⟩
    refine ⟨_, rfl, .inl ⟨rfl, _, SqL.of eb6⟩, bA, _, _, rfl, rfl, eb6, hlast, ?_⟩
    rw [hdl]
    have eb7 : (upd H6 bA (.lst (es.dropLast.map V.ref))) bA = some (.lst (es.dropLast.map V.ref)) := upd_same
    have k7 : Kp [bA, eA] H (upd H6 bA (.lst (es.dropLast.map V.ref))) := k6.put (by simp)
    have bs7 : BlsAt (hid [bA, eA] (upd H6 bA (.lst (es.dropLast.map V.ref)))) es.dropLast B.dropLast := (hbs.same k7.hid).drop
    have e7 : (upd H6 bA (.lst (es.dropLast.map V.ref))) eA = some (.lst ((E ++ ws).map V.str)) := (upd_ne nbe.symm).trans e6
    have ew7 : (upd H6 bA (.lst (es.dropLast.map V.ref))) wA = some (.lst ((w0 :: ws).map V.str)) := (upd_ne nwb).trans ew6
    have et7 : (upd H6 bA (.lst (es.dropLast.map V.ref))) e = some (.lst [.str q.1, .ref ce]) := (upd_ne neb).trans et6
    have ec7 : (upd H6 bA (.lst (es.dropLast.map V.ref))) ce = some (.lst (q.2.map V.str)) := (upd_ne ncb).trans ec6
    have eD7 : (upd H6 bA (.lst (es.dropLast.map V.ref))) D2 = some (.lst ((ws.filter fun x => isName x && !E.contains x).map V.str)) := (upd_ne hD2b).trans eD6
    generalize upd H6 bA (.lst (es.dropLast.map V.ref)) = H7 at *
    refine ⟨e, _, 1, _, rfl, rfl, SqL.of et7, atI_nat (j := 1) rfl, _, rfl, 1, rfl, wA, _, rfl, SqL.of ew7, fun n3 nn3 => ?_⟩
    rw [show cutV ((w0 :: ws).map V.str) (some 1) none = ws.map V.str from cut_drop1 _ _]
    have S78 := new_same (o := .lst (ws.map V.str)) nn3
    have en8 := new_at (o := .lst (ws.map V.str)) nn3
    generalize upd H7 n3 (.lst (ws.map V.str)) = H8 at S78 en8
    refine ⟨ce, n3, _, _, rfl, rfl, S78 _ _ ec7, en8, ?_, fun r nr => ?_⟩
    · rw [List.length_map, List.length_map, sizeLine_eq]
      rw [List.length_cons] at hwl
      have : q.2.length ≤ (seenB B).length := by
        rw [hqeq]
        unfold seenB
        rw [List.flatMap_append, List.length_append]
        simp
      omega
    have S89 := new_same (o := .lst (q.2.map V.str ++ ws.map V.str)) nr
    have er9 := new_at (o := .lst (q.2.map V.str ++ ws.map V.str)) nr
    generalize upd H8 r (.lst (q.2.map V.str ++ ws.map V.str)) = H9 at S89 er9
    refine tNil_i ⟨sz1000 (by show 2 ≤ 1000; decide), fun e' ne' => ?_⟩
    have S9a := new_same (o := .lst [.str q.1, .ref r]) ne'
    have eea := new_at (o := .lst [.str q.1, .ref r]) ne'
    generalize upd H9 e' (.lst [.str q.1, .ref r]) = Ha at S9a eea
    have S7a := S78.trans (S89.trans S9a)
    have eba := S7a _ _ eb7
    refine tNil_i ⟨bA, _, _, rfl, rfl, eba, ?_, ?_⟩
    · rw [List.length_map, List.length_dropLast, hbs.1, sizeLine_eq]; omega
    have neb' : e' ≠ bA := (ne_of_none (S89 _ _ (S78 _ _ eb7)) ne').symm
    have nee' : e' ≠ eA := (ne_of_none (S89 _ _ (S78 _ _ e7)) ne').symm
    have nrb : r ≠ bA := (ne_of_none (S78 _ _ eb7) nr).symm
    have nre : r ≠ eA := (ne_of_none (S78 _ _ e7) nr).symm
    have era : Ha r = some (.lst ((q.2 ++ ws).map V.str)) := by rw [List.map_append]; exact S9a _ _ er9
    have bsa : BlsAt (hid [bA, eA] Ha) (es.dropLast ++ [e']) (B.dropLast ++ [(q.1, q.2 ++ ws)]) := (bs7.same (Kp.of S7a).hid).app (c := r) (hid_at (by simp [neb', nee']) eea) (hid_at (by simp [nrb, nre]) era)
    have kb : Kp [bA, eA] H (upd Ha bA (.lst (es.dropLast.map V.ref ++ [.ref e']))) := (k7.trans (Kp.of S7a)).put (by simp)
    have bsb := bsa.same ((Kp.refl [bA, eA] Ha).put (o := .lst (es.dropLast.map V.ref ++ [.ref e'])) (m := bA) (by simp)).hid
    have ebb : (upd Ha bA (.lst (es.dropLast.map V.ref ++ [.ref e']))) bA = some (.lst ((es.dropLast ++ [e']).map V.ref)) := by rw [upd_same, List.map_append]; rfl
    have eeb : (upd Ha bA (.lst (es.dropLast.map V.ref ++ [.ref e']))) eA = some (.lst ((E ++ ws).map V.str)) := (upd_ne nbe.symm).trans (S7a _ _ e7)
    have ewb : (upd Ha bA (.lst (es.dropLast.map V.ref ++ [.ref e']))) wA = some (.lst ((w0 :: ws).map V.str)) := (upd_ne nwb).trans (S7a _ _ ew7)
    have eDb : (upd Ha bA (.lst (es.dropLast.map V.ref ++ [.ref e']))) D2 = some (.lst ((ws.filter fun x => isName x && !E.contains x).map V.str)) := (upd_ne hD2b).trans (S7a _ _ eD7)
    generalize upd Ha bA (.lst (es.dropLast.map V.ref ++ [.ref e'])) = Hb at *
    clear S7a S9a S89 S78 eD7 eD6 eb7 e7 ew7 et7 ec7 bs7 k7 k6 e6 eb6 ew6 et6 ec6
    -- is it good
    have hfo : ∀ y ∈ (ws.filter fun x => isName x && !E.contains x), PyData.strOk y = true := fun y hy => hwoT y (List.mem_filter.mp hy).1
    generalize hfr : (ws.filter fun x => isName x && !E.contains x) = fr at *
    dsimp only
    refine seq_mid (fun v Hc => v = .bl (fi && (decide (fr = ws) && (!decide (fr = []) && decide ((E ++ ws).length ≤ 5)))) ∧ Same Hb Hc) (fun Qy hq => ?_) ?_
    · refine ⟨_, rfl, _, rfl, ?_⟩
      cases fi with
      | false => exact iteF (hq _ _ ⟨rfl, Same.refl _⟩)
      | true =>
        refine iteT ⟨_, rfl, _, rfl, 1, rfl, wA, _, rfl, SqL.of ewb, fun n4 nn4 => ?_⟩
        rw [show cutV ((w0 :: ws).map V.str) (some 1) none = ws.map V.str from cut_drop1 _ _]
        have Sbc := new_same (o := .lst (ws.map V.str)) nn4
        have enc := new_at (o := .lst (ws.map V.str)) nn4
        generalize upd Hb n4 (.lst (ws.map V.str)) = Hc at Sbc enc
        refine ⟨_, _, .lst (SqL.of (Sbc _ _ eDb)) (strs_dp _ _ _), .lst (SqL.of enc) (strs_dp _ _ _), strs_shaped _ hfo, strs_shaped _ hwoT, _, rfl, ?_⟩
        rw [strs_eqv]
        by_cases c3 : fr = ws
        · rw [decide_eq_true c3]
          refine iteT ⟨_, rfl, Nat.zero_le _, fun z nz => ⟨_, _, .lst (SqL.of ((new_same nz) _ _ (Sbc _ _ eDb))) (strs_dp _ _ _), .lst (SqL.of upd_same) .nil, strs_shaped _ hfo, rfl, _, rfl, ?_⟩⟩
          rw [strs_nil]
          have Scd := Sbc.trans (new_same (o := .lst []) nz)
          by_cases c4 : fr = []
          · rw [decide_eq_true c4]
            exact iteF (hq _ _ ⟨by rw [decide_eq_true c3, decide_eq_true c4]; rfl, Scd⟩)
          · rw [decide_eq_false c4]
            refine iteT ⟨_, rfl, eA, _, rfl, .inl (SqL.of (Scd _ _ eeb)), _, _, rfl, rfl, hq _ _ ⟨?_, Scd⟩⟩
            show V.bl (decide (((((E ++ ws).map V.str).length : Nat) : Int) ≤ 5)) = _
            rw [List.length_map, decide_eq_true c3, decide_eq_false c4]
            show _ = V.bl (decide ((E ++ ws).length ≤ 5))
            exact congrArg V.bl (decide_eq_decide.mpr ⟨fun z => by omega, fun z => by omega⟩)
        · rw [decide_eq_false c3]
          exact iteF (hq _ _ ⟨by rw [decide_eq_false c3]; rfl, Sbc⟩)
    rintro v Hc ⟨rfl, Sbc⟩
    have hgood : (fi && (decide (fr = ws) && (!decide (fr = []) && decide ((E ++ ws).length ≤ 5)))) = true ↔ fi = true ∧ fr = ws ∧ ws ≠ [] ∧ (E ++ ws).length ≤ 5 := by
      rw [Bool.and_eq_true_iff, Bool.and_eq_true_iff, Bool.and_eq_true_iff, decide_eq_true_iff, decide_eq_true_iff, Bool.not_eq_true', decide_eq_false_iff_not]
      exact ⟨fun ⟨a, b, c, d⟩ => ⟨a, b, by rw [← b]; exact c, d⟩, fun ⟨a, b, c, d⟩ => ⟨a, b, by rw [b]; exact c, d⟩⟩
    refine ⟨_, rfl, _, rfl, ?_⟩
    cases hg : (fi && (decide (fr = ws) && (!decide (fr = []) && decide ((E ++ ws).length ≤ 5)))) with
    | false =>
      rw [if_neg fun z => by
        have := hgood.mpr ⟨z.1, z.2.1, z.2.2.1, z.2.2.2.1⟩
        rw [hg] at this
        cases this] at hlr
      exact iteF (fin _ _ _ hlr rfl (kb.trans (Kp.of Sbc)) fun p z => nomatch z)
    | true =>
      have g4 := hgood.mp hg
      have eec := Sbc _ _ eeb
      have hEl : (E ++ ws).length ≤ 5 := g4.2.2.2
      refine iteT ⟨_, rfl, eA, rfl, ⟨_, SqL.of eec⟩, fun D3 nD3 => lc_it (walk_list (xs := (E ++ ws).map V.str)) (fun k H' => Same Hc H' ∧ ∃ ps : List Addr, H' D3 = some (.lst (ps.map V.ref)) ∧ ps.length = k ∧ ∀ (i : Nat) (p : Addr) (x : Str), ps[i]? = some p → (E ++ ws)[i]? = some x → p ≠ D3 ∧ H' p = some (.tup [.str x, .bl true]))
        ⟨new_same nD3, [], upd_same, rfl, fun i p x z => nomatch z⟩ (fun _ H' _ z => SqL.of (z.1 _ _ eec)) ?_ ?_⟩
      · rintro k v H' H'' hk' ⟨Sc', ps, eD3, hpl, hps⟩ ⟨rfl, hx⟩
        rw [List.length_map] at hk'
        rw [List.getElem?_map, List.getElem?_eq_getElem hk'] at hx
        obtain rfl : V.str (E ++ ws)[k] = v := Option.some.inj hx
        refine ⟨rfl, _, rfl, sz1000 (by show 2 ≤ 1000; decide), fun t nt => ?_⟩
        have St := new_same (o := .tup [.str (E ++ ws)[k], .bl true]) nt
        have et := new_at (o := .tup [.str (E ++ ws)[k], .bl true]) nt
        generalize upd H'' t (.tup [.str (E ++ ws)[k], .bl true]) = Ht at St et
        have ntD : t ≠ D3 := (ne_of_none eD3 nt).symm
        refine ⟨_, St _ _ eD3, by rw [List.length_map, hpl, sizeLine_eq]; omega, ?_, ps ++ [t], ?_, by rw [List.length_append, hpl]; rfl, fun i p x h1 h2 => ?_⟩
        · intro a o x
          rw [upd_ne (ne_of_none x nD3)]
          exact St _ _ (Sc' a o x)
        · rw [upd_same, List.map_append]
          rfl
        · by_cases z : i < ps.length
          · rw [List.getElem?_append_left z] at h1
            obtain ⟨a1, a2⟩ := hps i p x h1 h2
            exact ⟨a1, (upd_ne a1).trans (St _ _ a2)⟩
          · rw [List.getElem?_append_right (by omega)] at h1
            cases hz : i - ps.length with
            | zero =>
              rw [hz] at h1
              cases h1
              have : i = k := by omega
              subst this
              rw [List.getElem?_eq_getElem hk'] at h2
              cases h2
              exact ⟨ntD, (upd_ne ntD).trans et⟩
            | succ m => rw [hz] at h1; cases h1
      rintro Hd ⟨Scd, ps, eD3, hpl, hps⟩
      rw [List.length_map] at hpl
      refine tNil_i ⟨D3, ps, (E ++ ws).map fun x => ((.inr x : Key), V.bl true), rfl, SqL.of eD3, paired_idx ps (E ++ ws) hpl fun i p x h1 h2 => SqT.of (hps i p x h1 h2).2, fun d nd => ?_⟩
      have Sde := new_same (o := .dK (mergeK [] ((E ++ ws).map fun x => ((.inr x : Key), V.bl true)))) nd
      have ede := new_at (o := .dK (mergeK [] ((E ++ ws).map fun x => ((.inr x : Key), V.bl true)))) nd
      generalize upd Hd d (.dK (mergeK [] ((E ++ ws).map fun x => ((.inr x : Key), V.bl true)))) = He at Sde ede
      have Sce := Scd.trans Sde
      refine tNil_i ⟨d, _, rfl, ede, _, rfl, eA, _, rfl, .inl (SqL.of (Sce _ _ eec)), rfl, ?_⟩
      have hdn : decide (V.int ((mergeK [] ((E ++ ws).map fun x => ((.inr x : Key), V.bl true))).length : Nat) = V.int (((E ++ ws).map V.str).length : Nat)) = decide (E ++ ws).Nodup := by
        rw [← dict_nodup (E ++ ws), List.length_map]
        exact decide_eq_decide.mpr ⟨fun z => V.int.inj z, fun z => by rw [z]⟩
      rw [hdn]
      by_cases cn : (E ++ ws).Nodup
      · rw [if_pos ⟨g4.1, g4.2.1, g4.2.2.1, hEl, cn⟩] at hlr
        refine fin _ _ _ hlr (decide_eq_true cn) (kb.trans (Kp.of (Sbc.trans Sce))) fun p z => ?_
        obtain rfl := Option.some.inj z
        rw [htop]
        exact ⟨_, (Sbc.trans Sce) _ _ ebb, bsb.same (Kp.of (Sbc.trans Sce)).hid, Sce _ _ eec⟩
      · rw [if_neg fun z => cn z.2.2.2.2] at hlr
        exact fin _ _ _ hlr (decide_eq_false cn) (kb.trans (Kp.of (Sbc.trans Sce))) fun p z => nomatch z
  have hk1 : ¬ w0 = "local" := fun z => c1 (decide_eq_true (by rw [z]))
  rw [if_neg hk1] at hlr
  refine ⟨_, rfl, sz1000 (by show 4 ≤ 1000; decide), fun T nT => ⟨T, _, rfl, .inr (SqT.of upd_same), rfl, flat_strs openL, _, rfl, ?_⟩⟩
  have S3 : Same H (upd H2 T (.tup [V.str "block", V.str "loop", V.str "maybe", V.str "same"])) := S2.trans (new_same (o := .tup [V.str "block", V.str "loop", V.str "maybe", V.str "same"]) nT)
  have S23 : Same H2 (upd H2 T (.tup [V.str "block", V.str "loop", V.str "maybe", V.str "same"])) := new_same nT
  rw [show inV (V.str w0) [V.str "block", V.str "loop", V.str "maybe", V.str "same"] = openL.contains w0 from inV_strs w0 openL, if_neg (c := false = true) Bool.false_ne_true]
  have eS3 := S23 _ _ eS
  generalize upd H2 T (.tup [V.str "block", V.str "loop", V.str "maybe", V.str "same"]) = H3 at S3 S23 eS3
  have eb3 := S3 _ _ hb
  have ee3 := S3 _ _ he
  have ew3 := S3 _ _ hw
  have hbs3 : BlsAt (hid [bA, eA] H3) es B := hbs.same (Kp.of S3).hid
  cases c2 : openL.contains w0 with
  | true =>
    rw [if_pos c2] at hlr
    refine iteT ⟨_, rfl, .inl ⟨rfl, _, SqL.of eb3⟩, _, rfl, Nat.zero_le _, fun c nc => ?_⟩
    have S34 := new_same (o := .lst []) nc
    have ec4 := new_at (o := .lst []) nc
    generalize upd H3 c (.lst []) = H4 at S34 ec4
    refine ⟨sz1000 (by show 2 ≤ 1000; decide), fun e nce => ?_⟩
    have S45 := new_same (o := .lst [.str w0, .ref c]) nce
    have ee5 := new_at (o := .lst [.str w0, .ref c]) nce
    generalize upd H4 e (.lst [.str w0, .ref c]) = H5 at S45 ee5
    have S5 := S3.trans (S34.trans S45)
    have eb5 := S5 _ _ hb
    refine tNil_i ⟨bA, _, _, rfl, rfl, eb5, ?_, ?_⟩
    · rw [List.length_map, hbs.1, sizeLine_eq]; omega
    have neb : e ≠ bA := (ne_of_none (S34 _ _ eb3) nce).symm
    have nee : e ≠ eA := (ne_of_none (S34 _ _ ee3) nce).symm
    have ncb : c ≠ bA := (ne_of_none eb3 nc).symm
    have nce' : c ≠ eA := (ne_of_none ee3 nc).symm
    have eb6 : (upd H5 bA (.lst (es.map V.ref ++ [.ref e]))) bA = some (.lst ((es ++ [e]).map V.ref)) := by rw [upd_same, List.map_append]; rfl
    have k6 : Kp [bA, eA] H (upd H5 bA (.lst (es.map V.ref ++ [.ref e]))) := (Kp.of S5).put (by simp)
    have bs5 : BlsAt (hid [bA, eA] H5) (es ++ [e]) (B ++ [(w0, [])]) := (hbs.same (Kp.of S5).hid).app (c := c) (hid_at (by simp [neb, nee]) ee5) (hid_at (by simp [ncb, nce']) (S45 _ _ ec4))
    have hid6 : Same (hid [bA, eA] H5) (hid [bA, eA] (upd H5 bA (.lst (es.map V.ref ++ [.ref e])))) := ((Kp.refl _ H5).put (by simp)).hid
    have bs6 := bs5.same hid6
    have ee6 : (upd H5 bA (.lst (es.map V.ref ++ [.ref e]))) eA = some (.lst (E.map V.str)) := (upd_ne nbe.symm).trans (S5 _ _ he)
    have ew6 : (upd H5 bA (.lst (es.map V.ref ++ [.ref e]))) wA = some (.lst ((w0 :: ws).map V.str)) := (upd_ne nwb).trans (S5 _ _ hw)
    have npS : pS ≠ bA := fun z => by rw [z] at nS0; rw [hb] at nS0; cases nS0
    have eS6 : (upd H5 bA (.lst (es.map V.ref ++ [.ref e]))) pS = some (.lst ((seenB B).map V.str)) := (upd_ne npS).trans (S45 _ _ (S34 _ _ eS3))
    generalize upd H5 bA (.lst (es.map V.ref ++ [.ref e])) = H6 at *
    -- the names
    refine ⟨_, rfl, 1, rfl, wA, _, rfl, SqL.of ew6, fun n nn => ?_⟩
    rw [show cutV ((w0 :: ws).map V.str) (some 1) none = ws.map V.str from cut_drop1 _ _]
    have S67 := new_same (o := .lst (ws.map V.str)) nn
    have en7 := new_at (o := .lst (ws.map V.str)) nn
    generalize upd H6 n (.lst (ws.map V.str)) = H7 at S67 en7
    have k7 := k6.trans (Kp.of S67)
    have eb7 := S67 _ _ eb6
    have ee7 := S67 _ _ ee6
    have bs7 := bs6.same (Kp.of S67).hid
    have eS7 := S67 _ _ eS6
    have atn : ∀ (j : Nat) (x : Str), ws[j]? = some x → atI (ws.map V.str) (j : Int) = some (.str x) := fun j x e => atI_nat (by rw [List.getElem?_map, e]; rfl)
    have flt := flat_strs (seenB B)
    dsimp only [gName]
    refine seq_mid (fun v H' => v = .bl (decide (ws.length = 2) && ((seenB B).contains (ws.getD 0 "") && (seenB B).contains (ws.getD 1 ""))) ∧ H7 = H') (fun Qy hq => ?_) ?_
    · refine ⟨_, rfl, n, _, rfl, .inl (SqL.of en7), rfl, _, rfl, ?_⟩
      rw [show decide (V.int ((ws.map V.str).length : Nat) = V.int 2) = decide (ws.length = 2) from decide_eq_decide.mpr ⟨fun z => by have := V.int.inj z; rw [List.length_map] at this; omega, fun z => by rw [List.length_map, z]; rfl⟩]
      by_cases hl2 : ws.length = 2
      · obtain ⟨x, y, rfl⟩ : ∃ x y, ws = [x, y] := by
          match ws, hl2 with
          | [x, y], _ => exact ⟨x, y, rfl⟩
        rw [decide_eq_true hl2]
        refine iteT ⟨_, rfl, n, _, 0, _, rfl, rfl, SqL.of en7, atn 0 x rfl, _, rfl, pS, _, rfl, .inl (SqL.of eS7), rfl, flt, _, rfl, ?_⟩
        rw [show inV (V.str x) ((seenB B).map V.str) = (seenB B).contains x from inV_strs x _, if_neg (c := false = true) Bool.false_ne_true]
        show if (seenB B).contains x = true then _ else _
        cases c3 : (seenB B).contains x with
        | false =>
          refine iteF (hq _ _ ⟨?_, rfl⟩)
          show V.bl false = V.bl (true && ((seenB B).contains x && (seenB B).contains y))
          rw [c3]
          rfl
        | true =>
          refine iteT ⟨_, rfl, n, _, 1, _, rfl, rfl, SqL.of en7, atn 1 y rfl, _, rfl, pS, _, rfl, .inl (SqL.of eS7), rfl, flt, hq _ _ ⟨?_, rfl⟩⟩
          show V.bl (inV (V.str y) ((seenB B).map V.str)) = V.bl (true && ((seenB B).contains x && (seenB B).contains y))
          rw [c3, inV_strs]
          rfl
      · rw [decide_eq_false hl2]
        exact iteF (hq _ _ ⟨by rw [decide_eq_false hl2, Bool.false_and], rfl⟩)
    rintro v H8 ⟨rfl, rfl⟩
    have ok : ∀ g : Bool, g = (if w0 = "same" then decide (ws.length = 2) && ((seenB B).contains (ws.getD 0 "") && (seenB B).contains (ws.getD 1 "")) else decide (ws = [])) → ∀ H8, Same H7 H8 → (∃ c, V.bl g = V.bl c ∧ if c = true then
        tOp (rI0 fun i j => V.bl (decide (i ≤ j))) (tCB (fun xs H_1 Q => ∃ p ys, xs = [V.ref p] ∧ (SqL K H_1 p ys ∨ SqT K H_1 p ys) ∧ Q (V.int ys.length) H_1) (tCons (tVar 1) tNil)) (tC (V.int 6)) ((((L2.start nLR [V.ref wA, V.ref bA, V.ref eA, V.bl fi]).set 4 (some (V.ref pS))).set 5 (some (V.str w0))).set 8 (some (V.ref n)) |>.set 9 (some (V.bl (decide (ws.length = 2) && ((seenB B).contains (ws.getD 0 "") && (seenB B).contains (ws.getD 1 "")))))) H8 Q else Q (V.bl false) H8) := fun g eg H8 S8 => by
      have eb8 := S8 _ _ eb7
      refine ⟨_, rfl, ?_⟩
      rw [← eg] at hlr
      cases g with
      | false =>
        rw [if_neg (fun z => Bool.false_ne_true z.1)] at hlr
        exact iteF (fin _ _ _ hlr rfl (k7.trans (Kp.of S8)) fun p z => nomatch z)
      | true =>
        refine iteT ⟨_, rfl, bA, _, rfl, .inl (SqL.of eb8), _, _, rfl, rfl, ?_⟩
        have hbl2 : ((((es ++ [e]).map V.ref).length : Nat) : Int) ≤ 6 ↔ B.length + 1 ≤ 6 := by
          rw [List.length_map, List.length_append, List.length_singleton, hbs.1]
          omega
        by_cases c6 : B.length + 1 ≤ 6
        · rw [if_pos ⟨rfl, c6⟩] at hlr
          refine fin _ _ _ hlr ?_ (k7.trans (Kp.of S8)) fun p z => ?_
          · show decide _ = true
            exact decide_eq_true (hbl2.mpr c6)
          · obtain rfl := Option.some.inj z
            exact ⟨_, eb8, bs7.same (Kp.of S8).hid, S8 _ _ ee7⟩
        · rw [if_neg (fun z => c6 z.2)] at hlr
          refine fin _ _ _ hlr ?_ (k7.trans (Kp.of S8)) fun p z => nomatch z
          exact decide_eq_false fun z => c6 (hbl2.mp z)
    refine ⟨_, rfl, rfl, _, rfl, ite2 (fun c4 => ?_) fun c4 => ?_⟩
    · have h4 : w0 = "same" := V.str.inj (of_decide_eq_true c4)
      exact ⟨_, rfl, ok _ (by rw [if_pos h4]) _ (Same.refl _)⟩
    · have h4 : ¬ w0 = "same" := fun z => c4 (decide_eq_true (by rw [z]))
      refine ⟨_, rfl, Nat.zero_le _, fun z nz => ⟨_, _, .lst (SqL.of ((new_same nz) _ _ en7)) (strs_dp _ _ _), .lst (SqL.of upd_same) .nil, strs_shaped _ fun y hy => (hwo y (List.mem_cons_of_mem _ hy)).2, rfl, ?_⟩⟩
      rw [strs_nil]
      exact ok _ (by rw [if_neg h4]) _ (new_same nz)
  | false =>
    rw [if_neg (by rw [c2]; exact Bool.false_ne_true)] at hlr
    -- the last block
    obtain ⟨e, hel1, heq⟩ := pop_split es hes
    obtain ⟨q, hql1, hqeq⟩ := pop_split B hbn
    have htop : topB B = q := by
      unfold topB
      rw [hqeq, List.getLast?_concat]
      rfl
    obtain ⟨ce, hee0, _⟩ := hbs.2 (es.length - 1) e q hel1 (by rw [hbs.1]; exact hql1)
    have hee := hid_le _ _ hee0
    have hem := hid_mem hee0
    have neb : e ≠ bA := fun z => hem (by simp [z])
    have nee : e ≠ eA := fun z => hem (by simp [z])
    have hdl : (es.map V.ref).dropLast = es.dropLast.map V.ref := (List.map_dropLast ..).symm
    have hlast : ∀ {G : Hp}, (es.map V.ref)[(es.map V.ref).length - 1]? = some (.ref e) := fun {G} => by rw [List.length_map, List.getElem?_map, hel1]; rfl
    have hwsh : SeqAt.shaped (.list ((w0 :: ws).map PyData.str)) = true := strs_shaped _ fun y hy => (hwo y hy).2
    refine iteF ⟨_, rfl, sz1000 (by show 1 ≤ 1000; decide), fun l nl => ⟨_, _, .lst (SqL.of ((new_same nl) _ _ ew3)) (strs_dp _ _ _), .lst (SqL.of upd_same) (strs_dp K _ [("else" : Str)]), hwsh, strs_shaped [("else" : Str)] (by decide +kernel), _, rfl, ?_⟩⟩
    rw [show PyData.eqv (.list ((w0 :: ws).map PyData.str)) (.list ([("else" : Str)].map PyData.str)) = decide (w0 :: ws = [("else" : Str)]) from strs_eqv _ _]
    have S34 := new_same (o := .lst [V.str "else"]) nl
    generalize upd H3 l (.lst [V.str "else"]) = H4 at S34
    have S4 := S3.trans S34
    have eb4 := S4 _ _ hb
    by_cases c3 : w0 :: ws = [("else" : Str)]
    · rw [if_pos c3] at hlr
      rw [decide_eq_true c3]
      refine iteT ⟨_, rfl, .inl ⟨rfl, _, SqL.of eb4⟩, bA, _, _, rfl, rfl, eb4, hlast (G := H), ?_⟩
      rw [hdl]
      have eb5 : (upd H4 bA (.lst (es.dropLast.map V.ref))) bA = some (.lst (es.dropLast.map V.ref)) := upd_same
      have k5 : Kp [bA, eA] H (upd H4 bA (.lst (es.dropLast.map V.ref))) := (Kp.of S4).put (by simp)
      have bs5 : BlsAt (hid [bA, eA] (upd H4 bA (.lst (es.dropLast.map V.ref)))) es.dropLast B.dropLast := (hbs.same k5.hid).drop
      have ee5 : (upd H4 bA (.lst (es.dropLast.map V.ref))) eA = some (.lst (E.map V.str)) := (upd_ne nbe.symm).trans (S4 _ _ he)
      have et5 : (upd H4 bA (.lst (es.dropLast.map V.ref))) e = some (.lst [.str q.1, .ref ce]) := (upd_ne neb).trans (S4 _ _ hee)
      generalize upd H4 bA (.lst (es.dropLast.map V.ref)) = H5 at *
      refine ⟨_, rfl, .inl ⟨rfl, _, SqL.of eb5⟩, Nat.zero_le _, fun c nc => ?_⟩
      have S56 := new_same (o := .lst []) nc
      have ec6 := new_at (o := .lst []) nc
      generalize upd H5 c (.lst []) = H6 at S56 ec6
      refine ⟨sz1000 (by show 2 ≤ 1000; decide), fun e' ne' => ?_⟩
      have S67 := new_same (o := .lst [.str "else", .ref c]) ne'
      have ee7 := new_at (o := .lst [.str "else", .ref c]) ne'
      generalize upd H6 e' (.lst [.str "else", .ref c]) = H7 at S67 ee7
      have S7 := S56.trans S67
      have eb7 := S7 _ _ eb5
      refine tNil_i ⟨bA, _, _, rfl, rfl, eb7, ?_, ?_⟩
      · rw [List.length_map, List.length_dropLast, hbs.1, sizeLine_eq]; omega
      have neb' : e' ≠ bA := (ne_of_none (S56 _ _ eb5) ne').symm
      have nee' : e' ≠ eA := (ne_of_none (S56 _ _ ee5) ne').symm
      have ncb : c ≠ bA := (ne_of_none eb5 nc).symm
      have nce' : c ≠ eA := (ne_of_none ee5 nc).symm
      have bs7 : BlsAt (hid [bA, eA] H7) (es.dropLast ++ [e']) (B.dropLast ++ [(("else" : Str), [])]) := (bs5.same (Kp.of S7).hid).app (c := c) (hid_at (by simp [neb', nee']) ee7) (hid_at (by simp [ncb, nce']) (S67 _ _ ec6))
      have k8 : Kp [bA, eA] H (upd H7 bA (.lst (es.dropLast.map V.ref ++ [.ref e']))) := (k5.trans (Kp.of S7)).put (by simp)
      have bs8 := bs7.same ((Kp.refl [bA, eA] H7).put (o := .lst (es.dropLast.map V.ref ++ [.ref e'])) (m := bA) (by simp)).hid
      have eb8 : (upd H7 bA (.lst (es.dropLast.map V.ref ++ [.ref e']))) bA = some (.lst ((es.dropLast ++ [e']).map V.ref)) := by rw [upd_same, List.map_append]; rfl
      have ee8 : (upd H7 bA (.lst (es.dropLast.map V.ref ++ [.ref e']))) eA = some (.lst (E.map V.str)) := (upd_ne nbe.symm).trans (S7 _ _ ee5)
      have et8 : (upd H7 bA (.lst (es.dropLast.map V.ref ++ [.ref e']))) e = some (.lst [.str q.1, .ref ce]) := (upd_ne neb).trans (S7 _ _ et5)
      generalize upd H7 bA (.lst (es.dropLast.map V.ref ++ [.ref e'])) = H8 at *
      refine ⟨_, rfl, e, _, 0, _, rfl, rfl, SqL.of et8, atI_nat (j := 0) rfl, sz1000 (by show 2 ≤ 1000; decide), fun T2 nT2 => ⟨T2, _, rfl, .inr (SqT.of upd_same), rfl, flat_strs twoL, ?_⟩⟩
      rw [show inV (V.str q.1) [V.str "maybe", V.str "same"] = twoL.contains q.1 from inV_strs q.1 twoL, if_neg (c := false = true) Bool.false_ne_true]
      have S89 := new_same (o := .tup [V.str "maybe", V.str "same"]) nT2
      generalize upd H8 T2 (.tup [V.str "maybe", V.str "same"]) = H9 at S89
      rw [htop] at hlr
      refine fin _ _ _ hlr ?_ (k8.trans (Kp.of S89)) fun p z => ?_
      · cases twoL.contains q.1 <;> rfl
      · cases c5 : twoL.contains q.1 with
        | false => rw [c5, if_neg Bool.false_ne_true] at z; cases z
        | true =>
          rw [c5, if_pos rfl] at z
          obtain rfl := Option.some.inj z
          exact ⟨_, S89 _ _ eb8, bs8.same (Kp.of S89).hid, S89 _ _ ee8⟩
    rw [if_neg c3] at hlr
    rw [decide_eq_false c3]
    have ew4 := S4 _ _ hw
    refine iteF ⟨_, rfl, sz1000 (by show 1 ≤ 1000; decide), fun l2 nl2 => ⟨_, _, .lst (SqL.of ((new_same nl2) _ _ ew4)) (strs_dp _ _ _), .lst (SqL.of upd_same) (strs_dp K _ [("end" : Str)]), hwsh, strs_shaped [("end" : Str)] (by decide +kernel), _, rfl, ?_⟩⟩
    rw [show PyData.eqv (.list ((w0 :: ws).map PyData.str)) (.list ([("end" : Str)].map PyData.str)) = decide (w0 :: ws = [("end" : Str)]) from strs_eqv _ _]
    have S45 := new_same (o := .lst [V.str "end"]) nl2
    generalize upd H4 l2 (.lst [V.str "end"]) = H5 at S45
    have S5 := S4.trans S45
    have eb5 := S5 _ _ hb
    by_cases c4 : w0 :: ws = [("end" : Str)]
    · rw [if_pos c4] at hlr
      rw [decide_eq_true c4]
      refine iteT ⟨_, rfl, .inl ⟨rfl, _, SqL.of eb5⟩, bA, _, _, rfl, rfl, eb5, hlast (G := H), ?_⟩
      rw [hdl]
      have eb6 : (upd H5 bA (.lst (es.dropLast.map V.ref))) bA = some (.lst (es.dropLast.map V.ref)) := upd_same
      have k6 : Kp [bA, eA] H (upd H5 bA (.lst (es.dropLast.map V.ref))) := (Kp.of S5).put (by simp)
      have bs6 : BlsAt (hid [bA, eA] (upd H5 bA (.lst (es.dropLast.map V.ref)))) es.dropLast B.dropLast := (hbs.same k6.hid).drop
      have ee6 : (upd H5 bA (.lst (es.dropLast.map V.ref))) eA = some (.lst (E.map V.str)) := (upd_ne nbe.symm).trans (S5 _ _ he)
      have et6 : (upd H5 bA (.lst (es.dropLast.map V.ref))) e = some (.lst [.str q.1, .ref ce]) := (upd_ne neb).trans (S5 _ _ hee)
      generalize upd H5 bA (.lst (es.dropLast.map V.ref)) = H6 at *
      refine ⟨e, _, 0, _, rfl, rfl, SqL.of et6, atI_nat (j := 0) rfl, rfl, ?_⟩
      rw [htop] at hlr
      refine fin _ _ _ hlr ?_ k6 fun p z => ?_
      · by_cases c5 : q.1 = ("text" : Str)
        · rw [if_neg (fun z => z c5), decide_eq_true (by rw [c5])]; rfl
        · rw [if_pos c5, decide_eq_false (fun z => c5 (V.str.inj z))]; rfl
      · by_cases c5 : q.1 = ("text" : Str)
        · rw [if_neg (fun z => z c5)] at z; cases z
        · rw [if_pos c5] at z
          obtain rfl := Option.some.inj z
          exact ⟨_, eb6, bs6, ee6⟩
    rw [if_neg c4] at hlr
    rw [decide_eq_false c4]
    have eS5 := S45 _ _ (S34 _ _ eS3)
    refine iteF ⟨_, rfl, _, rfl, tNil_i ⟨wA, pS, w0 :: ws, seenB B, rfl, S5 _ _ hw, eS5, List.cons_ne_nil _ _, by omega, fun H6 S6 => ?_⟩⟩
    have S7 := S5.trans S6
    refine fin _ _ _ hlr ?_ (Kp.of S7) fun p z => ?_
    · cases isDeed (w0 :: ws) (seenB B) <;> rfl
    · cases c5 : isDeed (w0 :: ws) (seenB B) with
      | false => rw [c5, if_neg Bool.false_ne_true] at z; cases z
      | true =>
        rw [c5, if_pos rfl] at z
        obtain rfl := Option.some.inj z
        exact ⟨_, S7 _ _ hb, hbs.same (Kp.of S7).hid, S7 _ _ he⟩
end
end FP
set_option Elab.async false
set_option linter.all false
set_option maxRecDepth 100000
set_option maxHeartbeats 8000000
set_option exponentiation.threshold 2000
/-! Rows (a text, a number) by hand; the texts with one thing wrong. -/
namespace FP
open PySem PySem.Spec PyProof.Rows L2 TL
theorem op_mulS {X : Cx} : OpR X (binaryOp .Mult) (fun x y H Q => ∃ s n, x = .str s ∧ y = .int n ∧ MulOk s n ∧ Q (.str (Txt.mul s n)) H) := by
  intro pins s σ H x y v u Q I rx ry h
  obtain ⟨i, j, rfl, rfl, hz, q⟩ := h
  obtain ⟨t, rfl⟩ := rx
  obtain ⟨t', rfl⟩ := ry
  exact SB.mul hz fun t' k => ⟨.str _, H, I.tok _, ⟨_, rfl⟩, q⟩
abbrev RwL := List (Str × Int)
def RowsAt (H : Hp) (ps : List Addr) (R : RwL) : Prop := ps.length = R.length ∧ ∀ (i : Nat) (p : Addr) (q : Str × Int), ps[i]? = some p → R[i]? = some q → H p = some (.tup [.str q.1, .int q.2])
theorem RowsAt.same {H H' : Hp} {ps : List Addr} {R : RwL} (h : RowsAt H ps R) (S : Same H H') : RowsAt H' ps R := ⟨h.1, fun i p q h1 h2 => S _ _ (h.2 i p q h1 h2)⟩
theorem RowsAt.app {H : Hp} {ps ps' : List Addr} {R R' : RwL} (h : RowsAt H ps R) (h' : RowsAt H ps' R') : RowsAt H (ps ++ ps') (R ++ R') := by
  refine ⟨by rw [List.length_append, List.length_append, h.1, h'.1], fun i p q e1 e2 => ?_⟩
  by_cases z : i < ps.length
  · rw [List.getElem?_append_left z] at e1
    rw [List.getElem?_append_left (by rw [← h.1]; exact z)] at e2
    exact h.2 i p q e1 e2
  · rw [List.getElem?_append_right (by omega)] at e1
    rw [List.getElem?_append_right (by rw [← h.1]; omega), ← h.1] at e2
    exact h'.2 _ p q e1 e2
theorem RowsAt.cons {H : Hp} {p : Addr} {q : Str × Int} {ps : List Addr} {R : RwL} (e : H p = some (.tup [.str q.1, .int q.2])) (h : RowsAt H ps R) : RowsAt H (p :: ps) (q :: R) := by
  refine ⟨congrArg (· + 1) h.1, fun i x y e1 e2 => ?_⟩
  match i with
  | 0 => cases e1; cases e2; exact e
  | i + 1 => exact h.2 i x y e1 e2
def PureS (te : TE) (σ : L2.St) (s : Str) : Prop := ∀ (H : Hp) (Q : VK), Q (.str s) H → te σ H Q
def MkRs (t : TA) (σ : L2.St) (R : RwL) : Prop := ∀ (H : Hp) (Q : List V → Hp → Prop), (∀ ps H', Same H H' → RowsAt H' ps R → Q (ps.map V.ref) H') → t σ H Q
def MkR (te : TE) (σ : L2.St) (H : Hp) (R : RwL) : Prop := ∀ Q : VK, (∀ r ps H', Same H H' → H' r = some (.lst (ps.map V.ref)) → RowsAt H' ps R → Q (.ref r) H') → te σ H Q
section
variable {σ : L2.St} {te ta tb : TE} {t : TA} {s s2 : Str} {n : Int} {R R' : RwL} {H : Hp}
theorem pureS_c : PureS (tC (.str s)) σ s := fun H Q q => q
theorem pureS_var {i : Nat} (h : σ[i]? = some (some (.str s))) : PureS (tVar i) σ s := fun H Q q => ⟨_, h, q⟩
theorem pureS_add (h1 : PureS ta σ s) (h2 : PureS tb σ s2) (z : s.length + s2.length ≤ 100000) : PureS (tOp (fun x y H Q => ∃ i j, x = .str i ∧ y = .str j ∧ i.length + j.length ≤ sizeLine ∧ Q (.str (i ++ j)) H) ta tb) σ (s ++ s2) := fun H Q q =>
  h1 H _ (h2 H _ ⟨s, s2, rfl, rfl, by rw [sizeLine_eq]; omega, q⟩)
theorem pureS_mul (z : MulOk s n) : PureS (tOp (fun x y H Q => ∃ s n, x = .str s ∧ y = .int n ∧ MulOk s n ∧ Q (.str (Txt.mul s n)) H) (tC (.str s)) (tC (.int n))) σ (Txt.mul s n) := fun H Q q => ⟨s, n, rfl, rfl, z, q⟩
theorem mkRs_nil : MkRs tNil σ [] := fun H Q q => tNil_i (q [] H (Same.refl _) ⟨rfl, fun i p x z => nomatch z⟩)
theorem mkRs_cons (h : PureS te σ s) (hr : MkRs t σ R) : MkRs (tCons (tTup (tCons te (tCons (tC (.int n)) tNil))) t) σ ((s, n) :: R) := fun H Q q => h H _ (by
  refine tConsC_i (tNil_i ?_)
  refine ⟨sz1000 (by show 2 ≤ 1000; decide), fun p np => hr _ _ fun ps H' S hps => q (p :: ps) H' ((new_same np).trans S) (RowsAt.cons (S _ _ (new_at np)) hps)⟩)
theorem mkR_lst (h : MkRs t σ R) (z : R.length ≤ 1000) : MkR (tLst t) σ H R := fun Q q => h H _ fun ps H' S hps => ⟨sz1000 (by rw [List.length_map, hps.1]; exact z), fun r nr => q r ps _ (S.trans (new_same nr)) upd_same (hps.same (new_same nr))⟩
theorem mkR_var {i : Nat} {r : Addr} {ps : List Addr} (h : σ[i]? = some (some (.ref r))) (e : H r = some (.lst (ps.map V.ref))) (hp : RowsAt H ps R) : MkR (tVar i) σ H R := fun Q q => ⟨_, h, q r ps H (Same.refl _) e hp⟩
theorem mkR_cat (h1 : MkR ta σ H R) (h2 : ∀ H', MkR tb σ H' R') (z : R.length + R'.length ≤ 1000) : MkR (tOp rCat ta tb) σ H (R ++ R') := fun Q q =>
  h1 _ fun r ps H1 S1 er hp => h2 H1 _ fun r2 ps2 H2 S2 er2 hp2 => ⟨r, r2, _, _, rfl, rfl, S2 _ _ er, er2, sz1000 (by rw [List.length_map, List.length_map, hp.1, hp2.1]; exact z), fun d nd =>
    q d (ps ++ ps2) _ ((S1.trans S2).trans (new_same nd)) (by rw [upd_same, List.map_append]) (((hp.same S2).app hp2).same (new_same nd))⟩
end
theorem ints_eqv : ∀ a b : List Int, PyData.eqv (.list (a.map PyData.int)) (.list (b.map PyData.int)) = decide (a = b)
  | [], [] => rfl
  | [], b :: r => by rw [decide_eq_false (by intro e; cases e)]; rfl
  | a :: r, [] => by rw [decide_eq_false (by intro e; cases e)]; rfl
  | a :: r, b :: q => by
    have ih := ints_eqv r q
    have h1 : PyData.eqv (.list ((a :: r).map PyData.int)) (.list ((b :: q).map PyData.int)) = ((a == b) && PyData.eqv (.list (r.map PyData.int)) (.list (q.map PyData.int))) := by
      simp only [List.map_cons, PyData.eqv, PyData.eqvAll]
    rw [h1, ih]
    by_cases z : a = b
    · by_cases y : r = q
      · rw [beq_iff_eq.mpr z, decide_eq_true y, decide_eq_true (by rw [z, y])]; rfl
      · rw [beq_iff_eq.mpr z, decide_eq_false y, decide_eq_false fun e => y (List.cons.inj e).2]; rfl
    · rw [beq_eq_false_iff_ne.mpr z, decide_eq_false fun e => z (List.cons.inj e).1]; rfl
def longX : Str := "local a" ++ Txt.mul "\nuse a" 39
def fiveX : Str := Txt.join "\n" ["block", "block", "block", "block", "block"]
end FP
set_option Elab.async false
set_option linter.all false
set_option maxRecDepth 100000
set_option maxHeartbeats 8000000
set_option exponentiation.threshold 2000
/-! The texts with one thing wrong. -/
namespace FP
open PySem PySem.Spec PyProof.Rows L2 TL
def hR0 : RwL := [(("" : Str), 0), (("\n" : Str), 1), ((" " : Str), 1), (("local" : Str), 1), (("local a b c d e" : Str), 0), (("local a b c d e f" : Str), 1)]
def hR1 : RwL := [(("local a a" : Str), 1), (("use a" : Str), 1), (("local a\nlocal b" : Str), 2), (("local a\nuse a\nlocal b" : Str), 3)]
def hR2 : RwL := [(("local A" : Str), 1), (("local to" : Str), 1), (("local" : Str), 1)]
def hR3 : RwL := [(("block\nlocal a\nuse a\nend\nuse a" : Str), 5), (("local a\nblock\nlocal a\nend" : Str), 3), (("loop" : Str), 2)]
def hR4 : RwL := [(("block\nlocal a\nend\nblock\nlocal a\nend" : Str), 5), (("maybe\nlocal a\nelse\nlocal b\nuse b\nend" : Str), 0)]
def hR5 : RwL := [(("maybe\nlocal a\nelse\nuse a\nend" : Str), 4), (("maybe\nelse\nelse\nend" : Str), 3), (("block\nelse\nend" : Str), 2)]
def hR6 : RwL := [(("end" : Str), 1), (("else" : Str), 1), (("block\nend\nend" : Str), 3), (("local a\nsame a b\nend" : Str), 2)]
def hR7 : RwL := [(("local a\nsame a\nend" : Str), 2)]
def hR8 : RwL := [(("local a\nsame a a\nend" : Str), 0), (("local a\ncopy a a" : Str), 2), (("local a\ncopy a from a" : Str), 2)]
def hR9 : RwL := [(("local a\nload a to a" : Str), 2), (("local a\nstore a from a" : Str), 2), (("local a\nuse a a" : Str), 2)]
def hR10 : RwL := [(("local a\nuse  a" : Str), 2)]
def hR11 : RwL := [(("local a\nuse a " : Str), 2), (("local a\ninput" : Str), 2), (("local a\ncall b" : Str), 2), (("local abcdefghijkl" : Str), 0)]
def hR12 : RwL := [(("local abcdefghijklm" : Str), 1), (longX, 0), ((longX ++ ("\nuse a" : Str)), 41), ((longX ++ ("\n" : Str)), 41)]
def hR13 : RwL := [((("use a\n" : Str) ++ longX), 1), ((fiveX ++ (Txt.mul "\nend" 5)), 0), (((fiveX ++ ("\nblock" : Str)) ++ (Txt.mul "\nend" 6)), 6)]
def hR14 : RwL := [((fiveX ++ (Txt.mul "\nend" 4)), 10), (("loop a\nend" : Str), 1)]
def hRR : RwL := ((((((((((((((hR0 ++ hR1) ++ hR2) ++ hR3) ++ hR4) ++ hR5) ++ hR6) ++ hR7) ++ hR8) ++ hR9) ++ hR10) ++ hR11) ++ hR12) ++ hR13) ++ hR14)
theorem hRR_len : ∀ q ∈ hRR, q.1.length ≤ 80000 := by decide +kernel
set_option maxHeartbeats 0 in
theorem hR0_eq : hR0.map (fun q => ((wrongM q.1 40 : Nat) : Int)) = hR0.map (·.2) := by decide +kernel
set_option maxHeartbeats 0 in
theorem hR1_eq : hR1.map (fun q => ((wrongM q.1 40 : Nat) : Int)) = hR1.map (·.2) := by decide +kernel
set_option maxHeartbeats 0 in
theorem hR2_eq : hR2.map (fun q => ((wrongM q.1 40 : Nat) : Int)) = hR2.map (·.2) := by decide +kernel
set_option maxHeartbeats 0 in
theorem hR3_eq : hR3.map (fun q => ((wrongM q.1 40 : Nat) : Int)) = hR3.map (·.2) := by decide +kernel
set_option maxHeartbeats 0 in
theorem hR4_eq : hR4.map (fun q => ((wrongM q.1 40 : Nat) : Int)) = hR4.map (·.2) := by decide +kernel
set_option maxHeartbeats 0 in
theorem hR5_eq : hR5.map (fun q => ((wrongM q.1 40 : Nat) : Int)) = hR5.map (·.2) := by decide +kernel
set_option maxHeartbeats 0 in
theorem hR6_eq : hR6.map (fun q => ((wrongM q.1 40 : Nat) : Int)) = hR6.map (·.2) := by decide +kernel
set_option maxHeartbeats 0 in
theorem hR7_eq : hR7.map (fun q => ((wrongM q.1 40 : Nat) : Int)) = hR7.map (·.2) := by decide +kernel
set_option maxHeartbeats 0 in
theorem hR8_eq : hR8.map (fun q => ((wrongM q.1 40 : Nat) : Int)) = hR8.map (·.2) := by decide +kernel
set_option maxHeartbeats 0 in
theorem hR9_eq : hR9.map (fun q => ((wrongM q.1 40 : Nat) : Int)) = hR9.map (·.2) := by decide +kernel
set_option maxHeartbeats 0 in
theorem hR10_eq : hR10.map (fun q => ((wrongM q.1 40 : Nat) : Int)) = hR10.map (·.2) := by decide +kernel
set_option maxHeartbeats 0 in
theorem hR11_eq : hR11.map (fun q => ((wrongM q.1 40 : Nat) : Int)) = hR11.map (·.2) := by decide +kernel
set_option maxHeartbeats 0 in
theorem hR12_eq : hR12.map (fun q => ((wrongM q.1 40 : Nat) : Int)) = hR12.map (·.2) := by decide +kernel
set_option maxHeartbeats 0 in
theorem hR13_eq : hR13.map (fun q => ((wrongM q.1 40 : Nat) : Int)) = hR13.map (·.2) := by decide +kernel
set_option maxHeartbeats 0 in
theorem hR14_eq : hR14.map (fun q => ((wrongM q.1 40 : Nat) : Int)) = hR14.map (·.2) := by decide +kernel
theorem hRR_eq : hRR.map (fun q => ((wrongM q.1 40 : Nat) : Int)) = hRR.map (·.2) := by
  unfold hRR
  simp only [List.map_append, hR0_eq, hR1_eq, hR2_eq, hR3_eq, hR4_eq, hR5_eq, hR6_eq, hR7_eq, hR8_eq, hR9_eq, hR10_eq, hR11_eq, hR12_eq, hR13_eq, hR14_eq]
end FP
set_option Elab.async false
set_option linter.all false
set_option maxRecDepth 100000
set_option maxHeartbeats 4000000
set_option exponentiation.threshold 2000
/-! Rows by hand: what is told of each. -/
namespace FP
open PySem PySem.Spec PyProof.Rows L2 TL
theorem hand_end {K : PySem.W.Frag} {lx fx : Str} {r : Addr} {ps : List Addr} {RR : RwL} {H : Hp} {D0 : Ends} (er : H r = some (.lst (ps.map V.ref))) (hpZ : RowsAt H ps RR) (hl : RR.length ≤ 100) (f1 : ∀ q ∈ RR, q.1.length ≤ 80000) (f2 : RR.map (fun q => ((wrongM q.1 40 : Nat) : Int)) = RR.map (·.2)) (q : ∀ H', Same H H' → D0.rt (.bl true) H') :
    tRet (tOp (rEqD K) (tLc (iList K (tVar 2)) (gTup K 2 (gCons (gName 3) (gCons (gName 4) gNil))) tYes (tCall spTold [] L2.E0 (tCons (tVar 3) tNil)) [3, 4]) (tLc (iList K (tVar 2)) (gTup K 2 (gCons (gName 3) (gCons (gName 4) gNil))) tYes (tVar 4) [3, 4])) D0
      [some (.str lx), some (.str fx), some (.ref r), none, none] H := by
  refine ⟨_, rfl, r, rfl, ⟨_, SqL.of er⟩, fun D nD => lc_it (walk_list (xs := ps.map V.ref)) (fun k H' => Same H H' ∧ H' D = some (.lst (((RR.take k).map fun q => ((wrongM q.1 40 : Nat) : Int)).map V.int))) ⟨new_same nD, upd_same⟩ (fun _ H' _ z => SqL.of (z.1 _ _ er)) ?_ ?_⟩
  · rintro k v H' H'' hk ⟨SD, eD⟩ ⟨rfl, hx⟩
    rw [List.length_map] at hk
    rw [List.getElem?_map, List.getElem?_eq_getElem hk] at hx
    obtain rfl : V.ref ps[k] = v := Option.some.inj hx
    have hk2 : k < RR.length := by rw [← hpZ.1]; exact hk
    have et := hpZ.2 k ps[k] RR[k] (List.getElem?_eq_getElem hk) (List.getElem?_eq_getElem hk2)
    refine ⟨_, _, rfl, SqT.of (SD _ _ et), rfl, _, _, rfl, _, _, rfl, rfl, rfl, ?_⟩
    refine ⟨_, rfl, tNil_i ⟨RR[k].1, rfl, f1 _ (List.getElem_mem hk2), fun H5 S5 => ⟨_, S5 _ _ eD, ?_, ?_, ?_⟩⟩⟩
    · rw [List.length_map, List.length_map, List.length_take]; exact Nat.lt_of_le_of_lt (show min k RR.length ≤ 1000 by omega) (by rw [sizeLine_eq]; decide)
    · intro a o x
      rw [upd_ne (ne_of_none x nD)]
      exact S5 _ _ (SD a o x)
    · rw [upd_same, List.take_add_one, List.getElem?_eq_getElem hk2, List.map_append, List.map_append]
      rfl
  rintro Ha ⟨Sa, eD⟩
  rw [List.length_map, hpZ.1, List.take_length] at eD
  have era := Sa _ _ er
  have hpa := hpZ.same Sa
  refine ⟨_, rfl, r, rfl, ⟨_, SqL.of era⟩, fun D2 nD2 => lc_it (walk_list (xs := ps.map V.ref)) (fun k H' => Same Ha H' ∧ H' D2 = some (.lst (((RR.take k).map (·.2)).map V.int))) ⟨new_same nD2, upd_same⟩ (fun _ H' _ z => SqL.of (z.1 _ _ era)) ?_ ?_⟩
  · rintro k v H' H'' hk ⟨SD, eD2⟩ ⟨rfl, hx⟩
    rw [List.length_map] at hk
    rw [List.getElem?_map, List.getElem?_eq_getElem hk] at hx
    obtain rfl : V.ref ps[k] = v := Option.some.inj hx
    have hk2 : k < RR.length := by rw [← hpZ.1]; exact hk
    have et := hpa.2 k ps[k] RR[k] (List.getElem?_eq_getElem hk) (List.getElem?_eq_getElem hk2)
    refine ⟨_, _, rfl, SqT.of (SD _ _ et), rfl, _, _, rfl, _, _, rfl, rfl, rfl, ?_⟩
    refine ⟨_, rfl, _, eD2, ?_, ?_, ?_⟩
    · rw [List.length_map, List.length_map, List.length_take]; exact Nat.lt_of_le_of_lt (show min k RR.length ≤ 1000 by omega) (by rw [sizeLine_eq]; decide)
    · intro a o x
      rw [upd_ne (ne_of_none x nD2)]
      exact SD a o x
    · rw [upd_same, List.take_add_one, List.getElem?_eq_getElem hk2, List.map_append, List.map_append]
      rfl
  rintro Hb ⟨Sb, eD2⟩
  rw [List.length_map, hpZ.1, List.take_length] at eD2
  refine ⟨_, _, .lst (SqL.of (Sb _ _ eD)) (ints_dp _ _ _), .lst (SqL.of eD2) (ints_dp _ _ _), ints_shaped _, ints_shaped _, ?_⟩
  rw [ints_eqv, decide_eq_true f2]
  exact q Hb (Sa.trans Sb)
end FP
set_option Elab.async false
set_option linter.all false
set_option maxRecDepth 100000
set_option maxHeartbeats 8000000
set_option exponentiation.threshold 2000
/-! The texts with one thing wrong. -/
namespace FP
open PySem PySem.Spec PyProof.Rows L2 TL
section
variable {P : Program} {w : World} {K : PySem.W.Frag} {mg : Str → Option Value} {base : Heap}
def spHand : Sp := fun vs H Q _ => vs = [] ∧ ∀ H', Same H H' → Q (.bl true) H'
abbrev nHd : List Str := ["_law_long", "_law_five", "_law_rows", "_law_text", "_law_line"]
theorem scHd : FnScope nHd [] (defScope qHandRight) := ⟨rfl, rfl, rfl, by decide +kernel, rfl, by decide +kernel, by decide +kernel⟩
theorem ok_hand {f : Addr} {fd : FuncData} (F : Fun K "_law_hand_right" "_law_hand_right" qHandRight f fd) (DT : Def P w K mg base "_law_told" 8 ["_law_text"] spTold) : FnOk P w K mg base CX0 9 f fd [] spHand := by
  obtain ⟨fT, fdT, gT, kT, bT, GT⟩ := DT.ex
  refine F.ok scHd (fun vs H Q E h => ?_) (fun cdv A outer s H vs Q E0 hr h => ?_)
  · rw [h.1]
    rfl
  obtain ⟨rfl, q⟩ := h
  refine ⟨_, pss_cons (ps_set (i := 0) scHd.nd rfl (.inl rfl) (pe_op op_add_str pe_str (pe_op op_mulS pe_str pe_int)))
    (pss_cons (ps_set (i := 1) scHd.nd rfl (.inl rfl) (pe_join pe_str (pe_op op_rep (pe_lst (pa_cons pe_str pa_nil)) pe_int)))
    (pss_cons (ps_set (i := 2) scHd.nd rfl (.inl rfl) (pe_lst (pa_cons (pe_tup (pa_cons pe_str (pa_cons pe_int pa_nil))) (pa_cons (pe_tup (pa_cons pe_str (pa_cons pe_int pa_nil))) (pa_cons (pe_tup (pa_cons pe_str (pa_cons pe_int pa_nil))) (pa_cons (pe_tup (pa_cons pe_str (pa_cons pe_int pa_nil))) (pa_cons (pe_tup (pa_cons pe_str (pa_cons pe_int pa_nil))) (pa_cons (pe_tup (pa_cons pe_str (pa_cons pe_int pa_nil))) pa_nil))))))))
    (pss_cons (ps_set (i := 2) scHd.nd rfl (.inl rfl) (pe_op op_cat (pv 2) (pe_lst (pa_cons (pe_tup (pa_cons pe_str (pa_cons pe_int pa_nil))) (pa_cons (pe_tup (pa_cons pe_str (pa_cons pe_int pa_nil))) (pa_cons (pe_tup (pa_cons pe_str (pa_cons pe_int pa_nil))) (pa_cons (pe_tup (pa_cons pe_str (pa_cons pe_int pa_nil))) pa_nil)))))))
    (pss_cons (ps_set (i := 2) scHd.nd rfl (.inl rfl) (pe_op op_cat (pv 2) (pe_lst (pa_cons (pe_tup (pa_cons pe_str (pa_cons pe_int pa_nil))) (pa_cons (pe_tup (pa_cons pe_str (pa_cons pe_int pa_nil))) (pa_cons (pe_tup (pa_cons pe_str (pa_cons pe_int pa_nil))) pa_nil))))))
    (pss_cons (ps_set (i := 2) scHd.nd rfl (.inl rfl) (pe_op op_cat (pv 2) (pe_lst (pa_cons (pe_tup (pa_cons pe_str (pa_cons pe_int pa_nil))) (pa_cons (pe_tup (pa_cons pe_str (pa_cons pe_int pa_nil))) (pa_cons (pe_tup (pa_cons pe_str (pa_cons pe_int pa_nil))) pa_nil))))))
    (pss_cons (ps_set (i := 2) scHd.nd rfl (.inl rfl) (pe_op op_cat (pv 2) (pe_lst (pa_cons (pe_tup (pa_cons pe_str (pa_cons pe_int pa_nil))) (pa_cons (pe_tup (pa_cons pe_str (pa_cons pe_int pa_nil))) pa_nil)))))
    (pss_cons (ps_set (i := 2) scHd.nd rfl (.inl rfl) (pe_op op_cat (pv 2) (pe_lst (pa_cons (pe_tup (pa_cons pe_str (pa_cons pe_int pa_nil))) (pa_cons (pe_tup (pa_cons pe_str (pa_cons pe_int pa_nil))) (pa_cons (pe_tup (pa_cons pe_str (pa_cons pe_int pa_nil))) pa_nil))))))
    (pss_cons (ps_set (i := 2) scHd.nd rfl (.inl rfl) (pe_op op_cat (pv 2) (pe_lst (pa_cons (pe_tup (pa_cons pe_str (pa_cons pe_int pa_nil))) (pa_cons (pe_tup (pa_cons pe_str (pa_cons pe_int pa_nil))) (pa_cons (pe_tup (pa_cons pe_str (pa_cons pe_int pa_nil))) (pa_cons (pe_tup (pa_cons pe_str (pa_cons pe_int pa_nil))) pa_nil)))))))
    (pss_cons (ps_set (i := 2) scHd.nd rfl (.inl rfl) (pe_op op_cat (pv 2) (pe_lst (pa_cons (pe_tup (pa_cons pe_str (pa_cons pe_int pa_nil))) pa_nil))))
    (pss_cons (ps_set (i := 2) scHd.nd rfl (.inl rfl) (pe_op op_cat (pv 2) (pe_lst (pa_cons (pe_tup (pa_cons pe_str (pa_cons pe_int pa_nil))) (pa_cons (pe_tup (pa_cons pe_str (pa_cons pe_int pa_nil))) (pa_cons (pe_tup (pa_cons pe_str (pa_cons pe_int pa_nil))) pa_nil))))))
    (pss_cons (ps_set (i := 2) scHd.nd rfl (.inl rfl) (pe_op op_cat (pv 2) (pe_lst (pa_cons (pe_tup (pa_cons pe_str (pa_cons pe_int pa_nil))) (pa_cons (pe_tup (pa_cons pe_str (pa_cons pe_int pa_nil))) (pa_cons (pe_tup (pa_cons pe_str (pa_cons pe_int pa_nil))) pa_nil))))))
    (pss_cons (ps_set (i := 2) scHd.nd rfl (.inl rfl) (pe_op op_cat (pv 2) (pe_lst (pa_cons (pe_tup (pa_cons pe_str (pa_cons pe_int pa_nil))) pa_nil))))
    (pss_cons (ps_set (i := 2) scHd.nd rfl (.inl rfl) (pe_op op_cat (pv 2) (pe_lst (pa_cons (pe_tup (pa_cons pe_str (pa_cons pe_int pa_nil))) (pa_cons (pe_tup (pa_cons pe_str (pa_cons pe_int pa_nil))) (pa_cons (pe_tup (pa_cons pe_str (pa_cons pe_int pa_nil))) (pa_cons (pe_tup (pa_cons pe_str (pa_cons pe_int pa_nil))) pa_nil)))))))
    (pss_cons (ps_set (i := 2) scHd.nd rfl (.inl rfl) (pe_op op_cat (pv 2) (pe_lst (pa_cons (pe_tup (pa_cons pe_str (pa_cons pe_int pa_nil))) (pa_cons (pe_tup (pa_cons (pv 0) (pa_cons pe_int pa_nil))) (pa_cons (pe_tup (pa_cons (pe_op op_add_str (pv 0) pe_str) (pa_cons pe_int pa_nil))) (pa_cons (pe_tup (pa_cons (pe_op op_add_str (pv 0) pe_str) (pa_cons pe_int pa_nil))) pa_nil)))))))
    (pss_cons (ps_set (i := 2) scHd.nd rfl (.inl rfl) (pe_op op_cat (pv 2) (pe_lst (pa_cons (pe_tup (pa_cons (pe_op op_add_str pe_str (pv 0)) (pa_cons pe_int pa_nil))) (pa_cons (pe_tup (pa_cons (pe_op op_add_str (pv 1) (pe_op op_mulS pe_str pe_int)) (pa_cons pe_int pa_nil))) (pa_cons (pe_tup (pa_cons (pe_op op_add_str (pe_op op_add_str (pv 1) pe_str) (pe_op op_mulS pe_str pe_int)) (pa_cons pe_int pa_nil))) pa_nil))))))
    (pss_cons (ps_set (i := 2) scHd.nd rfl (.inl rfl) (pe_op op_cat (pv 2) (pe_lst (pa_cons (pe_tup (pa_cons (pe_op op_add_str (pv 1) (pe_op op_mulS pe_str pe_int)) (pa_cons pe_int pa_nil))) (pa_cons (pe_tup (pa_cons pe_str (pa_cons pe_int pa_nil))) pa_nil)))))
    (pss_one (ps_ret (pe_cmpR (op_eqD hr.units) (pe_lc (own := [("_law_text", 3), ("_law_line", 4)]) (g := gTup K 2 (gCons (gName 3) (gCons (gName 4) gNil))) (tt := tYes) (te := tCall spTold [] L2.E0 (tCons (tVar 3) tNil)) (by rfl) scHd.nd (pi_list (pv 2)) (blkOk_by (own := [("_law_text", 3), ("_law_line", 4)]) (N := nHd) (sc := defScope qHandRight) (by decide +kernel)) (fun _ _ _ _ _ => pg_tup (by rfl) (pgs_cons (pg_name (i := 3) scHd.nd rfl (Or.inl rfl)) (pgs_cons (pg_name (i := 4) scHd.nd rfl (Or.inl rfl)) pgs_nil))) (fun _ _ _ _ _ => pts_nil) (fun _ _ _ _ _ => pe_call GT hr rfl gT kT bT .nil pass0 (pa_cons (pv 3) pa_nil))) (pe_lc (own := [("_law_text", 3), ("_law_line", 4)]) (g := gTup K 2 (gCons (gName 3) (gCons (gName 4) gNil))) (tt := tYes) (te := tVar 4) (by rfl) scHd.nd (pi_list (pv 2)) (blkOk_by (own := [("_law_text", 3), ("_law_line", 4)]) (N := nHd) (sc := defScope qHandRight) (by decide +kernel)) (fun _ _ _ _ _ => pg_tup (by rfl) (pgs_cons (pg_name (i := 3) scHd.nd rfl (Or.inl rfl)) (pgs_cons (pg_name (i := 4) scHd.nd rfl (Or.inl rfl)) pgs_nil))) (fun _ _ _ _ _ => pts_nil) (fun _ _ _ _ _ => pv 4)) (nomark _)))))))))))))))))))), ?_⟩
  refine seq_mid (fun v H' => v = .str longX ∧ H = H') (fun Qy hq => pureS_add (s := "local a") (s2 := Txt.mul "\nuse a" 39) pureS_c (pureS_mul ⟨by decide +kernel, fun _ _ => by decide +kernel, fun _ _ => by decide +kernel⟩) (by decide +kernel) H _ (hq _ _ ⟨rfl, rfl⟩)) ?_
  rintro _ _ ⟨rfl, rfl⟩
  dsimp only [gName]
  refine seq_mid (fun v H' => v = .str fiveX ∧ Same H H') (fun Qy hq => ?_) ?_
  · refine ⟨⟨_, rfl⟩, sz1000 (by show 1 ≤ 1000; decide), fun b0 nb0 => ?_⟩
    have Sb := new_same (o := .lst [V.str "block"]) nb0
    have eb := new_at (o := .lst [V.str "block"]) nb0
    generalize upd H b0 (.lst [V.str "block"]) = Hb at Sb eb
    refine ⟨b0, 5, _, rfl, rfl, eb, by decide, by decide, by show 1 * 5 ≤ sizeLine; rw [sizeLine_eq]; decide, fun b1 nb1 => ?_⟩
    have Sc := new_same (o := .lst (List.replicate (5 : Int).toNat [V.str "block"]).flatten) nb1
    have ec := new_at (o := .lst (List.replicate (5 : Int).toNat [V.str "block"]).flatten) nb1
    generalize upd Hb b1 (.lst (List.replicate (5 : Int).toNat [V.str "block"]).flatten) = H0 at Sc ec
    exact ⟨"\n", b1, ["block", "block", "block", "block", "block"], rfl, rfl, .inl (SqL.of ec), by decide +kernel, hq _ _ ⟨rfl, Sb.trans Sc⟩⟩
  rintro _ H0 ⟨rfl, S0⟩
  dsimp only [gName]
  refine seq_mid (fun v H' => ∃ r ps, v = .ref r ∧ Same H0 H' ∧ H' r = some (.lst (List.map V.ref ps)) ∧ RowsAt H' ps hR0) (fun Qy hq => mkR_lst (R := hR0) (mkRs_cons (s := ("" : Str)) (n := 0) pureS_c (mkRs_cons (s := ("\n" : Str)) (n := 1) pureS_c (mkRs_cons (s := (" " : Str)) (n := 1) pureS_c (mkRs_cons (s := ("local" : Str)) (n := 1) pureS_c (mkRs_cons (s := ("local a b c d e" : Str)) (n := 0) pureS_c (mkRs_cons (s := ("local a b c d e f" : Str)) (n := 1) pureS_c mkRs_nil)))))) (by decide) _ fun r ps H' S er hp => hq _ _ ⟨r, ps, rfl, S, er, hp⟩) ?_
  rintro _ H1 ⟨r0, ps0, rfl, T1, er0, hp0⟩
  have S1 := S0.trans T1
  dsimp only [gName]
  refine seq_mid (fun v H' => ∃ r ps, v = .ref r ∧ Same H1 H' ∧ H' r = some (.lst (List.map V.ref ps)) ∧ RowsAt H' ps (hR0 ++ hR1)) (fun Qy hq => mkR_cat (R := hR0) (R' := hR1) (mkR_var rfl er0 hp0) (fun _ => mkR_lst (mkRs_cons (s := ("local a a" : Str)) (n := 1) pureS_c (mkRs_cons (s := ("use a" : Str)) (n := 1) pureS_c (mkRs_cons (s := ("local a\nlocal b" : Str)) (n := 2) pureS_c (mkRs_cons (s := ("local a\nuse a\nlocal b" : Str)) (n := 3) pureS_c mkRs_nil)))) (by decide)) (by decide) _ fun r ps H' S er hp => hq _ _ ⟨r, ps, rfl, S, er, hp⟩) ?_
  rintro _ H2 ⟨r1, ps1, rfl, T2, er1, hp1⟩
  have S2 := S1.trans T2
  dsimp only [gName]
  refine seq_mid (fun v H' => ∃ r ps, v = .ref r ∧ Same H2 H' ∧ H' r = some (.lst (List.map V.ref ps)) ∧ RowsAt H' ps ((hR0 ++ hR1) ++ hR2)) (fun Qy hq => mkR_cat (R := (hR0 ++ hR1)) (R' := hR2) (mkR_var rfl er1 hp1) (fun _ => mkR_lst (mkRs_cons (s := ("local A" : Str)) (n := 1) pureS_c (mkRs_cons (s := ("local to" : Str)) (n := 1) pureS_c (mkRs_cons (s := ("local" : Str)) (n := 1) pureS_c mkRs_nil))) (by decide)) (by decide) _ fun r ps H' S er hp => hq _ _ ⟨r, ps, rfl, S, er, hp⟩) ?_
  rintro _ H3 ⟨r2, ps2, rfl, T3, er2, hp2⟩
  have S3 := S2.trans T3
  dsimp only [gName]
  refine seq_mid (fun v H' => ∃ r ps, v = .ref r ∧ Same H3 H' ∧ H' r = some (.lst (List.map V.ref ps)) ∧ RowsAt H' ps (((hR0 ++ hR1) ++ hR2) ++ hR3)) (fun Qy hq => mkR_cat (R := ((hR0 ++ hR1) ++ hR2)) (R' := hR3) (mkR_var rfl er2 hp2) (fun _ => mkR_lst (mkRs_cons (s := ("block\nlocal a\nuse a\nend\nuse a" : Str)) (n := 5) pureS_c (mkRs_cons (s := ("local a\nblock\nlocal a\nend" : Str)) (n := 3) pureS_c (mkRs_cons (s := ("loop" : Str)) (n := 2) pureS_c mkRs_nil))) (by decide)) (by decide) _ fun r ps H' S er hp => hq _ _ ⟨r, ps, rfl, S, er, hp⟩) ?_
  rintro _ H4 ⟨r3, ps3, rfl, T4, er3, hp3⟩
  have S4 := S3.trans T4
  dsimp only [gName]
  refine seq_mid (fun v H' => ∃ r ps, v = .ref r ∧ Same H4 H' ∧ H' r = some (.lst (List.map V.ref ps)) ∧ RowsAt H' ps ((((hR0 ++ hR1) ++ hR2) ++ hR3) ++ hR4)) (fun Qy hq => mkR_cat (R := (((hR0 ++ hR1) ++ hR2) ++ hR3)) (R' := hR4) (mkR_var rfl er3 hp3) (fun _ => mkR_lst (mkRs_cons (s := ("block\nlocal a\nend\nblock\nlocal a\nend" : Str)) (n := 5) pureS_c (mkRs_cons (s := ("maybe\nlocal a\nelse\nlocal b\nuse b\nend" : Str)) (n := 0) pureS_c mkRs_nil)) (by decide)) (by decide) _ fun r ps H' S er hp => hq _ _ ⟨r, ps, rfl, S, er, hp⟩) ?_
  rintro _ H5 ⟨r4, ps4, rfl, T5, er4, hp4⟩
  have S5 := S4.trans T5
  dsimp only [gName]
  refine seq_mid (fun v H' => ∃ r ps, v = .ref r ∧ Same H5 H' ∧ H' r = some (.lst (List.map V.ref ps)) ∧ RowsAt H' ps (((((hR0 ++ hR1) ++ hR2) ++ hR3) ++ hR4) ++ hR5)) (fun Qy hq => mkR_cat (R := ((((hR0 ++ hR1) ++ hR2) ++ hR3) ++ hR4)) (R' := hR5) (mkR_var rfl er4 hp4) (fun _ => mkR_lst (mkRs_cons (s := ("maybe\nlocal a\nelse\nuse a\nend" : Str)) (n := 4) pureS_c (mkRs_cons (s := ("maybe\nelse\nelse\nend" : Str)) (n := 3) pureS_c (mkRs_cons (s := ("block\nelse\nend" : Str)) (n := 2) pureS_c mkRs_nil))) (by decide)) (by decide) _ fun r ps H' S er hp => hq _ _ ⟨r, ps, rfl, S, er, hp⟩) ?_
  rintro _ H6 ⟨r5, ps5, rfl, T6, er5, hp5⟩
  have S6 := S5.trans T6
  dsimp only [gName]
  refine seq_mid (fun v H' => ∃ r ps, v = .ref r ∧ Same H6 H' ∧ H' r = some (.lst (List.map V.ref ps)) ∧ RowsAt H' ps ((((((hR0 ++ hR1) ++ hR2) ++ hR3) ++ hR4) ++ hR5) ++ hR6)) (fun Qy hq => mkR_cat (R := (((((hR0 ++ hR1) ++ hR2) ++ hR3) ++ hR4) ++ hR5)) (R' := hR6) (mkR_var rfl er5 hp5) (fun _ => mkR_lst (mkRs_cons (s := ("end" : Str)) (n := 1) pureS_c (mkRs_cons (s := ("else" : Str)) (n := 1) pureS_c (mkRs_cons (s := ("block\nend\nend" : Str)) (n := 3) pureS_c (mkRs_cons (s := ("local a\nsame a b\nend" : Str)) (n := 2) pureS_c mkRs_nil)))) (by decide)) (by decide) _ fun r ps H' S er hp => hq _ _ ⟨r, ps, rfl, S, er, hp⟩) ?_
  rintro _ H7 ⟨r6, ps6, rfl, T7, er6, hp6⟩
  have S7 := S6.trans T7
  dsimp only [gName]
  refine seq_mid (fun v H' => ∃ r ps, v = .ref r ∧ Same H7 H' ∧ H' r = some (.lst (List.map V.ref ps)) ∧ RowsAt H' ps (((((((hR0 ++ hR1) ++ hR2) ++ hR3) ++ hR4) ++ hR5) ++ hR6) ++ hR7)) (fun Qy hq => mkR_cat (R := ((((((hR0 ++ hR1) ++ hR2) ++ hR3) ++ hR4) ++ hR5) ++ hR6)) (R' := hR7) (mkR_var rfl er6 hp6) (fun _ => mkR_lst (mkRs_cons (s := ("local a\nsame a\nend" : Str)) (n := 2) pureS_c mkRs_nil) (by decide)) (by decide) _ fun r ps H' S er hp => hq _ _ ⟨r, ps, rfl, S, er, hp⟩) ?_
  rintro _ H8 ⟨r7, ps7, rfl, T8, er7, hp7⟩
  have S8 := S7.trans T8
  dsimp only [gName]
  refine seq_mid (fun v H' => ∃ r ps, v = .ref r ∧ Same H8 H' ∧ H' r = some (.lst (List.map V.ref ps)) ∧ RowsAt H' ps ((((((((hR0 ++ hR1) ++ hR2) ++ hR3) ++ hR4) ++ hR5) ++ hR6) ++ hR7) ++ hR8)) (fun Qy hq => mkR_cat (R := (((((((hR0 ++ hR1) ++ hR2) ++ hR3) ++ hR4) ++ hR5) ++ hR6) ++ hR7)) (R' := hR8) (mkR_var rfl er7 hp7) (fun _ => mkR_lst (mkRs_cons (s := ("local a\nsame a a\nend" : Str)) (n := 0) pureS_c (mkRs_cons (s := ("local a\ncopy a a" : Str)) (n := 2) pureS_c (mkRs_cons (s := ("local a\ncopy a from a" : Str)) (n := 2) pureS_c mkRs_nil))) (by decide)) (by decide) _ fun r ps H' S er hp => hq _ _ ⟨r, ps, rfl, S, er, hp⟩) ?_
  rintro _ H9 ⟨r8, ps8, rfl, T9, er8, hp8⟩
  have S9 := S8.trans T9
  dsimp only [gName]
  refine seq_mid (fun v H' => ∃ r ps, v = .ref r ∧ Same H9 H' ∧ H' r = some (.lst (List.map V.ref ps)) ∧ RowsAt H' ps (((((((((hR0 ++ hR1) ++ hR2) ++ hR3) ++ hR4) ++ hR5) ++ hR6) ++ hR7) ++ hR8) ++ hR9)) (fun Qy hq => mkR_cat (R := ((((((((hR0 ++ hR1) ++ hR2) ++ hR3) ++ hR4) ++ hR5) ++ hR6) ++ hR7) ++ hR8)) (R' := hR9) (mkR_var rfl er8 hp8) (fun _ => mkR_lst (mkRs_cons (s := ("local a\nload a to a" : Str)) (n := 2) pureS_c (mkRs_cons (s := ("local a\nstore a from a" : Str)) (n := 2) pureS_c (mkRs_cons (s := ("local a\nuse a a" : Str)) (n := 2) pureS_c mkRs_nil))) (by decide)) (by decide) _ fun r ps H' S er hp => hq _ _ ⟨r, ps, rfl, S, er, hp⟩) ?_
  rintro _ H10 ⟨r9, ps9, rfl, T10, er9, hp9⟩
  have S10 := S9.trans T10
  dsimp only [gName]
  refine seq_mid (fun v H' => ∃ r ps, v = .ref r ∧ Same H10 H' ∧ H' r = some (.lst (List.map V.ref ps)) ∧ RowsAt H' ps ((((((((((hR0 ++ hR1) ++ hR2) ++ hR3) ++ hR4) ++ hR5) ++ hR6) ++ hR7) ++ hR8) ++ hR9) ++ hR10)) (fun Qy hq => mkR_cat (R := (((((((((hR0 ++ hR1) ++ hR2) ++ hR3) ++ hR4) ++ hR5) ++ hR6) ++ hR7) ++ hR8) ++ hR9)) (R' := hR10) (mkR_var rfl er9 hp9) (fun _ => mkR_lst (mkRs_cons (s := ("local a\nuse  a" : Str)) (n := 2) pureS_c mkRs_nil) (by decide)) (by decide) _ fun r ps H' S er hp => hq _ _ ⟨r, ps, rfl, S, er, hp⟩) ?_
  rintro _ H11 ⟨r10, ps10, rfl, T11, er10, hp10⟩
  have S11 := S10.trans T11
  dsimp only [gName]
  refine seq_mid (fun v H' => ∃ r ps, v = .ref r ∧ Same H11 H' ∧ H' r = some (.lst (List.map V.ref ps)) ∧ RowsAt H' ps (((((((((((hR0 ++ hR1) ++ hR2) ++ hR3) ++ hR4) ++ hR5) ++ hR6) ++ hR7) ++ hR8) ++ hR9) ++ hR10) ++ hR11)) (fun Qy hq => mkR_cat (R := ((((((((((hR0 ++ hR1) ++ hR2) ++ hR3) ++ hR4) ++ hR5) ++ hR6) ++ hR7) ++ hR8) ++ hR9) ++ hR10)) (R' := hR11) (mkR_var rfl er10 hp10) (fun _ => mkR_lst (mkRs_cons (s := ("local a\nuse a " : Str)) (n := 2) pureS_c (mkRs_cons (s := ("local a\ninput" : Str)) (n := 2) pureS_c (mkRs_cons (s := ("local a\ncall b" : Str)) (n := 2) pureS_c (mkRs_cons (s := ("local abcdefghijkl" : Str)) (n := 0) pureS_c mkRs_nil)))) (by decide)) (by decide) _ fun r ps H' S er hp => hq _ _ ⟨r, ps, rfl, S, er, hp⟩) ?_
  rintro _ H12 ⟨r11, ps11, rfl, T12, er11, hp11⟩
  have S12 := S11.trans T12
  dsimp only [gName]
  refine seq_mid (fun v H' => ∃ r ps, v = .ref r ∧ Same H12 H' ∧ H' r = some (.lst (List.map V.ref ps)) ∧ RowsAt H' ps ((((((((((((hR0 ++ hR1) ++ hR2) ++ hR3) ++ hR4) ++ hR5) ++ hR6) ++ hR7) ++ hR8) ++ hR9) ++ hR10) ++ hR11) ++ hR12)) (fun Qy hq => mkR_cat (R := (((((((((((hR0 ++ hR1) ++ hR2) ++ hR3) ++ hR4) ++ hR5) ++ hR6) ++ hR7) ++ hR8) ++ hR9) ++ hR10) ++ hR11)) (R' := hR12) (mkR_var rfl er11 hp11) (fun _ => mkR_lst (mkRs_cons (s := ("local abcdefghijklm" : Str)) (n := 1) pureS_c (mkRs_cons (s := longX) (n := 0) (pureS_var rfl) (mkRs_cons (s := (longX ++ ("\nuse a" : Str))) (n := 41) (pureS_add (pureS_var rfl) pureS_c (by decide +kernel)) (mkRs_cons (s := (longX ++ ("\n" : Str))) (n := 41) (pureS_add (pureS_var rfl) pureS_c (by decide +kernel)) mkRs_nil)))) (by decide)) (by decide) _ fun r ps H' S er hp => hq _ _ ⟨r, ps, rfl, S, er, hp⟩) ?_
  rintro _ H13 ⟨r12, ps12, rfl, T13, er12, hp12⟩
  have S13 := S12.trans T13
  dsimp only [gName]
  refine seq_mid (fun v H' => ∃ r ps, v = .ref r ∧ Same H13 H' ∧ H' r = some (.lst (List.map V.ref ps)) ∧ RowsAt H' ps (((((((((((((hR0 ++ hR1) ++ hR2) ++ hR3) ++ hR4) ++ hR5) ++ hR6) ++ hR7) ++ hR8) ++ hR9) ++ hR10) ++ hR11) ++ hR12) ++ hR13)) (fun Qy hq => mkR_cat (R := ((((((((((((hR0 ++ hR1) ++ hR2) ++ hR3) ++ hR4) ++ hR5) ++ hR6) ++ hR7) ++ hR8) ++ hR9) ++ hR10) ++ hR11) ++ hR12)) (R' := hR13) (mkR_var rfl er12 hp12) (fun _ => mkR_lst (mkRs_cons (s := (("use a\n" : Str) ++ longX)) (n := 1) (pureS_add pureS_c (pureS_var rfl) (by decide +kernel)) (mkRs_cons (s := (fiveX ++ (Txt.mul "\nend" 5))) (n := 0) (pureS_add (pureS_var rfl) (pureS_mul ⟨by decide +kernel, fun _ _ => by decide +kernel, fun _ _ => by decide +kernel⟩) (by decide +kernel)) (mkRs_cons (s := ((fiveX ++ ("\nblock" : Str)) ++ (Txt.mul "\nend" 6))) (n := 6) (pureS_add (pureS_add (pureS_var rfl) pureS_c (by decide +kernel)) (pureS_mul ⟨by decide +kernel, fun _ _ => by decide +kernel, fun _ _ => by decide +kernel⟩) (by decide +kernel)) mkRs_nil))) (by decide)) (by decide) _ fun r ps H' S er hp => hq _ _ ⟨r, ps, rfl, S, er, hp⟩) ?_
  rintro _ H14 ⟨r13, ps13, rfl, T14, er13, hp13⟩
  have S14 := S13.trans T14
  dsimp only [gName]
  refine seq_mid (fun v H' => ∃ r ps, v = .ref r ∧ Same H14 H' ∧ H' r = some (.lst (List.map V.ref ps)) ∧ RowsAt H' ps ((((((((((((((hR0 ++ hR1) ++ hR2) ++ hR3) ++ hR4) ++ hR5) ++ hR6) ++ hR7) ++ hR8) ++ hR9) ++ hR10) ++ hR11) ++ hR12) ++ hR13) ++ hR14)) (fun Qy hq => mkR_cat (R := (((((((((((((hR0 ++ hR1) ++ hR2) ++ hR3) ++ hR4) ++ hR5) ++ hR6) ++ hR7) ++ hR8) ++ hR9) ++ hR10) ++ hR11) ++ hR12) ++ hR13)) (R' := hR14) (mkR_var rfl er13 hp13) (fun _ => mkR_lst (mkRs_cons (s := (fiveX ++ (Txt.mul "\nend" 4))) (n := 10) (pureS_add (pureS_var rfl) (pureS_mul ⟨by decide +kernel, fun _ _ => by decide +kernel, fun _ _ => by decide +kernel⟩) (by decide +kernel)) (mkRs_cons (s := ("loop a\nend" : Str)) (n := 1) pureS_c mkRs_nil)) (by decide)) (by decide) _ fun r ps H' S er hp => hq _ _ ⟨r, ps, rfl, S, er, hp⟩) ?_
  rintro _ H15 ⟨r14, ps14, rfl, T15, er14, hp14⟩
  have S15 := S14.trans T15
  have hpZ : RowsAt H15 ps14 hRR := hp14
  exact hand_end (K := K) (lx := longX) (fx := fiveX) (D0 := { nx := fun _ H' => Q .non H', rt := Q }) er14 hpZ (by decide) hRR_len hRR_eq fun H' S' => q H' (S15.trans S')
end
end FP
set_option Elab.async false
set_option linter.all false
set_option maxRecDepth 100000
set_option maxHeartbeats 8000000
set_option exponentiation.threshold 2000
/-! A law's own reader of lines: the whole text. -/
namespace FP
open PySem PySem.Spec PyProof.Rows L2 TL
theorem seen_len {M : ShM} (O : Ok M) : (seenB (blocksOf M)).length ≤ 1000 := by
  unfold seenB blocksOf
  have : ∀ l : List Nat, ((l.map fun n => (kindOf M n, cellsOf M n)).flatMap (·.2)).length ≤ l.length * 5 := by
    intro l
    induction l with
    | nil => exact Nat.zero_le _
    | cons n r ih =>
      rw [List.map_cons, List.flatMap_cons, List.length_append, List.length_cons]
      have : (cellsOf M n).length ≤ 5 := by
        unfold cellsOf
        rw [List.length_map]
        exact Nat.le_trans (List.length_filter_le _ _) O.h5
      show (cellsOf M n).length + _ ≤ _
      omega
  have h1 := this M.nest
  have := O.nl
  omega
section
variable {P : Program} {w : World} {K : PySem.W.Frag} {mg : Str → Option Value} {base : Heap}
def spWL : Sp := fun vs H Q _ => ∃ x : Str, vs = [.str x] ∧ x.length ≤ 80000 ∧ PyData.strOk x = true ∧ ∀ H', Same H H' → Q (.int ((wrongM x 40 : Nat) : Int)) H'
abbrev nWL : List Str := ["_law_text", "_law_lines", "_law_blocks", "_law_every", "_law_is_first", "_law_at", "_law_line", "_law_words"]
theorem scWL : FnScope nWL ["_law_text"] (defScope qWrongLine) := ⟨rfl, rfl, rfl, by decide +kernel, rfl, by decide +kernel, by decide +kernel⟩
theorem ok_wl {f : Addr} {fd : FuncData} (F : Fun K "_law_wrong_line" "_law_wrong_line" qWrongLine f fd) (B3 : Blt3 mg) (ge : mg "enumerate" = none) (DR : Def P w K mg base "_law_line_read" 2 pLR spLR) :
    FnOk P w K mg base CX0 3 f fd ["_law_text"] spWL := by
  obtain ⟨fR, fdR, gR, kR, bR, GR⟩ := DR.ex
  refine F.ok scWL (fun vs H Q E h => ?_) (fun cdv A outer s H vs Q E0 hr h => ?_)
  · obtain ⟨x, rfl, _⟩ := h
    rfl
  obtain ⟨x, rfl, hx, hok, q⟩ := h
  refine ⟨_, pss_cons (ps_set (i := 1) scWL.nd rfl (.inl rfl) (pe_ifExp (pt_cmpR op_ne (pv 0) pe_str (nomark _)) (pe_split (pv 0) pe_str) (pe_lst pa_nil)))
    (pss_cons (ps_par3 (i := 2) (j := 3) (l := 4) (by rfl) scWL.nd rfl rfl rfl (by decide) (by decide) (by decide) rfl rfl rfl (pa_cons (pe_lst (pa_cons (pe_lst (pa_cons pe_str (pa_cons (pe_lst pa_nil) pa_nil))) pa_nil)) (pa_cons (pe_lst pa_nil) (pa_cons pe_bl pa_nil))) (by rfl))
    (pss_cons (ps_for PassesOwn.never rfl (pi_enum (by rfl) ge (pa_cons (pv 1) pa_nil)) (pg_tup (by rfl) (pgs_cons (pg_name (i := 5) scWL.nd rfl (Or.inl rfl)) (pgs_cons (pg_name (i := 6) scWL.nd rfl (Or.inl rfl)) pgs_nil)))
      (pss_cons (ps_set (i := 7) scWL.nd rfl (.inl rfl) (pe_split (pv 6) pe_str))
      (pss_cons (ps_if (PW.pt (pw_or (pt_cmpR op_eq (pv 5) pe_int (nomark _)) (pw_or1 (pt_not (pt_val (pe_call GR hr rfl gR kR bR .nil pass0 (pa_cons (pv 7) (pa_cons (pv 2) (pa_cons (pv 3) (pa_cons (pv 4) pa_nil)))))))))) (pss_one (ps_ret (pe_op op_add (pv 5) pe_int))) pss_nil)
      (pss_one (ps_set (i := 4) scWL.nd rfl (.inl rfl) (pe_cmpR op_in_seq (pe_ix ix_list (pv 7) pe_int (fun _ _ => rfl)) (pe_tup (pa_cons pe_str (pa_cons pe_str (pa_cons pe_str (pa_cons pe_str (pa_cons pe_str pa_nil)))))) (by rfl)))))))
    (pss_one (ps_ret (pe_ifExp (pt_cmpR op_eq (pe_callB call_len_seq (by rfl) B3.len boot_len (pa_cons (pv 2) pa_nil)) pe_int (nomark _)) pe_int (pe_op op_add (pe_callB call_len_seq (by rfl) B3.len boot_len (pa_cons (pv 1) pa_nil)) pe_int)))))), ?_⟩
  have hcnt := lines_cnt x
  have hlf := lines_facts hok
  let ls := (linesM x).map fun l => Txt.split l " "
  have hll : ls.length = (linesM x).length := List.length_map _
  refine seq_mid (fun v H1 => ∃ l, v = .ref l ∧ Same H H1 ∧ H l = none ∧ H1 l = some (.lst ((linesM x).map V.str))) (fun Qy hq => ?_) ?_
  · have e0 : linesM x = if x = "" then [] else Txt.split x "\n" := rfl
    refine ⟨_, rfl, rfl, _, rfl, ?_⟩
    by_cases c : x = ""
    · rw [show (!decide (V.str x = V.str "")) = false from by rw [c]; rfl]
      rw [if_pos c] at e0
      refine iteF ⟨Nat.zero_le _, fun l nl => hq _ _ ⟨l, rfl, new_same nl, nl, ?_⟩⟩
      rw [upd_same, e0]
      rfl
    · rw [show (!decide (V.str x = V.str "")) = true from by rw [decide_eq_false (fun z => c (V.str.inj z))]; rfl]
      rw [if_neg c] at e0
      refine iteT ⟨_, rfl, ⟨_, rfl⟩, x, _, rfl, rfl, rfl, by rw [sizeLine_eq]; omega, fun l nl => hq _ _ ⟨l, rfl, new_same nl, nl, ?_⟩⟩
      rw [upd_same, e0]
  rintro v H1 ⟨l, rfl, S1, nl, el⟩
  refine ⟨Nat.zero_le _, fun c0 nc0 => ?_⟩
  have S12 := new_same (o := .lst []) nc0
  have ec2 := new_at (o := .lst []) nc0
  generalize upd H1 c0 (.lst []) = H2 at S12 ec2
  refine ⟨sz1000 (by show 2 ≤ 1000; decide), fun e0 ne0 => ?_⟩
  have S23 := new_same (o := .lst [.str "text", .ref c0]) ne0
  have ee3 := new_at (o := .lst [.str "text", .ref c0]) ne0
  generalize upd H2 e0 (.lst [.str "text", .ref c0]) = H3 at S23 ee3
  refine tNil_i ?_
  refine ⟨sz1000 (by show 1 ≤ 1000; decide), fun bA nb => ?_⟩
  have S34 := new_same (o := .lst [.ref e0]) nb
  have eb4 := new_at (o := .lst [.ref e0]) nb
  have ne0b : e0 ≠ bA := ne_of_none ee3 nb
  have nc0b : c0 ≠ bA := ne_of_none (S23 _ _ ec2) nb
  generalize upd H3 bA (.lst [.ref e0]) = H4 at S34 eb4
  refine ⟨Nat.zero_le _, fun eA ne => ?_⟩
  have S45 := new_same (o := .lst []) ne
  have eE5 := new_at (o := .lst []) ne
  have nbe : bA ≠ eA := ne_of_none eb4 ne
  have ne0e : e0 ≠ eA := ne_of_none (S34 _ _ ee3) ne
  have nc0e : c0 ≠ eA := ne_of_none (S34 _ _ (S23 _ _ ec2)) ne
  have nle : l ≠ eA := ne_of_none (S34 _ _ (S23 _ _ (S12 _ _ el))) ne
  have nlb : l ≠ bA := ne_of_none (S23 _ _ (S12 _ _ el)) nb
  have hb0 : H bA = none := (S1.trans (S12.trans S23)).free nb
  have he0 : H eA = none := (S1.trans (S12.trans (S23.trans S34))).free ne
  have S5 : Same H (upd H4 eA (.lst [])) := S1.trans (S12.trans (S23.trans (S34.trans S45)))
  have el5 := S45 _ _ (S34 _ _ (S23 _ _ (S12 _ _ el)))
  have bs5 : BlsAt (hid [bA, eA] (upd H4 eA (.lst []))) [e0] (blocksOf ShM.new) := ⟨rfl, fun i e q h1 h2 => by
    match i with
    | 0 =>
      cases h1
      cases h2
      exact ⟨c0, hid_at (by simp [ne0b, ne0e]) (S45 _ _ (S34 _ _ ee3)), hid_at (by simp [nc0b, nc0e]) (S45 _ _ (S34 _ _ (S23 _ _ ec2)))⟩
    | i + 1 => cases h1⟩
  have eb5 := S45 _ _ eb4
  generalize upd H4 eA (.lst []) = H5 at *
  refine tConsC_i ?_
  refine tNil_i ?_
  refine ⟨_, _, _, rfl, ?_⟩
  refine ⟨_, rfl, tNil_i ⟨l, _, rfl, SqL.of el5, for_it (walk_enum (xs := (linesM x).map V.str)) (fun i σ H' => i ≤ 40 ∧ Same H H' ∧ H' l = some (.lst ((linesM x).map V.str)) ∧ ∃ (M : ShM) (es : List Addr), (∃ z1 z2 z3, σ = [some (.str x), some (.ref l), some (.ref bA), some (.ref eA), some (.bl (decide (M.nest.getLast? = some (M.rows.length - 1)))), z1, z2, z3]) ∧ readLines ShM.new (ls.take i) = some M ∧ Ok M ∧ Iv M ∧
      H' bA = some (.lst (es.map V.ref)) ∧ BlsAt (hid [bA, eA] H') es (blocksOf M) ∧ H' eA = some (.lst ((namesOf M).map V.str)))
    ⟨Nat.zero_le _, S5, el5, ShM.new, [e0], ⟨_, _, _, rfl⟩, rfl, ok_new, iv_new, eb5, bs5, eE5⟩ (fun i σ H' _ z => SqL.of z.2.2.1) ?_ ?_⟩⟩
  · rintro i v σ H' H'' hi ⟨hi40, SH, elH, M, es, ⟨z1, z2, z3, rfl⟩, hM, OM, IM, ebH, bsH, eeH⟩ ⟨T', a, b, rfl, hT, rfl, ha, hb⟩
    rw [List.length_map] at hi
    obtain rfl : V.int (i : Nat) = a := Option.some.inj ha
    replace hb : ((linesM x).map V.str)[i]? = some b := hb
    rw [List.getElem?_map, List.getElem?_eq_getElem hi] at hb
    obtain rfl : V.str (linesM x)[i] = b := Option.some.inj hb
    have ST := new_same (o := .tup [.int (i : Nat), .str (linesM x)[i]]) hT
    obtain ⟨hlen, hlok⟩ := hlf _ (List.getElem_mem hi)
    have hw : wrongM x 40 = goW 40 M (ls.drop i) i := by
      have := goW_of (m := 40) ls i 0 hM (by omega) (by omega)
      rw [Nat.zero_add] at this
      exact this
    obtain ⟨w0, ws, ew⟩ : ∃ w0 ws, Txt.split (linesM x)[i] " " = w0 :: ws := by
      cases e : Txt.split (linesM x)[i] " " with
      | nil =>
        have := PyProof.Rows.split_pos (linesM x)[i] " "
        rw [e] at this
        exact absurd this (by decide)
      | cons y r => exact ⟨y, r, rfl⟩
    have hdr : ls.drop i = (w0 :: ws) :: ls.drop (i + 1) := by
      rw [List.drop_eq_getElem_cons (by omega), ← ew]
      congr 1
      exact List.getElem_map _
    rw [hdr] at hw
    replace hw : wrongM x 40 = if 40 ≤ i then i + 1 else match takeM M (w0 :: ws) with | none => i + 1 | some M' => goW 40 M' (ls.drop (i + 1)) (i + 1) := hw
    refine ⟨T', _, rfl, SqT.of upd_same, rfl, _, _, rfl, _, _, rfl, rfl, ?_⟩
    refine ⟨_, rfl, ⟨_, rfl⟩, (linesM x)[i], _, rfl, rfl, rfl, by rw [sizeLine_eq]; omega, fun wA nw => ?_⟩
    rw [ew]
    generalize upd H' T' (.tup [.int (i : Nat), .str (linesM x)[i]]) = Ha at ST nw
    have Sab := new_same (o := .lst ((w0 :: ws).map V.str)) nw
    have ewb := new_at (o := .lst ((w0 :: ws).map V.str)) nw
    have nwb : wA ≠ bA := (ne_of_none (ST _ _ ebH) nw).symm
    have nwe : wA ≠ eA := (ne_of_none (ST _ _ eeH) nw).symm
    generalize upd Ha wA (.lst ((w0 :: ws).map V.str)) = Hb at Sab ewb
    have SHb := ST.trans Sab
    have SB := SH.trans SHb
    -- forty lines are enough
    have retW : ∀ (H' : Hp), wrongM x 40 = i + 1 → Same H H' → Q (.int ((i : Nat) + 1)) H' := fun H' e S => by
      have := q H' S
      rw [e] at this
      exact this
    refine ⟨_, rfl, rfl, _, rfl, ?_⟩
    by_cases c40 : i = 40
    · rw [decide_eq_true (show V.int (i : Nat) = V.int 40 by rw [c40]; rfl)]
      rw [if_pos (by omega)] at hw
      exact iteT ⟨_, rfl, _, _, rfl, rfl, retW Hb hw SB⟩
    rw [decide_eq_false (show ¬ V.int (i : Nat) = V.int 40 from fun z => c40 (by have := V.int.inj z; omega))]
    rw [if_neg (by omega)] at hw
    have hmem : ∀ y ∈ w0 :: ws, y.length ≤ (linesM x)[i].length ∧ PyData.strOk y = true := fun y hy => by
      rw [← ew] at hy
      exact ⟨split_lens _ " " (by decide) (by decide +kernel) y hy, (split_bl _).2 hlok y hy⟩
    have hcw := PyProof.Rows.split_le (linesM x)[i] " "
    rw [ew] at hcw
    have ebB := SHb _ _ ebH
    have eeB := SHb _ _ eeH
    have bsB := bsH.same (Kp.of SHb).hid
    have elB := SHb _ _ elH
    obtain ⟨bN, lN, ebN, _, _, _⟩ := IM.last
    have hbL : (blocksOf M).length = M.nest.length := by unfold blocksOf; rw [List.length_map]
    have SS := step_same IM (f := _) rfl w0 ws
    have nlbH : l ∉ [bA, eA] := by simp [nlb, nle]
    have toS : ∀ {H1 : Hp}, Kp [bA, eA] Hb H1 → Same H H1 := fun k b u e => by
      have h1 := SB b u e
      refine k b u ?_ h1
      intro z
      rcases List.mem_cons.mp z with z | z
      · rw [z, hb0] at e; cases e
      · rw [List.mem_singleton.mp z, he0] at e; cases e
    refine iteF ⟨_, rfl, _, rfl, _, rfl, _, rfl, ?_⟩
    refine tNil_i ?_
    refine ⟨wA, bA, eA, es, blocksOf M, namesOf M, w0 :: ws, _, rfl, ⟨ewb, nwb, nwe, nbe, ebB, bsB, eeB, List.cons_ne_nil _ _, by omega, fun y hy => by have := hmem y hy; exact ⟨by omega, this.2⟩, ?_, ?_, ?_, seen_len OM⟩, fun hnone H1 k => ?_, fun p hp es' H1 k eb1 bs1 ee1 => ?_⟩
    · intro z
      have := congrArg List.length z
      rw [hbL, ebN, List.length_append] at this
      simp at this
    · rw [hbL]; have := OM.nl; omega
    · unfold namesOf; rw [List.length_map]; have := OM.h5; omega
    · rw [hnone] at SS
      refine ⟨_, rfl, iteT ⟨_, rfl, _, _, rfl, rfl, retW H1 ?_ (toS k)⟩⟩
      cases et : takeM M (w0 :: ws) with
      | none => rw [et] at hw; exact hw
      | some M' => rw [et] at SS; exact SS.elim
    · rw [hp] at SS
      cases et : takeM M (w0 :: ws) with
      | none => rw [et] at SS; exact SS.elim
      | some M' =>
        rw [et] at SS
        obtain ⟨IM', rfl, hf'⟩ := SS
        obtain ⟨OM', _⟩ := OM.take et
        refine ⟨_, rfl, iteF ?_⟩
        refine ⟨_, rfl, wA, _, 0, _, rfl, rfl, SqL.of (k _ _ (by simp [nwb, nwe]) ewb), atI_nat (j := 0) rfl, ?_⟩
        refine ⟨sz1000 (by show 5 ≤ 1000; decide), fun t5 n5 => ⟨t5, _, rfl, .inr (SqT.of upd_same), rfl, flat_strs openE, ?_⟩⟩
        rw [show inV (V.str w0) [V.str "block", V.str "loop", V.str "maybe", V.str "same", V.str "else"] = firstOf (w0 :: ws) from inV_strs w0 openE, if_neg (c := false = true) Bool.false_ne_true, hf']
        have S5' := new_same (o := .tup [V.str "block", V.str "loop", V.str "maybe", V.str "same", V.str "else"]) n5
        generalize upd H1 t5 (.tup [V.str "block", V.str "loop", V.str "maybe", V.str "same", V.str "else"]) = H2' at S5'
        refine ⟨by omega, (toS k).trans S5', S5' _ _ (k _ _ nlbH elB), M', es', ⟨_, _, _, rfl⟩, ?_, OM', IM', S5' _ _ eb1, bs1.same (Kp.of S5').hid, S5' _ _ ee1⟩
        have htk : ls.take (i + 1) = ls.take i ++ [w0 :: ws] := by
          rw [List.take_add_one, List.getElem?_eq_getElem (show i < ls.length by omega), ← ew]
          congr 1
          show [_] = [_]
          congr 1
          exact List.getElem_map _
        rw [htk, readLines_snoc, hM]
        exact et
  · rintro σ H' ⟨hi40, SH, elH, M, es, ⟨z1, z2, z3, rfl⟩, hM, OM, IM, ebH, bsH, eeH⟩
    rw [List.length_map] at hM hi40
    rw [List.take_of_length_le (by omega)] at hM
    have hw : wrongM x 40 = if M.nest.length = 1 then 0 else ls.length + 1 := by
      have := goW_of (m := 40) ls ls.length 0 (by rw [List.take_length]; exact hM) (Nat.le_refl _) (by omega)
      rw [Nat.zero_add, List.drop_length] at this
      exact this
    have hbl : es.length = M.nest.length := by rw [bsH.1]; unfold blocksOf; rw [List.length_map]
    refine ⟨_, rfl, bA, _, rfl, .inl (SqL.of ebH), rfl, _, rfl, ite2 (fun c => ?_) fun c => ?_⟩
    · have c1 : M.nest.length = 1 := by
        have := V.int.inj (of_decide_eq_true c)
        rw [List.length_map] at this
        omega
      rw [if_pos c1] at hw
      have := q H' SH
      rw [hw] at this
      exact this
    · have c1 : ¬ M.nest.length = 1 := fun z => c (decide_eq_true (by rw [List.length_map, hbl, z]; rfl))
      rw [if_neg c1] at hw
      refine ⟨_, rfl, l, _, rfl, .inl (SqL.of elH), _, _, rfl, rfl, ?_⟩
      have := q H' SH
      rw [hw] at this
      rw [List.length_map]
      rw [show (((ls.length + 1 : Nat) : Int)) = ((linesM x).length : Int) + 1 from by omega] at this
      exact this
end
end FP
set_option Elab.async false
set_option linter.all false
set_option maxRecDepth 100000
set_option maxHeartbeats 4000000
set_option exponentiation.threshold 2000
namespace FP
open PySem PySem.Spec PyProof.Rows L2 TL
theorem wf_up {seen : List Str} : ∀ (t : T) {d d' : Nat}, d ≤ d' → wfT seen d t → wfT seen d' t
  | .nil, d, d', _, _ => by cases d' <;> trivial
  | .deed k r, 0, 0, h, w => w
  | .deed k r, 0, d' + 1, h, ⟨w1, w2⟩ => ⟨w1, wf_up r h w2⟩
  | .deed k r, d + 1, 0, h, _ => absurd h (by omega)
  | .deed k r, d + 1, d' + 1, h, ⟨w1, w2⟩ => ⟨w1, wf_up r h w2⟩
  | .one .., 0, _, _, w => w.elim
  | .two .., 0, _, _, w => w.elim
  | .one .., d + 1, 0, h, _ => absurd h (by omega)
  | .two .., d + 1, 0, h, _ => absurd h (by omega)
  | .one o cs b r, d + 1, d' + 1, h, ⟨w1, w2, w3⟩ => ⟨w1, wf_up b (by omega) w2, wf_up r h w3⟩
  | .two o cs b cs' b' r, d + 1, d' + 1, h, ⟨w1, w2, w3, w4, w5⟩ => ⟨w1, w2, wf_up b (by omega) w3, wf_up b' (by omega) w4, wf_up r h w5⟩
theorem wf_left {seen : List Str} {u : T} : ∀ (t : T) {d : Nat}, wfT seen d (t.app u) → wfT seen d t
  | .nil, d, _ => by cases d <;> trivial
  | .deed k r, 0, ⟨h1, h2⟩ => ⟨h1, wf_left r h2⟩
  | .deed k r, d + 1, ⟨h1, h2⟩ => ⟨h1, wf_left r h2⟩
  | .one .., 0, h => h.elim
  | .two .., 0, h => h.elim
  | .one o cs b r, d + 1, ⟨h1, h2, h3⟩ => ⟨h1, h2, wf_left r h3⟩
  | .two o cs b cs' b' r, d + 1, ⟨h1, h2, h3, h4, h5⟩ => ⟨h1, h2, h3, h4, wf_left r h5⟩
/-- without the last order -/
theorem OrdsAt.init {H : Hp} : ∀ (t : T) {os : List Addr}, OrdsAt H t os → os ≠ [] → ∃ t' u, t = t'.app u ∧ OrdsAt H t' os.dropLast
  | .nil, os, h, hn => absurd h hn
  | .deed d r, os, ⟨o, rest, e, h1, h2⟩, _ => by
    by_cases hr : rest = []
    · exact ⟨.nil, .deed d r, rfl, by rw [e, hr]; rfl⟩
    · obtain ⟨t', u, e2, h3⟩ := OrdsAt.init r h2 hr
      exact ⟨.deed d t', u, by rw [e2]; rfl, o, rest.dropLast, by rw [e, List.dropLast_cons_of_ne_nil hr], h1, h3⟩
  | .one op cs b r, os, ⟨o, x, c, l, ors, rest, e, h1, h2, h3, h4, h5, h6⟩, _ => by
    by_cases hr : rest = []
    · exact ⟨.nil, .one op cs b r, rfl, by rw [e, hr]; rfl⟩
    · obtain ⟨t', u, e2, h7⟩ := OrdsAt.init r h6 hr
      exact ⟨.one op cs b t', u, by rw [e2]; rfl, o, x, c, l, ors, rest.dropLast, by rw [e, List.dropLast_cons_of_ne_nil hr], h1, h2, h3, h4, h5, h7⟩
  | .two op cs b cs' b' r, os, ⟨o, x, c, l, ors, y, c', l', ors', rest, e, h1, h2, h3, h4, h5, h2', h3', h4', h5', h6⟩, _ => by
    by_cases hr : rest = []
    · exact ⟨.nil, .two op cs b cs' b' r, rfl, by rw [e, hr]; rfl⟩
    · obtain ⟨t', u, e2, h7⟩ := OrdsAt.init r h6 hr
      exact ⟨.two op cs b cs' b' t', u, by rw [e2]; rfl, o, x, c, l, ors, y, c', l', ors', rest.dropLast, by rw [e, List.dropLast_cons_of_ne_nil hr], h1, h2, h3, h4, h5, h2', h3', h4', h5', h7⟩
theorem twelve_name : ∀ x ∈ twelve, isName x = true := by decide +kernel
/-- what a law's own program is like -/
structure Mine (cs : List Str) (t : T) : Prop where
  wf : wfT cs 5 t
  tw : ∀ x ∈ cs ++ declT t, x ∈ twelve
  nd : (cs ++ declT t).Nodup
  h5 : (cs ++ declT t).length ≤ 5
theorem Mine.wfp {cs : List Str} {t : T} (M : Mine cs t) : WfP cs t := ⟨M.wf, fun x hx => twelve_name x (M.tw x hx), M.nd, M.h5⟩
theorem Mine.okb {cs : List Str} {t : T} (M : Mine cs t) (h : sizeP cs t ≤ 1000) : OkB cs t := ⟨h, M.wfp.plain, fun x hx => twelve_ok x (M.tw x hx), by have := M.h5; omega⟩
theorem Mine.left {cs : List Str} {t u : T} (M : Mine cs (t.app u)) : Mine cs t := by
  have e := decl_app u t
  have h5 := M.h5
  have nd := M.nd
  have tw := M.tw
  rw [e] at h5 nd tw
  rw [← List.append_assoc] at h5 nd tw
  rw [List.length_append] at h5
  exact ⟨wf_left t M.wf, fun x hx => tw x (List.mem_append_left _ hx), (List.nodup_append.mp nd).1, by omega⟩
theorem cut_dropN (xs : List V) (n : Nat) : cutV xs (some (n : Int)) none = xs.drop n := by
  unfold cutV
  rw [HT.sIx_nat, show HT.sIx xs.length xs.length none = xs.length from rfl]
  rcases Nat.le_total n xs.length with z | z
  · rw [Nat.min_eq_left z, List.take_of_length_le (by rw [List.length_drop]; omega)]
  · rw [Nat.min_eq_right z, List.drop_of_length_le z, List.drop_of_length_le (Nat.le_refl _)]
    simp
theorem Kp.drop {ms ms' : List Addr} {H H1 H2 : Hp} (k1 : Kp ms H H1) (k2 : Kp ms' H1 H2) (hf : ∀ m ∈ ms', m ∈ ms ∨ H m = none) : Kp ms H H2 := fun b u n e => k2 b u (fun hb => by
  rcases hf b hb with h | h
  · exact n h
  · rw [h] at e; cases e) (k1 b u n e)
theorem wdr10 : wdr 2 10 ≤ 3000 := by decide
theorem wsz10 : wsz 2 10 ≤ 900 := by decide
section
variable {P : Program} {w : World} {K : PySem.W.Frag} {mg : Str → Option Value} {base : Heap}
def spNP : Sp := fun vs H Q _ => ∃ (p a : Addr) (ns : List Int) (t l lo ca : Int) (m size : Nat) (ms : List Addr), vs = [.ref p, .int (m : Nat), .int (size : Nat), .int lo, .int ca] ∧ PenAt H p a ns t l ∧ t ≤ 900000 ∧ 1 ≤ m ∧ m ≤ 5 ∧ size ≤ 10 ∧ p ∈ ms ∧ (∀ m ∈ ms, H m ≠ none) ∧
  ∀ (x : Addr) (cs : List Str) (tr : T) (t' : Int) (H' : Hp), Kp [p] H H' → (∃ l', PenAt H' p a ns t' l') → t ≤ t' → t' ≤ t + 13 + wdr 2 size → BlkH ms H H' x cs tr → Mine cs tr → sizeP cs tr ≤ 36 → depT tr ≤ 2 → cs ≠ [] → H x = none → Q (.ref x) H'
abbrev nNP : List Str := ["_law_pen", "_law_many", "_law_size", "_law_loops", "_law_calls", "_law_names", "_law_first", "_law_left", "_law_found", "_law_made", "_law_k"]
abbrev pNP : List Str := ["_law_pen", "_law_many", "_law_size", "_law_loops", "_law_calls"]
theorem scNP : FnScope nNP pNP (defScope qNewProgram) := ⟨rfl, rfl, rfl, by decide +kernel, rfl, by decide +kernel, by decide +kernel⟩
theorem ok_np {f : Addr} {fd : FuncData} (F : Fun K "_law_new_program" "_law_new_program" qNewProgram f fd) (B : Blt4 mg) (DD : Def P w K mg base "_law_draw" 1 ["_law_pen", "_law_span"] spDraw) (DN : Def P w K mg base "_law_new_names" 3 ["_law_pen", "_law_many"] spNames)
    (DW : Def P w K mg base "_law_wide_block" 6 pWB (spWB 3)) (DS : Def P w K mg base "_law_block_size" 4 ["_law_block"] (spBS 3)) :
    FnOk P w K mg base CX0 7 f fd pNP spNP := by
  obtain ⟨fD, fdD, gD, kD, bD, GD⟩ := DD.ex
  obtain ⟨fN, fdN, gN, kN, bN, GN⟩ := DN.ex
  obtain ⟨fW, fdW, gW, kW, bW, GW⟩ := DW.ex
  obtain ⟨fS, fdS, gS, kS, bS, GS⟩ := DS.ex
  refine F.ok scNP (fun vs H Q E h => ?_) (fun cdv A outer s H vs Q E hr h => ?_)
  · obtain ⟨p, a, ns, t, l, lo, ca, m, size, ms, rfl, _⟩ := h
    rfl
  obtain ⟨p, a, ns, t, l, lo, ca, m, size, ms, rfl, PA0, ht, hm1, hm5, hsz, hpm, hma, q⟩ := h
  have hu := hu_of hr
  have hr1 := hr.mono (show 1 ≤ 6 by decide)
  have hr3 := hr.mono (show 3 ≤ 6 by decide)
  have hr4 := hr.mono (show 4 ≤ 6 by decide)
  refine ⟨_, pss_cons (ps_set (i := 5) scNP.nd rfl (.inl rfl) (pe_call GN hr3 rfl gN kN bN .nil pass0 (pa_cons (pv 0) (pa_cons (pv 1) pa_nil))))
    (pss_cons (ps_par (i := 6) (j := 7) (by rfl) scNP.nd rfl rfl (by decide) rfl rfl (pa_cons (pe_op op_add pe_int (pe_call GD hr1 rfl gD kD bD .nil pass0 (pa_cons (pv 0) (pa_cons (pv 1) pa_nil)))) (pa_cons (pe_disp (pps_cons pe_str (pv 3) (pps_cons pe_str (pv 4) pps_nil)) (by rfl) (by rfl) (fun z => by cases z) (by decide)) pa_nil)) (by rfl))
    (pss_cons (ps_set (i := 8) scNP.nd rfl (.inl rfl) (pe_call GW hr rfl gW kW bW .nil pass0 (pa_cons (pv 0) (pa_cons (pe_slice sl_list (pv 5) po_none (po_some (pv 6))) (pa_cons (pe_slice sl_list (pv 5) (po_some (pv 6)) po_none) (pa_cons (pe_lst pa_nil) (pa_cons (pv 2) (pa_cons pe_int (pa_cons (pv 7) pa_nil)))))))))
    (pss_cons (ps_set (i := 9) scNP.nd rfl (.inl rfl) (pe_disp (pps_cons pe_str (pe_op op_cat (pe_slice sl_list (pv 5) po_none (po_some (pv 6))) (pe_dget hu (pv 8) pe_str (fun _ _ => rfl))) (pps_cons pe_str (pe_dget hu (pv 8) pe_str (fun _ _ => rfl)) pps_nil)) (by rfl) (by rfl) (fun z => by cases z) (by decide)))
    (pss_cons (ps_for PassesOwn.never rfl (pi_range1 (by rfl) B.rg (pa_cons (pv 2) pa_nil)) (pg_name (i := 10) scNP.nd rfl (Or.inl rfl))
      (pss_one (ps_if (pt_cmpR op_gt (pe_call GS hr4 rfl gS kS bS .nil pass0 (pa_cons (pv 9) pa_nil)) pe_int (nomark _)) (pss_one (ps_expr (pe_bm0 PySem.F.plainAttrs_list PySem.F.slot_list_pop PySem.F.type_list_pop mt_pop (pe_dget hu (pv 9) pe_str (fun _ _ => rfl))))) pss_nil)))
    (pss_one (ps_ret (pv 9))))))), ?_⟩
  have hdr := Nat.le_trans (wdr_le (d := 2) hsz) wdr10
  have hds := Nat.le_trans (wsz_le (d := 2) hsz) wsz10
  refine ⟨_, rfl, _, rfl, tNil_i ⟨p, a, ns, t, l, (m : Int), rfl, PA0, by omega, by omega, by omega, fun r ys t1 l1 H1 pm u0 u1 b1 PA1 nr er => ?_⟩⟩
  rw [Int.toNat_natCast] at er
  have hyl : ys.length = 12 := pm.length_eq
  have hyn : ys.Nodup := pm.nodup_iff.mpr (by decide)
  have hyt : ∀ x ∈ ys, x ∈ twelve := fun x hx => pm.subset hx
  have hnl : (ys.take m).length = m := by rw [List.length_take]; omega
  have hnn : (ys.take m).Nodup := hyn.sublist (List.take_sublist _ _)
  have hnt : ∀ x ∈ ys.take m, x ∈ twelve := fun x hx => hyt x (List.mem_of_mem_take hx)
  generalize ys.take m = nm at *
  refine ⟨_, rfl, _, rfl, tNil_i ⟨p, a, ns, t1, l1, (m : Int), rfl, PA1, by omega, by omega, small_abs (by omega), fun w t2 l2 H2 w0 w1 u2 u3 b2 PA2 => ⟨_, _, rfl, rfl, fun lf nlf => ⟨_, rfl, _, rfl, upd_same, leftD lo ca, rfl, by show 2 ≤ 15; decide, tNil_i ⟨_, _, rfl, ?_⟩⟩⟩⟩⟩
  rw [show mergeK [] (leftD lo ca) = leftD lo ca from rfl]
  obtain ⟨f0, rfl⟩ : ∃ n : Nat, w = (n : Int) := ⟨_, (Int.toNat_of_nonneg w0).symm⟩
  have S3 : Same H2 (upd (upd H2 lf (.dK [])) lf (.dK (leftD lo ca))) := Same.put (new_same nlf) nlf
  have elf : (upd (upd H2 lf (.dK [])) lf (.dK (leftD lo ca))) lf = some (.dK (leftD lo ca)) := upd_same
  have nrp : r ≠ p := ne_of er PA1.p (by intro z; cases z)
  have er2 := b2 _ _ nrp er
  have PA3 : PenAt (upd (upd H2 lf (.dK [])) lf (.dK (leftD lo ca))) p a ns t2 l2 := ⟨S3 _ _ PA2.p, S3 _ _ PA2.a, PA2.n, PA2.t0, PA2.l0⟩
  have er3 := S3 _ _ er2
  have k03 : Kp [p] H (upd (upd H2 lf (.dK [])) lf (.dK (leftD lo ca))) := ((Kp.but b1 (by simp)).trans (Kp.but b2 (by simp))).trans (Kp.of S3)
  have nlp : lf ≠ p := (ne_of_none PA2.p nlf).symm
  have nrl : r ≠ lf := ne_of_none er2 nlf
  have nla : lf ≠ a := (ne_of_none PA2.a nlf).symm
  have flf : H lf = none := by
    have k02 : Kp [p] H H2 := (Kp.but b1 (by simp)).trans (Kp.but b2 (by simp))
    exact k02.free (fun z hz => by rw [List.mem_singleton.mp hz]; exact some_ne PA2.p) nlf
  generalize upd (upd H2 lf (.dK [])) lf (.dK (leftD lo ca)) = H3 at *
  have hp3 : ∀ z ∈ [p], H3 z ≠ none := fun z hz => by rw [List.mem_singleton.mp hz]; exact some_ne PA3.p
  have e1f : (1 + (f0 : Int)) = ((1 + f0 : Nat) : Int) := by omega
  refine ⟨_, rfl, _, rfl, _, rfl, _, rfl, r, _, rfl, SqL.of er3, fun n1 nn1 => ?_⟩
  rw [e1f, cut_take _ _ (by omega), Int.toNat_natCast, ← List.map_take]
  have S4 := new_same (o := .lst ((nm.take (1 + f0)).map V.str)) nn1
  have en1 := new_at (o := .lst ((nm.take (1 + f0)).map V.str)) nn1
  have fn1 : H n1 = none := k03.free hp3 nn1
  generalize upd H3 n1 (.lst ((nm.take (1 + f0)).map V.str)) = H4 at *
  refine ⟨_, rfl, _, rfl, _, rfl, r, _, rfl, SqL.of (S4 _ _ er3), fun s1 ns1 => ?_⟩
  rw [e1f, cut_dropN, ← List.map_drop]
  have S5 := S4.trans (new_same (o := .lst ((nm.drop (1 + f0)).map V.str)) ns1)
  have es1 := new_at (o := .lst ((nm.drop (1 + f0)).map V.str)) ns1
  have en15 := (new_same (o := .lst ((nm.drop (1 + f0)).map V.str)) ns1) _ _ en1
  have n1s : n1 ≠ s1 := ne_of_none en1 ns1
  have fs1 : H s1 = none := k03.free hp3 (S4.free ns1)
  have nrs : r ≠ s1 := ne_of_none (S4 _ _ er3) ns1
  have nsa : s1 ≠ a := (ne_of_none (S4 _ _ PA3.a) ns1).symm
  generalize upd H4 s1 (.lst ((nm.drop (1 + f0)).map V.str)) = H5 at *
  refine ⟨Nat.zero_le _, fun po npo => ?_⟩
  have S6 := new_same (o := .lst []) npo
  have epo := new_at (o := .lst []) npo
  have nps : po ≠ s1 := (ne_of_none es1 npo).symm
  have S36 := S5.trans S6
  have en16 := S6 _ _ en15
  have es16 := S6 _ _ es1
  generalize upd H5 po (.lst []) = H6 at *
  have PA6 : PenAt H6 p a ns t2 l2 := ⟨S36 _ _ PA3.p, S36 _ _ PA3.a, PA3.n, PA3.t0, PA3.l0⟩
  have k06 : Kp [p] H H6 := k03.trans (Kp.of S36)
  have htk : (nm.take (1 + f0)).length = 1 + f0 := by rw [List.length_take]; omega
  have hdk : (nm.drop (1 + f0)).length = m - (1 + f0) := by rw [List.length_drop]; omega
  refine ⟨_, rfl, _, rfl, tNil_i ⟨p, a, n1, s1, po, lf, ns, t2, l2, lo, ca, nm.take (1 + f0), nm.drop (1 + f0), [], 2, size, s1 :: lf :: ms, by decide, rfl, PA6, by omega, en16, by omega, by omega, es16, epo, hsz, by decide, fun y hy => twelve_ok y (hnt y (List.mem_of_mem_take hy)), fun y hy => twelve_ok y (hnt y (List.mem_of_mem_drop hy)), n1s, nsa.symm, nps, nlp, S36 _ _ elf, ?_, ?_, ?_⟩⟩
  · intro z hz
    rcases List.mem_cons.mp hz with rfl | hz
    · exact List.mem_cons_of_mem _ (List.mem_cons_of_mem _ hpm)
    rcases List.mem_cons.mp hz with rfl | hz
    · simp
    · rw [List.mem_singleton.mp hz]; simp
  · intro z hz
    rcases List.mem_cons.mp hz with rfl | hz
    · exact some_ne es16
    rcases List.mem_cons.mp hz with rfl | hz
    · exact some_ne (S36 _ _ elf)
    · exact k06.alive (fun z hz => by rw [List.mem_singleton.mp hz]; exact some_ne PA6.p) (hma z hz)
  intro x1 cs1 tr spr' lost t7 lo7 ca7 H7 k7 pen7 v0 v1 es7 el7 pm7 hc1 hb7 fx1 wf7 dp7 sz7 ln7
  obtain ⟨l7, PA7⟩ := pen7
  obtain ⟨c, lb, ors, f6, o1, o2, o3, ex1, ec, elb, ncl, ords7⟩ := hb7
  have k07 : Kp [p] H H7 := k06.drop k7 fun z hz => by
    rcases List.mem_cons.mp hz with rfl | hz
    · exact .inl (by simp)
    rcases List.mem_cons.mp hz with rfl | hz
    · exact .inr fs1
    · rw [List.mem_singleton.mp hz]; exact .inr flf
  have er7 := k7 _ _ (by simp [nrp, nrs, nrl]) (S36 _ _ er3)
  have hp7 : ∀ z ∈ [p], H7 z ≠ none := fun z hz => by rw [List.mem_singleton.mp hz]; exact some_ne PA7.p
  have alive7 : ∀ z ∈ ms, H7 z ≠ none := fun z hz => k07.alive hp7 (hma z hz)
  have hcl1 : cs1.length ≤ 1 := hc1
  have pmN : ((nm.take (1 + f0) ++ cs1 ++ declT tr) ++ (spr' ++ lost)).Perm nm := by
    have h5 : (nm.take (1 + f0) ++ cs1 ++ declT tr) ++ (spr' ++ lost) = nm.take (1 + f0) ++ (cs1 ++ declT tr ++ spr' ++ lost) := by simp only [List.append_assoc]
    rw [h5]
    exact (List.Perm.append_left _ pm7).trans (by rw [List.take_append_drop])
  have hM : Mine (nm.take (1 + f0) ++ cs1) tr := by
    have hl := pmN.length_eq
    rw [List.length_append] at hl
    exact ⟨wf_up tr (by decide) wf7, fun x hx => hnt x (pmN.subset (List.mem_append_left _ hx)), (List.nodup_append.mp (pmN.nodup_iff.mpr hnn)).1, by omega⟩
  -- the program's block
  intro x nx
  have S8 := new_same (o := .dK []) nx
  have ex8 := new_at (o := .dK []) nx
  have fx : H x = none := k07.free hp7 nx
  refine ⟨_, rfl, _, rfl, _, rfl, r, _, rfl, SqL.of (S8 _ _ er7), fun n2 nn2 => ?_⟩
  rw [e1f, cut_take _ _ (by omega), Int.toNat_natCast, ← List.map_take]
  have S9 := S8.trans (new_same (o := .lst ((nm.take (1 + f0)).map V.str)) nn2)
  have e92 := new_at (o := .lst ((nm.take (1 + f0)).map V.str)) nn2
  have ex9 := (new_same (o := .lst ((nm.take (1 + f0)).map V.str)) nn2) _ _ ex8
  refine ⟨_, rfl, x1, _, rfl, get_cells (S9 _ _ ex1), n2, c, _, _, rfl, rfl, e92, S9 _ _ ec, sz1000 (by rw [List.length_map, List.length_map]; omega), fun c2 nc2 => ?_⟩
  have S10 := S9.trans (new_same (o := .lst ((nm.take (1 + f0)).map V.str ++ cs1.map V.str)) nc2)
  have ec2 := new_at (o := .lst ((nm.take (1 + f0)).map V.str ++ cs1.map V.str)) nc2
  have exA := (new_same (o := .lst ((nm.take (1 + f0)).map V.str ++ cs1.map V.str)) nc2) _ _ ex9
  have fc2 : H c2 = none := k07.free hp7 (S9.free nc2)
  have nc2x : c2 ≠ x := (ne_of_none ex9 nc2).symm
  have nlx : lb ≠ x := ne_of_none elb nx
  have nc2l : c2 ≠ lb := (ne_of_none (S9 _ _ elb) nc2).symm
  refine ⟨_, rfl, x1, _, rfl, get_body (S10 _ _ ex1), exA, blkD c2 lb, rfl, by show 2 ≤ 15; decide, ?_⟩
  rw [show mergeK [] (blkD c2 lb) = blkD c2 lb from rfl]
  have elA := S10 _ _ elb
  generalize upd (upd (upd H7 x (.dK [])) n2 (.lst ((nm.take (1 + f0)).map V.str))) c2 (.lst ((nm.take (1 + f0)).map V.str ++ cs1.map V.str)) = HA at *
  have S11 : Same H7 (upd HA x (.dK (blkD c2 lb))) := Same.put S10 nx
  have exm : (upd HA x (.dK (blkD c2 lb))) x = some (.dK (blkD c2 lb)) := upd_same
  have ecm : (upd HA x (.dK (blkD c2 lb))) c2 = some (.lst ((nm.take (1 + f0) ++ cs1).map V.str)) := by rw [upd_ne nc2x, ec2, List.map_append]
  have elm : (upd HA x (.dK (blkD c2 lb))) lb = some (.lst (ors.map V.ref)) := (upd_ne nlx).trans elA
  generalize upd HA x (.dK (blkD c2 lb)) = Hm at *
  have fl : H lb = none := k06.free (fun z hz => by rw [List.mem_singleton.mp hz]; exact some_ne PA6.p) f6
  have ordm := ords7.same (Kp.of S11).hid
  have htn : (nm.take (1 + f0) ++ cs1) ≠ [] := fun z => by
    have := congrArg List.length z
    rw [List.length_append, htk] at this
    exact absurd this (by show ¬ (_ = 0); omega)
  have nlbx : lb ≠ x := nlx
  refine ⟨_, rfl, tNil_i ⟨_, rfl, by omega, by omega, ?_⟩⟩
  rw [Int.toNat_natCast]
  refine for_it walk_range (fun k σ H' => ∃ z10 tr' ors', σ = [some (.ref p), some (.int (m : Nat)), some (.int (size : Nat)), some (.int lo), some (.int ca), some (.ref r), some (.int (1 + (f0 : Int))), some (.ref lf), some (.ref x1), some (.ref x), z10] ∧ Kp [lb] Hm H' ∧ H' lb = some (.lst (List.map V.ref ors')) ∧
      OrdsAt (hid (lb :: s1 :: lf :: ms) H') tr' ors' ∧ Mine (nm.take (1 + f0) ++ cs1) tr' ∧ depT tr' ≤ 2 ∧ sizeP (nm.take (1 + f0) ++ cs1) tr' ≤ 1000 ∧ (sizeP (nm.take (1 + f0) ++ cs1) tr' ≤ 36 ∨ ors'.length + k ≤ size))
    ⟨_, tr, ors, rfl, Kp.refl _ _, elm, ordm, hM, dp7, by unfold sizeP; have := loc_le (nm.take (1 + f0) ++ cs1); omega, .inr (by rw [OrdsAt.len _ ords7]; omega)⟩ (fun _ _ _ _ _ => True.intro) ?_ ?_
  · rintro k v σ Hx H8 hk ⟨z10, tr', ors', rfl, kl, el', od', M', dp', sz', hor⟩ ⟨rfl, rfl⟩
    have ex' := kl _ _ (by simp [nlbx.symm]) exm
    have ec' := kl _ _ (by simp [nc2l]) ecm
    refine ⟨_, rfl, tNil_i ⟨x, nm.take (1 + f0) ++ cs1, tr', rfl, ⟨c2, lb, ors', ex', ec', el', od'.same hid_le⟩, by omega, M'.okb sz', fun H9 S9 => ⟨_, _, rfl, rfl, _, rfl, ite2 (fun c => ?_) fun c => ?_⟩⟩⟩
    · have c36 : 36 < sizeP (nm.take (1 + f0) ++ cs1) tr' := by have := of_decide_eq_true c; omega
      have hne : ors' ≠ [] := fun z => by
        rw [z] at od'
        rw [od'.end_] at c36
        unfold sizeP at c36
        have := loc_le (nm.take (1 + f0) ++ cs1)
        rw [sizeT] at c36
        omega
      have hlen : ors'.length + k ≤ size := by
        rcases hor with h | h
        · omega
        · exact h
      obtain ⟨y, hy, ey⟩ := pop_split ors' hne
      obtain ⟨t', u, et, od2⟩ := od'.init tr' hne
      subst et
      refine ⟨_, rfl, x, _, rfl, get_body (S9 _ _ ex'), .inl ⟨rfl, _, SqL.of (S9 _ _ el')⟩, lb, _, .ref y, rfl, rfl, S9 _ _ el', ?_, _, t', ors'.dropLast, rfl, (kl.trans (Kp.of S9)).put (by simp), ?_, ?_, M'.left, ?_, ?_, .inr ?_⟩
      · rw [List.length_map, List.getElem?_map, hy]; rfl
      · rw [upd_same, List.map_dropLast]
      · exact od2.same (((Kp.of S9).put (by simp)).hid)
      · rw [dep_app] at dp'; omega
      · unfold sizeP at sz' ⊢
        rw [size_app] at sz'
        omega
      · rw [List.length_dropLast]
        have := List.length_pos_iff.mpr hne
        omega
    · have c36 : sizeP (nm.take (1 + f0) ++ cs1) tr' ≤ 36 := by
        have : ¬ ((sizeP (nm.take (1 + f0) ++ cs1) tr' : Int) > 36) := fun z => c (decide_eq_true z)
        omega
      exact ⟨_, tr', ors', rfl, kl.trans (Kp.of S9), S9 _ _ el', od'.same (Kp.of S9).hid, M', dp', sz', .inl c36⟩
  · rintro σ H8 ⟨z10, tr', ors', rfl, kl, el', od', M', dp', sz', hor⟩
    have ex' := kl _ _ (by simp [nlbx.symm]) exm
    have ec' := kl _ _ (by simp [nc2l]) ecm
    have s36 : sizeP (nm.take (1 + f0) ++ cs1) tr' ≤ 36 := by
      rcases hor with h | h
      · exact h
      · have : ors' = [] := List.length_eq_zero_iff.mp (by omega)
        rw [this] at od'
        rw [od'.end_]
        unfold sizeP
        have := loc_le (nm.take (1 + f0) ++ cs1)
        rw [sizeT]
        omega
    have out : ∀ {z : Addr}, H z = none → z ∉ ms := fun {z} fz hz => hma z hz fz
    have nlp' : p ≠ lb := ne_of PA7.p elb (by intro z; cases z)
    have nla' : a ≠ lb := ne_of_none PA6.a f6
    refine ⟨_, rfl, q x (nm.take (1 + f0) ++ cs1) tr' t7 H8 ((k07.trans (Kp.of S11)).drop kl fun z hz => .inr (by rw [List.mem_singleton.mp hz]; exact fl)) ⟨l7, ⟨kl _ _ (by simp [nlp']) (S11 _ _ PA7.p), kl _ _ (by simp [nla']) (S11 _ _ PA7.a), PA7.n, PA7.t0, PA7.l0⟩⟩ (by omega) (by omega) ⟨c2, lb, ors', fl, out fx, out fc2, out fl, ex', ec', el', nc2l, od'.same (hid_sub fun z hz => ?_)⟩ M' s36 dp' htn fx⟩
    rcases List.mem_cons.mp hz with rfl | hz
    · simp
    · exact List.mem_cons_of_mem _ (List.mem_cons_of_mem _ (List.mem_cons_of_mem _ hz))
end
end FP
set_option Elab.async false
set_option linter.all false
set_option maxRecDepth 100000
set_option maxHeartbeats 8000000
set_option exponentiation.threshold 2000
/-! Texts put together by drawn pieces: only lengths and signs are told of them. -/
namespace FP
open PySem PySem.Spec PyProof.Rows L2 TL
def sz (l : List Str) : Nat := (l.map (·.length)).sum + l.length
theorem sz_app (a b : List Str) : sz (a ++ b) = sz a + sz b := by
  unfold sz
  rw [List.map_append, List.sum_append, List.length_append]
  omega
theorem sz_one (x : Str) : sz [x] = x.length + 1 := by unfold sz; simp
theorem sz_len (l : List Str) : l.length ≤ sz l := Nat.le_add_left _ _
theorem sz_mem {l : List Str} {x : Str} (h : x ∈ l) : x.length + 1 ≤ sz l := by
  obtain ⟨a, b, rfl⟩ := List.append_of_mem h
  rw [sz_app, show x :: b = [x] ++ b from rfl, sz_app, sz_one]
  omega
theorem sz_take (l : List Str) (n : Nat) : sz (l.take n) + sz (l.drop n) = sz l := by rw [← sz_app, List.take_append_drop]
theorem sz_cut (l : List Str) (n : Nat) (h : n < l.length) : sz (l.take n) + (l[n].length + 1) + sz (l.drop (n + 1)) = sz l := by
  have h1 := sz_take l n
  rw [List.drop_eq_getElem_cons h, show l[n] :: l.drop (n + 1) = [l[n]] ++ l.drop (n + 1) from rfl, sz_app, sz_one] at h1
  omega
/-- all texts are of signs, and short -/
def Good (N : Nat) (l : List Str) : Prop := sz l ≤ N ∧ ∀ x ∈ l, PyData.strOk x = true
theorem Good.take {N : Nat} {l : List Str} (h : ∀ x ∈ l, PyData.strOk x = true) (n : Nat) : Good (sz (l.take n)) (l.take n) := ⟨Nat.le_refl _, fun x hx => h x (List.mem_of_mem_take hx)⟩
theorem Good.drop {l : List Str} (h : ∀ x ∈ l, PyData.strOk x = true) (n : Nat) : Good (sz (l.drop n)) (l.drop n) := ⟨Nat.le_refl _, fun x hx => h x (List.mem_of_mem_drop hx)⟩
def GoOn (p a : Addr) (ns : List Int) (T : Int) (H : Hp) : Prop := ∃ t l, PenAt H p a ns t l ∧ t ≤ T
theorem GoOn.new {p a x : Addr} {ns : List Int} {T : Int} {H : Hp} {o : HO} (h : GoOn p a ns T H) (hx : H x = none) : GoOn p a ns T (upd H x o) := by
  obtain ⟨t, l, P, e⟩ := h
  exact ⟨t, l, P.new hx, e⟩
theorem GoOn.p {p a : Addr} {ns : List Int} {T : Int} {H : Hp} (h : GoOn p a ns T H) : ∃ u, H p = some u := by
  obtain ⟨t, l, P, e⟩ := h
  exact ⟨_, P.p⟩
theorem GoOn.le {p a : Addr} {ns : List Int} {T T' : Int} {H : Hp} (h : GoOn p a ns T H) (z : T ≤ T') : GoOn p a ns T' H := by
  obtain ⟨t, l, P, e⟩ := h
  exact ⟨t, l, P, by omega⟩
/-- te makes or gives a list of texts -/
def MkS (p a : Addr) (ns : List Int) (te : TE) (σ : L2.St) (H : Hp) (T : Int) (m N : Nat) : Prop := ∀ Q : VK, (∀ r X H', But p H H' → GoOn p a ns T H' → r ≠ p → H' r = some (.lst (X.map V.str)) → Good N X → m ≤ X.length → Q (.ref r) H') → te σ H Q
/-- .. a text -/
def MkT (p a : Addr) (ns : List Int) (te : TE) (σ : L2.St) (H : Hp) (T : Int) (N : Nat) : Prop := ∀ Q : VK, (∀ s H', But p H H' → GoOn p a ns T H' → s.length ≤ N → PyData.strOk s = true → Q (.str s) H') → te σ H Q
/-- .. a number, and nothing else -/
def PureI (te : TE) (σ : L2.St) (n : Int) : Prop := ∀ (H : Hp) (Q : VK), Q (.int n) H → te σ H Q
theorem small_absL {n : Nat} (h : n ≤ 1000000) : ((n : Nat) : Int).natAbs < 2 ^ 1000 := by
  rw [Int.natAbs_natCast]
  exact Nat.lt_of_le_of_lt h (Nat.lt_of_lt_of_le (by decide : 1000000 < 2 ^ 20) (Nat.pow_le_pow_right (by decide) (by decide)))
def spPickL : Sp := fun vs H Q _ => ∃ (p a o : Addr) (ns : List Int) (t l : Int) (xs : List V), vs = [.ref p, .ref o] ∧ PenAt H p a ns t l ∧ t ≤ 1000000 ∧ o ≠ p ∧ H o = some (.lst xs) ∧ 0 < xs.length ∧ xs.length ≤ 1000000 ∧
  ∀ (i : Nat) (v : V) (t' l' : Int) (H' : Hp), xs[i]? = some v → t ≤ t' → t' ≤ t + 1 → But p H H' → PenAt H' p a ns t' l' → Q v H'
section
variable {P : Program} {w : World} {K : PySem.W.Frag} {mg : Str → Option Value} {base : Heap}
theorem ok_pickL {f : Addr} {fd : FuncData} (F : Fun K "_law_pick" "_law_pick" sPick f fd) (B : Blt mg) (D : Def P w K mg base "_law_draw" 1 ["_law_pen", "_law_span"] spDraw) : FnOk P w K mg base CX0 2 f fd ["_law_pen", "_law_options"] spPickL := by
  obtain ⟨fD, fdD, gD, kD, bD, GD⟩ := D.ex
  refine F.ok scP (fun vs H Q E h => ?_) (fun cdv A outer s H vs Q E hr h => ?_)
  · obtain ⟨p, a, o, ns, t, l, xs, rfl, _⟩ := h
    rfl
  obtain ⟨p, a, o, ns, t, l, xs, rfl, PA0, ht, hne, ho, h0, h1, k⟩ := h
  refine ⟨_, pss_one (ps_ret (pe_ix ix_list (pv 1) (pe_call GD hr rfl gD kD bD .nil pass0 (pa_cons (pv 0) (pa_cons (pe_callB call_len_seq (by rfl) B.len boot_len (pa_cons (pv 1) pa_nil)) pa_nil))) (fun _ _ => rfl))), ?_⟩
  refine ⟨_, rfl, _, rfl, _, rfl, o, _, rfl, .inl (SqL.of ho), p, a, ns, t, l, _, rfl, PA0, ht, by omega, small_absL h1, fun r t' l' H' r0 r1 t1 t2 b PA1 => ?_⟩
  obtain ⟨j, rfl⟩ : ∃ j : Nat, r = (j : Int) := ⟨_, (Int.toNat_of_nonneg r0).symm⟩
  have hj : j < xs.length := by omega
  have it : xs[j]? = some xs[j] := List.getElem?_eq_getElem hj
  exact ⟨o, _, _, _, rfl, rfl, SqL.of (b o _ hne ho), atI_nat it, k j _ t' l' H' it t1 t2 b PA1⟩
end
section
variable {K : PySem.W.Frag} {p a : Addr} {ns : List Int} {te ta tb : TE} {σ : L2.St} {H : Hp} {T T1 T2 : Int} {m m1 m2 N N1 N2 : Nat}
theorem mkS_var {i : Nat} {o : Addr} {X : List Str} (h : σ[i]? = some (some (.ref o))) (hp : o ≠ p) (e : H o = some (.lst (X.map V.str))) (g : Good N X) (hm : m ≤ X.length) (go : GoOn p a ns T H) : MkS p a ns (tVar i) σ H T m N := fun Q q =>
  ⟨_, h, q o X H (But.refl _ _) go hp e g hm⟩
theorem pureI_var {i : Nat} {n : Int} (h : σ[i]? = some (some (.int n))) : PureI (tVar i) σ n := fun H Q q => ⟨_, h, q⟩
theorem pureI_c {n : Int} : PureI (tC (.int n)) σ n := fun H Q q => q
theorem pureI_add {x y : Int} (h1 : PureI ta σ x) (h2 : PureI tb σ y) : PureI (tOp (rI0 fun i j => V.int (i + j)) ta tb) σ (x + y) := fun H Q q => h1 H _ (h2 H _ ⟨_, _, rfl, rfl, q⟩)
theorem mkS_take {i : Nat} {o : Addr} {X : List Str} {n : Int} (h : σ[i]? = some (some (.ref o))) (hp : o ≠ p) (e : H o = some (.lst (X.map V.str))) (hn : PureI te σ n) (n0 : 0 ≤ n) (ok : ∀ x ∈ X, PyData.strOk x = true) (go : GoOn p a ns T H) :
    MkS p a ns (tSl (rSlL K) (tVar i) tNoPart (tPart te)) σ H T 0 (sz (X.take n.toNat)) := fun Q q => by
  refine ⟨_, h, hn H _ ⟨n, rfl, o, _, rfl, SqL.of e, fun r nr => ?_⟩⟩
  rw [cut_take _ _ n0, ← List.map_take]
  obtain ⟨u, eu⟩ := go.p
  exact q r _ _ ((But.refl _ _).new nr) (go.new nr) (ne_of_none eu nr).symm upd_same (Good.take ok (N := 0) _) (Nat.zero_le _)
theorem mkS_drop {i : Nat} {o : Addr} {X : List Str} {n : Int} (h : σ[i]? = some (some (.ref o))) (hp : o ≠ p) (e : H o = some (.lst (X.map V.str))) (hn : PureI te σ n) (n0 : 0 ≤ n) (ok : ∀ x ∈ X, PyData.strOk x = true) (go : GoOn p a ns T H) :
    MkS p a ns (tSl (rSlL K) (tVar i) (tPart te) tNoPart) σ H T 0 (sz (X.drop n.toNat)) := fun Q q => by
  refine ⟨_, h, hn H _ ⟨n, rfl, o, _, rfl, SqL.of e, fun r nr => ?_⟩⟩
  obtain ⟨k, rfl⟩ : ∃ k : Nat, n = (k : Int) := ⟨_, (Int.toNat_of_nonneg n0).symm⟩
  rw [cut_dropN, ← List.map_drop]
  obtain ⟨u, eu⟩ := go.p
  exact q r _ _ ((But.refl _ _).new nr) (go.new nr) (ne_of_none eu nr).symm upd_same (Good.drop ok _) (Nat.zero_le _)
theorem mkT_var {i : Nat} {s : Str} (h : σ[i]? = some (some (.str s))) (hl : s.length ≤ N) (ok : PyData.strOk s = true) (go : GoOn p a ns T H) : MkT p a ns (tVar i) σ H T N := fun Q q => ⟨_, h, q s H (But.refl _ _) go hl ok⟩
theorem mkT_c {s : Str} (hl : s.length ≤ N) (ok : PyData.strOk s = true) (go : GoOn p a ns T H) : MkT p a ns (tC (.str s)) σ H T N := fun Q q => q s H (But.refl _ _) go hl ok
theorem mkS_one (h : MkT p a ns te σ H T N) (z : N ≤ 1000000) : MkS p a ns (tLst (tCons te tNil)) σ H T 1 (N + 1) := fun Q q => h _ fun s H1 b go hl ok => by
  refine tNil_i ⟨sz1000 (by show 1 ≤ 1000; decide), fun r nr => ?_⟩
  obtain ⟨u, eu⟩ := go.p
  exact q r [s] _ (b.new nr) (go.new nr) (ne_of_none eu nr).symm upd_same ⟨by rw [sz_one]; omega, fun x hx => by rw [List.mem_singleton.mp hx]; exact ok⟩ (Nat.le_refl _)
theorem mkS_cat (h1 : MkS p a ns ta σ H T1 m1 N1) (h2 : ∀ H', But p H H' → GoOn p a ns T1 H' → MkS p a ns tb σ H' T2 m2 N2) (z : N1 + N2 ≤ 1000000) : MkS p a ns (tOp rCat ta tb) σ H T2 (m1 + m2) (N1 + N2) := fun Q q =>
  h1 _ fun r X H1 b1 go1 nr er g1 hm1 => h2 H1 b1 go1 _ fun r2 Y H2 b2 go2 nr2 er2 g2 hm2 => by
    have l1 := sz_len X
    have l2 := sz_len Y
    have := g1.1
    have := g2.1
    refine ⟨r, r2, _, _, rfl, rfl, b2 _ _ nr er, er2, by rw [List.length_map, List.length_map, sizeLine_eq]; omega, fun d nd => ?_⟩
    obtain ⟨u, eu⟩ := go2.p
    refine q d (X ++ Y) _ ((b1.trans b2).new nd) (go2.new nd) (ne_of_none eu nd).symm (by rw [upd_same, List.map_append]) ⟨by rw [sz_app]; omega, fun x hx => ?_⟩ (by rw [List.length_append]; omega)
    rcases List.mem_append.mp hx with y | y
    · exact g1.2 x y
    · exact g2.2 x y
abbrev rJn (K : PySem.W.Frag) : V → List V → Hp → VK → Prop := fun x xs H Q => ∃ a p, ∃ ys : List Str, x = .str a ∧ xs = [.ref p] ∧ (SqL K H p (ys.map V.str) ∨ SqT K H p (ys.map V.str)) ∧ (ys.map (·.length)).sum + ys.length * a.length ≤ 16777216 ∧ Q (.str (Txt.join a ys)) H
theorem mkT_join {sep : Str} (h : MkS p a ns te σ H T m N) (hs : sep.length ≤ 1) (ok : PyData.strOk sep = true) (z : N ≤ 1000000) : MkT p a ns (tM1 (rJn K) (tC (.str sep)) te) σ H T N := fun Q q =>
  ⟨⟨_, rfl⟩, h _ fun r X H1 b go nr er g hm => by
    have h1 : X.length * sep.length ≤ X.length * 1 := Nat.mul_le_mul_left _ hs
    have hz : (X.map (·.length)).sum + X.length ≤ N := g.1
    obtain ⟨j1, j2⟩ := join_facts sep X
    exact ⟨sep, r, X, rfl, rfl, .inl (SqL.of er), by omega, q _ H1 b go (by omega) (j2 ok g.2)⟩⟩
theorem mkT_join2 {sep : Str} (h : MkS p a ns te σ H T m N) (hs : sep.length ≤ 2) (ok : PyData.strOk sep = true) (z : N ≤ 1000000) : MkT p a ns (tM1 (rJn K) (tC (.str sep)) te) σ H T (2 * N) := fun Q q =>
  ⟨⟨_, rfl⟩, h _ fun r X H1 b go nr er g hm => by
    have h1 : X.length * sep.length ≤ X.length * 2 := Nat.mul_le_mul_left _ hs
    have hz : (X.map (·.length)).sum + X.length ≤ N := g.1
    obtain ⟨j1, j2⟩ := join_facts sep X
    exact ⟨sep, r, X, rfl, rfl, .inl (SqL.of er), by omega, q _ H1 b go (by omega) (j2 ok g.2)⟩⟩
theorem mkT_pick {i : Nat} (hi : σ[i]? = some (some (.ref p))) (h : MkS p a ns te σ H T m N) (hm : 1 ≤ m) (hT : T ≤ 1000000) (z : N ≤ 1000000) : MkT p a ns (tCall spPickL [] L2.E0 (tCons (tVar i) (tCons te tNil))) σ H (T + 1) N := fun Q q =>
  ⟨_, hi, h _ fun r X H1 b go nr er g hm' => by
    obtain ⟨t, l, PA, ht⟩ := go
    have hx := sz_len X
    have hg := g.1
    refine tNil_i ⟨p, a, r, ns, t, l, _, rfl, PA, by omega, nr, er, by rw [List.length_map]; omega, by rw [List.length_map]; omega, fun k v t' l' H' hv h1 h2 b2 PA2 => ?_⟩
    rw [List.getElem?_map] at hv
    obtain ⟨s, hs, rfl⟩ := Option.map_eq_some_iff.mp hv
    have hmem := List.mem_of_getElem? hs
    have := sz_mem hmem
    exact q s H' (b.trans b2) ⟨t', l', PA2, by omega⟩ (by omega) (g.2 s hmem)⟩
end
end FP
set_option Elab.async false
set_option linter.all false
set_option maxRecDepth 100000
set_option maxHeartbeats 8000000
set_option exponentiation.threshold 2000
/-! A text with one change. -/
namespace FP
open PySem PySem.Spec PyProof.Rows L2 TL
section
variable {K : PySem.W.Frag} {p a : Addr} {ns : List Int} {te ta tb tc td : TE} {σ : L2.St} {H : Hp} {T T1 T2 : Int} {m m1 m2 N N1 N2 N3 N4 : Nat}
theorem mkT_ix {i : Nat} {o : Addr} {X : List Str} {n : Nat} (h : σ[i]? = some (some (.ref o))) (e : H o = some (.lst (X.map V.str))) (hn : PureI te σ (n : Int)) {s : Str} (hs : X[n]? = some s) (hl : s.length ≤ N) (ok : PyData.strOk s = true) (go : GoOn p a ns T H) :
    MkT p a ns (tOp (rIxL K) (tVar i) te) σ H T N := fun Q q => ⟨_, h, hn H _ ⟨o, _, _, _, rfl, rfl, SqL.of e, atI_nat (by rw [List.getElem?_map, hs]; rfl), q s H (But.refl _ _) go hl ok⟩⟩
theorem mkT_add (h1 : MkT p a ns ta σ H T N1) (h2 : ∀ H', But p H H' → GoOn p a ns T H' → MkT p a ns tb σ H' T N2) (z : N1 + N2 ≤ 1000000) :
    MkT p a ns (tOp (fun x y H Q => ∃ i j, x = .str i ∧ y = .str j ∧ i.length + j.length ≤ sizeLine ∧ Q (.str (i ++ j)) H) ta tb) σ H T (N1 + N2) := fun Q q =>
  h1 _ fun s H1 b1 go1 hl1 ok1 => h2 H1 b1 go1 _ fun s2 H2 b2 go2 hl2 ok2 => ⟨s, s2, rfl, rfl, by rw [sizeLine_eq]; omega, q _ H2 (b1.trans b2) go2 (by rw [len_app]; omega) (strOk_app ok1 ok2)⟩
theorem mkS_four (h1 : MkT p a ns ta σ H T N1) (h2 : ∀ H', But p H H' → GoOn p a ns T H' → MkT p a ns tb σ H' T N2) (h3 : ∀ H', But p H H' → GoOn p a ns T H' → MkT p a ns tc σ H' T N3) (h4 : ∀ H', But p H H' → GoOn p a ns T H' → MkT p a ns td σ H' T N4) :
    MkS p a ns (tLst (tCons ta (tCons tb (tCons tc (tCons td tNil))))) σ H T 4 (N1 + 1 + (N2 + 1) + (N3 + 1) + (N4 + 1)) := fun Q q =>
  h1 _ fun s1 H1 b1 go1 hl1 ok1 => h2 H1 b1 go1 _ fun s2 H2 b2 go2 hl2 ok2 => h3 H2 (b1.trans b2) go2 _ fun s3 H3 b3 go3 hl3 ok3 => h4 H3 ((b1.trans b2).trans b3) go3 _ fun s4 H4 b4 go4 hl4 ok4 => by
    refine tNil_i ⟨sz1000 (by show 4 ≤ 1000; decide), fun r nr => ?_⟩
    obtain ⟨u, eu⟩ := go4.p
    refine q r [s1, s2, s3, s4] _ ((((b1.trans b2).trans b3).trans b4).new nr) (go4.new nr) (ne_of_none eu nr).symm upd_same ⟨?_, fun x hx => ?_⟩ (Nat.le_refl _)
    · rw [show [s1, s2, s3, s4] = [s1] ++ ([s2] ++ ([s3] ++ [s4])) from rfl, sz_app, sz_app, sz_app, sz_one, sz_one, sz_one, sz_one]
      omega
    · simp only [List.mem_cons, List.not_mem_nil, or_false] at hx
      rcases hx with rfl | rfl | rfl | rfl <;> assumption
theorem mkT_pick4 {i : Nat} (hi : σ[i]? = some (some (.ref p))) (hT : T ≤ 1000000) (z : N ≤ 100000) (h1 : MkT p a ns ta σ H T N) (h2 : ∀ H', But p H H' → GoOn p a ns T H' → MkT p a ns tb σ H' T N) (h3 : ∀ H', But p H H' → GoOn p a ns T H' → MkT p a ns tc σ H' T N) (h4 : ∀ H', But p H H' → GoOn p a ns T H' → MkT p a ns td σ H' T N) :
    MkT p a ns (tCall spPickL [] L2.E0 (tCons (tVar i) (tCons (tLst (tCons ta (tCons tb (tCons tc (tCons td tNil))))) tNil))) σ H (T + 1) N := fun Q q =>
  ⟨_, hi, h1 _ fun s1 H1 b1 go1 hl1 ok1 => h2 H1 b1 go1 _ fun s2 H2 b2 go2 hl2 ok2 => h3 H2 (b1.trans b2) go2 _ fun s3 H3 b3 go3 hl3 ok3 => h4 H3 ((b1.trans b2).trans b3) go3 _ fun s4 H4 b4 go4 hl4 ok4 => by
    refine tNil_i ⟨sz1000 (by show 4 ≤ 1000; decide), fun r nr => ?_⟩
    obtain ⟨u, eu⟩ := go4.p
    obtain ⟨t, l, PA, ht⟩ := go4.new (o := .lst ([s1, s2, s3, s4].map V.str)) nr
    refine tNil_i ⟨p, a, r, ns, t, l, [s1, s2, s3, s4].map V.str, rfl, PA, by omega, (ne_of_none eu nr).symm, upd_same, by show 0 < 4; decide, by show 4 ≤ 1000000; decide, fun k v t' l' H' hv u1 u2 b5 PA5 => ?_⟩
    rw [List.getElem?_map] at hv
    obtain ⟨s, hs, rfl⟩ := Option.map_eq_some_iff.mp hv
    have hmem := List.mem_of_getElem? hs
    have hg : s.length ≤ N ∧ PyData.strOk s = true := by
      simp only [List.mem_cons, List.not_mem_nil, or_false] at hmem
      rcases hmem with rfl | rfl | rfl | rfl
      · exact ⟨hl1, ok1⟩
      · exact ⟨hl2, ok2⟩
      · exact ⟨hl3, ok3⟩
      · exact ⟨hl4, ok4⟩
    exact q s H' (((((b1.trans b2).trans b3).trans b4).new nr).trans b5) ⟨t', l', PA5, by omega⟩ hg.1 hg.2⟩
theorem sz_drop_le (l : List Str) {m n : Nat} (h : m ≤ n) : sz (l.drop n) ≤ sz (l.drop m) := by
  obtain ⟨d, rfl⟩ := Nat.exists_eq_add_of_le h
  rw [← List.drop_drop]
  have := sz_take (l.drop m) d
  omega
theorem MkT.le (h : MkT p a ns te σ H T N) (z : N ≤ N2) : MkT p a ns te σ H T N2 := fun Q q => h Q fun s H1 b go hl ok => q s H1 b go (by omega) ok
theorem MkS.le (h : MkS p a ns te σ H T m N) (z : N ≤ N2) : MkS p a ns te σ H T m N2 := fun Q q => h Q fun s X H1 b go nr er g hm => q s X H1 b go nr er ⟨Nat.le_trans g.1 z, g.2⟩ hm
theorem MkT.leT (h : MkT p a ns te σ H T N) (z : T ≤ T2) : MkT p a ns te σ H T2 N := fun Q q => h Q fun s H1 b go hl ok => q s H1 b (go.le z) hl ok
end
section
variable {P : Program} {w : World} {K : PySem.W.Frag} {mg : Str → Option Value} {base : Heap}
def spBent : Sp := fun vs H Q _ => ∃ (p a o : Addr) (ns : List Int) (t l : Int) (x : Str) (odd : List Str), vs = [.ref p, .str x, .ref o] ∧ PenAt H p a ns t l ∧ t ≤ 900000 ∧ o ≠ p ∧ H o = some (.lst (odd.map V.str)) ∧ odd ≠ [] ∧ sz odd ≤ 1000 ∧ (∀ y ∈ odd, y.length ≤ 12 ∧ PyData.strOk y = true) ∧ x.length ≤ 39000 ∧ PyData.strOk x = true ∧
  ∀ (y : Str) (H' : Hp), But p H H' → GoOn p a ns (t + 6) H' → y.length ≤ 2 * x.length + 1100 → PyData.strOk y = true → Q (.str y) H'
abbrev nBt : List Str := ["_law_pen", "_law_text", "_law_odd", "_law_lines", "_law_k", "_law_way", "_law_words", "_law_j", "_law_word", "_law_line"]
abbrev pBt : List Str := ["_law_pen", "_law_text", "_law_odd"]
theorem scBt : FnScope nBt pBt (defScope qBent) := ⟨rfl, rfl, rfl, by decide +kernel, rfl, by decide +kernel, by decide +kernel⟩
theorem ok_bent {f : Addr} {fd : FuncData} (F : Fun K "_law_bent" "_law_bent" qBent f fd) (gi : mg "int" = none) (gl : mg "len" = none) (DD : Def P w K mg base "_law_draw" 1 ["_law_pen", "_law_span"] spDraw) (DP : Def P w K mg base "_law_pick" 2 ["_law_pen", "_law_options"] spPickL) :
    FnOk P w K mg base CX0 3 f fd pBt spBent := by
  obtain ⟨fD, fdD, gD, kD, bD, GD⟩ := DD.ex
  obtain ⟨fP, fdP, gP, kP, bP, GP⟩ := DP.ex
  refine F.ok scBt (fun vs H Q E h => ?_) (fun cdv A outer s H vs Q E0 hr h => ?_)
  · obtain ⟨p, a, o, ns, t, l, x, odd, rfl, _⟩ := h
    rfl
  obtain ⟨p, a, o, ns, t, l, x, odd, rfl, PA0, ht, nop, ho, hodd, hol, hoo, hx, hok, q⟩ := h
  have hr1 := hr.mono (show 1 ≤ 2 by decide)
  refine ⟨_, pss_cons (ps_set (i := 3) scBt.nd rfl (.inl rfl) (pe_split (pv 1) pe_str))
    (pss_cons (ps_par (i := 4) (j := 5) (by rfl) scBt.nd rfl rfl (by decide) rfl rfl (pa_cons (pe_call GD hr1 rfl gD kD bD .nil pass0 (pa_cons (pv 0) (pa_cons (pe_callB call_len_seq (by rfl) gl boot_len (pa_cons (pv 3) pa_nil)) pa_nil))) (pa_cons (pe_call GD hr1 rfl gD kD bD .nil pass0 (pa_cons (pv 0) (pa_cons pe_int pa_nil))) pa_nil)) (by rfl))
    (pss_cons (ps_set (i := 6) scBt.nd rfl (.inl rfl) (pe_split (pe_ix ix_list (pv 3) (pv 4) (fun _ _ => rfl)) pe_str))
    (pss_cons (ps_par (i := 7) (j := 8) (by rfl) scBt.nd rfl rfl (by decide) rfl rfl (pa_cons (pe_call GD hr1 rfl gD kD bD .nil pass0 (pa_cons (pv 0) (pa_cons (pe_op op_add (pe_callB call_len_seq (by rfl) gl boot_len (pa_cons (pv 6) pa_nil)) pe_int) pa_nil)))
        (pa_cons (pe_call GP hr rfl gP kP bP .nil pass0 (pa_cons (pv 0) (pa_cons (pe_op op_cat (pe_op op_cat (pv 2) (pv 6)) (pe_split (pe_ix ix_list (pv 3) pe_int (fun _ _ => rfl)) pe_str)) pa_nil))) pa_nil)) (by rfl))
    (pss_cons (ps_set (i := 9) scBt.nd rfl (.inl rfl) (pe_join pe_str (pe_op op_cat (pe_op op_cat (pe_slice sl_list (pv 6) po_none (po_some (pv 7))) (pe_lst (pa_cons (pv 8) pa_nil))) (pe_slice sl_list (pv 6) (po_some (pe_op op_add (pv 7) (pe_callTy call_int1 (by rfl) gi (by decide +kernel) (pa_cons (pe_cmpR op_lt (pv 5) pe_int (nomark _)) pa_nil)))) po_none))))
    (pss_cons (ps_if (pt_cmpR op_eq (pv 5) pe_int (nomark _)) (pss_one (ps_set (i := 9) scBt.nd rfl (.inl rfl) (pe_join pe_str (pe_op op_cat (pe_slice sl_list (pv 6) po_none (po_some (pv 7))) (pe_slice sl_list (pv 6) (po_some (pe_op op_add (pv 7) pe_int)) po_none))))) pss_nil)
    (pss_cons (ps_if (pt_cmpR op_eq (pv 5) pe_int (nomark _)) (pss_one (ps_set (i := 9) scBt.nd rfl (.inl rfl) (pe_call GP hr rfl gP kP bP .nil pass0 (pa_cons (pv 0) (pa_cons (pe_lst (pa_cons (pe_op op_add_str pe_str (pe_ix ix_list (pv 3) (pv 4) (fun _ _ => rfl))) (pa_cons (pe_op op_add_str (pe_ix ix_list (pv 3) (pv 4) (fun _ _ => rfl)) pe_str) (pa_cons (pe_join pe_str (pv 6)) (pa_cons pe_str pa_nil))))) pa_nil))))) pss_nil)
    (pss_cons (ps_if (pt_cmpR op_lt (pv 5) pe_int (nomark _)) (pss_one (ps_ret (pe_join pe_str (pe_op op_cat (pe_op op_cat (pe_slice sl_list (pv 3) po_none (po_some (pv 4))) (pe_lst (pa_cons (pv 9) pa_nil))) (pe_slice sl_list (pv 3) (po_some (pe_op op_add (pv 4) pe_int)) po_none))))) pss_nil)
    (pss_cons (ps_if (pt_cmpR op_eq (pv 5) pe_int (nomark _)) (pss_one (ps_ret (pe_join pe_str (pe_op op_cat (pe_slice sl_list (pv 3) po_none (po_some (pv 4))) (pe_slice sl_list (pv 3) (po_some (pe_op op_add (pv 4) pe_int)) po_none))))) pss_nil)
    (pss_cons (ps_if (pt_cmpR op_eq (pv 5) pe_int (nomark _)) (pss_one (ps_ret (pe_join pe_str (pe_op op_cat (pe_op op_cat (pe_slice sl_list (pv 3) po_none (po_some (pv 4))) (pe_lst (pa_cons (pe_call GP hr rfl gP kP bP .nil pass0 (pa_cons (pv 0) (pa_cons (pv 2) pa_nil))) pa_nil))) (pe_slice sl_list (pv 3) (po_some (pv 4)) po_none))))) pss_nil)
    (pss_one (ps_ret (pe_ifExp (pt_cmpR op_eq (pv 5) pe_int (nomark _)) (pe_join pe_str (pe_op op_cat (pe_op op_cat (pe_slice sl_list (pv 3) po_none (po_some (pe_op op_add (pv 4) pe_int))) (pe_lst (pa_cons (pe_call GP hr rfl gP kP bP .nil pass0 (pa_cons (pv 0) (pa_cons (pv 3) pa_nil))) pa_nil))) (pe_slice sl_list (pv 3) (po_some (pe_op op_add (pv 4) pe_int)) po_none)))
      (pe_join pe_str (pe_slice sl_list (pv 3) po_none (po_some (pv 4)))))))))))))))), ?_⟩
  have hs0 := (split_nl x).1
  have hso := (split_nl x).2 hok
  have hsp := PyProof.Rows.split_pos x "\n"
  refine ⟨_, rfl, ⟨_, rfl⟩, x, _, rfl, rfl, rfl, by rw [sizeLine_eq]; omega, fun ll nl => ?_⟩
  generalize hL : Txt.split x "\n" = L at *
  have hszL : sz L = x.length + 1 := hs0
  have PA1 := PA0.new (o := .lst (L.map V.str)) nl
  have b1 : But p H (upd H ll (.lst (L.map V.str))) := (But.refl _ _).new nl
  have nlp : ll ≠ p := (ne_of_none PA0.p nl).symm
  have el1 := new_at (o := .lst (L.map V.str)) nl
  have eo1 := b1 _ _ nop ho
  generalize upd H ll (.lst (L.map V.str)) = H1 at *
  have hLl := sz_len L
  refine ⟨_, rfl, _, rfl, ll, _, rfl, .inl (SqL.of el1), ?_⟩
  refine tNil_i ⟨p, a, ns, t, l, _, rfl, PA1, by omega, by rw [List.length_map]; omega, by rw [List.length_map]; exact small_absL (by omega), fun k t1 l1 H2 k0 k1 u1 u2 b2 PA2 => ?_⟩
  refine ⟨_, rfl, tConsC_i (tNil_i ?_)⟩
  refine ⟨p, a, ns, t1, l1, 10, rfl, PA2, by omega, by decide, by decide, fun way t2 l2 H3 w0 w1 u3 u4 b3 PA3 => ?_⟩
  refine tNil_i ?_
  refine ⟨_, _, rfl, ?_⟩
  obtain ⟨kn, rfl⟩ : ∃ n : Nat, k = (n : Int) := ⟨_, (Int.toNat_of_nonneg k0).symm⟩
  rw [List.length_map] at k1
  have hkn : kn < L.length := by omega
  have el3 := b3 _ _ nlp (b2 _ _ nlp el1)
  have eo3 := b3 _ _ nop (b2 _ _ nop eo1)
  have hmem : L[kn] ∈ L := List.getElem_mem hkn
  have hzk := sz_mem hmem
  have hck := sz_cut L kn hkn
  refine ⟨_, rfl, _, rfl, ll, _, _, _, rfl, rfl, SqL.of el3, atI_nat (by rw [List.getElem?_map, List.getElem?_eq_getElem hkn]; rfl), ⟨_, rfl⟩, L[kn], _, rfl, rfl, rfl, by rw [sizeLine_eq]; omega, fun wl nwl => ?_⟩
  have hw0 := (split_bl L[kn]).1
  have hwo := (split_bl L[kn]).2 (hso _ hmem)
  have hwp := PyProof.Rows.split_pos L[kn] " "
  generalize hW : Txt.split L[kn] " " = W at *
  have hszW : sz W = L[kn].length + 1 := hw0
  have hWl := sz_len W
  have PA4 := PA3.new (o := .lst (W.map V.str)) nwl
  have b4 : But p H3 (upd H3 wl (.lst (W.map V.str))) := (But.refl _ _).new nwl
  have nwp : wl ≠ p := (ne_of_none PA3.p nwl).symm
  have ew4 := new_at (o := .lst (W.map V.str)) nwl
  have el4 := b4 _ _ nlp el3
  have eo4 := b4 _ _ nop eo3
  generalize upd H3 wl (.lst (W.map V.str)) = H4 at *
  have B4 : But p H H4 := ((b1.trans b2).trans b3).trans b4
  refine ⟨_, rfl, _, rfl, wl, _, rfl, .inl (SqL.of ew4), _, _, rfl, rfl, ?_⟩
  refine tNil_i ?_
  refine ⟨p, a, ns, t2, l2, _, rfl, PA4, by omega, by rw [List.length_map]; omega, by rw [List.length_map, show ((W.length : Int) + 1) = ((W.length + 1 : Nat) : Int) from rfl]; exact small_absL (by omega), fun j t3 l3 H5 j0 j1 u5 u6 b5 PA5 => ?_⟩
  obtain ⟨jn, rfl⟩ : ∃ n : Nat, j = (n : Int) := ⟨_, (Int.toNat_of_nonneg j0).symm⟩
  rw [List.length_map] at j1
  have ew5 := b5 _ _ nwp ew4
  have el5 := b5 _ _ nlp el4
  have eo5 := b5 _ _ nop eo4
  have B5 := B4.trans b5
  have go5 : GoOn p a ns (t + 3) H5 := ⟨_, _, PA5, by omega⟩
  have hL0 : 0 < L.length := by omega
  have hm0 : L[0] ∈ L := List.getElem_mem hL0
  have hz0 := sz_mem hm0
  have h00 := (split_bl L[0]).1
  have ho0 := (split_bl L[0]).2 (hso _ hm0)
  have hlen0 : ∀ y ∈ Txt.split L[0] " ", y.length ≤ L[0].length := split_lens _ " " (by decide) (by decide +kernel)
  have hlenW : ∀ y ∈ W, y.length ≤ L[kn].length := by rw [← hW]; exact split_lens _ " " (by decide) (by decide +kernel)
  generalize hW0 : Txt.split L[0] " " = W0 at *
  have hszW0 : sz W0 = L[0].length + 1 := h00
  have hW0l := sz_len W0
  have hol' := sz_len odd
  -- the word
  refine ⟨_, rfl, _, rfl, _, rfl, o, wl, _, _, rfl, rfl, eo5, ew5, by rw [List.length_map, List.length_map, sizeLine_eq]; omega, fun r1 nr1 => ?_⟩
  have S56 := new_same (o := .lst (odd.map V.str ++ W.map V.str)) nr1
  have er6 := new_at (o := .lst (odd.map V.str ++ W.map V.str)) nr1
  have PA6 := PA5.new (o := .lst (odd.map V.str ++ W.map V.str)) nr1
  generalize upd H5 r1 (.lst (odd.map V.str ++ W.map V.str)) = H6 at *
  refine ⟨_, rfl, ll, _, 0, _, rfl, rfl, SqL.of (S56 _ _ el5), atI_nat (j := 0) (by rw [List.getElem?_map, List.getElem?_eq_getElem hL0]; rfl), ⟨_, rfl⟩, L[0], _, rfl, rfl, rfl, by rw [sizeLine_eq]; omega, fun r2 nr2 => ?_⟩
  rw [hW0]
  have S67 := new_same (o := .lst (W0.map V.str)) nr2
  have er7 := new_at (o := .lst (W0.map V.str)) nr2
  have PA7 := PA6.new (o := .lst (W0.map V.str)) nr2
  generalize upd H6 r2 (.lst (W0.map V.str)) = H7 at *
  refine ⟨r1, r2, _, _, rfl, rfl, S67 _ _ er6, er7, by rw [List.length_append, List.length_map, List.length_map, List.length_map, sizeLine_eq]; omega, fun r3 nr3 => ?_⟩
  rw [show odd.map V.str ++ W.map V.str ++ W0.map V.str = (odd ++ W ++ W0).map V.str from by rw [List.map_append, List.map_append]]
  have S78 := new_same (o := .lst ((odd ++ W ++ W0).map V.str)) nr3
  have er8 := new_at (o := .lst ((odd ++ W ++ W0).map V.str)) nr3
  have PA8 := PA7.new (o := .lst ((odd ++ W ++ W0).map V.str)) nr3
  have n3p : r3 ≠ p := (ne_of_none PA7.p nr3).symm
  generalize upd H7 r3 (.lst ((odd ++ W ++ W0).map V.str)) = H8 at *
  have hol0 : 0 < odd.length := List.length_pos_iff.mpr hodd
  refine tNil_i ?_
  refine ⟨p, a, r3, ns, t3, l3, _, rfl, PA8, by omega, n3p, er8, by rw [List.length_map, List.length_append, List.length_append]; omega, by rw [List.length_map, List.length_append, List.length_append]; omega, fun i v t4 l4 H9 hv u7 u8 b9 PA9 => ?_⟩
  rw [List.getElem?_map] at hv
  obtain ⟨word, hword, rfl⟩ := Option.map_eq_some_iff.mp hv
  have hwm := List.mem_of_getElem? hword
  have hwl : word.length ≤ x.length + 12 ∧ PyData.strOk word = true := by
    rcases List.mem_append.mp hwm with z | z
    · rcases List.mem_append.mp z with z | z
      · have := hoo _ z
        exact ⟨by omega, this.2⟩
      · have := hlenW _ z
        exact ⟨by omega, hwo _ z⟩
    · have := hlen0 _ z
      exact ⟨by omega, ho0 _ z⟩
  refine tNil_i ?_
  refine ⟨_, _, rfl, ?_⟩
  have B9 : But p H H9 := (B5.trans (fun b u _ e => S78 _ _ (S67 _ _ (S56 _ _ e)))).trans b9
  have go9 : GoOn p a ns (t + 4) H9 := ⟨_, _, PA9, by omega⟩
  have kk : ∀ {b u}, b ≠ p → H5 b = some u → H9 b = some u := fun n e => b9 _ _ n (S78 _ _ (S67 _ _ (S56 _ _ e)))
  have ew9 := kk nwp ew5
  have el9 := kk nlp el5
  have eo9 := kk nop eo5
  clear kk S78 S67 S56 er8 er7 er6 PA8 PA7 PA6
  dsimp only
  have ok12 : ∀ y ∈ W, PyData.strOk y = true := hwo
  have okb : PyData.strOk " " = true := by decide +kernel
  have okbb : PyData.strOk "  " = true := by decide +kernel
  have okn : PyData.strOk "\n" = true := by decide +kernel
  have hjt := sz_take W jn
  refine seq_mid (fun v H' => ∃ s : Str, v = .str s ∧ But p H9 H' ∧ GoOn p a ns (t + 4) H' ∧ s.length ≤ L[kn].length + x.length + 20 ∧ PyData.strOk s = true) (fun Qy hq => ?_) ?_
  · refine mkT_join (p := p) (a := a) (ns := ns) (T := t + 4) (N := L[kn].length + x.length + 20) (m := 0 + 1 + 0) (MkS.le (mkS_cat (mkS_cat (mkS_take (T := t + 4) (X := W) (n := (jn : Int)) rfl nwp ew9 (pureI_var rfl) (by omega) ok12 go9)
        (fun H' b g => mkS_one (mkT_var (N := x.length + 12) (s := word) rfl hwl.1 hwl.2 g) (by omega)) (by rw [Int.toNat_natCast]; omega)) (fun H' b g => mkS_drop (T := t + 4) (X := W) (n := (jn : Int) + (if decide (way < 3) = true then 1 else 0)) rfl nwp (b _ _ nwp ew9) (pureI_add (pureI_var rfl) fun H Q q => ⟨_, rfl, _, _, rfl, rfl, .inr ⟨_, rfl, q⟩⟩) (by split <;> omega) ok12 g) ?_) ?_) (by decide) okb (by omega) _ fun s H' b g hl ok => hq _ _ ⟨s, rfl, b, g, hl, ok⟩
    · have h1 := sz_take W jn
      have h2 : sz (W.drop ((jn : Int) + (if decide (way < 3) = true then 1 else 0)).toNat) ≤ sz (W.drop jn) := sz_drop_le W (by split <;> omega)
      rw [Int.toNat_natCast]
      omega
    · have h1 := sz_take W jn
      have h2 : sz (W.drop ((jn : Int) + (if decide (way < 3) = true then 1 else 0)).toNat) ≤ sz (W.drop jn) := sz_drop_le W (by split <;> omega)
      rw [Int.toNat_natCast]
      omega
  rintro v Ha ⟨line, rfl, ba, goa, hla, hka⟩
  have hNL : L[kn].length ≤ x.length := by omega
  have fin : ∀ (te : TE) (σ : L2.St) (G : Hp) (T : Int) (N : Nat), MkT p a ns te σ G T N → N ≤ 2 * x.length + 1100 → T ≤ t + 6 → But p H9 G → te σ G Q := fun te σ G T N h hN hT b => h _ fun s H' b' g hl ok => q s H' ((B9.trans b).trans b') (g.le hT) (by omega) ok
  -- one word less
  refine seq_midS (fun σ' H' => ∃ s : Str, σ' = [some (.ref p), some (.str x), some (.ref o), some (.ref ll), some (.int (kn : Nat)), some (.int way), some (.ref wl), some (.int (jn : Nat)), some (.str word), some (.str s)] ∧ But p H9 H' ∧ GoOn p a ns (t + 4) H' ∧ s.length ≤ L[kn].length + x.length + 20 ∧ PyData.strOk s = true) (fun D' hD => ?_) ?_
  · refine ⟨_, rfl, rfl, _, rfl, ite2 (fun c => ?_) fun c => hD _ _ ⟨line, rfl, ba, goa, hla, hka⟩⟩
    have h2 : sz (W.drop (jn + 1)) ≤ sz (W.drop jn) := sz_drop_le W (Nat.le_succ jn)
    have hj1 : ((jn : Int) + 1).toNat = jn + 1 := by omega
    exact mkT_join (p := p) (a := a) (ns := ns) (T := t + 4) (N := L[kn].length + x.length + 20) (m := 0 + 0) (MkS.le (mkS_cat (mkS_take (T := t + 4) (X := W) (n := (jn : Int)) rfl nwp (ba _ _ nwp ew9) (pureI_var rfl) (by omega) ok12 goa)
        (fun H' b g => mkS_drop (T := t + 4) (X := W) (n := (jn : Int) + 1) rfl nwp (b _ _ nwp (ba _ _ nwp ew9)) (pureI_add (pureI_var rfl) pureI_c) (by omega) ok12 g) (by simp only [Int.toNat_natCast, hj1]; omega)) (by simp only [Int.toNat_natCast, hj1]; omega)) (by decide) okb (by omega) _ fun s H' b g hl ok => hD _ _ ⟨s, rfl, ba.trans b, g, hl, ok⟩
  rintro _ Hb ⟨line2, rfl, bb, gob, hlb, hkb⟩
  -- blanks
  refine seq_midS (fun σ' H' => ∃ s : Str, σ' = [some (.ref p), some (.str x), some (.ref o), some (.ref ll), some (.int (kn : Nat)), some (.int way), some (.ref wl), some (.int (jn : Nat)), some (.str word), some (.str s)] ∧ But p H9 H' ∧ GoOn p a ns (t + 5) H' ∧ s.length ≤ L[kn].length + x.length + 20 ∧ PyData.strOk s = true) (fun D' hD => ?_) ?_
  · refine ⟨_, rfl, rfl, _, rfl, ite2 (fun c => ?_) fun c => hD _ _ ⟨line2, rfl, bb, gob.le (by omega), hlb, hkb⟩⟩
    have elk : ∀ (H' : Hp), But p Hb H' → H' ll = some (.lst (L.map V.str)) := fun H' b => b _ _ nlp (bb _ _ nlp el9)
    have hLk : L[kn]? = some L[kn] := List.getElem?_eq_getElem hkn
    exact mkT_pick4 (p := p) (a := a) (ns := ns) (T := t + 4) (N := L[kn].length + x.length + 20) rfl (by omega) (by omega)
      (MkT.le (mkT_add (N1 := 1) (N2 := L[kn].length) (mkT_c (by decide) okb gob) (fun H' b g => mkT_ix rfl (elk H' b) (pureI_var rfl) hLk (Nat.le_refl _) (hso _ hmem) g) (by omega)) (by omega))
      (fun H' b g => MkT.le (mkT_add (N1 := L[kn].length) (N2 := 1) (mkT_ix rfl (elk H' b) (pureI_var rfl) hLk (Nat.le_refl _) (hso _ hmem) g) (fun H2 b2 g2 => mkT_c (by decide) okb g2) (by omega)) (by omega))
      (fun H' b g => MkT.le (mkT_join2 (N := sz W) (m := 0) (mkS_var (X := W) rfl nwp (b _ _ nwp (bb _ _ nwp ew9)) ⟨Nat.le_refl _, ok12⟩ (Nat.zero_le _) g) (by decide) okbb (by omega)) (by omega))
      (fun H' b g => mkT_c (Nat.zero_le _) (by decide +kernel) g) _ fun s H' b g hl ok => hD _ _ ⟨s, rfl, bb.trans b, g.le (by omega), hl, ok⟩
  rintro _ Hc ⟨line3, rfl, bc, goc, hlc, hkc⟩
  have elc : ∀ (H' : Hp), But p Hc H' → H' ll = some (.lst (L.map V.str)) := fun H' b => b _ _ nlp (bc _ _ nlp el9)
  have k1n : ((kn : Int) + 1).toNat = kn + 1 := by omega
  have hz1 := sz_take L kn
  have hz2 : sz (L.drop (kn + 1)) ≤ sz (L.drop kn) := sz_drop_le L (Nat.le_succ kn)
  have hz3 := sz_take L (kn + 1)
  have hLok : ∀ y ∈ L, PyData.strOk y = true := hso
  refine ⟨_, rfl, _, _, rfl, rfl, _, rfl, ite2 (fun c => ?_) fun c => ?_⟩
  · exact fin _ _ _ (t + 5) (2 * x.length + 1100) (mkT_join (m := 0 + 1 + 0) (MkS.le (mkS_cat (mkS_cat (mkS_take (T := t + 5) (X := L) (n := (kn : Int)) rfl nlp (elc _ (But.refl _ _)) (pureI_var rfl) (by omega) hLok goc)
        (fun H' b g => mkS_one (N := L[kn].length + x.length + 20) (mkT_var (s := line3) rfl hlc hkc g) (by omega)) (by simp only [Int.toNat_natCast]; omega)) (fun H' b g => mkS_drop (T := t + 5) (X := L) (n := (kn : Int) + 1) rfl nlp (elc _ b) (pureI_add (pureI_var rfl) pureI_c) (by omega) hLok g) (by simp only [Int.toNat_natCast, k1n]; omega)) (by simp only [Int.toNat_natCast, k1n]; omega)) (by decide) okn (by omega)) (by omega) (by omega) bc
  refine ⟨_, rfl, rfl, _, rfl, ite2 (fun c => ?_) fun c => ?_⟩
  · exact fin _ _ _ (t + 5) (2 * x.length + 1100) (mkT_join (m := 0 + 0) (MkS.le (mkS_cat (mkS_take (T := t + 5) (X := L) (n := (kn : Int)) rfl nlp (elc _ (But.refl _ _)) (pureI_var rfl) (by omega) hLok goc)
        (fun H' b g => mkS_drop (T := t + 5) (X := L) (n := (kn : Int) + 1) rfl nlp (elc _ b) (pureI_add (pureI_var rfl) pureI_c) (by omega) hLok g) (by simp only [Int.toNat_natCast, k1n]; omega)) (by simp only [Int.toNat_natCast, k1n]; omega)) (by decide) okn (by omega)) (by omega) (by omega) bc
  refine ⟨_, rfl, rfl, _, rfl, ite2 (fun c => ?_) fun c => ?_⟩
  · have eoc : ∀ (H' : Hp), But p Hc H' → H' o = some (.lst (odd.map V.str)) := fun H' b => b _ _ nop (bc _ _ nop eo9)
    exact fin _ _ _ (t + 6) (2 * x.length + 1100) (mkT_join (m := 0 + 1 + 0) (MkS.le (mkS_cat (mkS_cat (mkS_take (T := t + 5) (X := L) (n := (kn : Int)) rfl nlp (elc _ (But.refl _ _)) (pureI_var rfl) (by omega) hLok goc)
        (fun H' b g => mkS_one (N := sz odd) (MkT.leT (mkT_pick (T := t + 5) (m := 1) rfl (mkS_var (X := odd) rfl nop (eoc _ b) ⟨Nat.le_refl _, fun y hy => (hoo y hy).2⟩ (by omega) g) (Nat.le_refl _) (by omega) (by omega)) (by omega)) (by omega)) (by simp only [Int.toNat_natCast]; omega)) (fun H' b g => mkS_drop (T := t + 6) (X := L) (n := (kn : Int)) rfl nlp (elc _ b) (pureI_var rfl) (by omega) hLok g) (by simp only [Int.toNat_natCast]; omega)) (by simp only [Int.toNat_natCast]; omega)) (by decide) okn (by omega)) (by omega) (by omega) bc
  refine ⟨_, rfl, rfl, _, rfl, ite2 (fun c => ?_) fun c => ?_⟩
  · exact fin _ _ _ (t + 6) (2 * x.length + 1100) (mkT_join (m := 0 + 1 + 0) (MkS.le (mkS_cat (mkS_cat (mkS_take (T := t + 5) (X := L) (n := (kn : Int) + 1) rfl nlp (elc _ (But.refl _ _)) (pureI_add (pureI_var rfl) pureI_c) (by omega) hLok goc)
        (fun H' b g => mkS_one (N := sz L) (MkT.leT (mkT_pick (T := t + 5) (m := 1) rfl (mkS_var (X := L) rfl nlp (elc _ b) ⟨Nat.le_refl _, hLok⟩ (by omega) g) (Nat.le_refl _) (by omega) (by omega)) (by omega)) (by omega)) (by simp only [k1n]; omega)) (fun H' b g => mkS_drop (T := t + 6) (X := L) (n := (kn : Int) + 1) rfl nlp (elc _ b) (pureI_add (pureI_var rfl) pureI_c) (by omega) hLok g) (by simp only [k1n]; omega)) (by simp only [k1n]; omega)) (by decide) okn (by omega)) (by omega) (by omega) bc
  · exact fin _ _ _ (t + 5) (2 * x.length + 1100) (mkT_join (m := 0) (MkS.le (mkS_take (T := t + 5) (X := L) (n := (kn : Int)) rfl nlp (elc _ (But.refl _ _)) (pureI_var rfl) (by omega) hLok goc) (by simp only [Int.toNat_natCast]; omega)) (by decide) okn (by omega)) (by omega) (by omega) bc
end
end FP
set_option Elab.async false
set_option linter.all false
set_option maxRecDepth 100000
set_option maxHeartbeats 4000000
/-! The text of a good tree is of signs. -/
namespace FP
open PySem PySem.Spec PyProof.Rows L2 TL
abbrev okW (w : Str) : Prop := PyData.strOk w = true
abbrev okL (ws : List Str) : Prop := ∀ w ∈ ws, okW w
theorem sign_end : okL wEnd := by decide +kernel
theorem sign_else : okL wElse := by decide +kernel
theorem sign_deed {seen : List Str} (hs : ∀ x ∈ seen, okW x) (k : Deed) (h : ∀ x ∈ k.names, x ∈ seen) : okL k.words := by
  have two : ∀ (w a t b : Str), okW w → okW t → a ∈ seen → b ∈ seen → okL [w, a, t, b] := fun w a t b h1 h2 h3 h4 => by
    refine fun x hx => ?_
    rcases List.mem_cons.mp hx with z | hx
    · rw [z]; exact h1
    rcases List.mem_cons.mp hx with z | hx
    · rw [z]; exact hs a h3
    rcases List.mem_cons.mp hx with z | hx
    · rw [z]; exact h2
    · rw [List.mem_singleton.mp hx]; exact hs b h4
  have one : ∀ (w a : Str), okW w → a ∈ seen → okL [w, a] := fun w a h1 h3 => by
    refine fun x hx => ?_
    rcases List.mem_cons.mp hx with z | hx
    · rw [z]; exact h1
    · rw [List.mem_singleton.mp hx]; exact hs a h3
  cases k with
  | input a => exact one _ a (by decide +kernel) (h a (by simp [Deed.names]))
  | copy a b => exact two _ a _ b (by decide +kernel) (by decide +kernel) (h a (by simp [Deed.names])) (h b (by simp [Deed.names]))
  | point a b => exact two _ a _ b (by decide +kernel) (by decide +kernel) (h a (by simp [Deed.names])) (h b (by simp [Deed.names]))
  | load a b => exact two _ a _ b (by decide +kernel) (by decide +kernel) (h a (by simp [Deed.names])) (h b (by simp [Deed.names]))
  | store a b => exact two _ a _ b (by decide +kernel) (by decide +kernel) (h a (by simp [Deed.names])) (h b (by simp [Deed.names]))
  | use a => exact one _ a (by decide +kernel) (h a (by simp [Deed.names]))
  | call p => exact one _ p (by decide +kernel) (h p (by simp [Deed.names]))
theorem sign_op {seen : List Str} (hs : ∀ x ∈ seen, okW x) (o : Op) (h : ∀ x ∈ o.names, x ∈ seen) : okL (o.word :: o.names) := by
  have none_ : ∀ (w : Str), okW w → okL [w] := fun w h1 => fun x hx => by rw [List.mem_singleton.mp hx]; exact h1
  cases o with
  | block => exact none_ _ (by decide +kernel)
  | loop => exact none_ _ (by decide +kernel)
  | maybe => exact none_ _ (by decide +kernel)
  | same a b =>
    refine fun x hx => ?_
    rcases List.mem_cons.mp hx with z | hx
    · rw [z]; exact (by decide +kernel : okW "same")
    · exact hs x (h x hx)
theorem sign_loc {cs : List Str} (hs : ∀ x ∈ cs, okW x) (h5 : cs.length ≤ 5) : ∀ ws ∈ loc cs, okL ws := by
  intro ws h
  unfold loc at h
  split at h
  · cases h
  · rw [List.mem_singleton.mp h]
    refine fun x hx => ?_
    rcases List.mem_cons.mp hx with z | hx
    · rw [z]; exact (by decide +kernel : okW "local")
    · exact hs x hx
theorem sign_T : ∀ (t : T) (seen : List Str) (d : Nat), wfT seen d t → (∀ x ∈ seen, okW x) → (∀ x ∈ declT t, okW x) → (declT t).length ≤ 5 → ∀ ws ∈ linesT t, okL ws
  | .nil, _, _, _, _, _, _, ws, h => by cases h
  | .deed k r, seen, d, wf, hs, hd, hl, ws, h => by
    have wf' : (∀ x ∈ k.names, x ∈ seen) ∧ wfT seen d r := by cases d <;> exact wf
    rcases List.mem_cons.mp h with z | z
    · rw [z]; exact sign_deed hs k wf'.1
    · exact sign_T r seen d wf'.2 hs hd hl ws z
  | .one o cs b r, _, 0, wf, _, _, _, _, _ => wf.elim
  | .one o cs b r, seen, d + 1, wf, hs, hd, hl, ws, h => by
    obtain ⟨w1, w2, w3⟩ := wf
    rw [declT, List.length_append, List.length_append] at hl
    have dcs : ∀ x ∈ cs, okW x := fun x hx => hd x (List.mem_append_left _ (List.mem_append_left _ hx))
    rw [linesT] at h
    rcases List.mem_cons.mp h with z | z
    · rw [z]; exact sign_op hs o w1
    rcases List.mem_append.mp z with z | z
    · rcases List.mem_append.mp z with z | z
      · exact sign_loc dcs (by omega) ws z
      · exact sign_T b _ d w2 (fun x hx => (List.mem_append.mp hx).elim (hs x) (dcs x)) (fun x hx => hd x (List.mem_append_left _ (List.mem_append_right _ hx))) (by omega) ws z
    rcases List.mem_cons.mp z with z | z
    · rw [z]
      first | exact sign_end | exact sign_else
    · exact sign_T r seen (d + 1) w3 hs (fun x hx => hd x (List.mem_append_right _ hx)) (by omega) ws z
  | .two o cs b cs' b' r, _, 0, wf, _, _, _, _, _ => wf.elim
  | .two o cs b cs' b' r, seen, d + 1, wf, hs, hd, hl, ws, h => by
    obtain ⟨w0, w1, w2, w2', w3⟩ := wf
    rw [declT, List.length_append, List.length_append, List.length_append (as := cs' ++ declT b'), List.length_append] at hl
    have dcs : ∀ x ∈ cs, okW x := fun x hx => hd x (List.mem_append_left _ (List.mem_append_left _ hx))
    have dcs' : ∀ x ∈ cs', okW x := fun x hx => hd x (List.mem_append_right _ (List.mem_append_left _ (List.mem_append_left _ hx)))
    rw [linesT] at h
    rcases List.mem_cons.mp h with z | z
    · rw [z]; exact sign_op hs o w1
    rcases List.mem_append.mp z with z | z
    · rcases List.mem_append.mp z with z | z
      · exact sign_loc dcs (by omega) ws z
      · exact sign_T b _ d w2 (fun x hx => (List.mem_append.mp hx).elim (hs x) (dcs x)) (fun x hx => hd x (List.mem_append_left _ (List.mem_append_right _ hx))) (by omega) ws z
    rcases List.mem_cons.mp z with z | z
    · rw [z]
      first | exact sign_end | exact sign_else
    rcases List.mem_append.mp z with z | z
    · rcases List.mem_append.mp z with z | z
      · exact sign_loc dcs' (by omega) ws z
      · exact sign_T b' _ d w2' (fun x hx => (List.mem_append.mp hx).elim (hs x) (dcs' x)) (fun x hx => hd x (List.mem_append_right _ (List.mem_append_left _ (List.mem_append_right _ hx)))) (by omega) ws z
    rcases List.mem_cons.mp z with z | z
    · rw [z]
      first | exact sign_end | exact sign_else
    · exact sign_T r seen (d + 1) w3 hs (fun x hx => hd x (List.mem_append_right _ (List.mem_append_right _ hx))) (by omega) ws z

theorem sign_P {cs : List Str} {t : T} (W : WfP cs t) (h : ∀ x ∈ cs ++ declT t, okW x) : ∀ ws ∈ linesP cs t, okL ws := fun ws hw => by
  have h5 := W.h5
  rw [List.length_append] at h5
  rcases List.mem_append.mp hw with z | z
  · exact sign_loc (fun x hx => h x (List.mem_append_left _ hx)) (by omega) ws z
  · exact sign_T t cs 5 W.wf (fun x hx => h x (List.mem_append_left _ hx)) (fun x hx => h x (List.mem_append_right _ hx)) (by omega) ws z
theorem text_sign {cs : List Str} {t : T} (W : WfP cs t) (h : ∀ x ∈ cs ++ declT t, okW x) : PyData.strOk (textP cs t) = true := by
  refine (join_facts "\n" _).2 (by decide +kernel) fun p hp => ?_
  obtain ⟨ws, hws, rfl⟩ := List.mem_map.mp hp
  exact (join_facts " " _).2 (by decide +kernel) (sign_P W h ws hws)
end FP
set_option Elab.async false
set_option linter.all false
set_option maxRecDepth 100000
set_option maxHeartbeats 4000000
set_option exponentiation.threshold 2000
/-! The joined lines. -/
namespace FP
open PySem PySem.Spec PyProof.Rows L2 TL
/-- the sum of the lines' lengths -/
theorem line_le {ws : List Str} (h : plainL ws) : (Txt.join " " ws).length ≤ 78 := by
  rw [len_tl, tl_tjoin]
  obtain ⟨_, h2, h3⟩ := h
  refine Nat.le_trans (joinL_len (k := 12) fun p hp => ?_) ?_
  · obtain ⟨w, hw, rfl⟩ := List.mem_map.mp hp
    exact (h3 w hw).2.1
  · rw [List.length_map]
    show ws.length * 13 ≤ 78
    omega
theorem lines_sum : ∀ {ls : List (List Str)}, (∀ ws ∈ ls, plainL ws) → ((lnJ ls).map (·.length)).sum ≤ 78 * ls.length
  | [], _ => Nat.le_refl _
  | ws :: r, h => by
    have h1 := lines_sum fun x hx => h x (List.mem_cons_of_mem _ hx)
    have h2 := line_le (h ws List.mem_cons_self)
    rw [lnJ_cons, List.map_cons, List.sum_cons, List.length_cons]
    omega
theorem lines_fit {ls : List (List Str)} (h : ∀ ws ∈ ls, plainL ws) (hl : ls.length ≤ 1000) : ((lnJ ls).map (·.length)).sum + (lnJ ls).length * ("\n" : Str).length ≤ 16777216 := by
  have := lines_sum h
  rw [lnJ_len, show ("\n" : Str).length = 1 from rfl]
  omega
theorem log_small {n : Nat} (h : n ≤ 1000) : ((n : Nat) : Int).natAbs.log2 < 1920 := by
  rw [Int.natAbs_natCast]
  have : n.log2 ≤ n := Nat.log2_le_self n
  omega
end FP
set_option Elab.async false
set_option linter.all false
set_option maxRecDepth 100000
set_option maxHeartbeats 8000000
set_option exponentiation.threshold 2000
/-! The law of texts that are refused. -/
namespace FP
open PySem PySem.Spec PyProof.Rows L2 TL
section
variable {P : Program} {w : World} {K : PySem.W.Frag} {mg : Str → Option Value} {base : Heap}
def spLaw2 (K : PySem.W.Frag) : Sp := fun vs H Q _ => ∃ (a : Addr) (ns : List Int), vs = [.ref a] ∧ SqL K H a (ns.map V.int) ∧ ns.length ≤ 63 ∧ ∀ H', Q (.bl true) H'
abbrev nL2 : List Str := ["_law_script", "_law_pen", "_law_odd", "_law_turn", "_law_block", "_law_text", "_law_k"]
theorem scL2 : FnScope nL2 ["_law_script"] (defScope sLaw) := ⟨rfl, rfl, rfl, by decide +kernel, rfl, by decide +kernel, by decide +kernel⟩
def odd15 : List Str := ["a", "x", "to", "from", "local", "block", "else", "end", "loop", "maybe", "same", "use", "copy", "", "1"]
def odd5 : List Str := ["use x", "local x", "local low", "end", "maybe"]
theorem odd_ok : sz (odd15 ++ odd5) ≤ 1000 ∧ ∀ y ∈ odd15 ++ odd5, y.length ≤ 12 ∧ PyData.strOk y = true := by decide +kernel
def bnd : Nat → Nat
  | 0 => 3200
  | k + 1 => 2 * bnd k + 1100
theorem bnd_le {k : Nat} (h : k ≤ 3) : bnd k ≤ 33300 := by
  match k, h with
  | 0, _ => decide
  | 1, _ => decide
  | 2, _ => decide
  | 3, _ => decide
theorem PenAt.same {H H' : Hp} {p a : Addr} {ns : List Int} {t l : Int} (h : PenAt H p a ns t l) (S : Same H H') : PenAt H' p a ns t l := ⟨S _ _ h.p, S _ _ h.a, h.n, h.t0, h.l0⟩
structure Defs2 (P : Program) (w : World) (K : PySem.W.Frag) (mg : Str → Option Value) (base : Heap) : Prop where
  pen : Def P w K mg base "_law_begun_pen" 1 ["_law_script"] (spPen K)
  draw : Def P w K mg base "_law_draw" 1 ["_law_pen", "_law_span"] spDraw
  np : Def P w K mg base "_law_new_program" 7 pNP spNP
  bl : Def P w K mg base "_law_block_lines" 3 ["_law_block"] (spBL 3)
  hand : Def P w K mg base "_law_hand_right" 9 [] spHand
  told : Def P w K mg base "_law_told" 8 ["_law_text"] spTold
  wl : Def P w K mg base "_law_wrong_line" 3 ["_law_text"] spWL
  bent : Def P w K mg base "_law_bent" 3 pBt spBent
theorem ok_law2 {f : Addr} {fd : FuncData} (F : Fun K "law" "law" sLaw f fd) (hrp : mg "repr" = none) (hrg : mg "range" = none) (D : Defs2 P w K mg base) : FnOk P w K mg base CX0 10 f fd ["_law_script"] (spLaw2 K) := by
  obtain ⟨fB, fdB, gB, kB, bB, GB⟩ := D.pen.ex
  obtain ⟨fD, fdD, gD, kD, bD, GD⟩ := D.draw.ex
  obtain ⟨fN, fdN, gN, kN, bN, GN⟩ := D.np.ex
  obtain ⟨fL, fdL, gL, kL, bL, GL⟩ := D.bl.ex
  obtain ⟨fH, fdH, gH, kH, bH, GH⟩ := D.hand.ex
  obtain ⟨fT, fdT, gT, kT, bT, GT⟩ := D.told.ex
  obtain ⟨fW, fdW, gW, kW, bW, GW⟩ := D.wl.ex
  obtain ⟨fE, fdE, gE, kE, bE, GE⟩ := D.bent.ex
  refine F.ok scL2 (fun vs H Q E h => ?_) (fun cdv A outer s H vs Q E0 hr h => ?_)
  · obtain ⟨a, ns, rfl, _⟩ := h
    rfl
  obtain ⟨sc, ns, rfl, hS, hl, k⟩ := h
  have hr1 := hr.mono (show 1 ≤ 9 by decide)
  have hr3 := hr.mono (show 3 ≤ 9 by decide)
  have hr7 := hr.mono (show 7 ≤ 9 by decide)
  have hr8 := hr.mono (show 8 ≤ 9 by decide)
  have nd := scL2.nd
  refine ⟨_, pss_cons (ps_set (i := 1) nd rfl (.inl rfl) (pe_call GB hr1 rfl gB kB bB .nil pass0 (pa_cons (pv 0) pa_nil)))
    (pss_cons (ps_if (pt_not (pt_val (pe_call0 GH hr rfl gH kH bH .nil pass0))) (pss_one ps_never) pss_nil)
    (pss_cons (ps_set (i := 2) nd rfl (.inl rfl) (pe_lst (pa_cons pe_str (pa_cons pe_str (pa_cons pe_str (pa_cons pe_str (pa_cons pe_str (pa_cons pe_str (pa_cons pe_str (pa_cons pe_str (pa_cons pe_str (pa_cons pe_str (pa_cons pe_str (pa_cons pe_str (pa_cons pe_str (pa_cons pe_str (pa_cons pe_str pa_nil)))))))))))))))))
    (pss_cons (ps_for PassesOwn.never rfl (pi_range1 (by rfl) hrg (pa_cons pe_int pa_nil)) (pg_name (i := 3) nd rfl (Or.inl rfl))
      (pss_cons (ps_set (i := 4) nd rfl (.inl rfl) (pe_call GN hr7 rfl gN kN bN .nil pass0 (pa_cons (pv 1) (pa_cons (pe_op op_add pe_int (pe_call GD hr1 rfl gD kD bD .nil pass0 (pa_cons (pv 1) (pa_cons pe_int pa_nil)))) (pa_cons (pe_call GD hr1 rfl gD kD bD .nil pass0 (pa_cons (pv 1) (pa_cons pe_int pa_nil))) (pa_cons pe_int (pa_cons pe_int pa_nil)))))))
      (pss_cons (ps_set (i := 5) nd rfl (.inl rfl) (pe_join pe_str (pe_call GL hr3 rfl gL kL bL .nil pass0 (pa_cons (pv 4) pa_nil))))
      (pss_cons (ps_if (PW.pt (pw_or (pt_cmpR op_ne (pe_call GT hr8 rfl gT kT bT .nil pass0 (pa_cons (pv 5) pa_nil)) pe_int (nomark _)) (pw_or1 (pt_cmpR op_ne (pe_call GW hr3 rfl gW kW bW .nil pass0 (pa_cons (pv 5) pa_nil)) pe_int (nomark _))))) (pss_one ps_never) pss_nil)
      (pss_one (ps_for PassesOwn.never rfl (pi_range1 (by rfl) hrg (pa_cons (pe_op op_add pe_int (pe_call GD hr1 rfl gD kD bD .nil pass0 (pa_cons (pv 1) (pa_cons pe_int pa_nil)))) pa_nil)) (pg_name (i := 6) nd rfl (Or.inl rfl))
        (pss_cons (ps_set (i := 5) nd rfl (.inl rfl) (pe_call GE hr3 rfl gE kE bE .nil pass0 (pa_cons (pv 1) (pa_cons (pv 5) (pa_cons (pe_op op_cat (pv 2) (pe_lst (pa_cons pe_str (pa_cons pe_str (pa_cons pe_str (pa_cons pe_str (pa_cons pe_str pa_nil))))))) pa_nil)))))
        (pss_one (ps_if (pt_cmpR op_ne (pe_callB call_reprI (by rfl) hrp (by decide +kernel) (pa_cons (pe_call GT hr8 rfl gT kT bT .nil pass0 (pa_cons (pv 5) pa_nil)) pa_nil)) (pe_callB call_reprI (by rfl) hrp (by decide +kernel) (pa_cons (pe_call GW hr3 rfl gW kW bW .nil pass0 (pa_cons (pv 5) pa_nil)) pa_nil)) (nomark _)) (pss_one ps_never) pss_nil)))))))))
    (pss_one (ps_ret pe_bl))))), ?_⟩
  refine ⟨_, rfl, tNil_i ⟨sc, ns, rfl, hS, hl, fun p a H1 hp S1 P1 => ?_⟩⟩
  refine ⟨rfl, fun H2 S2 => ⟨_, rfl, iteF ?_⟩⟩
  have P2 : PenAt H2 p a ns 0 0 := ⟨S2 _ _ P1.p, S2 _ _ P1.a, P1.n, P1.t0, P1.l0⟩
  refine ⟨sz1000 (by show 15 ≤ 1000; decide), fun o no => ?_⟩
  have S3 := new_same (o := .lst (odd15.map V.str)) no
  have P3 : PenAt (upd H2 o (.lst (odd15.map V.str))) p a ns 0 0 := P2.new no
  have eo3 := new_at (o := .lst (odd15.map V.str)) no
  have nop : o ≠ p := (ne_of_none P2.p no).symm
  generalize hH3 : upd H2 o (.lst (odd15.map V.str)) = H3 at *
  have e3 : upd H2 o (.lst [V.str "a", V.str "x", V.str "to", V.str "from", V.str "local", V.str "block", V.str "else", V.str "end", V.str "loop", V.str "maybe", V.str "same", V.str "use", V.str "copy", V.str "", V.str "1"]) = H3 := hH3
  rw [e3]
  have hw10 : wdr 2 10 ≤ 3000 := wdr10
  refine ⟨12, rfl, by decide, by decide, for_it (walk_range (lo := 0) (n := 12)) (fun i σ H' => ∃ t l, (∃ z3 z4 z5 z6, σ = [some (.ref sc), some (.ref p), some (.ref o), z3, z4, z5, z6]) ∧ PenAt H' p a ns t l ∧ H' o = some (.lst (odd15.map V.str)) ∧ 0 ≤ t ∧ t ≤ 4000 * i) ⟨0, 0, ⟨_, _, _, _, rfl⟩, P3, eo3, Int.le_refl _, by omega⟩ (fun _ _ _ _ _ => True.intro) ?_ ?_⟩
  · rintro i v σ H' H'' hi ⟨t, l, ⟨z3, z4, z5, z6, rfl⟩, PA, eo, w1, w2⟩ ⟨rfl, rfl⟩
    refine ⟨_, rfl, _, rfl, tConsC_i (tNil_i ⟨p, a, ns, t, l, 5, rfl, PA, by omega, by decide, by decide, fun m1 t1 l1 H4 m0 m5 u0 u1 b1 P4 => ⟨_, _, rfl, rfl, _, rfl, tConsC_i (tNil_i ⟨p, a, ns, t1, l1, 7, rfl, P4, by omega, by decide, by decide, fun sz t2 l2 H5 s0 s8 u2 u3 b2 P5 => tConsC_i (tConsC_i (tNil_i ?_))⟩)⟩⟩)⟩
    obtain ⟨m, rfl⟩ : ∃ n : Nat, m1 = (n : Int) := ⟨_, (Int.toNat_of_nonneg m0).symm⟩
    obtain ⟨size, rfl⟩ : ∃ n : Nat, sz = (n : Int) := ⟨_, (Int.toNat_of_nonneg s0).symm⟩
    show spNP [.ref p, .int (1 + (m : Int)), .int (size : Int), .int 3, .int 3] H5 _ _
    rw [show (1 + (m : Int)) = ((1 + m : Nat) : Int) from by omega]
    have hwz := wdr_le (d := 2) (show size ≤ 10 by omega)
    refine ⟨p, a, ns, t2, l2, 3, 3, 1 + m, size, [p], rfl, P5, by omega, by omega, by omega, by omega, by simp, fun z hz => by rw [List.mem_singleton.mp hz]; exact some_ne P5.p, ?_⟩
    intro x cs tr t4 H6 k4 pen4 v0 v1 hb M s36 dp hne fx
    obtain ⟨l4, P6⟩ := pen4
    have eo6 : H6 o = some (.lst (odd15.map V.str)) := k4 _ _ (by simp [nop]) (b2 _ _ nop (b1 _ _ nop eo))
    have hx := hb.at_
    have hx6 := hx.same hid_le
    have W := M.wfp
    have um := use_made W (show sizeP cs tr ≤ 40 by omega) rfl
    have hok : PyData.strOk (textP cs tr) = true := text_sign W fun y hy => twelve_ok y (M.tw y hy)
    have htl := textP_len W
    have hw0 : wrongM (textP cs tr) 40 = 0 := right_read um.2
    have hm79 : sizeP cs tr * 79 ≤ 40 * 79 := Nat.mul_le_mul_right _ (by omega)
    -- the text
    refine ⟨⟨_, rfl⟩, _, rfl, tNil_i ⟨x, cs, tr, rfl, hx6, by omega, M.okb (by omega), fun r H7 S7 hr er => ?_⟩⟩
    refine ⟨"\n", r, lnJ (linesP cs tr), rfl, rfl, .inl (SqL.of er), lines_fit W.plain (by rw [linesP_len]; omega), ?_⟩
    change gName 5 (V.str (textP cs tr)) _ _ _
    have P7 := P6.same S7
    have eo7 := S7 _ _ eo6
    generalize htx : textP cs tr = tx at *
    -- it is right
    refine ⟨_, rfl, tNil_i ⟨tx, rfl, um.1, fun H8 S8 => ⟨rfl, _, rfl, ?_⟩⟩⟩
    rw [hw0]
    refine iteF ⟨_, rfl, tNil_i ⟨tx, rfl, um.1, hok, fun H9 S9 => ⟨rfl, _, rfl, ?_⟩⟩⟩
    rw [hw0]
    refine iteF ?_
    have P9 := (P7.same S8).same S9
    have eo9 := S9 _ _ (S8 _ _ eo7)
    refine ⟨_, rfl, tConsC_i (tNil_i ⟨p, a, ns, t4, l4, 3, rfl, P9, by omega, by decide, by decide, fun d t5 l5 H10 d0 d3 u4 u5 b3 P10 => ⟨_, _, rfl, rfl, ?_⟩⟩)⟩
    have eo10 := b3 _ _ nop eo9
    refine tNil_i ?_
    obtain ⟨dn, rfl⟩ : ∃ n : Nat, d = (n : Int) := ⟨_, (Int.toNat_of_nonneg d0).symm⟩
    refine ⟨1 + (dn : Int), rfl, by omega, by omega, for_it (walk_range (lo := 0) (n := 1 + dn)) (fun k σ H' => k ≤ 1 + dn ∧ ∃ t l s, (∃ z6, σ = [some (.ref sc), some (.ref p), some (.ref o), some (.int (0 + (i : Nat))), some (.ref x), some (.str s), z6]) ∧ PenAt H' p a ns t l ∧ H' o = some (.lst (odd15.map V.str)) ∧ t ≤ t5 + 6 * k ∧ s.length ≤ bnd k ∧ PyData.strOk s = true)
      ⟨Nat.zero_le _, t5, l5, tx, ⟨_, rfl⟩, P10, eo10, by omega, by show tx.length ≤ 3200; omega, hok⟩ (fun _ _ _ _ _ => True.intro) ?_ ?_⟩
    · rintro k v σ H' H'' hk ⟨hk1, t6, l6, s, ⟨z6, rfl⟩, P11, eo11, q1, hs, hso⟩ ⟨rfl, rfl⟩
      have hbk := bnd_le (show k ≤ 3 by omega)
      refine ⟨_, rfl, _, rfl, _, rfl, sz1000 (by show 5 ≤ 1000; decide), fun r5 n5 => ?_⟩
      have S5 := new_same (o := .lst (odd5.map V.str)) n5
      have P12 := P11.new (o := .lst (odd5.map V.str)) n5
      have e5 := new_at (o := .lst (odd5.map V.str)) n5
      refine ⟨o, r5, odd15.map V.str, odd5.map V.str, rfl, rfl, S5 _ _ eo11, e5, by decide, fun o2 no2 => ?_⟩
      have e2 : (upd (upd H'' r5 (.lst (odd5.map V.str))) o2 (.lst (odd15.map V.str ++ odd5.map V.str))) o2 = some (.lst ((odd15 ++ odd5).map V.str)) := by rw [upd_same, List.map_append]
      have S12 := new_same (o := .lst (odd15.map V.str ++ odd5.map V.str)) no2
      have P13 := P12.same S12
      have no2p : o2 ≠ p := (ne_of_none P12.p no2).symm
      have eo13 := S12 _ _ (S5 _ _ eo11)
      change tNil _ _ _
      refine tNil_i ?_
      refine ⟨p, a, o2, ns, t6, l6, s, odd15 ++ odd5, rfl, P13, by omega, no2p, e2, List.cons_ne_nil _ _, odd_ok.1, odd_ok.2, by omega, hso, fun y H13 b13 go13 hy hyo => ?_⟩
      obtain ⟨t7, l7, P14, ht7⟩ := go13
      have eo14 := b13 _ _ nop eo13
      have hyl : y.length ≤ 80000 := by omega
      have hb1 : y.length ≤ bnd (k + 1) := by show _ ≤ 2 * bnd k + 1100; omega
      have hlog : ((wrongM y 40 : Nat) : Int).natAbs.log2 < 1920 := log_smallB (by
        have : ∀ (ls : List (List Str)) (M : ShM) (n : Nat), goW 40 M ls n ≤ n + ls.length + 1 := by
          intro ls
          induction ls with
          | nil => intro M n; show (if M.nest.length = 1 then 0 else n + 1) ≤ n + 0 + 1; split <;> omega
          | cons l r ih =>
            intro M n
            show (if 40 ≤ n then n + 1 else match takeM M l with | none => n + 1 | some M' => goW 40 M' r (n + 1)) ≤ _
            split
            · omega
            · split
              · omega
              · rename_i M' _
                rw [List.length_cons]
                have := ih M' (n + 1)
                omega
        have h1 := this ((linesM y).map fun l => Txt.split l " ") ShM.new 0
        rw [List.length_map] at h1
        have h2 := lines_cnt y
        show goW 40 ShM.new ((linesM y).map fun l => Txt.split l " ") 0 ≤ 100000
        omega)
      refine ⟨_, rfl, tNil_i ⟨y, rfl, hyl, fun H14 S14 => ?_⟩⟩
      refine tNil_i ?_
      refine ⟨_, rfl, hlog, ?_⟩
      refine ⟨_, rfl, tNil_i ⟨y, rfl, hyl, hyo, fun H15 S15 => ?_⟩⟩
      refine tNil_i ?_
      refine ⟨_, rfl, hlog, rfl, _, rfl, ?_⟩
      rw [decide_eq_true (show V.str (toString ((wrongM y 40 : Nat) : Int)) = V.str (toString ((wrongM y 40 : Nat) : Int)) from rfl)]
      refine iteF ⟨by omega, t7, l7, y, ⟨_, rfl⟩, (P14.same S14).same S15, S15 _ _ (S14 _ _ eo14), by omega, hb1, hyo⟩
    · rintro σ H' ⟨hk1, t6, l6, s, ⟨z6, rfl⟩, P11, eo11, q1, hs, hso⟩
      exact ⟨t6, l6, ⟨_, _, _, _, rfl⟩, P11, eo11, P11.t0, by omega⟩
  · rintro σ H' ⟨t, l, ⟨z3, z4, z5, z6, rfl⟩, PA, eo, w1, w2⟩
    exact k H'
end
end FP
set_option Elab.async false
set_option linter.all false
set_option maxRecDepth 100000
set_option maxHeartbeats 4000000
set_option exponentiation.threshold 2000
/-! From raw facts of the written part to what is said of BadProgram. -/
namespace FP
open PySem PySem.Spec PyProof.Rows L2 NdefX
abbrev veT : List Value := [.type "ValueError", .type "Exception", .type "BaseException", .type "object"]
/-- the raw facts of a class over the base at FE -/
structure Cl (K : W.Frag) (C FE : Addr) : Prop where
  x : ∃ nm q N bs sn sub ab col dd k0 k1 k2 k3 k5, K.lookup C = some (excClassObj nm q C N bs (.ref FE :: veT) true sn sub ab col dd k0 k1 k2 k3 k5 "ValueError.__new__")
  sa : W.findIn K (.ref C) "__setattr__" = some (some (.builtin "object.__setattr__"))
  ga : W.findIn K (.ref C) "__getattribute__" = some (some (.builtin "BaseException.__getattribute__"))
  gg : W.findIn K (.ref C) "__getattr__" = some none
  ca : W.findIn K (.ref C) "__class__" = some (some (.builtin "object.__class__"))
  kC : W.keepIn K (.ref C) = true
/-- .. of the base, of the world -/
structure Gen (K : W.Frag) (FE : Addr) : Prop where
  x : ∃ cd, W.clsIn K FE = some cd ∧ cd.mro = .ref FE :: veT
  t : W.typeIn K (.ref FE) = some (.type "type")
  i : W.findIn K (.ref FE) "__init__" = some (some (.builtin "ValueError.__init__"))
  cn : W.specialIn K (.builtin "object.__class__") "__get__" = some (some (.builtin "getset_descriptor.__get__"))
  ct : W.takesIn K (.builtin "object.__class__") = some true
  op : W.nsIn K cStatics "thirdparty.any" = some none
theorem Cl.cls {K : W.Frag} {C FE : Addr} (c : Cl K C FE) : ∃ cd, W.clsIn K C = some cd ∧ cd.mro = .ref C :: .ref FE :: veT ∧ cd.hasDict = true := by
  obtain ⟨nm, q, N, bs, sn, sub, ab, col, dd, k0, k1, k2, k3, k5, h⟩ := c.x
  exact ⟨_, by unfold W.clsIn; rw [h] <;> rfl, rfl, rfl⟩
theorem Cl.ty {K : W.Frag} {C FE : Addr} (c : Cl K C FE) : W.typeIn K (.ref C) = some (.type "type") := by
  obtain ⟨nm, q, N, bs, sn, sub, ab, col, dd, k0, k1, k2, k3, k5, h⟩ := c.x
  show (K.lookup C).map (·.cls) = _
  rw [h]
  rfl
theorem Cl.sub {K : W.Frag} {C FE : Addr} (c : Cl K C FE) (v : Value) : W.subIn K (.ref C) v = some ((Value.ref C :: .ref FE :: veT).contains v) := by
  obtain ⟨cd, h, e, _⟩ := c.cls
  show W.mroIn K C v = _
  unfold W.mroIn
  rw [h, Option.bind_some, e]
  rfl
theorem Cl.exk {K : W.Frag} {C FE : Addr} (c : Cl K C FE) (g : Gen K FE) : ExK K C := by
  have has : ∀ X : String, veT.contains (.type X) = true → (Value.ref C :: .ref FE :: veT).contains (.type X) = true := fun X h => by
    rw [List.contains_cons, List.contains_cons, h, Bool.or_true, Bool.or_true]
  obtain ⟨cd, h, e, hd⟩ := c.cls
  have iB : W.subIn K (.ref C) (.type "BaseException") = some true := by rw [c.sub, has _ (by decide +kernel)]
  refine ⟨⟨?_, c.sa, iB, c.ty, c.kC⟩, c.ga, c.gg, ?_, c.ca, g.cn, g.ct, ?_, ?_, ?_, ?_, g.op⟩
  · obtain ⟨nm, q, N, bs, sn, sub, ab, col, dd, k0, k1, k2, k3, k5, z⟩ := c.x
    exact ⟨nm, q, N, bs, _, sn, sub, ab, col, dd, k0, k1, k2, k3, k5, z, by show HandSPX.refsVE veT = true; decide +kernel⟩
  · unfold W.hasDictIn
    rw [h]
    exact hd
  · have z := c.sub (.type "object")
    rw [has _ (by decide +kernel)] at z
    exact z
  · rw [c.sub, has _ (by decide +kernel)]
  · obtain ⟨cf, h1, h2⟩ := g.x
    have z := g.i
    unfold W.findIn at z
    unfold W.clsIn at h1
    unfold W.ks_superIn
    rw [h, Option.bind_some, e]
    have dr : ((Value.ref C :: .ref FE :: veT).dropWhile (· != .ref C)).drop 1 = .ref FE :: veT := by simp [List.dropWhile_cons]
    rw [dr]
    split at h1
    · rename_i lk
      cases h1
      dsimp only at z
      rw [lk] at z
      rw [← h2]
      exact z
    · cases h1
  · have z := c.sub (.ref C)
    rw [List.contains_cons, beq_self_eq_true, Bool.true_or] at z
    exact z
theorem Cl.kit {K : W.Frag} {C D FE FE' : Addr} (c : Cl K C FE) (d : Cl K D FE') (n : D ≠ C) (nF : D ≠ FE) : W.kitOne K (.ref C) (.ref D) = some false := by
  obtain ⟨cd, h, _, _⟩ := d.cls
  have ne : (Value.ref C == Value.ref D) = false := by simpa using fun z : C = D => n z.symm
  have ne2 : ∀ {A : Addr}, D ≠ A → (Value.ref D == Value.ref A) = false := fun {A} h => by simpa using h
  unfold W.kitOne
  rw [ne, if_neg Bool.false_ne_true]
  show (if ((W.clsIn K D).isSome && W.typeIn K (.ref D) == some (.type "type")) = true then W.subIn K (.ref C) (.ref D) else none) = some false
  rw [h, d.ty, if_pos (by simp), c.sub, List.contains_cons, List.contains_cons, ne2 n, ne2 nF]
  rfl
theorem kit_me {K : W.Frag} {C : Addr} : W.kitOne K (.ref C) (.ref C) = some true := by
  unfold W.kitOne
  rw [beq_self_eq_true, if_pos rfl]
theorem Cl.kitF {K : W.Frag} {C FE : Addr} (c : Cl K C FE) (g : Gen K FE) (n : FE ≠ C) : W.kitOne K (.ref C) (.ref FE) = some true := by
  obtain ⟨cd, h, _⟩ := g.x
  have ne : (Value.ref C == Value.ref FE) = false := by simpa using fun z : C = FE => n z.symm
  unfold W.kitOne
  rw [ne, if_neg Bool.false_ne_true]
  show (if ((W.clsIn K FE).isSome && W.typeIn K (.ref FE) == some (.type "type")) = true then W.subIn K (.ref C) (.ref FE) else none) = some true
  rw [h, g.t, if_pos (by simp), c.sub, List.contains_cons, List.contains_cons, beq_self_eq_true, Bool.true_or, Bool.or_true]
theorem Cl.kitV {K : W.Frag} {C FE : Addr} (c : Cl K C FE) : W.kitOne K (.ref C) (.type "ValueError") = some true := by
  unfold W.kitOne
  rw [if_neg (by intro z; have := beq_iff_eq.mp z; cases this)]
  show (if W.kitMeta "ValueError" = true then W.subIn K (.ref C) (.type "ValueError") else none) = some true
  rw [if_pos (by decide +kernel), c.sub, List.contains_cons, List.contains_cons]
  have : veT.contains (.type "ValueError") = true := by decide +kernel
  rw [this, Bool.or_true, Bool.or_true]
/-- the raw facts, asked one by one at the end -/
structure BadRaw (K : W.Frag) (cB FE : Addr) : Prop where
  g0 : W.nsIn K mainGlobals "BadProgram" = some (some (.ref cB))
  cl : Cl K cB FE
  ge : Gen K FE
  nF : FE ≠ cB
  ini : ∃ (f0 cc cda : Addr) (oc kV doc pm ct cl : Value) (od an cld od2 : Option Addr) (osl csl sl2 : Array (Option Value)) (c2 : Value) (vs : Array Value) (tf : Tok),
    W.findIn K (.ref cB) "__init__" = some (some (.ref f0)) ∧ W.typeIn K (.ref f0) = some (.type "function") ∧
    K.lookup f0 = some ⟨oc, od, .func (W.fnX "__init__" "BadProgram.__init__" (defArgs mBadProgram_init) (defBody mBadProgram_init) (defScope mBadProgram_init) [("__class__", cc)] .none kV doc pm an (.ref cda) ct), osl⟩ ∧
    W.codeIn K (.ref cda) "BadProgram.__init__" = true ∧ K.lookup cc = some ⟨cl, cld, .cell (some (.ref cB)), csl⟩ ∧ K.lookup cda = some ⟨c2, od2, .fields vs, sl2⟩ ∧ vs[2]? = some (.str "/claim/cut.py" tf)
  no : W.findIn K (.ref cB) "line" = some none
  aF : W.nsIn K mainGlobals "FrameError" = some (some (.ref FE))
  zV : W.nsIn K mainGlobals "ValueError" = some none
  zs : W.nsIn K mainGlobals "super" = some none
theorem bad_raw {K : W.Frag} {cB FE : Addr} {nm q : Str} {N : Addr} {bs : List Value} {sn : List Str} {sub : List Value} {ab : Bool} {col : Option Bool} {dd : Option Addr} {k0 k1 k2 k3 k5 : Option Value} {cdF : ClassData} {f0 cc cda : Addr} {oc kV doc pm ct cl : Value} {od an cld od2 : Option Addr} {osl csl sl2 : Array (Option Value)} {c2 : Value} {vs : Array Value} {tf : Tok}
    (g0 : W.nsIn K mainGlobals "BadProgram" = some (some (.ref cB)))
    (aF : W.nsIn K mainGlobals "FrameError" = some (some (.ref FE)))
    (x0 : K.lookup cB = some (excClassObj nm q cB N bs (.ref FE :: veT) true sn sub ab col dd k0 k1 k2 k3 k5 "ValueError.__new__"))
    (sa : W.findIn K (.ref cB) "__setattr__" = some (some (.builtin "object.__setattr__")))
    (ga : W.findIn K (.ref cB) "__getattribute__" = some (some (.builtin "BaseException.__getattribute__")))
    (gg : W.findIn K (.ref cB) "__getattr__" = some none)
    (ca : W.findIn K (.ref cB) "__class__" = some (some (.builtin "object.__class__")))
    (kc : W.keepIn K (.ref cB) = true)
    (gx : W.clsIn K FE = some cdF) (gm : cdF.mro = .ref FE :: veT)
    (gt : W.typeIn K (.ref FE) = some (.type "type"))
    (gi : W.findIn K (.ref FE) "__init__" = some (some (.builtin "ValueError.__init__")))
    (cn : W.specialIn K (.builtin "object.__class__") "__get__" = some (some (.builtin "getset_descriptor.__get__")))
    (ct' : W.takesIn K (.builtin "object.__class__") = some true)
    (op : W.nsIn K cStatics "thirdparty.any" = some none)
    (nF : FE ≠ cB)
    (i0 : W.findIn K (.ref cB) "__init__" = some (some (.ref f0)))
    (ti : W.typeIn K (.ref f0) = some (.type "function"))
    (l0 : K.lookup f0 = some ⟨oc, od, .func (W.fnX "__init__" "BadProgram.__init__" (defArgs mBadProgram_init) (defBody mBadProgram_init) (defScope mBadProgram_init) [("__class__", cc)] .none kV doc pm an (.ref cda) ct), osl⟩)
    (cd : W.codeIn K (.ref cda) "BadProgram.__init__" = true)
    (ce : K.lookup cc = some ⟨cl, cld, .cell (some (.ref cB)), csl⟩)
    (cr : K.lookup cda = some ⟨c2, od2, .fields vs, sl2⟩)
    (v0 : vs[2]? = some (.str "/claim/cut.py" tf))
    (no : W.findIn K (.ref cB) "line" = some none)
    (zV : W.nsIn K mainGlobals "ValueError" = some none)
    (zs : W.nsIn K mainGlobals "super" = some none) : BadRaw K cB FE :=
  ⟨g0, ⟨⟨nm, q, N, bs, sn, sub, ab, col, dd, k0, k1, k2, k3, k5, x0⟩, sa, ga, gg, ca, kc⟩, ⟨⟨cdF, gx, gm⟩, gt, gi, cn, ct', op⟩, nF, ⟨f0, cc, cda, oc, kV, doc, pm, ct, cl, od, an, cld, od2, osl, csl, sl2, c2, vs, tf, i0, ti, l0, cd, ce, cr, v0⟩, no, aF, zV, zs⟩
theorem bad_mk {w : World} {K : W.Frag} {h : Heap} {mg : Str → Option Value} {base : Heap} {cB FE : Addr} (X : K.In h) (G : h.Ns mainGlobals mg) (R : BadRaw K cB FE) : BadDef PP w K mg base cB ∧ FrIs K mg cB FE := by
  have T := R.cl.exk R.ge
  obtain ⟨f0, cc, cda, oc, kV, doc, pm, ct, cl, od, an, cld, od2, osl, csl, sl2, c2, vs, tf, i0, ti0, l0, cd0, ce0, cr0, v0⟩ := R.ini
  have sd : SupDef K mg "BadProgram.__init__" mBadProgram_init cB f0 _ := ⟨⟨_, _, _, _, _, _, _, _, _, _, _, _, _, _, _, _, _, _, _, rfl, l0, cd0, ce0, cr0, v0⟩, W.mg_none_of X G R.zs⟩
  refine ⟨⟨T, W.mg_of X G R.g0, R.no, ?_, ⟨f0, _, i0, ti0, .all (fun us hl => match us, hl with | [_, _], _ => rfl), ok_badP sd T R.no⟩⟩, ⟨W.mg_of X G R.aF, R.cl.kitF R.ge R.nF, R.cl.kitV, W.mg_none_of X G R.zV⟩⟩
  obtain ⟨cd, hc, _, hd⟩ := R.cl.cls
  have e1 : (W.subIn K (.ref cB) (.type "BaseException") == some true) = true := by rw [T.oex.exC] <;> rfl
  have e2 : ((W.clsIn K cB).isSome && W.typeIn K (.ref cB) == some (.type "type")) = true := by rw [hc, T.oex.tyC] <;> rfl
  show (if (W.subIn K (.ref cB) (.type "BaseException") == some true) = true then (if ((W.clsIn K cB).isSome && W.typeIn K (.ref cB) == some (.type "type")) = true then W.subIn K (.ref cB) (.ref cB) else none) else none) = some true
  rw [if_pos e1, if_pos e2]
  exact T.me
end FP
set_option Elab.async false
set_option linter.all false
set_option maxRecDepth 100000
set_option maxHeartbeats 8000000
namespace FP
open PySem PySem.Spec PyProof.Rows L2
theorem lookup_map {β γ : Type} {g : β → γ} : ∀ {l : List (Str × β)} (z : Str), (l.map fun p => (p.1, g p.2)).lookup z = (l.lookup z).map g
  | [], _ => rfl
  | p :: r, z => by
    obtain ⟨a, b⟩ := p
    rw [List.map_cons, List.lookup_cons, List.lookup_cons]
    cases z == a with
    | true => rfl
    | false => exact lookup_map (l := r) z
abbrev P : Program := PP
theorem facts5 {w : World} {K : PySem.W.Frag} {h : Heap} {mg : Str → Option Value} {f : Addr} (X : K.In h) (G : h.Ns mainGlobals mg) (hfa : mg ("law" : Str) = some (.ref f)) (c : obs5 K = val5 w) (lowF : (He.ga K "FORMS" == sysModules) = false) {cB FE : Addr} (BR : BadRaw K cB FE) :
    ∃ fd : FuncData, (∀ (s : Shared) (v : Value), BindsTo s fd ⟨[v], []⟩ [("_law_script", v)]) ∧ ∀ base : Heap, K.In base → base.Ns mainGlobals mg → FnOk P w K mg base CX0 10 f fd ["_law_script"] (spLaw2 K) := by
  have cD : He.SaysD faL fnL K := congrArg (fun z : Al5 => z.1) c
  have cT := congrArg (fun z : Al5 => z.2.1) c
  have cF := congrArg (fun z : Al5 => z.2.2) c
  have e := hfa.symm.trans (He.glo_ok X G (cD.fact 21 (f := .glo "law") rfl))
  cases e
  obtain ⟨fd0, G0⟩ := cD.def_ 0 (d := dd ("is_name", none) "is_name" "is_name" sIsName []) rfl
  have F0 := fun_of (st := sIsName) G0
  obtain ⟨fd1, G1⟩ := cD.def_ 1 (d := dd ("lines_of", none) "lines_of" "lines_of" sLines []) rfl
  have F1 := fun_of (st := sLines) G1
  obtain ⟨fd2, G2⟩ := cD.def_ 2 (d := dd ("fits", none) "fits" "fits" sFits []) rfl
  have F2 := fun_of (st := sFits) G2
  obtain ⟨fd3, G3⟩ := cD.def_ 3 (d := dd ("read_sheet", none) "read_sheet" "read_sheet" sRead []) rfl
  have F3 := fun_of (st := sRead) G3
  obtain ⟨fd4, G4⟩ := cD.def_ 4 (d := dd ("Row", some "__init__") "__init__" "Row.__init__" mRow_init []) rfl
  have F4 := fun_of (st := mRow_init) G4
  obtain ⟨fd5, G5⟩ := cD.def_ 5 (d := dd ("Sheet", some "__init__") "__init__" "Sheet.__init__" mSheet_init []) rfl
  have F5 := fun_of (st := mSheet_init) G5
  obtain ⟨fd6, G6⟩ := cD.def_ 6 (d := dd ("Sheet", some "is_closed") "is_closed" "Sheet.is_closed" mSheet_is_closed []) rfl
  have F6 := fun_of (st := mSheet_is_closed) G6
  obtain ⟨fd7, G7⟩ := cD.def_ 7 (d := dd ("Sheet", some "take_line") "take_line" "Sheet.take_line" mSheet_take_line []) rfl
  have F7 := fun_of (st := mSheet_take_line) G7
  obtain ⟨fd8, G8⟩ := cD.def_ 8 (d := dd ("Sheet", some "find_ways") "find_ways" "Sheet.find_ways" mSheet_find_ways []) rfl
  have F8 := fun_of (st := mSheet_find_ways) G8
  obtain ⟨fd9, G9⟩ := cD.def_ 9 (d := dd ("Sheet", some "_landing") "_landing" "Sheet._landing" mSheet_landing []) rfl
  have F9 := fun_of (st := mSheet_landing) G9
  obtain ⟨fd10, G10⟩ := cD.def_ 10 (d := dd ("Sheet", some "_declare") "_declare" "Sheet._declare" mSheet_declare []) rfl
  have F10 := fun_of (st := mSheet_declare) G10
  obtain ⟨fd11, G11⟩ := cD.def_ 11 (d := dd ("Sheet", some "_take_row") "_take_row" "Sheet._take_row" mSheet_take_row []) rfl
  have F11 := fun_of (st := mSheet_take_row) G11
  obtain ⟨fd12, G12⟩ := cD.def_ 12 (d := dd ("Sheet", some "_is_seen") "_is_seen" "Sheet._is_seen" mSheet_is_seen []) rfl
  have F12 := fun_of (st := mSheet_is_seen) G12
  obtain ⟨fd13, G13⟩ := cD.def_ 13 (d := dd ("Sheet", some "_open_block") "_open_block" "Sheet._open_block" mSheet_open_block []) rfl
  have F13 := fun_of (st := mSheet_open_block) G13
  obtain ⟨fd14, G14⟩ := cD.def_ 14 (d := dd ("Sheet", some "_turn") "_turn" "Sheet._turn" mSheet_turn []) rfl
  have F14 := fun_of (st := mSheet_turn) G14
  obtain ⟨fd15, G15⟩ := cD.def_ 15 (d := dd ("Sheet", some "_close_block") "_close_block" "Sheet._close_block" mSheet_close_block []) rfl
  have F15 := fun_of (st := mSheet_close_block) G15
  obtain ⟨fd16, G16⟩ := cD.def_ 16 (d := dd ("Program", some "__init__") "__init__" "Program.__init__" mProgram_init []) rfl
  have F16 := fun_of (st := mProgram_init) G16
  obtain ⟨fd17, G17⟩ := cD.def_ 17 (d := dd ("Program", some "_hold") "_hold" "Program._hold" mProgram_hold []) rfl
  have F17 := fun_of (st := mProgram_hold) G17
  obtain ⟨fd18, G18⟩ := cD.def_ 18 (d := dd ("_law_begun_pen", none) "_law_begun_pen" "_law_begun_pen" sPen []) rfl
  have F18 := fun_of (st := sPen) G18
  obtain ⟨fd19, G19⟩ := cD.def_ 19 (d := dd ("_law_draw", none) "_law_draw" "_law_draw" sDraw []) rfl
  have F19 := fun_of (st := sDraw) G19
  obtain ⟨fd20, G20⟩ := cD.def_ 20 (d := dd ("_law_pick", none) "_law_pick" "_law_pick" sPick []) rfl
  have F20 := fun_of (st := sPick) G20
  obtain ⟨fd21, G21⟩ := cD.def_ 21 (d := dd ("_law_shuffled", none) "_law_shuffled" "_law_shuffled" sShuf []) rfl
  have F21 := fun_of (st := sShuf) G21
  obtain ⟨fd22, G22⟩ := cD.def_ 22 (d := dd ("_law_new_names", none) "_law_new_names" "_law_new_names" sNames []) rfl
  have F22 := fun_of (st := sNames) G22
  obtain ⟨fd23, G23⟩ := cD.def_ 23 (d := dd ("_law_block_lines", none) "_law_block_lines" "_law_block_lines" qBlockLines []) rfl
  have F23 := fun_of (st := qBlockLines) G23
  obtain ⟨fd24, G24⟩ := cD.def_ 24 (d := dd ("_law_block_size", none) "_law_block_size" "_law_block_size" qBlockSize []) rfl
  have F24 := fun_of (st := qBlockSize) G24
  obtain ⟨fd25, G25⟩ := cD.def_ 25 (d := dd ("_law_new_order", none) "_law_new_order" "_law_new_order" qNewOrder []) rfl
  have F25 := fun_of (st := qNewOrder) G25
  obtain ⟨fd26, G26⟩ := cD.def_ 26 (d := dd ("_law_wide_block", none) "_law_wide_block" "_law_wide_block" qWideBlock []) rfl
  have F26 := fun_of (st := qWideBlock) G26
  obtain ⟨fd27, G27⟩ := cD.def_ 27 (d := dd ("_law_new_program", none) "_law_new_program" "_law_new_program" qNewProgram []) rfl
  have F27 := fun_of (st := qNewProgram) G27
  obtain ⟨fd28, G28⟩ := cD.def_ 28 (d := dd ("_law_is_name", none) "_law_is_name" "_law_is_name" qIsName []) rfl
  have F28 := fun_of (st := qIsName) G28
  obtain ⟨fd29, G29⟩ := cD.def_ 29 (d := dd ("_law_is_deed", none) "_law_is_deed" "_law_is_deed" qIsDeed []) rfl
  have F29 := fun_of (st := qIsDeed) G29
  obtain ⟨fd30, G30⟩ := cD.def_ 30 (d := dd ("_law_line_read", none) "_law_line_read" "_law_line_read" qLineRead []) rfl
  have F30 := fun_of (st := qLineRead) G30
  obtain ⟨fd31, G31⟩ := cD.def_ 31 (d := dd ("_law_wrong_line", none) "_law_wrong_line" "_law_wrong_line" qWrongLine []) rfl
  have F31 := fun_of (st := qWrongLine) G31
  obtain ⟨fd32, G32⟩ := cD.def_ 32 (d := dd ("_law_bent", none) "_law_bent" "_law_bent" qBent []) rfl
  have F32 := fun_of (st := qBent) G32
  obtain ⟨fd33, G33⟩ := cD.def_ 33 (d := dd ("_law_told", none) "_law_told" "_law_told" qTold []) rfl
  have F33 := fun_of (st := qTold) G33
  obtain ⟨fd34, G34⟩ := cD.def_ 34 (d := dd ("_law_hand_right", none) "_law_hand_right" "_law_hand_right" qHandRight []) rfl
  have F34 := fun_of (st := qHandRight) G34
  obtain ⟨fd35, G35⟩ := cD.def_ 35 (d := dd ("law", none) "law" "law" sLaw []) rfl
  have F35 := fun_of (st := sLaw) G35
  have hb : ∀ (s : Shared) (v : Value), BindsTo s fd35 ⟨[v], []⟩ [("_law_script", v)] := fun s v => (FunD.bindsA (ps := ["_law_script"]) G35 fun _ _ _ _ _ _ us hl => match us, hl with | [_], _ => rfl) s [v] rfl
  refine ⟨fd35, hb, fun base _ _ => ?_⟩
  have eW : tupS K (.ref (He.ga K "WORDS")) = some (wordsL.map some) := (List.cons.inj cT).1
  have eT : tupS K (.ref (He.ga K "TWO_SIDED")) = some (twoL.map some) := (List.cons.inj (List.cons.inj cT).2).1
  have eP : tupS K (.ref (He.ga K "PASSED")) = some (passL.map some) := (List.cons.inj (List.cons.inj (List.cons.inj cT).2).2).1
  have eO : tupS K (.ref (He.ga K "OPENING")) = some (openL.map some) := (List.cons.inj (List.cons.inj (List.cons.inj (List.cons.inj cT).2).2).2).1
  have tup : ∀ {a : Addr} {ss : List Str}, tupS K (.ref a) = some (ss.map some) → ∀ H, SqT K H a (ss.map V.str) := fun e => by
    obtain ⟨a', h1, h2⟩ := tupS_ok e
    cases h1
    exact h2
  have B : Blt mg := ⟨(He.free_ok X G (cD.fact 42 (f := .free "int") rfl)), (He.free_ok X G (cD.fact 36 (f := .free "len") rfl)), (He.free_ok X G (cD.fact 43 (f := .free "abs") rfl)), (He.free_ok X G (cD.fact 40 (f := .free "list") rfl))⟩
  have B2 : Blt2 mg := ⟨(He.free_ok X G (cD.fact 36 (f := .free "len") rfl)), (He.free_ok X G (cD.fact 37 (f := .free "all") rfl)), (He.free_ok X G (cD.fact 38 (f := .free "zip") rfl)), (He.free_ok X G (cD.fact 39 (f := .free "enumerate") rfl)), (He.free_ok X G (cD.fact 40 (f := .free "list") rfl)), (He.free_ok X G (cD.fact 41 (f := .free "tuple") rfl))⟩
  have W : WordsAt K mg (He.ga K "WORDS") := ⟨(He.glo_ok X G (cD.fact 31 (f := .glo "WORDS") rfl)), tup eW, (He.int_ok X G (cD.fact 51 (f := .int "LONGEST_NAME" 12) rfl))⟩
  have C : Csts K mg (He.ga K "TWO_SIDED") (He.ga K "PASSED") (He.ga K "OPENING") := ⟨(He.int_ok X G (cD.fact 52 (f := .int "MOST_CELLS" 5) rfl)), (He.int_ok X G (cD.fact 53 (f := .int "MOST_OPEN" 5) rfl)), (He.glo_ok X G (cD.fact 32 (f := .glo "TWO_SIDED") rfl)), tup eT, (He.glo_ok X G (cD.fact 33 (f := .glo "PASSED") rfl)), tup eP, (He.glo_ok X G (cD.fact 34 (f := .glo "OPENING") rfl)), tup eO⟩
  have T : ShTxt K mg (He.ga K "Row") (He.ga K "Sheet") := ⟨(He.cls_ok (cD.fact 23 (f := .cls "Row") rfl)), (He.cls_ok (cD.fact 26 (f := .cls "Sheet") rfl)), (He.glo_ok X G (cD.fact 22 (f := .glo "Row") rfl)), (He.glo_ok X G (cD.fact 25 (f := .glo "Sheet") rfl)), (He.noat_ok (cD.fact 55 (f := .noat "Row" "word") rfl)), (He.noat_ok (cD.fact 56 (f := .noat "Row" "names") rfl)), (He.noat_ok (cD.fact 57 (f := .noat "Row" "after") rfl)), (He.noat_ok (cD.fact 58 (f := .noat "Row" "other") rfl)), (He.noat_ok (cD.fact 59 (f := .noat "Sheet" "rows") rfl)), (He.noat_ok (cD.fact 60 (f := .noat "Sheet" "homes") rfl)), (He.noat_ok (cD.fact 61 (f := .noat "Sheet" "around") rfl)), (He.noat_ok (cD.fact 62 (f := .noat "Sheet" "_nest") rfl))⟩
  have TP : PgTxt K mg (He.ga K "Program") := ⟨(He.cls_ok (cD.fact 29 (f := .cls "Program") rfl)), (He.glo_ok X G (cD.fact 28 (f := .glo "Program") rfl)), (He.noat_ok (cD.fact 63 (f := .noat "Program" "text") rfl)), (He.noat_ok (cD.fact 64 (f := .noat "Program" "cells") rfl)), (He.noat_ok (cD.fact 65 (f := .noat "Program" "sheet") rfl)), (He.int_ok X G (cD.fact 54 (f := .int "MOST_LINES" 40) rfl))⟩
  obtain ⟨lF, hF1, hF2⟩ := Option.map_eq_some_iff.mp cF
  obtain ⟨esF, nF, lkF, rfl⟩ := dictE_ok hF1
  replace hF2 : esF.toList.map (seenE (tupS K)) = (formsL.map fun p => (p.1, some (p.2.map some))).map (wantE w) := hF2.trans (by rw [List.map_map]; rfl)
  have lookF : ∀ z : Str, (formsL.map fun p => (p.1, some (p.2.map some))).lookup z = (formsL.lookup z).map fun l => some (l.map some) := fun z => lookup_map (g := fun l : List Str => some (l.map some)) z
  have FA : FormsAt K w mg (He.ga K "FORMS") esF nF := by
    refine ⟨(He.glo_ok X G (cD.fact 35 (f := .glo "FORMS") rfl)), ⟨lkF, lit_of hF2, lowF⟩, fun z => ?_, fun z form hz => ?_⟩
    · obtain ⟨r, h1, h2⟩ := nsIn_of lkF hF2 z
      refine ⟨r, h1, ?_⟩
      have := congrArg Option.isSome h2
      rw [lookF, Option.isSome_map, Option.isSome_map] at this
      exact this
    · obtain ⟨r, h1, h2⟩ := nsIn_of lkF hF2 z
      rw [lookF, hz] at h2
      obtain ⟨v, rfl, hv⟩ := Option.map_eq_some_iff.mp h2
      obtain ⟨t, rfl, ht⟩ := tupS_ok hv
      exact ⟨t, ⟨esF, nF, _, lkF, lit_of hF2, h1, rfl⟩, ht⟩
  have dIsName : Def P w K mg base "is_name" 1 ["text"] (spIsName) := ⟨_, fd0, (He.glo_ok X G (cD.fact 0 (f := .glo "is_name") rfl)), F0.kp, F0.binds (fun _ _ _ _ _ _ us hl => match us, hl with | [_], _ => rfl), ok_isName F0 B2 W⟩
  have dLines : Def P w K mg base "lines_of" 1 ["text"] (spLines) := ⟨_, fd1, (He.glo_ok X G (cD.fact 1 (f := .glo "lines_of") rfl)), F1.kp, F1.binds (fun _ _ _ _ _ _ us hl => match us, hl with | [_], _ => rfl), ok_lines F1⟩
  have dFits : Def P w K mg base "fits" 1 ["words", "form"] (spFits K) := ⟨_, fd2, (He.glo_ok X G (cD.fact 2 (f := .glo "fits") rfl)), F2.kp, F2.binds (fun _ _ _ _ _ _ us hl => match us, hl with | [_, _], _ => rfl), ok_fits F2 B2⟩
  have cRowI : CDef P w K mg base (He.ga K "Row") 1 ["self", "word", "names", "number"] (spRow (He.ga K "Row")) := ⟨_, fd4, (He.mkr_ok (cD.fact 24 (f := .mkr "Row") rfl)), F4.binds (fun _ _ _ _ _ _ us hl => match us, hl with | [_, _, _, _], _ => rfl), ok_rowInit F4 T⟩
  have mClosed : MDef P w K mg base (He.ga K "Sheet") "is_closed" 1 ["self"] (spClosed (He.ga K "Row") (He.ga K "Sheet")) := ⟨_, fd6, (He.meth_ok (cD.fact 66 (f := .meth "Sheet" "is_closed") rfl)), F6.binds (fun _ _ _ _ _ _ us hl => match us, hl with | [_], _ => rfl), ok_closed F6 T B2⟩
  have mSeen : MDef P w K mg base (He.ga K "Sheet") "_is_seen" 1 ["self", "name"] (spSeen (He.ga K "Row") (He.ga K "Sheet")) := ⟨_, fd12, (He.meth_ok (cD.fact 72 (f := .meth "Sheet" "_is_seen") rfl)), F12.binds (fun _ _ _ _ _ _ us hl => match us, hl with | [_, _], _ => rfl), ok_seen F12 T⟩
  have mOpen : MDef P w K mg base (He.ga K "Sheet") "_open_block" 1 ["self", "number"] (spStep (He.ga K "Row") (He.ga K "Sheet") openM preOpen) := ⟨_, fd13, (He.meth_ok (cD.fact 73 (f := .meth "Sheet" "_open_block") rfl)), F13.binds (fun _ _ _ _ _ _ us hl => match us, hl with | [_, _], _ => rfl), ok_open F13 T C B2⟩
  have mTurn : MDef P w K mg base (He.ga K "Sheet") "_turn" 1 ["self", "number"] (spStep (He.ga K "Row") (He.ga K "Sheet") turnM preTurn) := ⟨_, fd14, (He.meth_ok (cD.fact 74 (f := .meth "Sheet" "_turn") rfl)), F14.binds (fun _ _ _ _ _ _ us hl => match us, hl with | [_, _], _ => rfl), ok_turn F14 T C B2⟩
  have mClose : MDef P w K mg base (He.ga K "Sheet") "_close_block" 1 ["self", "number"] (spStep (He.ga K "Row") (He.ga K "Sheet") closeM preClose) := ⟨_, fd15, (He.meth_ok (cD.fact 75 (f := .meth "Sheet" "_close_block") rfl)), F15.binds (fun _ _ _ _ _ _ us hl => match us, hl with | [_, _], _ => rfl), ok_close F15 T⟩
  have mDecl : MDef P w K mg base (He.ga K "Sheet") "_declare" 3 ["self", "names"] (spDeclare (He.ga K "Row") (He.ga K "Sheet")) := ⟨_, fd10, (He.meth_ok (cD.fact 70 (f := .meth "Sheet" "_declare") rfl)), F10.binds (fun _ _ _ _ _ _ us hl => match us, hl with | [_, _], _ => rfl), ok_declare F10 T C B2 dIsName cRowI⟩
  have mTakeRow : MDef P w K mg base (He.ga K "Sheet") "_take_row" 3 ["self", "word", "words"] (spTakeRow (He.ga K "Row") (He.ga K "Sheet")) := ⟨_, fd11, (He.meth_ok (cD.fact 71 (f := .meth "Sheet" "_take_row") rfl)), F11.binds (fun _ _ _ _ _ _ us hl => match us, hl with | [_, _, _], _ => rfl), ok_takeRow F11 T C B2 FA cRowI mSeen mOpen mTurn mClose⟩
  have mTakeLine : MDef P w K mg base (He.ga K "Sheet") "take_line" 4 ["self", "line"] (spTakeLine (He.ga K "Row") (He.ga K "Sheet")) := ⟨_, fd7, (He.meth_ok (cD.fact 67 (f := .meth "Sheet" "take_line") rfl)), F7.binds (fun _ _ _ _ _ _ us hl => match us, hl with | [_, _], _ => rfl), ok_takeLine F7 T B2 FA dFits mDecl mTakeRow⟩
  have mLand : MDef P w K mg base (He.ga K "Sheet") "_landing" 1 ["self", "number"] (spLand (He.ga K "Row") (He.ga K "Sheet")) := ⟨_, fd9, (He.meth_ok (cD.fact 69 (f := .meth "Sheet" "_landing") rfl)), F9.binds (fun _ _ _ _ _ _ us hl => match us, hl with | [_, _], _ => rfl), ok_land F9 T C B2⟩
  have mWays : MDef P w K mg base (He.ga K "Sheet") "find_ways" 2 ["self"] (spWays (He.ga K "Row") (He.ga K "Sheet")) := ⟨_, fd8, (He.meth_ok (cD.fact 68 (f := .meth "Sheet" "find_ways") rfl)), F8.binds (fun _ _ _ _ _ _ us hl => match us, hl with | [_], _ => rfl), ok_ways F8 T C B2 mLand⟩
  have cSheetI : CDef P w K mg base (He.ga K "Sheet") 3 ["self"] (spSheet (He.ga K "Row") (He.ga K "Sheet")) := ⟨_, fd5, (He.mkr_ok (cD.fact 27 (f := .mkr "Sheet") rfl)), F5.binds (fun _ _ _ _ _ _ us hl => match us, hl with | [_], _ => rfl), ok_sheetInit F5 T cRowI⟩
  obtain ⟨DB, FI⟩ := bad_mk (w := w) (base := base) X G BR
  have dPen : Def P w K mg base "_law_begun_pen" 1 ["_law_script"] (spPen K) := ⟨_, fd18, (He.glo_ok X G (cD.fact 4 (f := .glo "_law_begun_pen") rfl)), F18.kp, F18.binds (fun _ _ _ _ _ _ us hl => match us, hl with | [_], _ => rfl), ok_pen F18 B⟩
  have dDraw : Def P w K mg base "_law_draw" 1 ["_law_pen", "_law_span"] (spDraw) := ⟨_, fd19, (He.glo_ok X G (cD.fact 5 (f := .glo "_law_draw") rfl)), F19.kp, F19.binds (fun _ _ _ _ _ _ us hl => match us, hl with | [_, _], _ => rfl), ok_draw F19 B⟩
  have dPick : Def P w K mg base "_law_pick" 2 ["_law_pen", "_law_options"] (spPick) := ⟨_, fd20, (He.glo_ok X G (cD.fact 6 (f := .glo "_law_pick") rfl)), F20.kp, F20.binds (fun _ _ _ _ _ _ us hl => match us, hl with | [_, _], _ => rfl), ok_pick F20 B dDraw⟩
  have dPickL : Def P w K mg base "_law_pick" 2 ["_law_pen", "_law_options"] (spPickL) := ⟨_, fd20, (He.glo_ok X G (cD.fact 6 (f := .glo "_law_pick") rfl)), F20.kp, F20.binds (fun _ _ _ _ _ _ us hl => match us, hl with | [_, _], _ => rfl), ok_pickL F20 B dDraw⟩
  have dShuf : Def P w K mg base "_law_shuffled" 2 ["_law_pen", "_law_items"] (spShuf) := ⟨_, fd21, (He.glo_ok X G (cD.fact 7 (f := .glo "_law_shuffled") rfl)), F21.kp, F21.binds (fun _ _ _ _ _ _ us hl => match us, hl with | [_, _], _ => rfl), ok_shuf F21 B dDraw⟩
  have dNames : Def P w K mg base "_law_new_names" 3 ["_law_pen", "_law_many"] (spNames) := ⟨_, fd22, (He.glo_ok X G (cD.fact 8 (f := .glo "_law_new_names") rfl)), F22.kp, F22.binds (fun _ _ _ _ _ _ us hl => match us, hl with | [_, _], _ => rfl), ok_names F22 dShuf⟩
  have bdBL : L2.Binds K fd23 ["_law_block"] [] := F23.binds (fun _ _ _ _ _ _ us hl => match us, hl with | [_], _ => rfl)
  have dBL : ∀ d, Def P w K mg base "_law_block_lines" (d) ["_law_block"] (spBL d) := fun d => ⟨_, fd23, (He.glo_ok X G (cD.fact 9 (f := .glo "_law_block_lines") rfl)), F23.kp, bdBL, ok_bl F23 ⟨(He.free_ok X G (cD.fact 36 (f := .free "len") rfl)), (He.free_ok X G (cD.fact 40 (f := .free "list") rfl)), (He.free_ok X G (cD.fact 46 (f := .free "isinstance") rfl)), (He.free_ok X G (cD.fact 47 (f := .free "dict") rfl)), (He.free_ok X G (cD.fact 48 (f := .free "str") rfl))⟩ (He.glo_ok X G (cD.fact 9 (f := .glo "_law_block_lines") rfl)) F23.kp bdBL d⟩
  have dBS : ∀ d, Def P w K mg base "_law_block_size" (d + 1) ["_law_block"] (spBS d) := fun d => ⟨_, fd24, (He.glo_ok X G (cD.fact 10 (f := .glo "_law_block_size") rfl)), F24.kp, F24.binds (fun _ _ _ _ _ _ us hl => match us, hl with | [_], _ => rfl), ok_bs F24 ⟨(He.free_ok X G (cD.fact 36 (f := .free "len") rfl)), (He.free_ok X G (cD.fact 40 (f := .free "list") rfl)), (He.free_ok X G (cD.fact 46 (f := .free "isinstance") rfl)), (He.free_ok X G (cD.fact 47 (f := .free "dict") rfl)), (He.free_ok X G (cD.fact 48 (f := .free "str") rfl))⟩ (dBL d)⟩
  have dNO : Def P w K mg base "_law_new_order" 3 ["_law_pen", "_law_names", "_law_pointed", "_law_left"] (spNO) := ⟨_, fd25, (He.glo_ok X G (cD.fact 11 (f := .glo "_law_new_order") rfl)), F25.kp, F25.binds (fun _ _ _ _ _ _ us hl => match us, hl with | [_, _, _, _], _ => rfl), ok_no F25 dDraw dPick⟩
  have bdWB : L2.Binds K fd26 ["_law_pen", "_law_names", "_law_spare", "_law_pointed", "_law_size", "_law_deep", "_law_left"] [] := F26.binds (fun _ _ _ _ _ _ us hl => match us, hl with | [_, _, _, _, _, _, _], _ => rfl)
  have dWB : ∀ d, Def P w K mg base "_law_wide_block" (d + 3) ["_law_pen", "_law_names", "_law_spare", "_law_pointed", "_law_size", "_law_deep", "_law_left"] (spWB d) := fun d => ⟨_, fd26, (He.glo_ok X G (cD.fact 12 (f := .glo "_law_wide_block") rfl)), F26.kp, bdWB, ok_wb F26 ⟨(He.free_ok X G (cD.fact 49 (f := .free "min") rfl)), (He.free_ok X G (cD.fact 44 (f := .free "range") rfl)), (He.free_ok X G (cD.fact 36 (f := .free "len") rfl))⟩ dDraw dPick dNO (He.glo_ok X G (cD.fact 12 (f := .glo "_law_wide_block") rfl)) F26.kp bdWB d⟩
  have dNP : Def P w K mg base "_law_new_program" 7 ["_law_pen", "_law_many", "_law_size", "_law_loops", "_law_calls"] (spNP) := ⟨_, fd27, (He.glo_ok X G (cD.fact 13 (f := .glo "_law_new_program") rfl)), F27.kp, F27.binds (fun _ _ _ _ _ _ us hl => match us, hl with | [_, _, _, _, _], _ => rfl), ok_np F27 ⟨(He.free_ok X G (cD.fact 49 (f := .free "min") rfl)), (He.free_ok X G (cD.fact 44 (f := .free "range") rfl)), (He.free_ok X G (cD.fact 36 (f := .free "len") rfl))⟩ dDraw dNames (dWB 3) (dBS 3)⟩
  have dReadX : DefX P w K mg base "read_sheet" 5 ["text", "most"] (spReadX cB (He.ga K "Row") (He.ga K "Sheet")) := ⟨_, fd3, (He.glo_ok X G (cD.fact 3 (f := .glo "read_sheet") rfl)), F3.kp, F3.binds (fun _ _ _ _ _ _ us hl => match us, hl with | [_, _], _ => rfl), ok_readX F3 T B2 cSheetI dLines mTakeLine mClosed mWays DB⟩
  have mHold : MDef P w K mg base (He.ga K "Program") "_hold" 1 ["self", "text", "sheet"] (spHold (He.ga K "Program") (He.ga K "Row") (He.ga K "Sheet")) := ⟨_, fd17, (He.meth_ok (cD.fact 76 (f := .meth "Program" "_hold") rfl)), F17.binds (fun _ _ _ _ _ _ us hl => match us, hl with | [_, _, _], _ => rfl), ok_hold F17 TP T B2⟩
  have cProgX : CDefX P w K mg base (He.ga K "Program") 6 ["self", "text"] (spProgX cB (He.ga K "Program") (He.ga K "Row") (He.ga K "Sheet")) := ⟨_, fd16, (He.mkr_ok (cD.fact 30 (f := .mkr "Program") rfl)), F16.binds (fun _ _ _ _ _ _ us hl => match us, hl with | [_, _], _ => rfl), ok_progInitX F16 TP dReadX mHold⟩
  have dTold : Def P w K mg base "_law_told" 8 ["_law_text"] (spTold) := ⟨_, fd33, (He.glo_ok X G (cD.fact 19 (f := .glo "_law_told") rfl)), F33.kp, F33.binds (fun _ _ _ _ _ _ us hl => match us, hl with | [_], _ => rfl), ok_told F33 TP DB FI (He.free_ok X G (cD.fact 46 (f := .free "isinstance") rfl)) cProgX⟩
  have dLN : Def P w K mg base "_law_is_name" 1 ["_law_word"] (spLName) := ⟨_, fd28, (He.glo_ok X G (cD.fact 14 (f := .glo "_law_is_name") rfl)), F28.kp, F28.binds (fun _ _ _ _ _ _ us hl => match us, hl with | [_], _ => rfl), ok_lname F28 ⟨(He.free_ok X G (cD.fact 36 (f := .free "len") rfl)), (He.free_ok X G (cD.fact 40 (f := .free "list") rfl)), (He.free_ok X G (cD.fact 46 (f := .free "isinstance") rfl)), (He.free_ok X G (cD.fact 47 (f := .free "dict") rfl)), (He.free_ok X G (cD.fact 48 (f := .free "str") rfl))⟩⟩
  have dLD : Def P w K mg base "_law_is_deed" 1 ["_law_words", "_law_seen"] (spLDeed) := ⟨_, fd29, (He.glo_ok X G (cD.fact 15 (f := .glo "_law_is_deed") rfl)), F29.kp, F29.binds (fun _ _ _ _ _ _ us hl => match us, hl with | [_, _], _ => rfl), ok_ldeed F29 ⟨(He.free_ok X G (cD.fact 36 (f := .free "len") rfl)), (He.free_ok X G (cD.fact 40 (f := .free "list") rfl)), (He.free_ok X G (cD.fact 46 (f := .free "isinstance") rfl)), (He.free_ok X G (cD.fact 47 (f := .free "dict") rfl)), (He.free_ok X G (cD.fact 48 (f := .free "str") rfl))⟩⟩
  have dLR : Def P w K mg base "_law_line_read" 2 ["_law_words", "_law_blocks", "_law_every", "_law_is_first"] (spLR) := ⟨_, fd30, (He.glo_ok X G (cD.fact 16 (f := .glo "_law_line_read") rfl)), F30.kp, F30.binds (fun _ _ _ _ _ _ us hl => match us, hl with | [_, _, _, _], _ => rfl), ok_lr F30 ⟨(He.free_ok X G (cD.fact 36 (f := .free "len") rfl)), (He.free_ok X G (cD.fact 40 (f := .free "list") rfl)), (He.free_ok X G (cD.fact 46 (f := .free "isinstance") rfl)), (He.free_ok X G (cD.fact 47 (f := .free "dict") rfl)), (He.free_ok X G (cD.fact 48 (f := .free "str") rfl))⟩ (He.free_ok X G (cD.fact 50 (f := .free "sum") rfl)) dLN dLD⟩
  have dWL : Def P w K mg base "_law_wrong_line" 3 ["_law_text"] (spWL) := ⟨_, fd31, (He.glo_ok X G (cD.fact 17 (f := .glo "_law_wrong_line") rfl)), F31.kp, F31.binds (fun _ _ _ _ _ _ us hl => match us, hl with | [_], _ => rfl), ok_wl F31 ⟨(He.free_ok X G (cD.fact 36 (f := .free "len") rfl)), (He.free_ok X G (cD.fact 40 (f := .free "list") rfl)), (He.free_ok X G (cD.fact 46 (f := .free "isinstance") rfl)), (He.free_ok X G (cD.fact 47 (f := .free "dict") rfl)), (He.free_ok X G (cD.fact 48 (f := .free "str") rfl))⟩ (He.free_ok X G (cD.fact 39 (f := .free "enumerate") rfl)) dLR⟩
  have dBent : Def P w K mg base "_law_bent" 3 ["_law_pen", "_law_text", "_law_odd"] (spBent) := ⟨_, fd32, (He.glo_ok X G (cD.fact 18 (f := .glo "_law_bent") rfl)), F32.kp, F32.binds (fun _ _ _ _ _ _ us hl => match us, hl with | [_, _, _], _ => rfl), ok_bent F32 (He.free_ok X G (cD.fact 42 (f := .free "int") rfl)) (He.free_ok X G (cD.fact 36 (f := .free "len") rfl)) dDraw dPickL⟩
  have dHand : Def P w K mg base "_law_hand_right" 9 [] spHand := ⟨_, fd34, (He.glo_ok X G (cD.fact 20 (f := .glo "_law_hand_right") rfl)), F34.kp, F34.binds (fun _ _ _ _ _ _ us hl => match us, hl with | [], _ => rfl), ok_hand F34 dTold⟩
  exact ok_law2 F35 (He.free_ok X G (cD.fact 45 (f := .free "repr") rfl)) (He.free_ok X G (cD.fact 44 (f := .free "range") rfl)) ⟨dPen, dDraw, dNP, dBL 3, dHand, dTold, dWL, dBent⟩
end FP
set_option Elab.async false

open PySem PySem.W PyProof.Rows in
set_option maxRecDepth 100000 in
set_option maxHeartbeats 0 in
theorem PySem.Challenge.cw_frameplaces_k02_programs_refused_holds : PySem.Challenge.rw_frameplaces_k02_programs_refused.Holds := by
  w_on; o_law; k_head; (case hw => w_witness2)
  k_fill
  refine L2.walk_ofK (l := PySem.Challenge.rw_frameplaces_k02_programs_refused) (n := 63) (k := 10) (CX := L2.CX0) (sp := fun K => FP.spLaw2 K) (x := "_law_script") rfl (by decide) rfl ⟨rfl, by decide, by decide⟩ (fun w h Y => PySem.W.kIn_of Y) ?F ?S ?X
  case F =>
    intro w mg fa h KX G hmg
    refine' FP.facts5 KX G hmg (by kernel_rfl) (by kernel_rfl) (FP.bad_raw ?fq_g0 ?fq_aF ?fq_x0 ?fq_sa ?fq_ga ?fq_gg ?fq_ca ?fq_kc ?fq_gx ?fq_gm ?fq_gt ?fq_gi ?fq_cn ?fq_ct ?fq_op ?fq_nF ?fq_i0 ?fq_ti ?fq_l0 ?fq_cd ?fq_ce ?fq_cr ?fq_v0 ?fq_no ?fq_zV ?fq_zs)
    (case fq_g0 => k_is)
    (case fq_aF => k_is)
    (case fq_x0 => k_is)
    (case fq_sa => k_is)
    (case fq_ga => k_is)
    (case fq_gg => k_is)
    (case fq_ca => k_is)
    (case fq_kc => k_is)
    (case fq_gx => k_is)
    (case fq_gm => rfl)
    (case fq_gt => k_is)
    (case fq_gi => k_is)
    (case fq_cn => k_is)
    (case fq_ct => k_is)
    (case fq_op => k_is)
    (case fq_nF => decide)
    (case fq_i0 => k_is)
    (case fq_ti => k_is)
    (case fq_l0 => k_is)
    (case fq_cd => k_is)
    (case fq_ce => k_is)
    (case fq_cr => k_is)
    (case fq_v0 => rfl)
    (case fq_no => k_is)
    (case fq_zV => k_is)
    (case fq_zs => k_is)
  case S =>
    intro K H a ns hl hO hS
    exact ⟨a, ns, rfl, hS, hl, fun _ => rfl⟩
  case X =>
    intro H s e s' z
    exact z
