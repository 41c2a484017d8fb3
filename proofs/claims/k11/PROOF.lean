import PyProof.Rows.All
import Wide.All
import OpenK.AllK
import Wide.FinOn
import HandS.ForMost
import HandS.Walk
import HandS.Wide
import HandS.IsInst
import HandS.Codes
import HandS.RaiseMore
import HandS.Defaults
import HandS.Head0
import HandS.Head1
import HandS.Head2
import HandS.HeadEnd
import HandS.HeadHook1
import HandS.HeadHook2
import HandS.HeadHook3
import HandS.HeadHook4
import KE.KStateDown
import Lean
import PySem.Challenge.RW_walkbox_k11_names_and_words
set_option Elab.async false
set_option linter.all false
set_option maxRecDepth 100000
/-! own layer: defs by name, a pot of digits, two further rules -/
namespace Gj
open PySem PySem.Spec PyProof.Rows L2
open C8 (Cal pe_c pe_gc)
/-- the def st stands at the module's name x -/
def DefAt (K : PySem.W.Frag) (mg : Str → Option Value) (x : Str) (st : Stmt) : Prop := ∃ f fd, Fun K x x st f fd ∧ mg x = some (.ref f)
section
variable {P : Program} {w : World} {K : PySem.W.Frag} {mg : Str → Option Value} {base : Heap}
theorem mkCal {x : Str} {st : Stmt} {N ps : List Str} {k : Nat} {sp : Sp} (D : DefAt K mg x st)
    (hb : ∀ (kV doc pm : Value) (an : Option Addr) (cdv ct : Value) (us : List Value), us.length = ps.length → bindArgs (PySem.W.fnOf x x (defArgs st) (defBody st) (defScope st) .none kV doc pm an cdv ct) ⟨us, []⟩ = pure (ps.zip us))
    (S : FnScope N ps (defScope st)) (len : ∀ vs H Q E, sp vs H Q E → vs.length = ps.length)
    (hbody : ∀ (f : Addr) (cdv : Value) (A : Around) (outer : List Env) (s : Shared) (H : Hp) (vs : List V) (Q : VK) (E : XK), Room k (A.deeper (envOfC x (defScope st) s.heap.objs.size f cdv)) → sp vs H Q E →
      ∃ t, PSs (cxOf CX0 P w K mg base N x (defScope st) f cdv A outer s H E).nox (defBody st) t ∧ t { nx := fun _ H' => Q .non H', rt := Q } (start N vs) H) : C8.Cal P w K mg base (k + 1) x sp [] := by
  obtain ⟨f, fd, F, g⟩ := D
  exact ⟨f, fd, ps, [], F.ok S len (hbody f), g, F.kp, F.binds hb, .nil⟩
end
/-! ### two rules -/
section
variable {X : Cx}
theorem call_repr_bool : CallR X (.builtin "repr") (fun xs H Q => ∃ b, xs = [.bl b] ∧ Q (.str (if b then "True" else "False")) H) := by
  intro pins s σ H xs us Q I r h
  obtain ⟨b, rfl, q⟩ := h
  obtain ⟨u, rfl, rfl⟩ := vals1 r
  exact PySem.P.repr_of_bool ⟨.str _, H, I.tok _, ⟨_, rfl⟩, q⟩
theorem op_mul_str : OpR X (binaryOp .Mult) (fun x y H Q => ∃ z n, x = .str z ∧ y = .int n ∧ MulOk z n ∧ Q (.str (Txt.mul z n)) H) := by
  intro pins s σ H x y v u Q I rx ry h
  obtain ⟨z, n, rfl, rfl, hz, q⟩ := h
  obtain ⟨t, rfl⟩ := rx
  obtain ⟨t', rfl⟩ := ry
  exact PySem.SB.mul hz fun t' k => ⟨.str _, H, I.tok _, ⟨_, rfl⟩, q⟩
end
/-! ### heaps but for one place -/
def Keep (p : Addr) (H H' : Hp) : Prop := ∀ b o, b ≠ p → H b = some o → H' b = some o
theorem Keep.refl {p : Addr} {H : Hp} : Keep p H H := fun _ _ _ h => h
theorem Keep.trans {p : Addr} {H H1 H2 : Hp} (a : Keep p H H1) (b : Keep p H1 H2) : Keep p H H2 := fun c o n h => b c o n (a c o n h)
theorem Keep.here {p : Addr} {H : Hp} {o : HO} : Keep p H (upd H p o) := fun b x n e => by rw [upd_ne n]; exact e
theorem Same.keep {p : Addr} {H H' : Hp} (a : Same H H') : Keep p H H' := fun b o _ h => a b o h
theorem same_new {H : Hp} {p : Addr} {o : HO} (h : H p = none) : Same H (upd H p o) := fun b x e => by rw [upd_ne (ne_of_none e h)]; exact e
theorem Keep.new {p q : Addr} {H : Hp} {o : HO} (h : H q = none) : Keep p H (upd H q o) := Same.keep (same_new h)
/-! ### a pot of digits -/
def Pot (H : Hp) (p : Addr) : Prop := ∃ a b : Int, H p = some (.lst [.int a, .int b]) ∧ 0 ≤ a ∧ 0 ≤ b ∧ b < 4294967296
theorem Pot.new {H : Hp} {p q : Addr} {o : HO} (h : Pot H p) (n : H q = none) : Pot (upd H q o) p := by
  obtain ⟨a, b, e, r⟩ := h
  exact ⟨a, b, by rw [upd_ne (ne_of_none e n)]; exact e, r⟩
theorem Pot.ne {H : Hp} {p q : Addr} (h : Pot H p) (n : H q = none) : q ≠ p := by
  obtain ⟨a, b, e, r⟩ := h
  exact (ne_of_none e n).symm
theorem Pot.put {H : Hp} {p : Addr} {a b : Int} (h0 : 0 ≤ a) (h1 : 0 ≤ b) (h2 : b < 4294967296) : Pot (upd H p (.lst [.int a, .int b])) p := ⟨a, b, upd_same, h0, h1, h2⟩
/-- what a def that draws of a pot leaves: the pot, and all else as it was -/
structure Drawn (p : Addr) (H H' : Hp) : Prop where
  keep : Keep p H H'
  pot : Pot H' p
theorem Drawn.trans {p : Addr} {H H1 H2 : Hp} (a : Drawn p H H1) (b : Drawn p H1 H2) : Drawn p H H2 := ⟨a.keep.trans b.keep, b.pot⟩
theorem Drawn.new {p q : Addr} {H H' : Hp} {o : HO} (a : Drawn p H H') (h : H' q = none) : Drawn p H (upd H' q o) := ⟨a.keep.trans (Keep.new h), a.pot.new h⟩
def spDigit : Sp := fun vs H Q _ => ∃ (p : Addr) (n : Int), vs = [.ref p, .int n] ∧ Pot H p ∧ 0 < n ∧ n.natAbs.log2 < 9000 ∧ ∀ (d : Int) (H' : Hp), 0 ≤ d → d < n → Drawn p H H' → Q (.int d) H'
def spPot (K : PySem.W.Frag) : Sp := fun vs H Q _ => ∃ (a : Addr) (ns : List Int) (k : Int), vs = [.ref a, .int k] ∧ SqL K H a (ns.map V.int) ∧ 0 ≤ k ∧ k ≤ 1000000 ∧ ∀ (p : Addr) (H' : Hp), H p = none → Same H H' → Pot H' p → Q (.ref p) H'
end Gj

namespace Gj
open PySem PySem.Spec PyProof.Rows L2
open C8 (Cal pe_c pe_gc)
def topS (i : Nat) : Stmt := PySem.Challenge.pw_walkbox_k11_names_and_words.main.body.getD i (.Pass ⟨0, 0, 0, 0⟩)
section
variable {P : Program} {w : World} {K : PySem.W.Frag} {mg : Str → Option Value} {base : Heap}
/-! ### _law_digit -/
theorem scDigit : FnScope ["_law_pot_here", "_law_many", "_law_digit_here"] ["_law_pot_here", "_law_many"] (defScope (topS 8)) := ⟨rfl, rfl, rfl, by decide +kernel, rfl, by decide +kernel, by decide +kernel⟩
theorem ok_digit (D : DefAt K mg "_law_digit" (topS 8)) : Cal P w K mg base 1 "_law_digit" spDigit [] := by
  have sc := scDigit
  refine mkCal D (fun _ _ _ _ _ _ us hl => match us, hl with | [_, _], _ => rfl) sc (fun vs H Q E h => ?_) (fun f cdv A outer s H vs Q E hr h => ?_)
  · obtain ⟨p, n, rfl, _⟩ := h
    rfl
  · obtain ⟨p, n, rfl, ⟨a, b, ep, ha, hb, hb2⟩, hn, hn2, q⟩ := h
    refine ⟨_, (pss_cons (ps_if (pt_cmpR op_gt (pe_ix ix_list (pv 0) pe_int (fun _ _ => rfl)) pe_int (nomark _))
  (pss_cons (ps_set (i := 2) sc.nd rfl (.inl rfl) (pe_op op_mod (pe_ix ix_list (pv 0) pe_int (fun _ _ => rfl)) (pv 1)))
  (pss_cons (ps_asg (pe_op op_fdivW (pe_ix ix_list (pv 0) pe_int (fun _ _ => rfl)) (pv 1)) (pg_sub (pv 0) pe_int set_list))
  (pss_one (ps_ret (pv 2)))))
  pss_nil)
  (pss_cons (ps_asg (pe_op op_mod (pe_op op_add (pe_op op_mul (pe_ix ix_list (pv 0) pe_int (fun _ _ => rfl)) pe_int) pe_int) pe_int) (pg_sub (pv 0) pe_int set_list))
  (pss_one (ps_ret (pe_op op_mod (pe_op op_fdivW (pe_op op_mod (pe_op op_mul (pe_ix ix_list (pv 0) pe_int (fun _ _ => rfl)) (pe_ix ix_list (pv 0) pe_int (fun _ _ => rfl))) pe_int) pe_int) (pv 1)))))), ?_⟩
    have g0 : ∀ {x y : V}, atI [x, y] 0 = some x := fun {x y} => rfl
    have g1 : ∀ {x y : V}, atI [x, y] 1 = some y := fun {x y} => rfl
    refine ⟨_, rfl, p, _, 0, _, rfl, rfl, SqL.of ep, g0, _, _, rfl, rfl, _, rfl, ite2 (fun c => ?_) (fun c => ?_)⟩
    · have c : 0 < a := of_decide_eq_true c
      refine ⟨_, rfl, p, _, 0, _, rfl, rfl, SqL.of ep, g0, _, rfl, _, _, rfl, rfl, hn, ?_⟩
      refine ⟨_, rfl, p, _, 0, _, rfl, rfl, SqL.of ep, g0, _, rfl, _, _, rfl, rfl, ⟨hn, hn2⟩, ?_⟩
      refine ⟨_, rfl, p, _, 0, 0, rfl, rfl, ep, rfl, _, rfl, ?_⟩
      exact q _ _ (Int.emod_nonneg _ (by omega)) (Int.emod_lt_of_pos _ hn) ⟨Keep.here, Pot.put (Int.ediv_nonneg ha (by omega)) hb hb2⟩
    · refine ⟨_, rfl, p, _, 1, _, rfl, rfl, SqL.of ep, g1, _, _, rfl, rfl, .inl ⟨by omega, by omega⟩, _, _, rfl, rfl, _, _, rfl, rfl, (by decide : (0 : Int) < 2147483647), ?_⟩
      have h1 : 0 ≤ (b * 39373 + 20011) % 2147483647 := Int.emod_nonneg _ (by decide)
      have h2 : (b * 39373 + 20011) % 2147483647 < 2147483647 := Int.emod_lt_of_pos _ (by decide)
      refine ⟨_, rfl, p, _, 1, 1, rfl, rfl, ep, rfl, ?_⟩
      refine ⟨_, rfl, p, _, 1, _, rfl, rfl, SqL.of upd_same, g1, _, rfl, p, _, 1, _, rfl, rfl, SqL.of upd_same, g1, _, _, rfl, rfl, .inl ⟨by omega, by omega⟩, _, _, rfl, rfl, (by decide : (0 : Int) < 2147483563), _, _, rfl, rfl, ⟨by decide, by decide⟩, _, rfl, _, _, rfl, rfl, hn, ?_⟩
      exact q _ _ (Int.emod_nonneg _ (by omega)) (Int.emod_lt_of_pos _ hn) ⟨Keep.here, Pot.put ha h1 (by omega)⟩
end
end Gj

namespace Gj
open PySem PySem.Spec PyProof.Rows L2
open C8 (Cal pe_c pe_gc)
structure Mg (mg : Str → Option Value) : Prop where
  len : mg "len" = none
  isinstance : mg "isinstance" = none
  str : mg "str" = none
  all : mg "all" = none
  max : mg "max" = none
  min : mg "min" = none
  abs : mg "abs" = none
  range : mg "range" = none
  int : mg "int" = none
  repr : mg "repr" = none
/-! ### texts of signs -/
def isTxt (z signs : Str) (most : Int) : Bool := decide (1 ≤ (z.length : Int)) && (decide ((z.length : Int) ≤ most) && (z.cps.toList.map fun c => decide (c ∈ signs.cps.toList)).all id)
def NoStr (K : PySem.W.Frag) (H : Hp) (x : V) : Prop := ∃ t, TyX K H x t ∧ PySem.W.kitOne K t (.type "str") = some false
def spTextOf (K : PySem.W.Frag) : Sp := fun vs H Q _ => ∃ (x : V) (signs : Str) (most : Int), vs = [x, .str signs, .int most] ∧ ((∃ z, x = .str z ∧ z.length ≤ 1000 ∧ ∀ H', Same H H' → Q (.bl (isTxt z signs most)) H') ∨ (NoStr K H x ∧ Q (.bl false) H))
section
variable {P : Program} {w : World} {K : PySem.W.Frag} {mg : Str → Option Value} {base : Heap}
theorem take_snoc {α : Type} {l : List α} {i : Nat} {x : α} (h : l[i]? = some x) : l.take (i + 1) = l.take i ++ [x] := by
  rw [List.take_add_one, h]
  rfl
theorem scPot : FnScope ["_law_script", "_law_k", "_law_cell"] ["_law_script", "_law_k"] (defScope (topS 7)) := ⟨rfl, rfl, rfl, by decide +kernel, rfl, by decide +kernel, by decide +kernel⟩
theorem ok_pot (D : DefAt K mg "_law_pot" (topS 7)) (m : Mg mg) : Cal P w K mg base 1 "_law_pot" (spPot K) [] := by
  have sc := scPot
  refine mkCal D (fun _ _ _ _ _ _ us hl => match us, hl with | [_, _], _ => rfl) sc (fun vs H Q E h => ?_) (fun f cdv A outer s H vs Q E hr h => ?_)
  · obtain ⟨a, ns, k, rfl, _⟩ := h
    rfl
  · obtain ⟨a, ns, k, rfl, hS, hk, hk2, q⟩ := h
    refine ⟨_, (pss_cons (ps_set (i := 2) sc.nd rfl (.inl rfl) (pe_ifExp (pt_cmpR op_lt (pv 1) (pe_callB call_len (by rfl) m.len (by decide +kernel) (pa_cons (pv 0) pa_nil)) (nomark _)) (pe_ix ix_list (pv 0) (pv 1) (fun _ _ => rfl)) pe_int))
  (pss_one (ps_ret (pe_lst (pa_cons (pe_callB (call_max2 rfl) (by rfl) m.max (by decide +kernel) (pa_cons pe_int (pa_cons (pe_op op_sub (pe_callB call_abs (by rfl) m.abs (by decide +kernel) (pa_cons (pv 2) pa_nil)) (pe_op op_pow pe_int pe_int)) pa_nil))) (pa_cons (pe_op op_add (pe_op op_add (pe_op op_mod (pe_callB call_abs (by rfl) m.abs (by decide +kernel) (pa_cons (pv 2) pa_nil)) pe_int) (pe_op op_mul pe_int (pv 1))) pe_int) pa_nil)))))), ?_⟩
    have c18 : CPow 10 18 := ⟨by decide, by decide, by decide⟩
    refine ⟨_, rfl, _, rfl, _, _, rfl, .inl ⟨_, hS, rfl⟩, _, _, rfl, rfl, _, rfl, ite2 (fun c => ?_) (fun c => ?_)⟩
    · have c : k < ((ns.map V.int).length : Int) := of_decide_eq_true c
      have hi : k.toNat < ns.length := by rw [List.length_map] at c; omega
      have g : atI (ns.map V.int) k = some (.int ns[k.toNat]) := at_of (j := k.toNat) (by omega) (by rw [List.getElem?_map, List.getElem?_eq_getElem hi]; rfl)
      refine ⟨_, rfl, _, rfl, a, _, k, _, rfl, rfl, hS, g, ?_⟩
      refine ⟨_, rfl, _, rfl, _, _, rfl, rfl, c18, _, _, rfl, rfl, _, _, rfl, _, rfl, _, rfl, _, _, rfl, rfl, (by decide : (0 : Int) < 2147483587), _, rfl, _, _, rfl, rfl, .inl ⟨by decide, by decide⟩, _, _, rfl, rfl, _, _, rfl, rfl, (by show 2 ≤ sizeLine; decide), fun p hp => q p _ hp (same_new hp) ⟨_, _, upd_same, ?_, ?_, ?_⟩⟩
      · split <;> omega
      · have := Int.emod_nonneg (if ns[k.toNat] < 0 then -ns[k.toNat] else ns[k.toNat]) (show (2147483587 : Int) ≠ 0 by decide)
        omega
      · have := Int.emod_lt_of_pos (if ns[k.toNat] < 0 then -ns[k.toNat] else ns[k.toNat]) (show (0 : Int) < 2147483587 by decide)
        omega
    · refine ⟨_, rfl, _, rfl, _, _, rfl, rfl, c18, _, _, rfl, rfl, _, _, rfl, _, rfl, _, rfl, _, _, rfl, rfl, (by decide : (0 : Int) < 2147483587), _, rfl, _, _, rfl, rfl, .inl ⟨by decide, by decide⟩, _, _, rfl, rfl, _, _, rfl, rfl, (by show 2 ≤ sizeLine; decide), fun p hp => q p _ hp (same_new hp) ⟨_, _, upd_same, ?_, ?_, ?_⟩⟩
      · split <;> omega
      · have : (if (0 : Int) < 0 then -0 else 0) % 2147483587 = (0 : Int) := by decide
        omega
      · have : (if (0 : Int) < 0 then -0 else 0) % 2147483587 = (0 : Int) := by decide
        omega
theorem scTextOf : FnScope ["thing", "signs", "most", "sign"] ["thing", "signs", "most"] (defScope (topS 3)) := ⟨rfl, rfl, rfl, by decide +kernel, rfl, by decide +kernel, by decide +kernel⟩
theorem ok_text_of (D : DefAt K mg "is_text_of" (topS 3)) (m : Mg mg) : Cal P w K mg base 1 "is_text_of" (spTextOf K) [] := by
  have sc := scTextOf
  refine mkCal D (fun _ _ _ _ _ _ us hl => match us, hl with | [_, _, _], _ => rfl) sc (fun vs H Q E h => ?_) (fun f cdv A outer s H vs Q E hr h => ?_)
  · obtain ⟨x, z, mo, rfl, _⟩ := h
    rfl
  · obtain ⟨x, signs, most, rfl, h⟩ := h
    refine ⟨_, (pss_one (ps_ret (pe_and (pe_callB call_isi (by rfl) m.isinstance (by decide +kernel) (pa_cons (pv 0) (pa_cons (pe_bltn (v := .ty "str") (by rfl) m.str (by decide +kernel) rfl) pa_nil))) (pe_and (pe_chain op_le op_le pe_int (pe_callB call_len (by rfl) m.len (by decide +kernel) (pa_cons (pv 0) pa_nil)) (pv 2)) (pe_one (pe_callB (cr_all rfl) (by rfl) m.all (by decide +kernel) (pa_cons (pe_lc (own := [("sign", 3)]) (g := gName 3) (tt := tYes) rfl sc.nd (pi_str (pv 0)) (blkOk_by (N := ["thing", "signs", "most", "sign"]) (sc := defScope (topS 3)) (by decide +kernel)) (fun _ _ _ _ _ => (pg_name (i := 3) sc.nd rfl (.inl rfl))) (fun _ _ _ _ _ => pts_nil) (fun _ _ _ _ _ => (pe_cmpR op_in_sign (pv 3) (pv 1) rfl))) pa_nil))))))), ?_⟩
    rcases h with ⟨z, rfl, hz, q⟩ | ⟨⟨t, ty, kt⟩, q⟩
    · refine ⟨_, rfl, _, _, _, _, true, rfl, .ty "str", .base (.str z), kit_ty (by decide +kernel), true, rfl, iteT ?_⟩
      have hz2 : z.length ≤ sizeLine := Nat.le_of_lt (small1000 hz)
      refine ⟨_, rfl, _, _, rfl, ⟨hz2, rfl⟩, _, _, rfl, rfl, _, rfl, ite2 (fun c => ?_) (fun c => ?_)⟩
      · have c := of_decide_eq_true c
        refine ⟨_, rfl, _, _, rfl, rfl, _, rfl, ite2 (fun c2 => ?_) (fun c2 => ?_)⟩
        · have c2 := of_decide_eq_true c2
          refine ⟨_, rfl, z, rfl, fun D hD => ?_⟩
          refine lc_it walk_str (Pv := fun i H' => Same H H' ∧ H' D = some (.lst (((z.cps.toList.take i).map fun c => decide (c ∈ signs.cps.toList)).map V.bl))) ⟨same_new hD, upd_same⟩ (fun _ _ _ _ => trivial) (fun i x H1 H2 hi hp hy => ?_) (fun H1 hp => ?_)
          · obtain ⟨rfl, ch, ec, rfl⟩ := hy
            obtain ⟨sm, eD⟩ := hp
            refine ⟨rfl, ?_⟩
            refine ⟨_, rfl, _, rfl, ch, signs, rfl, rfl, _, eD, ?_, fun b o e => ?_, ?_⟩
            · rw [List.length_map, List.length_map, List.length_take]
              have : z.cps.toList.length = z.length := rfl
              exact small1000 (by omega)
            · rw [upd_ne (ne_of_none e hD)]
              exact sm b o e
            · have ec2 : z.cps.toList[i]? = some ch := by rw [Array.getElem?_toList]; exact ec
              rw [upd_same, take_snoc ec2, List.map_append, List.map_append]
              rfl
          · obtain ⟨sm, eD⟩ := hp
            refine ⟨D, _, rfl, SqL.of eD, ?_⟩
            have e1 : isTxt z signs most = (((z.cps.toList.take z.cps.size).map fun c => decide (c ∈ signs.cps.toList)).all id) := by
              unfold isTxt
              rw [decide_eq_true c, decide_eq_true c2, show z.cps.toList.take z.cps.size = z.cps.toList from List.take_of_length_le (Nat.le_refl _)]
              rfl
            rw [← e1]
            exact q H1 sm
        · have c2 : ¬ ((z.length : Int) ≤ most) := fun h => c2 (decide_eq_true h)
          have e1 : isTxt z signs most = false := by
            unfold isTxt
            rw [decide_eq_false c2, Bool.false_and, Bool.and_false]
          have := q H (Same.refl H)
          rw [e1] at this
          exact this
      · have c : ¬ (1 ≤ (z.length : Int)) := fun h => c (decide_eq_true h)
        have e1 : isTxt z signs most = false := by
          unfold isTxt
          rw [decide_eq_false c, Bool.false_and]
        have := q H (Same.refl H)
        rw [e1] at this
        exact ⟨_, rfl, iteF this⟩
    · refine ⟨_, rfl, _, _, _, _, false, rfl, .ty "str", ty, kt, false, rfl, iteF q⟩
end
end Gj

namespace Gj
open PySem PySem.Spec PyProof.Rows L2
open C8 (Cal pe_c pe_gc)
abbrev sLetters : Str := "abcdefghijklmnopqrstuvwxyz"
abbrev sFigures : Str := "0123456789"
structure Gs (mg : Str → Option Value) : Prop where
  LETTERS : ∃ u, mg "LETTERS" = some u ∧ RelV (.str sLetters) u
  FIGURES : ∃ u, mg "FIGURES" = some u ∧ RelV (.str sFigures) u
/-- whether it is a text of these signs, of one argument -/
def spIs (K : PySem.W.Frag) (signs : Str) (most : Int) : Sp := fun vs H Q _ => ∃ x : V, vs = [x] ∧ ((∃ z, x = .str z ∧ z.length ≤ 1000 ∧ ∀ H', Same H H' → Q (.bl (isTxt z signs most)) H') ∨ (NoStr K H x ∧ Q (.bl false) H))
section
variable {P : Program} {w : World} {K : PySem.W.Frag} {mg : Str → Option Value} {base : Heap}
theorem scIsName : FnScope ["thing"] ["thing"] (defScope (topS 4)) := ⟨rfl, rfl, rfl, by decide +kernel, rfl, by decide +kernel, by decide +kernel⟩
theorem ok_is_name (D : DefAt K mg "is_name" (topS 4)) (gs : Gs mg) (c_is_text_of : Cal P w K mg base 1 "is_text_of" (spTextOf K) []) : Cal P w K mg base 2 "is_name" (spIs K sLetters 8) [] := by
  have sc := scIsName
  refine mkCal D (fun _ _ _ _ _ _ us hl => match us, hl with | [_], _ => rfl) sc (fun vs H Q E h => ?_) (fun f cdv A outer s H vs Q E hr h => ?_)
  · obtain ⟨x, rfl, _⟩ := h
    rfl
  · obtain ⟨x, rfl, h⟩ := h
    refine ⟨_, (pss_one (ps_ret (pe_c c_is_text_of hr (by decide) (by rfl) (pa_cons (pv 0) (pa_cons (pe_gc (by rfl) gs.LETTERS) (pa_cons pe_int pa_nil)))))), ?_⟩
    exact ⟨_, rfl, x, _, _, rfl, h⟩
theorem scIsWord : FnScope ["thing"] ["thing"] (defScope (topS 5)) := ⟨rfl, rfl, rfl, by decide +kernel, rfl, by decide +kernel, by decide +kernel⟩
theorem ok_is_word (D : DefAt K mg "is_word" (topS 5)) (gs : Gs mg) (c_is_text_of : Cal P w K mg base 1 "is_text_of" (spTextOf K) []) : Cal P w K mg base 2 "is_word" (spIs K (sLetters ++ sFigures) 12) [] := by
  have sc := scIsWord
  refine mkCal D (fun _ _ _ _ _ _ us hl => match us, hl with | [_], _ => rfl) sc (fun vs H Q E h => ?_) (fun f cdv A outer s H vs Q E hr h => ?_)
  · obtain ⟨x, rfl, _⟩ := h
    rfl
  · obtain ⟨x, rfl, h⟩ := h
    refine ⟨_, (pss_one (ps_ret (pe_c c_is_text_of hr (by decide) (by rfl) (pa_cons (pv 0) (pa_cons (pe_op op_add_str (pe_gc (by rfl) gs.LETTERS) (pe_gc (by rfl) gs.FIGURES)) (pa_cons pe_int pa_nil)))))), ?_⟩
    exact ⟨_, rfl, _, _, rfl, rfl, by decide, x, _, _, rfl, h⟩
/-- some sign of a text, by a pot -/
def spSign : Sp := fun vs H Q _ => ∃ p : Addr, vs = [.ref p] ∧ Pot H p ∧ ∀ (c : Nat) (H' : Hp), Drawn p H H' → Q (.str ⟨#[c]⟩) H'
theorem scSign : FnScope ["_law_pot_here", "_law_some", "_law_odd", "_law_way"] ["_law_pot_here"] (defScope (topS 9)) := ⟨rfl, rfl, rfl, by decide +kernel, rfl, by decide +kernel, by decide +kernel⟩
theorem at_some {α : Type} {xs : List α} {d : Int} (h0 : 0 ≤ d) (h1 : d < xs.length) : ∃ x, x ∈ xs ∧ atI xs d = some x := by
  have h : d.toNat < xs.length := by omega
  exact ⟨xs[d.toNat], List.getElem_mem h, at_of' h0 h⟩
where
  at_of' {α : Type} {xs : List α} {d : Int} (h0 : 0 ≤ d) (h : d.toNat < xs.length) : atI xs d = some xs[d.toNat] := by
    have e : d = (d.toNat : Int) := by omega
    have g : xs[d.toNat]? = some xs[d.toNat] := List.getElem?_eq_getElem h
    have := atI_nat g
    rw [← e] at this
    exact this
theorem ok_sign (D : DefAt K mg "_law_sign" (topS 9)) (m : Mg mg) (c_digit : Cal P w K mg base 1 "_law_digit" spDigit []) : Cal P w K mg base 2 "_law_sign" spSign [] := by
  have sc := scSign
  refine mkCal D (fun _ _ _ _ _ _ us hl => match us, hl with | [_], _ => rfl) sc (fun vs H Q E h => ?_) (fun f cdv A outer s H vs Q E hr h => ?_)
  · obtain ⟨x, rfl, _⟩ := h
    rfl
  · obtain ⟨p, rfl, hp, q⟩ := h
    refine ⟨_, (pss_cons (ps_set (i := 1) sc.nd rfl (.inl rfl) pe_str)
  (pss_cons (ps_set (i := 2) sc.nd rfl (.inl rfl) pe_str)
  (pss_cons (ps_set (i := 3) sc.nd rfl (.inl rfl) (pe_c c_digit hr (by decide) (by rfl) (pa_cons (pv 0) (pa_cons pe_int pa_nil))))
  (pss_cons (ps_if (pt_cmpR op_eq (pv 3) pe_int (nomark _))
  (pss_one (ps_ret (pe_ix ix_str (pv 2) (pe_c c_digit hr (by decide) (by rfl) (pa_cons (pv 0) (pa_cons (pe_callB call_len (by rfl) m.len (by decide +kernel) (pa_cons (pv 2) pa_nil)) pa_nil))) (fun _ _ => rfl))))
  pss_nil)
  (pss_cons (ps_if (pt_cmpR op_lt (pv 3) pe_int (nomark _))
  (pss_one (ps_ret (pe_ix ix_str pe_str (pe_c c_digit hr (by decide) (by rfl) (pa_cons (pv 0) (pa_cons pe_int pa_nil))) (fun _ _ => rfl))))
  pss_nil)
  (pss_one (ps_ret (pe_ix ix_str (pv 1) (pe_c c_digit hr (by decide) (by rfl) (pa_cons (pv 0) (pa_cons pe_int pa_nil))) (fun _ _ => rfl))))))))), ?_⟩
    refine ⟨_, rfl, p, _, rfl, hp, by decide, by decide, fun d H1 d0 d1 r1 => ?_⟩
    refine ⟨_, rfl, rfl, _, rfl, ite2 (fun c => ?_) (fun c => ?_)⟩
    · refine ⟨_, rfl, _, rfl, _, rfl, _, _, rfl, ⟨by decide, rfl⟩, p, _, rfl, r1.pot, by decide, by decide, fun e H2 e0 e1 r2 => ?_⟩
      obtain ⟨x, _, hx⟩ := at_some (xs := (" !\"#$&'()*+,-./:;<=>?@ABCDEFGHIJKLMNOPQRSTUVWXYZ[\\]^_`{|}~\n" : Str).cps.toList) e0 e1
      exact ⟨_, _, _, rfl, rfl, by decide, hx, q _ _ (r1.trans r2)⟩
    · refine ⟨_, rfl, _, _, rfl, rfl, _, rfl, ite2 (fun c => ?_) (fun c => ?_)⟩
      · refine ⟨_, rfl, p, _, rfl, r1.pot, by decide, by decide, fun e H2 e0 e1 r2 => ?_⟩
        obtain ⟨x, _, hx⟩ := at_some (xs := ("0123456789" : Str).cps.toList) e0 e1
        exact ⟨_, _, _, rfl, rfl, by decide, hx, q _ _ (r1.trans r2)⟩
      · refine ⟨_, rfl, _, rfl, p, _, rfl, r1.pot, by decide, by decide, fun e H2 e0 e1 r2 => ?_⟩
        obtain ⟨x, _, hx⟩ := at_some (xs := sLetters.cps.toList) e0 e1
        exact ⟨_, _, _, rfl, rfl, by decide, hx, q _ _ (r1.trans r2)⟩
end
end Gj

namespace Gj
open PySem PySem.Spec PyProof.Rows L2
open C8 (Cal pe_c pe_gc)
/-! ### a comprehension that draws signs, joined -/
theorem joinL_ones : ∀ l : List Nat, TL.joinL [] (l.map fun c => [c]) = l
  | [] => rfl
  | [_] => rfl
  | a :: b :: r => by
    show [a] ++ ([] ++ TL.joinL [] ((b :: r).map fun c => [c])) = a :: b :: r
    rw [joinL_ones (b :: r)]
    rfl
theorem join_signs (cs : List Nat) : Txt.join "" (cs.map fun c => SX.S [c]) = SX.S cs := by
  have e1 : (cs.map fun c => SX.S [c]) = (cs.map fun c => [c]).map SX.S := by rw [List.map_map]; rfl
  rw [e1, show ("" : Str) = SX.S [] from rfl, SX.join_S, joinL_ones]
/-- i signs of the kind G are drawn into the list at D -/
def Signs (G : Nat → Prop) (p D : Addr) (H : Hp) (i : Nat) (H' : Hp) : Prop := ∃ cs : List Nat, cs.length = i ∧ (∀ c ∈ cs, G c) ∧ Drawn p H H' ∧ D ≠ p ∧ H' D = some (.lst (cs.map fun c => V.str (SX.S [c])))
theorem Signs.start {G : Nat → Prop} {p D : Addr} {H : Hp} (hp : Pot H p) (hD : H D = none) : Signs G p D H 0 (upd H D (.lst [])) := ⟨[], rfl, (fun _ h => by cases h), ⟨Keep.new hD, hp.new hD⟩, hp.ne hD, upd_same⟩
theorem Signs.pot {G : Nat → Prop} {p D : Addr} {H H' : Hp} {i : Nat} (h : Signs G p D H i H') : Pot H' p := by
  obtain ⟨_, _, _, d, _⟩ := h
  exact d.pot
theorem Signs.next {G : Nat → Prop} {p D : Addr} {H H1 H2 : Hp} {i n : Nat} {c : Nat} (hi : i < n) (hn : n ≤ 1000) (hs : Signs G p D H i H1) (hD : H D = none) (r : Drawn p H1 H2) (hc : G c) :
    ∃ acc, H2 D = some (.lst acc) ∧ acc.length < sizeLine ∧ Signs G p D H (i + 1) (upd H2 D (.lst (acc ++ [.str ⟨#[c]⟩]))) := by
  obtain ⟨cs, hl, hg, dr, ne, e⟩ := hs
  refine ⟨_, r.keep _ _ ne e, ?_, cs ++ [c], ?_, ?_, ⟨fun b o nb eb => ?_, ?_⟩, ne, ?_⟩
  · rw [List.length_map]
    exact small1000 (by omega)
  · rw [List.length_append, hl]
    rfl
  · intro x hx
    rcases List.mem_append.mp hx with h | h
    · exact hg x h
    · rw [List.mem_singleton.mp h]
      exact hc
  · rw [upd_ne (ne_of_none eb hD)]
    exact r.keep _ _ nb (dr.keep _ _ nb eb)
  · obtain ⟨a, b, e2, z⟩ := r.pot
    exact ⟨a, b, by rw [upd_ne ne.symm]; exact e2, z⟩
  · rw [upd_same, List.map_append]
    rfl
theorem Signs.join {G : Nat → Prop} {p D : Addr} {H H1 : Hp} {n : Nat} (hn : n ≤ 1000) (hs : Signs G p D H n H1) :
    ∃ (cs : List Nat) (ys : List Str), cs.length = n ∧ (∀ c ∈ cs, G c) ∧ Drawn p H H1 ∧ H1 D = some (.lst (ys.map V.str)) ∧ (ys.map (·.length)).sum + ys.length * (PySem.Str.ofString "").length ≤ 16777216 ∧ Txt.join "" ys = SX.S cs := by
  obtain ⟨cs, hl, hg, dr, ne, e⟩ := hs
  have e2 : ((cs.map fun c => SX.S [c]).map (·.length)).sum = cs.length := by
    clear e dr hl hg
    induction cs with
    | nil => rfl
    | cons x l ih =>
      rw [List.map_cons, List.map_cons, List.sum_cons, ih, List.length_cons]
      show 1 + l.length = l.length + 1
      omega
  refine ⟨cs, cs.map fun c => SX.S [c], hl, hg, dr, ?_, ?_, join_signs cs⟩
  · rw [e, List.map_map]
    rfl
  · rw [e2]
    have : (PySem.Str.ofString "").length = 0 := rfl
    rw [this]
    omega
/-- some text of at most fifteen signs, by a pot -/
def spText : Sp := fun vs H Q _ => ∃ p : Addr, vs = [.ref p] ∧ Pot H p ∧ ∀ (z : Str) (H' : Hp), z.length ≤ 1000 → Drawn p H H' → Q (.str z) H'
section
variable {P : Program} {w : World} {K : PySem.W.Frag} {mg : Str → Option Value} {base : Heap}
theorem scText : FnScope ["_law_pot_here", "_law_size", "_law_plain", "_law_k"] ["_law_pot_here"] (defScope (topS 10)) := ⟨rfl, rfl, rfl, by decide +kernel, rfl, by decide +kernel, by decide +kernel⟩
theorem ok_text (D : DefAt K mg "_law_text" (topS 10)) (m : Mg mg) (c_digit : Cal P w K mg base 1 "_law_digit" spDigit []) (c_sign : Cal P w K mg base 2 "_law_sign" spSign []) : Cal P w K mg base 3 "_law_text" spText [] := by
  have sc := scText
  refine mkCal D (fun _ _ _ _ _ _ us hl => match us, hl with | [_], _ => rfl) sc (fun vs H Q E h => ?_) (fun f cdv A outer s H vs Q E hr h => ?_)
  · obtain ⟨x, rfl, _⟩ := h
    rfl
  · obtain ⟨p, rfl, hp, q⟩ := h
    refine ⟨_, (pss_cons (ps_set (i := 1) sc.nd rfl (.inl rfl) (pe_ix ix_list (pe_lst (pa_cons (pe_c c_digit hr (by decide) (by rfl) (pa_cons (pv 0) (pa_cons pe_int pa_nil))) (pa_cons pe_int (pa_cons pe_int (pa_cons pe_int (pa_cons pe_int pa_nil)))))) (pe_c c_digit hr (by decide) (by rfl) (pa_cons (pv 0) (pa_cons pe_int pa_nil))) (fun _ _ => rfl)))
  (pss_cons (ps_set (i := 2) sc.nd rfl (.inl rfl) (pe_cmpR op_eq (pe_c c_digit hr (by decide) (by rfl) (pa_cons (pv 0) (pa_cons pe_int pa_nil))) pe_int (nomark _)))
  (pss_cons (ps_if (pt_val (pv 2))
  (pss_one (ps_ret (pe_join pe_str (pe_lc (own := [("_law_k", 3)]) (g := gName 3) (tt := tYes) rfl sc.nd (pi_range1 (by rfl) m.range (pa_cons (pv 1) pa_nil)) (blkOk_by (N := ["_law_pot_here", "_law_size", "_law_plain", "_law_k"]) (sc := defScope (topS 10)) (by decide +kernel)) (fun _ _ _ _ _ => (pg_name (i := 3) sc.nd rfl (.inl rfl))) (fun _ _ _ _ _ => pts_nil) (fun _ _ _ _ _ => (pe_ix ix_str pe_str (pe_c c_digit hr (by decide) (by rfl) (pa_cons (pv 0) (pa_cons pe_int pa_nil))) (fun _ _ => rfl)))))))
  pss_nil)
  (pss_one (ps_ret (pe_join pe_str (pe_lc (own := [("_law_k", 3)]) (g := gName 3) (tt := tYes) rfl sc.nd (pi_range1 (by rfl) m.range (pa_cons (pv 1) pa_nil)) (blkOk_by (N := ["_law_pot_here", "_law_size", "_law_plain", "_law_k"]) (sc := defScope (topS 10)) (by decide +kernel)) (fun _ _ _ _ _ => (pg_name (i := 3) sc.nd rfl (.inl rfl))) (fun _ _ _ _ _ => pts_nil) (fun _ _ _ _ _ => (pe_c c_sign hr (by decide) (by rfl) (pa_cons (pv 0) pa_nil)))))))))), ?_⟩
    refine ⟨_, rfl, p, _, rfl, hp, by decide, by decide, fun d H1 d0 d1 r1 => ?_⟩
    refine ⟨(by show 5 ≤ sizeLine; decide), fun L hL => ?_⟩
    refine ⟨_, rfl, p, _, rfl, r1.pot.new hL, by decide, by decide, fun e H2 e0 e1 r2 => ?_⟩
    have r12 : Drawn p H H2 := (r1.new hL).trans r2
    have eL : H2 L = some (.lst [.int d, .int 8, .int 9, .int 12, .int 13]) := r2.keep _ _ (r1.pot.ne hL) upd_same
    obtain ⟨sv, hsm, hsv⟩ := at_some (xs := [V.int d, .int 8, .int 9, .int 12, .int 13]) e0 e1
    obtain ⟨n, rfl, hn0, hn1⟩ : ∃ n : Int, sv = .int n ∧ 0 ≤ n ∧ n ≤ 1000 := by
      simp only [List.mem_cons, List.not_mem_nil, or_false] at hsm
      rcases hsm with h | h | h | h | h
      · exact ⟨d, h, d0, by omega⟩
      · exact ⟨8, h, by decide, by decide⟩
      · exact ⟨9, h, by decide, by decide⟩
      · exact ⟨12, h, by decide, by decide⟩
      · exact ⟨13, h, by decide, by decide⟩
    refine ⟨L, _, _, _, rfl, rfl, SqL.of eL, hsv, ?_⟩
    refine ⟨_, rfl, p, _, rfl, r2.pot, by decide, by decide, fun g H3 g0 g1 r3 => ?_⟩
    have r13 := r12.trans r3
    refine ⟨rfl, _, rfl, _, rfl, ite2 (fun c => ?_) (fun c => ?_)⟩
    · refine ⟨⟨_, rfl⟩, _, rfl, n, rfl, by omega, by omega, fun D hD => ?_⟩
      refine lc_range (Signs (fun _ => True) p D H3) (Signs.start r3.pot hD) (fun i H4 hi hs => ?_) (fun H4 hs => ?_)
      · refine ⟨rfl, _, rfl, p, _, rfl, hs.pot, by decide, by decide, fun k H5 k0 k1 r5 => ?_⟩
        obtain ⟨x, _, hx⟩ := at_some (xs := sLetters.cps.toList) k0 k1
        exact ⟨_, _, _, rfl, rfl, by decide, hx, hs.next hi (by omega) hD r5 trivial⟩
      · obtain ⟨cs, ys, hl, _, dr, eD, hz, ej⟩ := hs.join (by omega)
        refine ⟨_, D, ys, rfl, rfl, .inl (SqL.of eD), hz, ?_⟩
        rw [ej]
        exact q _ _ (by rw [SX.S_len]; omega) (r13.trans dr)
    · refine ⟨⟨_, rfl⟩, _, rfl, n, rfl, by omega, by omega, fun D hD => ?_⟩
      refine lc_range (Signs (fun _ => True) p D H3) (Signs.start r3.pot hD) (fun i H4 hi hs => ?_) (fun H4 hs => ?_)
      · refine ⟨rfl, _, rfl, p, rfl, hs.pot, fun c H5 r5 => ?_⟩
        exact hs.next hi (by omega) hD r5 trivial
      · obtain ⟨cs, ys, hl, _, dr, eD, hz, ej⟩ := hs.join (by omega)
        refine ⟨_, D, ys, rfl, rfl, .inl (SqL.of eD), hz, ?_⟩
        rw [ej]
        exact q _ _ (by rw [SX.S_len]; omega) (r13.trans dr)
end
end Gj

namespace Gj
open PySem PySem.Spec PyProof.Rows L2
open C8 (Cal pe_c pe_gc)
/-- the signs that the law's own look takes -/
def lawSigns (b : Bool) : Str := if b then sLetters ++ sFigures else sLetters
def spLawIs : Sp := fun vs H Q _ => ∃ (z : Str) (most : Int) (b : Bool), vs = [.str z, .int most, .bl b] ∧ z.length ≤ 1000 ∧ ∀ H', Same H H' → Q (.bl (isTxt z (lawSigns b) most)) H'
section
variable {P : Program} {w : World} {K : PySem.W.Frag} {mg : Str → Option Value} {base : Heap}
theorem scLawIs : FnScope ["_law_text_here", "_law_most", "_law_figures", "_law_signs", "_law_sign_here"] ["_law_text_here", "_law_most", "_law_figures"] (defScope (topS 11)) := ⟨rfl, rfl, rfl, by decide +kernel, rfl, by decide +kernel, by decide +kernel⟩
theorem ok_law_is (D : DefAt K mg "_law_is" (topS 11)) (m : Mg mg) : Cal P w K mg base 1 "_law_is" spLawIs [] := by
  have sc := scLawIs
  refine mkCal D (fun _ _ _ _ _ _ us hl => match us, hl with | [_, _, _], _ => rfl) sc (fun vs H Q E h => ?_) (fun f cdv A outer s H vs Q E hr h => ?_)
  · obtain ⟨x, z, mo, rfl, _⟩ := h
    rfl
  · obtain ⟨z, most, b, rfl, hz, q⟩ := h
    refine ⟨_, (pss_cons (ps_set (i := 3) sc.nd rfl (.inr rfl) (pe_op op_add_str pe_str (pe_op op_mul_str pe_str (pe_callTy call_int1 (by rfl) m.int (by decide +kernel) (pa_cons (pv 2) pa_nil)))))
  (pss_one (ps_ret (pe_and (pe_chain op_le op_le pe_int (pe_callB call_len (by rfl) m.len (by decide +kernel) (pa_cons (pv 0) pa_nil)) (pv 1)) (pe_one (pe_callB (cr_all rfl) (by rfl) m.all (by decide +kernel) (pa_cons (pe_lc (own := [("_law_sign_here", 4)]) (g := gName 4) (tt := tYes) rfl sc.nd (pi_str (pv 0)) (blkOk_by (N := ["_law_text_here", "_law_most", "_law_figures", "_law_signs", "_law_sign_here"]) (sc := defScope (topS 11)) (by decide +kernel)) (fun _ _ _ _ _ => (pg_name (i := 4) sc.nd rfl (.inl rfl))) (fun _ _ _ _ _ => pts_nil) (fun _ _ _ _ _ => (pe_cmpR op_in_sign (pv 4) (pv 3) rfl))) pa_nil))))))), ?_⟩
    have hmul : MulOk sFigures (if b then 1 else 0) := by cases b <;> exact ⟨by decide, by decide, by decide⟩
    have esig : sLetters ++ Txt.mul sFigures (if b then 1 else 0) = lawSigns b := by cases b <;> decide
    refine ⟨_, rfl, .inr ⟨b, rfl, _, _, rfl, rfl, hmul, _, _, rfl, rfl, by cases b <;> decide, ?_⟩⟩
    rw [esig]
    generalize lawSigns b = signs at *
    have hz2 : z.length ≤ sizeLine := Nat.le_of_lt (small1000 hz)
    refine ⟨_, rfl, _, _, rfl, ⟨hz2, rfl⟩, _, _, rfl, rfl, _, rfl, ite2 (fun c => ?_) (fun c => ?_)⟩
    · have c := of_decide_eq_true c
      refine ⟨_, rfl, _, _, rfl, rfl, _, rfl, ite2 (fun c2 => ?_) (fun c2 => ?_)⟩
      · have c2 := of_decide_eq_true c2
        refine ⟨_, rfl, z, rfl, fun D hD => ?_⟩
        refine lc_it walk_str (Pv := fun i H' => Same H H' ∧ H' D = some (.lst (((z.cps.toList.take i).map fun c => decide (c ∈ signs.cps.toList)).map V.bl))) ⟨same_new hD, upd_same⟩ (fun _ _ _ _ => trivial) (fun i x H1 H2 hi hp hy => ?_) (fun H1 hp => ?_)
        · obtain ⟨rfl, ch, ec, rfl⟩ := hy
          obtain ⟨sm, eD⟩ := hp
          refine ⟨rfl, ?_⟩
          refine ⟨_, rfl, _, rfl, ch, signs, rfl, rfl, _, eD, ?_, fun b o e => ?_, ?_⟩
          · rw [List.length_map, List.length_map, List.length_take]
            have : z.cps.toList.length = z.length := rfl
            exact small1000 (by omega)
          · rw [upd_ne (ne_of_none e hD)]
            exact sm b o e
          · have ec2 : z.cps.toList[i]? = some ch := by rw [Array.getElem?_toList]; exact ec
            rw [upd_same, take_snoc ec2, List.map_append, List.map_append]
            rfl
        · obtain ⟨sm, eD⟩ := hp
          refine ⟨D, _, rfl, SqL.of eD, ?_⟩
          have e1 : isTxt z signs most = (((z.cps.toList.take z.cps.size).map fun c => decide (c ∈ signs.cps.toList)).all id) := by
            unfold isTxt
            rw [decide_eq_true c, decide_eq_true c2, show z.cps.toList.take z.cps.size = z.cps.toList from List.take_of_length_le (Nat.le_refl _)]
            rfl
          rw [← e1]
          exact q H1 sm
      · have c2 : ¬ ((z.length : Int) ≤ most) := fun h => c2 (decide_eq_true h)
        have e1 : isTxt z signs most = false := by
          unfold isTxt
          rw [decide_eq_false c2, Bool.false_and, Bool.and_false]
        have := q H (Same.refl H)
        rw [e1] at this
        exact this
    · have c : ¬ (1 ≤ (z.length : Int)) := fun h => c (decide_eq_true h)
      have e1 : isTxt z signs most = false := by
        unfold isTxt
        rw [decide_eq_false c, Bool.false_and]
      have := q H (Same.refl H)
      rw [e1] at this
      exact ⟨_, rfl, iteF this⟩
/-- the law's look at both answers -/
def spRight (K : PySem.W.Frag) : Sp := fun vs H Q _ => ∃ (x : V) (a b : Bool), vs = [x, .bl a, .bl b] ∧ ((∃ z, x = .str z ∧ z.length ≤ 1000 ∧ a = isTxt z sLetters 8 ∧ b = isTxt z (sLetters ++ sFigures) 12 ∧ ∀ H', Same H H' → Q (.bl true) H') ∨ (NoStr K H x ∧ a = false ∧ b = false ∧ Q (.bl true) H))
theorem scRight : FnScope ["_law_thing", "_law_name", "_law_word"] ["_law_thing", "_law_name", "_law_word"] (defScope (topS 12)) := ⟨rfl, rfl, rfl, by decide +kernel, rfl, by decide +kernel, by decide +kernel⟩
theorem ok_right (D : DefAt K mg "_law_right" (topS 12)) (m : Mg mg) (c_is_name : Cal P w K mg base 2 "is_name" (spIs K sLetters 8) []) (c_is_word : Cal P w K mg base 2 "is_word" (spIs K (sLetters ++ sFigures) 12) []) : Cal P w K mg base 3 "_law_right" (spRight K) [] := by
  have sc := scRight
  refine mkCal D (fun _ _ _ _ _ _ us hl => match us, hl with | [_, _, _], _ => rfl) sc (fun vs H Q E h => ?_) (fun f cdv A outer s H vs Q E hr h => ?_)
  · obtain ⟨x, z, mo, rfl, _⟩ := h
    rfl
  · obtain ⟨x, a, b, rfl, h⟩ := h
    refine ⟨_, (pss_one (ps_ret (pe_and (pe_cmpR op_eq (pe_callB call_repr_bool (by rfl) m.repr (by decide +kernel) (pa_cons (pe_c c_is_name hr (by decide) (by rfl) (pa_cons (pv 0) pa_nil)) pa_nil)) (pe_callB call_repr_bool (by rfl) m.repr (by decide +kernel) (pa_cons (pv 1) pa_nil)) (nomark _)) (pe_one (pe_cmpR op_eq (pe_callB call_repr_bool (by rfl) m.repr (by decide +kernel) (pa_cons (pe_c c_is_word hr (by decide) (by rfl) (pa_cons (pv 0) pa_nil)) pa_nil)) (pe_callB call_repr_bool (by rfl) m.repr (by decide +kernel) (pa_cons (pv 2) pa_nil)) (nomark _)))))), ?_⟩
    have tt : ∀ z : V, decide (z = z) = true := fun z => decide_eq_true rfl
    rcases h with ⟨z, rfl, hz, rfl, rfl, q⟩ | ⟨ns, rfl, rfl, q⟩
    · refine ⟨_, rfl, _, rfl, .inl ⟨z, rfl, hz, fun H1 sm => ?_⟩⟩
      refine ⟨_, rfl, _, rfl, _, rfl, rfl, _, rfl, ?_⟩
      rw [tt]
      refine iteT ⟨_, rfl, _, rfl, .inl ⟨z, rfl, hz, fun H2 sm2 => ?_⟩⟩
      refine ⟨_, rfl, _, rfl, _, rfl, rfl, ?_⟩
      rw [tt]
      exact q _ (sm.trans sm2)
    · refine ⟨_, rfl, _, rfl, .inr ⟨ns, ?_⟩⟩
      refine ⟨_, rfl, _, rfl, _, rfl, rfl, _, rfl, ?_⟩
      rw [tt]
      refine iteT ⟨_, rfl, _, rfl, .inr ⟨ns, ?_⟩⟩
      refine ⟨_, rfl, _, rfl, _, rfl, rfl, ?_⟩
      rw [tt]
      exact q
end
end Gj

namespace Gj
open PySem PySem.Spec PyProof.Rows L2
open C8 (Cal pe_c pe_gc)
def spLaw (K : PySem.W.Frag) : Sp := fun vs H Q _ => ∃ (a : Addr) (ns : List Int), vs = [.ref a] ∧ SqL K H a (ns.map V.int) ∧ ns.length ≤ 63 ∧ ∀ H', Q (.bl true) H'
theorem Keep.same {p : Addr} {H H' : Hp} (h : Keep p H H') (n : H p = none) : Same H H' := fun b o e => h b o (ne_of_none e n) e
theorem Pot.same {H H' : Hp} {p : Addr} (h : Pot H p) (s : Same H H') : Pot H' p := by
  obtain ⟨a, b, e, r⟩ := h
  exact ⟨a, b, s _ _ e, r⟩
section
variable {P : Program} {w : World} {K : PySem.W.Frag} {mg : Str → Option Value} {base : Heap}
theorem scLaw : FnScope ["_law_script", "_law_k", "_law_pot_here", "_law_turn", "_law_text_here", "_law_odd"] ["_law_script"] (defScope (topS 13)) := ⟨rfl, rfl, rfl, by decide +kernel, rfl, by decide +kernel, by decide +kernel⟩
theorem ok_law {f : Addr} {fd : FuncData} (F : Fun K "law" "law" (topS 13) f fd) (m : Mg mg) (c_pot : Cal P w K mg base 1 "_law_pot" (spPot K) []) (c_digit : Cal P w K mg base 1 "_law_digit" spDigit []) (c_text : Cal P w K mg base 3 "_law_text" spText [])
    (c_is : Cal P w K mg base 1 "_law_is" spLawIs []) (c_right : Cal P w K mg base 3 "_law_right" (spRight K) []) : FnOk P w K mg base CX0 4 f fd ["_law_script"] (spLaw K) := by
  have sc := scLaw
  refine F.ok sc (fun vs H Q E h => ?_) (fun cdv A outer s H vs Q E hr h => ?_)
  · obtain ⟨x, z, rfl, _⟩ := h
    rfl
  · obtain ⟨a, ns, rfl, hS, hlen, q⟩ := h
    refine ⟨_, (pss_cons (ps_for PassesOwn.never rfl (pi_range1 (by rfl) m.range (pa_cons (pe_callB (call_max2 rfl) (by rfl) m.max (by decide +kernel) (pa_cons pe_int (pa_cons (pe_callB (call_min2 rfl) (by rfl) m.min (by decide +kernel) (pa_cons pe_int (pa_cons (pe_callB call_len (by rfl) m.len (by decide +kernel) (pa_cons (pv 0) pa_nil)) pa_nil))) pa_nil))) pa_nil)) (pg_name (i := 1) sc.nd rfl (.inl rfl))
  (pss_cons (ps_set (i := 2) sc.nd rfl (.inl rfl) (pe_c c_pot hr (by decide) (by rfl) (pa_cons (pv 0) (pa_cons (pv 1) pa_nil))))
  (pss_cons (ps_for PassesOwn.never rfl (pi_range1 (by rfl) m.range (pa_cons pe_int pa_nil)) (pg_name (i := 3) sc.nd rfl (.inl rfl))
  (pss_cons (ps_set (i := 4) sc.nd rfl (.inl rfl) (pe_c c_text hr (by decide) (by rfl) (pa_cons (pv 2) pa_nil)))
  (pss_one (ps_if (pt_not (pt_val (pe_c c_right hr (by decide) (by rfl) (pa_cons (pv 4) (pa_cons (pe_c c_is hr (by decide) (by rfl) (pa_cons (pv 4) (pa_cons pe_int (pa_cons pe_bl pa_nil)))) (pa_cons (pe_c c_is hr (by decide) (by rfl) (pa_cons (pv 4) (pa_cons pe_int (pa_cons pe_bl pa_nil)))) pa_nil))))))
  (pss_one (ps_ret pe_bl))
  pss_nil))))
  (pss_cons (ps_set (i := 5) sc.nd rfl (.inl rfl) (pe_ix ix_list (pe_lst (pa_cons pe_non (pa_cons pe_int (pa_cons pe_bl (pa_cons (pe_lst (pa_cons pe_str pa_nil)) (pa_cons (pe_tup (pa_cons pe_str pa_nil)) (pa_cons (pe_disp (pps_cons pe_str pe_int pps_nil) (by rfl) (by rfl) (fun z => by cases z) (by decide)) (pa_cons (pe_lst pa_nil) (pa_cons (pe_tup pa_nil) (pa_cons pe_dnewK pa_nil)))))))))) (pe_c c_digit hr (by decide) (by rfl) (pa_cons (pv 2) (pa_cons pe_int pa_nil))) (fun _ _ => rfl)))
  (pss_one (ps_if (pt_not (pt_val (pe_c c_right hr (by decide) (by rfl) (pa_cons (pv 5) (pa_cons pe_bl (pa_cons pe_bl pa_nil))))))
  (pss_one (ps_ret pe_bl))
  pss_nil))))))
  (pss_one (ps_ret pe_bl))), ?_⟩
    obtain ⟨N, hN, hN2⟩ : ∃ N : Int, (if (if ((ns.map V.int).length : Int) < 4 then ((ns.map V.int).length : Int) else 4) > 1 then (if ((ns.map V.int).length : Int) < 4 then ((ns.map V.int).length : Int) else 4) else 1) = N ∧ 0 ≤ N ∧ N ≤ 1000 := by
      refine ⟨_, rfl, ?_, ?_⟩ <;> split <;> (try split) <;> omega
    refine ⟨_, rfl, _, _, rfl, .inl ⟨_, hS, rfl⟩, _, _, rfl, _, _, rfl, N, by rw [← hN], by omega, by omega, ?_⟩
    refine for_range (fun i σ H' => ∃ y1 y2 y3 y4 y5, σ = [some (.ref a), y1, y2, y3, y4, y5] ∧ SqL K H' a (ns.map V.int)) ⟨_, _, _, _, _, rfl, hS⟩ (fun i σ H1 hi hp => ?_) (fun σ H1 hp => ?_)
    · obtain ⟨y1, y2, y3, y4, y5, rfl, hS1⟩ := hp
      refine ⟨_, rfl, _, rfl, a, ns, _, rfl, hS1, by omega, by omega, fun p H2 np sm hp => ?_⟩
      refine ⟨3, rfl, by decide, by decide, ?_⟩
      refine for_range (fun j σ H' => ∃ y3 y4, σ = [some (.ref a), some (.int (0 + i)), some (.ref p), y3, y4, y5] ∧ Drawn p H2 H') ⟨_, _, rfl, Keep.refl, hp⟩ (fun j σ H3 hj hq => ?_) (fun σ H3 hq => ?_)
      · obtain ⟨z3, z4, rfl, dr⟩ := hq
        refine ⟨_, rfl, p, rfl, dr.pot, fun z H4 hz r4 => ?_⟩
        refine ⟨_, rfl, _, rfl, z, 8, false, rfl, hz, fun H5 s5 => ?_⟩
        refine ⟨_, rfl, z, 12, true, rfl, hz, fun H6 s6 => ?_⟩
        refine ⟨_, _, _, rfl, .inl ⟨z, rfl, hz, rfl, rfl, fun H7 s7 => ?_⟩⟩
        refine ⟨true, rfl, iteF ?_⟩
        have s47 : Same H4 H7 := (s5.trans s6).trans s7
        refine ⟨_, _, rfl, (dr.trans r4).keep.trans (Same.keep s47), ?_⟩
        obtain ⟨u, v, e, r⟩ := r4.pot
        exact ⟨u, v, s47 _ _ e, r⟩
      · obtain ⟨z3, z4, rfl, dr⟩ := hq
        refine ⟨(by show 1 ≤ sizeLine; decide), fun p1 n1 => ?_⟩
        refine ⟨(by show 1 ≤ sizeLine; decide), fun p2 n2 => ?_⟩
        refine fun p3 n3 => ⟨upd_same, [(Sum.inr "a", .int 1)], rfl, by decide, ?_⟩
        refine ⟨(by show 0 ≤ sizeLine; decide), fun p4 n4 => ?_⟩
        refine ⟨(by show 0 ≤ sizeLine; decide), fun p5 n5 => ?_⟩
        refine fun p6 n6 => ?_
        refine ⟨(by show 9 ≤ sizeLine; decide), fun p7 n7 => ?_⟩
        have S1 := same_new (o := .lst [.str "a"]) n1
        have S2 := same_new (o := .tup [.str "a"]) n2
        have S3 : Same (upd (upd H3 p1 (.lst [.str "a"])) p2 (.tup [.str "a"])) (upd (upd (upd (upd H3 p1 (.lst [.str "a"])) p2 (.tup [.str "a"])) p3 (.dK [])) p3 (.dK (mergeK [] [(Sum.inr "a", .int 1)]))) := by
          rw [upd_upd]
          exact same_new n3
        have S4 := same_new (o := .lst []) n4
        have S5 := same_new (o := .tup []) n5
        have S6 := same_new (o := .dK []) n6
        have S7 := same_new (o := .lst [.non, .int 7, .bl true, .ref p1, .ref p2, .ref p3, .ref p4, .ref p5, .ref p6]) n7
        have S37 := ((((((S1.trans S2).trans S3).trans S4).trans S5).trans S6).trans S7)
        have ne : ∀ {Hx : Hp} {b : Addr}, Same H3 Hx → Hx b = none → b ≠ p := fun {Hx b} sx nb => (dr.pot.same sx).ne nb
        have i1 := ne (Same.refl _) n1
        have i2 := ne S1 n2
        have i3 := ne (S1.trans S2) n3
        have i4 := ne ((S1.trans S2).trans S3) n4
        have i5 := ne (((S1.trans S2).trans S3).trans S4) n5
        have i6 := ne ((((S1.trans S2).trans S3).trans S4).trans S5) n6
        have i7 := ne (((((S1.trans S2).trans S3).trans S4).trans S5).trans S6) n7
        refine ⟨_, rfl, p, _, rfl, dr.pot.same S37, by decide, by decide, fun e H4 e0 e1 r => ?_⟩
        have e7 : H4 p7 = some (.lst [.non, .int 7, .bl true, .ref p1, .ref p2, .ref p3, .ref p4, .ref p5, .ref p6]) := r.keep _ _ i7 upd_same
        obtain ⟨x, hm, hx⟩ := at_some (xs := [V.non, .int 7, .bl true, .ref p1, .ref p2, .ref p3, .ref p4, .ref p5, .ref p6]) e0 e1
        refine ⟨p7, _, _, x, rfl, rfl, SqL.of e7, hx, ?_⟩
        have nst : NoStr K H4 x := by
          simp only [List.mem_cons, List.not_mem_nil, or_false] at hm
          rcases hm with h | h | h | h | h | h | h | h | h
          · exact h ▸ ⟨_, .base .non, kit_ty (by decide +kernel)⟩
          · exact h ▸ ⟨_, .base (.int _), kit_ty (by decide +kernel)⟩
          · exact h ▸ ⟨_, .base (.bl _), kit_ty (by decide +kernel)⟩
          · exact h ▸ ⟨_, .base (.lst (r.keep _ _ i1 (S7 _ _ (S6 _ _ (S5 _ _ (S4 _ _ (S3 _ _ (S2 _ _ upd_same)))))))), kit_ty (by decide +kernel)⟩
          · exact h ▸ ⟨_, .base (.tup (r.keep _ _ i2 (S7 _ _ (S6 _ _ (S5 _ _ (S4 _ _ (S3 _ _ upd_same))))))), kit_ty (by decide +kernel)⟩
          · exact h ▸ ⟨_, .base (.dK (r.keep _ _ i3 (S7 _ _ (S6 _ _ (S5 _ _ (S4 _ _ upd_same)))))), kit_ty (by decide +kernel)⟩
          · exact h ▸ ⟨_, .base (.lst (r.keep _ _ i4 (S7 _ _ (S6 _ _ (S5 _ _ upd_same))))), kit_ty (by decide +kernel)⟩
          · exact h ▸ ⟨_, .base (.tup (r.keep _ _ i5 (S7 _ _ (S6 _ _ upd_same)))), kit_ty (by decide +kernel)⟩
          · exact h ▸ ⟨_, .base (.dK (r.keep _ _ i6 (S7 _ _ upd_same))), kit_ty (by decide +kernel)⟩
        refine ⟨_, rfl, x, false, false, rfl, .inr ⟨nst, rfl, rfl, ?_⟩⟩
        refine ⟨true, rfl, iteF ?_⟩
        exact ⟨_, _, _, _, _, rfl, ((((Same.keep sm).trans dr.keep).trans (Same.keep S37)).trans r.keep).same np |>.seq hS1⟩
    · exact q _
end
end Gj

set_option maxHeartbeats 0
namespace Gj
open PySem PySem.Spec PyProof.Rows L2
open C8 (Cal pe_c pe_gc)
theorem fun_of_funD {K : PySem.W.Frag} {x q : Str} {st : Stmt} {f : Addr} {fd : FuncData} (F : FunD K x q (defArgs st) (defBody st) (defScope st) [] [] f fd) : Fun K x q st f fd := by
  obtain ⟨oc, od, dV, kV, doc, pm, an, cdv, ct, osl, rfl, lk, hcd, hD, hK⟩ := F.ex
  rcases hD with ⟨_, rfl⟩ | ⟨e, _⟩
  · exact ⟨⟨oc, od, kV, doc, pm, an, cdv, ct, osl, rfl, lk, hcd⟩, F.kp⟩
  · exact absurd rfl e
def dd (x : Str) (i : Nat) : He.DefD := ⟨(x, none), x, x, defArgs (topS i), defBody (topS i), defScope (topS i), [], []⟩
def fn : List He.DefD := [dd "is_text_of" 3, dd "is_name" 4, dd "is_word" 5, dd "_law_pot" 7, dd "_law_digit" 8, dd "_law_sign" 9, dd "_law_text" 10, dd "_law_is" 11, dd "_law_right" 12, dd "law" 13]
def fa : List He.Fa := [.glo "is_text_of", .glo "is_name", .glo "is_word", .glo "_law_pot", .glo "_law_digit", .glo "_law_sign", .glo "_law_text", .glo "_law_is", .glo "_law_right", .glo "law",
  .free "len", .free "isinstance", .free "str", .free "all", .free "max", .free "min", .free "abs", .free "range", .free "int", .free "repr", .str "LETTERS" sLetters, .str "FIGURES" sFigures]
abbrev R : PySem.W.OpenRow := PySem.W.OpenLaw.row PySem.Challenge.rw_walkbox_k11_names_and_words
abbrev hk : PySem.W.Hook := He.hookD 4 fa fn
def ob (s : PySem.W.SharedT) : He.AlD := He.obsDG 4 fa fn (HandSHeadRun.getT s)
theorem ob_eq (s : PySem.W.SharedT) : ob s = hk.obs s.abs := He.obsDG_eq (HandSHeadRun.getT_eq s)
def names : List Str := ["LETTERS", "FIGURES", "is_text_of", "is_name", "is_word", "_law_pot", "_law_digit", "_law_sign", "_law_text", "_law_is", "_law_right"]
theorem run (w : World) : HandSHeadRun.RunEq R (PySem.W.view R.prog [13]) hk ob 2000 names w := by
  intro os
  kernel_rfl
theorem defAt {K : PySem.W.Frag} {h : Heap} {mg : Str → Option Value} (X : K.In h) (G : h.Ns mainGlobals mg) (c : He.SaysD fa fn K) (x : Str) (i : Nat) (h1 : dd x i ∈ fn) (h2 : He.Fa.glo x ∈ fa) : DefAt K mg x (topS i) := by
  obtain ⟨fd, F⟩ := He.SaysD.defs c h1
  exact ⟨_, fd, fun_of_funD F, He.glo_ok X G (He.SaysD.facts c h2)⟩
theorem facts {P : Program} {w : World} {K : PySem.W.Frag} {h : Heap} {mg : Str → Option Value} {f : Addr} (X : K.In h) (G : h.Ns mainGlobals mg) (hfa : mg ("law" : Str) = some (.ref f)) (c : He.SaysD fa fn K) :
    ∃ fd : FuncData, (∀ (s : Shared) (v : Value), BindsTo s fd ⟨[v], []⟩ [("_law_script", v)]) ∧ ∀ base : Heap, K.In base → base.Ns mainGlobals mg → FnOk P w K mg base CX0 4 f fd ["_law_script"] (spLaw K) := by
  obtain ⟨fd, F0⟩ := He.SaysD.defs c (d := dd "law" 13) (.tail _ (.tail _ (.tail _ (.tail _ (.tail _ (.tail _ (.tail _ (.tail _ (.tail _ (.head _))))))))))
  have e := hfa.symm.trans (He.glo_ok X G (c.fact 9 (f := .glo "law") rfl))
  cases e
  have b := FunD.bindsA (ps := ["_law_script"]) F0 fun _ _ _ _ _ _ us hl => match us, hl with | [_], _ => rfl
  have m : Mg mg := ⟨He.free_ok X G (c.fact 10 rfl), He.free_ok X G (c.fact 11 rfl), He.free_ok X G (c.fact 12 rfl), He.free_ok X G (c.fact 13 rfl), He.free_ok X G (c.fact 14 rfl), He.free_ok X G (c.fact 15 rfl), He.free_ok X G (c.fact 16 rfl), He.free_ok X G (c.fact 17 rfl), He.free_ok X G (c.fact 18 rfl), He.free_ok X G (c.fact 19 rfl)⟩
  have st : ∀ {x z : Str}, (∃ t, mg x = some (.str z t)) → ∃ u, mg x = some u ∧ RelV (.str z) u := fun ⟨t, h⟩ => ⟨_, h, t, rfl⟩
  have gs : Gs mg := ⟨st (He.str_ok X G (c.fact 20 rfl)), st (He.str_ok X G (c.fact 21 rfl))⟩
  have dA : ∀ (i j k : Nat) (x : Str) (_ : fn[i]? = some (dd x j)) (_ : fa[i]? = some (.glo x)), DefAt K mg x (topS j) := fun i j k x h1 h2 => defAt X G c x j (List.mem_of_getElem? h1) (List.mem_of_getElem? h2)
  refine ⟨fd, fun s v => b s [v] rfl, fun base _ _ => ?_⟩
  have c1 : Cal P w K mg base 1 "is_text_of" (spTextOf K) [] := ok_text_of (dA 0 3 0 _ rfl rfl) m
  have c2 := ok_is_name (dA 1 4 0 _ rfl rfl) gs c1
  have c3 := ok_is_word (dA 2 5 0 _ rfl rfl) gs c1
  have c4 : Cal P w K mg base 1 "_law_pot" (spPot K) [] := ok_pot (dA 3 7 0 _ rfl rfl) m
  have c5 : Cal P w K mg base 1 "_law_digit" spDigit [] := ok_digit (dA 4 8 0 _ rfl rfl)
  have c6 := ok_sign (dA 5 9 0 _ rfl rfl) m c5
  have c7 := ok_text (dA 6 10 0 _ rfl rfl) m c5 c6
  have c8 : Cal P w K mg base 1 "_law_is" spLawIs [] := ok_law_is (dA 7 11 0 _ rfl rfl) m
  have c9 := ok_right (dA 8 12 0 _ rfl rfl) m c2 c3
  exact ok_law (fun_of_funD F0) m c4 c5 c7 c8 c9
end Gj
open PySem PySem.W PySem.Calls PyProof.Rows
theorem PySem.Challenge.cw_walkbox_k11_names_and_words_holds : PySem.Challenge.rw_walkbox_k11_names_and_words.Holds := by
  w_on; o_law
  refine HandSHeadRun.head_any (r := OpenLaw.row PySem.Challenge.rw_walkbox_k11_names_and_words) (q := view (OpenLaw.row PySem.Challenge.rw_walkbox_k11_names_and_words).prog [13]) (H := Gj.hk) (ob := Gj.ob) (M := 2000) (loose := Gj.names) (d := HandSHeadRun.topDef (OpenLaw.row PySem.Challenge.rw_walkbox_k11_names_and_words).prog 13) (kwd := []) Gj.ob_eq
    (by kernel_rfl) (fun s => by kernel_rfl) Gj.run (by kernel_rfl) (by kernel_rfl) (by kernel_rfl) (by rfl) (by first | assumption | decide +kernel) (by decide +kernel) ⟨rfl, rfl, rfl, rfl, rfl, by decide +kernel⟩ ?hw ?hc
  case hw => w_witness2
  case hc =>
    refine L2.walk_ofE (l := PySem.Challenge.rw_walkbox_k11_names_and_words) (n := 63) (k := 4) (x := "_law_script") (CX := L2.CX0) rfl (by decide) (by kernel_rfl) ⟨rfl, by decide, by decide⟩ ?F (fun _ _ _ _ z => z)
    intro w mg fa h Y G hmg0
    obtain ⟨K, KX, c⟩ := Y
    have hmg : mg ("law" : PySem.Str) = some (.ref fa) := by
      have e : (HandSHeadRun.topDef (OpenLaw.row PySem.Challenge.rw_walkbox_k11_names_and_words).prog 13).name = ("law" : PySem.Str) := by kernel_rfl
      rw [← e]
      exact hmg0
    obtain ⟨fd, hb, hF⟩ := Gj.facts (P := (PySem.Challenge.rw_walkbox_k11_names_and_words).prog) (w := w) KX G hmg c
    exact ⟨K, fd, Gj.spLaw K, KX, hb, fun H a ns hl _ hS => ⟨a, ns, rfl, hS, hl, fun _ => rfl⟩, hF⟩
