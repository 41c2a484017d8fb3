import PyProof.Rows.All
import Wide.All
import OpenK.AllK
import Wide.FinOn
import HandS.ForMost
import HandS.Walk
import HandS.Wide
import HandS.IsInst
import HandS.Codes
import HandS.RaiseMore
import PyProof.NeKinds
import HandS.TupAny
import HandS.Deep
import HandS.Strs
import PyProof.ReprRoads
import HandS.HeadEnd
import HandS.Words
import HandS.Defaults
import HandS.MakeKwOnly
import HandS.TupLe
import HandS.FStrTup
import KE.GoesMore
import HandS.Iter
import HandS.Replace
import HandS.NoneIn
import HandS.Style
import HandS.Head0
import HandS.Head1
import HandS.Head2
import HandS.HeadHook1
import HandS.HeadHook2
import HandS.HeadHook3
import HandS.HeadHook4
import KE.KStateDown
import Lean
import PySem.Challenge.RW_walkbox_k15_whole_thing_texts
set_option Elab.async false
set_option linter.all false
set_option maxRecDepth 100000
/-! own layer: defs by name, a pot of digits, two further rules -/
namespace Gj
open PySem PySem.Spec PyProof.Rows L2
open C8 (Cal pe_c pe_gc)
/-- the def st stands at the module's name x -/
def DefAt (K : PySem.W.Frag) (mg : Str → Option Value) (x : Str) (st : Stmt) : Prop := ∃ f fd, Fun K x x st f fd ∧ mg x = some (.ref f)
section
variable {P : Program} {w : World} {K : PySem.W.Frag} {mg : Str → Option Value} {base : Heap}
theorem mkCal {x : Str} {st : Stmt} {N ps : List Str} {k : Nat} {sp : Sp} (D : DefAt K mg x st)
    (hb : ∀ (kV doc pm : Value) (an : Option Addr) (cdv ct : Value) (us : List Value), us.length = ps.length → bindArgs (PySem.W.fnOf x x (defArgs st) (defBody st) (defScope st) .none kV doc pm an cdv ct) ⟨us, []⟩ = pure (ps.zip us))
    (S : FnScope N ps (defScope st)) (len : ∀ vs H Q E, sp vs H Q E → vs.length = ps.length)
    (hbody : ∀ (f : Addr) (cdv : Value) (A : Around) (outer : List Env) (s : Shared) (H : Hp) (vs : List V) (Q : VK) (E : XK), Room k (A.deeper (envOfC x (defScope st) s.heap.objs.size f cdv)) → sp vs H Q E →
      ∃ t, PSs (cxOf CX0 P w K mg base N x (defScope st) f cdv A outer s H E).nox (defBody st) t ∧ t { nx := fun _ H' => Q .non H', rt := Q } (start N vs) H) : C8.Cal P w K mg base (k + 1) x sp [] := by
  obtain ⟨f, fd, F, g⟩ := D
  exact ⟨f, fd, ps, [], F.ok S len (hbody f), g, F.kp, F.binds hb, .nil⟩
end
/-! ### two rules -/
section
variable {X : Cx}
theorem call_repr_bool : CallR X (.builtin "repr") (fun xs H Q => ∃ b, xs = [.bl b] ∧ Q (.str (if b then "True" else "False")) H) := by
  intro pins s σ H xs us Q I r h
  obtain ⟨b, rfl, q⟩ := h
  obtain ⟨u, rfl, rfl⟩ := vals1 r
  exact PySem.P.repr_of_bool ⟨.str _, H, I.tok _, ⟨_, rfl⟩, q⟩
theorem op_mul_str : OpR X (binaryOp .Mult) (fun x y H Q => ∃ z n, x = .str z ∧ y = .int n ∧ MulOk z n ∧ Q (.str (Txt.mul z n)) H) := by
  intro pins s σ H x y v u Q I rx ry h
  obtain ⟨z, n, rfl, rfl, hz, q⟩ := h
  obtain ⟨t, rfl⟩ := rx
  obtain ⟨t', rfl⟩ := ry
  exact PySem.SB.mul hz fun t' k => ⟨.str _, H, I.tok _, ⟨_, rfl⟩, q⟩
end
/-! ### heaps but for one place -/
def Keep (p : Addr) (H H' : Hp) : Prop := ∀ b o, b ≠ p → H b = some o → H' b = some o
theorem Keep.refl {p : Addr} {H : Hp} : Keep p H H := fun _ _ _ h => h
theorem Keep.trans {p : Addr} {H H1 H2 : Hp} (a : Keep p H H1) (b : Keep p H1 H2) : Keep p H H2 := fun c o n h => b c o n (a c o n h)
theorem Keep.here {p : Addr} {H : Hp} {o : HO} : Keep p H (upd H p o) := fun b x n e => by rw [upd_ne n]; exact e
theorem Same.keep {p : Addr} {H H' : Hp} (a : Same H H') : Keep p H H' := fun b o _ h => a b o h
theorem same_new {H : Hp} {p : Addr} {o : HO} (h : H p = none) : Same H (upd H p o) := fun b x e => by rw [upd_ne (ne_of_none e h)]; exact e
theorem Keep.new {p q : Addr} {H : Hp} {o : HO} (h : H q = none) : Keep p H (upd H q o) := Same.keep (same_new h)
/-! ### a pot of digits -/
def Pot (H : Hp) (p : Addr) : Prop := ∃ a b : Int, H p = some (.lst [.int a, .int b]) ∧ 0 ≤ a ∧ 0 ≤ b ∧ b < 4294967296
theorem Pot.new {H : Hp} {p q : Addr} {o : HO} (h : Pot H p) (n : H q = none) : Pot (upd H q o) p := by
  obtain ⟨a, b, e, r⟩ := h
  exact ⟨a, b, by rw [upd_ne (ne_of_none e n)]; exact e, r⟩
theorem Pot.ne {H : Hp} {p q : Addr} (h : Pot H p) (n : H q = none) : q ≠ p := by
  obtain ⟨a, b, e, r⟩ := h
  exact (ne_of_none e n).symm
theorem Pot.put {H : Hp} {p : Addr} {a b : Int} (h0 : 0 ≤ a) (h1 : 0 ≤ b) (h2 : b < 4294967296) : Pot (upd H p (.lst [.int a, .int b])) p := ⟨a, b, upd_same, h0, h1, h2⟩
/-- what a def that draws of a pot leaves: the pot, and all else as it was -/
structure Drawn (p : Addr) (H H' : Hp) : Prop where
  keep : Keep p H H'
  pot : Pot H' p
theorem Drawn.trans {p : Addr} {H H1 H2 : Hp} (a : Drawn p H H1) (b : Drawn p H1 H2) : Drawn p H H2 := ⟨a.keep.trans b.keep, b.pot⟩
theorem Drawn.new {p q : Addr} {H H' : Hp} {o : HO} (a : Drawn p H H') (h : H' q = none) : Drawn p H (upd H' q o) := ⟨a.keep.trans (Keep.new h), a.pot.new h⟩
def spDigit : Sp := fun vs H Q _ => ∃ (p : Addr) (n : Int), vs = [.ref p, .int n] ∧ Pot H p ∧ 0 < n ∧ n.natAbs.log2 < 9000 ∧ ∀ (d : Int) (H' : Hp), 0 ≤ d → d < n → Drawn p H H' → Q (.int d) H'
def spPot (K : PySem.W.Frag) : Sp := fun vs H Q _ => ∃ (a : Addr) (ns : List Int) (k : Int), vs = [.ref a, .int k] ∧ SqL K H a (ns.map V.int) ∧ 0 ≤ k ∧ k ≤ 1000000 ∧ ∀ (p : Addr) (H' : Hp), H p = none → Same H H' → Pot H' p → Q (.ref p) H'
end Gj

namespace Gj
open PySem PySem.Spec PyProof.Rows L2
open C8 (Cal pe_c pe_gc)
theorem at_some {α : Type} {xs : List α} {d : Int} (h0 : 0 ≤ d) (h1 : d < xs.length) : ∃ x, x ∈ xs ∧ atI xs d = some x := by
  have h : d.toNat < xs.length := by omega
  exact ⟨xs[d.toNat], List.getElem_mem h, at_of' h0 h⟩
where
  at_of' {α : Type} {xs : List α} {d : Int} (h0 : 0 ≤ d) (h : d.toNat < xs.length) : atI xs d = some xs[d.toNat] := by
    have e : d = (d.toNat : Int) := by omega
    have g : xs[d.toNat]? = some xs[d.toNat] := List.getElem?_eq_getElem h
    have := atI_nat g
    rw [← e] at this
    exact this
theorem take_snoc {α : Type} {l : List α} {i : Nat} {x : α} (h : l[i]? = some x) : l.take (i + 1) = l.take i ++ [x] := by
  rw [List.take_add_one, h]
  rfl
theorem Keep.same {p : Addr} {H H' : Hp} (h : Keep p H H') (n : H p = none) : Same H H' := fun b o e => h b o (ne_of_none e n) e
theorem Pot.same {H H' : Hp} {p : Addr} (h : Pot H p) (s : Same H H') : Pot H' p := by
  obtain ⟨a, b, e, r⟩ := h
  exact ⟨a, b, s _ _ e, r⟩
theorem Drawn.same {p : Addr} {H H' H2 : Hp} (a : Drawn p H H') (s : Same H' H2) : Drawn p H H2 := ⟨a.keep.trans (Same.keep s), a.pot.same s⟩
/-! ### a comprehension that draws signs, joined -/
theorem joinL_ones : ∀ l : List Nat, TL.joinL [] (l.map fun c => [c]) = l
  | [] => rfl
  | [_] => rfl
  | a :: b :: r => by
    show [a] ++ ([] ++ TL.joinL [] ((b :: r).map fun c => [c])) = a :: b :: r
    rw [joinL_ones (b :: r)]
    rfl
theorem join_signs (cs : List Nat) : Txt.join "" (cs.map fun c => SX.S [c]) = SX.S cs := by
  have e1 : (cs.map fun c => SX.S [c]) = (cs.map fun c => [c]).map SX.S := by rw [List.map_map]; rfl
  rw [e1, show ("" : Str) = SX.S [] from rfl, SX.join_S, joinL_ones]
/-- i signs of the kind G are drawn into the list at D -/
def Signs (G : Nat → Prop) (p D : Addr) (H : Hp) (i : Nat) (H' : Hp) : Prop := ∃ cs : List Nat, cs.length = i ∧ (∀ c ∈ cs, G c) ∧ Drawn p H H' ∧ D ≠ p ∧ H' D = some (.lst (cs.map fun c => V.str (SX.S [c])))
theorem Signs.start {G : Nat → Prop} {p D : Addr} {H : Hp} (hp : Pot H p) (hD : H D = none) : Signs G p D H 0 (upd H D (.lst [])) := ⟨[], rfl, (fun _ h => by cases h), ⟨Keep.new hD, hp.new hD⟩, hp.ne hD, upd_same⟩
theorem Signs.pot {G : Nat → Prop} {p D : Addr} {H H' : Hp} {i : Nat} (h : Signs G p D H i H') : Pot H' p := by
  obtain ⟨_, _, _, d, _⟩ := h
  exact d.pot
theorem Signs.next {G : Nat → Prop} {p D : Addr} {H H1 H2 : Hp} {i n : Nat} {c : Nat} (hi : i < n) (hn : n ≤ 1000) (hs : Signs G p D H i H1) (hD : H D = none) (r : Drawn p H1 H2) (hc : G c) :
    ∃ acc, H2 D = some (.lst acc) ∧ acc.length < sizeLine ∧ Signs G p D H (i + 1) (upd H2 D (.lst (acc ++ [.str ⟨#[c]⟩]))) := by
  obtain ⟨cs, hl, hg, dr, ne, e⟩ := hs
  refine ⟨_, r.keep _ _ ne e, ?_, cs ++ [c], ?_, ?_, ⟨fun b o nb eb => ?_, ?_⟩, ne, ?_⟩
  · rw [List.length_map]
    exact small1000 (by omega)
  · rw [List.length_append, hl]
    rfl
  · intro x hx
    rcases List.mem_append.mp hx with h | h
    · exact hg x h
    · rw [List.mem_singleton.mp h]
      exact hc
  · rw [upd_ne (ne_of_none eb hD)]
    exact r.keep _ _ nb (dr.keep _ _ nb eb)
  · obtain ⟨a, b, e2, z⟩ := r.pot
    exact ⟨a, b, by rw [upd_ne ne.symm]; exact e2, z⟩
  · rw [upd_same, List.map_append]
    rfl
theorem Signs.join {G : Nat → Prop} {p D : Addr} {H H1 : Hp} {n : Nat} (hn : n ≤ 1000) (hs : Signs G p D H n H1) :
    ∃ (cs : List Nat) (ys : List Str), cs.length = n ∧ (∀ c ∈ cs, G c) ∧ Drawn p H H1 ∧ H1 D = some (.lst (ys.map V.str)) ∧ (ys.map (·.length)).sum + ys.length * (PySem.Str.ofString "").length ≤ 16777216 ∧ Txt.join "" ys = SX.S cs := by
  obtain ⟨cs, hl, hg, dr, ne, e⟩ := hs
  have e2 : ((cs.map fun c => SX.S [c]).map (·.length)).sum = cs.length := by
    clear e dr hl hg
    induction cs with
    | nil => rfl
    | cons x l ih =>
      rw [List.map_cons, List.map_cons, List.sum_cons, ih, List.length_cons]
      show 1 + l.length = l.length + 1
      omega
  refine ⟨cs, cs.map fun c => SX.S [c], hl, hg, dr, ?_, ?_, join_signs cs⟩
  · rw [e, List.map_map]
    rfl
  · rw [e2]
    have : (PySem.Str.ofString "").length = 0 := rfl
    rw [this]
    omega
end Gj

/-! own layer: names by a pot -/
namespace Gj
open PySem PySem.Spec PyProof.Rows L2
open C8 (Cal pe_c pe_gc)
section
variable {X : Cx}
/-- xs != [], t != () -/
def rNeE (K : PySem.W.Frag) : R2 := fun x y H Q => ∃ (a b : Addr) (xs : List V), x = .ref a ∧ y = .ref b ∧ ((SqL K H a xs ∧ SqL K H b []) ∨ (SqT K H a xs ∧ SqT K H b [])) ∧ Q (.bl (!xs.isEmpty)) H
theorem op_neE (hu : X.A.units + 64 < cLine) : OpR X (compareOp .NotEq) (rNeE X.K) := by
  intro pins s σ H x y v u Q I rx ry h
  obtain ⟨a, b, xs, rfl, rfl, hq, q⟩ := h
  cases rx
  cases ry
  have hu0 : X.A.units < cLine := by omega
  rcases hq with ⟨h1, h2⟩ | ⟨h1, h2⟩
  · obtain ⟨its, r1, p1, _⟩ := I.list h1
    obtain ⟨ks, r2, p2, _⟩ := I.list h2
    cases r2
    cases xs with
    | nil =>
      cases r1
      exact SeqAt.RcNeAt.lists (e := fun _ => true) p1.isList p2.isList rfl hu0 (fun j h1 h2 => absurd h1 (Nat.not_lt_zero _)) X.prog X.w _ _ ⟨.bl _, H, I, rfl, q⟩
    | cons z l =>
      cases r1
      exact SeqAt.RcNeAt.lists_lengths p1.isList p2.isList (by simp) hu0 X.prog X.w _ _ ⟨.bl _, H, I, rfl, q⟩
  · obtain ⟨its, r1, p1, _⟩ := I.tuple h1
    obtain ⟨ks, r2, p2, _⟩ := I.tuple h2
    cases r2
    have := SeqAt.RcNeAt.tuples (A := X.A) (e := fun _ => true) p1 p2 hu0 (fun j h1 h2 => absurd h2 (Nat.not_lt_zero _)) X.prog X.w X.xe (EP X pins σ Q)
    refine this ⟨.bl _, H, I, ?_, q⟩
    cases xs with
    | nil =>
      cases r1
      rfl
    | cons z l =>
      cases r1
      simp
      rfl
end
/-! ### names -/
abbrev ltrs : List Nat := (PySem.Str.ofString "abcdefghijklmnopqrstuvwxyz").cps.toList
structure NameS (z : Str) : Prop where
  ex : ∃ cs : List Nat, z = SX.S cs ∧ 1 ≤ cs.length ∧ cs.length ≤ 8 ∧ ∀ c ∈ cs, c ∈ ltrs
theorem NameS.len {z : Str} (h : NameS z) : z.length ≤ 8 := by
  obtain ⟨cs, rfl, h1, h2, _⟩ := h.ex
  rw [SX.S_len]
  exact h2
theorem NameS.small {z : Str} (h : NameS z) : z.length ≤ 1000 := Nat.le_trans h.len (by decide)
theorem name_one {c : Nat} (h : c ∈ ltrs) : NameS (SX.S [c]) := ⟨[c], rfl, Nat.le_refl _, (by show 1 ≤ 8; decide), fun x hx => by rw [List.mem_singleton.mp hx]; exact h⟩
/-- a list without doubles within another one -/
theorem nodup_le {α : Type} [DecidableEq α] : ∀ (l D : List α), l.Nodup → (∀ x ∈ l, x ∈ D) → l.length ≤ D.length
  | [], _, _, _ => Nat.zero_le _
  | x :: l, D, hn, hs => by
    obtain ⟨h1, h2⟩ := List.nodup_cons.mp hn
    have hx : x ∈ D := hs x List.mem_cons_self
    have ih := nodup_le l (D.erase x) h2 fun y hy => (List.mem_erase_of_ne (fun e : y = x => h1 (e ▸ hy))).mpr (hs y (List.mem_cons_of_mem _ hy))
    have e := List.length_erase_of_mem hx
    have hp := List.length_pos_of_mem hx
    rw [List.length_cons]
    omega
theorem fresh_letter {us : List Str} (h : us.length ≤ 25) : ∃ c ∈ ltrs, SX.S [c] ∉ us := by
  rcases Classical.em (∃ c ∈ ltrs, SX.S [c] ∉ us) with q | q
  · exact q
  · exfalso
    have sub : ∀ z ∈ ltrs.map (fun c => SX.S [c]), z ∈ us := fun z hz => by
      obtain ⟨c, hc, rfl⟩ := List.mem_map.mp hz
      rcases Classical.em (SX.S [c] ∈ us) with k | k
      · exact k
      · exact absurd ⟨c, hc, k⟩ q
    have nd : (ltrs.map fun c => SX.S [c]).Nodup := by decide +kernel
    have := nodup_le _ us nd sub
    rw [List.length_map] at this
    have e : ltrs.length = 26 := by decide +kernel
    omega
def spName : Sp := fun vs H Q _ => ∃ (p u : Addr) (us : List Str), vs = [.ref p, .ref u] ∧ Pot H p ∧ u ≠ p ∧ H u = some (.lst (us.map V.str)) ∧ (∀ z ∈ us, NameS z) ∧ us.length ≤ 25 ∧ ∀ (z : Str) (H' : Hp), NameS z → z ∉ us → Drawn p H H' → Q (.str z) H'
def spNames : Sp := fun vs H Q _ => ∃ (p u : Addr) (us : List Str) (n : Nat), vs = [.ref p, .int (n : Nat), .ref u] ∧ Pot H p ∧ u ≠ p ∧ H u = some (.lst (us.map V.str)) ∧ (∀ z ∈ us, NameS z) ∧ us.length + n ≤ 25 ∧
  ∀ (q : Addr) (zs : List Str) (H' : Hp), H q = none → q ≠ p → zs.length = n → (∀ z ∈ zs, NameS z) → zs.Nodup → (∀ z ∈ zs, z ∉ us) → Drawn p H H' → H' q = some (.lst (zs.map V.str)) → Q (.ref q) H'
/-! ### words -/
abbrev wrds : List Nat := (PySem.Str.ofString "abcdefghijklmnopqrstuvwxyz0123456789").cps.toList
structure WordS (z : Str) : Prop where
  ex : ∃ cs : List Nat, z = SX.S cs ∧ 1 ≤ cs.length ∧ cs.length ≤ 12 ∧ ∀ c ∈ cs, c ∈ wrds
theorem WordS.small {z : Str} (h : WordS z) : z.length ≤ 1000 := by
  obtain ⟨cs, rfl, h1, h2, _⟩ := h.ex
  rw [SX.S_len]
  omega
def spWord : Sp := fun vs H Q _ => ∃ (p : Addr), vs = [.ref p] ∧ Pot H p ∧ ∀ (z : Str) (H' : Hp), WordS z → Drawn p H H' → Q (.str z) H'
def spWhole : Sp := fun vs H Q _ => ∃ (p : Addr) (n : Int), vs = [.ref p, .int n] ∧ Pot H p ∧ ∀ (i : Int) (H' : Hp), n ≤ i → i < n + 10 ^ 30 → Drawn p H H' → Q (.int i) H'
theorem inV_strs {z : Str} {us : List Str} : inV (.str z) (us.map V.str) = decide (z ∈ us) := by
  induction us with
  | nil => rfl
  | cons y l ih =>
    show (eqV (.str y) (.str z) || inV (.str z) (l.map V.str)) = _
    rw [ih]
    show ((y == z) || decide (z ∈ l)) = decide (z ∈ y :: l)
    by_cases e : z = y
    · subst e
      rw [beq_self_eq_true, decide_eq_true (List.mem_cons_self)]
      rfl
    · rw [beq_eq_false_iff_ne.mpr fun h => e h.symm]
      by_cases h : z ∈ l
      · rw [decide_eq_true h, decide_eq_true (List.mem_cons_of_mem _ h)]
        rfl
      · rw [decide_eq_false h, decide_eq_false fun q => (List.mem_cons.mp q).elim e h]
        rfl
theorem flat_strs (us : List Str) : (us.map V.str).all flatV = true := by
  induction us with
  | nil => rfl
  | cons y l ih => exact ih
end Gj

namespace Gj
open PySem PySem.Spec PyProof.Rows L2
open C8 (Cal pe_c pe_gc)
def topS (i : Nat) : Stmt := PySem.Challenge.pw_walkbox_k15_whole_thing_texts.main.body.getD i (.Pass ⟨0, 0, 0, 0⟩)
structure Mg (mg : Str → Option Value) : Prop where
  len : mg "len" = none
  isinstance : mg "isinstance" = none
  str : mg "str" = none
  all : mg "all" = none
  max : mg "max" = none
  min : mg "min" = none
  abs : mg "abs" = none
  range : mg "range" = none
  int : mg "int" = none
  repr : mg "repr" = none
  tuple : mg "tuple" = none
  bool : mg "bool" = none
  set : mg "set" = none
  list : mg "list" = none
  enumerate : mg "enumerate" = none
section
variable {P : Program} {w : World} {K : PySem.W.Frag} {mg : Str → Option Value} {base : Heap}
theorem sc__law_digit : FnScope ["_law_pot_here", "_law_many", "_law_digit_here"] ["_law_pot_here", "_law_many"] (defScope (topS 30)) := ⟨rfl, rfl, rfl, by decide +kernel, rfl, by decide +kernel, by decide +kernel⟩
theorem ok__law_digit (D : DefAt K mg "_law_digit" (topS 30)) : Cal P w K mg base 1 "_law_digit" spDigit [] := by
  have sc := sc__law_digit
  refine mkCal D (fun _ _ _ _ _ _ us hl => match us, hl with | [_, _], _ => rfl) sc (fun vs H Q E h => ?_) (fun f cdv A outer s H vs Q E hr h => ?_)
  · obtain ⟨p, n, rfl, _⟩ := h
    rfl
  · obtain ⟨p, n, rfl, ⟨a, b, ep, ha, hb, hb2⟩, hn, hn2, q⟩ := h
    refine ⟨_, (pss_cons (ps_if (pt_cmpR op_gt (pe_ix ix_list (pv 0) pe_int (fun _ _ => rfl)) pe_int (nomark _))
  (pss_cons (ps_set (i := 2) sc.nd rfl (.inl rfl) (pe_op op_mod (pe_ix ix_list (pv 0) pe_int (fun _ _ => rfl)) (pv 1)))
  (pss_cons (ps_asg (pe_op op_fdivW (pe_ix ix_list (pv 0) pe_int (fun _ _ => rfl)) (pv 1)) (pg_sub (pv 0) pe_int set_list))
  (pss_one (ps_ret (pv 2)))))
  pss_nil)
  (pss_cons (ps_asg (pe_op op_mod (pe_op op_add (pe_op op_mul (pe_ix ix_list (pv 0) pe_int (fun _ _ => rfl)) pe_int) pe_int) pe_int) (pg_sub (pv 0) pe_int set_list))
  (pss_one (ps_ret (pe_op op_mod (pe_op op_fdivW (pe_op op_mod (pe_op op_mul (pe_ix ix_list (pv 0) pe_int (fun _ _ => rfl)) (pe_ix ix_list (pv 0) pe_int (fun _ _ => rfl))) pe_int) pe_int) (pv 1)))))), ?_⟩
    have g0 : ∀ {x y : V}, atI [x, y] 0 = some x := fun {x y} => rfl
    have g1 : ∀ {x y : V}, atI [x, y] 1 = some y := fun {x y} => rfl
    refine ⟨_, rfl, p, _, 0, _, rfl, rfl, SqL.of ep, g0, _, _, rfl, rfl, _, rfl, ite2 (fun c => ?_) (fun c => ?_)⟩
    · have c : 0 < a := of_decide_eq_true c
      refine ⟨_, rfl, p, _, 0, _, rfl, rfl, SqL.of ep, g0, _, rfl, _, _, rfl, rfl, hn, ?_⟩
      refine ⟨_, rfl, p, _, 0, _, rfl, rfl, SqL.of ep, g0, _, rfl, _, _, rfl, rfl, ⟨hn, hn2⟩, ?_⟩
      refine ⟨_, rfl, p, _, 0, 0, rfl, rfl, ep, rfl, _, rfl, ?_⟩
      exact q _ _ (Int.emod_nonneg _ (by omega)) (Int.emod_lt_of_pos _ hn) ⟨Keep.here, Pot.put (Int.ediv_nonneg ha (by omega)) hb hb2⟩
    · refine ⟨_, rfl, p, _, 1, _, rfl, rfl, SqL.of ep, g1, _, _, rfl, rfl, .inl ⟨by omega, by omega⟩, _, _, rfl, rfl, _, _, rfl, rfl, (by decide : (0 : Int) < 2147483647), ?_⟩
      have h1 : 0 ≤ (b * 39373 + 20011) % 2147483647 := Int.emod_nonneg _ (by decide)
      have h2 : (b * 39373 + 20011) % 2147483647 < 2147483647 := Int.emod_lt_of_pos _ (by decide)
      refine ⟨_, rfl, p, _, 1, 1, rfl, rfl, ep, rfl, ?_⟩
      refine ⟨_, rfl, p, _, 1, _, rfl, rfl, SqL.of upd_same, g1, _, rfl, p, _, 1, _, rfl, rfl, SqL.of upd_same, g1, _, _, rfl, rfl, .inl ⟨by omega, by omega⟩, _, _, rfl, rfl, (by decide : (0 : Int) < 2147483563), _, _, rfl, rfl, ⟨by decide, by decide⟩, _, rfl, _, _, rfl, rfl, hn, ?_⟩
      exact q _ _ (Int.emod_nonneg _ (by omega)) (Int.emod_lt_of_pos _ hn) ⟨Keep.here, Pot.put ha h1 (by omega)⟩
theorem sc__law_pot : FnScope ["_law_script", "_law_k", "_law_cell"] ["_law_script", "_law_k"] (defScope (topS 29)) := ⟨rfl, rfl, rfl, by decide +kernel, rfl, by decide +kernel, by decide +kernel⟩
theorem ok__law_pot (D : DefAt K mg "_law_pot" (topS 29)) (m : Mg mg) : Cal P w K mg base 1 "_law_pot" (spPot K) [] := by
  have sc := sc__law_pot
  refine mkCal D (fun _ _ _ _ _ _ us hl => match us, hl with | [_, _], _ => rfl) sc (fun vs H Q E h => ?_) (fun f cdv A outer s H vs Q E hr h => ?_)
  · obtain ⟨a, ns, k, rfl, _⟩ := h
    rfl
  · obtain ⟨a, ns, k, rfl, hS, hk, hk2, q⟩ := h
    refine ⟨_, (pss_cons (ps_set (i := 2) sc.nd rfl (.inl rfl) (pe_ifExp (pt_cmpR op_lt (pv 1) (pe_callB call_len (by rfl) m.len (by decide +kernel) (pa_cons (pv 0) pa_nil)) (nomark _)) (pe_ix ix_list (pv 0) (pv 1) (fun _ _ => rfl)) pe_int))
  (pss_one (ps_ret (pe_lst (pa_cons (pe_callB (call_max2 rfl) (by rfl) m.max (by decide +kernel) (pa_cons pe_int (pa_cons (pe_op op_sub (pe_callB call_abs (by rfl) m.abs (by decide +kernel) (pa_cons (pv 2) pa_nil)) (pe_op op_pow pe_int pe_int)) pa_nil))) (pa_cons (pe_op op_add (pe_op op_add (pe_op op_mod (pe_callB call_abs (by rfl) m.abs (by decide +kernel) (pa_cons (pv 2) pa_nil)) pe_int) (pe_op op_mul pe_int (pv 1))) pe_int) pa_nil)))))), ?_⟩
    have c18 : CPow 10 18 := ⟨by decide, by decide, by decide⟩
    refine ⟨_, rfl, _, rfl, _, _, rfl, .inl ⟨_, hS, rfl⟩, _, _, rfl, rfl, _, rfl, ite2 (fun c => ?_) (fun c => ?_)⟩
    · have c : k < ((ns.map V.int).length : Int) := of_decide_eq_true c
      have hi : k.toNat < ns.length := by rw [List.length_map] at c; omega
      have g : atI (ns.map V.int) k = some (.int ns[k.toNat]) := at_of (j := k.toNat) (by omega) (by rw [List.getElem?_map, List.getElem?_eq_getElem hi]; rfl)
      refine ⟨_, rfl, _, rfl, a, _, k, _, rfl, rfl, hS, g, ?_⟩
      refine ⟨_, rfl, _, rfl, _, _, rfl, rfl, c18, _, _, rfl, rfl, _, _, rfl, _, rfl, _, rfl, _, _, rfl, rfl, (by decide : (0 : Int) < 2147483587), _, rfl, _, _, rfl, rfl, .inl ⟨by decide, by decide⟩, _, _, rfl, rfl, _, _, rfl, rfl, (by show 2 ≤ sizeLine; decide), fun p hp => q p _ hp (same_new hp) ⟨_, _, upd_same, ?_, ?_, ?_⟩⟩
      · split <;> omega
      · have := Int.emod_nonneg (if ns[k.toNat] < 0 then -ns[k.toNat] else ns[k.toNat]) (show (2147483587 : Int) ≠ 0 by decide)
        omega
      · have := Int.emod_lt_of_pos (if ns[k.toNat] < 0 then -ns[k.toNat] else ns[k.toNat]) (show (0 : Int) < 2147483587 by decide)
        omega
    · refine ⟨_, rfl, _, rfl, _, _, rfl, rfl, c18, _, _, rfl, rfl, _, _, rfl, _, rfl, _, rfl, _, _, rfl, rfl, (by decide : (0 : Int) < 2147483587), _, rfl, _, _, rfl, rfl, .inl ⟨by decide, by decide⟩, _, _, rfl, rfl, _, _, rfl, rfl, (by show 2 ≤ sizeLine; decide), fun p hp => q p _ hp (same_new hp) ⟨_, _, upd_same, ?_, ?_, ?_⟩⟩
      · split <;> omega
      · have : (if (0 : Int) < 0 then -0 else 0) % 2147483587 = (0 : Int) := by decide
        omega
      · have : (if (0 : Int) < 0 then -0 else 0) % 2147483587 = (0 : Int) := by decide
        omega
end
end Gj

/-! own layer: data in the heap (lists, tuples, empty dicts), beside a pot at p -/
namespace Gj
open PySem PySem.Spec PyProof.Rows L2
open C8 (Cal pe_c pe_gc)
section
open PySem.SeqAt AutoSeq1 MeetsSeq
/-! ### a dict and a text are unlike -/
theorem dict_no_str (l : Addr) (o : Obj) (hc : o.cls = .type "dict") (b : Str) (u : Tok) : Meets (Builtin.«dict.__eq__» ⟨[.ref l, .str b u], []⟩) (fun _ R s => s.heap.get? l = some o ∧ R (.ok (.ret .notImplemented)) s) :=
  .of_wp fun prog w A R s h => by
    obtain ⟨hp, g, d, tk, os⟩ := s
    obtain ⟨hl, h⟩ := h
    have f1 := F.sub_str_dict
    wp_walk using wpAny_loadPart' hl
    exact ⟨_, rfl, h⟩
theorem str_no_dict (l : Addr) (c : Value) (dd : Option Addr) (es : Array DictEntry) (n : Nat) (sl : Array (Option Value)) (b : Str) (u : Tok) : Meets (Builtin.«str.__eq__» ⟨[.str b u, .ref l], []⟩) (fun _ R s => s.heap.get? l = some ⟨c, dd, .dict es n, sl⟩ ∧ R (.ok (.ret .notImplemented)) s) :=
  .of_wp fun prog w A R s h => by
    obtain ⟨hp, g, d, tk, os⟩ := s
    obtain ⟨hl, h⟩ := h
    wp_walk using wpAny_loadPart' hl, wpAny_load hl
    exact ⟨_, rfl, h⟩
variable {A : Around} {s : Shared}
theorem rc_dict_str {l : Addr} {dd : Option Addr} {es : Array DictEntry} {n : Nat} {sl : Array (Option Value)} (b : Str) (u : Tok) (ho : s.heap.get? l = some ⟨.type "dict", dd, .dict es n, sl⟩) (hu : A.units < cLine) : RcAt A s (.ref l) (.str b u) false := fun prog w E Q h =>
  rc_eq_decline_or (k := false) ⟨_, ho, rfl⟩ (typeIs_str s b u) (by decide) F.sub_str_dict F.slot_dict_eq F.slot_str_eq_refl
    (fun _ hq => call_meets F.slot_dict_eq ⟨_, ho, rfl⟩ F.entry_dict_eq (F.args_dict_eq_2 _ _) (dict_no_str l _ rfl b u) ⟨ho, hq⟩)
    (fun _ hq => call_meets F.slot_str_eq_refl (typeIs_str s b u) F.entry_str_eq (F.args_str_eq_2 _ _) (str_no_dict l _ _ _ _ _ b u) ⟨ho, hq⟩)
    (fun _ hq => wpAny_of_eq (rfl : isSame (.ref l) (.str b u) = pure false) hq) (.inr hu) h
theorem rc_str_dict {l : Addr} {dd : Option Addr} {es : Array DictEntry} {n : Nat} {sl : Array (Option Value)} (b : Str) (u : Tok) (ho : s.heap.get? l = some ⟨.type "dict", dd, .dict es n, sl⟩) (hu : A.units < cLine) : RcAt A s (.str b u) (.ref l) false := fun prog w E Q h =>
  rc_eq_decline_or (k := false) (typeIs_str s b u) ⟨_, ho, rfl⟩ (by decide) F.sub_dict_str F.slot_str_eq F.slot_dict_eq_refl
    (fun _ hq => call_meets F.slot_str_eq (typeIs_str s b u) F.entry_str_eq (F.args_str_eq_2 _ _) (str_no_dict l _ _ _ _ _ b u) ⟨ho, hq⟩)
    (fun _ hq => call_meets F.slot_dict_eq_refl ⟨_, ho, rfl⟩ F.entry_dict_eq (F.args_dict_eq_2 _ _) (dict_no_str l _ rfl b u) ⟨ho, hq⟩)
    (fun _ hq => wpAny_of_eq (rfl : isSame (.str b u) (.ref l) = pure false) hq) (.inr hu) h
theorem eq_str_dict {l : Addr} {dd : Option Addr} {es : Array DictEntry} {n : Nat} {sl : Array (Option Value)} (b : Str) (u : Tok) (ho : s.heap.get? l = some ⟨.type "dict", dd, .dict es n, sl⟩) (hu : A.units < cLine) : EqAt A s (.str b u) (.ref l) false := fun prog w E Q h => by
  unfold eqBool
  exact wpAny_holding (wpAny_ite_split (fun hab => absurd (eq_of_beq hab) nofun) fun _ => wpAny_bind (rc_str_dict b u ho hu prog w E _ (wpAny_truthy_bool h)))
end
/-! ### data, away from the pot at p -/
mutual
inductive Dt (p : Addr) (H : Hp) : V → PyData → Prop
  | non : Dt p H .non .none
  | bl (b : Bool) : Dt p H (.bl b) (.bool b)
  | int (i : Int) : Dt p H (.int i) (.int i)
  | str (x : Str) : x.length ≤ 1000 → Dt p H (.str x) (.str x)
  | lst {a : Addr} {xs : List V} {ds : List PyData} : a ≠ p → xs.length ≤ 1000 → H a = some (.lst xs) → DtAll p H xs ds → Dt p H (.ref a) (.list ds)
  | tup {a : Addr} {xs : List V} {ds : List PyData} : a ≠ p → xs.length ≤ 1000 → H a = some (.tup xs) → DtAll p H xs ds → Dt p H (.ref a) (.tuple ds)
  | dic {a : Addr} : a ≠ p → H a = some (.dK []) → Dt p H (.ref a) (.dict [])
inductive DtAll (p : Addr) (H : Hp) : List V → List PyData → Prop
  | nil : DtAll p H [] []
  | cons {v : V} {vs : List V} {d : PyData} {ds : List PyData} : Dt p H v d → DtAll p H vs ds → DtAll p H (v :: vs) (d :: ds)
end
section
variable {p : Addr} {H H' : Hp}
mutual
theorem Dt.keep (k : Keep p H H') : ∀ {v : V} {d : PyData}, Dt p H v d → Dt p H' v d
  | _, _, .non => .non
  | _, _, .bl b => .bl b
  | _, _, .int i => .int i
  | _, _, .str x z => .str x z
  | _, _, .lst n z e h => .lst n z (k _ _ n e) (DtAll.keep k h)
  | _, _, .tup n z e h => .tup n z (k _ _ n e) (DtAll.keep k h)
  | _, _, .dic n e => .dic n (k _ _ n e)
theorem DtAll.keep (k : Keep p H H') : ∀ {vs : List V} {ds : List PyData}, DtAll p H vs ds → DtAll p H' vs ds
  | _, _, .nil => .nil
  | _, _, .cons a b => .cons (Dt.keep k a) (DtAll.keep k b)
end
theorem Dt.same {v : V} {d : PyData} (h : Dt p H v d) (s : Same H H') : Dt p H' v d := h.keep (Same.keep s)
theorem DtAll.same {v : List V} {d : List PyData} (h : DtAll p H v d) (s : Same H H') : DtAll p H' v d := h.keep (Same.keep s)
theorem DtAll.length : ∀ {vs : List V} {ds : List PyData}, DtAll p H vs ds → vs.length = ds.length
  | _, _, .nil => rfl
  | _, _, .cons _ b => by rw [List.length_cons, List.length_cons, DtAll.length b]
theorem DtAll.get : ∀ {vs : List V} {ds : List PyData} {i : Nat} {v : V}, DtAll p H vs ds → vs[i]? = some v → ∃ d, ds[i]? = some d ∧ Dt p H v d
  | _, _, i, v, .nil, e => by simp at e
  | _, _, 0, v, .cons a b, e => by
    have e : _ = v := Option.some.inj e
    subst e
    exact ⟨_, rfl, a⟩
  | _, _, i + 1, v, .cons a b, e => DtAll.get b (i := i) e
theorem DtAll.append : ∀ {vs ws : List V} {ds es : List PyData}, DtAll p H vs ds → DtAll p H ws es → DtAll p H (vs ++ ws) (ds ++ es)
  | _, _, _, _, .nil, h => h
  | _, _, _, _, .cons a b, h => .cons a (DtAll.append b h)
theorem DtAll.take : ∀ {vs : List V} {ds : List PyData} (n : Nat), DtAll p H vs ds → DtAll p H (vs.take n) (ds.take n)
  | _, _, 0, _ => .nil
  | _, _, n + 1, .nil => .nil
  | _, _, n + 1, .cons a b => .cons a (DtAll.take n b)
theorem DtAll.drop : ∀ {vs : List V} {ds : List PyData} (n : Nat), DtAll p H vs ds → DtAll p H (vs.drop n) (ds.drop n)
  | _, _, 0, h => h
  | _, _, n + 1, .nil => .nil
  | _, _, n + 1, .cons a b => DtAll.drop n b
theorem DtAll.strs : ∀ {zs : List Str}, (∀ z ∈ zs, z.length ≤ 1000) → DtAll p H (zs.map V.str) (zs.map PyData.str)
  | [], _ => .nil
  | z :: l, h => .cons (.str z (h z List.mem_cons_self)) (DtAll.strs fun y hy => h y (List.mem_cons_of_mem _ hy))
/-- the name of its type -/
def kind : PyData → String
  | .none => "NoneType"
  | .bool _ => "bool"
  | .int _ => "int"
  | .str _ => "str"
  | .list _ => "list"
  | .tuple _ => "tuple"
  | .dict _ => "dict"
theorem Dt.ty {K : PySem.W.Frag} {v : V} {d : PyData} (h : Dt p H v d) : TyX K H v (.type (kind d)) := by
  cases h with
  | non => exact .base .non
  | bl b => exact .base (.bl b)
  | int i => exact .base (.int i)
  | str x z => exact .base (.str x)
  | lst n z e h => exact .base (.lst e)
  | tup n z e h => exact .base (.tup e)
  | dic n e => exact .base (.dK e)
end
/-- isinstance(x, T) -/
def isa (d : PyData) (T : String) : Bool := (kitB (kind d) T).getD false
theorem kit_isa {K : PySem.W.Frag} {d : PyData} {T : String} (h : T = "str" ∨ T = "tuple" ∨ T = "int" ∨ T = "bool" ∨ T = "list") : PySem.W.kitOne K (.type (kind d)) (.type T) = some (isa d T) := by
  refine kit_ty ?_
  unfold isa
  rcases h with rfl | rfl | rfl | rfl | rfl <;> cases d <;> (dsimp only [kind]; decide +kernel)
def rIsD (K : PySem.W.Frag) (T : String) : List V → Hp → VK → Prop := fun xs H Q => ∃ (p : Addr) (x : V) (d : PyData), xs = [x, .ty T] ∧ Dt p H x d ∧ Q (.bl (isa d T)) H
section
variable {X : Cx}
theorem call_isD {T : String} (h : T = "str" ∨ T = "tuple" ∨ T = "int" ∨ T = "bool" ∨ T = "list") : CallR X (.builtin "isinstance") (rIsD X.K T) := by
  intro pins s σ H xs us Q I r hh
  obtain ⟨p, x, d, rfl, hd, q⟩ := hh
  exact call_isi pins s σ H _ us Q I r ⟨x, .ty T, _, _, isa d T, rfl, .ty T, hd.ty, kit_isa h, q⟩
/-- the text that it is -/
def isT (d : PyData) (z : Str) : Bool := match d with
  | .str y => y == z
  | _ => false
theorem dic_at {pins : List (Addr × Obj)} {σ : L2.St} {H : Hp} {s : Shared} {a : Addr} (I : Inv X pins σ H s) (e : H a = some (.dK [])) : ∃ (o : Obj) (es : Array DictEntry) (ep : Nat), s.heap.get? a = some o ∧ o.cls = .type "dict" ∧ o.data = .dict es ep := by
  obtain ⟨_, _, vs, _, o, es, ep, h1, h2, h3, _⟩ := (show ObjOk X.prog X.w H s.heap a (.dK []) from I.hok a _ e)
  exact ⟨o, es, ep, h1, h2.1, h3⟩
/-- x == z, z a text -/
theorem rc_txt {pins : List (Addr × Obj)} {σ : L2.St} {H : Hp} {s : Shared} {A : Around} {p : Addr} {x : V} {d : PyData} {v : Value} {z : Str} {t : Tok} (I : Inv X pins σ H s) (hd : Dt p H x d) (r : RelV x v) (hu : A.units < cLine) : SeqAt.RcAt A s v (.str z t) (isT d z) := by
  cases hd with
  | non => cases r; exact SeqAt.RcAt.none_str _ _
  | bl b => cases r; exact SeqAt.RcAt.bool_str _ _ _
  | int i => obtain ⟨t', rfl⟩ := r; exact SeqAt.RcAt.int_str _ _ _ _
  | str y z0 => obtain ⟨t', rfl⟩ := r; exact SeqAt.RcAt.str_str _ _ _ _
  | lst n z0 e h =>
    cases r
    obtain ⟨its, _, pl, _⟩ := I.list (SqL.of e)
    exact SeqAt.RcAt.list_str _ _ pl.isList hu
  | tup n z0 e h =>
    cases r
    obtain ⟨its, _, pl, _⟩ := I.tuple (SqT.of e)
    exact SeqAt.RcAt.tuple_str _ _ pl hu
  | @dic a n e =>
    cases r
    obtain ⟨o, es, ep, h1, h2, h3⟩ := dic_at I e
    obtain ⟨oc, od, dt, sl⟩ := o
    cases h2
    cases h3
    exact rc_dict_str _ _ h1 hu
/-- z == x, z a text -/
theorem eq_txt {pins : List (Addr × Obj)} {σ : L2.St} {H : Hp} {s : Shared} {A : Around} {p : Addr} {x : V} {d : PyData} {v : Value} {z : Str} {t : Tok} (I : Inv X pins σ H s) (hd : Dt p H x d) (r : RelV x v) (hu : A.units < cLine) : SeqAt.EqAt A s (.str z t) v (isT d z) := by
  cases hd with
  | non => cases r; exact SeqAt.EqAt.str_none _ _
  | bl b => cases r; exact SeqAt.EqAt.str_bool _ _ _
  | int i => obtain ⟨t', rfl⟩ := r; exact SeqAt.EqAt.str_int _ _ _ _
  | str y z0 =>
    obtain ⟨t', rfl⟩ := r
    have e : isT (.str y) z = (z == y) := by
      show (y == z) = (z == y)
      exact Bool.eq_iff_iff.mpr ⟨fun h => by rw [eq_of_beq h]; exact beq_self_eq_true _, fun h => by rw [eq_of_beq h]; exact beq_self_eq_true _⟩
    rw [e]
    exact SeqAt.EqAt.str_str _ _ _ _
  | lst n z0 e h =>
    cases r
    obtain ⟨its, _, pl, _⟩ := I.list (SqL.of e)
    exact SeqAt.EqAt.str_list _ _ pl.isList hu
  | tup n z0 e h =>
    cases r
    obtain ⟨its, _, pl, _⟩ := I.tuple (SqT.of e)
    exact SeqAt.EqAt.str_tuple _ _ pl hu
  | @dic a n e =>
    cases r
    obtain ⟨o, es, ep, h1, h2, h3⟩ := dic_at I e
    obtain ⟨oc, od, dt, sl⟩ := o
    cases h2
    cases h3
    exact eq_str_dict _ _ h1 hu
def rEqT : R2 := fun x y H Q => ∃ p d z, y = .str z ∧ Dt p H x d ∧ Q (.bl (isT d z)) H
theorem op_eqT (hu : X.A.units + 64 < cLine) : OpR X (compareOp .Eq) rEqT := by
  intro pins s σ H x y v u Q I rx ry h
  obtain ⟨p, d, z, rfl, hd, q⟩ := h
  obtain ⟨t, rfl⟩ := ry
  exact rc_txt I hd rx (by omega) X.prog X.w _ _ ⟨.bl _, H, I, rfl, q⟩
/-- x in [texts] -/
def rInT (K : PySem.W.Frag) : R2 := fun x y H Q => ∃ (p a : Addr) (d : PyData) (zs : List Str), y = .ref a ∧ SqL K H a (zs.map V.str) ∧ Dt p H x d ∧ Q (.bl (zs.any fun z => isT d z)) H
def isTv (d : PyData) : Value → Bool
  | .str z _ => isT d z
  | _ => false
theorem any_isTv (d : PyData) : ∀ {zs : List Str} {us : List Value}, Vals (zs.map V.str) us → us.any (isTv d) = zs.any fun z => isT d z
  | [], _, .nil => rfl
  | z :: zs, _, .cons r t => by
    obtain ⟨k, rfl⟩ := r
    rw [List.any_cons, List.any_cons, any_isTv d t]
    rfl
theorem mem_strs : ∀ {zs : List Str} {us : List Value}, Vals (zs.map V.str) us → ∀ u ∈ us, ∃ z t, u = .str z t
  | [], _, .nil, u, hu => by cases hu
  | z :: zs, _, .cons r t, u, hu => by
    rcases List.mem_cons.mp hu with e | hu
    · obtain ⟨k, rfl⟩ := r
      exact ⟨z, k, e⟩
    · exact mem_strs t u hu
theorem op_inT (hu : X.A.units + 64 < cLine) : OpR X (compareOp .In) (rInT X.K) := by
  intro pins s σ H x y v u Q I rx ry h
  obtain ⟨p, a, d, zs, rfl, hs, hd, q⟩ := h
  cases ry
  obtain ⟨its, rv, pl, _⟩ := I.list hs
  refine SeqAt.in_listAt (isTv d) pl.isList (fun z hz => ?_) ⟨.bl _, H, I, rfl, ?_⟩
  · obtain ⟨w, t, rfl⟩ := mem_strs rv z (by simpa using hz)
    exact eq_txt I hd rx (by show X.A.units + 1 < cLine; omega)
  · rw [show its.toArray.any (isTv d) = its.any (isTv d) by simp, any_isTv d rv]
    exact q
end
end Gj

/-! own layer: tests of data -/
namespace Gj
open PySem PySem.Spec PyProof.Rows L2
open C8 (Cal pe_c pe_gc)
/-- a def that tells a truth of one datum -/
def spPred (f : PyData → Bool) : Sp := fun vs H Q _ => ∃ (p : Addr) (v : V) (d : PyData), vs = [v] ∧ Dt p H v d ∧ ∀ H', Same H H' → Q (.bl (f d)) H'
/-- .. and a number -/
def spPredN (f : PyData → Int → Bool) : Sp := fun vs H Q _ => ∃ (p : Addr) (v : V) (d : PyData) (n : Int), vs = [v, .int n] ∧ Dt p H v d ∧ ∀ H', Same H H' → Q (.bl (f d n)) H'
/-- an expression that tells b, whatever it lays -/
def Say (t : TE) (σ : L2.St) (H : Hp) (b : Bool) : Prop := ∀ Q : VK, (∀ H', Same H H' → Q (.bl b) H') → t σ H Q
/-- an expression that is v -/
def Giv (t : TE) (σ : L2.St) (H : Hp) (v : V) : Prop := ∀ Q : VK, Q v H → t σ H Q
section
variable {σ : L2.St} {H : Hp} {ta tb te : TE} {a b : Bool} {K : PySem.W.Frag} {p : Addr} {v : V} {d : PyData} {i : Nat}
theorem Say.and (ha : Say ta σ H a) (hb : a = true → ∀ H', Same H H' → Say tb σ H' b) : Say (tAndV ta tb) σ H (a && b) := fun Q q => ha _ fun H1 s1 => ⟨a, rfl, by
  cases a with
  | true => exact iteT (hb rfl H1 s1 Q fun H2 s2 => q H2 (s1.trans s2))
  | false => exact iteF (q H1 s1)⟩
theorem Say.or (ha : Say ta σ H a) (hb : a = false → ∀ H', Same H H' → Say tb σ H' b) : Say (tOrV ta tb) σ H (a || b) := fun Q q => ha _ fun H1 s1 => ⟨a, rfl, by
  cases a with
  | true => exact iteT (q H1 s1)
  | false => exact iteF (hb rfl H1 s1 Q fun H2 s2 => q H2 (s1.trans s2))⟩
theorem Say.not (ha : Say ta σ H a) : Say (tNotV ta) σ H (!a) := fun Q q => ha _ fun H1 s1 => ⟨a, rfl, q H1 s1⟩
theorem Say.of (h : Say ta σ H a) (e : a = b) : Say ta σ H b := e ▸ h
theorem giv_var (h : σ[i]? = some (some v)) : Giv (tVar i) σ H v := fun Q q => ⟨v, h, q⟩
theorem giv_c {v : V} : Giv (tC v) σ H v := fun Q q => q
theorem giv_ixT {x : V} {xs : List V} {c : Addr} {k : Nat} (h : Giv te σ H (.ref c)) (e : H c = some (.tup xs)) (g : xs[k]? = some x) : Giv (tOp (rIxT K) te (tC (.int (k : Nat)))) σ H x := fun Q q => h _ ⟨c, xs, _, x, rfl, rfl, SqT.of e, atI_nat g, q⟩
theorem say_isa {T : String} (hv : Giv te σ H v) (hd : Dt p H v d) : Say (tCB (rIsD K T) (tCons te (tCons (tC (.ty T)) tNil))) σ H (isa d T) := fun Q q => hv _ ⟨p, v, d, rfl, hd, q H (Same.refl H)⟩
theorem say_call {f : PyData → Bool} {E : XK} (hv : Giv te σ H v) (hd : Dt p H v d) : Say (tCall (spPred f) [] E (tCons te tNil)) σ H (f d) := fun Q q => hv _ ⟨p, v, d, rfl, hd, q⟩
theorem say_callN {f : PyData → Int → Bool} {n : Int} {tn : TE} {E : XK} (hv : Giv te σ H v) (hn : Giv tn σ H (.int n)) (hd : Dt p H v d) : Say (tCall (spPredN f) [] E (tCons te (tCons tn tNil))) σ H (f d n) := fun Q q => hv _ (hn _ ⟨p, v, d, n, rfl, hd, q⟩)
theorem say_eqT {z : Str} {tz : TE} (hv : Giv te σ H v) (hz : Giv tz σ H (.str z)) (hd : Dt p H v d) : Say (tOp rEqT te tz) σ H (isT d z) := fun Q q => hv _ (hz _ ⟨p, d, z, rfl, hd, q H (Same.refl H)⟩)
theorem say_lenEq {n : Int} {c : Addr} {xs : List V} {tn : TE} {X : Cx} (hv : Giv te σ H (.ref c)) (hn : Giv tn σ H (.int n)) (e : H c = some (.tup xs)) :
    Say (tOp rEq (tCB (fun ys H Q => ∃ x m, ys = [x] ∧ LenV X.K x H m ∧ Q (.int m) H) (tCons te tNil)) tn) σ H (decide ((xs.length : Int) = n)) := fun Q q => hv _ ⟨.ref c, xs.length, rfl, .inr ⟨xs, SqT.of e, rfl⟩, hn _ ⟨rfl, by
      have e2 : decide (V.int (xs.length : Int) = V.int n) = decide ((xs.length : Int) = n) := by
        by_cases h : (xs.length : Int) = n
        · rw [decide_eq_true h, h, decide_eq_true rfl]
        · rw [decide_eq_false h, decide_eq_false fun z => h (V.int.inj z)]
      rw [e2]
      exact q H (Same.refl H)⟩⟩
end
end Gj

namespace Gj
open PySem PySem.Spec PyProof.Rows L2
open C8 (Cal pe_c pe_gc)
/-- whether its length and signs are so -/
def isTxt (z signs : Str) (most : Int) : Bool := (decide (1 ≤ (z.length : Int)) && decide ((z.length : Int) ≤ most)) && (z.cps.toList.map fun c => decide (c ∈ signs.cps.toList)).all id
def mTxt (signs : Str) (most : Int) : PyData → Bool
  | .str z => isTxt z signs most
  | _ => false
abbrev rLenX (K : PySem.W.Frag) : List V → Hp → VK → Prop := fun ys H Q => ∃ x m, ys = [x] ∧ LenV K x H m ∧ Q (.int m) H
abbrev rLeX : R2 := rI0 fun i j => .bl (decide (i ≤ j))
abbrev rInX : R2 := fun x y H Q => ∃ (c : Nat) (z : Str), x = .str ⟨#[c]⟩ ∧ y = .str z ∧ Q (.bl (decide (c ∈ z.cps.toList))) H
section
variable {σ : L2.St} {H : Hp} {ta tb te ts tm : TE} {a b : Bool} {K : PySem.W.Frag} {p : Addr} {v : V} {d : PyData} {i : Nat} {z signs : Str} {most : Int}
theorem say_chain (hv : Giv te σ H (.str z)) (hm : Giv tm σ H (.int most)) (hz : z.length ≤ 1000) : Say (tChain rLeX rLeX (tC (.int 1)) (tCB (rLenX K) (tCons te tNil)) tm) σ H (decide (1 ≤ (z.length : Int)) && decide ((z.length : Int) ≤ most)) := fun Q q =>
  hv _ ⟨_, _, rfl, ⟨Nat.le_of_lt (small1000 hz), rfl⟩, _, _, rfl, rfl, _, rfl, by
    by_cases h : 1 ≤ (z.length : Int)
    · rw [decide_eq_true h]
      refine iteT (hm _ ⟨_, _, rfl, rfl, ?_⟩)
      have := q H (Same.refl H)
      rw [decide_eq_true h, Bool.true_and] at this
      exact this
    · rw [decide_eq_false h]
      have := q H (Same.refl H)
      rw [decide_eq_false h, Bool.false_and] at this
      exact iteF this⟩
theorem say_all (hz : z.length ≤ 1000) (hw : ∀ v, wipe ((wipe σ [i]).set i (some v)) [i] = wipe σ [i]) (hi : ∀ v, ((wipe σ [i]).set i (some v))[i]? = some (some v)) (hs : ∀ v H, Giv ts ((wipe σ [i]).set i (some v)) H (.str signs)) (hv : Giv te σ H (.str z)) :
    Say (tCB (rAll K) (tCons (tLc (iStr te) (gName i) tYes (tOp rInX (tVar i) ts) [i]) tNil)) σ H ((z.cps.toList.map fun c => decide (c ∈ signs.cps.toList)).all id) := fun Q q => hv _ ⟨z, rfl, fun D hD => by
  refine lc_it walk_str (Pv := fun j H' => Same H H' ∧ H' D = some (.lst (((z.cps.toList.take j).map fun c => decide (c ∈ signs.cps.toList)).map V.bl))) ⟨same_new hD, upd_same⟩ (fun _ _ _ _ => trivial) (fun j x H1 H2 hj hp hy => ?_) (fun H1 hp => ?_)
  · obtain ⟨rfl, ch, ec, rfl⟩ := hy
    obtain ⟨sm, eD⟩ := hp
    refine ⟨hw _, _, hi _, hs _ _ _ ⟨ch, signs, rfl, rfl, _, eD, ?_, fun b o e => ?_, ?_⟩⟩
    · rw [List.length_map, List.length_map, List.length_take]
      have : z.cps.toList.length = z.length := rfl
      exact small1000 (by omega)
    · rw [upd_ne (ne_of_none e hD)]
      exact sm b o e
    · have ec2 : z.cps.toList[j]? = some ch := by rw [Array.getElem?_toList]; exact ec
      rw [upd_same, take_snoc ec2, List.map_append, List.map_append]
      rfl
  · obtain ⟨sm, eD⟩ := hp
    rw [show z.cps.toList.take z.cps.size = z.cps.toList from List.take_of_length_le (Nat.le_refl _)] at eD
    exact ⟨D, _, rfl, SqL.of eD, q H1 sm⟩⟩
theorem say_allT {f : PyData → Bool} {E : XK} {c : Addr} {xs : List V} {ds : List PyData} (hl : xs.length ≤ 1000) (hw : ∀ v, wipe ((wipe σ [i]).set i (some v)) [i] = wipe σ [i]) (hi : ∀ v, ((wipe σ [i]).set i (some v))[i]? = some (some v)) (hv : Giv te σ H (.ref c)) (ec : H c = some (.tup xs)) (hd : DtAll p H xs ds) :
    Say (tCB (rAll K) (tCons (tLc (iTup K te) (gName i) tYes (tCall (spPred f) [] E (tCons (tVar i) tNil)) [i]) tNil)) σ H (ds.all f) := fun Q q => hv _ ⟨c, rfl, ⟨xs, SqT.of ec⟩, fun D hD => by
  refine lc_tup (K := K) (a := c) (xs := xs) (Pv := fun j H' => Same H H' ∧ H' D = some (.lst (((ds.take j).map f).map V.bl))) ⟨same_new hD, upd_same⟩ (fun j H' _ hp => SqT.of (hp.1 _ _ ec)) (fun j x H1 hx hp => ?_) (fun H1 hp => ?_)
  · obtain ⟨sm, eD⟩ := hp
    obtain ⟨d, hd1, hd2⟩ := hd.get hx
    refine ⟨hw _, _, hi _, p, x, d, rfl, hd2.same sm, fun H2 s2 => ⟨_, s2 _ _ eD, ?_, fun b o e => ?_, ?_⟩⟩
    · rw [List.length_map, List.length_map, List.length_take, ← hd.length]
      exact small1000 (by omega)
    · rw [upd_ne (ne_of_none e hD)]
      exact s2 _ _ (sm b o e)
    · rw [upd_same, take_snoc hd1, List.map_append, List.map_append]
      rfl
  · obtain ⟨sm, eD⟩ := hp
    rw [show ds.take xs.length = ds from List.take_of_length_le (by rw [hd.length]; exact Nat.le_refl _)] at eD
    refine ⟨D, _, rfl, SqL.of eD, ?_⟩
    rw [List.all_map]
    exact q H1 sm⟩
end
/-! ### names and words are so -/
theorem txt_of {cs : List Nat} {signs : Str} {most : Nat} (h1 : 1 ≤ cs.length) (h2 : cs.length ≤ most) (h : ∀ c ∈ cs, c ∈ signs.cps.toList) : isTxt (SX.S cs) signs (most : Int) = true := by
  have e : ((SX.S cs).length : Int) = (cs.length : Int) := by rw [SX.S_len]
  unfold isTxt
  rw [e, decide_eq_true (show (1 : Int) ≤ (cs.length : Int) by omega), decide_eq_true (show (cs.length : Int) ≤ (most : Int) by omega)]
  show (cs.map fun c => decide (c ∈ signs.cps.toList)).all id = true
  rw [List.all_map]
  exact List.all_eq_true.mpr fun c hc => decide_eq_true (h c hc)
end Gj

/-! own layer: len(set(t)), t a tuple of texts -/
namespace Gj
open PySem PySem.Spec PyProof.Rows L2
open C8 (Cal pe_c pe_gc)
/-- how many unlike ones -/
def distinct : List Str → Nat
  | [] => 0
  | x :: l => if l.any (· == x) then distinct l else distinct l + 1
theorem distinct_le : ∀ l : List Str, distinct l ≤ l.length
  | [] => Nat.le_refl _
  | x :: l => by
    have := distinct_le l
    unfold distinct
    rw [List.length_cons]
    split <;> omega
theorem any_iff {l : List Str} {x : Str} : l.any (· == x) = true ↔ x ∈ l := by simp
theorem distinct_nodup : ∀ l : List Str, (distinct l = l.length) ↔ l.Nodup
  | [] => by simp [distinct]
  | x :: l => by
    have h1 := distinct_le l
    have ih := distinct_nodup l
    unfold distinct
    rw [List.length_cons, List.nodup_cons]
    by_cases h : l.any (· == x) = true
    · rw [if_pos h]
      exact ⟨fun e => by omega, fun e => absurd (any_iff.mp h) e.1⟩
    · rw [if_neg h]
      exact ⟨fun e => ⟨fun m => h (any_iff.mpr m), ih.mp (by omega)⟩, fun e => by rw [ih.mpr e.2]⟩
def taken (xs : List Str) (i : Nat) : List Str := (xs.take i).reverse
theorem taken_succ {xs : List Str} {i : Nat} {x : Str} (h : xs[i]? = some x) : taken xs (i + 1) = x :: taken xs i := by
  unfold taken
  rw [List.take_add_one, h, List.reverse_append]
  rfl
section
variable {prog : Program} {w : World} {A : Around} {R : Result → Shared → Prop} {I : Addr} {fp wr : List Addr} {G : Array GenState → Array GenState → Prop} {n : Nat} {P : Nat → Value → Prop} {Sx : Nat → Shared → Prop}
theorem loop_strs (W : WalksS prog w A.in1 I fp wr G n P Sx) (S : Addr) (hSf : S ∉ fp) (xs : List Str) (hsz : xs.length = n) (hn : n ≤ 1000) (hval : ∀ i v, P i v → ∃ t, v = .str (xs.getD i Str.empty) t) :
    ∀ (k i : Nat) (s : Shared), n - i = k → i ≤ n → Sx i s → s.heap.SetOf (PySem.strKind prog w) S (fun y => (taken xs i).any (· == y)) (distinct (taken xs i)) →
      (∀ s', Moved (S :: wr) G s s' → s'.heap.SetOf (PySem.strKind prog w) S (fun y => (taken xs n).any (· == y)) (distinct (taken xs n)) → R (.ok (.ret .none)) s') →
      codeAny (model prog w) A (.builtin "set.update.loop" ⟨[.ref S, .ref I], []⟩) R s
  | 0, i, s, hk, hi, hst, hS, hR => by
    have e : i = n := by omega
    subst e
    refine codeAny_builtin PyProof.Rows.F.entry_set_update_loop (by
      rw [Around.under_plainId PyProof.Rows.F.plain_set_update_loop _]
      exact wpAny_bind (W.done s _ _ hst fun s' hm => wpAny_pure (hR s' (hm.mono fun b hb => List.mem_cons_of_mem _ hb) (by
        obtain ⟨o, es, ep, t, ho, rest⟩ := hS
        exact ⟨o, es, ep, t, hm.heap S _ (fun h => hSf (W.sub _ h)) ho, rest⟩))))
  | k + 1, i, s, hk, hi, hst, hS, hR => by
    have hlt : i < n := by omega
    have hx : xs[i]? = some (xs.getD i Str.empty) := by rw [List.getD_eq_getElem?_getD, List.getElem?_eq_getElem (by omega)]; rfl
    refine codeAny_builtin PyProof.Rows.F.entry_set_update_loop ?_
    rw [Around.under_plainId PyProof.Rows.F.plain_set_update_loop _]
    refine wpAny_bind (m := pyNext (.ref I)) (W.item i s _ _ hlt hst fun v s' hP hst' hm => ?_)
    obtain ⟨t, rfl⟩ := hval i v hP
    have hS' : s'.heap.SetOf (PySem.strKind prog w) S (fun y => (taken xs i).any (· == y)) (distinct (taken xs i)) := by
      obtain ⟨o, es, ep, tb, ho, rest⟩ := hS
      exact ⟨o, es, ep, tb, hm.heap S _ (fun h => hSf (W.sub _ h)) ho, rest⟩
    have dl := distinct_le (taken xs i)
    have tl : (taken xs i).length ≤ 1000 := by
      unfold taken
      rw [List.length_reverse, List.length_take]
      omega
    refine wpAny_bind (m := holding [Value.str (xs.getD i Str.empty) t] (setAdd S (.str (xs.getD i Str.empty) t))) (wpAny_holding ?_)
    unfold setAdd
    refine wpAny_holding (wpAny_bind ((PySem.strKind prog w).pyHash (k := xs.getD i Str.empty) (strKind_is _ _ _ _) (wpAny_setAddHashed_of (knd := PySem.strKind prog w) (s := { s' with toks := s'.toks + 1 }) (strKind_is _ _ _ _) rfl hS' (by unfold scanBound; omega) fun h' hsb hS2 => ?_)))
    have hSi : h'.SetOf (PySem.strKind prog w) S (fun y => (taken xs (i + 1)).any (· == y)) (distinct (taken xs (i + 1))) := by
      rw [taken_succ hx]
      refine SetOf_congr hS2 (fun y => ?_) ?_
      · show ((taken xs i).any (· == y) || decide (y = xs.getD i Str.empty)) = ((xs.getD i Str.empty) == y || (taken xs i).any (· == y))
        rw [Bool.or_comm]
        congr 1
        by_cases e : y = xs.getD i Str.empty
        · rw [← e, decide_eq_true rfl, beq_self_eq_true]
        · rw [decide_eq_false e]
          exact (beq_eq_false_iff_ne.mpr fun z => e z.symm).symm
      · rfl
    refine wpAny_pure ⟨plainId_quiet PyProof.Rows.F.plain_set_update_loop _, loop_strs W S hSf xs hsz hn hval k (i + 1) _ (by omega) hlt (W.frame _ s' _ _ hst' (Nat.le_succ _) fun b hb o e => ?_) hSi fun s'' hm'' hS'' => hR s'' (Moved.trans W.gtrans ((hm.mono fun b hb => List.mem_cons_of_mem _ hb).then_heap (Nat.le_succ _) fun b o hb e => ?_) hm'') hS''⟩
    · exact (hsb.2 b fun h : b = S => hSf (h ▸ hb)).trans e
    · exact (hsb.2 b fun h : b = S => hb (h ▸ List.mem_cons_self)).trans e
end
section
variable {prog : Program} {w : World} {A : Around} {E : Value → Shared → Prop} {s : Shared}
/-- a new set, empty -/
abbrev set0 (led : Bool) : Obj := { cls := .type "set", dict := none, data := .set #[] 0 (.fresh 0 0 led) }
set_option maxHeartbeats 3200000 in
theorem call_set_tup {l : Addr} {items : Array Value} {xs : List Str} {Q : Value → Shared → Prop} (hh : A.handled = none) (hl : s.heap.IsTuple l items) (hi : PyProof.Rows.StrsAre items.toList xs) (hn : xs.length ≤ 1000)
    (h : ∀ (h' : Heap) (tk : Nat), h'.SetOf (PySem.strKind prog w) s.heap.objs.size (fun y => (taken xs xs.length).any (· == y)) (distinct (taken xs xs.length)) → (∀ b o, s.heap.get? b = some o → h'.get? b = some o) → Q (.ref s.heap.objs.size) { s with heap := h', toks := tk }) :
    wpAny (model prog w) A (call (.type "set") [.ref l]) Q E s := by
  obtain ⟨c, tl, hmro⟩ := PySem.F.called_set.mro
  have g1 := PySem.F.called_set.made; have g2 := PySem.F.called_set.sub; have g3 := PySem.F.called_set.notType; have g4 := PySem.F.called_set.canCreate; have g5 := PySem.F.typeCall_set_1 (.ref l)
  refine wpAny_call (codeAny_of_tree (show wpAny _ _ (callAny (.type "set") _) _ _ _ from wpAny_pure ⟨Code.quiet_builtin _ (by decide +kernel), codeAny_builtin PySem.F.entry_type_call ?_⟩))
  rw [Around.under_plain (weight_type_call_type "set" [.ref l] []) rfl]
  repeat (any_goals (first | assumption | wp_step))
  refine codeAny_mono (code_set_new_1 (.ref l) (E := E) (Q₁ := fun obj s₁ => ∃ led : Bool, obj = .ref s.heap.objs.size ∧ s₁ = { s with heap := s.heap.push (set0 led) }) fun led => ⟨led, rfl, rfl⟩) fun r s₁ hr => ?_
  cases r with
  | error e => exact hr
  | ok fl =>
    cases fl with
    | next => exact hr.elim
    | brk => exact hr.elim
    | cont => exact hr.elim
    | ret obj =>
      obtain ⟨led, rfl, rfl⟩ := hr
      have got : (s.heap.push (set0 led)).get? s.heap.objs.size = some (set0 led) := Heap.get?_push_size _ rfl
      have ty : Shared.TypeIs { s with heap := s.heap.push (set0 led) } (.ref s.heap.objs.size) "set" := ⟨_, got, rfl⟩
      have i1 := PySem.F.called_set.init.lookup; have i2 := PySem.F.called_set.init.bind (.ref s.heap.objs.size)
      repeat (any_goals (first | assumption | wp_step))
      refine codeAny_mono (codeAny_call_builtin (R := wants (fun r s₂ => r = .none ∧ ∃ h' tk, s₂ = { s with heap := h', toks := tk } ∧ h'.SetOf (PySem.strKind prog w) s.heap.objs.size (fun y => (taken xs xs.length).any (· == y)) (distinct (taken xs xs.length)) ∧ (∀ b o, s.heap.get? b = some o → h'.get? b = some o)) E) PySem.F.called_set.init.plain PySem.F.entry_set_init (check_set_init_1 ty ?_)) fun r₂ s₂ hr₂ => ?_
      · obtain ⟨⟨oc, od, dt, sl⟩, ho, hc, nl, hd⟩ := hl
        cases hc; cases hd
        have ho2 : (s.heap.push (set0 led)).get? l = some ⟨.type "tuple", od, .seq items nl, sl⟩ := Heap.get?_push_of_some _ ho
        have k1 := PySem.F.sub_tuple_set; have k2 := PySem.F.sub_tuple_frozenset
        have k3 : (Value.type "tuple" == Value.type "dict") = false := by decide
        have isT : (s.heap.push (set0 led)).IsTuple l items := ⟨_, ho2, rfl, nl, rfl⟩
        unfold Builtin.«set.__init__» noKeywords Builtin.Frozenset.updateFrom
        generalize hPI : pyIter = PI
        wp_walk
        subst hPI
        refine wpAny_pyIter_tuple isT (wpAny_bind (wpAny_runValue ?_))
        have lt : l < s.heap.objs.size := Heap.lt_size ho
        have ps : (s.heap.push (set0 led)).objs.size = s.heap.objs.size + 1 := Heap.size_push _ _
        have h3 : A.in1.in1.in1.handled = none := by simp [hh]
        have len : xs.length = items.size := by rw [← StrsAre.len_eq hi, Array.length_toList]
        refine loop_strs ((Walks.tuple h3 _ l (by rw [ps]; exact Nat.ne_of_lt (Nat.lt_succ_of_lt lt)) items).toS) s.heap.objs.size (by rw [ps]; simp only [List.mem_cons, List.not_mem_nil, or_false, not_or]; exact ⟨Nat.ne_of_lt (Nat.lt_succ_self _), Nat.ne_of_gt lt⟩) xs len (by omega) (fun i v hv => SS.strs_at hi i v (by rw [Array.getElem?_toList]; exact hv)) (items.size - 0) 0 _ (by omega) (Nat.zero_le _)
          ⟨⟨_, Heap.get?_push_size _ rfl, rfl, rfl⟩, isT.push _⟩ ?z0 ?z1
        case z0 => exact PyProof.Rows.SetOf_congr ((PyProof.Rows.setObjOf_fresh (knd := PySem.strKind prog w) led).setOf (Heap.get?_push_of_some _ got) (by unfold scanBound; omega)) (fun _ => rfl) rfl
        case z1 =>
          intro s' hm hS'
          obtain ⟨h', g', d', tk', os'⟩ := s'
          obtain rfl : g' = s.gens := hm.gens
          obtain rfl : d' = s.drawn := hm.drawn
          obtain rfl : os' = s.os := hm.os
          rw [← len] at hS'
          have hb : ∀ {b : Addr} {o : Obj}, s.heap.get? b = some o → b < s.heap.objs.size := fun e => Heap.lt_size e
          refine wpAny_pure ?_
          show wpAny _ _ (ret Value.none) _ _ _
          exact wpAny_pure ⟨rfl, h', tk', rfl, hS', fun b o e => hm.heap b o (by rw [ps]; simp only [List.mem_cons, List.not_mem_nil, or_false, not_or]; exact ⟨Nat.ne_of_lt (hb e), Nat.ne_of_lt (Nat.lt_succ_of_lt (hb e))⟩) (Heap.get?_push_of_some _ (Heap.get?_push_of_some _ e))⟩
      · cases r₂ with
        | error e => exact hr₂
        | ok fl₂ =>
          cases fl₂ with
          | next => exact hr₂.elim
          | brk => exact hr₂.elim
          | cont => exact hr₂.elim
          | ret r =>
            obtain ⟨rfl, h', tk, rfl, hS', hk'⟩ := hr₂
            repeat (any_goals (first | assumption | wp_step))
            exact h _ _ hS' hk'
end
end Gj

namespace Gj
open PySem PySem.Spec PyProof.Rows L2
open C8 (Cal pe_c pe_gc)
/-- the set of these texts at a -/
def StrSet (P : Program) (w : World) (a : Addr) (xs : List Str) : HO := .ext fun h => h.SetOf (PySem.strKind P w) a (fun y => (taken xs xs.length).any (· == y)) (distinct (taken xs xs.length))
theorem strSet_ok {P : Program} {w : World} {H : Hp} {h : Heap} {a : Addr} {xs : List Str} (hS : h.SetOf (PySem.strKind P w) a (fun y => (taken xs xs.length).any (· == y)) (distinct (taken xs xs.length))) : ObjOk P w H h a (StrSet P w a xs) := by
  obtain ⟨o, es, ep, t, ho, rest⟩ := hS
  exact ⟨⟨o, es, ep, t, ho, rest⟩, ⟨o, ho⟩, fun h1 h2 z k => by
    obtain ⟨o, es, ep, t, ho, rest⟩ := z
    exact ⟨o, es, ep, t, k _ ho, rest⟩⟩
theorem strs_of : ∀ {ys : List Str} {us : List Value}, Vals (ys.map V.str) us → PyProof.Rows.StrsAre us ys
  | [], _, .nil => .nil
  | y :: ys, _, .cons r t => by
    obtain ⟨k, rfl⟩ := r
    exact .cons y k (strs_of t)
section
variable {X : Cx}
/-- set(t) -/
def rSetS (P : Program) (w : World) (K : PySem.W.Frag) : List V → Hp → VK → Prop := fun vs H Q => ∃ (l : Addr) (xs : List Str), vs = [.ref l] ∧ SqT K H l (xs.map V.str) ∧ xs.length ≤ 1000 ∧ ∀ a, H a = none → Q (.ref a) (upd H a (StrSet P w a xs))
theorem call_setS (hc : X.calm = true) : CallR X (.type "set") (rSetS X.prog X.w X.K) := by
  intro pins s σ H xs us Q I r h
  obtain ⟨l, ys, rfl, hq, hn, q⟩ := h
  obtain ⟨u, rfl, rfl⟩ := vals1 r
  obtain ⟨its, rv, pl, _⟩ := I.tuple hq
  have nf : H s.heap.objs.size = none := I.hok.fresh (Nat.le_refl _)
  exact call_set_tup (I.ok.hd hc) pl (by simpa using strs_of rv) hn fun h' tk hS hk => ⟨.ref _, _, I.laid (t' := tk) hk (Nat.le_refl _) (strSet_ok hS), rfl, q _ nf⟩
/-- len(s) -/
def rLenS (P : Program) (w : World) : List V → Hp → VK → Prop := fun vs H Q => ∃ (a : Addr) (xs : List Str), vs = [.ref a] ∧ H a = some (StrSet P w a xs) ∧ xs.length ≤ 1000 ∧ Q (.int (distinct (taken xs xs.length))) H
theorem call_lenS : CallR X (.builtin "len") (rLenS X.prog X.w) := by
  intro pins s σ H xs us Q I r h
  obtain ⟨a, ys, rfl, ea, hl, q⟩ := h
  obtain ⟨u, rfl, rfl⟩ := vals1 r
  obtain ⟨⟨o, es, ep, t, ho, hex, hd, _, _, _, hf, hn⟩, _, _⟩ := I.hok a _ ea
  have small := distinct_le (taken ys ys.length)
  refine call_len_set ho hex hd hf ?_ ⟨.int _, H, I.tok _, ⟨_, by rw [hn]⟩, q⟩
  have e : (taken ys ys.length).length = ys.length := by simp [taken]
  rw [hn]
  omega
end
end Gj

namespace Gj
open PySem PySem.Spec PyProof.Rows L2
open C8 (Cal pe_c pe_gc)
abbrev sLetters : Str := "abcdefghijklmnopqrstuvwxyz"
abbrev sFigures : Str := "0123456789"
structure Gs (K : PySem.W.Frag) (mg : Str → Option Value) : Prop where
  LETTERS : ∃ u, mg "LETTERS" = some u ∧ RelV (.str sLetters) u
  FIGURES : ∃ u, mg "FIGURES" = some u ∧ RelV (.str sFigures) u
  SORTS : ∃ a, mg "SORTS" = some (.ref a) ∧ ∀ H, SqT K H a [.str "came", .str "short", .str "ask", .str "row"]
/-! ### the mirror -/
def mName : PyData → Bool := mTxt sLetters 8
def mWord : PyData → Bool := mTxt (sLetters ++ sFigures) 12
def mWhole (d : PyData) (n : Int) : Bool := match d with
  | .int i => decide (n ≤ i)
  | _ => false
def atD (d : PyData) (k : Nat) (f : PyData → Bool) : Bool := match d with
  | .tuple ds => (ds[k]?.map f).getD false
  | _ => false
def lenD (d : PyData) (n : Int) : Bool := match d with
  | .tuple ds => decide ((ds.length : Int) = n)
  | _ => false
def mPair (d : PyData) (n : Int) : Bool := lenD d 2 && (atD d 0 mName && atD d 1 fun e => mWhole e n)
def sorts : List Str := ["came", "short", "ask", "row"]
def mSort (d : PyData) : Bool := mName d && sorts.any fun z => isT d z
def strsOf (ds : List PyData) : List Str := ds.filterMap fun d => match d with
  | .str z => some z
  | _ => none
def mShut (d : PyData) : Bool := match d with
  | .tuple ds => ds.all mName && decide (distinct (taken (strsOf ds) (strsOf ds).length) = (strsOf ds).length)
  | _ => false
def mBegins (d : PyData) (k : Str) (n : Int) : Bool := lenD d n && (atD d 0 mName && atD d 0 fun e => isT e k)
def mLetter (d : PyData) : Bool := mBegins d "letter" 4 && (atD d 1 mName && (atD d 2 mName && atD d 3 mWord))
def mEcho (d : PyData) : Bool := mBegins d "echo" 5 && (atD d 1 mName && (atD d 2 mName && (atD d 3 mSort && atD d 4 fun e => mPair e 0)))
def mAnswer (d : PyData) : Bool := mBegins d "answer" 5 && (atD d 1 mName && (atD d 2 mSort && ((atD d 3 fun e => mPair e 0) && atD d 4 fun e => mPair e 1)))
def mGoer (d : PyData) : Bool := mBegins d "goer" 4 && (atD d 1 mName && ((atD d 2 fun e => mWhole e 2) && atD d 3 mShut))
def mParcel (d : PyData) : Bool := mLetter d || mEcho d
def mThing (d : PyData) : Bool := mParcel d || (mAnswer d || mGoer d)
def spTextD : Sp := fun vs H Q _ => ∃ (p : Addr) (v : V) (d : PyData) (signs : Str) (most : Int), vs = [v, .str signs, .int most] ∧ Dt p H v d ∧ ∀ H', Same H H' → Q (.bl (mTxt signs most d)) H'
def spBegins : Sp := fun vs H Q _ => ∃ (p : Addr) (v : V) (d : PyData) (k : Str) (n : Int), vs = [v, .str k, .int n] ∧ Dt p H v d ∧ 1 ≤ n ∧ ∀ H', Same H H' → Q (.bl (mBegins d k n)) H'
/-- a datum that is a tuple -/
theorem tup_of {p : Addr} {H : Hp} {v : V} {d : PyData} (h : Dt p H v d) (e : isa d "tuple" = true) : ∃ c xs ds, v = .ref c ∧ d = .tuple ds ∧ H c = some (.tup xs) ∧ xs.length ≤ 1000 ∧ DtAll p H xs ds := by
  cases h with
  | tup n z e2 h => exact ⟨_, _, _, rfl, rfl, e2, z, h⟩
  | _ => exact absurd e (by dsimp only [isa, kind]; decide +kernel)
theorem tup_len {p : Addr} {H : Hp} {v : V} {d : PyData} {n : Int} (h : Dt p H v d) (e : lenD d n = true) : ∃ c xs ds, v = .ref c ∧ d = .tuple ds ∧ (ds.length : Int) = n ∧ H c = some (.tup xs) ∧ xs.length ≤ 1000 ∧ DtAll p H xs ds := by
  cases h with
  | tup n z e2 h => exact ⟨_, _, _, rfl, rfl, of_decide_eq_true e, e2, z, h⟩
  | _ => exact absurd e (by simp [lenD])
section
variable {σ : L2.St} {H : Hp} {te : TE} {K : PySem.W.Frag} {p c : Addr} {xs : List V} {ds : List PyData} {E : XK}
theorem giv_at {k : Nat} (h : Giv te σ H (.ref c)) (e : H c = some (.tup xs)) (hd : DtAll p H xs ds) (hk : k < ds.length) : ∃ x d, Giv (tOp (rIxT K) te (tC (.int (k : Nat)))) σ H x ∧ Dt p H x d ∧ ds[k]? = some d := by
  have hx : xs[k]? = some (xs[k]'(by rw [hd.length]; exact hk)) := List.getElem?_eq_getElem _
  obtain ⟨d, h1, h2⟩ := hd.get hx
  exact ⟨_, d, giv_ixT h e hx, h2, h1⟩
theorem say_callAt {k : Nat} {f : PyData → Bool} (h : Giv te σ H (.ref c)) (e : H c = some (.tup xs)) (hd : DtAll p H xs ds) (hk : k < ds.length) : Say (tCall (spPred f) [] E (tCons (tOp (rIxT K) te (tC (.int (k : Nat)))) tNil)) σ H (atD (.tuple ds) k f) := by
  obtain ⟨x, d, g, hx, ek⟩ := giv_at (K := K) h e hd hk
  have : atD (.tuple ds) k f = f d := by
    show ((ds[k]?.map f).getD false) = f d
    rw [ek]
    rfl
  rw [this]
  exact say_call g hx
theorem say_callNAt {k : Nat} {n : Int} {f : PyData → Int → Bool} {tn : TE} (h : Giv te σ H (.ref c)) (hn : Giv tn σ H (.int n)) (e : H c = some (.tup xs)) (hd : DtAll p H xs ds) (hk : k < ds.length) : Say (tCall (spPredN f) [] E (tCons (tOp (rIxT K) te (tC (.int (k : Nat)))) (tCons tn tNil))) σ H (atD (.tuple ds) k fun e => f e n) := by
  obtain ⟨x, d, g, hx, ek⟩ := giv_at (K := K) h e hd hk
  have : (atD (.tuple ds) k fun e => f e n) = f d n := by
    show ((ds[k]?.map fun e => f e n).getD false) = f d n
    rw [ek]
    rfl
  rw [this]
  exact say_callN g hn hx
end
theorem strs_all {p : Addr} {H : Hp} : ∀ {xs : List V} {ds : List PyData}, DtAll p H xs ds → ds.all mName = true → xs = (strsOf ds).map V.str ∧ ds = (strsOf ds).map PyData.str
  | _, _, .nil, _ => ⟨rfl, rfl⟩
  | _, _, .cons (d := d) (ds := ds) a b, h => by
    rw [List.all_cons, Bool.and_eq_true] at h
    obtain ⟨h1, h2⟩ := strs_all b h.2
    cases a with
    | str z hz => exact ⟨congrArg (fun t => V.str z :: t) h1, congrArg (fun t => PyData.str z :: t) h2⟩
    | _ => exact absurd h.1 (by simp [mName, mTxt])
end Gj

/-! own layer: functions called where no repr is under way -/
namespace Gj
open PySem PySem.Spec PyProof.Rows L2
open C8 (Cal pe_c pe_gc)
/-- as FnOk, but only where no repr is under way -/
structure FnG (P : Program) (w : World) (K : PySem.W.Frag) (mg : Str → Option Value) (base : Heap) (CX : CXT) (k : Nat) (f : Addr) (fd : FuncData) (ps : List Str) (sp : Sp) : Prop where
  len : ∀ vs H Q E, sp vs H Q E → vs.length = ps.length
  run : ∀ (A : Around) (outer : List Env) (s : Shared) (H : Hp) (args : Args) (us : List Value) (vs : List V) (Q : VK) (E : XK), A.guards = some [] → Room k A → Env0 P w K mg base A outer s H → BindsTo s fd args (ps.zip us) → Vals vs us → sp vs H Q E →
    codeAny (model P w) A (.call (.ref f) args) (CR CX outer P w H s Q E) s
section
variable {P : Program} {w : World} {K : PySem.W.Frag} {mg : Str → Option Value} {base : Heap}
theorem fnG {CX : CXT} {x q : Str} {st : Stmt} {f : Addr} {fd : FuncData} {N ps : List Str} {k : Nat} {sp : Sp} (F : Fun K x q st f fd) (S : FnScope N ps (defScope st)) (len : ∀ vs H Q E, sp vs H Q E → vs.length = ps.length)
    (hb : ∀ (cdv : Value) (A : Around) (outer : List Env) (s : Shared) (H : Hp) (vs : List V) (Q : VK) (E : XK), A.guards = some [] → Room k (A.deeper (envOfC q (defScope st) s.heap.objs.size f cdv)) → sp vs H Q E →
      ∃ t, PSs (cxOf CX P w K mg base N q (defScope st) f cdv A outer s H E) (defBody st) t ∧ t { nx := fun _ H' => Q .non H', rt := Q } (start N vs) H) : FnG P w K mg base CX (k + 1) f fd ps sp := by
  obtain ⟨oc, od, kV, doc, pm, an, cdv, ct, osl, rfl, lk, hcd⟩ := F.ex
  refine ⟨len, fun A outer s H args us vs Q E hg hr e0 hbi r hsp => ?_⟩
  have lv := len _ _ _ _ hsp
  have kx : K.In s.heap := e0.mod.kin.keeps fun b o z => (e0.bs b o z).1
  have nl : s.heap.NoLimit := e0.mod.nolimit.keeps fun b o z => (e0.bs b o z).1
  have kinds : ∀ y ∈ ps.zip us, (defScope st).names.lookup y.1 = some .local ∨ ((defScope st).names.lookup y.1 = some .cell ∧ ((cellsFrom (s.heap.objs.size + 1) (defScope st).names []).lookup y.1).isSome = true) := fun ⟨n, v⟩ hy =>
    (S.par n (List.of_mem_zip hy).1).imp (fun z => z) fun z => ⟨z, PySem.W.cellsFrom_some _ _ _ (.inl z)⟩
  refine codeAny_call_function hr.depth (kx _ _ lk) rfl S.co S.gen rfl (PySem.W.codeRec_of kx hcd) (hbi _ _ _ _ ?_)
  refine wpAny_newFunctionEnv_cells S.kind kinds fun env he s1 y => ?_
  cases he
  refine ⟨nl.keeps y.toInCall.keep, codeAny_func ?_⟩
  obtain ⟨t, ht, hq⟩ := hb cdv A outer s H vs Q E hg (hr.deeper _) hsp
  refine wpAny_mono (ht.run [] s1 (start N vs) H _ (inv_start S hr.hd e0 lv r y) hq) (fun fl s' z => ?_) fun e s' z => z
  cases fl with
  | ret u =>
    obtain ⟨v, σ2, H2, J, rv, q2⟩ := z
    exact ⟨v, H2, J.os, J.bare, J.base, J.hok, rv, q2⟩
  | next =>
    obtain ⟨σ2, H2, J, q2⟩ := z
    exact ⟨V.non, H2, J.os, J.bare, J.base, J.hok, rfl, q2⟩
  | brk => exact (let ⟨_, _, _, v⟩ := z; False.elim v)
  | cont => exact (let ⟨_, _, _, v⟩ := z; False.elim v)
end
/-- a def by its name, called where no repr is under way -/
structure CalG (P : Program) (w : World) (K : PySem.W.Frag) (mg : Str → Option Value) (base : Heap) (k : Nat) (x : Str) (sp : Sp) : Prop where
  ex : ∃ f fd ps, FnG P w K mg base CX0 k f fd ps sp ∧ mg x = some (.ref f) ∧ PySem.W.keepIn K (.ref f) = true ∧ Binds K fd ps []
section
variable {X : Cx} {k j : Nat} {x : Str} {sp : Sp} {p pos : Pos} {e : Expr} {es : List Expr} {t : TA}
theorem pe_cG (c : CalG X.prog X.w X.K X.mg X.base k x sp) (hg0 : X.A.guards = some []) (hr : Room j X.A) (hk : k ≤ j) (hg : Gl X x) (ha : PA X (e :: es) t)
    (hdb : (x == ("__debug__" : Str)) = false := by decide) (he : starEach (e :: es) X.env = (false, eval e X.env) :: starEach es X.env := by rfl) (hpl : (backTo pos (starEach es X.env)).any (·.1) = false := by rfl) :
    PE X (.Call (.Name x p) (e :: es) [] pos) (tCall sp [] C8.E0 t) := by
  obtain ⟨f, fd, ps, F, hm, kp, b⟩ := c.ex
  refine ⟨fun pins s σ H Q I h => ?_⟩
  refine wpAny_Call_Name_kw (ld_glob I hg hm ?_ hdb)
  refine PySem.W.callWith_K (h₀ := X.base) I.ok.mod.kin kp (thn (ha.run pos pins s σ H _ I h) fun us s1 ⟨vs, H1, I1, r, q⟩ => ⟨I1.kIn, ?_⟩) he hpl
  have r2 : Vals (vs ++ []) (us ++ []) := r.append .nil
  have hl : (us ++ []).length = ps.length := by rw [← r2.length]; exact F.len _ _ _ _ q
  refine wpAny_call (codeAny_mono (F.run X.A X.stack s1 H1 ⟨us, []⟩ (us ++ []) (vs ++ []) Q C8.E0 hg0 (hr.mono hk) I1.env0 (b s1 us I1.kIn hl) r2 q) fun r s' z => ?_)
  cases r with
  | error er => exact pass0 pins σ H1 s1 er s' I1 z
  | ok fl =>
    cases fl with
    | ret u => exact I1.after z
    | next => exact z.elim
    | brk => exact z.elim
    | cont => exact z.elim
end
/-! ### the law itself -/
section
variable {P : Program} {w : World} {K : PySem.W.Frag} {mg mb : Str → Option Value} {k : Nat} {fa a : Addr} {fd : FuncData} {x : Str} {sp : Sp} {z : Shared} {vs : List Value} {ns : List Int}
/-- .. from an abstract heap that tracks the script alone, or nothing -/
theorem lawG_at (kx : K.In z.heap) (g : z.heap.Ns mainGlobals mg) (hb : z.heap.Ns builtinsNs mb) (hbb : ∀ y : Str, y ≠ "__name__" → mb y = bootBuiltins y) (lim : z.heap.NoLimit) (hg : z.gens = #[])
    (ea : z.heap.get? a = some { cls := .type "list", data := .seq vs.toArray }) (hr : Room k callerA)
    (F : ∀ base : Heap, K.In base → base.Ns mainGlobals mg → FnG P w K mg base CX0 k fa fd [x] sp) (bind : ∀ (s : Shared) (u : Value), BindsTo s fd ⟨[u], []⟩ [(x, u)])
    (H : Hp) (only : Only H) (hp : sp [.ref a] H (fun v _ => v = .bl true) fun _ _ _ => False) (ok : HOk P w H z.heap) (al : ∀ b u, H b = some u → b = a) (nk : ∀ u, H a = some u → K.lookup a = none) :
    codeAny (model P w) callerA (.call (.ref fa) ⟨[.ref a], []⟩) (fun r s' => r = .ok (.ret (.bool true)) ∧ OldK z.heap s'.heap ∧ s'.os = z.os ∧ AllBare s'.gens) z := by
  have none_of : ∀ b, (b = a → False) → H b = none := fun b nb => by
    cases e : H b with
    | none => rfl
    | some u => exact (nb (al b u e)).elim
  have nsB : ∀ {b : Addr} {m : Str → Option Value}, z.heap.Ns b m → (hidT z.heap H).Ns b m := fun {b m} ⟨o, es, ep, e, d, r⟩ => ⟨o, es, ep, hidT_get e (none_of b fun eb => by
    subst eb
    cases ea.symm.trans e
    cases (show Data.seq vs.toArray _ = Data.dict es ep from d)), d, r⟩
  have kb : K.In (hidT z.heap H) := fun b o e => hidT_get (kx b o e) (by
    cases q : H b with
    | none => rfl
    | some u =>
      have eb := al b u q
      subst eb
      rw [nk u q] at e
      cases e)
  have e0 : Env0 P w K mg (hidT z.heap H) callerA [] z H := ⟨rfl, ⟨kb, nsB g, ⟨mb, nsB hb, hbb⟩, let ⟨c, l1, l2⟩ := lim; ⟨c, nsB l1, l2⟩⟩, fun b o e => of_hidT e, Nat.le_of_eq (hidT_size _ _), trivial, fun b hb => absurd (show b ∈ ([] : List Addr) from hb) (by simp), ok, .of_eq hg⟩
  refine codeAny_mono ((F _ kb (nsB g)).run callerA [] z H ⟨[.ref a], []⟩ [.ref a] [.ref a] _ _ rfl hr e0 (bind z (.ref a)) (.cons rfl .nil) hp) fun r s' h => ?_
  cases r with
  | error e => exact (show False from h).elim
  | ok fl =>
    cases fl with
    | next => exact h.elim
    | brk => exact h.elim
    | cont => exact h.elim
    | ret u =>
      obtain ⟨v, H2, os, bare, un, ok2, rv, rfl⟩ := h
      cases rv
      refine ⟨rfl, OldK.of_keep fun b o e => ?_, os, bare⟩
      rcases only b with q | ⟨ob, xs, q⟩
      · exact un.keep b o e q (fun m => absurd (show b ∈ ([] : List Addr) from m) (by simp)) (by simp)
      · have f1 := (ok b _ q).1
        have f2 := (ok2 b _ (un.frzs b ob _ q)).1
        cases e.symm.trans f1
        exact f2
theorem lawG (kx : K.In z.heap) (g : z.heap.Ns mainGlobals mg) (hb : z.heap.Ns builtinsNs mb) (hbb : ∀ y : Str, y ≠ "__name__" → mb y = bootBuiltins y) (lim : z.heap.NoLimit) (hg : z.gens = #[])
    (ea : z.heap.get? a = some { cls := .type "list", data := .seq vs.toArray }) (hi : IntsAre vs ns) (hl : ns.length ≤ sizeLine) (hr : Room k callerA)
    (F : ∀ base : Heap, K.In base → base.Ns mainGlobals mg → FnG P w K mg base CX0 k fa fd [x] sp) (bind : ∀ (s : Shared) (u : Value), BindsTo s fd ⟨[u], []⟩ [(x, u)])
    (hp : ∀ H : Hp, Only H → SqL K H a (ns.map V.int) → sp [.ref a] H (fun v _ => v = .bl true) fun _ _ _ => False) :
    codeAny (model P w) callerA (.call (.ref fa) ⟨[.ref a], []⟩) (fun r s' => r = .ok (.ret (.bool true)) ∧ OldK z.heap s'.heap ∧ s'.os = z.os ∧ AllBare s'.gens) z := by
  have rv := vals_ints hi
  have ln := hi.length
  cases hk : K.lookup a with
  | some o =>
    have o1 : Only (fun _ => none) := fun _ => .inl rfl
    cases ea.symm.trans (kx a o hk)
    exact lawG_at kx g hb hbb lim hg ea hr F bind (fun _ => none) o1 (hp _ o1 (.inr ⟨_, vs.toArray, _, hk, rfl, rfl, rfl, by rw [List.size_toArray, ln]; exact hl, by simpa using rv⟩)) (fun b u e => by cases e) (fun b u e => by cases e) fun u e => by cases e
  | none =>
    let H0 : Hp := fun b => if b = a then some (.frz { cls := .type "list", data := .seq vs.toArray } (.lst (ns.map V.int))) else none
    have at_ : ∀ b u, H0 b = some u → b = a ∧ u = .frz { cls := .type "list", data := .seq vs.toArray } (.lst (ns.map V.int)) := fun b u e => by
      by_cases eb : b = a
      · exact ⟨eb, (Option.some.inj ((if_pos eb).symm.trans e)).symm⟩
      · cases (if_neg eb).symm.trans e
    have o1 : Only H0 := fun b => by
      by_cases eb : b = a
      · exact .inr ⟨_, _, if_pos eb⟩
      · exact .inl (if_neg eb)
    refine lawG_at kx g hb hbb lim hg ea hr F bind H0 o1 (hp _ o1 (.inl (.inr ⟨{ cls := .type "list", data := .seq vs.toArray }, if_pos rfl⟩))) (fun b u e => ?_) (fun b u e => (at_ b u e).1) fun _ _ => hk
    obtain ⟨rfl, rfl⟩ := at_ b u e
    exact ⟨ea, by rw [List.length_map]; exact hl, vs, _, rv, ea⟩
end
theorem walkG {l : PySem.W.OpenLaw} {n k : Nat} {q : Program} {loose : List Str} {XP : (Str → Option Value) → Heap → Prop} {YP : World → Heap → Prop} {d : DefRec} {x : Str}
    (hn : l.most = some n) (hn2 : n ≤ sizeLine) (hdf : d.params.defaults = []) (hr : Room k callerA)
    (F : ∀ (w : World) (mg : Str → Option Value) (fa : Addr) (h : Heap), YP w h → h.Ns mainGlobals mg → mg d.name = some (.ref fa) →
      ∃ (K : PySem.W.Frag) (fd : FuncData) (sp : Sp), K.In h ∧ (∀ (s : Shared) (u : Value), BindsTo s fd ⟨[u], []⟩ [(x, u)]) ∧
        (∀ (H : Hp) (a : Addr) (ns : List Int), ns.length ≤ n → Only H → SqL K H a (ns.map V.int) → sp [.ref a] H (fun v _ => v = .bl true) fun _ _ _ => False) ∧ ∀ base : Heap, K.In base → base.Ns mainGlobals mg → FnG l.prog w K mg base CX0 k fa fd [x] sp) :
    PySem.W.WalkO q loose XP YP l.row.toRowW d [] (fun f vs => PySem.call f vs) := by
  refine Att.attach_call hn hdf fun w s0 s1 mg mb fa o pm cd doc a vs ns G Y ho hd hcd hmg hobj hints hlen hg => ?_
  obtain ⟨K, fd, sp, kx, hb, hsp, hF⟩ := F w mg fa _ Y G.T.g hmg
  exact lawG kx G.T.g G.T.b G.T.builtins G.T.nolimit hg hobj hints (Nat.le_trans hlen hn2) hr hF hb fun H hO hS => hsp H a ns hlen hO hS
end Gj

/-! own layer: defs by name called by place or by keywords; repr and str of data -/
namespace Gj
open PySem PySem.Spec PyProof.Rows L2
open C8 (Cal pe_c pe_gc)
/-- a def by its name, with its text -/
def CalF (P : Program) (w : World) (K : PySem.W.Frag) (mg : Str → Option Value) (base : Heap) (k : Nat) (x : Str) (st : Stmt) (ps : List Str) (sp : Sp) : Prop :=
  ∃ f fd, Fun K x x st f fd ∧ FnOk P w K mg base CX0 k f fd ps sp ∧ mg x = some (.ref f)
section
variable {P : Program} {w : World} {K : PySem.W.Frag} {mg : Str → Option Value} {base : Heap} {x : Str} {st : Stmt} {ps : List Str} {k : Nat} {sp : Sp}
theorem mkCalF {N : List Str} (D : DefAt K mg x st) (S : FnScope N ps (defScope st)) (len : ∀ vs H Q E, sp vs H Q E → vs.length = ps.length)
    (hbody : ∀ (f : Addr) (cdv : Value) (A : Around) (outer : List Env) (s : Shared) (H : Hp) (vs : List V) (Q : VK) (E : XK), Room k (A.deeper (envOfC x (defScope st) s.heap.objs.size f cdv)) → sp vs H Q E →
      ∃ t, PSs (cxOf CX0 P w K mg base N x (defScope st) f cdv A outer s H E).nox (defBody st) t ∧ t { nx := fun _ H' => Q .non H', rt := Q } (start N vs) H) : CalF P w K mg base (k + 1) x st ps sp := by
  obtain ⟨f, fd, F, g⟩ := D
  exact ⟨f, fd, F, F.ok S len (hbody f), g⟩
theorem CalF.cal (c : CalF P w K mg base k x st ps sp) (hb : ∀ (kV doc pm : Value) (an : Option Addr) (cdv ct : Value) (us : List Value), us.length = ps.length → bindArgs (PySem.W.fnOf x x (defArgs st) (defBody st) (defScope st) .none kV doc pm an cdv ct) ⟨us, []⟩ = pure (ps.zip us)) : Cal P w K mg base k x sp [] := by
  obtain ⟨f, fd, F, h, g⟩ := c
  exact ⟨f, fd, ps, [], h, g, F.kp, F.binds hb, .nil⟩
/-- .. by keywords alone, in the order ks -/
def CalK (P : Program) (w : World) (K : PySem.W.Frag) (mg : Str → Option Value) (base : Heap) (k : Nat) (x : Str) (sp : Sp) (ks : List Str) (gV : List V → List V) : Prop :=
  ∃ (f : Addr) (fd : FuncData) (ps : List Str) (g : List Value → List Value), FnOk P w K mg base CX0 k f fd ps sp ∧ mg x = some (.ref f) ∧ PySem.W.keepIn K (.ref f) = true ∧ KBn K fd ps 0 ks (fun _ ws => g ws) (fun _ zs => gV zs)
theorem CalF.kw (c : CalF P w K mg base k x st ps sp) {ks : List Str} {g : List Value → List Value} {gV : List V → List V}
    (hb : ∀ (kV doc pm : Value) (an : Option Addr) (cdv ct : Value) (ws : List Value), ws.length = ks.length → bindArgs (PySem.W.fnOf x x (defArgs st) (defBody st) (defScope st) .none kV doc pm an cdv ct) ⟨[], ks.zip ws⟩ = pure (ps.zip (g ws)))
    (hv : ∀ {zs : List V} {ws : List Value}, Vals zs ws → Vals (gV zs) (g ws)) : CalK P w K mg base k x sp ks gV := by
  obtain ⟨f, fd, F, h, e⟩ := c
  refine ⟨f, fd, ps, g, h, e, F.kp, ⟨fun s us ws kx l1 l2 => ?_, fun _ rz => hv rz⟩⟩
  obtain ⟨oc, od, kV, doc, pm, an, cdv, ct, osl, rfl, lk, hcd⟩ := F.ex
  cases us with
  | nil => exact BindsTo.of_looks fun M => PySem.W.Looks.of_pure (hb kV doc pm an cdv ct ws l2)
  | cons _ _ => cases l1
end
section
variable {X : Cx} {k j : Nat} {x : Str} {sp : Sp} {p pos : Pos} {kws : List Keyword} {ks : List Str} {gV : List V → List V} {tk : TA}
def tCallK0 (n : Nat) (sp : Sp) (gV : List V → List V) (tk : TA) : TE := fun σ H Q => tk σ H fun zs H2 => zs.length = n ∧ sp (gV zs) H2 Q C8.E0
/-- f(k = v, ..) -/
theorem pe_ck (c : CalK X.prog X.w X.K X.mg X.base k x sp ks gV) (hr : Room j X.A) (hk : k ≤ j) (hg : Gl X x) (hkw : PK X kws tk)
    (hall : (backToKw pos (keywordEach kws X.env)).all (·.1.isSome) = true := by rfl) (hks : (backToKw pos (keywordEach kws X.env)).filterMap (·.1) = ks := by rfl) (hdb : (x == ("__debug__" : Str)) = false := by decide)
    (hpl : ((backTo pos (starEach [] X.env)).any (·.1) || (backToKw pos (keywordEach kws X.env)).any (·.1.isNone)) = false := by rfl) :
    PE X (.Call (.Name x p) [] kws pos) (tCallK0 ks.length sp gV tk) := by
  obtain ⟨f, fd, ps, g, F, hm, kp, hb⟩ := c
  refine ⟨fun pins s σ H Q I h => ?_⟩
  refine wpAny_Call_Name_kw (ld_glob I hg hm ?_ hdb)
  refine PySem.W.callWith_KW0 (h₀ := X.base) I.ok.mod.kin kp hall ?_ hpl
  refine thn (hkw.run pos pins s σ H _ I h) fun ws s2 ⟨zs, H2, I2, rz, l2, q2⟩ => ⟨I2.kIn, ?_⟩
  rw [hks]
  exact run_fnN (us := []) (vs := []) F (hr.mono hk) hb pass0 I2 .nil rz rfl l2 q2
end
/-! ### repr of data -/
section
mutual
theorem Dt.dp {K : PySem.W.Frag} {p : Addr} {H : Hp} : ∀ {v : V} {d : PyData}, Dt p H v d → d.hasDict = false → Dp K H v d
  | _, _, .non, _ => .non
  | _, _, .bl b, _ => .bl b
  | _, _, .int i, _ => .int i
  | _, _, .str x _, _ => .str x
  | _, _, .lst _ _ e h, z => .lst (SqL.of e) (DtAll.dp h (by simpa only [PyData.hasDict] using z))
  | _, _, .tup _ _ e h, z => .tup (SqT.of e) (DtAll.dp h (by simpa only [PyData.hasDict] using z))
  | _, _, .dic _ _, z => absurd z (by simp [PyData.hasDict])
theorem DtAll.dp {K : PySem.W.Frag} {p : Addr} {H : Hp} : ∀ {vs : List V} {ds : List PyData}, DtAll p H vs ds → PyData.hasDictAll ds = false → DpAll K H vs ds
  | _, _, .nil, _ => .nil
  | _, _, .cons a b, z => by
    rw [PyData.hasDictAll, Bool.or_eq_false_iff] at z
    exact .cons (Dt.dp a z.1) (DtAll.dp b z.2)
end
/-- data that repr tells in one piece -/
structure Shows (d : PyData) : Prop where
  show1 : d.showable = true
  nod : d.hasDict = false
  deep : d.depth ≤ 8
  size : d.shown.length ≤ sizeLine
def rReprD (K : PySem.W.Frag) : List V → Hp → VK → Prop := fun xs H Q => ∃ a d, xs = [.ref a] ∧ Dp K H (.ref a) d ∧ Shows d ∧ Q (.str d.shown) H
theorem call_reprD {X : Cx} (hg : X.A.guards = some []) (hu : X.A.units + 64 < cLine) : CallR X (.builtin "repr") (rReprD X.K) := by
  intro pins s σ H xs us Q I r h
  obtain ⟨a, d, rfl, hd, hs, q⟩ := h
  obtain ⟨u, rfl, e⟩ := vals1 r
  cases e
  obtain ⟨as, rd⟩ := Dp.reads I d _ _ hd rfl
  exact repr_of_reads' rd hs.show1 (fun z => absurd z (by rw [hs.nod]; decide)) hg (by have := hs.deep; omega) (fun _ _ e => e) (fun h' u tk k => ⟨.str _, H, I.kept k, ⟨_, rfl⟩, q⟩) hs.size
def rStrD : List V → Hp → VK → Prop := fun xs H Q => (∃ i, xs = [.int i] ∧ i.natAbs.log2 < 1920 ∧ Q (.str (toString i)) H) ∨ ∃ z, xs = [.str z] ∧ Q (.str z) H
end
end Gj
namespace Gj
open PySem PySem.Spec PyProof.Rows L2
theorem call_strD {X : Cx} : CallR X (.type "str") rStrD := by
  intro pins s σ H xs us Q I r h
  rcases h with h | h
  · exact call_str_int pins s σ H xs us Q I r h
  · exact SkE.call_str_str pins s σ H xs us Q I r h
end Gj
namespace Gj
open PySem PySem.Spec PyProof.Rows L2
theorem fnGn {P : Program} {w : World} {K : PySem.W.Frag} {mg : Str → Option Value} {base : Heap} {CX : CXT} {x q : Str} {st : Stmt} {f : Addr} {fd : FuncData} {N ps : List Str} {k : Nat} {sp : Sp} (F : Fun K x q st f fd) (S : FnScope N ps (defScope st)) (len : ∀ vs H Q E, sp vs H Q E → vs.length = ps.length)
    (hb : ∀ (cdv : Value) (A : Around) (outer : List Env) (s : Shared) (H : Hp) (vs : List V) (Q : VK) (E : XK), A.guards = some [] → Room k (A.deeper (envOfC q (defScope st) s.heap.objs.size f cdv)) → sp vs H Q E →
      ∃ t, PSs (cxOf CX P w K mg base N q (defScope st) f cdv A outer s H E).nox (defBody st) t ∧ t { nx := fun _ H' => Q .non H', rt := Q } (start N vs) H) : FnG P w K mg base CX (k + 1) f fd ps sp :=
  fnG F S len fun cdv A outer s H vs Q E hg hr h => let ⟨t, h1, h2⟩ := hb cdv A outer s H vs Q E hg hr h; ⟨t, h1.nox, h2⟩
theorem mkCalG {P : Program} {w : World} {K : PySem.W.Frag} {mg : Str → Option Value} {base : Heap} {x : Str} {st : Stmt} {N ps : List Str} {k : Nat} {sp : Sp} (D : DefAt K mg x st)
    (hb : ∀ (kV doc pm : Value) (an : Option Addr) (cdv ct : Value) (us : List Value), us.length = ps.length → bindArgs (PySem.W.fnOf x x (defArgs st) (defBody st) (defScope st) .none kV doc pm an cdv ct) ⟨us, []⟩ = pure (ps.zip us))
    (S : FnScope N ps (defScope st)) (len : ∀ vs H Q E, sp vs H Q E → vs.length = ps.length)
    (hbody : ∀ (f : Addr) (cdv : Value) (A : Around) (outer : List Env) (s : Shared) (H : Hp) (vs : List V) (Q : VK) (E : XK), A.guards = some [] → Room k (A.deeper (envOfC x (defScope st) s.heap.objs.size f cdv)) → sp vs H Q E →
      ∃ t, PSs (cxOf CX0 P w K mg base N x (defScope st) f cdv A outer s H E).nox (defBody st) t ∧ t { nx := fun _ H' => Q .non H', rt := Q } (start N vs) H) : CalG P w K mg base (k + 1) x sp := by
  obtain ⟨f, fd, F, g⟩ := D
  exact ⟨f, fd, ps, fnGn F S len (hbody f), g, F.kp, F.binds hb⟩
end Gj

/-! own layer: things, their texts -/
namespace Gj
open PySem PySem.Spec PyProof.Rows L2
open C8 (Cal pe_c pe_gc)
def num (n : Nat) : Str := ((toString (n : Int) : String) : Str)
theorem num_S (n : Nat) : num n = SX.S (TL.numL n) := SX.num_S n
theorem num_tl (n : Nat) : (num n).cps.toList = TL.numL n := TL.tl_num n
inductive Th
  | letter (a b w : Str)
  | echo (a b s m : Str) (n : Nat)
  | answer (a s m : Str) (n : Nat) (h : Str) (k : Nat)
  | goer (a : Str) (n : Nat) (zs : List Str)
def Th.parts : Th → List PyData
  | .letter a b w => [.str "letter", .str a, .str b, .str w]
  | .echo a b s m n => [.str "echo", .str a, .str b, .str s, .tuple [.str m, .int (n : Int)]]
  | .answer a s m n h k => [.str "answer", .str a, .str s, .tuple [.str m, .int (n : Int)], .tuple [.str h, .int (k : Int)]]
  | .goer a n zs => [.str "goer", .str a, .int (n : Int), .tuple (zs.map .str)]
def Th.data (t : Th) : PyData := .tuple t.parts
def Th.words : Th → List Str
  | .letter a b w => ["letter", a, b, w]
  | .echo a b s m n => ["echo", a, b, s, m, num n]
  | .answer a s m n h k => ["answer", a, s, m, num n, h, num k]
  | .goer a n zs => "goer" :: a :: num n :: zs
def Th.text (t : Th) : Str := Txt.join " " t.words
/-- a number that a thing has -/
def NumOk (n : Nat) : Prop := n < 10 ^ 31
def Th.Good : Th → Prop
  | .letter a b w => NameS a ∧ NameS b ∧ WordS w
  | .echo a b s m n => NameS a ∧ NameS b ∧ s ∈ sorts ∧ NameS m ∧ NumOk n
  | .answer a s m n h k => NameS a ∧ s ∈ sorts ∧ NameS m ∧ NumOk n ∧ NameS h ∧ 1 ≤ k ∧ NumOk k
  | .goer a n zs => NameS a ∧ 2 ≤ n ∧ NumOk n ∧ (∀ z ∈ zs, NameS z) ∧ zs.Nodup ∧ zs.length ≤ 9
/-! ### signs -/
theorem NameS.free {z : Str} (h : NameS z) : (32 : Nat) ∉ TL.tl z := by
  obtain ⟨cs, rfl, _, _, h3⟩ := h.ex
  intro hm
  exact absurd (h3 32 hm) (by decide +kernel)
theorem WordS.free {z : Str} (h : WordS z) : (32 : Nat) ∉ TL.tl z := by
  obtain ⟨cs, rfl, _, _, h3⟩ := h.ex
  intro hm
  exact absurd (h3 32 hm) (by decide +kernel)
theorem num_free (n : Nat) : (32 : Nat) ∉ TL.tl (num n) := by
  show 32 ∉ (num n).cps.toList
  rw [num_tl]
  exact TL.numL_free (.inl (by decide))
theorem num_len {n : Nat} (h : NumOk n) : (num n).length ≤ 31 := by
  rw [num_S, SX.S_len]
  exact TL.numL_len (by decide) h
theorem sorts_name : ∀ s ∈ sorts, mName (.str s) = true ∧ s.length ≤ 8 ∧ (32 : Nat) ∉ TL.tl s := by decide +kernel
theorem kinds_name : ∀ s ∈ (["letter", "echo", "answer", "goer"] : List Str), mName (.str s) = true ∧ s.length ≤ 8 ∧ (32 : Nat) ∉ TL.tl s := by decide +kernel
theorem NameS.m {z : Str} (h : NameS z) : mName (.str z) = true := by
  obtain ⟨cs, rfl, h1, h2, h3⟩ := h.ex
  exact txt_of (most := 8) h1 h2 h3
theorem wrds_eq : wrds = (sLetters ++ sFigures : Str).cps.toList := by decide +kernel
theorem WordS.m {z : Str} (h : WordS z) : mWord (.str z) = true := by
  obtain ⟨cs, rfl, h1, h2, h3⟩ := h.ex
  exact txt_of (most := 12) h1 h2 fun c hc => wrds_eq ▸ h3 c hc
theorem whole_m {n : Nat} {i : Int} (h : i ≤ n) : mWhole (.int n) i = true := decide_eq_true h
theorem sort_m {s : Str} (h : s ∈ sorts) : mSort (.str s) = true := by
  show (mName (.str s) && sorts.any fun z => isT (.str s) z) = true
  rw [(sorts_name s h).1, Bool.true_and]
  exact List.any_eq_true.mpr ⟨s, h, beq_self_eq_true s⟩
theorem pair_m {z : Str} {n : Nat} {i : Int} (h : NameS z) (h2 : i ≤ n) : mPair (.tuple [.str z, .int (n : Int)]) i = true := by
  show (true && (mName (.str z) && mWhole (.int n) i)) = true
  rw [h.m, whole_m h2]
  rfl
theorem strsOf_map : ∀ zs : List Str, strsOf (zs.map PyData.str) = zs
  | [] => rfl
  | z :: l => congrArg (z :: ·) (strsOf_map l)
theorem shut_m {zs : List Str} (h : ∀ z ∈ zs, NameS z) (nd : zs.Nodup) : mShut (.tuple (zs.map .str)) = true := by
  show ((zs.map PyData.str).all mName && decide (distinct (taken (strsOf (zs.map PyData.str)) (strsOf (zs.map PyData.str)).length) = (strsOf (zs.map PyData.str)).length)) = true
  rw [strsOf_map]
  have e1 : (zs.map PyData.str).all mName = true := by
    rw [List.all_map]
    exact List.all_eq_true.mpr fun z hz => (h z hz).m
  have e2 : taken zs zs.length = zs.reverse := by
    unfold taken
    rw [List.take_of_length_le (Nat.le_refl _)]
  rw [e1, Bool.true_and, e2]
  refine decide_eq_true ?_
  rw [← List.length_reverse]
  exact (distinct_nodup _).mpr (List.pairwise_reverse.mpr (nd.imp Ne.symm))
theorem begins_m {k : Str} {ds : List PyData} {n : Int} (hk : mName (.str k) = true) (hl : ((ds.length : Int) + 1) = n) : mBegins (.tuple (.str k :: ds)) k n = true := by
  show (decide (((ds.length + 1 : Nat) : Int) = n) && (mName (.str k) && (k == k))) = true
  rw [hk, beq_self_eq_true, decide_eq_true (by omega)]
  rfl
theorem or_r {a b : Bool} (h : b = true) : (a || b) = true := by rw [h, Bool.or_true]
theorem or_l {a b : Bool} (h : a = true) : (a || b) = true := by rw [h, Bool.true_or]
theorem and_i {a b : Bool} (h : a = true) (h2 : b = true) : (a && b) = true := by rw [h, h2]; rfl
theorem Th.Good.thing {t : Th} (h : t.Good) : mThing t.data = true := by
  have k := kinds_name
  cases t with
  | letter a b w =>
    obtain ⟨h1, h2, h3⟩ := h
    exact or_l (or_l (and_i (begins_m (k _ (by decide +kernel)).1 rfl) (and_i h1.m (and_i h2.m h3.m))))
  | echo a b s m n =>
    obtain ⟨h1, h2, h3, h4, h5⟩ := h
    exact or_l (or_r (and_i (begins_m (k _ (by decide +kernel)).1 rfl) (and_i h1.m (and_i h2.m (and_i (sort_m h3) (pair_m h4 (by omega)))))))
  | answer a s m n h k2 =>
    obtain ⟨h1, h2, h3, h4, h5, h6, h7⟩ := h
    exact or_r (or_l (and_i (begins_m (k _ (by decide +kernel)).1 rfl) (and_i h1.m (and_i (sort_m h2) (and_i (pair_m h3 (by omega)) (pair_m h5 (by omega)))))))
  | goer a n zs =>
    obtain ⟨h1, h2, h3, h4, h5, h6⟩ := h
    exact or_r (or_r (and_i (begins_m (k _ (by decide +kernel)).1 rfl) (and_i h1.m (and_i (whole_m (by omega)) (shut_m h4 h5)))))
/-! ### words -/
theorem Th.Good.word {t : Th} (h : t.Good) : ∀ z ∈ t.words, (32 : Nat) ∉ TL.tl z ∧ z.length ≤ 31 := by
  have k := kinds_name
  have kk : ∀ s ∈ (["letter", "echo", "answer", "goer"] : List Str), (32 : Nat) ∉ TL.tl s ∧ s.length ≤ 31 := fun s hs => ⟨(k s hs).2.2, by have := (k s hs).2.1; omega⟩
  have nn : ∀ {z : Str}, NameS z → (32 : Nat) ∉ TL.tl z ∧ z.length ≤ 31 := fun h => ⟨h.free, by have := h.len; omega⟩
  have ss : ∀ {s : Str}, s ∈ sorts → (32 : Nat) ∉ TL.tl s ∧ s.length ≤ 31 := fun h => ⟨(sorts_name _ h).2.2, by have := (sorts_name _ h).2.1; omega⟩
  have mm : ∀ {n : Nat}, NumOk n → (32 : Nat) ∉ TL.tl (num n) ∧ (num n).length ≤ 31 := fun h => ⟨num_free _, num_len h⟩
  have ww : ∀ {z : Str}, WordS z → (32 : Nat) ∉ TL.tl z ∧ z.length ≤ 31 := fun h => ⟨h.free, by
    obtain ⟨cs, rfl, h1, h2, _⟩ := h.ex
    rw [SX.S_len]
    omega⟩
  cases t with
  | letter a b w =>
    obtain ⟨h1, h2, h3⟩ := h
    intro z hz
    simp only [Th.words, List.mem_cons, List.not_mem_nil, or_false] at hz
    rcases hz with rfl | rfl | rfl | rfl
    · exact kk _ (by decide +kernel)
    · exact nn h1
    · exact nn h2
    · exact ww h3
  | echo a b s m n =>
    obtain ⟨h1, h2, h3, h4, h5⟩ := h
    intro z hz
    simp only [Th.words, List.mem_cons, List.not_mem_nil, or_false] at hz
    rcases hz with rfl | rfl | rfl | rfl | rfl | rfl
    · exact kk _ (by decide +kernel)
    · exact nn h1
    · exact nn h2
    · exact ss h3
    · exact nn h4
    · exact mm h5
  | answer a s m n h k2 =>
    obtain ⟨h1, h2, h3, h4, h5, h6, h7⟩ := h
    intro z hz
    simp only [Th.words, List.mem_cons, List.not_mem_nil, or_false] at hz
    rcases hz with rfl | rfl | rfl | rfl | rfl | rfl | rfl
    · exact kk _ (by decide +kernel)
    · exact nn h1
    · exact ss h2
    · exact nn h3
    · exact mm h4
    · exact nn h5
    · exact mm h7
  | goer a n zs =>
    obtain ⟨h1, h2, h3, h4, h5, h6⟩ := h
    intro z hz
    simp only [Th.words, List.mem_cons] at hz
    rcases hz with rfl | rfl | rfl | hz
    · exact kk _ (by decide +kernel)
    · exact nn h1
    · exact mm h3
    · exact nn (h4 z hz)
theorem Th.Good.many {t : Th} (h : t.Good) : 3 ≤ t.words.length ∧ t.words.length ≤ 12 := by
  cases t with
  | letter a b w => show 3 ≤ 4 ∧ 4 ≤ 12; omega
  | echo a b s m n => show 3 ≤ 6 ∧ 6 ≤ 12; omega
  | answer a s m n h k2 => show 3 ≤ 7 ∧ 7 ≤ 12; omega
  | goer a n zs =>
    obtain ⟨h1, h2, h3, h4, h5, h6⟩ := h
    show 3 ≤ zs.length + 1 + 1 + 1 ∧ zs.length + 1 + 1 + 1 ≤ 12
    omega
theorem sum_le {B : Nat} : ∀ {l : List Str}, (∀ z ∈ l, z.length ≤ B) → (l.map (·.length)).sum ≤ l.length * B
  | [], _ => Nat.zero_le _
  | z :: l, h => by
    rw [List.map_cons, List.sum_cons, List.length_cons, Nat.succ_mul]
    have := h z List.mem_cons_self
    have := sum_le fun y hy => h y (List.mem_cons_of_mem _ hy)
    omega
theorem Th.Good.sum {t : Th} (h : t.Good) : (t.words.map (·.length)).sum ≤ 400 := by
  have h1 := sum_le (B := 31) fun z hz => (h.word z hz).2
  have h2 := h.many.2
  have h3 : t.words.length * 31 ≤ 12 * 31 := Nat.mul_le_mul_right _ h2
  omega
/-- THE READ-BACK -/
theorem Th.Good.split {t : Th} (h : t.Good) : Txt.split t.text " " = t.words :=
  TL.split_join (s := 32) (S := []) rfl (by decide +kernel) (fun e => by have := h.many.1; rw [e] at this; exact absurd this (by decide)) fun z hz => (h.word z hz).1
theorem Th.inj {t u : Th} (h : t.Good) (h2 : u.Good) (e : t.text = u.text) : t.words = u.words := by rw [← h.split, ← h2.split, e]
theorem num_inj {m n : Nat} (h : num m = num n) : m = n := TL.numL_inj (by rw [← num_tl, ← num_tl, h])
theorem words_inj {t u : Th} (e : t.words = u.words) : t = u := by
  cases t <;> cases u <;> simp only [Th.words, List.cons.injEq, and_true, true_and] at e
  case letter.letter => obtain ⟨rfl, rfl, rfl⟩ := e; rfl
  case echo.echo =>
    obtain ⟨rfl, rfl, rfl, rfl, e⟩ := e
    rw [num_inj e]
  case answer.answer =>
    obtain ⟨rfl, rfl, rfl, e1, rfl, e2⟩ := e
    rw [num_inj e1, num_inj e2]
  case goer.goer =>
    obtain ⟨rfl, e, rfl⟩ := e
    rw [num_inj e]
  all_goals exact absurd e.1 (by decide +kernel)
theorem Th.text_inj {t u : Th} (h : t.Good) (h2 : u.Good) (e : t.text = u.text) : t = u := words_inj (Th.inj h h2 e)
/-! ### repr -/
theorem str_small {z : Str} {B : Nat} (h : ∀ c ∈ z.cps.toList, c < 16 ^ 8) (hl : z.length ≤ B) : (PyData.shown (.str z)).length ≤ 10 * B + 2 := by
  have := StrLaws.reprText_len z h
  show (reprText z).length ≤ _
  omega
theorem NameS.cps {z : Str} (h : NameS z) : ∀ c ∈ z.cps.toList, c < 16 ^ 8 := by
  obtain ⟨cs, rfl, _, _, h3⟩ := h.ex
  have k : ∀ c ∈ ltrs, c < 16 ^ 8 := by decide +kernel
  exact fun c hc => k c (h3 c hc)
theorem WordS.cps {z : Str} (h : WordS z) : ∀ c ∈ z.cps.toList, c < 16 ^ 8 := by
  obtain ⟨cs, rfl, _, _, h3⟩ := h.ex
  have k : ∀ c ∈ wrds, c < 16 ^ 8 := by decide +kernel
  exact fun c hc => k c (h3 c hc)
theorem sorts_cps : ∀ s ∈ sorts, ∀ c ∈ s.cps.toList, c < 16 ^ 8 := by decide +kernel
theorem kinds_cps : ∀ s ∈ (["letter", "echo", "answer", "goer"] : List Str), ∀ c ∈ s.cps.toList, c < 16 ^ 8 := by decide +kernel
theorem piled_le {B : Nat} : ∀ {l : List Str}, (∀ z ∈ l, z.length ≤ B) → piled l ≤ l.length * (B + 2)
  | [], _ => Nat.zero_le _
  | z :: l, h => by
    have := h z List.mem_cons_self
    have := piled_le fun y hy => h y (List.mem_cons_of_mem _ hy)
    rw [List.length_cons, Nat.succ_mul]
    simp only [piled, List.map_cons, List.sum_cons] at *
    omega
theorem shownAll_map (ds : List PyData) : PyData.shownAll ds = ds.map PyData.shown := by
  induction ds with
  | nil => rfl
  | cons d l ih => rw [PyData.shownAll, ih, List.map_cons]
theorem tup_small {B : Nat} {ds : List PyData} (h : ∀ d ∈ ds, d.shown.length ≤ B) : (PyData.shown (.tuple ds)).length ≤ ds.length * (B + 2) + 2 := by
  show (tupleText (PyData.shownAll ds)).length ≤ _
  rw [shownAll_map]
  have h1 := fmt_text (ds.map PyData.shown)
  have h2 := piled_le (B := B) (l := ds.map PyData.shown) fun z hz => by
    obtain ⟨d, hd, rfl⟩ := List.mem_map.mp hz
    exact h d hd
  rw [List.length_map] at h2
  omega
theorem int_small {n : Nat} (h : NumOk n) : (PyData.shown (.int n)).length ≤ 400 := by
  have := num_len h
  show (num n).length ≤ 400
  omega
theorem int_log {n : Nat} (h : NumOk n) : (n : Int).natAbs.log2 < 1920 := by
  show n.log2 < 1920
  by_cases e : n = 0
  · subst e
    decide
  · have h2 : n < 2 ^ 1920 := Nat.lt_trans h (by decide +kernel)
    exact (Nat.log2_lt e).mpr h2
end Gj

/-! own layer: enumerate over a tuple -/
namespace Gj
open PySem PySem.Spec PyProof.Rows L2
open Sem (wp)
open AutoSeq1 (wpAny_loadPart')
theorem enumT_new (c : Addr) (xs : Array Value) (m : Nat) (dd : Option Addr) (ss : Array (Option Value)) :
    Meets (Builtin.«enumerate.__new__» ⟨[.type "enumerate", .ref c], []⟩) (fun _ R z => z.heap.get? c = some { cls := .type "tuple", dict := dd, data := .seq xs m, slots := ss } ∧
      R (.ok (.ret (.ref (z.heap.push { cls := .type "tuple_iterator", data := .fields #[.ref c, .int 0 0] }).objs.size)))
        { z with heap := (z.heap.push { cls := .type "tuple_iterator", data := .fields #[.ref c, .int 0 0] }).push { cls := .type "enumerate", data := .fields #[.none, .bool false, .ref z.heap.objs.size, rawInt 0, .none, .none] } }) :=
  .of_wp fun prog w A R z hh => by
    obtain ⟨hp, gg, dp, tk, os⟩ := z
    obtain ⟨hc, hh⟩ := hh
    have sb := sub_enumerate
    have hT : Heap.IsTuple (Shared.heap ⟨hp, gg, dp, tk, os⟩) c xs := ⟨_, hc, rfl, m, rfl⟩
    wp_walk using wpAny_loadPart' hc
    refine wpAny_stack_any fun _ => wpAny_pure ?_
    split
    · rename_i y _ _ _ _ _
      cases (y == Value.type "enumerate")
      · wp_walk using wpAny_loadPart' hc, wpAny_pyIter_tuple hT
        exact ⟨_, rfl, hh⟩
      · wp_walk using wpAny_loadPart' hc, wpAny_pyIter_tuple hT
        exact ⟨_, rfl, hh⟩
    · wp_walk using wpAny_loadPart' hc, wpAny_pyIter_tuple hT
      exact ⟨_, rfl, hh⟩
theorem enumT_call {prog : Program} {w : World} {A : Around} {E : Value → Shared → Prop} {s : Shared} {c : Addr} {xs : Array Value} {Q : Value → Shared → Prop} (hT : s.heap.IsTuple c xs)
    (k : ∀ h2, IsEnum h2 (s.heap.objs.size + 1) s.heap.objs.size 0 .none → h2.IsTupleIter s.heap.objs.size c 0 → (∀ b o, s.heap.get? b = some o → h2.get? b = some o) → Q (.ref (s.heap.objs.size + 1)) { s with heap := h2 }) :
    wpAny (model prog w) A (call (.type "enumerate") [.ref c]) Q E s := by
  obtain ⟨⟨cl, dd, dt, ss⟩, hc, hcl, m, hdt⟩ := hT
  obtain rfl : cl = .type "tuple" := hcl
  obtain rfl : dt = .seq xs m := hdt
  refine callType_new F.called_enumerate (by decide) (F.typeCall_enumerate_1 _) (F.newCall_enumerate_1 _) (fun ob => F.args_object_init_2 ob _) F.entry_enumerate_new
    (enumT_new c xs m dd ss) ⟨hc, ?_⟩
  have z1 : (s.heap.push { cls := .type "tuple_iterator", data := .fields #[.ref c, .int 0 0] }).objs.size = s.heap.objs.size + 1 := Heap.size_push ..
  show _ ∧ _
  rw [z1]
  have en : IsEnum ((s.heap.push { cls := .type "tuple_iterator", data := .fields #[.ref c, .int 0 0] }).push
      { cls := .type "enumerate", data := .fields #[.none, .bool false, .ref s.heap.objs.size, rawInt 0, .none, .none] }) (s.heap.objs.size + 1) s.heap.objs.size 0 .none := by
    have g := Heap.get?_push_size (s.heap.push { cls := .type "tuple_iterator", data := .fields #[.ref c, .int 0 0] })
      (o := { cls := .type "enumerate", data := .fields #[.none, .bool false, .ref s.heap.objs.size, rawInt 0, .none, .none] }) rfl
    rw [z1] at g
    exact g
  exact ⟨⟨_, en, rfl⟩, k _ en ⟨_, Heap.get?_push_of_some _ (Heap.get?_push_size _ rfl), rfl, rfl⟩ fun b o x => Heap.get?_push_of_some _ (Heap.get?_push_of_some _ x)⟩
/-- the tuple at a, each part in a new pair -/
def ItT (K : PySem.W.Frag) (a : Addr) : It :=
  ⟨fun i H => ∃ (xs : List V) (x : V), SqT K H a xs ∧ xs[i]? = some x, fun i H v H' => ∃ T x, v = .ref T ∧ H T = none ∧ H' = upd H T (.tup [.int (i : Nat), x]) ∧ ∀ xs, SqT K H a xs → xs[i]? = some x, fun i H => ∃ xs : List V, SqT K H a xs ∧ xs.length = i⟩
theorem turn_enumT {P : Program} {w : World} {K : PySem.W.Frag} {elts : List Expr} {kk : Nat} {tpos : Pos} (a e it : Addr) (hai : a ≠ it) (hae : e ≠ a) :
    Turn P w K (.Tuple elts kk tpos) (ItT K a) [e, it] e (fun i h => (∃ old, IsEnum h e it ((i : Nat) : Int) old) ∧ h.IsTupleIter it a i ∧ e ≠ it) where
  mem := by simp
  obj := fun i h st b hb => by
    obtain ⟨⟨old, he⟩, ⟨ot, go, kc, kd⟩, _⟩ := st
    have e2 : b = e ∨ b = it := by simpa using hb
    rcases e2 with rfl | rfl
    · exact ⟨_, he, fun v q => nomatch q⟩
    · exact ⟨ot, go, fun v q => by rw [kd] at q; cases q⟩
  keep := fun i h h' st k => let ⟨⟨old, he⟩, hi, hne⟩ := st; ⟨⟨old, k e (by simp) _ he⟩, hi.at fun ot q => k it (by simp) ot q, hne⟩
  item := by
    intro X hP hw hK hc i pins s σ H E I hf st hg
    subst hP hw hK
    obtain ⟨⟨old, he⟩, hit, hne⟩ := st
    obtain ⟨xs, x, hq, hx⟩ := hg
    obtain ⟨us, rv, pt, _⟩ := I.tuple hq
    obtain ⟨u, hu, ru⟩ := rv.get hx
    have lu : i < us.toArray.size := by
      have := (List.getElem?_eq_some_iff.mp hu).1
      simpa using this
    have el : e < s.heap.objs.size := Heap.lt_size he
    have il : it < s.heap.objs.size := by obtain ⟨_, q, _⟩ := hit; exact Heap.lt_size q
    refine wpAny_pyNext_enum_itemD (Draws.tuple (A := X.A.in1) (I.ok.hd hc) it a hai us.toArray) he ⟨hit, pt⟩ lu hne (by simp [hne, hae]) fun x2 h' tk px ho st' hT hsz hk => ?_
    have ex : x2 = u := by
      have : us[i]? = some x2 := by simpa using px
      rw [hu] at this
      exact (Option.some.inj this).symm
    subst ex
    refine ⟨_, rfl, wpAny_letOwnedTupleGo_enum (s := { s with heap := h', toks := tk + 1 }) ho fun h'' he' sb => ?_⟩
    have hT2 : h''.get? s.heap.objs.size = some { cls := .type "tuple", data := .seq #[.int i tk, x2] } := (sb.2 _ (Nat.ne_of_gt el)).trans hT
    have nw : ObjOk X.prog X.w (upd H s.heap.objs.size (.tup [.int (i : Nat), x])) h'' s.heap.objs.size (.tup [.int (i : Nat), x]) :=
      ⟨by show 2 ≤ sizeLine; decide, [.int i tk, x2], .cons ⟨_, rfl⟩ (.cons ru .nil), ⟨_, hT2, rfl, _, rfl⟩⟩
    have I1 : Inv X pins σ (upd H s.heap.objs.size (.tup [.int (i : Nat), x])) { s with heap := h'', toks := tk + 1 } :=
      I.turnedNew (ch := [e, it]) (fun b ob hb q => (sb.2 b (fun z => hb (by simp [z]))).trans (hk b ob (fun z => hb (by simp [z])) (fun z => hb (by simp [z])) q)) hf (Nat.le_refl _) nw
    refine ⟨.ref s.heap.objs.size, _, I1, rfl, ⟨_, x, rfl, I.hok.fresh (Nat.le_refl _), rfl, fun ys hy => by rw [I.tuple_inj hy hq]; exact hx⟩, ⟨⟨x2, ?_⟩, st'.1.at fun ot q => (sb.2 it (Ne.symm hne)).trans q, hne⟩, fun b hb => ?_⟩
    · have e1 : ((i + 1 : Nat) : Int) = (i : Int) + 1 := by omega
      rw [e1]
      exact he'
    · have e2 : b = e ∨ b = it := by simpa using hb
      have lb : b < s.heap.objs.size := by rcases e2 with rfl | rfl <;> assumption
      rw [upd_ne (Nat.ne_of_lt lb)]
      exact (hf b hb).1
  done := by
    intro X hP hw hK hc i pins s σ H E I hf st hg
    subst hP hw hK
    obtain ⟨⟨old, he⟩, hit, hne⟩ := st
    obtain ⟨xs, hq, hx⟩ := hg
    obtain ⟨us, rv, pt, _⟩ := I.tuple hq
    obtain ⟨f0, f1, f2, f3, f4, f5⟩ := hf it (by simp)
    have hl := rv.length
    have ei : i = us.toArray.size := by simp; omega
    rw [ei] at hit
    exact wpAny_pyNext_enum_endD (Draws.tuple (A := X.A.in1) (I.ok.hd hc) it a hai us.toArray) he ⟨hit, pt⟩ fun h' eb => ⟨rfl, I.turned (t' := s.toks) (fun b ot hb q => eb b ot hb q) f0 f1 f3 f4 f5⟩
  self := fun A i s Q E st h => let ⟨⟨_, he⟩, _⟩ := st; wpAny_pyIter_enum he h
def iEnumT (K : PySem.W.Frag) (ta : TA) : TI := fun σ H R => ta σ H fun vs H1 => ∃ a xs, vs = [.ref a] ∧ SqT K H1 a xs ∧ R (ItT K a) H1
theorem pi_enumT {X : Cx} {e : Expr} {ta : TA} {p pos tpos : Pos} {elts : List Expr} {kk : Nat} (hg : Gl X "enumerate") (hm : X.mg "enumerate" = none) (ha : PA X [e] ta) (hs : starEach [e] X.env = [(false, eval e X.env)] := by rfl) :
    PI X (.Tuple elts kk tpos) (.Call (.Name "enumerate" p) [e] [] pos) (iEnumT X.K ta) := by
  refine ⟨fun pins s σ H R I h => ?_⟩
  refine Call_ (ld_blt I hg hm boot_enumerate (PyProof.Rows.callWith_type1 (thn (ha.run pos pins s σ H _ I h) fun us s1 ⟨vs, H1, I1, r1, q1⟩ => ?_) hs rfl))
  obtain ⟨a, xs, rfl, hq, q⟩ := q1
  cases r1 with
  | cons r rr =>
    cases rr
    cases r
    obtain ⟨its, rv, pt, _⟩ := I1.tuple hq
    have la : a < s1.heap.objs.size := by obtain ⟨o, g, _⟩ := pt; exact Heap.lt_size g
    refine enumT_call pt fun h2 he hit hk => wpAny_pyIter_enum he ?_
    have I2 : Inv X pins σ H1 { s1 with heap := h2 } := I1.kept (t' := s1.toks) hk
    refine ⟨s1.heap.objs.size + 1, [s1.heap.objs.size + 1, s1.heap.objs.size], _, _, H1, rfl, I2, turn_enumT a (s1.heap.objs.size + 1) s1.heap.objs.size (Nat.ne_of_lt la) (Nat.ne_of_gt (Nat.lt_succ_of_lt la)), ⟨⟨.none, he⟩, hit, Nat.succ_ne_self _⟩, fun b hb => ?_, q⟩
    have e2 : b = s1.heap.objs.size + 1 ∨ b = s1.heap.objs.size := by simpa using hb
    have hle : s1.heap.objs.size ≤ b := by
      rcases e2 with z | z <;> rw [z]
      · exact Nat.le_add_right _ _
      · exact Nat.le_refl _
    exact I1.fpOk hle (I1.hok.fresh hle)
end Gj

/-! own layer: tests as statements have them; blocks that return a truth -/
namespace Gj
open PySem PySem.Spec PyProof.Rows L2
open C8 (Cal pe_c pe_gc)
def SayT (t : TT) (σ : L2.St) (H : Hp) (b : Bool) : Prop := ∀ Q : Bool → Hp → Prop, (∀ H', Same H H' → Q b H') → t σ H Q
/-- a block that returns the truth b -/
def Rets (t : TS) (σ : L2.St) (H : Hp) (b : Bool) : Prop := ∀ D : Ends, (∀ H', Same H H' → D.rt (.bl b) H') → t D σ H
section
variable {σ : L2.St} {H : Hp} {ta tb te : TE} {t1 t2 tc : TT} {u1 u2 : TS} {a b c : Bool} {K : PySem.W.Frag} {p : Addr} {v : V} {d : PyData}
theorem Say.tB (h : Say ta σ H a) : SayT (tB ta) σ H a := fun Q q => h _ fun H1 s1 => ⟨a, rfl, q H1 s1⟩
theorem Say.tTest (h : Say ta σ H a) : SayT (tTest ta) σ H a := fun Q q => h _ fun H1 s1 => ⟨a, rfl, q H1 s1⟩
theorem SayT.not (h : SayT t1 σ H a) : SayT (tNot t1) σ H (!a) := fun Q q => h _ q
theorem SayT.of (h : SayT t1 σ H a) (e : a = b) : SayT t1 σ H b := e ▸ h
theorem SayT.or (ha : SayT t1 σ H a) (hb : a = false → ∀ H', Same H H' → SayT t2 σ H' b) : SayT (tOr t1 t2) σ H (a || b) := fun Q q => ha _ fun H1 s1 => by
  cases a with
  | true => exact iteT (q H1 s1)
  | false => exact iteF (hb rfl H1 s1 Q fun H2 s2 => q H2 (s1.trans s2))
theorem SayT.and (ha : SayT t1 σ H a) (hb : a = true → ∀ H', Same H H' → SayT t2 σ H' b) : SayT (tAnd t1 t2) σ H (a && b) := fun Q q => ha _ fun H1 s1 => by
  cases a with
  | true => exact iteT (hb rfl H1 s1 Q fun H2 s2 => q H2 (s1.trans s2))
  | false => exact iteF (q H1 s1)
theorem Rets.ret (h : Say te σ H b) : Rets (tRet te) σ H b := fun D q => h _ q
theorem Rets.of (h : Rets u1 σ H a) (e : a = b) : Rets u1 σ H b := e ▸ h
/-- if c: return a; the rest -/
theorem Rets.iff (hc : SayT tc σ H c) (h1 : c = true → ∀ H', Same H H' → Rets u1 σ H' a) (h2 : c = false → ∀ H', Same H H' → Rets u2 σ H' b) : Rets (tSeq (tIfS tc u1 tNext) u2) σ H (bif c then a else b) := fun D q => hc _ fun H1 s1 => by
  cases c with
  | true => exact iteT (h1 rfl H1 s1 _ fun H2 s2 => q H2 (s1.trans s2))
  | false => exact iteF (h2 rfl H1 s1 D fun H2 s2 => q H2 (s1.trans s2))
theorem say_bl : Say (tC (.bl b)) σ H b := fun Q q => q H (Same.refl H)
theorem say_len {c : Addr} {xs : List V} (hv : Giv te σ H (.ref c)) (e : H c = some (.tup xs)) : Giv (tCB (rLenX K) (tCons te tNil)) σ H (.int (xs.length : Nat)) := fun Q q => hv _ ⟨.ref c, xs.length, rfl, .inr ⟨xs, SqT.of e, rfl⟩, q⟩
theorem say_lt {i j : Int} (h1 : Giv ta σ H (.int i)) (h2 : Giv tb σ H (.int j)) : Say (tOp (rI0 fun i j => .bl (decide (i < j))) ta tb) σ H (decide (i < j)) := fun Q q => h1 _ (h2 _ ⟨i, j, rfl, rfl, q H (Same.refl H)⟩)
theorem dec_int2 {i j : Int} : decide (V.int i = V.int j) = decide (i = j) := by
  by_cases h : i = j
  · rw [h, decide_eq_true rfl, decide_eq_true rfl]
  · rw [decide_eq_false h, decide_eq_false fun z => h (V.int.inj z)]
theorem say_eqI {i j : Int} (h1 : Giv ta σ H (.int i)) (h2 : Giv tb σ H (.int j)) : Say (tOp rEq ta tb) σ H (decide (i = j)) := fun Q q => h1 _ (h2 _ ⟨rfl, by rw [dec_int2]; exact q H (Same.refl H)⟩)
theorem say_neI {i j : Int} (h1 : Giv ta σ H (.int i)) (h2 : Giv tb σ H (.int j)) : Say (tOp rNe ta tb) σ H (!decide (i = j)) := fun Q q => h1 _ (h2 _ ⟨rfl, by rw [dec_int2]; exact q H (Same.refl H)⟩)
end
theorem walk_enumT {K : PySem.W.Frag} {a : Addr} {xs : List V} : Walk (ItT K a) xs.length (fun H => SqT K H a xs) (fun i H v H' => ∃ T x, v = .ref T ∧ H T = none ∧ H' = upd H T (.tup [.int (i : Nat), x]) ∧ xs[i]? = some x) :=
  ⟨fun i _ hi q => ⟨xs, xs[i], q, by simp [hi]⟩, fun _ q => ⟨xs, q, rfl⟩, fun _ _ _ _ _ q ⟨T, x, h1, h2, h3, h4⟩ => ⟨T, x, h1, h2, h3, h4 xs q⟩⟩
/-- whether the k-th is none of those ahead of it -/
def newAt (zs : List Str) (k : Nat) : Bool := !decide (zs.getD k Str.empty ∈ zs.take k)
theorem cut_to (xs : List V) (k : Nat) : cutV xs none (some (k : Int)) = xs.take k := by
  unfold cutV
  rw [HT.sIx_none, HT.sIx_nat, List.drop_zero, Nat.sub_zero]
  by_cases h : k ≤ xs.length
  · rw [Nat.min_eq_left h]
  · rw [Nat.min_eq_right (by omega), List.take_of_length_le (Nat.le_refl _), List.take_of_length_le (by omega)]
theorem say_news {σ : L2.St} {H : Hp} {K : PySem.W.Frag} {te ts : TE} {i j : Nat} {vs : List Nat} {c : Addr} {zs : List Str} (hl : zs.length ≤ 1000) (hv : Giv te σ H (.ref c)) (ec : H c = some (.tup (zs.map V.str)))
    (hw : ∀ x y, wipe (((wipe σ vs).set i (some x)).set j (some y)) vs = wipe σ vs) (hi : ∀ x y, (((wipe σ vs).set i (some x)).set j (some y))[i]? = some (some x)) (hj : ∀ x y, (((wipe σ vs).set i (some x)).set j (some y))[j]? = some (some y)) (hs : ∀ x y H, Giv ts (((wipe σ vs).set i (some x)).set j (some y)) H (.ref c)) :
    Say (tCB (rAll K) (tCons (tLc (iEnumT K (tCons te tNil)) (gTup K 2 (gCons (gName i) (gCons (gName j) gNil))) tYes (tOp (rIn K true) (tVar j) (tSl (rSlA K) ts tNoPart (tPart (tVar i)))) vs) tNil)) σ H ((List.range zs.length).all (newAt zs)) := fun Q q => hv _ ⟨c, _, rfl, SqT.of ec, fun D hD => by
  refine lc_it (walk_enumT (xs := zs.map V.str)) (Pv := fun k H' => Same H H' ∧ H' D = some (.lst (((List.range k).map (newAt zs)).map V.bl))) ⟨same_new hD, upd_same⟩ (fun k H1 _ hp => SqT.of (hp.1 _ _ ec)) (fun k x H1 H2 hk hp hy => ?_) (fun H1 hp => ?_)
  · obtain ⟨sm, eD⟩ := hp
    obtain ⟨T, y, rfl, nT, rfl, ey⟩ := hy
    rw [List.length_map] at hk
    rw [List.getElem?_map, List.getElem?_eq_getElem hk] at ey
    have ey : V.str zs[k] = y := Option.some.inj ey
    subst ey
    have s2 : Same H1 (upd H1 T (.tup [.int (k : Nat), .str zs[k]])) := same_new nT
    refine ⟨T, _, rfl, SqT.of upd_same, rfl, _, _, rfl, _, _, rfl, rfl, hw _ _, _, hj _ _, hs _ _ _ _ ⟨_, hi _ _, (k : Int), rfl, c, _, rfl, SqT.of (s2 _ _ (sm _ _ ec)), fun hwh => ?_, fun hwh a na => ?_⟩⟩
    · have e2 := hwh.2
      rw [HT.sIx_nat, List.length_map, Nat.min_eq_left (Nat.le_of_lt hk)] at e2
      omega
    · refine ⟨a, _, rfl, .inr (SqT.of upd_same), rfl, ?_, _, (same_new na) _ _ (s2 _ _ eD), ?_, fun b o e => ?_, ?_⟩
      · rw [cut_to, ← List.map_take]
        exact flat_strs _
      · rw [List.length_map, List.length_map, List.length_range]
        exact small1000 (by omega)
      · rw [upd_ne (ne_of_none e hD)]
        exact (same_new na) _ _ (s2 _ _ (sm b o e))
      · rw [upd_same, cut_to, ← List.map_take, if_pos rfl, inV_strs, List.range_succ, List.map_append, List.map_append]
        show _ = some (HO.lst (_ ++ [V.bl (!decide (zs.getD k Str.empty ∈ zs.take k))]))
        rw [List.getD_eq_getElem?_getD, List.getElem?_eq_getElem hk]
        rfl
  · obtain ⟨sm, eD⟩ := hp
    rw [List.length_map] at eD
    refine ⟨D, _, rfl, SqL.of eD, ?_⟩
    rw [List.all_map]
    exact q H1 sm⟩
theorem news_nodup (zs : List Str) : ((List.range zs.length).all (newAt zs) = true) ↔ zs.Nodup := by
  rw [List.all_eq_true]
  constructor
  · intro h
    rw [List.nodup_iff_pairwise_ne, List.pairwise_iff_getElem]
    intro i j hi hj hij e
    have := h j (List.mem_range.mpr hj)
    unfold newAt at this
    rw [List.getD_eq_getElem?_getD, List.getElem?_eq_getElem hj] at this
    have h2 : zs[j] ∉ zs.take j := by simpa using this
    exact h2 (by rw [← e]; exact List.mem_take_iff_getElem.mpr ⟨i, by omega, rfl⟩)
  · intro h k hk
    have hk := List.mem_range.mp hk
    unfold newAt
    rw [List.getD_eq_getElem?_getD, List.getElem?_eq_getElem hk]
    have h2 : zs[k] ∉ zs.take k := by
      intro hm
      obtain ⟨i, hi, e⟩ := List.mem_take_iff_getElem.mp hm
      rw [List.nodup_iff_pairwise_ne, List.pairwise_iff_getElem] at h
      exact h i k (by omega) hk (by omega) e
    simpa using h2
end Gj

namespace Gj
open PySem PySem.Spec PyProof.Rows L2
open C8 (Cal pe_c pe_gc)
section
variable {P : Program} {w : World} {K : PySem.W.Frag} {mg : Str → Option Value} {base : Heap}
theorem sc_is_text_of : FnScope ["thing", "signs", "most", "sign"] ["thing", "signs", "most"] (defScope (topS 6)) := ⟨rfl, rfl, rfl, by decide +kernel, rfl, by decide +kernel, by decide +kernel⟩
theorem ok_is_text_of (D : DefAt K mg "is_text_of" (topS 6)) (m : Mg mg) : Cal P w K mg base 1 "is_text_of" spTextD [] := by
  have sc := sc_is_text_of
  refine mkCal D (fun _ _ _ _ _ _ us hl => match us, hl with | [_, _, _], _ => rfl) sc (fun vs H Q E h => ?_) (fun f cdv A outer s H vs Q E hr h => ?_)
  · obtain ⟨p, v, d, z, mo, rfl, _⟩ := h
    rfl
  · obtain ⟨p, v, d, signs, most, rfl, hd, q⟩ := h
    refine ⟨_, (pss_one (ps_ret (pe_and (pe_callB (call_isD (T := "str") (.inl rfl)) (by rfl) m.isinstance (by decide +kernel) (pa_cons (pv 0) (pa_cons (pe_bltn (v := .ty "str") (by rfl) m.str (by decide +kernel) rfl) pa_nil))) (pe_and (pe_chain op_le op_le pe_int (pe_callB call_len (by rfl) m.len (by decide +kernel) (pa_cons (pv 0) pa_nil)) (pv 2)) (pe_one (pe_callB (cr_all rfl) (by rfl) m.all (by decide +kernel) (pa_cons (pe_lc (own := [("sign", 3)]) (g := gName 3) (tt := tYes) rfl sc.nd (pi_str (pv 0)) (blkOk_by (N := ["thing", "signs", "most", "sign"]) (sc := defScope (topS 6)) (by decide +kernel)) (fun _ _ _ _ _ => (pg_name (i := 3) sc.nd rfl (.inl rfl))) (fun _ _ _ _ _ => pts_nil) (fun _ _ _ _ _ => (pe_cmpR op_in_sign (pv 3) (pv 1) rfl))) pa_nil))))))), ?_⟩
    refine (Say.of (Say.and (b := mTxt signs most d) (say_isa (giv_var rfl) hd) fun e H1 s1 => ?_) ?_) _ q
    · cases hd with
      | str z hz => exact Say.and (say_chain (giv_var rfl) (giv_var rfl) hz) fun e2 H2 s2 => say_all hz (fun _ => rfl) (fun _ => rfl) (fun _ _ => giv_var rfl) (giv_var rfl)
      | _ => exact absurd e (by dsimp only [isa, kind]; decide +kernel)
    · cases d with
      | str z =>
        show (isa (.str z) "str" && _) = _
        rw [show isa (.str z) "str" = true by dsimp only [isa, kind]; decide +kernel, Bool.true_and]
      | _ => exact Bool.and_false _
theorem sc_is_name : FnScope ["thing"] ["thing"] (defScope (topS 7)) := ⟨rfl, rfl, rfl, by decide +kernel, rfl, by decide +kernel, by decide +kernel⟩
theorem ok_is_name (D : DefAt K mg "is_name" (topS 7)) (gs : Gs K mg) (c_is_text_of : Cal P w K mg base 1 "is_text_of" spTextD []) : Cal P w K mg base 2 "is_name" (spPred mName) [] := by
  have sc := sc_is_name
  refine mkCal D (fun _ _ _ _ _ _ us hl => match us, hl with | [_], _ => rfl) sc (fun vs H Q E h => ?_) (fun f cdv A outer s H vs Q E hr h => ?_)
  · obtain ⟨p, v, d, rfl, _⟩ := h
    rfl
  · obtain ⟨p, v, d, rfl, hd, q⟩ := h
    refine ⟨_, (pss_one (ps_ret (pe_c c_is_text_of hr (by decide) (by rfl) (pa_cons (pv 0) (pa_cons (pe_gc (by rfl) gs.LETTERS) (pa_cons pe_int pa_nil)))))), ?_⟩
    exact ⟨_, rfl, p, v, d, _, _, rfl, hd, q⟩
theorem sc_is_word : FnScope ["thing"] ["thing"] (defScope (topS 8)) := ⟨rfl, rfl, rfl, by decide +kernel, rfl, by decide +kernel, by decide +kernel⟩
theorem ok_is_word (D : DefAt K mg "is_word" (topS 8)) (gs : Gs K mg) (c_is_text_of : Cal P w K mg base 1 "is_text_of" spTextD []) : Cal P w K mg base 2 "is_word" (spPred mWord) [] := by
  have sc := sc_is_word
  refine mkCal D (fun _ _ _ _ _ _ us hl => match us, hl with | [_], _ => rfl) sc (fun vs H Q E h => ?_) (fun f cdv A outer s H vs Q E hr h => ?_)
  · obtain ⟨p, v, d, rfl, _⟩ := h
    rfl
  · obtain ⟨p, v, d, rfl, hd, q⟩ := h
    refine ⟨_, (pss_one (ps_ret (pe_c c_is_text_of hr (by decide) (by rfl) (pa_cons (pv 0) (pa_cons (pe_op op_add_str (pe_gc (by rfl) gs.LETTERS) (pe_gc (by rfl) gs.FIGURES)) (pa_cons pe_int pa_nil)))))), ?_⟩
    exact ⟨_, rfl, _, _, rfl, rfl, by decide, p, v, d, _, _, rfl, hd, q⟩
theorem sc_is_whole : FnScope ["thing", "least"] ["thing", "least"] (defScope (topS 11)) := ⟨rfl, rfl, rfl, by decide +kernel, rfl, by decide +kernel, by decide +kernel⟩
theorem ok_is_whole (D : DefAt K mg "is_whole" (topS 11)) (m : Mg mg) : Cal P w K mg base 1 "is_whole" (spPredN mWhole) [] := by
  have sc := sc_is_whole
  refine mkCal D (fun _ _ _ _ _ _ us hl => match us, hl with | [_, _], _ => rfl) sc (fun vs H Q E h => ?_) (fun f cdv A outer s H vs Q E hr h => ?_)
  · obtain ⟨p, v, d, n, rfl, _⟩ := h
    rfl
  · obtain ⟨p, v, d, n, rfl, hd, q⟩ := h
    refine ⟨_, (pss_one (ps_ret (pe_and (pe_callB (call_isD (T := "int") (.inr (.inr (.inl rfl)))) (by rfl) m.isinstance (by decide +kernel) (pa_cons (pv 0) (pa_cons (pe_bltn (v := .ty "int") (by rfl) m.int (by decide +kernel) rfl) pa_nil))) (pe_and (pe_not (pe_callB (call_isD (T := "bool") (.inr (.inr (.inr (.inl rfl))))) (by rfl) m.isinstance (by decide +kernel) (pa_cons (pv 0) (pa_cons (pe_bltn (v := .ty "bool") (by rfl) m.bool (by decide +kernel) rfl) pa_nil)))) (pe_one (pe_cmpR op_ge (pv 0) (pv 1) (nomark _))))))), ?_⟩
    refine (Say.of (Say.and (b := !(isa d "bool") && mWhole d n) (say_isa (giv_var rfl) hd) fun e H1 s1 => Say.and (Say.not (say_isa (giv_var rfl) (hd.same s1))) fun e2 H2 s2 => ?_) ?_) _ q
    · cases hd with
      | int i => exact fun Q q => ⟨_, rfl, _, rfl, _, _, rfl, rfl, q _ (Same.refl _)⟩
      | bl b => exact absurd e2 (by dsimp only [isa, kind]; decide +kernel)
      | _ => exact absurd e (by dsimp only [isa, kind]; decide +kernel)
    · cases d with
      | int i =>
        rw [show isa (.int i) "int" = true by dsimp only [isa, kind]; decide +kernel, show isa (.int i) "bool" = false by dsimp only [isa, kind]; decide +kernel]
        rfl
      | _ => show (isa _ "int" && (!(isa _ "bool") && false)) = false; rw [Bool.and_false, Bool.and_false]
theorem sc_is_pair : FnScope ["thing", "least"] ["thing", "least"] (defScope (topS 12)) := ⟨rfl, rfl, rfl, by decide +kernel, rfl, by decide +kernel, by decide +kernel⟩
theorem ok_is_pair (D : DefAt K mg "is_pair" (topS 12)) (m : Mg mg) (c_is_name : Cal P w K mg base 2 "is_name" (spPred mName) []) (c_is_whole : Cal P w K mg base 1 "is_whole" (spPredN mWhole) []) : Cal P w K mg base 3 "is_pair" (spPredN mPair) [] := by
  have sc := sc_is_pair
  refine mkCal D (fun _ _ _ _ _ _ us hl => match us, hl with | [_, _], _ => rfl) sc (fun vs H Q E h => ?_) (fun f cdv A outer s H vs Q E hr h => ?_)
  · obtain ⟨p, v, d, n, rfl, _⟩ := h
    rfl
  · obtain ⟨p, v, d, n, rfl, hd, q⟩ := h
    refine ⟨_, (pss_one (ps_ret (pe_and (pe_callB (call_isD (T := "tuple") (.inr (.inl rfl))) (by rfl) m.isinstance (by decide +kernel) (pa_cons (pv 0) (pa_cons (pe_bltn (v := .ty "tuple") (by rfl) m.tuple (by decide +kernel) rfl) pa_nil))) (pe_and (pe_cmpR op_eq (pe_callB call_len (by rfl) m.len (by decide +kernel) (pa_cons (pv 0) pa_nil)) pe_int (nomark _)) (pe_and (pe_c c_is_name hr (by decide) (by rfl) (pa_cons (pe_ix ix_tup (pv 0) pe_int (fun _ _ => rfl)) pa_nil)) (pe_one (pe_c c_is_whole hr (by decide) (by rfl) (pa_cons (pe_ix ix_tup (pv 0) pe_int (fun _ _ => rfl)) (pa_cons (pv 1) pa_nil))))))))), ?_⟩
    refine (Say.of (Say.and (b := mPair d n) (say_isa (giv_var rfl) hd) fun e H1 s1 => ?_) ?_) _ q
    · obtain ⟨c, xs, ds, rfl, rfl, ec, hl, ha⟩ := tup_of (hd.same s1) e
      refine Say.and (Say.of (say_lenEq (X := (cxOf CX0 P w K mg base [] "" (defScope (topS 0)) f cdv A outer s H E)) (giv_var rfl) giv_c ec) (by rw [ha.length]; rfl)) fun e2 H2 s2 => ?_
      have l2 : (ds.length : Int) = 2 := of_decide_eq_true e2
      exact Say.and (say_callAt (k := 0) (giv_var rfl) (s2 _ _ ec) (ha.same s2) (by omega)) fun e3 H3 s3 => say_callNAt (k := 1) (giv_var rfl) (giv_var rfl) ((s2.trans s3) _ _ ec) (ha.same (s2.trans s3)) (by omega)
    · cases d with
      | tuple ds => rw [show isa (.tuple ds) "tuple" = true by dsimp only [isa, kind]; decide +kernel, Bool.true_and]
      | _ => exact Bool.and_false _
theorem sc_is_sort : FnScope ["thing"] ["thing"] (defScope (topS 13)) := ⟨rfl, rfl, rfl, by decide +kernel, rfl, by decide +kernel, by decide +kernel⟩
theorem ok_is_sort (D : DefAt K mg "is_sort" (topS 13)) (gs : Gs K mg) (c_is_name : Cal P w K mg base 2 "is_name" (spPred mName) []) : Cal P w K mg base 3 "is_sort" (spPred mSort) [] := by
  have sc := sc_is_sort
  refine mkCal D (fun _ _ _ _ _ _ us hl => match us, hl with | [_], _ => rfl) sc (fun vs H Q E h => ?_) (fun f cdv A outer s H vs Q E hr h => ?_)
  · obtain ⟨p, v, d, rfl, _⟩ := h
    rfl
  · obtain ⟨p, v, d, rfl, hd, q⟩ := h
    obtain ⟨aS, gS, hS⟩ := gs.SORTS
    refine ⟨_, (pss_one (ps_ret (pe_and (pe_c c_is_name hr (by decide) (by rfl) (pa_cons (pv 0) pa_nil)) (pe_one (pe_cmpR op_in_seq (pv 0) (pe_glob (v := .ref aS) (by rfl) gS rfl) rfl))))), ?_⟩
    refine Say.and (say_call (giv_var rfl) hd) (fun e H1 s1 => ?_) _ q
    cases hd with
    | str z hz =>
      intro Q q
      refine ⟨_, rfl, aS, _, rfl, .inr (hS _), rfl, rfl, ?_⟩
      have ev : inV (.str z) [.str "came", .str "short", .str "ask", .str "row"] = sorts.any fun y => isT (.str z) y := by
        show (("came" : Str) == z || (("short" : Str) == z || (("ask" : Str) == z || (("row" : Str) == z || false)))) = (z == ("came" : Str) || (z == ("short" : Str) || (z == ("ask" : Str) || (z == ("row" : Str) || false))))
        rw [BEq.comm (a := ("came" : Str)), BEq.comm (a := ("short" : Str)), BEq.comm (a := ("ask" : Str)), BEq.comm (a := ("row" : Str))]
      rw [if_neg (by decide), ev]
      exact q _ (Same.refl _)
    | _ => exact absurd e (by simp [mName, mTxt])
end
end Gj

namespace Gj
open PySem PySem.Spec PyProof.Rows L2
open C8 (Cal pe_c pe_gc)
section
variable {P : Program} {w : World} {K : PySem.W.Frag} {mg : Str → Option Value} {base : Heap}
theorem sc_is_shut : FnScope ["thing", "name"] ["thing"] (defScope (topS 14)) := ⟨rfl, rfl, rfl, by decide +kernel, rfl, by decide +kernel, by decide +kernel⟩
theorem ok_is_shut (D : DefAt K mg "is_shut" (topS 14)) (m : Mg mg) (c_is_name : Cal P w K mg base 2 "is_name" (spPred mName) []) : Cal P w K mg base 3 "is_shut" (spPred mShut) [] := by
  have sc := sc_is_shut
  refine mkCal D (fun _ _ _ _ _ _ us hl => match us, hl with | [_], _ => rfl) sc (fun vs H Q E h => ?_) (fun f cdv A outer s H vs Q E hr h => ?_)
  · obtain ⟨p, v, d, rfl, _⟩ := h
    rfl
  · obtain ⟨p, v, d, rfl, hd, q⟩ := h
    refine ⟨_, (pss_one (ps_ret (pe_and (pe_callB (call_isD (T := "tuple") (.inr (.inl rfl))) (by rfl) m.isinstance (by decide +kernel) (pa_cons (pv 0) (pa_cons (pe_bltn (v := .ty "tuple") (by rfl) m.tuple (by decide +kernel) rfl) pa_nil))) (pe_and (pe_callB (cr_all rfl) (by rfl) m.all (by decide +kernel) (pa_cons (pe_lc (own := [("name", 1)]) (g := gName 1) (tt := tYes) rfl sc.nd (pi_tup (pv 0)) (blkOk_by (N := ["thing", "name"]) (sc := defScope (topS 14)) (by decide +kernel)) (fun _ _ _ _ _ => (pg_name (i := 1) sc.nd rfl (.inl rfl))) (fun _ _ _ _ _ => pts_nil) (fun _ _ _ _ _ => (pe_c c_is_name hr (by decide) (by rfl) (pa_cons (pv 1) pa_nil)))) pa_nil)) (pe_one (pe_cmpR op_eq (pe_callB call_lenS (by rfl) m.len (by decide +kernel) (pa_cons (pe_callTy (call_setS rfl) (by rfl) m.set (by decide +kernel) (pa_cons (pv 0) pa_nil)) pa_nil)) (pe_callB call_len (by rfl) m.len (by decide +kernel) (pa_cons (pv 0) pa_nil)) (nomark _))))))), ?_⟩
    refine (Say.of (Say.and (b := mShut d) (say_isa (giv_var rfl) hd) fun e H1 s1 => ?_) ?_) _ q
    · obtain ⟨c, xs, ds, rfl, rfl, ec, hl, ha⟩ := tup_of (hd.same s1) e
      refine Say.and (say_allT hl (fun _ => rfl) (fun _ => rfl) (giv_var rfl) ec ha) fun e2 H2 s2 => ?_
      obtain ⟨ex, ed⟩ := strs_all ha e2
      have ec2 := s2 _ _ ec
      rw [ex] at ec2 hl
      rw [List.length_map] at hl
      intro Q q
      refine ⟨_, rfl, c, strsOf ds, rfl, SqT.of ec2, hl, fun a na => ?_⟩
      refine ⟨a, strsOf ds, rfl, upd_same, hl, _, rfl, _, _, rfl, .inr ⟨_, SqT.of (by rw [upd_ne (ne_of_none ec2 na)]; exact ec2), rfl⟩, rfl, ?_⟩
      rw [List.length_map]
      have ev : decide (V.int (distinct (taken (strsOf ds) (strsOf ds).length) : Nat) = V.int ((strsOf ds).length : Nat)) = decide (distinct (taken (strsOf ds) (strsOf ds).length) = (strsOf ds).length) := by
        by_cases h : distinct (taken (strsOf ds) (strsOf ds).length) = (strsOf ds).length
        · rw [decide_eq_true h, h, decide_eq_true rfl]
        · rw [decide_eq_false h, decide_eq_false fun z => h (by have := V.int.inj z; omega)]
      rw [ev]
      exact q _ (same_new na)
    · cases d with
      | tuple ds => rw [show isa (.tuple ds) "tuple" = true by dsimp only [isa, kind]; decide +kernel, Bool.true_and]
      | _ => exact Bool.and_false _
theorem sc_begins : FnScope ["thing", "kind", "many"] ["thing", "kind", "many"] (defScope (topS 15)) := ⟨rfl, rfl, rfl, by decide +kernel, rfl, by decide +kernel, by decide +kernel⟩
theorem ok_begins (D : DefAt K mg "begins" (topS 15)) (m : Mg mg) (c_is_name : Cal P w K mg base 2 "is_name" (spPred mName) []) : Cal P w K mg base 3 "begins" spBegins [] := by
  have sc := sc_begins
  refine mkCal D (fun _ _ _ _ _ _ us hl => match us, hl with | [_, _, _], _ => rfl) sc (fun vs H Q E h => ?_) (fun f cdv A outer s H vs Q E hr h => ?_)
  · obtain ⟨p, v, d, kd, n, rfl, _⟩ := h
    rfl
  · obtain ⟨p, v, d, kd, n, rfl, hd, hn, q⟩ := h
    refine ⟨_, (pss_one (ps_ret (pe_and (pe_callB (call_isD (T := "tuple") (.inr (.inl rfl))) (by rfl) m.isinstance (by decide +kernel) (pa_cons (pv 0) (pa_cons (pe_bltn (v := .ty "tuple") (by rfl) m.tuple (by decide +kernel) rfl) pa_nil))) (pe_and (pe_cmpR op_eq (pe_callB call_len (by rfl) m.len (by decide +kernel) (pa_cons (pv 0) pa_nil)) (pv 2) (nomark _)) (pe_and (pe_c c_is_name hr (by decide) (by rfl) (pa_cons (pe_ix ix_tup (pv 0) pe_int (fun _ _ => rfl)) pa_nil)) (pe_one (pe_cmpR (op_eqT hr.units) (pe_ix ix_tup (pv 0) pe_int (fun _ _ => rfl)) (pv 1) (nomark _)))))))), ?_⟩
    refine (Say.of (Say.and (b := mBegins d kd n) (say_isa (giv_var rfl) hd) fun e H1 s1 => ?_) ?_) _ q
    · obtain ⟨c, xs, ds, rfl, rfl, ec, hl, ha⟩ := tup_of (hd.same s1) e
      refine Say.and (Say.of (say_lenEq (X := (cxOf CX0 P w K mg base [] "" (defScope (topS 0)) f cdv A outer s H E)) (giv_var rfl) (giv_var rfl) ec) (by rw [ha.length]; rfl)) fun e2 H2 s2 => ?_
      have l2 : (ds.length : Int) = n := of_decide_eq_true e2
      refine Say.and (say_callAt (k := 0) (giv_var rfl) (s2 _ _ ec) (ha.same s2) (by omega)) fun e3 H3 s3 => ?_
      obtain ⟨x, d0, g, hx, ek⟩ := giv_at (K := K) (k := 0) (te := tVar 0) (σ := [some (.ref c), some (.str kd), some (.int n)]) (H := H3) (giv_var rfl) ((s2.trans s3) _ _ ec) (ha.same (s2.trans s3)) (by omega)
      refine Say.of (say_eqT g (giv_var rfl) hx) ?_
      show _ = ((ds[0]?.map fun e => isT e kd).getD false)
      rw [ek]; rfl
    · cases d with
      | tuple ds => rw [show isa (.tuple ds) "tuple" = true by dsimp only [isa, kind]; decide +kernel, Bool.true_and]
      | _ => exact Bool.and_false _
theorem sc_is_letter : FnScope ["thing"] ["thing"] (defScope (topS 16)) := ⟨rfl, rfl, rfl, by decide +kernel, rfl, by decide +kernel, by decide +kernel⟩
theorem ok_is_letter (D : DefAt K mg "is_letter" (topS 16)) (c_begins : Cal P w K mg base 3 "begins" spBegins []) (c_is_name : Cal P w K mg base 2 "is_name" (spPred mName) []) (c_is_word : Cal P w K mg base 2 "is_word" (spPred mWord) []) : Cal P w K mg base 4 "is_letter" (spPred mLetter) [] := by
  have sc := sc_is_letter
  refine mkCal D (fun _ _ _ _ _ _ us hl => match us, hl with | [_], _ => rfl) sc (fun vs H Q E h => ?_) (fun f cdv A outer s H vs Q E hr h => ?_)
  · obtain ⟨p, v, d, rfl, _⟩ := h
    rfl
  · obtain ⟨p, v, d, rfl, hd, q⟩ := h
    refine ⟨_, (pss_one (ps_ret (pe_and (pe_c c_begins hr (by decide) (by rfl) (pa_cons (pv 0) (pa_cons pe_str (pa_cons pe_int pa_nil)))) (pe_and (pe_c c_is_name hr (by decide) (by rfl) (pa_cons (pe_ix ix_tup (pv 0) pe_int (fun _ _ => rfl)) pa_nil)) (pe_and (pe_c c_is_name hr (by decide) (by rfl) (pa_cons (pe_ix ix_tup (pv 0) pe_int (fun _ _ => rfl)) pa_nil)) (pe_one (pe_c c_is_word hr (by decide) (by rfl) (pa_cons (pe_ix ix_tup (pv 0) pe_int (fun _ _ => rfl)) pa_nil)))))))), ?_⟩
    refine Say.and (fun Q q => ⟨_, rfl, p, v, d, _, _, rfl, hd, by decide, q⟩) (fun e H1 s1 => ?_) _ q
    have e1 : lenD d 4 = true := (Bool.and_eq_true_iff.mp e).1
    obtain ⟨c, xs, ds, rfl, rfl, l2, ec, hl, ha⟩ := tup_len (hd.same s1) e1
    exact (Say.and (say_callAt (k := 1) (giv_var rfl) ec ha (by omega)) fun _ _ t0 => (Say.and (say_callAt (k := 2) (giv_var rfl) (t0 _ _ ec) (ha.same t0) (by omega)) fun _ _ t1 => (say_callAt (k := 3) (giv_var rfl) ((t0.trans t1) _ _ ec) (ha.same (t0.trans t1)) (by omega))))
theorem sc_is_echo : FnScope ["thing"] ["thing"] (defScope (topS 17)) := ⟨rfl, rfl, rfl, by decide +kernel, rfl, by decide +kernel, by decide +kernel⟩
theorem ok_is_echo (D : DefAt K mg "is_echo" (topS 17)) (c_begins : Cal P w K mg base 3 "begins" spBegins []) (c_is_name : Cal P w K mg base 2 "is_name" (spPred mName) []) (c_is_sort : Cal P w K mg base 3 "is_sort" (spPred mSort) []) (c_is_pair : Cal P w K mg base 3 "is_pair" (spPredN mPair) []) : Cal P w K mg base 4 "is_echo" (spPred mEcho) [] := by
  have sc := sc_is_echo
  refine mkCal D (fun _ _ _ _ _ _ us hl => match us, hl with | [_], _ => rfl) sc (fun vs H Q E h => ?_) (fun f cdv A outer s H vs Q E hr h => ?_)
  · obtain ⟨p, v, d, rfl, _⟩ := h
    rfl
  · obtain ⟨p, v, d, rfl, hd, q⟩ := h
    refine ⟨_, (pss_one (ps_ret (pe_and (pe_c c_begins hr (by decide) (by rfl) (pa_cons (pv 0) (pa_cons pe_str (pa_cons pe_int pa_nil)))) (pe_and (pe_c c_is_name hr (by decide) (by rfl) (pa_cons (pe_ix ix_tup (pv 0) pe_int (fun _ _ => rfl)) pa_nil)) (pe_and (pe_c c_is_name hr (by decide) (by rfl) (pa_cons (pe_ix ix_tup (pv 0) pe_int (fun _ _ => rfl)) pa_nil)) (pe_and (pe_c c_is_sort hr (by decide) (by rfl) (pa_cons (pe_ix ix_tup (pv 0) pe_int (fun _ _ => rfl)) pa_nil)) (pe_one (pe_c c_is_pair hr (by decide) (by rfl) (pa_cons (pe_ix ix_tup (pv 0) pe_int (fun _ _ => rfl)) (pa_cons pe_int pa_nil)))))))))), ?_⟩
    refine Say.and (fun Q q => ⟨_, rfl, p, v, d, _, _, rfl, hd, by decide, q⟩) (fun e H1 s1 => ?_) _ q
    have e1 : lenD d 5 = true := (Bool.and_eq_true_iff.mp e).1
    obtain ⟨c, xs, ds, rfl, rfl, l2, ec, hl, ha⟩ := tup_len (hd.same s1) e1
    exact (Say.and (say_callAt (k := 1) (giv_var rfl) ec ha (by omega)) fun _ _ t0 => (Say.and (say_callAt (k := 2) (giv_var rfl) (t0 _ _ ec) (ha.same t0) (by omega)) fun _ _ t1 => (Say.and (say_callAt (k := 3) (giv_var rfl) ((t0.trans t1) _ _ ec) (ha.same (t0.trans t1)) (by omega)) fun _ _ t2 => (say_callNAt (k := 4) (giv_var rfl) giv_c (((t0.trans t1).trans t2) _ _ ec) (ha.same ((t0.trans t1).trans t2)) (by omega)))))
theorem sc_is_answer : FnScope ["thing"] ["thing"] (defScope (topS 18)) := ⟨rfl, rfl, rfl, by decide +kernel, rfl, by decide +kernel, by decide +kernel⟩
theorem ok_is_answer (D : DefAt K mg "is_answer" (topS 18)) (c_begins : Cal P w K mg base 3 "begins" spBegins []) (c_is_name : Cal P w K mg base 2 "is_name" (spPred mName) []) (c_is_sort : Cal P w K mg base 3 "is_sort" (spPred mSort) []) (c_is_pair : Cal P w K mg base 3 "is_pair" (spPredN mPair) []) : Cal P w K mg base 4 "is_answer" (spPred mAnswer) [] := by
  have sc := sc_is_answer
  refine mkCal D (fun _ _ _ _ _ _ us hl => match us, hl with | [_], _ => rfl) sc (fun vs H Q E h => ?_) (fun f cdv A outer s H vs Q E hr h => ?_)
  · obtain ⟨p, v, d, rfl, _⟩ := h
    rfl
  · obtain ⟨p, v, d, rfl, hd, q⟩ := h
    refine ⟨_, (pss_one (ps_ret (pe_and (pe_c c_begins hr (by decide) (by rfl) (pa_cons (pv 0) (pa_cons pe_str (pa_cons pe_int pa_nil)))) (pe_and (pe_c c_is_name hr (by decide) (by rfl) (pa_cons (pe_ix ix_tup (pv 0) pe_int (fun _ _ => rfl)) pa_nil)) (pe_and (pe_c c_is_sort hr (by decide) (by rfl) (pa_cons (pe_ix ix_tup (pv 0) pe_int (fun _ _ => rfl)) pa_nil)) (pe_and (pe_c c_is_pair hr (by decide) (by rfl) (pa_cons (pe_ix ix_tup (pv 0) pe_int (fun _ _ => rfl)) (pa_cons pe_int pa_nil))) (pe_one (pe_c c_is_pair hr (by decide) (by rfl) (pa_cons (pe_ix ix_tup (pv 0) pe_int (fun _ _ => rfl)) (pa_cons pe_int pa_nil)))))))))), ?_⟩
    refine Say.and (fun Q q => ⟨_, rfl, p, v, d, _, _, rfl, hd, by decide, q⟩) (fun e H1 s1 => ?_) _ q
    have e1 : lenD d 5 = true := (Bool.and_eq_true_iff.mp e).1
    obtain ⟨c, xs, ds, rfl, rfl, l2, ec, hl, ha⟩ := tup_len (hd.same s1) e1
    exact (Say.and (say_callAt (k := 1) (giv_var rfl) ec ha (by omega)) fun _ _ t0 => (Say.and (say_callAt (k := 2) (giv_var rfl) (t0 _ _ ec) (ha.same t0) (by omega)) fun _ _ t1 => (Say.and (say_callNAt (k := 3) (giv_var rfl) giv_c ((t0.trans t1) _ _ ec) (ha.same (t0.trans t1)) (by omega)) fun _ _ t2 => (say_callNAt (k := 4) (giv_var rfl) giv_c (((t0.trans t1).trans t2) _ _ ec) (ha.same ((t0.trans t1).trans t2)) (by omega)))))
theorem sc_is_goer : FnScope ["thing"] ["thing"] (defScope (topS 19)) := ⟨rfl, rfl, rfl, by decide +kernel, rfl, by decide +kernel, by decide +kernel⟩
theorem ok_is_goer (D : DefAt K mg "is_goer" (topS 19)) (c_begins : Cal P w K mg base 3 "begins" spBegins []) (c_is_name : Cal P w K mg base 2 "is_name" (spPred mName) []) (c_is_whole : Cal P w K mg base 1 "is_whole" (spPredN mWhole) []) (c_is_shut : Cal P w K mg base 3 "is_shut" (spPred mShut) []) : Cal P w K mg base 4 "is_goer" (spPred mGoer) [] := by
  have sc := sc_is_goer
  refine mkCal D (fun _ _ _ _ _ _ us hl => match us, hl with | [_], _ => rfl) sc (fun vs H Q E h => ?_) (fun f cdv A outer s H vs Q E hr h => ?_)
  · obtain ⟨p, v, d, rfl, _⟩ := h
    rfl
  · obtain ⟨p, v, d, rfl, hd, q⟩ := h
    refine ⟨_, (pss_one (ps_ret (pe_and (pe_c c_begins hr (by decide) (by rfl) (pa_cons (pv 0) (pa_cons pe_str (pa_cons pe_int pa_nil)))) (pe_and (pe_c c_is_name hr (by decide) (by rfl) (pa_cons (pe_ix ix_tup (pv 0) pe_int (fun _ _ => rfl)) pa_nil)) (pe_and (pe_c c_is_whole hr (by decide) (by rfl) (pa_cons (pe_ix ix_tup (pv 0) pe_int (fun _ _ => rfl)) (pa_cons pe_int pa_nil))) (pe_one (pe_c c_is_shut hr (by decide) (by rfl) (pa_cons (pe_ix ix_tup (pv 0) pe_int (fun _ _ => rfl)) pa_nil)))))))), ?_⟩
    refine Say.and (fun Q q => ⟨_, rfl, p, v, d, _, _, rfl, hd, by decide, q⟩) (fun e H1 s1 => ?_) _ q
    have e1 : lenD d 4 = true := (Bool.and_eq_true_iff.mp e).1
    obtain ⟨c, xs, ds, rfl, rfl, l2, ec, hl, ha⟩ := tup_len (hd.same s1) e1
    exact (Say.and (say_callAt (k := 1) (giv_var rfl) ec ha (by omega)) fun _ _ t0 => (Say.and (say_callNAt (k := 2) (giv_var rfl) giv_c (t0 _ _ ec) (ha.same t0) (by omega)) fun _ _ t1 => (say_callAt (k := 3) (giv_var rfl) ((t0.trans t1) _ _ ec) (ha.same (t0.trans t1)) (by omega))))
theorem sc_is_parcel : FnScope ["thing"] ["thing"] (defScope (topS 20)) := ⟨rfl, rfl, rfl, by decide +kernel, rfl, by decide +kernel, by decide +kernel⟩
theorem ok_is_parcel (D : DefAt K mg "is_parcel" (topS 20)) (c_is_letter : Cal P w K mg base 4 "is_letter" (spPred mLetter) []) (c_is_echo : Cal P w K mg base 4 "is_echo" (spPred mEcho) []) : Cal P w K mg base 5 "is_parcel" (spPred mParcel) [] := by
  have sc := sc_is_parcel
  refine mkCal D (fun _ _ _ _ _ _ us hl => match us, hl with | [_], _ => rfl) sc (fun vs H Q E h => ?_) (fun f cdv A outer s H vs Q E hr h => ?_)
  · obtain ⟨p, v, d, rfl, _⟩ := h
    rfl
  · obtain ⟨p, v, d, rfl, hd, q⟩ := h
    refine ⟨_, (pss_one (ps_ret (pe_or (pe_c c_is_letter hr (by decide) (by rfl) (pa_cons (pv 0) pa_nil)) (pe_one (pe_c c_is_echo hr (by decide) (by rfl) (pa_cons (pv 0) pa_nil)))))), ?_⟩
    exact Say.or (say_call (giv_var rfl) hd) (fun e H1 s1 => say_call (giv_var rfl) (hd.same s1)) _ q
theorem sc_is_thing : FnScope ["thing"] ["thing"] (defScope (topS 21)) := ⟨rfl, rfl, rfl, by decide +kernel, rfl, by decide +kernel, by decide +kernel⟩
theorem ok_is_thing (D : DefAt K mg "is_thing" (topS 21)) (c_is_parcel : Cal P w K mg base 5 "is_parcel" (spPred mParcel) []) (c_is_answer : Cal P w K mg base 4 "is_answer" (spPred mAnswer) []) (c_is_goer : Cal P w K mg base 4 "is_goer" (spPred mGoer) []) : Cal P w K mg base 6 "is_thing" (spPred mThing) [] := by
  have sc := sc_is_thing
  refine mkCal D (fun _ _ _ _ _ _ us hl => match us, hl with | [_], _ => rfl) sc (fun vs H Q E h => ?_) (fun f cdv A outer s H vs Q E hr h => ?_)
  · obtain ⟨p, v, d, rfl, _⟩ := h
    rfl
  · obtain ⟨p, v, d, rfl, hd, q⟩ := h
    refine ⟨_, (pss_one (ps_ret (pe_or (pe_c c_is_parcel hr (by decide) (by rfl) (pa_cons (pv 0) pa_nil)) (pe_or (pe_c c_is_answer hr (by decide) (by rfl) (pa_cons (pv 0) pa_nil)) (pe_one (pe_c c_is_goer hr (by decide) (by rfl) (pa_cons (pv 0) pa_nil))))))), ?_⟩
    exact Say.or (say_call (giv_var rfl) hd) (fun e H1 s1 => Say.or (say_call (giv_var rfl) (hd.same s1)) fun e2 H2 s2 => say_call (giv_var rfl) (hd.same (s1.trans s2))) _ q
end
end Gj

/-! own layer: expressions that lay data, drawing from the pot at p -/
namespace Gj
open PySem PySem.Spec PyProof.Rows L2
open C8 (Cal pe_c pe_gc)
theorem Drawn.refl {p : Addr} {H : Hp} (h : Pot H p) : Drawn p H H := ⟨Keep.refl, h⟩
/-- it is a datum -/
def Lay (te : TE) (p : Addr) (σ : L2.St) (H : Hp) : Prop := ∀ Q : VK, (∀ (H' : Hp) (v : V) (d : PyData), Drawn p H H' → Dt p H' v d → Q v H') → te σ H Q
/-- they are n data -/
def Lays (ta : TA) (p : Addr) (σ : L2.St) (H : Hp) (n : Nat) : Prop := ∀ Q : List V → Hp → Prop, (∀ (H' : Hp) (vs : List V) (ds : List PyData), Drawn p H H' → DtAll p H' vs ds → vs.length = n → Q vs H') → ta σ H Q
/-- it is a tuple of data -/
def LayT (te : TE) (p : Addr) (σ : L2.St) (H : Hp) (lo hi : Nat) : Prop := ∀ Q : VK, (∀ (H' : Hp) (c : Addr) (xs : List V) (ds : List PyData), Drawn p H H' → c ≠ p → H' c = some (.tup xs) → DtAll p H' xs ds → lo ≤ xs.length → xs.length ≤ hi → Q (.ref c) H') → te σ H Q
/-- it is a number from 0 up to n -/
def LayI (te : TE) (p : Addr) (σ : L2.St) (H : Hp) (n : Int) : Prop := ∀ Q : VK, (∀ (H' : Hp) (i : Int), Drawn p H H' → 0 ≤ i → i < n → Q (.int i) H') → te σ H Q
def GivO (to : TO) (σ : L2.St) (H : Hp) (o : Option Int) : Prop := ∀ Q : Option Int → Hp → Prop, Q o H → to σ H Q
section
variable {p : Addr} {σ : L2.St} {H : Hp} {te tb : TE} {ta : TA} {n m lo hi lo2 hi2 : Nat} {v : V} {d : PyData} {K : PySem.W.Frag}
theorem Lay.of (h : Giv te σ H v) (hp : Pot H p) (hd : Dt p H v d) : Lay te p σ H := fun Q q => h _ (q H v d (Drawn.refl hp) hd)
theorem LayT.lay (h : LayT te p σ H lo hi) (hh : hi ≤ 1000) : Lay te p σ H := fun Q q => h _ fun H1 c xs ds r n e a l1 l2 => q H1 _ _ r (.tup n (by omega) e a)
theorem Lays.nil (hp : Pot H p) : Lays tNil p σ H 0 := fun Q q => q H [] [] (Drawn.refl hp) .nil rfl
theorem Lays.cons (h : Lay te p σ H) (ht : ∀ H', Drawn p H H' → Lays ta p σ H' n) : Lays (tCons te ta) p σ H (n + 1) := fun Q q => h _ fun H1 v d r1 h1 => ht H1 r1 _ fun H2 vs ds r2 h2 e => q H2 _ _ (r1.trans r2) (.cons (h1.keep r2.keep) h2) (by rw [List.length_cons, e])
theorem Lays.tup (h : Lays ta p σ H n) (hn : n ≤ 1000) : LayT (tTup ta) p σ H n n := fun Q q => h _ fun H1 vs ds r h1 e => ⟨Nat.le_of_lt (small1000 (by omega)), fun a na => q _ a vs ds (r.new na) (r.pot.ne na) upd_same (h1.keep (Keep.new na)) (by omega) (by omega)⟩
theorem Lays.lst (h : Lays ta p σ H n) (hn : n ≤ 1000) : Lay (tLst ta) p σ H := fun Q q => h _ fun H1 vs ds r h1 e => ⟨Nat.le_of_lt (small1000 (by omega)), fun a na => q _ _ (.list ds) (r.new na) (.lst (r.pot.ne na) (by omega) upd_same (h1.keep (Keep.new na)))⟩
theorem Lay.dnew (hp : Pot H p) : Lay tDNewK p σ H := fun Q q a na => q _ _ (.dict []) ((Drawn.refl hp).new na) (.dic (hp.ne na) upd_same)
/-- [..][a number] -/
theorem Lays.pick (h : Lays ta p σ H n) (hn : n ≤ 1000) (hi : ∀ H', Drawn p H H' → LayI tb p σ H' n) : Lay (tOp (rIxL K) (tLst ta) tb) p σ H := fun Q q => h _ fun H1 vs ds r h1 e => ⟨Nat.le_of_lt (small1000 (by omega)), fun a na => by
  refine hi _ (r.new na) _ fun H2 i r2 i0 i1 => ?_
  have e2 : H2 a = some (.lst vs) := r2.keep _ _ (r.pot.ne na) upd_same
  have hh := (h1.keep (Keep.new na (o := .lst vs))).keep r2.keep
  obtain ⟨k, rfl⟩ := Int.eq_ofNat_of_zero_le i0
  have hk : vs[k]? = some (vs[k]'(by omega)) := List.getElem?_eq_getElem _
  obtain ⟨d, _, hd⟩ := hh.get hk
  exact ⟨a, vs, k, _, rfl, rfl, SqL.of e2, atI_nat hk, q _ _ d ((r.new na).trans r2) hd⟩⟩
theorem LayI.digit {E : XK} {tp tn : TE} {n : Int} (hp : Giv tp σ H (.ref p)) (hq : Pot H p) (hn : Giv tn σ H (.int n)) (h0 : 0 < n) (h1 : n.natAbs.log2 < 9000) : LayI (tCall spDigit [] E (tCons tp (tCons tn tNil))) p σ H n := fun Q q => hp _ (hn _ ⟨p, n, rfl, hq, h0, h1, fun i H' i0 i1 r => q H' i r i0 i1⟩)
theorem GivO.none : GivO tNoPart σ H none := fun Q q => q
theorem GivO.some {i : Int} (h : Giv te σ H (.int i)) : GivO (tPart te) σ H (some i) := fun Q q => h _ ⟨i, rfl, q⟩
theorem DtAll.cut {xs : List V} {ds : List PyData} (h : DtAll p H xs ds) (a b : Option Int) : DtAll p H (cutV xs a b) ((ds.drop (HT.sIx xs.length 0 a)).take (HT.sIx xs.length xs.length b - HT.sIx xs.length 0 a)) := (h.drop _).take _
theorem LayT.cut {c : Addr} {xs : List V} {ds : List PyData} {tl th : TO} {a b : Option Int} (h : Giv te σ H (.ref c)) (hp : Pot H p) (hc : c ≠ p) (e : H c = some (.tup xs)) (hd : DtAll p H xs ds) (hl : GivO tl σ H a) (hh : GivO th σ H b) (hb : (cutV xs a b).length ≤ hi) : LayT (tSl (rSlA K) te tl th) p σ H 0 hi := fun Q q =>
  h _ (hl _ (hh _ ⟨c, xs, rfl, SqT.of e, fun w => q H c xs ds (Drawn.refl hp) hc e hd (Nat.zero_le _) (by
    unfold cutV at hb
    rw [w.1, w.2, List.drop_zero, Nat.sub_zero, List.take_of_length_le (Nat.le_refl _)] at hb
    exact hb), fun _ z nz => q _ z _ _ ((Drawn.refl hp).new nz) (hp.ne nz) upd_same ((hd.cut a b).keep (Keep.new nz)) (Nat.zero_le _) hb⟩))
theorem cut_from (xs : List V) (k : Nat) : cutV xs (some (k : Int)) none = xs.drop k := by
  unfold cutV
  rw [HT.sIx_none, HT.sIx_nat]
  by_cases h : k ≤ xs.length
  · rw [Nat.min_eq_left h, List.take_of_length_le (by rw [List.length_drop]; exact Nat.le_refl _)]
  · rw [Nat.min_eq_right (by omega), Nat.sub_self, List.take_zero, List.drop_eq_nil_of_le (by omega)]
theorem LayT.cat (h : LayT te p σ H lo hi) (h2 : ∀ H', Drawn p H H' → LayT tb p σ H' lo2 hi2) (hn : hi + hi2 ≤ 1000) : LayT (tOp (rCatA K) te tb) p σ H 0 (hi + hi2) := fun Q q => h _ fun H1 a xs ds r1 na ea ha l1 l2 => h2 H1 r1 _ fun H2 b ys es r2 nb eb hb l3 l4 => by
  have ea2 := r2.keep _ _ na ea
  have ha2 := ha.keep r2.keep
  refine ⟨a, b, xs, ys, rfl, rfl, SqT.of ea2, SqT.of eb, Nat.le_of_lt (small1000 (by omega)), fun _ => ?_, fun _ _ => ?_, fun _ _ c nc => ?_⟩
  · exact q H2 b ys es (r1.trans r2) nb eb hb (Nat.zero_le _) (by omega)
  · exact q H2 a xs ds (r1.trans r2) na ea2 ha2 (Nat.zero_le _) (by omega)
  · exact q _ c _ _ ((r1.trans r2).new nc) (r2.pot.ne nc) upd_same ((ha2.append hb).keep (Keep.new nc)) (Nat.zero_le _) (by rw [List.length_append]; omega)
end
end Gj

namespace Gj
open PySem PySem.Spec PyProof.Rows L2
open C8 (Cal pe_c pe_gc)
/-- it is a list of n data -/
def LayL (te : TE) (p : Addr) (σ : L2.St) (H : Hp) (n : Nat) : Prop := ∀ Q : VK, (∀ (H' : Hp) (c : Addr) (xs : List V) (ds : List PyData), Drawn p H H' → c ≠ p → H' c = some (.lst xs) → DtAll p H' xs ds → xs.length = n → Q (.ref c) H') → te σ H Q
section
variable {p : Addr} {σ : L2.St} {H : Hp} {te tb tp tn : TE} {ta : TA} {n m : Nat} {v : V} {d : PyData} {K : PySem.W.Frag} {E : XK}
theorem Lay.run {Q : VK} (h : Lay te p σ H) (q : ∀ (H' : Hp) (v : V) (d : PyData), Drawn p H H' → Dt p H' v d → Q v H') : te σ H Q := h Q q
theorem LayI.run {n : Int} {Q : VK} (h : LayI te p σ H n) (q : ∀ (H' : Hp) (i : Int), Drawn p H H' → 0 ≤ i → i < n → Q (.int i) H') : te σ H Q := h Q q
theorem LayT.run {lo hi : Nat} {Q : VK} (h : LayT te p σ H lo hi) (q : ∀ (H' : Hp) (c : Addr) (xs : List V) (ds : List PyData), Drawn p H H' → c ≠ p → H' c = some (.tup xs) → DtAll p H' xs ds → lo ≤ xs.length → xs.length ≤ hi → Q (.ref c) H') : te σ H Q := h Q q
theorem LayL.run {n : Nat} {Q : VK} (h : LayL te p σ H n) (q : ∀ (H' : Hp) (c : Addr) (xs : List V) (ds : List PyData), Drawn p H H' → c ≠ p → H' c = some (.lst xs) → DtAll p H' xs ds → xs.length = n → Q (.ref c) H') : te σ H Q := h Q q
theorem Lays.lstL (h : Lays ta p σ H n) (hn : n ≤ 1000) : LayL (tLst ta) p σ H n := fun Q q => h _ fun H1 vs ds r h1 e => ⟨Nat.le_of_lt (small1000 (by omega)), fun a na => q _ a vs ds (r.new na) (r.pot.ne na) upd_same (h1.keep (Keep.new na)) e⟩
theorem LayL.var {c : Addr} {xs : List V} {ds : List PyData} (h : Giv te σ H (.ref c)) (hp : Pot H p) (hc : c ≠ p) (e : H c = some (.lst xs)) (hd : DtAll p H xs ds) (hl : xs.length = n) : LayL te p σ H n := fun Q q => h _ (q H c xs ds (Drawn.refl hp) hc e hd hl)
theorem LayL.cat (h : LayL te p σ H n) (h2 : ∀ H', Drawn p H H' → LayL tb p σ H' m) (hn : n + m ≤ 1000) : LayL (tOp rCat te tb) p σ H (n + m) := fun Q q => h _ fun H1 a xs ds r1 na ea ha l1 => h2 H1 r1 _ fun H2 b ys es r2 nb eb hb l2 => by
  have ea2 := r2.keep _ _ na ea
  have ha2 := ha.keep r2.keep
  exact ⟨a, b, xs, ys, rfl, rfl, ea2, eb, Nat.le_of_lt (small1000 (by omega)), fun c nc => q _ c _ _ ((r1.trans r2).new nc) (r2.pot.ne nc) upd_same ((ha2.append hb).keep (Keep.new nc)) (by rw [List.length_append]; omega)⟩
/-- x[a number] -/
theorem LayL.pick (h : LayL te p σ H n) (hi : ∀ H' c (xs : List V), Drawn p H H' → H' c = some (.lst xs) → xs.length = n → LayI tb p σ H' n) : Lay (tOp (rIxL K) te tb) p σ H := fun Q q => h _ fun H1 a vs ds r na ea h1 e => by
  refine hi _ a vs r ea e _ fun H2 i r2 i0 i1 => ?_
  have e2 : H2 a = some (.lst vs) := r2.keep _ _ na ea
  have hh := h1.keep r2.keep
  obtain ⟨k, rfl⟩ := Int.eq_ofNat_of_zero_le i0
  have hk : vs[k]? = some (vs[k]'(by omega)) := List.getElem?_eq_getElem _
  obtain ⟨d, _, hd⟩ := hh.get hk
  exact ⟨a, vs, k, _, rfl, rfl, SqL.of e2, atI_nat hk, q _ _ d (r.trans r2) hd⟩
theorem Lay.word (hp : Giv tp σ H (.ref p)) (hq : Pot H p) : Lay (tCall spWord [] E (tCons tp tNil)) p σ H := fun Q q => hp _ ⟨p, rfl, hq, fun z H' hz r => q H' _ (.str z) r (.str z hz.small)⟩
theorem Lay.whole {i : Int} (hp : Giv tp σ H (.ref p)) (hq : Pot H p) (hn : Giv tn σ H (.int i)) : Lay (tCall spWhole [] E (tCons tp (tCons tn tNil))) p σ H := fun Q q => hp _ (hn _ ⟨p, i, rfl, hq, fun j H' _ _ r => q H' _ (.int j) r (.int j)⟩)
theorem Lay.name (hp : Giv tp σ H (.ref p)) (hq : Pot H p) : Lay (tCall spName [] E (tCons tp (tCons (tLst tNil) tNil))) p σ H := fun Q q => hp _ ⟨(by show 0 ≤ sizeLine; decide), fun u nu => ⟨p, u, [], rfl, hq.new nu, hq.ne nu, upd_same, (fun _ h => absurd h List.not_mem_nil), by decide, fun z H' hz _ r => q H' _ (.str z) (((Drawn.refl hq).new nu).trans r) (.str z hz.small)⟩⟩
/-- names of the pot, into a new list -/
theorem names_new {Q : VK} {E : XK} {n : Nat} (hq : Pot H p) (hn : n ≤ 25) (q : ∀ (H' : Hp) (c : Addr) (zs : List Str), Drawn p H H' → c ≠ p → H' c = some (.lst (zs.map V.str)) → zs.length = n → (∀ z ∈ zs, NameS z) → zs.Nodup → Q (.ref c) H') : ∀ u, H u = none → spNames [.ref p, .int (n : Nat), .ref u] (upd H u (.lst [])) Q E := fun u nu =>
  ⟨p, u, [], n, rfl, hq.new nu, hq.ne nu, upd_same, (fun _ h => absurd h List.not_mem_nil), by simpa using hn, fun c zs H' nc np hl hz nd _ r e => q H' c zs (((Drawn.refl hq).new nu).trans r) np e hl hz nd⟩
theorem DtAll.names {zs : List Str} (h : ∀ z ∈ zs, NameS z) : DtAll p H (zs.map V.str) (zs.map PyData.str) := DtAll.strs fun z hz => (h z hz).small
abbrev rTupOf (K : PySem.W.Frag) : List V → Hp → VK → Prop := fun xs H Q => ∃ p ys, xs = [.ref p] ∧ ((SqL K H p ys ∧ ∀ l, H l = none → Q (.ref l) (upd H l (.tup ys))) ∨ (SqT K H p ys ∧ Q (.ref p) H))
theorem Lay.shut (hp : Giv tp σ H (.ref p)) (hi : LayI tn p σ H 10) : Lay (tCB (rTupOf K) (tCons (tCall spNames [] E (tCons tp (tCons tn (tCons (tLst tNil) tNil)))) tNil)) p σ H := fun Q q => hp _ (hi _ fun H1 i r1 i0 i1 => ⟨(by show 0 ≤ sizeLine; decide), by
  obtain ⟨k, rfl⟩ := Int.eq_ofNat_of_zero_le i0
  refine names_new (Q := fun x H2 => rTupOf K [x] H2 Q) (E := E) (n := k) r1.pot (by omega) fun H2 c zs r2 nc ec hl hz nd => ?_
  refine ⟨c, _, rfl, .inl ⟨SqL.of ec, fun a na => q _ _ (.tuple (zs.map PyData.str)) ((r1.trans r2).new na) (.tup (r2.pot.ne na) ?_ upd_same (DtAll.names hz))⟩⟩
  rw [List.length_map]
  omega⟩)
abbrev rLstOf (K : PySem.W.Frag) : List V → Hp → VK → Prop := fun xs H Q => ∃ p ys, xs = [.ref p] ∧ (SqL K H p ys ∨ SqT K H p ys) ∧ ∀ l, H l = none → Q (.ref l) (upd H l (.lst ys))
theorem Lay.list {c : Addr} {xs : List V} {ds : List PyData} (h : Giv te σ H (.ref c)) (hp : Pot H p) (hl : xs.length ≤ 1000) (e : H c = some (.tup xs)) (hd : DtAll p H xs ds) : Lay (tCB (rLstOf K) (tCons te tNil)) p σ H := fun Q q => h _ ⟨c, xs, rfl, .inr (SqT.of e), fun a na => q _ _ (.list ds) ((Drawn.refl hp).new na) (.lst (hp.ne na) hl upd_same (hd.keep (Keep.new na)))⟩
theorem giv_lenL {c : Addr} {xs : List V} (hv : Giv te σ H (.ref c)) (e : H c = some (.lst xs)) : Giv (tCB (rLenX K) (tCons te tNil)) σ H (.int (xs.length : Nat)) := fun Q q => hv _ ⟨.ref c, xs.length, rfl, .inl ⟨xs, SqL.of e, rfl⟩, q⟩
theorem giv_add {ta : TE} {i j : Int} (h1 : Giv ta σ H (.int i)) (h2 : Giv tb σ H (.int j)) : Giv (tOp (rI0 fun i j => .int (i + j)) ta tb) σ H (.int (i + j)) := fun Q q => h1 _ (h2 _ ⟨i, j, rfl, rfl, q⟩)
theorem giv_ixV {ti : TE} {c : Addr} {xs : List V} {ds : List PyData} {k : Nat} (h : Giv te σ H (.ref c)) (h2 : Giv ti σ H (.int (k : Nat))) (e : H c = some (.tup xs)) (hd : DtAll p H xs ds) (hk : k < xs.length) : ∃ x d, Giv (tOp (rIxT K) te ti) σ H x ∧ Dt p H x d ∧ xs[k]? = some x ∧ ds[k]? = some d := by
  have hx : xs[k]? = some xs[k] := List.getElem?_eq_getElem hk
  obtain ⟨d, h3, h4⟩ := hd.get hx
  exact ⟨_, d, fun Q q => h _ (h2 _ ⟨c, xs, _, _, rfl, rfl, SqT.of e, atI_nat hx, q⟩), h4, hx, h3⟩
theorem giv_last {c : Addr} {xs : List V} (h : Giv te σ H (.ref c)) (e : H c = some (.tup xs)) (hk : 0 < xs.length) : Giv (tOp (rIxT K) te (tUn (rU fun i => .int (-i)) (tC (.int 1)))) σ H (xs.getD (xs.length - 1) .non) := by
  refine fun Q q => h _ ⟨1, rfl, c, xs, _, _, rfl, rfl, SqT.of e, ?_, q⟩
  show (ixN xs.length (-1)).bind (fun j => xs[j]?) = _
  have : ixN xs.length (-1) = some (xs.length - 1) := by
    unfold ixN
    rw [if_neg (by omega), if_pos (by omega)]
    congr 1
    omega
  rw [this, List.getD_eq_getElem?_getD]
  show xs[xs.length - 1]? = _
  rw [List.getElem?_eq_getElem (by omega)]
  rfl
theorem DtAll.getD {xs : List V} {ds : List PyData} (hd : DtAll p H xs ds) (k : Nat) (hk : k < xs.length) : Dt p H (xs.getD k .non) (ds.getD k .none) := by
  have hx : xs[k]? = some xs[k] := List.getElem?_eq_getElem hk
  obtain ⟨d, h3, h4⟩ := hd.get hx
  rw [List.getD_eq_getElem?_getD, List.getD_eq_getElem?_getD, hx, h3]
  exact h4
theorem LayI.digitN {tn : TE} {n : Nat} (hp : Giv tp σ H (.ref p)) (hq : Pot H p) (hn : Giv tn σ H (.int (n : Nat))) (h0 : 0 < n) (h1 : n ≤ 1000) : LayI (tCall spDigit [] E (tCons tp (tCons tn tNil))) p σ H n := LayI.digit hp hq hn (by omega) (Nat.lt_of_le_of_lt (Nat.log2_le_self _) (by show n < 9000; omega))
def filled : PyData → Bool
  | .tuple ds => !ds.isEmpty
  | _ => false
theorem say_neE {x : V} {d : PyData} (h : Giv te σ H x) (hd : Dt p H x d) (e : isa d "tuple" = true) : Say (tOp (rNeE K) te (tTup tNil)) σ H (filled d) := fun Q q => h _ ⟨(by show 0 ≤ sizeLine; decide), fun a na => by
  cases hd with
  | @tup c xs ds nc hl ec ha =>
    refine ⟨c, a, xs, rfl, rfl, .inr ⟨SqT.of (same_new na _ _ ec), SqT.of upd_same⟩, ?_⟩
    have := q _ (same_new (o := .tup []) na)
    have e2 : filled (.tuple ds) = !xs.isEmpty := by
      cases ha <;> rfl
    rw [e2] at this
    exact this
  | _ => exact absurd e (by dsimp only [isa, kind]; decide +kernel)⟩
/-! ### statements -/
variable {D : Ends} {u t : TS} {i : Nat} {tc : TT} {c : Bool}
theorem setD (h : Lay te p σ H) (q : ∀ (H' : Hp) (v : V) (d : PyData), Drawn p H H' → Dt p H' v d → u D (σ.set i (some v)) H') : tSeq (tAsg te (gName i)) u D σ H := h _ q
theorem setI {n : Int} (h : LayI te p σ H n) (q : ∀ (H' : Hp) (k : Int), Drawn p H H' → 0 ≤ k → k < n → u D (σ.set i (some (.int k))) H') : tSeq (tAsg te (gName i)) u D σ H := h _ q
theorem setT {lo hi : Nat} (h : LayT te p σ H lo hi) (q : ∀ (H' : Hp) (c : Addr) (xs : List V) (ds : List PyData), Drawn p H H' → c ≠ p → H' c = some (.tup xs) → DtAll p H' xs ds → lo ≤ xs.length → xs.length ≤ hi → u D (σ.set i (some (.ref c))) H') : tSeq (tAsg te (gName i)) u D σ H := h _ q
theorem setL {n : Nat} (h : LayL te p σ H n) (q : ∀ (H' : Hp) (c : Addr) (xs : List V) (ds : List PyData), Drawn p H H' → c ≠ p → H' c = some (.lst xs) → DtAll p H' xs ds → xs.length = n → u D (σ.set i (some (.ref c))) H') : tSeq (tAsg te (gName i)) u D σ H := h _ q
theorem setV (h : Giv te σ H v) (q : u D (σ.set i (some v)) H) : tSeq (tAsg te (gName i)) u D σ H := h _ q
theorem retD (h : Lay te p σ H) (q : ∀ (H' : Hp) (v : V) (d : PyData), Drawn p H H' → Dt p H' v d → D.rt v H') : tRet te D σ H := h _ q
theorem retT {lo hi : Nat} (h : LayT te p σ H lo hi) (q : ∀ (H' : Hp) (c : Addr) (xs : List V) (ds : List PyData), Drawn p H H' → c ≠ p → H' c = some (.tup xs) → DtAll p H' xs ds → lo ≤ xs.length → xs.length ≤ hi → D.rt (.ref c) H') : tRet te D σ H := h _ q
theorem ifS (h : SayT tc σ H c) (h1 : c = true → ∀ H', Same H H' → t { D with nx := u D } σ H') (h2 : c = false → ∀ H', Same H H' → u D σ H') : tSeq (tIfS tc t tNext) u D σ H := h _ fun H1 s1 => by
  cases c with
  | true => exact iteT (h1 rfl H1 s1)
  | false => exact iteF (h2 rfl H1 s1)
theorem isI {ta : TE} {k n : Int} (h1 : Giv ta σ H (.int k)) : SayT (tTest (tOp rEq ta (tC (.int n)))) σ H (decide (k = n)) := Say.tTest (say_eqI h1 giv_c)
end
end Gj

/-! own layer: the words of parts -/
namespace Gj
open PySem PySem.Spec PyProof.Rows L2
open C8 (Cal pe_c pe_gc)
theorem Th.Good.shows {t : Th} (h : t.Good) : Shows t.data := by
  have nB : ∀ {z : Str}, NameS z → (PyData.shown (.str z)).length ≤ 400 := fun h => by have := str_small h.cps h.len; omega
  have kB : ∀ s ∈ (["letter", "echo", "answer", "goer"] : List Str), (PyData.shown (.str s)).length ≤ 400 := fun s hs => by have := str_small (kinds_cps s hs) (kinds_name s hs).2.1; omega
  have sB : ∀ {s : Str}, s ∈ sorts → (PyData.shown (.str s)).length ≤ 400 := fun hs => by have := str_small (sorts_cps _ hs) (sorts_name _ hs).2.1; omega
  have wB : ∀ {z : Str}, WordS z → (PyData.shown (.str z)).length ≤ 400 := fun {z} h => by
    have h2 : z.length ≤ 12 := by
      obtain ⟨cs, e, h1, h2, _⟩ := h.ex
      rw [e, SX.S_len]
      exact h2
    have := str_small h.cps h2
    omega
  have pB : ∀ {z : Str} {n : Nat}, NameS z → NumOk n → (PyData.shown (.tuple [.str z, .int n])).length ≤ 1000 := fun {z n} hz hn => by
    have := tup_small (B := 400) (ds := [.str z, .int n]) fun d hd => by
      simp only [List.mem_cons, List.not_mem_nil, or_false] at hd
      rcases hd with rfl | rfl
      · exact nB hz
      · exact int_small hn
    have e : ([PyData.str z, .int n] : List PyData).length = 2 := rfl
    rw [e] at this
    omega
  have zB : ∀ {zs : List Str}, (∀ z ∈ zs, NameS z) → zs.length ≤ 9 → (PyData.shown (.tuple (zs.map .str))).length ≤ 4000 := fun {zs} hz hl => by
    have := tup_small (B := 400) (ds := zs.map .str) fun d hd => by
      obtain ⟨z, h1, rfl⟩ := List.mem_map.mp hd
      exact nB (hz z h1)
    rw [List.length_map] at this
    have h3 : zs.length * (400 + 2) ≤ 9 * 402 := Nat.mul_le_mul_right _ hl
    omega
  have all : (∀ d ∈ t.parts, d.shown.length ≤ 4000) ∧ t.parts.length ≤ 5 := by
    cases t with
    | letter a b w =>
      obtain ⟨h1, h2, h3⟩ := h
      refine ⟨fun d hd => ?_, by show 4 ≤ 5; omega⟩
      simp only [Th.parts, List.mem_cons, List.not_mem_nil, or_false] at hd
      rcases hd with rfl | rfl | rfl | rfl
      · exact Nat.le_trans (kB _ (by decide +kernel)) (by decide)
      · exact Nat.le_trans (nB h1) (by decide)
      · exact Nat.le_trans (nB h2) (by decide)
      · exact Nat.le_trans (wB h3) (by decide)
    | echo a b s m n =>
      obtain ⟨h1, h2, h3, h4, h5⟩ := h
      refine ⟨fun d hd => ?_, by show 5 ≤ 5; omega⟩
      simp only [Th.parts, List.mem_cons, List.not_mem_nil, or_false] at hd
      rcases hd with rfl | rfl | rfl | rfl | rfl
      · exact Nat.le_trans (kB _ (by decide +kernel)) (by decide)
      · exact Nat.le_trans (nB h1) (by decide)
      · exact Nat.le_trans (nB h2) (by decide)
      · exact Nat.le_trans (sB h3) (by decide)
      · exact Nat.le_trans (pB h4 h5) (by decide)
    | answer a s m n g k =>
      obtain ⟨h1, h2, h3, h4, h5, h6, h7⟩ := h
      refine ⟨fun d hd => ?_, by show 5 ≤ 5; omega⟩
      simp only [Th.parts, List.mem_cons, List.not_mem_nil, or_false] at hd
      rcases hd with rfl | rfl | rfl | rfl | rfl
      · exact Nat.le_trans (kB _ (by decide +kernel)) (by decide)
      · exact Nat.le_trans (nB h1) (by decide)
      · exact Nat.le_trans (sB h2) (by decide)
      · exact Nat.le_trans (pB h3 h4) (by decide)
      · exact Nat.le_trans (pB h5 h7) (by decide)
    | goer a n zs =>
      obtain ⟨h1, h2, h3, h4, h5, h6⟩ := h
      refine ⟨fun d hd => ?_, by show 4 ≤ 5; omega⟩
      simp only [Th.parts, List.mem_cons, List.not_mem_nil, or_false] at hd
      rcases hd with rfl | rfl | rfl | rfl
      · exact Nat.le_trans (kB _ (by decide +kernel)) (by decide)
      · exact Nat.le_trans (nB h1) (by decide)
      · exact Nat.le_trans (int_small h3) (by decide)
      · exact zB h4 h6
  have ssA : ∀ zs : List Str, PyData.showableAll (zs.map .str) = true ∧ PyData.hasDictAll (zs.map .str) = false ∧ PyData.depthAll (zs.map .str) ≤ 1 := fun zs => by
    induction zs with
    | nil => exact ⟨rfl, rfl, by simp [PyData.depthAll]⟩
    | cons z l ih =>
      obtain ⟨i1, i2, i3⟩ := ih
      refine ⟨?_, ?_, ?_⟩
      · rw [List.map_cons, PyData.showableAll, i1]; rfl
      · rw [List.map_cons, PyData.hasDictAll, i2]; rfl
      · rw [List.map_cons]; simp only [PyData.depthAll, PyData.depth]; omega
  refine ⟨?_, ?_, ?_, ?_⟩
  · cases t with
    | letter a b w => rfl
    | echo a b s m n => simp [Th.data, Th.parts, PyData.showable, PyData.showableAll]; exact int_log h.2.2.2.2
    | answer a s m n g k => simp [Th.data, Th.parts, PyData.showable, PyData.showableAll]; exact ⟨int_log h.2.2.2.1, int_log h.2.2.2.2.2.2⟩
    | goer a n zs => simp [Th.data, Th.parts, PyData.showable, PyData.showableAll, (ssA zs).1]; exact int_log h.2.2.1
  · cases t with
    | letter a b w => rfl
    | echo a b s m n => rfl
    | answer a s m n g k => rfl
    | goer a n zs => simp [Th.data, Th.parts, PyData.hasDict, PyData.hasDictAll, (ssA zs).2.1]
  · cases t with
    | letter a b w => simp [Th.data, Th.parts, PyData.depth, PyData.depthAll]
    | echo a b s m n => simp [Th.data, Th.parts, PyData.depth, PyData.depthAll]
    | answer a s m n g k => simp [Th.data, Th.parts, PyData.depth, PyData.depthAll]
    | goer a n zs =>
      have := (ssA zs).2.2
      simp [Th.data, Th.parts, PyData.depth, PyData.depthAll]
      omega
  · have := tup_small all.1
    have h3 : t.parts.length * (4000 + 2) ≤ 5 * 4002 := Nat.mul_le_mul_right _ all.2
    show (PyData.shown (.tuple t.parts)).length ≤ 2 ^ 24
    omega
/-! ### parts -/
inductive Leaf : PyData → Prop
  | str (z : Str) : Leaf (.str z)
  | int {n : Nat} : NumOk n → Leaf (.int n)
def wordOf : PyData → Str
  | .str z => z
  | .int i => ((toString i : String) : Str)
  | _ => ""
inductive Part : PyData → Prop
  | leaf {d : PyData} : Leaf d → Part d
  | tup {es : List PyData} : (∀ e ∈ es, Leaf e) → Part (.tuple es)
def partWords : PyData → List Str
  | .tuple es => es.map wordOf
  | d => [wordOf d]
theorem Leaf.words {d : PyData} (h : Leaf d) : partWords d = [wordOf d] := by cases h <;> rfl
theorem Leaf.isa {d : PyData} (h : Leaf d) : isa d "tuple" = false := by cases h <;> (dsimp only [Gj.isa, kind]; decide +kernel)
theorem Th.Good.part {t : Th} (h : t.Good) : ∀ d ∈ t.parts, Part d := by
  cases t with
  | letter a b w =>
    intro d hd
    simp only [Th.parts, List.mem_cons, List.not_mem_nil, or_false] at hd
    rcases hd with rfl | rfl | rfl | rfl <;> exact .leaf (.str _)
  | echo a b s m n =>
    obtain ⟨h1, h2, h3, h4, h5⟩ := h
    intro d hd
    simp only [Th.parts, List.mem_cons, List.not_mem_nil, or_false] at hd
    rcases hd with rfl | rfl | rfl | rfl | rfl
    iterate 4 exact .leaf (.str _)
    exact .tup fun e he => by
      simp only [List.mem_cons, List.not_mem_nil, or_false] at he
      rcases he with rfl | rfl
      · exact .str _
      · exact .int h5
  | answer a s m n g k =>
    obtain ⟨h1, h2, h3, h4, h5, h6, h7⟩ := h
    intro d hd
    simp only [Th.parts, List.mem_cons, List.not_mem_nil, or_false] at hd
    rcases hd with rfl | rfl | rfl | rfl | rfl
    iterate 3 exact .leaf (.str _)
    · exact .tup fun e he => by
        simp only [List.mem_cons, List.not_mem_nil, or_false] at he
        rcases he with rfl | rfl
        · exact .str _
        · exact .int h4
    · exact .tup fun e he => by
        simp only [List.mem_cons, List.not_mem_nil, or_false] at he
        rcases he with rfl | rfl
        · exact .str _
        · exact .int h7
  | goer a n zs =>
    obtain ⟨h1, h2, h3, h4, h5, h6⟩ := h
    intro d hd
    simp only [Th.parts, List.mem_cons, List.not_mem_nil, or_false] at hd
    rcases hd with rfl | rfl | rfl | rfl
    iterate 2 exact .leaf (.str _)
    · exact .leaf (.int h3)
    · exact .tup fun e he => by
        obtain ⟨z, _, rfl⟩ := List.mem_map.mp he
        exact .str _
theorem map_wordOf (zs : List Str) : (zs.map PyData.str).map wordOf = zs := by
  rw [List.map_map]
  exact List.map_id' zs
theorem parts_words (t : Th) : t.parts.flatMap partWords = t.words := by
  cases t with
  | letter a b w => rfl
  | echo a b s m n => rfl
  | answer a s m n g k => rfl
  | goer a n zs =>
    show ("goer" : Str) :: a :: num n :: ((zs.map PyData.str).map wordOf ++ []) = _
    rw [map_wordOf, List.append_nil]
    rfl
def wordsTo (t : Th) (i : Nat) : List Str := (t.parts.take i).flatMap partWords
theorem wordsTo_len {t : Th} (h : t.Good) (i : Nat) : (wordsTo t i).length ≤ 12 := by
  have e := parts_words t
  rw [← List.take_append_drop i t.parts, List.flatMap_append] at e
  have := congrArg List.length e
  rw [List.length_append] at this
  have := h.many.2
  unfold wordsTo
  omega
theorem wordsTo_all (t : Th) {n : Nat} (h : t.parts.length ≤ n) : wordsTo t n = t.words := by
  unfold wordsTo
  rw [List.take_of_length_le h, parts_words]
theorem wordsTo_succ {t : Th} {i : Nat} {d : PyData} (h : t.parts[i]? = some d) : wordsTo t (i + 1) = wordsTo t i ++ partWords d := by
  unfold wordsTo
  rw [take_snoc h, List.flatMap_append]
  simp
theorem Leaf.str1 {p : Addr} {H : Hp} {v : V} {d : PyData} {Q : VK} (hl : Leaf d) (hd : Dt p H v d) (q : Q (.str (wordOf d)) H) : rStrD [v] H Q := by
  cases hl with
  | str z =>
    cases hd
    exact .inr ⟨z, rfl, q⟩
  | int hn =>
    cases hd
    exact .inl ⟨_, rfl, int_log hn, q⟩
def spTT : Sp := fun vs H Q _ => ∃ (p c : Addr) (xs : List V) (t : Th), vs = [.ref c] ∧ H c = some (.tup xs) ∧ DtAll p H xs t.parts ∧ t.Good ∧ ∀ H', Same H H' → Q (.str t.text) H'
/-- [str(x) for x in part] -/
theorem lc_strs {K : PySem.W.Frag} {σ : L2.St} {H : Hp} {te : TE} {i : Nat} {p a : Addr} {xs : List V} {es : List PyData} {Q : VK} (hv : Giv te σ H (.ref a)) (ea : H a = some (.tup xs)) (hd : DtAll p H xs es) (hl : xs.length ≤ 1000) (lf : ∀ e ∈ es, Leaf e)
    (hw : ∀ v, wipe ((wipe σ [i]).set i (some v)) [i] = wipe σ [i]) (hi : ∀ v, ((wipe σ [i]).set i (some v))[i]? = some (some v))
    (q : ∀ (H' : Hp) (D : Addr), H D = none → Same H H' → H' D = some (.lst ((es.map wordOf).map V.str)) → Q (.ref D) H') :
    tLc (iTup K te) (gName i) tYes (tCB rStrD (tCons (tVar i) tNil)) [i] σ H Q := hv _ ⟨a, rfl, ⟨xs, SqT.of ea⟩, fun D hD => by
  refine lc_tup (K := K) (a := a) (xs := xs) (Pv := fun j H' => Same H H' ∧ H' D = some (.lst (((es.take j).map wordOf).map V.str))) ⟨same_new hD, upd_same⟩ (fun j H' _ hp => SqT.of (hp.1 _ _ ea)) (fun j x H1 hx hp => ?_) (fun H1 hp => ?_)
  · obtain ⟨sm, eD⟩ := hp
    obtain ⟨d, hd1, hd2⟩ := hd.get hx
    refine ⟨hw _, _, hi _, ?_⟩
    refine Leaf.str1 (Q := fun y H4 => ∃ acc, H4 D = some (.lst acc) ∧ acc.length < sizeLine ∧ Same H (upd H4 D (.lst (acc ++ [y]))) ∧ upd H4 D (.lst (acc ++ [y])) D = some (.lst (((es.take (j + 1)).map wordOf).map V.str))) (lf d (List.mem_of_getElem? hd1)) (hd2.same sm) ?_
    refine ⟨_, eD, ?_, fun b o e => ?_, ?_⟩
    · rw [List.length_map, List.length_map, List.length_take, ← hd.length]
      exact small1000 (by omega)
    · rw [upd_ne (ne_of_none e hD)]
      exact sm b o e
    · rw [upd_same, take_snoc hd1, List.map_append, List.map_append]
      rfl
  · obtain ⟨sm, eD⟩ := hp
    rw [show es.take xs.length = es from List.take_of_length_le (by rw [hd.length]; exact Nat.le_refl _)] at eD
    exact q H1 D hD sm eD⟩
theorem giv_str {σ : L2.St} {H : Hp} {te : TE} {p : Addr} {v : V} {d : PyData} (hv : Giv te σ H v) (hl : Leaf d) (hd : Dt p H v d) : Giv (tCB rStrD (tCons te tNil)) σ H (.str (wordOf d)) := fun Q q => hv _ (hl.str1 hd q)
theorem Th.parts_len (t : Th) : t.parts.length ≤ 5 := by
  cases t <;> (simp only [Th.parts, List.length_cons, List.length_nil]; omega)
theorem joinL_len (a : List Nat) : ∀ l : List (List Nat), (TL.joinL a l).length ≤ (l.map List.length).sum + l.length * a.length
  | [] => Nat.zero_le _
  | [x] => by show x.length ≤ _; simp
  | x :: y :: r => by
    show (x ++ (a ++ TL.joinL a (y :: r))).length ≤ _
    have := joinL_len a (y :: r)
    rw [List.length_append, List.length_append, List.map_cons, List.sum_cons, List.length_cons (a := x), Nat.succ_mul]
    omega
theorem join_len (z : Str) (l : List Str) : (Txt.join z l).length ≤ (l.map (·.length)).sum + l.length * z.length := by
  have e : (Txt.join z l).length = (TL.tl (Txt.join z l)).length := rfl
  rw [e, TL.join_eq, TL.tl_join]
  have := joinL_len (TL.tl z) (l.map TL.tl)
  rw [List.map_map, List.length_map] at this
  exact this
theorem Th.Good.len {t : Th} (h : t.Good) : t.text.length ≤ 1000 := by
  have h1 := join_len " " t.words
  have h2 := h.sum
  have h3 := h.many.2
  have e : (PySem.Str.ofString " ").length = 1 := rfl
  rw [e] at h1
  show (Txt.join " " t.words).length ≤ 1000
  omega
end Gj

namespace Gj
open PySem PySem.Spec PyProof.Rows L2
open C8 (Cal pe_c pe_gc)
section
variable {P : Program} {w : World} {K : PySem.W.Frag} {mg : Str → Option Value} {base : Heap}
theorem sc_thing_text : FnScope ["thing", "words", "part", "inner"] ["thing"] (defScope (topS 23)) := ⟨rfl, rfl, rfl, by decide +kernel, rfl, by decide +kernel, by decide +kernel⟩
theorem okF_thing_text (D : DefAt K mg "thing_text" (topS 23)) (m : Mg mg) : CalF P w K mg base 1 "thing_text" (topS 23) ["thing"] spTT := by
  have sc := sc_thing_text
  refine mkCalF D sc (fun vs H Q E h => ?_) (fun f cdv A outer s H vs Q E hr h => ?_)
  · obtain ⟨p, c, xs, t, rfl, _⟩ := h
    rfl
  · obtain ⟨p, c, xs, t, rfl, ec, hd, hg, q⟩ := h
    refine ⟨_, (pss_cons (ps_set (i := 1) sc.nd rfl (.inl rfl) (pe_lst pa_nil))
  (pss_cons (ps_for PassesOwn.never rfl (pi_tup (pv 0)) (pg_name (i := 2) sc.nd rfl (.inl rfl))
  (pss_one (ps_if (pt_val (pe_callB (call_isD (T := "tuple") (.inr (.inl rfl))) (by rfl) m.isinstance (by decide +kernel) (pa_cons (pv 2) (pa_cons (pe_bltn (v := .ty "tuple") (by rfl) m.tuple (by decide +kernel) rfl) pa_nil))))
  (pss_one (ps_expr (pe_bm PySem.F.plainAttrs_list PySem.F.slot_list_extend PySem.F.type_list_extend mt_extend (pv 1) (pa_cons (pe_lc (own := [("inner", 3)]) (g := gName 3) (tt := tYes) rfl sc.nd (pi_tup (pv 2)) (blkOk_by (N := ["thing", "words", "part", "inner"]) (sc := defScope (topS 23)) (by decide +kernel)) (fun _ _ _ _ _ => (pg_name (i := 3) sc.nd rfl (.inl rfl))) (fun _ _ _ _ _ => pts_nil) (fun _ _ _ _ _ => (pe_callTy call_strD (by rfl) m.str (by decide +kernel) (pa_cons (pv 3) pa_nil)))) pa_nil))))
  (pss_one (ps_expr (pe_bm PySem.F.plainAttrs_list PySem.F.slot_list_append PySem.F.type_list_append mt_append (pv 1) (pa_cons (pe_callTy call_strD (by rfl) m.str (by decide +kernel) (pa_cons (pv 2) pa_nil)) pa_nil)))))))
  (pss_one (ps_ret (pe_join pe_str (pv 1)))))), ?_⟩
    refine ⟨(by show 0 ≤ sizeLine; decide), fun W nW => ?_⟩
    have lx : xs.length ≤ 5 := by rw [hd.length]; exact t.parts_len
    refine ⟨_, rfl, c, rfl, ⟨xs, SqT.of ((same_new nW) _ _ ec)⟩, ?_⟩
    refine for_tup (K := K) (a := c) (xs := xs) (fun i σ H' => ∃ y2 y3, σ = [some (.ref c), some (.ref W), y2, y3] ∧ Same H H' ∧ H' W = some (.lst ((wordsTo t i).map V.str))) ⟨_, _, rfl, same_new nW, upd_same⟩ (fun i σ H' _ hp => ?_) (fun i x σ H1 hx hp => ?_) (fun σ H1 hp => ?_)
    · obtain ⟨y2, y3, rfl, sm, eW⟩ := hp
      exact SqT.of (sm _ _ ec)
    · obtain ⟨y2, y3, rfl, sm, eW⟩ := hp
      obtain ⟨d, hd1, hd2⟩ := hd.get hx
      have hd2 := hd2.same sm
      have wl := wordsTo_len hg i
      have pt := hg.part d (List.mem_of_getElem? hd1)
      refine Say.tB (say_isa (giv_var rfl) hd2) _ fun H2 s2 => ?_
      have sm := sm.trans s2
      have eW := s2 _ _ eW
      have hd2 := hd2.same s2
      cases pt with
      | leaf lf =>
        rw [lf.isa]
        refine iteF ?_
        refine ⟨_, rfl, .inl ⟨rfl, _, SqL.of eW⟩, ?_⟩
        refine giv_str (te := tVar 2) (giv_var rfl) lf hd2 _ ?_
        refine ⟨W, _, _, rfl, rfl, eW, ?_, _, _, rfl, fun b o e => ?_, ?_⟩
        · rw [List.length_map]; exact small1000 (by omega)
        · rw [upd_ne (ne_of_none e nW)]; exact sm b o e
        · rw [upd_same, wordsTo_succ hd1, lf.words, List.map_append]; rfl
      | @tup es lf =>
        cases hd2 with
        | @tup a ys _ na la ea ha =>
          have wl2 : (wordsTo t i ++ es.map wordOf).length ≤ 12 := by rw [show wordsTo t i ++ es.map wordOf = wordsTo t (i + 1) from (wordsTo_succ hd1).symm]; exact wordsTo_len hg _
          rw [List.length_append, List.length_map, ← ha.length] at wl2
          rw [show isa (.tuple _) "tuple" = true by dsimp only [isa, kind]; decide +kernel]
          refine iteT ?_
          refine ⟨_, rfl, .inl ⟨rfl, _, SqL.of eW⟩, ?_⟩
          refine lc_strs (K := K) (te := tVar 2) (i := 3) (giv_var rfl) ea ha la lf (fun _ => rfl) (fun _ => rfl) fun H3 D nD s3 eD => ?_
          refine ⟨W, D, _, _, rfl, rfl, s3 _ _ eW, eD, ?_, _, _, rfl, fun b o e => ?_, ?_⟩
          · rw [List.length_map, List.length_map, List.length_map, ← ha.length]; exact Nat.le_of_lt (small1000 (by omega))
          · rw [upd_ne (ne_of_none e nW)]; exact s3 _ _ (sm b o e)
          · rw [upd_same, wordsTo_succ hd1, List.map_append]; rfl
    · obtain ⟨y2, y3, rfl, sm, eW⟩ := hp
      rw [wordsTo_all t (by rw [hd.length]; exact Nat.le_refl _)] at eW
      refine ⟨⟨_, rfl⟩, _, rfl, _, W, t.words, rfl, rfl, .inl (SqL.of eW), ?_, q _ sm⟩
      have := hg.sum
      have := hg.many.2
      have e : (PySem.Str.ofString " ").length = 1 := rfl
      rw [e]
      omega
theorem ok_thing_text (D : DefAt K mg "thing_text" (topS 23)) (m : Mg mg) : Cal P w K mg base 1 "thing_text" spTT [] := (okF_thing_text D m).cal (fun _ _ _ _ _ _ us hl => match us, hl with | [_], _ => rfl)
theorem kw_thing_text (D : DefAt K mg "thing_text" (topS 23)) (m : Mg mg) : CalK P w K mg base 1 "thing_text" spTT ["thing"] (fun zs => zs) := (okF_thing_text D m).kw (g := fun ws => ws) (fun _ _ _ _ _ _ us hl => match us, hl with | [_], _ => rfl) (fun r => r)
theorem sc__law_text : FnScope ["_law_sample", "_law_words", "_law_part", "_law_one"] ["_law_sample"] (defScope (topS 36)) := ⟨rfl, rfl, rfl, by decide +kernel, rfl, by decide +kernel, by decide +kernel⟩
theorem ok__law_text (D : DefAt K mg "_law_text" (topS 36)) (m : Mg mg) : Cal P w K mg base 1 "_law_text" spTT [] := by
  have sc := sc__law_text
  refine mkCal D (fun _ _ _ _ _ _ us hl => match us, hl with | [_], _ => rfl) sc (fun vs H Q E h => ?_) (fun f cdv A outer s H vs Q E hr h => ?_)
  · obtain ⟨p, c, xs, t, rfl, _⟩ := h
    rfl
  · obtain ⟨p, c, xs, t, rfl, ec, hd, hg, q⟩ := h
    refine ⟨_, (pss_cons (ps_set (i := 1) sc.nd rfl (.inl rfl) (pe_lst pa_nil))
  (pss_cons (ps_for PassesOwn.never rfl (pi_tup (pv 0)) (pg_name (i := 2) sc.nd rfl (.inl rfl))
  (pss_one (ps_if (pt_val (pe_callB (call_isD (T := "tuple") (.inr (.inl rfl))) (by rfl) m.isinstance (by decide +kernel) (pa_cons (pv 2) (pa_cons (pe_bltn (v := .ty "tuple") (by rfl) m.tuple (by decide +kernel) rfl) pa_nil))))
  (pss_one (ps_set (i := 1) sc.nd rfl (.inl rfl) (pe_op op_cat (pv 1) (pe_lc (own := [("_law_one", 3)]) (g := gName 3) (tt := tYes) rfl sc.nd (pi_tup (pv 2)) (blkOk_by (N := ["_law_sample", "_law_words", "_law_part", "_law_one"]) (sc := defScope (topS 36)) (by decide +kernel)) (fun _ _ _ _ _ => (pg_name (i := 3) sc.nd rfl (.inl rfl))) (fun _ _ _ _ _ => pts_nil) (fun _ _ _ _ _ => (pe_callTy call_strD (by rfl) m.str (by decide +kernel) (pa_cons (pv 3) pa_nil)))))))
  (pss_one (ps_expr (pe_bm PySem.F.plainAttrs_list PySem.F.slot_list_append PySem.F.type_list_append mt_append (pv 1) (pa_cons (pe_callTy call_strD (by rfl) m.str (by decide +kernel) (pa_cons (pv 2) pa_nil)) pa_nil)))))))
  (pss_one (ps_ret (pe_join pe_str (pv 1)))))), ?_⟩
    refine ⟨(by show 0 ≤ sizeLine; decide), fun W nW => ?_⟩
    have lx : xs.length ≤ 5 := by rw [hd.length]; exact t.parts_len
    refine ⟨_, rfl, c, rfl, ⟨xs, SqT.of ((same_new nW) _ _ ec)⟩, ?_⟩
    refine for_tup (K := K) (a := c) (xs := xs) (fun i σ H' => ∃ y2 y3 W, σ = [some (.ref c), some (.ref W), y2, y3] ∧ H W = none ∧ Same H H' ∧ H' W = some (.lst ((wordsTo t i).map V.str))) ⟨_, _, W, rfl, nW, same_new nW, upd_same⟩ (fun i σ H' _ hp => ?_) (fun i x σ H1 hx hp => ?_) (fun σ H1 hp => ?_)
    · obtain ⟨y2, y3, W, rfl, nW, sm, eW⟩ := hp
      exact SqT.of (sm _ _ ec)
    · obtain ⟨y2, y3, W, rfl, nW, sm, eW⟩ := hp
      obtain ⟨d, hd1, hd2⟩ := hd.get hx
      have hd2 := hd2.same sm
      have wl := wordsTo_len hg i
      have pt := hg.part d (List.mem_of_getElem? hd1)
      refine Say.tB (say_isa (giv_var rfl) hd2) _ fun H2 s2 => ?_
      have sm := sm.trans s2
      have eW := s2 _ _ eW
      have hd2 := hd2.same s2
      cases pt with
      | leaf lf =>
        rw [lf.isa]
        refine iteF ?_
        refine ⟨_, rfl, .inl ⟨rfl, _, SqL.of eW⟩, ?_⟩
        refine giv_str (te := tVar 2) (giv_var rfl) lf hd2 _ ?_
        refine ⟨W, _, _, rfl, rfl, eW, ?_, _, _, W, rfl, nW, fun b o e => ?_, ?_⟩
        · rw [List.length_map]; exact small1000 (by omega)
        · rw [upd_ne (ne_of_none e nW)]; exact sm b o e
        · rw [upd_same, wordsTo_succ hd1, lf.words, List.map_append]; rfl
      | @tup es lf =>
        cases hd2 with
        | @tup a ys _ na la ea ha =>
          have wl2 : (wordsTo t i ++ es.map wordOf).length ≤ 12 := by rw [show wordsTo t i ++ es.map wordOf = wordsTo t (i + 1) from (wordsTo_succ hd1).symm]; exact wordsTo_len hg _
          rw [List.length_append, List.length_map, ← ha.length] at wl2
          rw [show isa (.tuple _) "tuple" = true by dsimp only [isa, kind]; decide +kernel]
          refine iteT ?_
          refine ⟨_, rfl, ?_⟩
          refine lc_strs (K := K) (te := tVar 2) (i := 3) (giv_var rfl) ea ha la lf (fun _ => rfl) (fun _ => rfl) fun H3 D nD s3 eD => ?_
          refine ⟨W, D, _, _, rfl, rfl, s3 _ _ eW, eD, ?_, fun Z nZ => ⟨_, _, Z, rfl, ?_, fun b o e => ?_, ?_⟩⟩
          · rw [List.length_map, List.length_map, List.length_map, ← ha.length]; exact Nat.le_of_lt (small1000 (by omega))
          · cases e : H Z with
            | none => rfl
            | some o => rw [(sm.trans s3) _ _ e] at nZ; cases nZ
          · rw [upd_ne (ne_of_none ((sm.trans s3) b o e) nZ)]; exact (sm.trans s3) b o e
          · rw [upd_same, wordsTo_succ hd1, List.map_append]; rfl
    · obtain ⟨y2, y3, W, rfl, nW, sm, eW⟩ := hp
      rw [wordsTo_all t (by rw [hd.length]; exact Nat.le_refl _)] at eW
      refine ⟨⟨_, rfl⟩, _, rfl, _, W, t.words, rfl, rfl, .inl (SqL.of eW), ?_, q _ sm⟩
      have := hg.sum
      have := hg.many.2
      have e : (PySem.Str.ofString " ").length = 1 := rfl
      rw [e]
      omega
end
end Gj

set_option maxHeartbeats 4000000
namespace Gj
open PySem PySem.Spec PyProof.Rows L2
open C8 (Cal pe_c pe_gc)
section
variable {σ : L2.St} {H : Hp} {te ta tb : TE} {a b c : Bool} {D : Ends} {u t : TS} {i : Nat} {tc : TT}
theorem setB (h : Say te σ H b) (q : ∀ H', Same H H' → u D (σ.set i (some (.bl b))) H') : tSeq (tAsg te (gName i)) u D σ H := h _ q
theorem setW {w : V} (h : ∀ Q : VK, (∀ H', Same H H' → Q w H') → te σ H Q) (q : ∀ H', Same H H' → u D (σ.set i (some w)) H') : tSeq (tAsg te (gName i)) u D σ H := h _ q
theorem say_var (h : σ[i]? = some (some (.bl b))) : Say (tVar i) σ H b := fun Q q => ⟨_, h, q H (Same.refl H)⟩
theorem retB (h : Say te σ H b) (q : ∀ H', Same H H' → D.rt (.bl b) H') : tRet te D σ H := h _ q
abbrev rReprB : List V → Hp → VK → Prop := fun xs H Q => ∃ b, xs = [.bl b] ∧ Q (.str (if b then "True" else "False")) H
theorem say_reprNe (ha : Say ta σ H a) (hb : ∀ H', Same H H' → Say tb σ H' a) : Say (tOp rNe (tCB rReprB (tCons ta tNil)) (tCB rReprB (tCons tb tNil))) σ H false := fun Q q => ha _ fun H1 s1 => ⟨a, rfl, hb H1 s1 _ fun H2 s2 => ⟨a, rfl, rfl, by
  rw [decide_eq_true rfl]
  exact q H2 (s1.trans s2)⟩⟩
/-- an if whose test is false -/
theorem ifNo (h : SayT tc σ H false) (h2 : ∀ H', Same H H' → u D σ H') : tSeq (tIfS tc t tNext) u D σ H := ifS h (fun e => absurd e (by decide)) fun _ => h2
theorem say_inL {K : PySem.W.Frag} {p : Addr} {v : V} {d : PyData} {z1 z2 : Str} (hv : Giv te σ H v) (hd : Dt p H v d) : Say (tOp (rInT K) te (tLst (tCons (tC (.str z1)) (tCons (tC (.str z2)) tNil)))) σ H ([z1, z2].any fun z => isT d z) := fun Q q => hv _ ⟨(by show 2 ≤ sizeLine; decide), fun a na => ⟨p, a, d, [z1, z2], rfl, SqL.of upd_same, hd.same (same_new na), q _ (same_new na)⟩⟩
end
end Gj

/-! own layer: numbers read figure by figure -/
namespace Gj
open PySem PySem.Spec PyProof.Rows L2
open C8 (Cal pe_c pe_gc)
theorem num_head : ∀ n : Nat, n ≠ 0 → (TL.numL n)[0]? ≠ some 48 := by
  intro n
  induction n using Nat.strongRecOn with
  | _ n ih =>
    intro hn
    by_cases h : n < 10
    · rw [TL.numL_lt h]
      intro e
      have e : 48 + n = 48 := Option.some.inj e
      omega
    · rw [TL.numL_step (by omega)]
      have hp : 0 < (TL.numL (n / 10)).length := List.length_pos_iff.mpr (TL.numL_ne _)
      rw [List.getElem?_append_left hp]
      exact ih (n / 10) (by omega) (by omega)
theorem num_zero {n : Nat} (h : Txt.startswith (num n) "0" = true) : n = 0 := by
  unfold Txt.startswith at h
  rw [Bool.and_eq_true] at h
  have h2 := (StrLaws.subAt_one (num n) 48 0).mp ⟨of_decide_eq_true h.1, h.2⟩
  rw [num_tl] at h2
  by_cases e : n = 0
  · exact e
  · exact absurd h2 (num_head n e)
theorem num_starts (n : Nat) : (Txt.startswith (num n) "0" && !decide (V.str (num n) = V.str "0")) = false := by
  cases h : Txt.startswith (num n) "0" with
  | false => rfl
  | true =>
    rw [num_zero h]
    rfl
theorem num_txt {n : Nat} : mTxt sFigures ((num n).length : Nat) (.str (num n)) = true := by
  show isTxt (num n) sFigures _ = true
  rw [num_S, SX.S_len]
  have hp : 0 < (TL.numL n).length := List.length_pos_iff.mpr (TL.numL_ne _)
  refine txt_of (most := (TL.numL n).length) hp (Nat.le_refl _) fun c hc => ?_
  have h := TL.numL_digits n c hc
  have k : ∀ c, c < 58 → 48 ≤ c → c ∈ sFigures.cps.toList := by decide +kernel
  exact k c (by omega) h.1
theorem fig_at : ∀ k, k < 10 → Builtin.Str.occurrences sFigures ⟨#[48 + k]⟩ 0 sFigures.length 1 = [k] := by decide +kernel
/-- the number of the first j figures -/
def numTo (n j : Nat) : Int := ((TL.numL n).take j).foldl (fun (t : Int) (c : Nat) => t * 10 + ((c : Int) - 48)) 0
theorem numTo_succ {n j c : Nat} (h : (TL.numL n)[j]? = some c) : numTo n (j + 1) = numTo n j * 10 + ((c : Int) - 48) := by
  unfold numTo
  rw [take_snoc h, List.foldl_append]
  rfl
theorem numTo_all {n j : Nat} (h : (TL.numL n).length ≤ j) : numTo n j = n := by
  unfold numTo
  rw [List.take_of_length_le h]
  exact TL.fold_num n
def spNum : Sp := fun vs H Q _ => ∃ n : Nat, vs = [.str (num n)] ∧ NumOk n ∧ ∀ H', Same H H' → Q (.int n) H'
def spPairOf : Sp := fun vs H Q _ => ∃ (z : Str) (n : Nat), vs = [.str z, .str (num n)] ∧ NumOk n ∧ ∀ H' a, H a = none → Same H H' → H' a = some (.tup [.str z, .int n]) → Q (.ref a) H'
def spTold : Sp := fun vs H Q _ => ∃ (p c : Addr) (t : Th), vs = [.ref c] ∧ H p ≠ none ∧ H c = some (.lst (t.words.map V.str)) ∧ t.Good ∧ ∀ H' v, Same H H' → Dt p H' v t.data → Q v H'
def spThingOf : Sp := fun vs H Q _ => ∃ (p : Addr) (t : Th), vs = [.str t.text] ∧ H p ≠ none ∧ t.Good ∧ ∀ H' v, Same H H' → Dt p H' v t.data → Q v H'
theorem ne_p {p a : Addr} {H H' : Hp} (h : H p ≠ none) (s : Same H H') (n : H' a = none) : a ≠ p := by
  rintro rfl
  cases e : H a with
  | none => exact h e
  | some o => rw [s _ _ e] at n; cases n
theorem new_of {a : Addr} {H H' : Hp} (s : Same H H') (n : H' a = none) : H a = none := by
  cases e : H a with
  | none => rfl
  | some o => rw [s _ _ e] at n; cases n
section
variable {σ : L2.St} {H : Hp} {te ta tb : TE} {a b c : Bool} {D : Ends} {u t : TS} {tc : TT}
theorem ifYes (h : SayT tc σ H true) (h1 : ∀ H', Same H H' → t { D with nx := u D } σ H') : tSeq (tIfS tc t tNext) u D σ H := ifS h (fun _ => h1) fun e => absurd e (by decide)
theorem dec_str2 {x y : Str} : decide (V.str x = V.str y) = decide (x = y) := by
  by_cases h : x = y
  · rw [h, decide_eq_true rfl, decide_eq_true rfl]
  · rw [decide_eq_false h, decide_eq_false fun z => h (V.str.inj z)]
theorem say_eqS {x y : Str} (h1 : Giv ta σ H (.str x)) (h2 : Giv tb σ H (.str y)) : Say (tOp rEq ta tb) σ H (decide (x = y)) := fun Q q => h1 _ (h2 _ ⟨rfl, by rw [dec_str2]; exact q H (Same.refl H)⟩)
theorem say_neS {x y : Str} (h1 : Giv ta σ H (.str x)) (h2 : Giv tb σ H (.str y)) : Say (tOp rNe ta tb) σ H (!decide (x = y)) := fun Q q => h1 _ (h2 _ ⟨rfl, by rw [dec_str2]; exact q H (Same.refl H)⟩)
theorem sayKind {k z : Str} {n i : Int} (h1 : σ[1]? = some (some (.str k))) (h2 : σ[2]? = some (some (.int n))) : SayT (tAnd (tTest (tOp rEq (tVar 1) (tC (.str z)))) (tTest (tOp rEq (tVar 2) (tC (.int i))))) σ H (decide (k = z) && decide (n = i)) :=
  SayT.and (Say.tTest (say_eqS (giv_var h1) giv_c)) fun _ H' s => Say.tTest (say_eqI (giv_var h2) giv_c)
theorem say_ge {i j : Int} (h1 : Giv ta σ H (.int i)) (h2 : Giv tb σ H (.int j)) : Say (tOp (rI0 fun i j => .bl (decide (i ≥ j))) ta tb) σ H (decide (i ≥ j)) := fun Q q => h1 _ (h2 _ ⟨i, j, rfl, rfl, q H (Same.refl H)⟩)
theorem sayKindG {k z : Str} {n i : Int} (h1 : σ[1]? = some (some (.str k))) (h2 : σ[2]? = some (some (.int n))) : SayT (tAnd (tTest (tOp rEq (tVar 1) (tC (.str z)))) (tTest (tOp (rI0 fun i j => .bl (decide (i ≥ j))) (tVar 2) (tC (.int i))))) σ H (decide (k = z) && decide (n ≥ i)) :=
  SayT.and (Say.tTest (say_eqS (giv_var h1) giv_c)) fun _ H' s => Say.tTest (say_ge (giv_var h2) giv_c)
end
end Gj

namespace Gj
open PySem PySem.Spec PyProof.Rows L2
open C8 (Cal pe_c pe_gc)
section
variable {P : Program} {w : World} {K : PySem.W.Frag} {mg : Str → Option Value} {base : Heap}
theorem sc_number_of : FnScope ["word", "number", "figure"] ["word"] (defScope (topS 24)) := ⟨rfl, rfl, rfl, by decide +kernel, rfl, by decide +kernel, by decide +kernel⟩
theorem ok_number_of (D : DefAt K mg "number_of" (topS 24)) (m : Mg mg) (gs : Gs K mg) (c_is_text_of : Cal P w K mg base 1 "is_text_of" spTextD []) : Cal P w K mg base 2 "number_of" spNum [] := by
  have sc := sc_number_of
  refine mkCal D (fun _ _ _ _ _ _ us hl => match us, hl with | [_], _ => rfl) sc (fun vs H Q E h => ?_) (fun f cdv A outer s H vs Q E hr h => ?_)
  · obtain ⟨n, rfl, _⟩ := h
    rfl
  · obtain ⟨n, rfl, hn, q⟩ := h
    refine ⟨_, (pss_cons (ps_if (pt_not (pt_val (pe_c c_is_text_of hr (by decide) (by rfl) (pa_cons (pv 0) (pa_cons (pe_gc (by rfl) gs.FIGURES) (pa_cons (pe_callB call_len (by rfl) m.len (by decide +kernel) (pa_cons (pv 0) pa_nil)) pa_nil))))))
  (pss_one (ps_ret pe_non))
  pss_nil)
  (pss_cons (ps_if (PW.pt (pw_and (pt_val (pe_bm PySem.F.plainAttrs_str PySem.F.slot_str_startswith PySem.F.type_str_startswith mt_startswith (pv 0) (pa_cons pe_str pa_nil))) (pw_and1 (pt_cmpR op_ne (pv 0) pe_str (nomark _)))))
  (pss_one (ps_ret pe_non))
  pss_nil)
  (pss_cons (ps_set (i := 1) sc.nd rfl (.inl rfl) pe_int)
  (pss_cons (ps_for PassesOwn.never rfl (pi_str (pv 0)) (pg_name (i := 2) sc.nd rfl (.inl rfl))
  (pss_one (ps_set (i := 1) sc.nd rfl (.inl rfl) (pe_op op_add (pe_op op_mul (pv 1) pe_int) (pe_bm PySem.F.plainAttrs_str PySem.F.slot_str_index PySem.F.type_str_index mt_sindex (pe_gc (by rfl) gs.FIGURES) (pa_cons (pv 2) pa_nil))))))
  (pss_one (ps_ret (pv 1))))))), ?_⟩
    have nl := num_len hn
    refine ifNo (SayT.of (SayT.not (a := true) (Say.tB fun Q q => ?_)) rfl) fun H1 s1 => ?_
    · refine ⟨_, rfl, _, rfl, _, _, rfl, ⟨Nat.le_of_lt (small1000 (by omega)), rfl⟩, f, _, .str (num n), _, _, rfl, .str _ (by omega), fun H1 s1 => ?_⟩
      rw [num_txt]
      exact q _ s1
    refine ifNo (SayT.of (SayT.and (a := Txt.startswith (num n) "0") (b := !decide (V.str (num n) = V.str "0")) (Say.tB fun Q q => ?_) fun _ H2 s2 => Say.tTest fun Q q => ?_) (num_starts n)) fun H2 s2 => ?_
    · exact ⟨_, rfl, rfl, _, _, rfl, rfl, q _ (Same.refl _)⟩
    · exact ⟨_, rfl, rfl, q _ (Same.refl _)⟩
    refine ⟨_, rfl, _, rfl, ?_⟩
    refine for_it walk_str (fun j σ H' => ∃ y2, σ = [some (.str (num n)), some (.int (numTo n j)), y2] ∧ Same H H') ⟨_, rfl, s1.trans s2⟩ (fun _ _ _ _ _ => trivial) (fun j x σ H3 H4 hj hp hy => ?_) (fun σ H3 hp => ?_)
    · obtain ⟨rfl, c, ec, rfl⟩ := hy
      obtain ⟨y2, rfl, s3⟩ := hp
      have ec2 : (TL.numL n)[j]? = some c := by rw [← num_tl, Array.getElem?_toList]; exact ec
      have hc := TL.numL_digits n c (List.mem_of_getElem? ec2)
      obtain ⟨k, rfl⟩ : ∃ k, c = 48 + k := ⟨c - 48, by omega⟩
      refine ⟨_, rfl, _, _, rfl, rfl, .inr ⟨by decide, by decide⟩, rfl, _, rfl, _, _, k, [], rfl, rfl, fig_at k (by omega), _, _, rfl, rfl, some (.str ⟨#[48 + k]⟩), ?_, s3⟩
      rw [numTo_succ ec2]
      have : ((48 + k : Nat) : Int) - 48 = (k : Nat) := by omega
      rw [this]
      rfl
    · obtain ⟨y2, rfl, s3⟩ := hp
      rw [numTo_all (by rw [← num_tl]; exact Nat.le_refl _)]
      exact ⟨_, rfl, q _ s3⟩
theorem sc_pair_of : FnScope ["name", "word"] ["name", "word"] (defScope (topS 25)) := ⟨rfl, rfl, rfl, by decide +kernel, rfl, by decide +kernel, by decide +kernel⟩
theorem ok_pair_of (D : DefAt K mg "pair_of" (topS 25)) (c_number_of : Cal P w K mg base 2 "number_of" spNum []) : Cal P w K mg base 3 "pair_of" spPairOf [] := by
  have sc := sc_pair_of
  refine mkCal D (fun _ _ _ _ _ _ us hl => match us, hl with | [_, _], _ => rfl) sc (fun vs H Q E h => ?_) (fun f cdv A outer s H vs Q E hr h => ?_)
  · obtain ⟨z, n, rfl, _⟩ := h
    rfl
  · obtain ⟨z, n, rfl, hn, q⟩ := h
    refine ⟨_, (pss_one (ps_ret (pe_tup (pa_cons (pv 0) (pa_cons (pe_c c_number_of hr (by decide) (by rfl) (pa_cons (pv 1) pa_nil)) pa_nil))))), ?_⟩
    exact ⟨_, rfl, _, rfl, n, rfl, hn, fun H1 s1 => ⟨(by show 2 ≤ sizeLine; decide), fun a na => q _ a (new_of s1 na) (s1.trans (same_new na)) upd_same⟩⟩
theorem sc_told_by : FnScope ["words", "kind", "many"] ["words"] (defScope (topS 26)) := ⟨rfl, rfl, rfl, by decide +kernel, rfl, by decide +kernel, by decide +kernel⟩
theorem ok_told_by (D : DefAt K mg "told_by" (topS 26)) (m : Mg mg) (c_number_of : Cal P w K mg base 2 "number_of" spNum []) (c_pair_of : Cal P w K mg base 3 "pair_of" spPairOf []) : Cal P w K mg base 4 "told_by" spTold [] := by
  have sc := sc_told_by
  refine mkCal D (fun _ _ _ _ _ _ us hl => match us, hl with | [_], _ => rfl) sc (fun vs H Q E h => ?_) (fun f cdv A outer s H vs Q E hr h => ?_)
  · obtain ⟨p, c, t, rfl, _⟩ := h
    rfl
  · obtain ⟨p, c, t, rfl, hp, ec, hg, q⟩ := h
    refine ⟨_, (pss_cons (ps_par (by rfl) (i := 1) (j := 2) sc.nd rfl rfl (by decide) rfl rfl (pa_cons (pe_ix ix_list (pv 0) pe_int (fun _ _ => rfl)) (pa_cons (pe_callB call_len (by rfl) m.len (by decide +kernel) (pa_cons (pv 0) pa_nil)) pa_nil)) (by rfl))
  (pss_cons (ps_if (PW.pt (pw_and (pt_cmpR op_eq (pv 1) pe_str (nomark _)) (pw_and1 (pt_cmpR op_eq (pv 2) pe_int (nomark _)))))
  (pss_one (ps_ret (pe_tup (pa_cons (pv 1) (pa_cons (pe_ix ix_list (pv 0) pe_int (fun _ _ => rfl)) (pa_cons (pe_ix ix_list (pv 0) pe_int (fun _ _ => rfl)) (pa_cons (pe_ix ix_list (pv 0) pe_int (fun _ _ => rfl)) (pa_cons (pe_c c_pair_of hr (by decide) (by rfl) (pa_cons (pe_ix ix_list (pv 0) pe_int (fun _ _ => rfl)) (pa_cons (pe_ix ix_list (pv 0) pe_int (fun _ _ => rfl)) pa_nil))) pa_nil))))))))
  pss_nil)
  (pss_cons (ps_if (PW.pt (pw_and (pt_cmpR op_eq (pv 1) pe_str (nomark _)) (pw_and1 (pt_cmpR op_eq (pv 2) pe_int (nomark _)))))
  (pss_one (ps_ret (pe_tup (pa_cons (pv 1) (pa_cons (pe_ix ix_list (pv 0) pe_int (fun _ _ => rfl)) (pa_cons (pe_ix ix_list (pv 0) pe_int (fun _ _ => rfl)) (pa_cons (pe_c c_pair_of hr (by decide) (by rfl) (pa_cons (pe_ix ix_list (pv 0) pe_int (fun _ _ => rfl)) (pa_cons (pe_ix ix_list (pv 0) pe_int (fun _ _ => rfl)) pa_nil))) (pa_cons (pe_c c_pair_of hr (by decide) (by rfl) (pa_cons (pe_ix ix_list (pv 0) pe_int (fun _ _ => rfl)) (pa_cons (pe_ix ix_list (pv 0) pe_int (fun _ _ => rfl)) pa_nil))) pa_nil))))))))
  pss_nil)
  (pss_cons (ps_if (PW.pt (pw_and (pt_cmpR op_eq (pv 1) pe_str (nomark _)) (pw_and1 (pt_cmpR op_ge (pv 2) pe_int (nomark _)))))
  (pss_one (ps_ret (pe_tup (pa_cons (pv 1) (pa_cons (pe_ix ix_list (pv 0) pe_int (fun _ _ => rfl)) (pa_cons (pe_c c_number_of hr (by decide) (by rfl) (pa_cons (pe_ix ix_list (pv 0) pe_int (fun _ _ => rfl)) pa_nil)) (pa_cons (pe_callTy call_tuple_of (by rfl) m.tuple (by decide +kernel) (pa_cons (pe_slice sl_list (pv 0) (po_some pe_int) po_none) pa_nil)) pa_nil)))))))
  pss_nil)
  (pss_one (ps_ret (pe_callTy call_tuple_of (by rfl) m.tuple (by decide +kernel) (pa_cons (pv 0) pa_nil)))))))), ?_⟩
    have mw := hg.many
    have wl : ∀ z ∈ t.words, z.length ≤ 1000 := fun z hz => Nat.le_trans (hg.word z hz).2 (by decide)
    have sm : Same H H := Same.refl H
    cases t with
    | letter a b w =>
      refine ⟨_, rfl, c, _, _, _, rfl, rfl, SqL.of ec, rfl, _, rfl, _, _, rfl, .inl ⟨_, SqL.of ec, rfl⟩, _, _, rfl, ?_⟩
      refine ifNo (SayT.of (sayKind rfl rfl) (by rw [decide_eq_false (by decide +kernel), Bool.false_and])) fun H1 s1 => ?_
      have ec := s1 _ _ ec
      have sm := sm.trans s1
      refine ifNo (SayT.of (sayKind rfl rfl) (by rw [decide_eq_false (by decide +kernel), Bool.false_and])) fun H1 s1 => ?_
      have ec := s1 _ _ ec
      have sm := sm.trans s1
      refine ifNo (SayT.of (sayKindG rfl rfl) (by rw [decide_eq_false (by decide +kernel), Bool.false_and])) fun H1 s1 => ?_
      have ec := s1 _ _ ec
      have sm := sm.trans s1
      refine ⟨_, rfl, c, _, rfl, .inl ⟨SqL.of ec, fun a na => ?_⟩⟩
      exact q _ _ (sm.trans (same_new na)) (.tup (ne_p hp sm na) (by show 4 ≤ 1000; decide) upd_same (DtAll.strs wl))
    | echo a b so m2 n =>
      obtain ⟨h1, h2, h3, h4, h5⟩ := hg
      refine ⟨_, rfl, c, _, _, _, rfl, rfl, SqL.of ec, rfl, _, rfl, _, _, rfl, .inl ⟨_, SqL.of ec, rfl⟩, _, _, rfl, ?_⟩
      refine ifYes (SayT.of (sayKind rfl rfl) (by rw [decide_eq_true rfl, Bool.true_and]; exact decide_eq_true (by first | rfl | omega))) fun H1 s1 => ?_
      have ec := s1 _ _ ec
      have sm := sm.trans s1
      refine ⟨_, rfl, _, rfl, c, _, _, _, rfl, rfl, SqL.of ec, rfl, _, rfl, c, _, _, _, rfl, rfl, SqL.of ec, rfl, _, rfl, c, _, _, _, rfl, rfl, SqL.of ec, rfl, _, rfl, c, _, _, _, rfl, rfl, SqL.of ec, rfl, _, rfl, c, _, _, _, rfl, rfl, SqL.of ec, rfl, _, n, rfl, h5, fun H2 d nd s2 ed => ?_⟩
      refine ⟨(by show 5 ≤ sizeLine; decide), fun e ne => ?_⟩
      have sm2 := sm.trans s2
      have s3 := same_new (o := .tup [.str "echo", .str a, .str b, .str so, .ref d]) ne
      refine q _ _ (sm2.trans s3) (.tup (ne_p hp sm2 ne) (by show 5 ≤ 1000; decide) upd_same ?_)
      refine .cons (.str _ (wl _ (by simp [Th.words]))) (.cons (.str _ (wl _ (by simp [Th.words]))) (.cons (.str _ (wl _ (by simp [Th.words]))) (.cons (.str _ (wl _ (by simp [Th.words]))) (.cons (.tup (ne_p hp sm nd) (by show 2 ≤ 1000; decide) (s3 _ _ ed) (.cons (.str _ (wl _ (by simp [Th.words]))) (.cons (.int _) .nil))) .nil))))
    | answer a so m2 n g k =>
      obtain ⟨h1, h2, h3, h4, h5, h6, h7⟩ := hg
      refine ⟨_, rfl, c, _, _, _, rfl, rfl, SqL.of ec, rfl, _, rfl, _, _, rfl, .inl ⟨_, SqL.of ec, rfl⟩, _, _, rfl, ?_⟩
      refine ifNo (SayT.of (sayKind rfl rfl) (by rw [decide_eq_false (by decide +kernel), Bool.false_and])) fun H1 s1 => ?_
      have ec := s1 _ _ ec
      have sm := sm.trans s1
      refine ifYes (SayT.of (sayKind rfl rfl) (by rw [decide_eq_true rfl, Bool.true_and]; exact decide_eq_true (by first | rfl | omega))) fun H1 s1 => ?_
      have ec := s1 _ _ ec
      have sm := sm.trans s1
      refine ⟨_, rfl, _, rfl, c, _, _, _, rfl, rfl, SqL.of ec, rfl, _, rfl, c, _, _, _, rfl, rfl, SqL.of ec, rfl, _, rfl, c, _, _, _, rfl, rfl, SqL.of ec, rfl, _, rfl, c, _, _, _, rfl, rfl, SqL.of ec, rfl, _, n, rfl, h4, fun H2 d nd s2 ed => ?_⟩
      have ec := s2 _ _ ec
      have sm2 := sm.trans s2
      refine ⟨_, rfl, c, _, _, _, rfl, rfl, SqL.of ec, rfl, _, rfl, c, _, _, _, rfl, rfl, SqL.of ec, rfl, _, k, rfl, h7, fun H3 d2 nd2 s3 ed2 => ?_⟩
      refine ⟨(by show 5 ≤ sizeLine; decide), fun e ne => ?_⟩
      have sm3 := sm2.trans s3
      have s4 := same_new (o := .tup [.str "answer", .str a, .str so, .ref d, .ref d2]) ne
      refine q _ _ (sm3.trans s4) (.tup (ne_p hp sm3 ne) (by show 5 ≤ 1000; decide) upd_same ?_)
      refine .cons (.str _ (wl _ (by simp [Th.words]))) (.cons (.str _ (wl _ (by simp [Th.words]))) (.cons (.str _ (wl _ (by simp [Th.words]))) (.cons (.tup (ne_p hp sm nd) (by show 2 ≤ 1000; decide) (s4 _ _ (s3 _ _ ed)) (.cons (.str _ (wl _ (by simp [Th.words]))) (.cons (.int _) .nil))) (.cons (.tup (ne_p hp sm2 nd2) (by show 2 ≤ 1000; decide) (s4 _ _ ed2) (.cons (.str _ (wl _ (by simp [Th.words]))) (.cons (.int _) .nil))) .nil))))
    | goer a n zs =>
      obtain ⟨h1, h2, h3, h4, h5, h6⟩ := hg
      refine ⟨_, rfl, c, _, _, _, rfl, rfl, SqL.of ec, atI_nat (j := 0) rfl, _, rfl, _, _, rfl, .inl ⟨_, SqL.of ec, rfl⟩, _, _, rfl, ?_⟩
      have ml : 3 ≤ (((Th.goer a n zs).words.map V.str).length : Int) := by rw [List.length_map]; omega
      refine ifNo (SayT.of (sayKind rfl rfl) (by rw [decide_eq_false (by decide +kernel), Bool.false_and])) fun H1 s1 => ?_
      have ec := s1 _ _ ec
      have sm := sm.trans s1
      refine ifNo (SayT.of (sayKind rfl rfl) (by rw [decide_eq_false (by decide +kernel), Bool.false_and])) fun H1 s1 => ?_
      have ec := s1 _ _ ec
      have sm := sm.trans s1
      refine ifYes (SayT.of (sayKindG rfl rfl) (by rw [decide_eq_true rfl, Bool.true_and]; exact decide_eq_true (by first | rfl | omega))) fun H1 s1 => ?_
      have ec := s1 _ _ ec
      have sm := sm.trans s1
      refine ⟨_, rfl, _, rfl, c, _, _, _, rfl, rfl, SqL.of ec, atI_nat (j := 1) rfl, _, rfl, c, _, _, _, rfl, rfl, SqL.of ec, atI_nat (j := 2) rfl, n, rfl, h3, fun H2 s2 => ?_⟩
      have ec := s2 _ _ ec
      have sm2 := sm.trans s2
      refine ⟨_, rfl, 3, rfl, c, _, rfl, SqL.of ec, fun b nb => ?_⟩
      have e3 : cutV ((Th.goer a n zs).words.map V.str) (some 3) none = zs.map V.str := cut_from _ 3
      have s3 := same_new (o := .lst (cutV ((Th.goer a n zs).words.map V.str) (some 3) none)) nb
      refine ⟨b, _, rfl, .inl ⟨SqL.of upd_same, fun d nd => ?_⟩⟩
      have s4 := same_new (o := .tup (cutV ((Th.goer a n zs).words.map V.str) (some 3) none)) nd
      refine ⟨(by show 4 ≤ sizeLine; decide), fun e ne => ?_⟩
      have sm3 := (sm2.trans s3).trans s4
      have s5 := same_new (o := .tup [.str "goer", .str a, .int n, .ref d]) ne
      refine q _ _ (sm3.trans s5) (.tup (ne_p hp sm3 ne) (by show 4 ≤ 1000; decide) upd_same ?_)
      refine .cons (.str _ (wl _ (by simp [Th.words]))) (.cons (.str _ (wl _ (by simp [Th.words]))) (.cons (.int _) (.cons (.tup (ne_p hp (sm2.trans s3) nd) ?_ (s5 _ _ upd_same) ?_) .nil)))
      · rw [e3, List.length_map]; omega
      · rw [e3]
        exact DtAll.names h4
theorem sc_thing_of : FnScope ["text", "thing"] ["text"] (defScope (topS 27)) := ⟨rfl, rfl, rfl, by decide +kernel, rfl, by decide +kernel, by decide +kernel⟩
theorem okF_thing_of (D : DefAt K mg "thing_of" (topS 27)) (m : Mg mg) (c_told_by : Cal P w K mg base 4 "told_by" spTold []) (c_is_thing : Cal P w K mg base 6 "is_thing" (spPred mThing) []) : CalF P w K mg base 7 "thing_of" (topS 27) ["text"] spThingOf := by
  have sc := sc_thing_of
  refine mkCalF D sc (fun vs H Q E h => ?_) (fun f cdv A outer s H vs Q E hr h => ?_)
  · obtain ⟨p, t, rfl, _⟩ := h
    rfl
  · obtain ⟨p, t, rfl, hp, hg, q⟩ := h
    refine ⟨_, (pss_cons (ps_if (pt_not (pt_val (pe_callB (call_isD (T := "str") (.inl rfl)) (by rfl) m.isinstance (by decide +kernel) (pa_cons (pv 0) (pa_cons (pe_bltn (v := .ty "str") (by rfl) m.str (by decide +kernel) rfl) pa_nil)))))
  (pss_one ps_never)
  pss_nil)
  (pss_cons (ps_set (i := 1) sc.nd rfl (.inl rfl) (pe_c c_told_by hr (by decide) (by rfl) (pa_cons (pe_split (pv 0) pe_str) pa_nil)))
  (pss_cons (ps_if (pt_not (pt_val (pe_c c_is_thing hr (by decide) (by rfl) (pa_cons (pv 1) pa_nil))))
  (pss_one ps_never)
  pss_nil)
  (pss_one (ps_ret (pv 1)))))), ?_⟩
    have tl : t.text.length ≤ 1000 := hg.len
    refine ifNo (SayT.of (SayT.not (Say.tB (say_isa (p := p) (giv_var rfl) (.str t.text tl)))) (by dsimp only [isa, kind]; decide +kernel)) fun H1 s1 => ?_
    refine ⟨_, rfl, ⟨_, rfl⟩, _, _, rfl, rfl, rfl, Nat.le_trans (Nat.add_le_add_right tl 2) (by decide), fun c nc => ?_⟩
    rw [hg.split]
    refine ⟨p, c, t, rfl, fun e => ?_, upd_same, hg, fun H2 v s2 hv => ?_⟩
    · cases e0 : H p with
      | none => exact hp e0
      | some o => rw [(s1.trans (same_new nc)) _ _ e0] at e; cases e
    have sm := (s1.trans (same_new nc)).trans s2
    refine ifNo (SayT.of (SayT.not (Say.tB (say_call (giv_var rfl) hv))) (by rw [hg.thing]; rfl)) fun H3 s3 => ?_
    exact ⟨_, rfl, q _ _ (sm.trans s3) (hv.same s3)⟩
theorem ok_thing_of (D : DefAt K mg "thing_of" (topS 27)) (m : Mg mg) (c_told_by : Cal P w K mg base 4 "told_by" spTold []) (c_is_thing : Cal P w K mg base 6 "is_thing" (spPred mThing) []) : Cal P w K mg base 7 "thing_of" spThingOf [] := (okF_thing_of D m c_told_by c_is_thing).cal (fun _ _ _ _ _ _ us hl => match us, hl with | [_], _ => rfl)
theorem kw_thing_of (D : DefAt K mg "thing_of" (topS 27)) (m : Mg mg) (c_told_by : Cal P w K mg base 4 "told_by" spTold []) (c_is_thing : Cal P w K mg base 6 "is_thing" (spPred mThing) []) : CalK P w K mg base 7 "thing_of" spThingOf ["text"] (fun zs => zs) := (okF_thing_of D m c_told_by c_is_thing).kw (g := fun ws => ws) (fun _ _ _ _ _ _ us hl => match us, hl with | [_], _ => rfl) (fun r => r)
end
end Gj

namespace Gj
open PySem PySem.Spec PyProof.Rows L2
open C8 (Cal pe_c pe_gc)
section
variable {P : Program} {w : World} {K : PySem.W.Frag} {mg : Str → Option Value} {base : Heap}
theorem sc__law_name : FnScope ["_law_pot_here", "_law_used", "_law_letters", "_law_size", "_law_name_here", "_law_k", "_law_letter"] ["_law_pot_here", "_law_used"] (defScope (topS 31)) := ⟨rfl, rfl, rfl, by decide +kernel, rfl, by decide +kernel, by decide +kernel⟩
theorem ok__law_name (D : DefAt K mg "_law_name" (topS 31)) (m : Mg mg) (c__law_digit : Cal P w K mg base 1 "_law_digit" spDigit []) : Cal P w K mg base 2 "_law_name" spName [] := by
  have sc := sc__law_name
  refine mkCal D (fun _ _ _ _ _ _ us hl => match us, hl with | [_, _], _ => rfl) sc (fun vs H Q E h => ?_) (fun f cdv A outer s H vs Q E hr h => ?_)
  · obtain ⟨p, u, us, rfl, _⟩ := h
    rfl
  · obtain ⟨p, u, us, rfl, hp, nu, eu, hus, hl, q⟩ := h
    refine ⟨_, (pss_cons (ps_set (i := 2) sc.nd rfl (.inr rfl) pe_str)
  (pss_cons (ps_set (i := 3) sc.nd rfl (.inl rfl) (pe_op op_add pe_int (pe_c c__law_digit hr (by decide) (by rfl) (pa_cons (pv 0) (pa_cons (pe_ix ix_list (pe_lst (pa_cons pe_int (pa_cons pe_int (pa_cons pe_int pa_nil)))) (pe_c c__law_digit hr (by decide) (by rfl) (pa_cons (pv 0) (pa_cons pe_int pa_nil))) (fun _ _ => rfl)) pa_nil)))))
  (pss_cons (ps_set (i := 4) sc.nd rfl (.inl rfl) (pe_join pe_str (pe_lc (own := [("_law_k", 5)]) (g := gName 5) (tt := tYes) rfl sc.nd (pi_range1 (by rfl) m.range (pa_cons (pv 3) pa_nil)) (blkOk_by (N := ["_law_pot_here", "_law_used", "_law_letters", "_law_size", "_law_name_here", "_law_k", "_law_letter"]) (sc := defScope (topS 31)) (by decide +kernel)) (fun _ _ _ _ _ => (pg_name (i := 5) sc.nd rfl (.inl rfl))) (fun _ _ _ _ _ => pts_nil) (fun _ _ _ _ _ => (pe_ix ix_str (pv 2) (pe_c c__law_digit hr (by decide) (by rfl) (pa_cons (pv 0) (pa_cons pe_int pa_nil))) (fun _ _ => rfl))))))
  (C8.pss_cut (ps_if (PW.pt (pw_and (pt_cmpR (op_neE hr.units) (pv 1) (pe_lst pa_nil) (nomark _)) (pw_and1 (pt_cmpR op_eq (pe_c c__law_digit hr (by decide) (by rfl) (pa_cons (pv 0) (pa_cons pe_int pa_nil))) pe_int (nomark _)))))
  (pss_one (ps_set (i := 4) sc.nd rfl (.inl rfl) (pe_slice C8.sl_txt (pe_op op_add_str (pe_ix ix_list (pv 1) (pe_un un_neg pe_int) (fun _ _ => rfl)) (pv 4)) po_none (po_some pe_int))))
  pss_nil)
  (pss_cons (ps_if (pt_cmpR op_in_seq (pv 4) (pv 1) rfl)
  (pss_one (ps_set (i := 4) sc.nd rfl (.inl rfl) (pe_ix ix_list (pe_lc (own := [("_law_letter", 6)]) (g := gName 6) (tt := tTest (tOp (rIn K true) (tVar 6) (tVar 1))) rfl sc.nd (pi_str (pv 2)) (blkOk_by (N := ["_law_pot_here", "_law_used", "_law_letters", "_law_size", "_law_name_here", "_law_k", "_law_letter"]) (sc := defScope (topS 31)) (by decide +kernel)) (fun _ _ _ _ _ => (pg_name (i := 6) sc.nd rfl (.inl rfl))) (fun _ _ _ _ _ => (pts_one (pt_cmpR op_notIn_seq (pv 6) (pv 1) rfl))) (fun _ _ _ _ _ => (pv 6))) pe_int (fun _ _ => rfl))))
  pss_nil)
  (pss_one (ps_ret (pv 4)))))))), ?_⟩
    refine ⟨_, rfl, (by show 3 ≤ sizeLine; decide), fun L hL => ?_⟩
    refine ⟨_, rfl, p, _, rfl, hp.new hL, by decide, by decide, fun e H1 e0 e1 r1 => ?_⟩
    obtain ⟨x, hxm, hx⟩ := at_some (xs := [V.int 1, .int 3, .int 8]) e0 e1
    obtain ⟨n, rfl, hn⟩ : ∃ n : Int, x = .int n ∧ (n = 1 ∨ n = 3 ∨ n = 8) := by
      simp only [List.mem_cons, List.not_mem_nil, or_false] at hxm
      rcases hxm with h | h | h
      · exact ⟨1, h, .inl rfl⟩
      · exact ⟨3, h, .inr (.inl rfl)⟩
      · exact ⟨8, h, .inr (.inr rfl)⟩
    have dr1 : Drawn p H H1 := ⟨(Keep.new hL).trans r1.keep, r1.pot⟩
    refine ⟨L, _, _, _, rfl, rfl, SqL.of (r1.keep _ _ (hp.ne hL) upd_same), hx, ?_⟩
    refine ⟨p, n, rfl, r1.pot, by omega, by rcases hn with h | h | h <;> subst h <;> decide, fun d H2 d0 d1 r2 => ?_⟩
    have dr2 := dr1.trans r2
    refine ⟨_, _, rfl, rfl, ?_⟩
    refine ⟨⟨_, rfl⟩, _, rfl, 1 + d, rfl, by omega, by omega, fun D hD => ?_⟩
    refine lc_range (Signs (fun c => c ∈ ltrs) p D H2) (Signs.start r2.pot hD) (fun i H4 hi hs => ?_) (fun H4 hs => ?_)
    · refine ⟨rfl, _, rfl, _, rfl, p, _, rfl, hs.pot, by decide, by decide, fun k H5 k0 k1 r5 => ?_⟩
      obtain ⟨c, hc, hx⟩ := at_some (xs := ltrs) k0 k1
      exact ⟨_, _, _, rfl, rfl, by decide, hx, hs.next hi (by omega) hD r5 hc⟩
    · obtain ⟨cs, ys, hcl, hcs, dr, eD, hz, ej⟩ := hs.join (by omega)
      refine ⟨_, D, ys, rfl, rfl, .inl (SqL.of eD), hz, ?_⟩
      rw [ej]
      have dr4 := dr2.trans dr
      have nm : NameS (SX.S cs) := ⟨cs, rfl, by omega, by omega, hcs⟩
      have eu4 : H4 u = some (.lst (us.map V.str)) := dr4.keep _ _ nu eu
      refine ⟨fun σ' H' => ∃ (z : Str) (s3 s5 s6 : Option V), σ' = [some (.ref p), some (.ref u), some (.str "abcdefghijklmnopqrstuvwxyz"), s3, some (.str z), s5, s6] ∧ NameS z ∧ Drawn p H H' ∧ H' u = some (.lst (us.map V.str)), ?_, ?_⟩
      rotate_left
      · rintro σ' H' ⟨z, s3, s5, s6, rfl, nz, dz, euz⟩
        refine ⟨_, rfl, _, rfl, u, us.map V.str, rfl, .inl (SqL.of euz), rfl, flat_strs us, _, rfl, ite2 (fun c => ?_) (fun c => ?_)⟩
        · refine ⟨_, rfl, _, rfl, fun D2 hD2 => ?_⟩
          have nD2 : D2 ≠ p := dz.pot.ne hD2
          refine lc_it walk_str (Pv := fun i H'' => Drawn p H H'' ∧ H'' u = some (.lst (us.map V.str)) ∧ H'' D2 = some (.lst (((ltrs.take i).filter fun c => decide (SX.S [c] ∉ us)).map fun c => V.str (SX.S [c])))) ⟨dz.new hD2, by rw [upd_ne (ne_of_none euz hD2)]; exact euz, upd_same⟩ (fun _ _ _ _ => trivial) (fun i x H1 H2 hi hp2 hy => ?_) (fun H1 hp2 => ?_)
          · obtain ⟨rfl, ch, ec, rfl⟩ := hy
            obtain ⟨d1, e1, e2⟩ := hp2
            have ec2 : ltrs[i]? = some ch := by rw [Array.getElem?_toList]; exact ec
            refine ⟨rfl, _, rfl, _, rfl, u, us.map V.str, rfl, .inl (SqL.of e1), rfl, flat_strs us, _, rfl, ?_⟩
            have ev : (if true = true then !inV (.str ⟨#[ch]⟩) (us.map V.str) else inV (.str ⟨#[ch]⟩) (us.map V.str)) = decide (SX.S [ch] ∉ us) := by
              rw [if_pos rfl, show (⟨#[ch]⟩ : Str) = SX.S [ch] from rfl, inV_strs]
              by_cases h : SX.S [ch] ∈ us
              · rw [decide_eq_true h, decide_eq_false (fun n => n h)]; rfl
              · rw [decide_eq_false h, decide_eq_true h]; rfl
            rw [ev]
            refine ite2 (fun c => ?_) (fun c => ?_)
            · refine ⟨_, rfl, _, e2, ?_, ⟨fun b o nb eb => ?_, ?_⟩, ?_, ?_⟩
              · rw [List.length_map]
                have l1 := List.length_filter_le (fun c => decide (SX.S [c] ∉ us)) (ltrs.take i)
                have l2 : (ltrs.take i).length ≤ 26 := by
                  rw [List.length_take]
                  exact Nat.le_trans (Nat.min_le_right _ _) (by decide +kernel)
                exact small1000 (by omega)
              · rw [upd_ne (ne_of_none (dz.keep _ _ nb eb) hD2)]
                exact d1.keep _ _ nb eb
              · obtain ⟨x1, x2, e3, z3⟩ := d1.pot
                exact ⟨x1, x2, by rw [upd_ne nD2.symm]; exact e3, z3⟩
              · rw [upd_ne (ne_of_none euz hD2)]; exact e1
              · rw [upd_same, take_snoc ec2, List.filter_append, List.map_append]
                have : [ch].filter (fun c => decide (SX.S [c] ∉ us)) = [ch] := by
                  rw [List.filter_cons, if_pos c]; rfl
                rw [this]; rfl
            · refine ⟨d1, e1, ?_⟩
              rw [e2, take_snoc ec2, List.filter_append]
              have : [ch].filter (fun c => decide (SX.S [c] ∉ us)) = [] := by
                rw [List.filter_cons, if_neg c]; rfl
              rw [this, List.append_nil]
          · obtain ⟨d1, e1, e2⟩ := hp2
            rw [show ltrs.take (PySem.Str.ofString "abcdefghijklmnopqrstuvwxyz").cps.size = ltrs from List.take_of_length_le (Nat.le_refl _)] at e2
            obtain ⟨c0, hc0, hn0⟩ := fresh_letter hl
            obtain ⟨c1, l1, e3⟩ : ∃ c1 l1, ltrs.filter (fun c => decide (SX.S [c] ∉ us)) = c1 :: l1 := by
              cases h : ltrs.filter (fun c => decide (SX.S [c] ∉ us)) with
              | nil =>
                have : c0 ∈ ltrs.filter (fun c => decide (SX.S [c] ∉ us)) := List.mem_filter.mpr ⟨hc0, decide_eq_true hn0⟩
                rw [h] at this; cases this
              | cons c1 l1 => exact ⟨c1, l1, rfl⟩
            have m1 : c1 ∈ ltrs.filter (fun c => decide (SX.S [c] ∉ us)) := by rw [e3]; exact List.mem_cons_self
            have m2 := List.mem_filter.mp m1
            rw [e3] at e2
            refine ⟨D2, _, 0, _, rfl, rfl, SqL.of e2, atI_nat (j := 0) rfl, ?_⟩
            exact ⟨_, rfl, q _ _ (name_one m2.1) (of_decide_eq_true m2.2) d1⟩
        · have c : z ∉ us := fun h => c (by rw [if_neg (by decide), inV_strs, decide_eq_true h])
          exact ⟨_, rfl, q _ _ nz c dz⟩
      refine ⟨_, rfl, (by show 0 ≤ sizeLine; decide), fun E0' hE => ?_⟩
      have eu5 : (upd H4 E0' (.lst [])) u = some (.lst (us.map V.str)) := by rw [upd_ne (ne_of_none eu4 hE)]; exact eu4
      have dr5 : Drawn p H (upd H4 E0' (.lst [])) := dr4.new hE
      refine ⟨u, E0', us.map V.str, rfl, rfl, .inl ⟨SqL.of eu5, SqL.of upd_same⟩, _, rfl, ite2 (fun c => ?_) (fun c => ?_)⟩
      · refine ⟨_, rfl, p, _, rfl, dr5.pot, by decide, by decide, fun g H6 g0 g1 r6 => ?_⟩
        have dr6 := dr5.trans r6
        have eu6 : H6 u = some (.lst (us.map V.str)) := dr6.keep _ _ nu eu
        refine ⟨rfl, _, rfl, ite2 (fun c2 => ?_) (fun c2 => ?_)⟩
        · obtain ⟨ini, z, e⟩ : ∃ ini z, us = ini ++ [z] := by
            cases us with
            | nil => exact absurd c (by simp)
            | cons y l => exact ⟨(y :: l).dropLast, (y :: l).getLast (by simp), (List.dropLast_concat_getLast _).symm⟩
          have gl : atI (us.map V.str) (-1) = some (.str z) := by
            rw [e, List.map_append]
            exact atI_last _ _
          obtain ⟨zs, rfl, hz1, hz2, hz3⟩ := (hus z (by rw [e]; exact List.mem_append_right _ List.mem_cons_self)).ex
          refine ⟨_, rfl, 1, rfl, u, _, -1, _, rfl, rfl, SqL.of eu6, gl, _, rfl, _, _, rfl, rfl, ?_, 8, rfl, _, rfl, ?_, ?_⟩
          · rw [SX.S_len, SX.S_len]
            exact Nat.le_of_lt (small1000 (by omega))
          · rw [SX.S_cat, SX.S_len, List.length_append]
            exact Nat.le_of_lt (small1000 (by omega))
          · rw [SX.S_cat, SX.slice_to (by decide)]
            have nm2 : NameS (SX.S ((zs ++ cs).take (8 : Int).toNat)) := ⟨_, rfl, by rw [List.length_take, List.length_append]; show 1 ≤ min 8 _; omega, by rw [List.length_take]; exact Nat.min_le_left _ _, fun c hc => by
              rcases List.mem_append.mp (List.mem_of_mem_take hc) with h | h
              · exact hz3 c h
              · exact hcs c h⟩
            exact ⟨_, _, _, _, rfl, nm2, dr6, eu6⟩
        · exact ⟨_, _, _, _, rfl, nm, dr6, eu6⟩
      · exact ⟨_, _, _, _, rfl, nm, dr5, eu5⟩
theorem sc__law_names : FnScope ["_law_pot_here", "_law_many", "_law_used", "_law_found", "_law_k"] ["_law_pot_here", "_law_many", "_law_used"] (defScope (topS 32)) := ⟨rfl, rfl, rfl, by decide +kernel, rfl, by decide +kernel, by decide +kernel⟩
theorem ok__law_names (D : DefAt K mg "_law_names" (topS 32)) (m : Mg mg) (c__law_name : Cal P w K mg base 2 "_law_name" spName []) : Cal P w K mg base 3 "_law_names" spNames [] := by
  have sc := sc__law_names
  refine mkCal D (fun _ _ _ _ _ _ us hl => match us, hl with | [_, _, _], _ => rfl) sc (fun vs H Q E h => ?_) (fun f cdv A outer s H vs Q E hr h => ?_)
  · obtain ⟨p, u, us, n, rfl, _⟩ := h
    rfl
  · obtain ⟨p, u, us, n, rfl, hp, nu, eu, hus, hl, q⟩ := h
    refine ⟨_, (pss_cons (ps_set (i := 3) sc.nd rfl (.inl rfl) (pe_lst pa_nil))
  (pss_cons (ps_for PassesOwn.never rfl (pi_range1 (by rfl) m.range (pa_cons (pv 1) pa_nil)) (pg_name (i := 4) sc.nd rfl (.inl rfl))
  (pss_one (ps_expr (pe_bm PySem.F.plainAttrs_list PySem.F.slot_list_append PySem.F.type_list_append mt_append (pv 3) (pa_cons (pe_c c__law_name hr (by decide) (by rfl) (pa_cons (pv 0) (pa_cons (pe_op op_cat (pv 2) (pv 3)) pa_nil))) pa_nil)))))
  (pss_one (ps_ret (pv 3))))), ?_⟩
    refine ⟨(by show 0 ≤ sizeLine; decide), fun F hF => ?_⟩
    have nF : F ≠ p := hp.ne hF
    refine ⟨_, rfl, (n : Int), rfl, by omega, by omega, ?_⟩
    refine for_range (n := n) (fun i σ H' => ∃ (zs : List Str) (y4 : Option V), σ = [some (.ref p), some (.int (n : Nat)), some (.ref u), some (.ref F), y4] ∧ zs.length = i ∧ (∀ z ∈ zs, NameS z) ∧ zs.Nodup ∧ (∀ z ∈ zs, z ∉ us) ∧ Drawn p H H' ∧ H' F = some (.lst (zs.map V.str)))
      ⟨[], _, rfl, rfl, (fun _ h => by cases h), List.nodup_nil, (fun _ h => by cases h), ⟨Keep.new hF, hp.new hF⟩, upd_same⟩ (fun i σ H1 hi hi2 => ?_) (fun σ H1 hi2 => ?_)
    · obtain ⟨zs, y4, rfl, hz, hzn, hnd, hdis, dr, eF⟩ := hi2
      have eu1 : H1 u = some (.lst (us.map V.str)) := dr.keep _ _ nu eu
      refine ⟨_, rfl, .inl ⟨rfl, _, SqL.of eF⟩, _, rfl, _, rfl, _, rfl, u, F, _, _, rfl, rfl, eu1, eF, ?_, fun g hg => ?_⟩
      · rw [List.length_map, List.length_map]
        exact Nat.le_of_lt (small1000 (by omega))
      · have eg : (upd H1 g (.lst (us.map V.str ++ zs.map V.str))) g = some (.lst ((us ++ zs).map V.str)) := by rw [upd_same, List.map_append]
        refine ⟨p, g, us ++ zs, rfl, dr.pot.new hg, dr.pot.ne hg, eg, ?_, by rw [List.length_append]; omega, fun z H2 hzN hzU r2 => ?_⟩
        · intro z h
          rcases List.mem_append.mp h with h | h
          · exact hus z h
          · exact hzn z h
        · have dr2 : Drawn p H H2 := (dr.new hg).trans r2
          have eF2 : H2 F = some (.lst (zs.map V.str)) := r2.keep _ _ nF (by rw [upd_ne (ne_of_none eF hg)]; exact eF)
          refine ⟨F, _, _, rfl, rfl, eF2, ?_, zs ++ [z], _, rfl, ?_, ?_, ?_, ?_, ⟨fun b o nb eb => ?_, ?_⟩, ?_⟩
          · rw [List.length_map]
            exact small1000 (by omega)
          · rw [List.length_append, hz]; rfl
          · intro x h
            rcases List.mem_append.mp h with h | h
            · exact hzn x h
            · rw [List.mem_singleton.mp h]; exact hzN
          · refine List.nodup_append.mpr ⟨hnd, List.nodup_cons.mpr ⟨List.not_mem_nil, List.nodup_nil⟩, fun a ha b hb e => ?_⟩
            rw [List.mem_singleton.mp hb] at e
            exact hzU (List.mem_append_right _ (e ▸ ha))
          · intro x h
            rcases List.mem_append.mp h with h | h
            · exact hdis x h
            · rw [List.mem_singleton.mp h]; exact fun k => hzU (List.mem_append_left _ k)
          · rw [upd_ne (ne_of_none eb hF)]
            exact dr2.keep _ _ nb eb
          · obtain ⟨x1, x2, e3, z3⟩ := dr2.pot
            exact ⟨x1, x2, by rw [upd_ne nF.symm]; exact e3, z3⟩
          · rw [upd_same, List.map_append]; rfl
    · obtain ⟨zs, y4, rfl, hz, hzn, hnd, hdis, dr, eF⟩ := hi2
      exact ⟨_, rfl, q F zs H1 hF nF hz hzn hnd hdis dr eF⟩
theorem sc__law_word : FnScope ["_law_pot_here", "_law_signs", "_law_k"] ["_law_pot_here"] (defScope (topS 33)) := ⟨rfl, rfl, rfl, by decide +kernel, rfl, by decide +kernel, by decide +kernel⟩
theorem ok__law_word (D : DefAt K mg "_law_word" (topS 33)) (m : Mg mg) (c__law_digit : Cal P w K mg base 1 "_law_digit" spDigit []) : Cal P w K mg base 2 "_law_word" spWord [] := by
  have sc := sc__law_word
  refine mkCal D (fun _ _ _ _ _ _ us hl => match us, hl with | [_], _ => rfl) sc (fun vs H Q E h => ?_) (fun f cdv A outer s H vs Q E hr h => ?_)
  · obtain ⟨p, rfl, _⟩ := h
    rfl
  · obtain ⟨p, rfl, hp, q⟩ := h
    refine ⟨_, (pss_cons (ps_set (i := 1) sc.nd rfl (.inr rfl) pe_str)
  (pss_one (ps_ret (pe_join pe_str (pe_lc (own := [("_law_k", 2)]) (g := gName 2) (tt := tYes) rfl sc.nd (pi_range1 (by rfl) m.range (pa_cons (pe_op op_add pe_int (pe_c c__law_digit hr (by decide) (by rfl) (pa_cons (pv 0) (pa_cons (pe_ix ix_list (pe_lst (pa_cons pe_int (pa_cons pe_int (pa_cons pe_int pa_nil)))) (pe_c c__law_digit hr (by decide) (by rfl) (pa_cons (pv 0) (pa_cons pe_int pa_nil))) (fun _ _ => rfl)) pa_nil)))) pa_nil)) (blkOk_by (N := ["_law_pot_here", "_law_signs", "_law_k"]) (sc := defScope (topS 33)) (by decide +kernel)) (fun _ _ _ _ _ => (pg_name (i := 2) sc.nd rfl (.inl rfl))) (fun _ _ _ _ _ => pts_nil) (fun _ _ _ _ _ => (pe_ix ix_str (pv 1) (pe_c c__law_digit hr (by decide) (by rfl) (pa_cons (pv 0) (pa_cons pe_int pa_nil))) (fun _ _ => rfl)))))))), ?_⟩
    refine ⟨⟨_, rfl⟩, _, rfl, (by show 3 ≤ sizeLine; decide), fun L hL => ?_⟩
    refine ⟨_, rfl, p, _, rfl, hp.new hL, by decide, by decide, fun e H1 e0 e1 r1 => ?_⟩
    obtain ⟨x, hxm, hx⟩ := at_some (xs := [V.int 1, .int 4, .int 12]) e0 e1
    obtain ⟨n, rfl, hn⟩ : ∃ n : Int, x = .int n ∧ (n = 1 ∨ n = 4 ∨ n = 12) := by
      simp only [List.mem_cons, List.not_mem_nil, or_false] at hxm
      rcases hxm with h | h | h
      · exact ⟨1, h, .inl rfl⟩
      · exact ⟨4, h, .inr (.inl rfl)⟩
      · exact ⟨12, h, .inr (.inr rfl)⟩
    have dr1 : Drawn p H H1 := ⟨(Keep.new hL).trans r1.keep, r1.pot⟩
    refine ⟨L, _, _, _, rfl, rfl, SqL.of (r1.keep _ _ (hp.ne hL) upd_same), hx, ?_⟩
    refine ⟨p, n, rfl, r1.pot, by omega, by rcases hn with h | h | h <;> subst h <;> decide, fun d H2 d0 d1 r2 => ?_⟩
    have dr2 := dr1.trans r2
    refine ⟨_, _, rfl, rfl, 1 + d, rfl, by omega, by omega, fun D hD => ?_⟩
    refine lc_range (Signs (fun c => c ∈ wrds) p D H2) (Signs.start r2.pot hD) (fun i H4 hi hs => ?_) (fun H4 hs => ?_)
    · refine ⟨rfl, _, rfl, _, rfl, p, _, rfl, hs.pot, by decide, by decide, fun k H5 k0 k1 r5 => ?_⟩
      obtain ⟨c, hc, hx⟩ := at_some (xs := wrds) k0 k1
      exact ⟨_, _, _, rfl, rfl, by decide, hx, hs.next hi (by omega) hD r5 hc⟩
    · obtain ⟨cs, ys, hcl, hcs, dr, eD, hz, ej⟩ := hs.join (by omega)
      refine ⟨_, D, ys, rfl, rfl, .inl (SqL.of eD), hz, ?_⟩
      rw [ej]
      exact q _ _ ⟨cs, rfl, by omega, by omega, hcs⟩ (dr2.trans dr)
theorem sc__law_whole : FnScope ["_law_pot_here", "_law_least"] ["_law_pot_here", "_law_least"] (defScope (topS 34)) := ⟨rfl, rfl, rfl, by decide +kernel, rfl, by decide +kernel, by decide +kernel⟩
theorem ok__law_whole (D : DefAt K mg "_law_whole" (topS 34)) (c__law_digit : Cal P w K mg base 1 "_law_digit" spDigit []) : Cal P w K mg base 2 "_law_whole" spWhole [] := by
  have sc := sc__law_whole
  refine mkCal D (fun _ _ _ _ _ _ us hl => match us, hl with | [_, _], _ => rfl) sc (fun vs H Q E h => ?_) (fun f cdv A outer s H vs Q E hr h => ?_)
  · obtain ⟨p, n, rfl, _⟩ := h
    rfl
  · obtain ⟨p, n, rfl, hp, q⟩ := h
    refine ⟨_, (pss_one (ps_ret (pe_op op_add (pv 1) (pe_ix ix_list (pe_lst (pa_cons pe_int (pa_cons (pe_c c__law_digit hr (by decide) (by rfl) (pa_cons (pv 0) (pa_cons pe_int pa_nil))) (pa_cons (pe_c c__law_digit hr (by decide) (by rfl) (pa_cons (pv 0) (pa_cons (pe_op op_sub (pe_op op_pow pe_int pe_int) pe_int) pa_nil))) pa_nil)))) (pe_c c__law_digit hr (by decide) (by rfl) (pa_cons (pv 0) (pa_cons pe_int pa_nil))) (fun _ _ => rfl))))), ?_⟩
    refine ⟨_, rfl, _, rfl, p, _, rfl, hp, by decide, by decide, fun a H1 a0 a1 r1 => ?_⟩
    refine ⟨_, rfl, _, _, rfl, rfl, ⟨by decide, by decide, by decide⟩, _, _, rfl, rfl, p, _, rfl, r1.pot, by decide, by decide, fun b H2 b0 b1 r2 => ?_⟩
    have b1 : b < 10 ^ 30 - 9 := b1
    refine ⟨(by show 3 ≤ sizeLine; decide), fun L hL => ?_⟩
    refine ⟨_, rfl, p, _, rfl, r2.pot.new hL, by decide, by decide, fun e H3 e0 e1 r3 => ?_⟩
    obtain ⟨x, hxm, hx⟩ := at_some (xs := [V.int 0, .int a, .int b]) e0 e1
    obtain ⟨i, rfl, i0, i1⟩ : ∃ i : Int, x = .int i ∧ 0 ≤ i ∧ i < 10 ^ 30 := by
      simp only [List.mem_cons, List.not_mem_nil, or_false] at hxm
      rcases hxm with h | h | h
      · exact ⟨0, h, by decide, by decide⟩
      · exact ⟨a, h, a0, by omega⟩
      · exact ⟨b, h, b0, by omega⟩
    have dr : Drawn p H H3 := ((r1.trans r2).new hL).trans r3
    exact ⟨L, _, _, _, rfl, rfl, SqL.of (r3.keep _ _ (r2.pot.ne hL) upd_same), hx, _, _, rfl, rfl, q _ _ (by omega) (by omega) dr⟩
end
end Gj

/-! own layer: expressions that lay data of a kind -/
namespace Gj
open PySem PySem.Spec PyProof.Rows L2
open C8 (Cal pe_c pe_gc)
/-- it lays a datum that is P -/
def LayP (te : TE) (p : Addr) (σ : L2.St) (H : Hp) (P : PyData → Prop) : Prop := ∀ Q : VK, (∀ (H' : Hp) (v : V) (d : PyData), Drawn p H H' → Dt p H' v d → P d → Q v H') → te σ H Q
def Fits : List (PyData → Prop) → List PyData → Prop
  | [], [] => True
  | P :: Ps, d :: ds => P d ∧ Fits Ps ds
  | _, _ => False
theorem Fits.len : ∀ {Ps : List (PyData → Prop)} {ds : List PyData}, Fits Ps ds → ds.length = Ps.length
  | [], [], _ => rfl
  | P :: Ps, d :: ds, h => by rw [List.length_cons, List.length_cons, Fits.len h.2]
  | [], _ :: _, h => h.elim
  | _ :: _, [], h => h.elim
theorem Fits.all {P : PyData → Prop} : ∀ {Ps : List (PyData → Prop)} {ds : List PyData}, Fits Ps ds → (∀ R ∈ Ps, ∀ d, R d → P d) → ∀ d ∈ ds, P d
  | [], [], _, _, d, hd => by cases hd
  | R :: Ps, e :: ds, h, hP, d, hd => by
    rcases List.mem_cons.mp hd with rfl | hd
    · exact hP R List.mem_cons_self _ h.1
    · exact Fits.all h.2 (fun S hS => hP S (List.mem_cons_of_mem _ hS)) d hd
  | [], _ :: _, h, _, _, _ => h.elim
  | _ :: _, [], h, _, _, _ => h.elim
def LaysP (ta : TA) (p : Addr) (σ : L2.St) (H : Hp) (Ps : List (PyData → Prop)) : Prop := ∀ Q : List V → Hp → Prop, (∀ (H' : Hp) (vs : List V) (ds : List PyData), Drawn p H H' → DtAll p H' vs ds → Fits Ps ds → Q vs H') → ta σ H Q
/-! kinds -/
def isNm (d : PyData) : Prop := ∃ z, NameS z ∧ d = .str z
def isWd (d : PyData) : Prop := ∃ z, WordS z ∧ d = .str z
def isSo (d : PyData) : Prop := ∃ z, z ∈ sorts ∧ d = .str z
def isNo (k : Nat) (d : PyData) : Prop := ∃ n : Nat, k ≤ n ∧ NumOk n ∧ d = .int (n : Int)
def isSh (d : PyData) : Prop := ∃ zs : List Str, (∀ z ∈ zs, NameS z) ∧ zs.Nodup ∧ zs.length ≤ 9 ∧ d = .tuple (zs.map .str)
def isTu (Ps : List (PyData → Prop)) (d : PyData) : Prop := ∃ ds, Fits Ps ds ∧ d = .tuple ds
section
variable {p : Addr} {σ : L2.St} {H : Hp} {te tb tp tn : TE} {ta : TA} {n : Nat} {v : V} {d : PyData} {K : PySem.W.Frag} {E : XK} {P P2 : PyData → Prop} {Ps : List (PyData → Prop)} {z : Str}
theorem LayP.mono (h : LayP te p σ H P) (i : ∀ d, P d → P2 d) : LayP te p σ H P2 := fun Q q => h _ fun H' v d r hd hp => q H' v d r hd (i d hp)
theorem LayP.of (h : Giv te σ H v) (hp : Pot H p) (hd : Dt p H v d) (hP : P d) : LayP te p σ H P := fun Q q => h _ (q H v d (Drawn.refl hp) hd hP)
theorem LayP.str (hp : Pot H p) (hz : z.length ≤ 1000) (hP : P (.str z)) : LayP (tC (.str z)) p σ H P := LayP.of giv_c hp (.str z hz) hP
theorem LayP.int {i : Int} (hp : Pot H p) (hP : P (.int i)) : LayP (tC (.int i)) p σ H P := LayP.of giv_c hp (.int i) hP
theorem LayP.nameV (h : Giv te σ H (.str z)) (hp : Pot H p) (hz : NameS z) : LayP te p σ H isNm := LayP.of h hp (.str z hz.small) ⟨z, hz, rfl⟩
theorem LayP.word (hp : Giv tp σ H (.ref p)) (hq : Pot H p) : LayP (tCall spWord [] E (tCons tp tNil)) p σ H isWd := fun Q q => hp _ ⟨p, rfl, hq, fun z H' hz r => q H' _ (.str z) r (.str z hz.small) ⟨z, hz, rfl⟩⟩
theorem LayP.name (hp : Giv tp σ H (.ref p)) (hq : Pot H p) : LayP (tCall spName [] E (tCons tp (tCons (tLst tNil) tNil))) p σ H isNm := fun Q q => hp _ ⟨(by show 0 ≤ sizeLine; decide), fun u nu => ⟨p, u, [], rfl, hq.new nu, hq.ne nu, upd_same, (fun _ h => absurd h List.not_mem_nil), by decide, fun z H' hz _ r => q H' _ (.str z) (((Drawn.refl hq).new nu).trans r) (.str z hz.small) ⟨z, hz, rfl⟩⟩⟩
theorem LayP.whole {k : Nat} (hk : k ≤ 9) (hp : Giv tp σ H (.ref p)) (hq : Pot H p) (hn : Giv tn σ H (.int (k : Nat))) : LayP (tCall spWhole [] E (tCons tp (tCons tn tNil))) p σ H (isNo k) := fun Q q => hp _ (hn _ ⟨p, k, rfl, hq, fun j H' j0 j1 r => by
  obtain ⟨m, rfl⟩ := Int.eq_ofNat_of_zero_le (show 0 ≤ j by omega)
  have e : (10 : Int) ^ 30 = ((10 ^ 30 : Nat) : Int) := by norm_cast
  rw [e] at j1
  have e2 : (10 : Nat) ^ 31 = 10 ^ 30 * 10 := Nat.pow_succ 10 30
  have e3 : 9 < (10 : Nat) ^ 30 := by decide
  exact q H' _ (.int m) r (.int m) ⟨m, by omega, by unfold NumOk; omega, rfl⟩⟩)
theorem LayP.shut (hp : Giv tp σ H (.ref p)) (hi : LayI tn p σ H 10) : LayP (tCB (rTupOf K) (tCons (tCall spNames [] E (tCons tp (tCons tn (tCons (tLst tNil) tNil)))) tNil)) p σ H isSh := fun Q q => hp _ (hi _ fun H1 i r1 i0 i1 => ⟨(by show 0 ≤ sizeLine; decide), by
  obtain ⟨k, rfl⟩ := Int.eq_ofNat_of_zero_le i0
  refine names_new (Q := fun x H2 => rTupOf K [x] H2 Q) (E := E) (n := k) r1.pot (by omega) fun H2 c zs r2 nc ec hl hz nd => ?_
  refine ⟨c, _, rfl, .inl ⟨SqL.of ec, fun a na => q _ _ (.tuple (zs.map PyData.str)) ((r1.trans r2).new na) (.tup (r2.pot.ne na) ?_ upd_same (DtAll.names hz)) ⟨zs, hz, nd, by omega, rfl⟩⟩⟩
  rw [List.length_map]
  omega⟩)
theorem LaysP.nil (hp : Pot H p) : LaysP tNil p σ H [] := fun Q q => q H [] [] (Drawn.refl hp) .nil trivial
theorem LaysP.cons (h : LayP te p σ H P) (ht : ∀ H', Drawn p H H' → LaysP ta p σ H' Ps) : LaysP (tCons te ta) p σ H (P :: Ps) := fun Q q => h _ fun H1 v d r1 h1 p1 => ht H1 r1 _ fun H2 vs ds r2 h2 f2 => q H2 _ _ (r1.trans r2) (.cons (h1.keep r2.keep) h2) ⟨p1, f2⟩
theorem LaysP.tup (h : LaysP ta p σ H Ps) (hn : Ps.length ≤ 1000) : LayP (tTup ta) p σ H (isTu Ps) := fun Q q => h _ fun H1 vs ds r h1 f => by
  have l1 := h1.length
  have l2 := f.len
  exact ⟨Nat.le_of_lt (small1000 (by omega)), fun a na => q _ _ (.tuple ds) (r.new na) (.tup (r.pot.ne na) (by omega) upd_same (h1.keep (Keep.new na))) ⟨ds, f, rfl⟩⟩
/-- [..][a number] -/
theorem LaysP.pick (h : LaysP ta p σ H Ps) (hn : Ps.length ≤ 1000) (hP : ∀ R ∈ Ps, ∀ d, R d → P d) (hi : ∀ H', Drawn p H H' → LayI tb p σ H' Ps.length) : LayP (tOp (rIxL K) (tLst ta) tb) p σ H P := fun Q q => h _ fun H1 vs ds r h1 f => by
  have l1 := h1.length
  have l2 := f.len
  refine ⟨Nat.le_of_lt (small1000 (by omega)), fun a na => ?_⟩
  refine hi _ (r.new na) _ fun H2 i r2 i0 i1 => ?_
  have e2 : H2 a = some (.lst vs) := r2.keep _ _ (r.pot.ne na) upd_same
  have hh := (h1.keep (Keep.new na (o := .lst vs))).keep r2.keep
  obtain ⟨k, rfl⟩ := Int.eq_ofNat_of_zero_le i0
  have hk : vs[k]? = some (vs[k]'(by omega)) := List.getElem?_eq_getElem _
  obtain ⟨d, hd1, hd⟩ := hh.get hk
  exact ⟨a, vs, k, _, rfl, rfl, SqL.of e2, atI_nat hk, q _ _ d ((r.new na).trans r2) hd (f.all hP d (List.mem_of_getElem? hd1))⟩
variable {D : Ends} {u : TS} {i : Nat}
theorem setP (h : LayP te p σ H P) (q : ∀ (H' : Hp) (v : V) (d : PyData), Drawn p H H' → Dt p H' v d → P d → u D (σ.set i (some v)) H') : tSeq (tAsg te (gName i)) u D σ H := h _ q
theorem retP (h : LayP te p σ H P) (q : ∀ (H' : Hp) (v : V) (d : PyData), Drawn p H H' → Dt p H' v d → P d → D.rt v H') : tRet te D σ H := h _ q
end
def isThing (d : PyData) : Prop := ∃ t : Th, t.Good ∧ d = t.data
theorem thing_letter {d : PyData} (h : isTu [(· = .str "letter"), isNm, isNm, isWd] d) : isThing d := by
  obtain ⟨ds, f, rfl⟩ := h
  match ds, f with
  | [_, _, _, _], ⟨rfl, ⟨a, ha, rfl⟩, ⟨b, hb, rfl⟩, ⟨w, hw, rfl⟩, _⟩ => exact ⟨.letter a b w, ⟨ha, hb, hw⟩, rfl⟩
theorem thing_echo {d : PyData} (h : isTu [(· = .str "echo"), isNm, isNm, isSo, isTu [isNm, isNo 0]] d) : isThing d := by
  obtain ⟨ds, f, rfl⟩ := h
  match ds, f with
  | [_, _, _, _, _], ⟨rfl, ⟨a, ha, rfl⟩, ⟨b, hb, rfl⟩, ⟨w, hw, rfl⟩, ⟨es, g, rfl⟩, _⟩ =>
    match es, g with
    | [_, _], ⟨⟨m, hm, rfl⟩, ⟨n, _, hn, rfl⟩, _⟩ => exact ⟨.echo a b w m n, ⟨ha, hb, hw, hm, hn⟩, rfl⟩
theorem thing_answer {d : PyData} (h : isTu [(· = .str "answer"), isNm, isSo, isTu [isNm, isNo 0], isTu [isNm, isNo 1]] d) : isThing d := by
  obtain ⟨ds, f, rfl⟩ := h
  match ds, f with
  | [_, _, _, _, _], ⟨rfl, ⟨a, ha, rfl⟩, ⟨w, hw, rfl⟩, ⟨es, g, rfl⟩, ⟨es2, g2, rfl⟩, _⟩ =>
    match es, g, es2, g2 with
    | [_, _], ⟨⟨m, hm, rfl⟩, ⟨n, _, hn, rfl⟩, _⟩, [_, _], ⟨⟨m2, hm2, rfl⟩, ⟨n2, h1, hn2, rfl⟩, _⟩ => exact ⟨.answer a w m n m2 n2, ⟨ha, hw, hm, hn, hm2, h1, hn2⟩, rfl⟩
theorem thing_goer {d : PyData} (h : isTu [(· = .str "goer"), isNm, isNo 2, isSh] d) : isThing d := by
  obtain ⟨ds, f, rfl⟩ := h
  match ds, f with
  | [_, _, _, _], ⟨rfl, ⟨a, ha, rfl⟩, ⟨n, h2, hn, rfl⟩, ⟨zs, h3, h4, h5, rfl⟩, _⟩ => exact ⟨.goer a n zs, ⟨ha, h2, hn, h3, h4, h5⟩, rfl⟩
end Gj

namespace Gj
open PySem PySem.Spec PyProof.Rows L2
open C8 (Cal pe_c pe_gc)
def spThing : Sp := fun vs H Q _ => ∃ p, vs = [.ref p] ∧ Pot H p ∧ ∀ (H' : Hp) (v : V) (t : Th), Drawn p H H' → Dt p H' v t.data → t.Good → Q v H'
section
variable {P : Program} {w : World} {K : PySem.W.Frag} {mg : Str → Option Value} {base : Heap}
theorem sc__law_thing : FnScope ["_law_pot_here", "_law_one", "_law_other", "_law_sort", "_law_way", "_law_news"] ["_law_pot_here"] (defScope (topS 35)) := ⟨rfl, rfl, rfl, by decide +kernel, rfl, by decide +kernel, by decide +kernel⟩
theorem ok__law_thing (D : DefAt K mg "_law_thing" (topS 35)) (m : Mg mg) (c__law_digit : Cal P w K mg base 1 "_law_digit" spDigit []) (c__law_name : Cal P w K mg base 2 "_law_name" spName []) (c__law_names : Cal P w K mg base 3 "_law_names" spNames []) (c__law_word : Cal P w K mg base 2 "_law_word" spWord []) (c__law_whole : Cal P w K mg base 2 "_law_whole" spWhole []) : Cal P w K mg base 4 "_law_thing" spThing [] := by
  have sc := sc__law_thing
  refine mkCal D (fun _ _ _ _ _ _ us hl => match us, hl with | [_], _ => rfl) sc (fun vs H Q E h => ?_) (fun f cdv A outer s H vs Q E hr h => ?_)
  · obtain ⟨p, rfl, _⟩ := h
    rfl
  · obtain ⟨p, rfl, hp, q⟩ := h
    refine ⟨_, (pss_cons (ps_asg (pe_c c__law_names hr (by decide) (by rfl) (pa_cons (pv 0) (pa_cons pe_int (pa_cons (pe_lst pa_nil) pa_nil)))) (pg_unl (by rfl) (pgs_cons (pg_name (i := 1) sc.nd rfl (.inl rfl)) (pgs_cons (pg_name (i := 2) sc.nd rfl (.inl rfl)) pgs_nil))))
  (pss_cons (ps_set (i := 3) sc.nd rfl (.inl rfl) (pe_ix ix_list (pe_lst (pa_cons pe_str (pa_cons pe_str (pa_cons pe_str (pa_cons pe_str pa_nil))))) (pe_c c__law_digit hr (by decide) (by rfl) (pa_cons (pv 0) (pa_cons pe_int pa_nil))) (fun _ _ => rfl)))
  (pss_cons (ps_set (i := 4) sc.nd rfl (.inl rfl) (pe_c c__law_digit hr (by decide) (by rfl) (pa_cons (pv 0) (pa_cons pe_int pa_nil))))
  (pss_cons (ps_if (pt_cmpR op_eq (pv 4) pe_int (nomark _))
  (pss_one (ps_ret (pe_tup (pa_cons pe_str (pa_cons (pv 1) (pa_cons (pe_ix ix_list (pe_lst (pa_cons (pv 2) (pa_cons (pv 1) pa_nil))) (pe_c c__law_digit hr (by decide) (by rfl) (pa_cons (pv 0) (pa_cons pe_int pa_nil))) (fun _ _ => rfl)) (pa_cons (pe_c c__law_word hr (by decide) (by rfl) (pa_cons (pv 0) pa_nil)) pa_nil)))))))
  pss_nil)
  (pss_cons (ps_if (pt_cmpR op_eq (pv 4) pe_int (nomark _))
  (pss_one (ps_ret (pe_tup (pa_cons pe_str (pa_cons (pv 1) (pa_cons (pe_ix ix_list (pe_lst (pa_cons (pv 2) (pa_cons (pv 1) pa_nil))) (pe_c c__law_digit hr (by decide) (by rfl) (pa_cons (pv 0) (pa_cons pe_int pa_nil))) (fun _ _ => rfl)) (pa_cons (pv 3) (pa_cons (pe_tup (pa_cons (pe_c c__law_name hr (by decide) (by rfl) (pa_cons (pv 0) (pa_cons (pe_lst pa_nil) pa_nil))) (pa_cons (pe_c c__law_whole hr (by decide) (by rfl) (pa_cons (pv 0) (pa_cons pe_int pa_nil))) pa_nil))) pa_nil))))))))
  pss_nil)
  (pss_cons (ps_if (pt_cmpR op_eq (pv 4) pe_int (nomark _))
  (pss_cons (ps_set (i := 5) sc.nd rfl (.inl rfl) (pe_tup (pa_cons (pe_ix ix_list (pe_lst (pa_cons (pv 2) (pa_cons (pv 1) pa_nil))) (pe_c c__law_digit hr (by decide) (by rfl) (pa_cons (pv 0) (pa_cons pe_int pa_nil))) (fun _ _ => rfl)) (pa_cons (pe_c c__law_whole hr (by decide) (by rfl) (pa_cons (pv 0) (pa_cons pe_int pa_nil))) pa_nil))))
  (pss_one (ps_ret (pe_tup (pa_cons pe_str (pa_cons (pv 1) (pa_cons (pv 3) (pa_cons (pe_tup (pa_cons (pe_c c__law_name hr (by decide) (by rfl) (pa_cons (pv 0) (pa_cons (pe_lst pa_nil) pa_nil))) (pa_cons (pe_c c__law_whole hr (by decide) (by rfl) (pa_cons (pv 0) (pa_cons pe_int pa_nil))) pa_nil))) (pa_cons (pv 5) pa_nil)))))))))
  pss_nil)
  (pss_one (ps_ret (pe_tup (pa_cons pe_str (pa_cons (pv 1) (pa_cons (pe_c c__law_whole hr (by decide) (by rfl) (pa_cons (pv 0) (pa_cons pe_int pa_nil))) (pa_cons (pe_callTy call_tuple_of (by rfl) m.tuple (by decide +kernel) (pa_cons (pe_c c__law_names hr (by decide) (by rfl) (pa_cons (pv 0) (pa_cons (pe_c c__law_digit hr (by decide) (by rfl) (pa_cons (pv 0) (pa_cons pe_int pa_nil))) (pa_cons (pe_lst pa_nil) pa_nil)))) pa_nil)) pa_nil))))))))))))), ?_⟩
    refine ⟨_, rfl, (by show 0 ≤ sizeLine; decide), fun u nu => ⟨p, u, [], 2, rfl, hp.new nu, hp.ne nu, upd_same, (fun _ h => absurd h List.not_mem_nil), by decide, fun b zs H1 nc nb hl hz nd _ rr eb => ?_⟩⟩
    have r1 := ((Drawn.refl hp).new nu (o := .lst [])).trans rr
    match zs, hl, hz with
    | [z1, z2], _, hz =>
    have h1 := hz z1 (by simp)
    have h2 := hz z2 (by simp)
    refine ⟨b, _, rfl, SqL.of eb, rfl, _, _, rfl, _, _, rfl, rfl, ?_⟩
    have r0 := Drawn.refl r1.pot
    dsimp only
    refine setP (p := p) (P := isSo) ?_ fun H2 v d r2 hs hso => ?_
    · exact (LaysP.pick (K := K) (P := isSo) (LaysP.cons (LayP.str (P := isSo) r0.pot (by decide) ⟨_, by decide +kernel, rfl⟩) fun _ r_2 => (LaysP.cons (LayP.str (P := isSo) (r0.trans r_2).pot (by decide) ⟨_, by decide +kernel, rfl⟩) fun _ r_3 => (LaysP.cons (LayP.str (P := isSo) ((r0.trans r_2).trans r_3).pot (by decide) ⟨_, by decide +kernel, rfl⟩) fun _ r_4 => (LaysP.cons (LayP.str (P := isSo) (((r0.trans r_2).trans r_3).trans r_4).pot (by decide) ⟨_, by decide +kernel, rfl⟩) fun _ r_5 => (LaysP.nil ((((r0.trans r_2).trans r_3).trans r_4).trans r_5).pot))))) (by decide) (by simp) fun _ r_1 => (LayI.digit (giv_var rfl) (r0.trans r_1).pot giv_c (by decide) (by decide +kernel)))
    refine setI (p := p) (n := 4) ?_ fun H3 i r23 i0 i1 => ?_
    · exact (LayI.digit (giv_var rfl) r2.pot giv_c (by decide) (by decide +kernel))
    have hs := hs.keep r23.keep
    have R3 := (r1.trans r2).trans r23
    refine ifS (isI (giv_var rfl)) (fun _ Hx sx => ?_) (fun _ Hx sx => ?_)
    · have r3 : Drawn p H3 Hx := (Drawn.refl r23.pot).same sx
      refine retP (p := p) (P := isTu [(· = .str "letter"), isNm, isNm, isWd]) ?_ fun H5 v d r5 hv hP => ?_
      · exact (LaysP.tup (LaysP.cons (LayP.str (Drawn.refl r3.pot).pot (by decide) rfl) fun _ r_6 => (LaysP.cons (LayP.nameV (giv_var rfl) ((Drawn.refl r3.pot).trans r_6).pot h1) fun _ r_7 => (LaysP.cons (LaysP.pick (K := K) (P := isNm) (LaysP.cons (LayP.nameV (giv_var rfl) (((Drawn.refl r3.pot).trans r_6).trans r_7).pot h2) fun _ r_10 => (LaysP.cons (LayP.nameV (giv_var rfl) ((((Drawn.refl r3.pot).trans r_6).trans r_7).trans r_10).pot h1) fun _ r_11 => (LaysP.nil (((((Drawn.refl r3.pot).trans r_6).trans r_7).trans r_10).trans r_11).pot))) (by decide) (by simp) fun _ r_9 => (LayI.digit (giv_var rfl) ((((Drawn.refl r3.pot).trans r_6).trans r_7).trans r_9).pot giv_c (by decide) (by decide +kernel))) fun _ r_8 => (LaysP.cons (LayP.word (giv_var rfl) ((((Drawn.refl r3.pot).trans r_6).trans r_7).trans r_8).pot) fun _ r_12 => (LaysP.nil (((((Drawn.refl r3.pot).trans r_6).trans r_7).trans r_8).trans r_12).pot))))) (by decide))
      obtain ⟨t, tg, rfl⟩ := thing_letter hP
      exact q H5 v t ((R3.trans r3).trans r5) hv tg
    have r3 : Drawn p H3 Hx := (Drawn.refl r23.pot).same sx
    refine ifS (isI (giv_var rfl)) (fun _ Hy sy => ?_) (fun _ Hy sy => ?_)
    · have r3 := r3.same sy
      have hs := hs.keep r3.keep
      refine retP (p := p) (P := isTu [(· = .str "echo"), isNm, isNm, isSo, isTu [isNm, isNo 0]]) ?_ fun H5 v d r5 hv hP => ?_
      · exact (LaysP.tup (LaysP.cons (LayP.str (Drawn.refl r3.pot).pot (by decide) rfl) fun _ r_13 => (LaysP.cons (LayP.nameV (giv_var rfl) ((Drawn.refl r3.pot).trans r_13).pot h1) fun _ r_14 => (LaysP.cons (LaysP.pick (K := K) (P := isNm) (LaysP.cons (LayP.nameV (giv_var rfl) (((Drawn.refl r3.pot).trans r_13).trans r_14).pot h2) fun _ r_17 => (LaysP.cons (LayP.nameV (giv_var rfl) ((((Drawn.refl r3.pot).trans r_13).trans r_14).trans r_17).pot h1) fun _ r_18 => (LaysP.nil (((((Drawn.refl r3.pot).trans r_13).trans r_14).trans r_17).trans r_18).pot))) (by decide) (by simp) fun _ r_16 => (LayI.digit (giv_var rfl) ((((Drawn.refl r3.pot).trans r_13).trans r_14).trans r_16).pot giv_c (by decide) (by decide +kernel))) fun _ r_15 => (LaysP.cons (LayP.of (giv_var rfl) ((((Drawn.refl r3.pot).trans r_13).trans r_14).trans r_15).pot (hs.keep ((((Drawn.refl r3.pot).trans r_13).trans r_14).trans r_15).keep) hso) fun _ r_19 => (LaysP.cons (LaysP.tup (LaysP.cons (LayP.name (giv_var rfl) (((((Drawn.refl r3.pot).trans r_13).trans r_14).trans r_15).trans r_19).pot) fun _ r_21 => (LaysP.cons (LayP.whole (k := 0) (by decide) (giv_var rfl) ((((((Drawn.refl r3.pot).trans r_13).trans r_14).trans r_15).trans r_19).trans r_21).pot giv_c) fun _ r_22 => (LaysP.nil (((((((Drawn.refl r3.pot).trans r_13).trans r_14).trans r_15).trans r_19).trans r_21).trans r_22).pot))) (by decide)) fun _ r_20 => (LaysP.nil ((((((Drawn.refl r3.pot).trans r_13).trans r_14).trans r_15).trans r_19).trans r_20).pot)))))) (by decide))
      obtain ⟨t, tg, rfl⟩ := thing_echo hP
      exact q H5 v t ((R3.trans r3).trans r5) hv tg
    have r3 := r3.same sy
    refine ifS (isI (giv_var rfl)) (fun _ Hz sz => ?_) (fun _ Hz sz => ?_)
    · have r3 := r3.same sz
      have hs := hs.keep r3.keep
      refine setP (p := p) (P := isTu [isNm, isNo 1]) ?_ fun H4 nv nd2 r4 hnv hpn => ?_
      · exact (LaysP.tup (LaysP.cons (LaysP.pick (K := K) (P := isNm) (LaysP.cons (LayP.nameV (giv_var rfl) (Drawn.refl r3.pot).pot h2) fun _ r_25 => (LaysP.cons (LayP.nameV (giv_var rfl) ((Drawn.refl r3.pot).trans r_25).pot h1) fun _ r_26 => (LaysP.nil (((Drawn.refl r3.pot).trans r_25).trans r_26).pot))) (by decide) (by simp) fun _ r_24 => (LayI.digit (giv_var rfl) ((Drawn.refl r3.pot).trans r_24).pot giv_c (by decide) (by decide +kernel))) fun _ r_23 => (LaysP.cons (LayP.whole (k := 1) (by decide) (giv_var rfl) ((Drawn.refl r3.pot).trans r_23).pot giv_c) fun _ r_27 => (LaysP.nil (((Drawn.refl r3.pot).trans r_23).trans r_27).pot))) (by decide))
      have hs := hs.keep r4.keep
      refine retP (p := p) (P := isTu [(· = .str "answer"), isNm, isSo, isTu [isNm, isNo 0], isTu [isNm, isNo 1]]) ?_ fun H5 v d r5 hv hP => ?_
      · exact (LaysP.tup (LaysP.cons (LayP.str (Drawn.refl r4.pot).pot (by decide) rfl) fun _ r_28 => (LaysP.cons (LayP.nameV (giv_var rfl) ((Drawn.refl r4.pot).trans r_28).pot h1) fun _ r_29 => (LaysP.cons (LayP.of (giv_var rfl) (((Drawn.refl r4.pot).trans r_28).trans r_29).pot (hs.keep (((Drawn.refl r4.pot).trans r_28).trans r_29).keep) hso) fun _ r_30 => (LaysP.cons (LaysP.tup (LaysP.cons (LayP.name (giv_var rfl) ((((Drawn.refl r4.pot).trans r_28).trans r_29).trans r_30).pot) fun _ r_32 => (LaysP.cons (LayP.whole (k := 0) (by decide) (giv_var rfl) (((((Drawn.refl r4.pot).trans r_28).trans r_29).trans r_30).trans r_32).pot giv_c) fun _ r_33 => (LaysP.nil ((((((Drawn.refl r4.pot).trans r_28).trans r_29).trans r_30).trans r_32).trans r_33).pot))) (by decide)) fun _ r_31 => (LaysP.cons (LayP.of (giv_var rfl) (((((Drawn.refl r4.pot).trans r_28).trans r_29).trans r_30).trans r_31).pot (hnv.keep (((((Drawn.refl r4.pot).trans r_28).trans r_29).trans r_30).trans r_31).keep) hpn) fun _ r_34 => (LaysP.nil ((((((Drawn.refl r4.pot).trans r_28).trans r_29).trans r_30).trans r_31).trans r_34).pot)))))) (by decide))
      obtain ⟨t, tg, rfl⟩ := thing_answer hP
      exact q H5 v t (((R3.trans r3).trans r4).trans r5) hv tg
    · have r3 := r3.same sz
      refine retP (p := p) (P := isTu [(· = .str "goer"), isNm, isNo 2, isSh]) ?_ fun H5 v d r5 hv hP => ?_
      · exact (LaysP.tup (LaysP.cons (LayP.str (Drawn.refl r3.pot).pot (by decide) rfl) fun _ r_35 => (LaysP.cons (LayP.nameV (giv_var rfl) ((Drawn.refl r3.pot).trans r_35).pot h1) fun _ r_36 => (LaysP.cons (LayP.whole (k := 2) (by decide) (giv_var rfl) (((Drawn.refl r3.pot).trans r_35).trans r_36).pot giv_c) fun _ r_37 => (LaysP.cons (LayP.shut (K := K) (giv_var rfl) (LayI.digit (giv_var rfl) ((((Drawn.refl r3.pot).trans r_35).trans r_36).trans r_37).pot giv_c (by decide) (by decide +kernel))) fun _ r_38 => (LaysP.nil (((((Drawn.refl r3.pot).trans r_35).trans r_36).trans r_37).trans r_38).pot))))) (by decide))
      obtain ⟨t, tg, rfl⟩ := thing_goer hP
      exact q H5 v t ((R3.trans r3).trans r5) hv tg
end
end Gj

namespace Gj
open PySem PySem.Spec PyProof.Rows L2
open C8 (Cal pe_c pe_gc)
def spRight : Sp := fun vs H Q _ => ∃ (p : Addr) (v : V) (t : Th), vs = [v] ∧ H p ≠ none ∧ Dt p H v t.data ∧ t.Good ∧ ∀ H', Same H H' → Q (.bl true) H'
theorem Dt.tupAt {p : Addr} {H : Hp} {v : V} {ds : List PyData} (h : Dt p H v (.tuple ds)) : ∃ c xs, v = .ref c ∧ c ≠ p ∧ xs.length ≤ 1000 ∧ H c = some (.tup xs) ∧ DtAll p H xs ds := by
  cases h with
  | tup n z e h => exact ⟨_, _, rfl, n, z, e, h⟩
theorem giv_reprD {K : PySem.W.Frag} {σ : L2.St} {H : Hp} {te : TE} {p : Addr} {v : V} {t : Th} (hv : Giv te σ H v) (hd : Dt p H v t.data) (hg : t.Good) : Giv (tCB (rReprD K) (tCons te tNil)) σ H (.str t.data.shown) := fun Q q => hv _ (by
  have h2 := hd
  obtain ⟨c, xs, rfl, _⟩ := Dt.tupAt h2
  exact ⟨c, t.data, rfl, Dt.dp hd hg.shows.nod, hg.shows, q⟩)
theorem setE {σ : L2.St} {H : Hp} {te : TE} {D : Ends} {u : TS} {i : Nat} (h : te σ H (fun v H' => u D (σ.set i (some v)) H')) : tSeq (tAsg te (gName i)) u D σ H := h
theorem not_none {p : Addr} {H H' : Hp} (h : H p ≠ none) (s : Same H H') : H' p ≠ none := by
  cases e : H p with
  | none => exact absurd e h
  | some o => rw [s _ _ e]; intro z; cases z
theorem Pot.not {p : Addr} {H : Hp} (h : Pot H p) : H p ≠ none := by
  obtain ⟨a, b, e, _⟩ := h
  rw [e]
  intro z
  cases z
/-- what is seen so far -/
def SeenOk (kvs : List (Key × V)) : Prop := ∀ k v, valV kvs k = some v → ∃ t : Th, t.Good ∧ k = .inr t.text ∧ v = .str t.data.shown
theorem SeenOk.get {kvs : List (Key × V)} {t : Th} (h : SeenOk kvs) (hg : t.Good) : (valV kvs (.inr t.text)).getD (.str t.data.shown) = .str t.data.shown := by
  cases e : valV kvs (.inr t.text) with
  | none => rfl
  | some v =>
    obtain ⟨u, hu, e1, rfl⟩ := h _ _ e
    rw [Th.text_inj hg hu (Sum.inr.inj e1)]
    rfl
theorem SeenOk.put {kvs : List (Key × V)} {t : Th} (h : SeenOk kvs) (hg : t.Good) : SeenOk (putK kvs (.inr t.text) (.str t.data.shown)) := by
  intro k v e
  rw [valV_put] at e
  by_cases c : k = .inr t.text
  · rw [if_pos c] at e
    exact ⟨t, hg, c, (Option.some.inj e).symm⟩
  · rw [if_neg c] at e
    exact h k v e
theorem sql_keep {K : PySem.W.Frag} {H H' : Hp} {a S : Addr} {xs : List V} {kvs : List (Key × V)} (h : SqL K H a xs) (k : Keep S H H') (hs : H S = some (.dK kvs)) : SqL K H' a xs := by
  rcases h with (h | ⟨ob, h⟩) | h
  · exact .inl (.inl (k _ _ (by rintro rfl; rw [hs] at h; cases h) h))
  · exact .inl (.inr ⟨ob, k _ _ (by rintro rfl; rw [hs] at h; cases h) h⟩)
  · exact .inr h
section
variable {P : Program} {w : World} {K : PySem.W.Frag} {mg : Str → Option Value} {base : Heap}
theorem sc__law_right : FnScope ["_law_sample", "_law_line", "_law_found"] ["_law_sample"] (defScope (topS 37)) := ⟨rfl, rfl, rfl, by decide +kernel, rfl, by decide +kernel, by decide +kernel⟩
theorem ok__law_right (D : DefAt K mg "_law_right" (topS 37)) (m : Mg mg) (c_thing_text : Cal P w K mg base 1 "thing_text" spTT []) (c__law_text : Cal P w K mg base 1 "_law_text" spTT []) (k_thing_of : CalK P w K mg base 7 "thing_of" spThingOf ["text"] (fun zs => zs)) (c_is_thing : Cal P w K mg base 6 "is_thing" (spPred mThing) []) : CalG P w K mg base 8 "_law_right" spRight := by
  have sc := sc__law_right
  refine mkCalG D (fun _ _ _ _ _ _ us hl => match us, hl with | [_], _ => rfl) sc (fun vs H Q E h => ?_) (fun f cdv A outer s H vs Q E hg hr h => ?_)
  · obtain ⟨p, v, t, rfl, _⟩ := h
    rfl
  · obtain ⟨p, v, t, rfl, hp, hv, tg, q⟩ := h
    refine ⟨_, (pss_cons (ps_set (i := 1) sc.nd rfl (.inl rfl) (pe_c c_thing_text hr (by decide) (by rfl) (pa_cons (pv 0) pa_nil)))
  (pss_cons (ps_if (PW.pt (pw_or (pt_cmpR op_ne (pv 1) (pe_c c__law_text hr (by decide) (by rfl) (pa_cons (pv 0) pa_nil)) (nomark _)) (pw_or1 (pt_not (pt_val (pe_callB (call_isD (T := "str") (.inl rfl)) (by rfl) m.isinstance (by decide +kernel) (pa_cons (pv 1) (pa_cons (pe_bltn (v := .ty "str") (by rfl) m.str (by decide +kernel) rfl) pa_nil))))))))
  (pss_one (ps_ret pe_bl))
  pss_nil)
  (pss_cons (ps_set (i := 2) sc.nd rfl (.inl rfl) (pe_ck k_thing_of hr (by decide) (by rfl) (pk_cons (pv 1) pk_nil)))
  (pss_one (ps_ret (pe_and (pe_cmpR op_eq (pe_callB (call_reprD hg hr.units) (by rfl) m.repr (by decide +kernel) (pa_cons (pv 2) pa_nil)) (pe_callB (call_reprD hg hr.units) (by rfl) m.repr (by decide +kernel) (pa_cons (pv 0) pa_nil)) (nomark _)) (pe_one (pe_cmpR op_isBl (pe_c c_is_thing hr (by decide) (by rfl) (pa_cons (pv 2) pa_nil)) pe_bl (nomark _))))))))), ?_⟩
    have hv0 := hv
    obtain ⟨c, xs, rfl, nc, lx, ec, ha⟩ := Dt.tupAt hv0
    refine setW (w := .str t.text) (fun Q q => ⟨_, rfl, p, c, xs, t, rfl, ec, ha, tg, q⟩) fun H1 s1 => ?_
    refine ifNo (SayT.of (SayT.or (a := false) (b := false) (Say.tTest (Say.of (a := !decide (t.text = t.text)) ?_ (by rw [decide_eq_true rfl]; rfl))) fun _ H2 s2 => ?_) rfl) fun H2 s2 => ?_
    rotate_left
    · exact SayT.of (SayT.not (Say.tB (say_isa (T := "str") (p := p) (giv_var rfl) (.str t.text tg.len)))) (by dsimp only [isa, kind]; decide +kernel)
    rotate_left
    · intro Q q
      refine ⟨_, rfl, _, rfl, p, c, xs, t, rfl, s1 _ _ ec, ha.same s1, tg, fun H2 s2 => ⟨rfl, ?_⟩⟩
      rw [dec_str2]
      exact q _ s2
    have sm := s1.trans s2
    refine setE ?_
    refine ⟨_, rfl, rfl, p, t, rfl, not_none hp sm, tg, fun H3 w3 s3 hw => ?_⟩
    have sm := sm.trans s3
    refine retB (b := true && true) (Say.and (a := true) (b := true) ?_ (fun _ H4 s4 => ?_)) fun H4 s4 => q _ (sm.trans s4)
    · exact Say.of (say_eqS (giv_reprD (giv_var rfl) hw tg) (giv_reprD (giv_var rfl) (hv.same sm) tg)) (decide_eq_true rfl)
    · intro Q q
      refine say_call (giv_var rfl) (hw.same s4) _ fun H5 s5 => ?_
      rw [tg.thing]
      exact ⟨true, true, rfl, rfl, q _ s5⟩
end
def spLaw (K : PySem.W.Frag) : Sp := fun vs H Q _ => ∃ (a : Addr) (ns : List Int), vs = [.ref a] ∧ SqL K H a (ns.map V.int) ∧ ns.length ≤ 63 ∧ ∀ H', Q (.bl true) H'
section
variable {P : Program} {w : World} {K : PySem.W.Frag} {mg : Str → Option Value} {base : Heap}
theorem sc_law : FnScope ["_law_script", "_law_seen", "_law_k", "_law_pot_here", "_law_turn", "_law_sample", "_law_line"] ["_law_script"] (defScope (topS 38)) := ⟨rfl, rfl, rfl, by decide +kernel, rfl, by decide +kernel, by decide +kernel⟩
theorem ok_law {f : Addr} {fd : FuncData} (F : Fun K "law" "law" (topS 38) f fd) (m : Mg mg) (c__law_pot : Cal P w K mg base 1 "_law_pot" (spPot K) []) (c__law_thing : Cal P w K mg base 4 "_law_thing" spThing []) (k_thing_text : CalK P w K mg base 1 "thing_text" spTT ["thing"] (fun zs => zs)) (g__law_right : CalG P w K mg base 8 "_law_right" spRight) : FnG P w K mg base CX0 9 f fd ["_law_script"] (spLaw K) := by
  have sc := sc_law
  refine fnGn F sc (fun vs H Q E h => ?_) (fun cdv A outer s H vs Q E hg hr h => ?_)
  · obtain ⟨x, z, rfl, _⟩ := h
    rfl
  · obtain ⟨a, ns, rfl, hS, hlen, q⟩ := h
    refine ⟨_, (pss_cons (ps_set (i := 1) sc.nd rfl (.inl rfl) pe_dnewK)
  (pss_cons (ps_for PassesOwn.never rfl (pi_range1 (by rfl) m.range (pa_cons (pe_callB (call_max2 rfl) (by rfl) m.max (by decide +kernel) (pa_cons pe_int (pa_cons (pe_callB (call_min2 rfl) (by rfl) m.min (by decide +kernel) (pa_cons pe_int (pa_cons (pe_callB call_len (by rfl) m.len (by decide +kernel) (pa_cons (pv 0) pa_nil)) pa_nil))) pa_nil))) pa_nil)) (pg_name (i := 2) sc.nd rfl (.inl rfl))
  (pss_cons (ps_set (i := 3) sc.nd rfl (.inl rfl) (pe_c c__law_pot hr (by decide) (by rfl) (pa_cons (pv 0) (pa_cons (pv 2) pa_nil))))
  (pss_one (ps_for PassesOwn.never rfl (pi_range1 (by rfl) m.range (pa_cons pe_int pa_nil)) (pg_name (i := 4) sc.nd rfl (.inl rfl))
  (pss_cons (ps_set (i := 5) sc.nd rfl (.inl rfl) (pe_c c__law_thing hr (by decide) (by rfl) (pa_cons (pv 3) pa_nil)))
  (pss_cons (ps_set (i := 6) sc.nd rfl (.inl rfl) (pe_ck k_thing_text hr (by decide) (by rfl) (pk_cons (pv 5) pk_nil)))
  (pss_cons (ps_if (PW.pt (pw_or (pt_not (pt_val (pe_cG g__law_right hg hr (by decide) (by rfl) (pa_cons (pv 5) pa_nil)))) (pw_or1 (pt_cmpR op_ne (pe_callB (call_reprD hg hr.units) (by rfl) m.repr (by decide +kernel) (pa_cons (pv 5) pa_nil)) (pe_dget2 (hu_of hr) (pv 1) (pv 6) (pe_callB (call_reprD hg hr.units) (by rfl) m.repr (by decide +kernel) (pa_cons (pv 5) pa_nil)) ⟨by rfl, by rfl, by rfl, by rfl⟩) (nomark _)))))
  (pss_one (ps_ret pe_bl))
  pss_nil)
  (pss_one (ps_dput (hu_of hr) (pv 1) (pv 6) (pe_callB (call_reprD hg hr.units) (by rfl) m.repr (by decide +kernel) (pa_cons (pv 5) pa_nil)) rfl)))))))))
  (pss_one (ps_ret pe_bl)))), ?_⟩
    intro S nS
    have hS : SqL K (upd H S (.dK [])) a (ns.map V.int) := (same_new nS).seq hS
    obtain ⟨N, hN, hN2⟩ : ∃ N : Int, (if (if ((ns.map V.int).length : Int) < 4 then ((ns.map V.int).length : Int) else 4) > 1 then (if ((ns.map V.int).length : Int) < 4 then ((ns.map V.int).length : Int) else 4) else 1) = N ∧ 0 ≤ N ∧ N ≤ 1000 := by
      refine ⟨_, rfl, ?_, ?_⟩ <;> split <;> (try split) <;> omega
    refine ⟨_, rfl, _, _, rfl, .inl ⟨_, hS, rfl⟩, _, _, rfl, _, _, rfl, N, by rw [← hN], by omega, by omega, ?_⟩
    refine for_range (fun i σ H' => ∃ y2 y3 y4 y5 y6 kvs, σ = [some (.ref a), some (.ref S), y2, y3, y4, y5, y6] ∧ SqL K H' a (ns.map V.int) ∧ H' S = some (.dK kvs) ∧ SeenOk kvs ∧ kvs.length ≤ 3 * i) ⟨_, _, _, _, _, [], rfl, hS, upd_same, (fun k v e => by rw [valV_nil] at e; cases e), Nat.zero_le _⟩ (fun i σ H1 hi hp => ?_) (fun σ H1 hp => ?_)
    · obtain ⟨y2, y3, y4, y5, y6, kvs, rfl, hS1, eS, sk, lk⟩ := hp
      refine ⟨_, rfl, _, rfl, a, ns, _, rfl, hS1, by omega, by omega, fun p H2 np sm hp => ?_⟩
      have nSp : S ≠ p := ne_of_none eS np
      refine ⟨3, rfl, by decide, by decide, ?_⟩
      refine for_range (fun j σ H' => ∃ y4 y5 y6 kvs, σ = [some (.ref a), some (.ref S), some (.int (0 + i)), some (.ref p), y4, y5, y6] ∧ Keep S H1 H' ∧ Pot H' p ∧ H' S = some (.dK kvs) ∧ SeenOk kvs ∧ kvs.length ≤ 3 * i + j) ⟨_, _, _, kvs, rfl, Same.keep sm, hp, sm _ _ eS, sk, by omega⟩ (fun j σ H3 hj hq => ?_) (fun σ H3 hq => ?_)
      · obtain ⟨z4, z5, z6, kvs, rfl, kp, hp, eS, sk, lk⟩ := hq
        refine setE ?_
        refine ⟨_, rfl, p, rfl, hp, fun H4 v t r4 hv tg => ?_⟩
        have eS := r4.keep _ _ nSp eS
        have kp4 : Keep S H1 H4 := fun b o nb e => r4.keep _ _ (ne_of_none e np) (kp b o nb e)
        have hv0 := hv
        obtain ⟨c, xs, rfl, nc, lx, ec, ha⟩ := Dt.tupAt hv0
        refine setW (w := .str t.text) (fun Q q => ⟨_, rfl, rfl, p, c, xs, t, rfl, ec, ha, tg, q⟩) fun H5 s5 => ?_
        refine ifNo (SayT.of (SayT.or (a := false) (b := false) (SayT.of (SayT.not (Say.tB (a := true) fun Q q => ?_)) rfl) fun _ H6 s6 => Say.tTest (Say.of (a := !decide (t.data.shown = t.data.shown)) (say_neS ?_ fun Q q => ?_) (by rw [decide_eq_true rfl]; rfl))) rfl) fun H6 s6 => ?_
        · exact ⟨_, rfl, p, _, t, rfl, (r4.pot.same s5).not, hv.same s5, tg, fun H6 s6 => q _ s6⟩
        · exact giv_reprD (giv_var rfl) (hv.same (s5.trans s6)) tg
        · refine ⟨_, rfl, S, rfl, .inl ⟨_, .inl ((s5.trans s6) _ _ eS)⟩, _, rfl, ?_⟩
          refine giv_reprD (K := K) (te := tVar 5) (giv_var rfl) (hv.same (s5.trans s6)) tg _ ⟨_, DGet.k (k := .inr t.text) ((s5.trans s6) _ _ eS), ?_⟩
          rw [sk.get tg]
          exact q
        have s6 := s5.trans s6
        refine giv_reprD (K := K) (te := tVar 5) (giv_var rfl) (hv.same s6) tg _ ?_
        refine ⟨_, rfl, _, rfl, S, _, rfl, DPut.k (k := .inr t.text) (s6 _ _ eS) (small1000 (by omega)), ?_⟩
        refine ⟨_, _, _, _, rfl, fun b o nb e => ?_, ?_, upd_same, sk.put tg, ?_⟩
        · rw [upd_ne nb]
          exact s6 _ _ (kp4 b o nb e)
        · obtain ⟨x1, x2, e3, z3⟩ := r4.pot.same s6
          exact ⟨x1, x2, by rw [upd_ne nSp.symm]; exact e3, z3⟩
        · have := length_putK kvs (.inr t.text) (.str t.data.shown)
          omega
      · obtain ⟨z4, z5, z6, kvs, rfl, kp, hp, eS2, sk, lk⟩ := hq
        exact ⟨_, _, _, _, _, kvs, rfl, sql_keep hS1 kp eS, eS2, sk, by omega⟩
    · exact q _
end
end Gj

set_option maxHeartbeats 0
namespace Gj
open PySem PySem.Spec PyProof.Rows L2
open C8 (Cal pe_c pe_gc)
theorem fun_of_funD {K : PySem.W.Frag} {x q : Str} {st : Stmt} {f : Addr} {fd : FuncData} (F : FunD K x q (defArgs st) (defBody st) (defScope st) [] [] f fd) : Fun K x q st f fd := by
  obtain ⟨oc, od, dV, kV, doc, pm, an, cdv, ct, osl, rfl, lk, hcd, hD, hK⟩ := F.ex
  rcases hD with ⟨_, rfl⟩ | ⟨e, _⟩
  · exact ⟨⟨oc, od, kV, doc, pm, an, cdv, ct, osl, rfl, lk, hcd⟩, F.kp⟩
  · exact absurd rfl e
def dd (x : Str) (i : Nat) : He.DefD := ⟨(x, none), x, x, defArgs (topS i), defBody (topS i), defScope (topS i), [], []⟩
def fn : List He.DefD := ([dd "_law_digit" 30, dd "_law_pot" 29, dd "_law_name" 31, dd "_law_names" 32, dd "_law_word" 33, dd "_law_whole" 34, dd "is_text_of" 6, dd "is_name" 7, dd "is_word" 8, dd "is_whole" 11] : List _) ++ ([dd "is_pair" 12, dd "is_sort" 13, dd "is_shut" 14, dd "begins" 15, dd "is_letter" 16, dd "is_echo" 17, dd "is_answer" 18, dd "is_goer" 19, dd "is_parcel" 20, dd "is_thing" 21] : List _) ++ ([dd "thing_text" 23, dd "_law_text" 36, dd "number_of" 24, dd "pair_of" 25, dd "told_by" 26, dd "thing_of" 27, dd "_law_thing" 35, dd "_law_right" 37, dd "law" 38] : List _)
def fa : List He.Fa := ([.glo "_law_digit", .glo "_law_pot", .glo "_law_name", .glo "_law_names", .glo "_law_word", .glo "_law_whole", .glo "is_text_of", .glo "is_name", .glo "is_word", .glo "is_whole"] : List _) ++ ([.glo "is_pair", .glo "is_sort", .glo "is_shut", .glo "begins", .glo "is_letter", .glo "is_echo", .glo "is_answer", .glo "is_goer", .glo "is_parcel", .glo "is_thing"] : List _) ++ ([.glo "thing_text", .glo "_law_text", .glo "number_of", .glo "pair_of", .glo "told_by", .glo "thing_of", .glo "_law_thing", .glo "_law_right", .glo "law", .free "len"] : List _) ++ ([.free "isinstance", .free "str", .free "all", .free "max", .free "min", .free "abs", .free "range", .free "int", .free "repr", .free "tuple"] : List _) ++ ([.free "bool", .free "set", .free "list", .free "enumerate", .str "LETTERS" sLetters, .str "FIGURES" sFigures, .glo "SORTS"] : List _)
def ex (K : PySem.W.Frag) : Bool := He.tupB K "SORTS" [.str "came", .str "short", .str "ask", .str "row"]
abbrev R : PySem.W.OpenRow := PySem.W.OpenLaw.row PySem.Challenge.rw_walkbox_k15_whole_thing_texts
abbrev hk : PySem.W.Hook := He.hookX 4 fa fn [] [] ex
def ob (s : PySem.W.SharedT) : He.AlX := He.obsX 4 fa fn [] [] ex (HandSHeadRun.getT s)
theorem ob_eq (s : PySem.W.SharedT) : ob s = hk.obs s.abs := He.obsX_eq (HandSHeadRun.getT_eq s)
def names : List Str := (["LETTERS", "FIGURES", "SORTS", "WalkError", "NoThing", "is_text_of", "is_name", "is_word", "is_whole", "is_pair", "is_sort", "is_shut"] : List Str) ++ (["begins", "is_letter", "is_echo", "is_answer", "is_goer", "is_parcel", "is_thing", "thing_text", "number_of", "pair_of", "told_by", "thing_of"] : List Str) ++ (["_law_pot", "_law_digit", "_law_name", "_law_names", "_law_word", "_law_whole", "_law_thing", "_law_text", "_law_right"] : List Str)
theorem run (w : World) : HandSHeadRun.RunEq R (PySem.W.view R.prog [38]) hk ob 2000 names w := by
  intro os
  kernel_rfl
theorem facts {P : Program} {w : World} {K : PySem.W.Frag} {h : Heap} {mg : Str → Option Value} {f : Addr} (X : K.In h) (G : h.Ns mainGlobals mg) (hfa : mg ("law" : Str) = some (.ref f)) (c : He.SaysX fa fn [] [] ex w h K) :
    ∃ fd : FuncData, (∀ (s : Shared) (v : Value), BindsTo s fd ⟨[v], []⟩ [("_law_script", v)]) ∧ ∀ base : Heap, K.In base → base.Ns mainGlobals mg → FnG P w K mg base CX0 9 f fd ["_law_script"] (spLaw K) := by
  obtain ⟨fd, F0⟩ := He.SaysD.defs c.t.d (d := dd "law" 38) (List.mem_of_getElem? (i := 28) rfl)
  have e := hfa.symm.trans (He.glo_ok X G (c.t.d.fact 28 (f := .glo "law") rfl))
  cases e
  have b := FunD.bindsA (ps := ["_law_script"]) F0 fun _ _ _ _ _ _ us hl => match us, hl with | [_], _ => rfl
  have m : Mg mg := ⟨He.free_ok X G (c.t.d.fact 29 rfl), He.free_ok X G (c.t.d.fact 30 rfl), He.free_ok X G (c.t.d.fact 31 rfl), He.free_ok X G (c.t.d.fact 32 rfl), He.free_ok X G (c.t.d.fact 33 rfl), He.free_ok X G (c.t.d.fact 34 rfl), He.free_ok X G (c.t.d.fact 35 rfl), He.free_ok X G (c.t.d.fact 36 rfl), He.free_ok X G (c.t.d.fact 37 rfl), He.free_ok X G (c.t.d.fact 38 rfl), He.free_ok X G (c.t.d.fact 39 rfl), He.free_ok X G (c.t.d.fact 40 rfl), He.free_ok X G (c.t.d.fact 41 rfl), He.free_ok X G (c.t.d.fact 42 rfl), He.free_ok X G (c.t.d.fact 43 rfl)⟩
  have st : ∀ {x z : Str}, (∃ t, mg x = some (.str z t)) → ∃ u, mg x = some u ∧ RelV (.str z) u := fun ⟨t, h⟩ => ⟨_, h, t, rfl⟩
  have gs : Gs K mg := ⟨st (He.str_ok X G (c.t.d.fact 44 rfl)), st (He.str_ok X G (c.t.d.fact 45 rfl)), ⟨_, He.glo_ok X G (c.t.d.fact 46 (f := .glo "SORTS") rfl), fun H => He.tupB_ok c.more H⟩⟩
  have dA : ∀ (i j : Nat) (x : Str) (_ : fn[i]? = some (dd x j)) (_ : fa[i]? = some (.glo x)), DefAt K mg x (topS j) := fun i j x h1 h2 => by
    obtain ⟨fd, F⟩ := He.SaysD.defs c.t.d (List.mem_of_getElem? h1)
    exact ⟨_, fd, fun_of_funD F, He.glo_ok X G (He.SaysD.facts c.t.d (List.mem_of_getElem? h2))⟩
  refine ⟨fd, fun s v => b s [v] rfl, fun base _ _ => ?_⟩
  have c__law_digit := ok__law_digit (P := P) (w := w) (base := base) (dA 0 30 _ rfl rfl)
  have c__law_pot := ok__law_pot (P := P) (w := w) (base := base) (dA 1 29 _ rfl rfl) m
  have c__law_name := ok__law_name (P := P) (w := w) (base := base) (dA 2 31 _ rfl rfl) m c__law_digit
  have c__law_names := ok__law_names (P := P) (w := w) (base := base) (dA 3 32 _ rfl rfl) m c__law_name
  have c__law_word := ok__law_word (P := P) (w := w) (base := base) (dA 4 33 _ rfl rfl) m c__law_digit
  have c__law_whole := ok__law_whole (P := P) (w := w) (base := base) (dA 5 34 _ rfl rfl) c__law_digit
  have c_is_text_of := ok_is_text_of (P := P) (w := w) (base := base) (dA 6 6 _ rfl rfl) m
  have c_is_name := ok_is_name (P := P) (w := w) (base := base) (dA 7 7 _ rfl rfl) gs c_is_text_of
  have c_is_word := ok_is_word (P := P) (w := w) (base := base) (dA 8 8 _ rfl rfl) gs c_is_text_of
  have c_is_whole := ok_is_whole (P := P) (w := w) (base := base) (dA 9 11 _ rfl rfl) m
  have c_is_pair := ok_is_pair (P := P) (w := w) (base := base) (dA 10 12 _ rfl rfl) m c_is_name c_is_whole
  have c_is_sort := ok_is_sort (P := P) (w := w) (base := base) (dA 11 13 _ rfl rfl) gs c_is_name
  have c_is_shut := ok_is_shut (P := P) (w := w) (base := base) (dA 12 14 _ rfl rfl) m c_is_name
  have c_begins := ok_begins (P := P) (w := w) (base := base) (dA 13 15 _ rfl rfl) m c_is_name
  have c_is_letter := ok_is_letter (P := P) (w := w) (base := base) (dA 14 16 _ rfl rfl) c_begins c_is_name c_is_word
  have c_is_echo := ok_is_echo (P := P) (w := w) (base := base) (dA 15 17 _ rfl rfl) c_begins c_is_name c_is_sort c_is_pair
  have c_is_answer := ok_is_answer (P := P) (w := w) (base := base) (dA 16 18 _ rfl rfl) c_begins c_is_name c_is_sort c_is_pair
  have c_is_goer := ok_is_goer (P := P) (w := w) (base := base) (dA 17 19 _ rfl rfl) c_begins c_is_name c_is_whole c_is_shut
  have c_is_parcel := ok_is_parcel (P := P) (w := w) (base := base) (dA 18 20 _ rfl rfl) c_is_letter c_is_echo
  have c_is_thing := ok_is_thing (P := P) (w := w) (base := base) (dA 19 21 _ rfl rfl) c_is_parcel c_is_answer c_is_goer
  have c_thing_text := ok_thing_text (P := P) (w := w) (base := base) (dA 20 23 _ rfl rfl) m
  have k_thing_text := kw_thing_text (P := P) (w := w) (base := base) (dA 20 23 _ rfl rfl) m
  have c__law_text := ok__law_text (P := P) (w := w) (base := base) (dA 21 36 _ rfl rfl) m
  have c_number_of := ok_number_of (P := P) (w := w) (base := base) (dA 22 24 _ rfl rfl) m gs c_is_text_of
  have c_pair_of := ok_pair_of (P := P) (w := w) (base := base) (dA 23 25 _ rfl rfl) c_number_of
  have c_told_by := ok_told_by (P := P) (w := w) (base := base) (dA 24 26 _ rfl rfl) m c_number_of c_pair_of
  have c_thing_of := ok_thing_of (P := P) (w := w) (base := base) (dA 25 27 _ rfl rfl) m c_told_by c_is_thing
  have k_thing_of := kw_thing_of (P := P) (w := w) (base := base) (dA 25 27 _ rfl rfl) m c_told_by c_is_thing
  have c__law_thing := ok__law_thing (P := P) (w := w) (base := base) (dA 26 35 _ rfl rfl) m c__law_digit c__law_name c__law_names c__law_word c__law_whole
  have g__law_right := ok__law_right (P := P) (w := w) (base := base) (dA 27 37 _ rfl rfl) m c_thing_text c__law_text k_thing_of c_is_thing
  exact ok_law (fun_of_funD F0) m c__law_pot c__law_thing k_thing_text g__law_right
end Gj
open PySem PySem.W PySem.Calls PyProof.Rows
theorem PySem.Challenge.cw_walkbox_k15_whole_thing_texts_holds : PySem.Challenge.rw_walkbox_k15_whole_thing_texts.Holds := by
  w_on; o_law
  refine HandSHeadRun.head_any (r := OpenLaw.row PySem.Challenge.rw_walkbox_k15_whole_thing_texts) (q := view (OpenLaw.row PySem.Challenge.rw_walkbox_k15_whole_thing_texts).prog [38]) (H := Gj.hk) (ob := Gj.ob) (M := 2000) (loose := Gj.names) (d := HandSHeadRun.topDef (OpenLaw.row PySem.Challenge.rw_walkbox_k15_whole_thing_texts).prog 38) (kwd := []) Gj.ob_eq
    (by kernel_rfl) (fun s => by kernel_rfl) Gj.run (by kernel_rfl) (by kernel_rfl) (by kernel_rfl) (by rfl) (by first | assumption | decide +kernel) (by decide +kernel) ⟨rfl, rfl, rfl, rfl, rfl, by decide +kernel⟩ ?hw ?hc
  case hw => w_witness2
  case hc =>
    refine Gj.walkG (l := PySem.Challenge.rw_walkbox_k15_whole_thing_texts) (n := 63) (k := 9) (x := "_law_script") rfl (by decide) (by kernel_rfl) ⟨rfl, by decide, by decide⟩ ?F
    intro w mg fa h Y G hmg0
    obtain ⟨K, KX, c⟩ := Y
    have hmg : mg ("law" : PySem.Str) = some (.ref fa) := by
      have e : (HandSHeadRun.topDef (OpenLaw.row PySem.Challenge.rw_walkbox_k15_whole_thing_texts).prog 38).name = ("law" : PySem.Str) := by kernel_rfl
      rw [← e]
      exact hmg0
    obtain ⟨fd, hb, hF⟩ := Gj.facts (P := (PySem.Challenge.rw_walkbox_k15_whole_thing_texts).prog) (w := w) KX G hmg c
    exact ⟨K, fd, Gj.spLaw K, KX, hb, fun H a ns hl _ hS => ⟨a, ns, rfl, hS, hl, fun _ => rfl⟩, hF⟩
