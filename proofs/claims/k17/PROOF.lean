import PyProof.Rows.All
import Wide.All
import OpenK.AllK
import Wide.FinOn
import HandS.ForMost
import HandS.Walk
import HandS.Wide
import HandS.IsInst
import HandS.Codes
import HandS.RaiseMore
import PyProof.NeKinds
import HandS.Exc
import HandS.ExcInit
import HandS.ExcField
import HandS.ExcIs
import HandS.ExcValue
import HandS.ExcOwn
import HandS.WordsExc
import KE.KExcInit
import KE.KExcIs
import HandS.TupAny
import HandS.Deep
import HandS.Strs
import KE.GoesMore
import HandS.Iter
import PyProof.FactsTree
import PyProof.RulesRaise
import HandS.MakeKw
import HandS.MakeKwOnly
import HandS.TryOnly
import HandS.HeadHook1
import HandS.HeadHook2
import HandS.Defaults
import HandS.NoneIn
import HandS.Head0
import HandS.Head1
import HandS.Head2
import HandS.HeadEnd
import HandS.HeadHook3
import HandS.HeadHook4
import KE.KStateDown
import Lean
import PySem.Challenge.RW_walkbox_k17_refusals_told_apart
set_option Elab.async false
set_option linter.all false
set_option maxRecDepth 100000
/-! own layer: defs by name, a pot of digits, two further rules -/
namespace Gj
open PySem PySem.Spec PyProof.Rows L2
open C8 (Cal pe_c pe_gc)
/-- the def st stands at the module's name x -/
def DefAt (K : PySem.W.Frag) (mg : Str → Option Value) (x : Str) (st : Stmt) : Prop := ∃ f fd, Fun K x x st f fd ∧ mg x = some (.ref f)
section
variable {P : Program} {w : World} {K : PySem.W.Frag} {mg : Str → Option Value} {base : Heap}
theorem mkCal {x : Str} {st : Stmt} {N ps : List Str} {k : Nat} {sp : Sp} (D : DefAt K mg x st)
    (hb : ∀ (kV doc pm : Value) (an : Option Addr) (cdv ct : Value) (us : List Value), us.length = ps.length → bindArgs (PySem.W.fnOf x x (defArgs st) (defBody st) (defScope st) .none kV doc pm an cdv ct) ⟨us, []⟩ = pure (ps.zip us))
    (S : FnScope N ps (defScope st)) (len : ∀ vs H Q E, sp vs H Q E → vs.length = ps.length)
    (hbody : ∀ (f : Addr) (cdv : Value) (A : Around) (outer : List Env) (s : Shared) (H : Hp) (vs : List V) (Q : VK) (E : XK), Room k (A.deeper (envOfC x (defScope st) s.heap.objs.size f cdv)) → sp vs H Q E →
      ∃ t, PSs (cxOf CX0 P w K mg base N x (defScope st) f cdv A outer s H E).nox (defBody st) t ∧ t { nx := fun _ H' => Q .non H', rt := Q } (start N vs) H) : C8.Cal P w K mg base (k + 1) x sp [] := by
  obtain ⟨f, fd, F, g⟩ := D
  exact ⟨f, fd, ps, [], F.ok S len (hbody f), g, F.kp, F.binds hb, .nil⟩
end
/-! ### two rules -/
section
variable {X : Cx}
theorem call_repr_bool : CallR X (.builtin "repr") (fun xs H Q => ∃ b, xs = [.bl b] ∧ Q (.str (if b then "True" else "False")) H) := by
  intro pins s σ H xs us Q I r h
  obtain ⟨b, rfl, q⟩ := h
  obtain ⟨u, rfl, rfl⟩ := vals1 r
  exact PySem.P.repr_of_bool ⟨.str _, H, I.tok _, ⟨_, rfl⟩, q⟩
theorem op_mul_str : OpR X (binaryOp .Mult) (fun x y H Q => ∃ z n, x = .str z ∧ y = .int n ∧ MulOk z n ∧ Q (.str (Txt.mul z n)) H) := by
  intro pins s σ H x y v u Q I rx ry h
  obtain ⟨z, n, rfl, rfl, hz, q⟩ := h
  obtain ⟨t, rfl⟩ := rx
  obtain ⟨t', rfl⟩ := ry
  exact PySem.SB.mul hz fun t' k => ⟨.str _, H, I.tok _, ⟨_, rfl⟩, q⟩
end
/-! ### heaps but for one place -/
def Keep (p : Addr) (H H' : Hp) : Prop := ∀ b o, b ≠ p → H b = some o → H' b = some o
theorem Keep.refl {p : Addr} {H : Hp} : Keep p H H := fun _ _ _ h => h
theorem Keep.trans {p : Addr} {H H1 H2 : Hp} (a : Keep p H H1) (b : Keep p H1 H2) : Keep p H H2 := fun c o n h => b c o n (a c o n h)
theorem Keep.here {p : Addr} {H : Hp} {o : HO} : Keep p H (upd H p o) := fun b x n e => by rw [upd_ne n]; exact e
theorem Same.keep {p : Addr} {H H' : Hp} (a : Same H H') : Keep p H H' := fun b o _ h => a b o h
theorem same_new {H : Hp} {p : Addr} {o : HO} (h : H p = none) : Same H (upd H p o) := fun b x e => by rw [upd_ne (ne_of_none e h)]; exact e
theorem Keep.new {p q : Addr} {H : Hp} {o : HO} (h : H q = none) : Keep p H (upd H q o) := Same.keep (same_new h)
/-! ### a pot of digits -/
def Pot (H : Hp) (p : Addr) : Prop := ∃ a b : Int, H p = some (.lst [.int a, .int b]) ∧ 0 ≤ a ∧ 0 ≤ b ∧ b < 4294967296
theorem Pot.new {H : Hp} {p q : Addr} {o : HO} (h : Pot H p) (n : H q = none) : Pot (upd H q o) p := by
  obtain ⟨a, b, e, r⟩ := h
  exact ⟨a, b, by rw [upd_ne (ne_of_none e n)]; exact e, r⟩
theorem Pot.ne {H : Hp} {p q : Addr} (h : Pot H p) (n : H q = none) : q ≠ p := by
  obtain ⟨a, b, e, r⟩ := h
  exact (ne_of_none e n).symm
theorem Pot.put {H : Hp} {p : Addr} {a b : Int} (h0 : 0 ≤ a) (h1 : 0 ≤ b) (h2 : b < 4294967296) : Pot (upd H p (.lst [.int a, .int b])) p := ⟨a, b, upd_same, h0, h1, h2⟩
/-- what a def that draws of a pot leaves: the pot, and all else as it was -/
structure Drawn (p : Addr) (H H' : Hp) : Prop where
  keep : Keep p H H'
  pot : Pot H' p
theorem Drawn.trans {p : Addr} {H H1 H2 : Hp} (a : Drawn p H H1) (b : Drawn p H1 H2) : Drawn p H H2 := ⟨a.keep.trans b.keep, b.pot⟩
theorem Drawn.new {p q : Addr} {H H' : Hp} {o : HO} (a : Drawn p H H') (h : H' q = none) : Drawn p H (upd H' q o) := ⟨a.keep.trans (Keep.new h), a.pot.new h⟩
def spDigit : Sp := fun vs H Q _ => ∃ (p : Addr) (n : Int), vs = [.ref p, .int n] ∧ Pot H p ∧ 0 < n ∧ n.natAbs.log2 < 9000 ∧ ∀ (d : Int) (H' : Hp), 0 ≤ d → d < n → Drawn p H H' → Q (.int d) H'
def spPot (K : PySem.W.Frag) : Sp := fun vs H Q _ => ∃ (a : Addr) (ns : List Int) (k : Int), vs = [.ref a, .int k] ∧ SqL K H a (ns.map V.int) ∧ 0 ≤ k ∧ k ≤ 1000000 ∧ ∀ (p : Addr) (H' : Hp), H p = none → Same H H' → Pot H' p → Q (.ref p) H'
end Gj

namespace Gj
open PySem PySem.Spec PyProof.Rows L2
open C8 (Cal pe_c pe_gc)
theorem at_some {α : Type} {xs : List α} {d : Int} (h0 : 0 ≤ d) (h1 : d < xs.length) : ∃ x, x ∈ xs ∧ atI xs d = some x := by
  have h : d.toNat < xs.length := by omega
  exact ⟨xs[d.toNat], List.getElem_mem h, at_of' h0 h⟩
where
  at_of' {α : Type} {xs : List α} {d : Int} (h0 : 0 ≤ d) (h : d.toNat < xs.length) : atI xs d = some xs[d.toNat] := by
    have e : d = (d.toNat : Int) := by omega
    have g : xs[d.toNat]? = some xs[d.toNat] := List.getElem?_eq_getElem h
    have := atI_nat g
    rw [← e] at this
    exact this
theorem take_snoc {α : Type} {l : List α} {i : Nat} {x : α} (h : l[i]? = some x) : l.take (i + 1) = l.take i ++ [x] := by
  rw [List.take_add_one, h]
  rfl
theorem Keep.same {p : Addr} {H H' : Hp} (h : Keep p H H') (n : H p = none) : Same H H' := fun b o e => h b o (ne_of_none e n) e
theorem Pot.same {H H' : Hp} {p : Addr} (h : Pot H p) (s : Same H H') : Pot H' p := by
  obtain ⟨a, b, e, r⟩ := h
  exact ⟨a, b, s _ _ e, r⟩
theorem Drawn.same {p : Addr} {H H' H2 : Hp} (a : Drawn p H H') (s : Same H' H2) : Drawn p H H2 := ⟨a.keep.trans (Same.keep s), a.pot.same s⟩
/-! ### a comprehension that draws signs, joined -/
theorem joinL_ones : ∀ l : List Nat, TL.joinL [] (l.map fun c => [c]) = l
  | [] => rfl
  | [_] => rfl
  | a :: b :: r => by
    show [a] ++ ([] ++ TL.joinL [] ((b :: r).map fun c => [c])) = a :: b :: r
    rw [joinL_ones (b :: r)]
    rfl
theorem join_signs (cs : List Nat) : Txt.join "" (cs.map fun c => SX.S [c]) = SX.S cs := by
  have e1 : (cs.map fun c => SX.S [c]) = (cs.map fun c => [c]).map SX.S := by rw [List.map_map]; rfl
  rw [e1, show ("" : Str) = SX.S [] from rfl, SX.join_S, joinL_ones]
/-- i signs of the kind G are drawn into the list at D -/
def Signs (G : Nat → Prop) (p D : Addr) (H : Hp) (i : Nat) (H' : Hp) : Prop := ∃ cs : List Nat, cs.length = i ∧ (∀ c ∈ cs, G c) ∧ Drawn p H H' ∧ D ≠ p ∧ H' D = some (.lst (cs.map fun c => V.str (SX.S [c])))
theorem Signs.start {G : Nat → Prop} {p D : Addr} {H : Hp} (hp : Pot H p) (hD : H D = none) : Signs G p D H 0 (upd H D (.lst [])) := ⟨[], rfl, (fun _ h => by cases h), ⟨Keep.new hD, hp.new hD⟩, hp.ne hD, upd_same⟩
theorem Signs.pot {G : Nat → Prop} {p D : Addr} {H H' : Hp} {i : Nat} (h : Signs G p D H i H') : Pot H' p := by
  obtain ⟨_, _, _, d, _⟩ := h
  exact d.pot
theorem Signs.next {G : Nat → Prop} {p D : Addr} {H H1 H2 : Hp} {i n : Nat} {c : Nat} (hi : i < n) (hn : n ≤ 1000) (hs : Signs G p D H i H1) (hD : H D = none) (r : Drawn p H1 H2) (hc : G c) :
    ∃ acc, H2 D = some (.lst acc) ∧ acc.length < sizeLine ∧ Signs G p D H (i + 1) (upd H2 D (.lst (acc ++ [.str ⟨#[c]⟩]))) := by
  obtain ⟨cs, hl, hg, dr, ne, e⟩ := hs
  refine ⟨_, r.keep _ _ ne e, ?_, cs ++ [c], ?_, ?_, ⟨fun b o nb eb => ?_, ?_⟩, ne, ?_⟩
  · rw [List.length_map]
    exact small1000 (by omega)
  · rw [List.length_append, hl]
    rfl
  · intro x hx
    rcases List.mem_append.mp hx with h | h
    · exact hg x h
    · rw [List.mem_singleton.mp h]
      exact hc
  · rw [upd_ne (ne_of_none eb hD)]
    exact r.keep _ _ nb (dr.keep _ _ nb eb)
  · obtain ⟨a, b, e2, z⟩ := r.pot
    exact ⟨a, b, by rw [upd_ne ne.symm]; exact e2, z⟩
  · rw [upd_same, List.map_append]
    rfl
theorem Signs.join {G : Nat → Prop} {p D : Addr} {H H1 : Hp} {n : Nat} (hn : n ≤ 1000) (hs : Signs G p D H n H1) :
    ∃ (cs : List Nat) (ys : List Str), cs.length = n ∧ (∀ c ∈ cs, G c) ∧ Drawn p H H1 ∧ H1 D = some (.lst (ys.map V.str)) ∧ (ys.map (·.length)).sum + ys.length * (PySem.Str.ofString "").length ≤ 16777216 ∧ Txt.join "" ys = SX.S cs := by
  obtain ⟨cs, hl, hg, dr, ne, e⟩ := hs
  have e2 : ((cs.map fun c => SX.S [c]).map (·.length)).sum = cs.length := by
    clear e dr hl hg
    induction cs with
    | nil => rfl
    | cons x l ih =>
      rw [List.map_cons, List.map_cons, List.sum_cons, ih, List.length_cons]
      show 1 + l.length = l.length + 1
      omega
  refine ⟨cs, cs.map fun c => SX.S [c], hl, hg, dr, ?_, ?_, join_signs cs⟩
  · rw [e, List.map_map]
    rfl
  · rw [e2]
    have : (PySem.Str.ofString "").length = 0 := rfl
    rw [this]
    omega
end Gj

/-! own layer: names by a pot -/
namespace Gj
open PySem PySem.Spec PyProof.Rows L2
open C8 (Cal pe_c pe_gc)
section
variable {X : Cx}
/-- xs != [], t != () -/
def rNeE (K : PySem.W.Frag) : R2 := fun x y H Q => ∃ (a b : Addr) (xs : List V), x = .ref a ∧ y = .ref b ∧ ((SqL K H a xs ∧ SqL K H b []) ∨ (SqT K H a xs ∧ SqT K H b [])) ∧ Q (.bl (!xs.isEmpty)) H
theorem op_neE (hu : X.A.units + 64 < cLine) : OpR X (compareOp .NotEq) (rNeE X.K) := by
  intro pins s σ H x y v u Q I rx ry h
  obtain ⟨a, b, xs, rfl, rfl, hq, q⟩ := h
  cases rx
  cases ry
  have hu0 : X.A.units < cLine := by omega
  rcases hq with ⟨h1, h2⟩ | ⟨h1, h2⟩
  · obtain ⟨its, r1, p1, _⟩ := I.list h1
    obtain ⟨ks, r2, p2, _⟩ := I.list h2
    cases r2
    cases xs with
    | nil =>
      cases r1
      exact SeqAt.RcNeAt.lists (e := fun _ => true) p1.isList p2.isList rfl hu0 (fun j h1 h2 => absurd h1 (Nat.not_lt_zero _)) X.prog X.w _ _ ⟨.bl _, H, I, rfl, q⟩
    | cons z l =>
      cases r1
      exact SeqAt.RcNeAt.lists_lengths p1.isList p2.isList (by simp) hu0 X.prog X.w _ _ ⟨.bl _, H, I, rfl, q⟩
  · obtain ⟨its, r1, p1, _⟩ := I.tuple h1
    obtain ⟨ks, r2, p2, _⟩ := I.tuple h2
    cases r2
    have := SeqAt.RcNeAt.tuples (A := X.A) (e := fun _ => true) p1 p2 hu0 (fun j h1 h2 => absurd h2 (Nat.not_lt_zero _)) X.prog X.w X.xe (EP X pins σ Q)
    refine this ⟨.bl _, H, I, ?_, q⟩
    cases xs with
    | nil =>
      cases r1
      rfl
    | cons z l =>
      cases r1
      simp
      rfl
end
/-! ### names -/
abbrev ltrs : List Nat := (PySem.Str.ofString "abcdefghijklmnopqrstuvwxyz").cps.toList
structure NameS (z : Str) : Prop where
  ex : ∃ cs : List Nat, z = SX.S cs ∧ 1 ≤ cs.length ∧ cs.length ≤ 8 ∧ ∀ c ∈ cs, c ∈ ltrs
theorem NameS.len {z : Str} (h : NameS z) : z.length ≤ 8 := by
  obtain ⟨cs, rfl, h1, h2, _⟩ := h.ex
  rw [SX.S_len]
  exact h2
theorem NameS.small {z : Str} (h : NameS z) : z.length ≤ 1000 := Nat.le_trans h.len (by decide)
theorem name_one {c : Nat} (h : c ∈ ltrs) : NameS (SX.S [c]) := ⟨[c], rfl, Nat.le_refl _, (by show 1 ≤ 8; decide), fun x hx => by rw [List.mem_singleton.mp hx]; exact h⟩
/-- a list without doubles within another one -/
theorem nodup_le {α : Type} [DecidableEq α] : ∀ (l D : List α), l.Nodup → (∀ x ∈ l, x ∈ D) → l.length ≤ D.length
  | [], _, _, _ => Nat.zero_le _
  | x :: l, D, hn, hs => by
    obtain ⟨h1, h2⟩ := List.nodup_cons.mp hn
    have hx : x ∈ D := hs x List.mem_cons_self
    have ih := nodup_le l (D.erase x) h2 fun y hy => (List.mem_erase_of_ne (fun e : y = x => h1 (e ▸ hy))).mpr (hs y (List.mem_cons_of_mem _ hy))
    have e := List.length_erase_of_mem hx
    have hp := List.length_pos_of_mem hx
    rw [List.length_cons]
    omega
theorem fresh_letter {us : List Str} (h : us.length ≤ 25) : ∃ c ∈ ltrs, SX.S [c] ∉ us := by
  rcases Classical.em (∃ c ∈ ltrs, SX.S [c] ∉ us) with q | q
  · exact q
  · exfalso
    have sub : ∀ z ∈ ltrs.map (fun c => SX.S [c]), z ∈ us := fun z hz => by
      obtain ⟨c, hc, rfl⟩ := List.mem_map.mp hz
      rcases Classical.em (SX.S [c] ∈ us) with k | k
      · exact k
      · exact absurd ⟨c, hc, k⟩ q
    have nd : (ltrs.map fun c => SX.S [c]).Nodup := by decide +kernel
    have := nodup_le _ us nd sub
    rw [List.length_map] at this
    have e : ltrs.length = 26 := by decide +kernel
    omega
def spName : Sp := fun vs H Q _ => ∃ (p u : Addr) (us : List Str), vs = [.ref p, .ref u] ∧ Pot H p ∧ u ≠ p ∧ H u = some (.lst (us.map V.str)) ∧ (∀ z ∈ us, NameS z) ∧ us.length ≤ 25 ∧ ∀ (z : Str) (H' : Hp), NameS z → z ∉ us → Drawn p H H' → Q (.str z) H'
def spNames : Sp := fun vs H Q _ => ∃ (p u : Addr) (us : List Str) (n : Nat), vs = [.ref p, .int (n : Nat), .ref u] ∧ Pot H p ∧ u ≠ p ∧ H u = some (.lst (us.map V.str)) ∧ (∀ z ∈ us, NameS z) ∧ us.length + n ≤ 25 ∧
  ∀ (q : Addr) (zs : List Str) (H' : Hp), H q = none → q ≠ p → zs.length = n → (∀ z ∈ zs, NameS z) → zs.Nodup → (∀ z ∈ zs, z ∉ us) → Drawn p H H' → H' q = some (.lst (zs.map V.str)) → Q (.ref q) H'
/-! ### words -/
abbrev wrds : List Nat := (PySem.Str.ofString "abcdefghijklmnopqrstuvwxyz0123456789").cps.toList
structure WordS (z : Str) : Prop where
  ex : ∃ cs : List Nat, z = SX.S cs ∧ 1 ≤ cs.length ∧ cs.length ≤ 12 ∧ ∀ c ∈ cs, c ∈ wrds
theorem WordS.small {z : Str} (h : WordS z) : z.length ≤ 1000 := by
  obtain ⟨cs, rfl, h1, h2, _⟩ := h.ex
  rw [SX.S_len]
  omega
def spWord : Sp := fun vs H Q _ => ∃ (p : Addr), vs = [.ref p] ∧ Pot H p ∧ ∀ (z : Str) (H' : Hp), WordS z → Drawn p H H' → Q (.str z) H'
def spWhole : Sp := fun vs H Q _ => ∃ (p : Addr) (n : Int), vs = [.ref p, .int n] ∧ Pot H p ∧ ∀ (i : Int) (H' : Hp), n ≤ i → i < n + 10 ^ 30 → Drawn p H H' → Q (.int i) H'
theorem inV_strs {z : Str} {us : List Str} : inV (.str z) (us.map V.str) = decide (z ∈ us) := by
  induction us with
  | nil => rfl
  | cons y l ih =>
    show (eqV (.str y) (.str z) || inV (.str z) (l.map V.str)) = _
    rw [ih]
    show ((y == z) || decide (z ∈ l)) = decide (z ∈ y :: l)
    by_cases e : z = y
    · subst e
      rw [beq_self_eq_true, decide_eq_true (List.mem_cons_self)]
      rfl
    · rw [beq_eq_false_iff_ne.mpr fun h => e h.symm]
      by_cases h : z ∈ l
      · rw [decide_eq_true h, decide_eq_true (List.mem_cons_of_mem _ h)]
        rfl
      · rw [decide_eq_false h, decide_eq_false fun q => (List.mem_cons.mp q).elim e h]
        rfl
theorem flat_strs (us : List Str) : (us.map V.str).all flatV = true := by
  induction us with
  | nil => rfl
  | cons y l ih => exact ih
end Gj

/-! own layer: own exception classes over any built-in one, with fields -/
namespace Gj
open PySem PySem.Spec PyProof.Rows L2
open C8 (Cal pe_c pe_gc)
/-- what the written part says of an own exception class whose mro ends in tl -/
structure ExK (K : PySem.W.Frag) (C : Addr) (tl : List Value) (newId : String) : Prop where
  cls : ∃ nm q N bs bm sn sub ab col dd k0 k1 k2 k3 k5, K.lookup C = some (excClassObj nm q C N bs bm true sn sub ab col dd k0 k1 k2 k3 k5 newId) ∧ PySem.W.excTail tl bm = true
  sa : PySem.W.findIn K (.ref C) "__setattr__" = some (some (.builtin "object.__setattr__"))
  tyC : PySem.W.typeIn K (.ref C) = some (.type "type")
  kC : PySem.W.keepIn K (.ref C) = true
  ex : ExcC K C
theorem ExK.xf {K : PySem.W.Frag} {C : Addr} {tl : List Value} {newId : String} (T : ExK K C tl newId) : XfC K C := ⟨T.ex.hg, T.ex.hk, T.ex.hs, T.ex.hd⟩
theorem ExK.over {K : PySem.W.Frag} {C : Addr} {tl : List Value} {newId : String} (T : ExK K C tl newId) : PySem.W.excOver K C tl = true := by
  obtain ⟨nm, q, N, bs, bm, sn, sub, ab, col, dd, k0, k1, k2, k3, k5, hC, ht⟩ := T.cls
  have hc : PySem.W.clsIn K C = some { name := nm, bases := bs, mro := .ref C :: bm, ns := N, qualname := q, hasDict := true, slotNames := sn, subclasses := sub, abstract := ab, collection := col, hasDel := false } := by
    unfold PySem.W.clsIn
    rw [hC] <;> rfl
  unfold PySem.W.excOver
  rw [hc]
  show (decide (C = C) && PySem.W.excTail tl bm) = true
  rw [ht, decide_eq_true rfl]
  rfl
theorem taker_none {K : PySem.W.Frag} {C : Addr} {f : Str} (h : PySem.W.findIn K (.ref C) f = some none) : PySem.W.takerIn K C f = some none := by
  unfold PySem.W.takerIn
  rw [h] <;> rfl
section
variable {X : Cx} {pins : List (Addr × Obj)} {σ : L2.St} {H : Hp} {s : Shared} {a C dx : Addr} {f : Str} {y : V} {u : Value} {fs : List (Str × V)} {Q : Unit → Shared → Prop} {E : Value → Shared → Prop} {A : Around} {B newId : String} {tl : List Value}
theorem xost_new (SF : StoreFacts B tl "object.__setattr__" "object") (T : ExK X.K C tl newId) (I : Inv X pins σ H s) (e : H a = some (exo a C none)) (hno : PySem.W.findIn X.K (.ref C) f = some none) (ry : RelV y u)
    (h : ∀ dx s', H dx = none → dx ≠ a → Inv X pins σ (upd (upd H dx (exd dx [(f, y)])) a (exo a C (some dx))) s' → Q () s') : wpAny (model X.prog X.w) A (setAttr (.ref a) f u) Q E s := by
  obtain ⟨t1, ho⟩ := exo_at I.hok e
  obtain ⟨cd, hc, hdt⟩ := PySem.W.any_some T.ex.hd
  obtain ⟨hp, g, d, t, os⟩ := s
  refine PySem.W.set_plain I.kIn (od := none) ⟨ho, rfl, rfl, trivial⟩ T.sa (PySem.W.osa_openX (s := ⟨hp, g, d, t + 1, os⟩) SF I.kIn (od := none) ⟨ho, rfl, rfl, trivial⟩ T.over (taker_none hno) fun b => ?_)
  refine wpAny_bind (wpAny_pure (wpAny_bind (PySem.W.instanceDict_exc ho (PySem.W.looks_clsIn I.kIn hc) hdt ?_)))
  have as : a < hp.objs.size := Heap.lt_size ho
  have nh : H hp.objs.size = none := I.hok.fresh (Nat.le_refl _)
  have ne : hp.objs.size ≠ a := Nat.ne_of_gt as
  have up1 : (((hp.push (PySem.W.dictOf [] 0)).update a fun o => { o with dict := some hp.objs.size }).get? a) = some ({ cls := .ref C, dict := some hp.objs.size, data := .fields #[.ref t1, .none, .none, .none, .bool false, .none] } : Obj) := Heap.get?_update_self _ (Heap.get?_push_of_some _ ho) rfl
  have up2 : ∀ b o, b ≠ a → hp.get? b = some o → (((hp.push (PySem.W.dictOf [] 0)).update a fun o => { o with dict := some hp.objs.size }).get? b) = some o := fun b o nb q => (Heap.get?_update_ne _ _ _ _ nb).trans (Heap.get?_push_of_some _ q)
  have up3 : (((hp.push (PySem.W.dictOf [] 0)).update a fun o => { o with dict := some hp.objs.size }).get? hp.objs.size) = some (PySem.W.dictOf [] 0) := (Heap.get?_update_ne _ _ _ _ ne).trans (Heap.get?_push_size _ rfl)
  show wpAny _ _ (Builtin.ObjectAttr.storeInDict hp.objs.size (.str f t) f u) _ _ _
  refine PySem.HandSPX.store_in_new ⟨_, #[], _, up3, rfl, fun e he => absurd he (by simp), fun _ => rfl⟩ fun h' tk' hn sb => ?_
  have old : ∀ b o, b ≠ a → hp.get? b = some o → h'.get? b = some o := fun b o nb q => (sb.2 b (Nat.ne_of_lt (Heap.lt_size q))).trans (up2 b o nb q)
  have newA := (sb.2 a ne.symm).trans up1
  have na : ∀ {b : Addr}, H b = none → b ≠ a := fun {b} n z => by rw [z, e] at n; cases n
  have nd : ∀ {b : Addr} {o : Obj}, hp.get? b = some o → b ≠ hp.objs.size := fun {b o} q => Nat.ne_of_lt (Heap.lt_size q)
  refine h hp.objs.size ⟨h', g, d, tk', os⟩ nh ne (I.un (t' := tk') (h' := h') ⟨fun b o q n _ _ => old b o (na n) q, fun b o q n _ _ => ⟨o.slots, old b o (na n) q⟩, fun b o q n _ => ?_, fun b o q _ => ?_, fun b xs q => ?_, fun b o v q => ?_, fun b ps q => ⟨#[], ?_⟩⟩ fun b o q => ?_)
  · rw [upd_ne (na n), upd_ne (nd q)]; exact n
  · by_cases hb : b = a
    · rw [hb]; exact ⟨_, newA⟩
    · exact ⟨o, old b o hb q⟩
  · rw [upd_ne (at_ne e q exo_tup), upd_ne (ne_of_none q nh)]; exact q
  · rw [upd_ne (at_ne e q exo_frz), upd_ne (ne_of_none q nh)]; exact q
  · rw [upd_ne (at_ne e q exo_tbl), upd_ne (ne_of_none q nh), q]; simp
  · by_cases hb : b = a
    · rw [hb, upd_same] at q; cases q; rw [hb]; exact exo_ok newA
    · rw [upd_ne hb] at q
      by_cases hd : b = hp.objs.size
      · rw [hd, upd_same] at q; cases q; rw [hd]; exact exd_ok hn (relO_put (fs := []) ry fun g => True.intro)
      · rw [upd_ne hd] at q
        refine (I.hok b o q).stay (fun c v hc z => old c v ?_ z) (fun c hc => ?_) fun c xs hc => ?_
        · rcases hc with hc | hc
          · rw [hc]; exact hb
          · exact at_ne e hc exo_own
        · rw [upd_ne (at_ne e hc exo_own), upd_ne (ne_of_none hc nh)]; exact hc
        · rw [upd_ne (at_ne e hc exo_tup), upd_ne (ne_of_none hc nh)]; exact hc
theorem xost_old (SF : StoreFacts B tl "object.__setattr__" "object") (T : ExK X.K C tl newId) (I : Inv X pins σ H s) (e : H a = some (exo a C (some dx))) (ed : H dx = some (exd dx fs)) (hl : fs.length ≤ 900) (hno : PySem.W.findIn X.K (.ref C) f = some none) (ry : RelV y u)
    (h : ∀ s', Inv X pins σ (upd H dx (exd dx ((f, y) :: fs))) s' → Q () s') : wpAny (model X.prog X.w) A (setAttr (.ref a) f u) Q E s := by
  obtain ⟨t1, ho⟩ := exo_at I.hok e
  obtain ⟨mA, hns, rel⟩ := exd_at I.hok ed
  obtain ⟨cd, hc, hdt⟩ := PySem.W.any_some T.ex.hd
  obtain ⟨oD, _, _, hoD, _, _⟩ := hns.count (within_of rel)
  obtain ⟨hp, g, d, t, os⟩ := s
  refine PySem.W.set_plain I.kIn (od := some oD) ⟨ho, rfl, rfl, hoD⟩ T.sa (PySem.W.osa_openX (s := ⟨hp, g, d, t + 1, os⟩) SF I.kIn (od := some oD) ⟨ho, rfl, rfl, hoD⟩ T.over (taker_none hno) fun b => ?_)
  refine wpAny_bind (wpAny_pure (wpAny_bind (wpAny_bind (wpAny_loadPart ho (wpAny_bind ((PySem.W.looks_clsIn (show X.K.In hp from I.kIn) hc).here ?_))))))
  rw [hdt]
  refine wpAny_pure (a := some dx) (PySem.OEX.store_in_old hns (within_of rel) (by rw [List.length_map]; omega) fun h' tk' hn sb => ?_)
  have hd : ∃ o, h'.get? dx = some o := by
    obtain ⟨o, _, _, e', _⟩ := hn
    exact ⟨o, e'⟩
  exact h _ (I.write (t' := tk') (x := dx) (e := dx) (o := exd dx ((f, y) :: fs)) (by rw [ed]; exact True.intro) (.inl rfl) (fun b o nb q => (sb.2 b nb).trans q) hd (exd_ok hn (relO_put ry rel)))
end
/-- self.f = e within the __init__ of such a class -/
def tXst (K : PySem.W.Frag) (tl : List Value) (newId : String) (f : Str) (to te : TE) : TS := fun D σ H => te σ H fun y H1 => to σ H1 fun x H2 => ∃ a C : Addr, x = .ref a ∧ ExK K C tl newId ∧ PySem.W.findIn K (.ref C) f = some none ∧
  ((H2 a = some (exo a C none) ∧ ∀ dx, H2 dx = none → dx ≠ a → D.nx σ (upd (upd H2 dx (exd dx [(f, y)])) a (exo a C (some dx)))) ∨
    ∃ (dx : Addr) (fs : List (Str × V)), H2 a = some (exo a C (some dx)) ∧ H2 dx = some (exd dx fs) ∧ fs.length ≤ 900 ∧ D.nx σ (upd H2 dx (exd dx ((f, y) :: fs))))
section
variable {X : Cx} {o e : Expr} {es : List Expr} {to te : TE} {ta : TA} {f : Str} {p p' pos : Pos} {B newId initId : String} {tl : List Value}
theorem ps_xst (SF : StoreFacts B tl "object.__setattr__" "object") (ho : PE X o to) (he : PE X e te) (hs : swapsWith e (some (.Attribute o f p')) pos.line X.env = pure false := by rfl) : PS X (.Assign [.Attribute o f p'] e pos) (tXst X.K tl newId f to te) := by
  refine ⟨fun pins s σ H D I h => ?_⟩
  refine plainObj_wpAny_Assign_Attribute (thn (he.run pins s σ H _ I h) fun v s1 ⟨y, H1, I1, r1, q1⟩ => thn (ho.run pins s1 σ H1 _ I1 q1) fun u s2 ⟨x, H2, I2, r2, a, C, ex, T, hno, q⟩ => ?_) hs
  subst ex
  obtain rfl : u = Value.ref a := r2
  rcases q with ⟨ea, q⟩ | ⟨dx, fs, ea, ed, hl, q⟩
  · exact xost_new SF T I2 ea hno r1 fun dx s' n ne J => ⟨σ, _, J, q dx n ne⟩
  · exact xost_old SF T I2 ea ed hl hno r1 fun s' J => ⟨σ, _, J, q⟩
/-- the call of such a class, from the arguments' values -/
theorem xmake {CX : CXT} {pins : List (Addr × Obj)} {σ : L2.St} {H1 : Hp} {hp : Heap} {g : Array GenState} {dr : PySem.Drawn} {tk : Nat} {os : OsState} {C fI : Addr} {k : Nat} {fd : FuncData} {ps : List Str} {sp : Sp} {vs : List V} {us : List Value} {Q : Value → Shared → Prop}
    (FB : ExcBaseFacts B newId initId tl) (T : ExK X.K C tl newId) (iC : PySem.W.findIn X.K (.ref C) "__init__" = some (some (.ref fI))) (tI : PySem.W.typeIn X.K (.ref fI) = some (.type "function"))
    (F1 : FnOk X.prog X.w X.K X.mg X.base CX k fI fd ps sp) (hr : Room (k + 1) X.A) (hb : Binds X.K fd ps []) (hx : Passes CX X (fun _ _ _ => False)) (I1 : Inv X pins σ H1 ⟨hp, g, dr, tk, os⟩) (r1 : Vals vs us) (hz : vs.length ≤ 1000)
    (q : V → Hp → Prop) (hq : ∀ a, H1 a = none → sp (.ref a :: vs) (upd H1 a (exo a C none)) (fun v H2 => v = .non ∧ q (.ref a) H2) (fun _ _ _ => False))
    (fin : ∀ (a : Addr) (h2 : Heap) (g2 : Array GenState) (d2 : PySem.Drawn) (t2 : Nat) (hp2 : Heap) (H2 : Hp), hp.objs.size ≤ a → H1 a = none → (∀ b o, hp.get? b = some o → hp2.get? b = some o) → Un (frs X.stack) [] (upd H1 a (exo a C none)) H2 hp2 h2 → HOk X.prog X.w H2 h2 → AllBare g2 →
      Inv X pins σ (upd H1 a (exo a C none)) ⟨hp2, g, dr, tk, os⟩ → q (.ref a) H2 → Q (.ref a) ⟨h2, g2, d2, t2, os⟩) :
    wpAny (model X.prog X.w) X.A (call (.ref C) us) Q X.xe ⟨hp, g, dr, tk, os⟩ := by
  obtain ⟨nm, qn, N, bs, bm, sn, sub, ab, col, dd, k0, k1, k2, k3, k5, hC, ht⟩ := T.cls
  have sz : hp.objs.size ≤ hp.objs.size + 1 := Nat.le_succ _
  have n1 : H1 (hp.objs.size + 1) = none := I1.hok.fresh sz
  have keep : ∀ b o, hp.get? b = some o → ((hp.push (PySem.W.kdv_tup us)).push (PySem.HandSPX.excO C hp.objs.size)).get? b = some o := fun b o z => Heap.get?_push_of_some _ (Heap.get?_push_of_some _ z)
  have got : ((hp.push (PySem.W.kdv_tup us)).push (PySem.HandSPX.excO C hp.objs.size)).get? (hp.objs.size + 1) = some (PySem.HandSPX.excO C hp.objs.size) := by heap_get
  have I2 := I1.laid (t' := tk) (a := hp.objs.size + 1) (o := exo (hp.objs.size + 1) C none) (h' := (hp.push (PySem.W.kdv_tup us)).push (PySem.HandSPX.excO C hp.objs.size)) keep sz (exo_ok got)
  have rr : Vals (V.ref (hp.objs.size + 1) :: vs) (Value.ref (hp.objs.size + 1) :: us) := .cons rfl r1
  have sp1 := hq _ n1
  have len : (Value.ref (hp.objs.size + 1) :: us ++ []).length = ps.length := by
    rw [List.append_nil, ← rr.length]
    exact F1.len _ _ _ _ sp1
  have lus : us.length ≤ sizeLine := by rw [← Paired.length r1, sizeLine_eq]; omega
  have bnd := hb ⟨(hp.push (PySem.W.kdv_tup us)).push (PySem.HandSPX.excO C hp.objs.size), g, dr, tk, os⟩ (Value.ref (hp.objs.size + 1) :: us) I2.kIn len
  rw [List.append_nil] at bnd
  refine wpAny_call (PySem.HandSPX.call_own FB (fun Y => PySem.W.excTail_contains Y bm ht) (I1.kIn _ _ hC) (PySem.W.looks_findIn I1.kIn iC) (fun self => PySem.W.bind_fn I1.kIn self tI) lus
    (codeAny_mono (F1.run _ X.stack _ _ _ _ _ _ _ (hr.make C us []) (I2.env0.make C us []) bnd rr sp1) fun r s' z => ?_))
  cases r with
  | error er => exact hx pins σ _ _ er s' I2 z
  | ok fl =>
    cases fl with
    | ret u =>
      obtain ⟨v, H2, os2, bare2, un2, hok2, rv, ev, q2⟩ := z
      subst ev
      obtain ⟨h2, g2, d2, t2, os'⟩ := s'
      cases os2
      exact ⟨rv, fin _ h2 g2 d2 t2 _ H2 sz n1 keep un2 hok2 bare2 I2 q2⟩
    | next => exact False.elim z
    | brk => exact False.elim z
    | cont => exact False.elim z
end
end Gj

namespace Gj
open PySem PySem.Spec PyProof.Rows L2
open C8 (Cal pe_c pe_gc)
/-- an __init__ that stores its arguments by these names -/
def spInit (C : Addr) (fs : List Str) : Sp := fun vs H Q _ => ∃ (a : Addr) (ws : List V), vs = .ref a :: ws ∧ ws.length = fs.length ∧ H a = some (exo a C none) ∧
  ∀ (H' : Hp) (dx : Addr), H dx = none → dx ≠ a → (∀ b o, b ≠ a → H b = some o → H' b = some o) → H' a = some (exo a C (some dx)) → H' dx = some (exd dx (fs.zip ws).reverse) → Q .non H'
/-- an own exception class with these fields, by the module's name x -/
structure Exn (P : Program) (w : World) (K : PySem.W.Frag) (mg : Str → Option Value) (base : Heap) (x : Str) (C : Addr) (tl : List Value) (newId : String) (fs : List Str) : Prop where
  T : ExK K C tl newId
  g : mg x = some (.ref C)
  small : fs.length ≤ 900
  ini : ∃ (fI : Addr) (fd : FuncData) (ps : List Str), PySem.W.findIn K (.ref C) "__init__" = some (some (.ref fI)) ∧ PySem.W.typeIn K (.ref fI) = some (.type "function") ∧ FnOk P w K mg base CX0 1 fI fd ps (spInit C fs) ∧ Binds K fd ps []
/-- raise C(..): the fields' dict at d -/
def tRz (C : Addr) (fs : List Str) (ta : TA) : L2.St → Hp → XK → Prop := fun σ H Q => ta σ H fun ws H1 => ws.length = fs.length ∧ ∀ d H', H1 d = none → Same H1 H' → H' d = some (.xd (fs.zip ws).reverse) → Q (.ref C) (some d) H'
/-- C(..) as a value -/
def tXv (C : Addr) (fs : List Str) (ta : TA) : TE := fun σ H Q => ta σ H fun ws H1 => ws.length = fs.length ∧ ∀ a d H', H1 a = none → H1 d = none → d ≠ a → Same H1 H' → H' a = some (exo a C (some d)) → H' d = some (exd d (fs.zip ws).reverse) → Q (.ref a) H'
section
variable {X : Cx} {e : Expr} {es : List Expr} {ta : TA} {x : Str} {p pos : Pos} {B newId initId : String} {tl : List Value} {C : Addr} {fs : List Str}
theorem pmk_xn (FB : ExcBaseFacts B newId initId tl) (N : Exn X.prog X.w X.K X.mg X.base x C tl newId fs) (hr : Room 2 X.A) (hg : Gl X x) (ha : PA X (e :: es) ta)
    (hdb : (x == ("__debug__" : Str)) = false := by decide) (he : starEach (e :: es) X.env = (false, eval e X.env) :: starEach es X.env := by rfl) (hpl : (backTo pos (starEach es X.env)).any (·.1) = false := by rfl) :
    PMk X (.Call (.Name x p) (e :: es) [] pos) (tRz C fs ta) := by
  intro pins s σ H Q I h
  obtain ⟨fI, fd, ps, iC, tI, F1, hb⟩ := N.ini
  refine wpAny_Call_Name_kw (ld_glob I hg N.g ?_ hdb)
  refine PySem.W.callWith_K (h₀ := X.base) I.ok.mod.kin N.T.kC (thn (ha.run pos pins s σ H _ I h) fun us s1 ⟨ws, H1, I1, r1, hz, q1⟩ => ⟨I1.kIn, ?_⟩) he hpl
  obtain ⟨hp, g, dr, tk, os⟩ := s1
  have small := N.small
  refine xmake FB N.T iC tI F1 hr hb pass0 I1 r1 (by omega) (fun v H2 => ∃ a d, v = .ref a ∧ H1 a = none ∧ H1 d = none ∧ d ≠ a ∧ Same H1 H2 ∧ H2 a = some (exo a C (some d)) ∧ H2 d = some (exd d (fs.zip ws).reverse)) (fun a na => ?_) fun a h2 g2 d2 t2 hp2 H2 sz na k un hok bare I2 q => ?_
  · refine ⟨a, ws, rfl, hz, upd_same, fun H2 d nd ne kp ea ed => ⟨rfl, a, d, rfl, na, ?_, ne, fun b o z => kp b o (ne_of_none z na) (by rw [upd_ne (ne_of_none z na)]; exact z), ea, ed⟩⟩
    rw [upd_ne ne] at nd
    exact nd
  · obtain ⟨a', d, ea', _, nd, ne, sm, ea, ed⟩ := q
    cases ea'
    refine mk_end (raises_own N.T.ex.hs N.T.tyC) I1 sz k un hok rfl bare ea ed nd (q1 d _ nd (fun b o z => ?_) upd_same)
    rw [upd_ne (ne_of_none z nd), del_ne (ne_of_none z na)]
    exact sm b o z
theorem pe_xn (FB : ExcBaseFacts B newId initId tl) (N : Exn X.prog X.w X.K X.mg X.base x C tl newId fs) (hr : Room 2 X.A) (hg : Gl X x) (ha : PA X (e :: es) ta)
    (hdb : (x == ("__debug__" : Str)) = false := by decide) (he : starEach (e :: es) X.env = (false, eval e X.env) :: starEach es X.env := by rfl) (hpl : (backTo pos (starEach es X.env)).any (·.1) = false := by rfl) :
    PE X (.Call (.Name x p) (e :: es) [] pos) (tXv C fs ta) := by
  refine ⟨fun pins s σ H Q I h => ?_⟩
  obtain ⟨fI, fd, ps, iC, tI, F1, hb⟩ := N.ini
  refine wpAny_Call_Name_kw (ld_glob I hg N.g ?_ hdb)
  refine PySem.W.callWith_K (h₀ := X.base) I.ok.mod.kin N.T.kC (thn (ha.run pos pins s σ H _ I h) fun us s1 ⟨ws, H1, I1, r1, hz, q1⟩ => ⟨I1.kIn, ?_⟩) he hpl
  obtain ⟨hp, g, dr, tk, os⟩ := s1
  have small := N.small
  refine xmake FB N.T iC tI F1 hr hb pass0 I1 r1 (by omega) (fun v H2 => ∃ a d, v = .ref a ∧ H1 a = none ∧ H1 d = none ∧ d ≠ a ∧ Same H1 H2 ∧ H2 a = some (exo a C (some d)) ∧ H2 d = some (exd d (fs.zip ws).reverse)) (fun a na => ?_) fun a h2 g2 d2 t2 hp2 H2 sz na k un hok bare I2 q => ?_
  · refine ⟨a, ws, rfl, hz, upd_same, fun H2 d nd ne kp ea ed => ⟨rfl, a, d, rfl, na, ?_, ne, fun b o z => kp b o (ne_of_none z na) (by rw [upd_ne (ne_of_none z na)]; exact z), ea, ed⟩⟩
    rw [upd_ne ne] at nd
    exact nd
  · obtain ⟨a', d, ea', _, nd, ne, sm, ea, ed⟩ := q
    cases ea'
    exact ⟨.ref a, H2, I2.call' (ch := []) rfl un hok bare (fun b z => absurd z (by simp)), rfl, q1 a d H2 na nd ne sm ea ed⟩
end
/-! ### isinstance, fields -/
theorem kit_exn {K : PySem.W.Frag} {C x : Addr} {ox : Obj} {od : Option Obj} (T : ExcC K C) : PySem.W.KitX K (.ref x) (.ref C) (fun h => PySem.W.InstAt h x ox C od) :=
  PySem.W.kitx_exc (by obtain ⟨cd, hc, _⟩ := PySem.W.any_some T.hd; rw [hc]; rfl) T.hg T.hk T.hs T.ha T.hn T.ht T.hm
/-- isinstance(e, c), e the caught exception at a of the class D, its fields' dict at d -/
def rIsX (K : PySem.W.Frag) (D a d : Addr) : List V → Hp → VK → Prop := fun xs H Q => ∃ (c : V) (cv : Value) (b : Bool) (fs : List (Str × V)), xs = [.ref a, c] ∧ ClsV c cv ∧ H d = some (.xd fs) ∧ PySem.W.kitOne K (.ref D) cv = some b ∧ Q (.bl b) H
theorem call_isX {X : Cx} {a D d : Addr} {oe : Obj} {pn : List (Addr × Obj)} (T : ExcC X.K D) (hz : Zc (.ref D) (some d) oe) (hf : ∃ vs, oe.data = .fields vs) : CallR (X.suite a ((a, oe) :: pn)) (.builtin "isinstance") (rIsX X.K D a d) := by
  intro pins s σ H xs us Q I r h
  obtain ⟨c, cv, b, fs, rfl, hcv, ed, e, q⟩ := h
  obtain ⟨u1, u2, rfl, r1, r2⟩ := vals2 r
  cases r1
  have ec := hcv.eq r2
  subst ec
  obtain ⟨got, _⟩ := I.pin (a, oe) (List.mem_append.mpr (.inl List.mem_cons_self))
  obtain ⟨vs, hv⟩ := hf
  obtain ⟨mA, hns, _⟩ := (show ObjOk X.prog X.w H s.heap d (.xd fs) from I.hok d _ ed)
  obtain ⟨od, _, _, god, _⟩ := hns
  have J : PySem.W.InstAt s.heap a oe D (some od) := ⟨got, hz.1, by unfold PySem.W.notCls; rw [hv] <;> rfl, by rw [hz.2]; exact god⟩
  exact PySem.W.kia_one (kit_exn T) I.kIn J e (fun z => nomatch z) fun tk => ⟨.bl b, H, I.tok tk, rfl, q⟩
/-- isinstance(e, c), e an exception held as a value -/
def rIsV (K : PySem.W.Frag) : List V → Hp → VK → Prop := fun xs H Q => ∃ (a D : Addr) (d : Option Addr) (c : V) (cv : Value) (b : Bool), xs = [.ref a, c] ∧ ClsV c cv ∧ ExcC K D ∧ H a = some (exo a D d) ∧ (∀ x, d = some x → ∃ fs, H x = some (exd x fs)) ∧ PySem.W.kitOne K (.ref D) cv = some b ∧ Q (.bl b) H
theorem call_isV {X : Cx} : CallR X (.builtin "isinstance") (rIsV X.K) := by
  intro pins s σ H xs us Q I r h
  obtain ⟨a, D, d, c, cv, b, rfl, hcv, T, ea, ed, e, q⟩ := h
  obtain ⟨u1, u2, rfl, r1, r2⟩ := vals2 r
  cases r1
  have ec := hcv.eq r2
  subst ec
  obtain ⟨t1, got⟩ := exo_at I.hok ea
  obtain ⟨od, J⟩ : ∃ od, PySem.W.InstAt s.heap a { cls := .ref D, dict := d, data := .fields #[.ref t1, .none, .none, .none, .bool false, .none] } D od := by
    cases d with
    | none => exact ⟨none, got, rfl, rfl, trivial⟩
    | some x =>
      obtain ⟨fs, ex⟩ := ed x rfl
      obtain ⟨mA, ⟨od, _, _, god, _⟩, _⟩ := exd_at I.hok ex
      exact ⟨some od, got, rfl, rfl, god⟩
  exact PySem.W.kia_one (kit_exn T) I.kIn J e (fun z => nomatch z) fun tk => ⟨.bl b, H, I.tok tk, rfl, q⟩
/-- e.f, e an exception held as a value -/
def tXfv (K : PySem.W.Frag) (f : Str) (te : TE) : TE := fun σ H Q => te σ H fun x H1 => ∃ (a C d : Addr) (fs : List (Str × V)) (v : V), x = .ref a ∧ XfC K C ∧ PySem.W.findIn K (.ref C) f = some none ∧ H1 a = some (exo a C (some d)) ∧ H1 d = some (exd d fs) ∧ fs.lookup f = some v ∧ Q v H1
theorem pe_xfv {X : Cx} {e : Expr} {te : TE} {pos : Pos} {n : Str} (he : PE X e te) (hb : attributeBase e n X.env (eval e X.env) = eval e X.env := by rfl) : PE X (.Attribute e n pos) (tXfv X.K n te) := by
  refine ⟨fun pins s σ H Q I h => ?_⟩
  refine attr_of hb (thn (he.run pins s σ H _ I h) fun u s1 hh => ?_)
  obtain ⟨x, H1, I1, rx, a, C, d, fs, v, rfl, T, hno, ea, ed, l, q⟩ := hh
  cases rx
  obtain ⟨t1, got⟩ := exo_at I1.hok ea
  obtain ⟨mA, hns, hr⟩ := exd_at I1.hok ed
  obtain ⟨od, ho, hl⟩ := lookIn_ns hns
  obtain ⟨u, hu, ru⟩ := RelO.some_of (v := v) (o := mA n) (by rw [← l]; exact hr n)
  exact HandSPX.exc_get I1.kIn (od := some od) ⟨got, rfl, rfl, ho⟩ T.ga T.gg T.exC (PySem.W.findObj_own T.hdC hno rfl (by rw [hl, hu])) (handed_of ru) ⟨v, H1, I1.tok _, ru, q⟩
end Gj

/-! own layer: data in the heap (lists, tuples, empty dicts), beside a pot at p -/
namespace Gj
open PySem PySem.Spec PyProof.Rows L2
open C8 (Cal pe_c pe_gc)
section
open PySem.SeqAt AutoSeq1 MeetsSeq
/-! ### a dict and a text are unlike -/
theorem dict_no_str (l : Addr) (o : Obj) (hc : o.cls = .type "dict") (b : Str) (u : Tok) : Meets (Builtin.«dict.__eq__» ⟨[.ref l, .str b u], []⟩) (fun _ R s => s.heap.get? l = some o ∧ R (.ok (.ret .notImplemented)) s) :=
  .of_wp fun prog w A R s h => by
    obtain ⟨hp, g, d, tk, os⟩ := s
    obtain ⟨hl, h⟩ := h
    have f1 := F.sub_str_dict
    wp_walk using wpAny_loadPart' hl
    exact ⟨_, rfl, h⟩
theorem str_no_dict (l : Addr) (c : Value) (dd : Option Addr) (es : Array DictEntry) (n : Nat) (sl : Array (Option Value)) (b : Str) (u : Tok) : Meets (Builtin.«str.__eq__» ⟨[.str b u, .ref l], []⟩) (fun _ R s => s.heap.get? l = some ⟨c, dd, .dict es n, sl⟩ ∧ R (.ok (.ret .notImplemented)) s) :=
  .of_wp fun prog w A R s h => by
    obtain ⟨hp, g, d, tk, os⟩ := s
    obtain ⟨hl, h⟩ := h
    wp_walk using wpAny_loadPart' hl, wpAny_load hl
    exact ⟨_, rfl, h⟩
variable {A : Around} {s : Shared}
theorem rc_dict_str {l : Addr} {dd : Option Addr} {es : Array DictEntry} {n : Nat} {sl : Array (Option Value)} (b : Str) (u : Tok) (ho : s.heap.get? l = some ⟨.type "dict", dd, .dict es n, sl⟩) (hu : A.units < cLine) : RcAt A s (.ref l) (.str b u) false := fun prog w E Q h =>
  rc_eq_decline_or (k := false) ⟨_, ho, rfl⟩ (typeIs_str s b u) (by decide) F.sub_str_dict F.slot_dict_eq F.slot_str_eq_refl
    (fun _ hq => call_meets F.slot_dict_eq ⟨_, ho, rfl⟩ F.entry_dict_eq (F.args_dict_eq_2 _ _) (dict_no_str l _ rfl b u) ⟨ho, hq⟩)
    (fun _ hq => call_meets F.slot_str_eq_refl (typeIs_str s b u) F.entry_str_eq (F.args_str_eq_2 _ _) (str_no_dict l _ _ _ _ _ b u) ⟨ho, hq⟩)
    (fun _ hq => wpAny_of_eq (rfl : isSame (.ref l) (.str b u) = pure false) hq) (.inr hu) h
theorem rc_str_dict {l : Addr} {dd : Option Addr} {es : Array DictEntry} {n : Nat} {sl : Array (Option Value)} (b : Str) (u : Tok) (ho : s.heap.get? l = some ⟨.type "dict", dd, .dict es n, sl⟩) (hu : A.units < cLine) : RcAt A s (.str b u) (.ref l) false := fun prog w E Q h =>
  rc_eq_decline_or (k := false) (typeIs_str s b u) ⟨_, ho, rfl⟩ (by decide) F.sub_dict_str F.slot_str_eq F.slot_dict_eq_refl
    (fun _ hq => call_meets F.slot_str_eq (typeIs_str s b u) F.entry_str_eq (F.args_str_eq_2 _ _) (str_no_dict l _ _ _ _ _ b u) ⟨ho, hq⟩)
    (fun _ hq => call_meets F.slot_dict_eq_refl ⟨_, ho, rfl⟩ F.entry_dict_eq (F.args_dict_eq_2 _ _) (dict_no_str l _ rfl b u) ⟨ho, hq⟩)
    (fun _ hq => wpAny_of_eq (rfl : isSame (.str b u) (.ref l) = pure false) hq) (.inr hu) h
theorem eq_str_dict {l : Addr} {dd : Option Addr} {es : Array DictEntry} {n : Nat} {sl : Array (Option Value)} (b : Str) (u : Tok) (ho : s.heap.get? l = some ⟨.type "dict", dd, .dict es n, sl⟩) (hu : A.units < cLine) : EqAt A s (.str b u) (.ref l) false := fun prog w E Q h => by
  unfold eqBool
  exact wpAny_holding (wpAny_ite_split (fun hab => absurd (eq_of_beq hab) nofun) fun _ => wpAny_bind (rc_str_dict b u ho hu prog w E _ (wpAny_truthy_bool h)))
end
/-! ### data, away from the pot at p -/
mutual
inductive Dt (p : Addr) (H : Hp) : V → PyData → Prop
  | non : Dt p H .non .none
  | bl (b : Bool) : Dt p H (.bl b) (.bool b)
  | int (i : Int) : Dt p H (.int i) (.int i)
  | str (x : Str) : x.length ≤ 1000 → Dt p H (.str x) (.str x)
  | lst {a : Addr} {xs : List V} {ds : List PyData} : a ≠ p → xs.length ≤ 1000 → H a = some (.lst xs) → DtAll p H xs ds → Dt p H (.ref a) (.list ds)
  | tup {a : Addr} {xs : List V} {ds : List PyData} : a ≠ p → xs.length ≤ 1000 → H a = some (.tup xs) → DtAll p H xs ds → Dt p H (.ref a) (.tuple ds)
  | dic {a : Addr} : a ≠ p → H a = some (.dK []) → Dt p H (.ref a) (.dict [])
inductive DtAll (p : Addr) (H : Hp) : List V → List PyData → Prop
  | nil : DtAll p H [] []
  | cons {v : V} {vs : List V} {d : PyData} {ds : List PyData} : Dt p H v d → DtAll p H vs ds → DtAll p H (v :: vs) (d :: ds)
end
section
variable {p : Addr} {H H' : Hp}
mutual
theorem Dt.keep (k : Keep p H H') : ∀ {v : V} {d : PyData}, Dt p H v d → Dt p H' v d
  | _, _, .non => .non
  | _, _, .bl b => .bl b
  | _, _, .int i => .int i
  | _, _, .str x z => .str x z
  | _, _, .lst n z e h => .lst n z (k _ _ n e) (DtAll.keep k h)
  | _, _, .tup n z e h => .tup n z (k _ _ n e) (DtAll.keep k h)
  | _, _, .dic n e => .dic n (k _ _ n e)
theorem DtAll.keep (k : Keep p H H') : ∀ {vs : List V} {ds : List PyData}, DtAll p H vs ds → DtAll p H' vs ds
  | _, _, .nil => .nil
  | _, _, .cons a b => .cons (Dt.keep k a) (DtAll.keep k b)
end
theorem Dt.same {v : V} {d : PyData} (h : Dt p H v d) (s : Same H H') : Dt p H' v d := h.keep (Same.keep s)
theorem DtAll.same {v : List V} {d : List PyData} (h : DtAll p H v d) (s : Same H H') : DtAll p H' v d := h.keep (Same.keep s)
theorem DtAll.length : ∀ {vs : List V} {ds : List PyData}, DtAll p H vs ds → vs.length = ds.length
  | _, _, .nil => rfl
  | _, _, .cons _ b => by rw [List.length_cons, List.length_cons, DtAll.length b]
theorem DtAll.get : ∀ {vs : List V} {ds : List PyData} {i : Nat} {v : V}, DtAll p H vs ds → vs[i]? = some v → ∃ d, ds[i]? = some d ∧ Dt p H v d
  | _, _, i, v, .nil, e => by simp at e
  | _, _, 0, v, .cons a b, e => by
    have e : _ = v := Option.some.inj e
    subst e
    exact ⟨_, rfl, a⟩
  | _, _, i + 1, v, .cons a b, e => DtAll.get b (i := i) e
theorem DtAll.append : ∀ {vs ws : List V} {ds es : List PyData}, DtAll p H vs ds → DtAll p H ws es → DtAll p H (vs ++ ws) (ds ++ es)
  | _, _, _, _, .nil, h => h
  | _, _, _, _, .cons a b, h => .cons a (DtAll.append b h)
theorem DtAll.take : ∀ {vs : List V} {ds : List PyData} (n : Nat), DtAll p H vs ds → DtAll p H (vs.take n) (ds.take n)
  | _, _, 0, _ => .nil
  | _, _, n + 1, .nil => .nil
  | _, _, n + 1, .cons a b => .cons a (DtAll.take n b)
theorem DtAll.drop : ∀ {vs : List V} {ds : List PyData} (n : Nat), DtAll p H vs ds → DtAll p H (vs.drop n) (ds.drop n)
  | _, _, 0, h => h
  | _, _, n + 1, .nil => .nil
  | _, _, n + 1, .cons a b => DtAll.drop n b
theorem DtAll.strs : ∀ {zs : List Str}, (∀ z ∈ zs, z.length ≤ 1000) → DtAll p H (zs.map V.str) (zs.map PyData.str)
  | [], _ => .nil
  | z :: l, h => .cons (.str z (h z List.mem_cons_self)) (DtAll.strs fun y hy => h y (List.mem_cons_of_mem _ hy))
/-- the name of its type -/
def kind : PyData → String
  | .none => "NoneType"
  | .bool _ => "bool"
  | .int _ => "int"
  | .str _ => "str"
  | .list _ => "list"
  | .tuple _ => "tuple"
  | .dict _ => "dict"
theorem Dt.ty {K : PySem.W.Frag} {v : V} {d : PyData} (h : Dt p H v d) : TyX K H v (.type (kind d)) := by
  cases h with
  | non => exact .base .non
  | bl b => exact .base (.bl b)
  | int i => exact .base (.int i)
  | str x z => exact .base (.str x)
  | lst n z e h => exact .base (.lst e)
  | tup n z e h => exact .base (.tup e)
  | dic n e => exact .base (.dK e)
end
/-- isinstance(x, T) -/
def isa (d : PyData) (T : String) : Bool := (kitB (kind d) T).getD false
theorem kit_isa {K : PySem.W.Frag} {d : PyData} {T : String} (h : T = "str" ∨ T = "tuple" ∨ T = "int" ∨ T = "bool" ∨ T = "list") : PySem.W.kitOne K (.type (kind d)) (.type T) = some (isa d T) := by
  refine kit_ty ?_
  unfold isa
  rcases h with rfl | rfl | rfl | rfl | rfl <;> cases d <;> (dsimp only [kind]; decide +kernel)
def rIsD (K : PySem.W.Frag) (T : String) : List V → Hp → VK → Prop := fun xs H Q => ∃ (p : Addr) (x : V) (d : PyData), xs = [x, .ty T] ∧ Dt p H x d ∧ Q (.bl (isa d T)) H
section
variable {X : Cx}
theorem call_isD {T : String} (h : T = "str" ∨ T = "tuple" ∨ T = "int" ∨ T = "bool" ∨ T = "list") : CallR X (.builtin "isinstance") (rIsD X.K T) := by
  intro pins s σ H xs us Q I r hh
  obtain ⟨p, x, d, rfl, hd, q⟩ := hh
  exact call_isi pins s σ H _ us Q I r ⟨x, .ty T, _, _, isa d T, rfl, .ty T, hd.ty, kit_isa h, q⟩
/-- the text that it is -/
def isT (d : PyData) (z : Str) : Bool := match d with
  | .str y => y == z
  | _ => false
theorem dic_at {pins : List (Addr × Obj)} {σ : L2.St} {H : Hp} {s : Shared} {a : Addr} (I : Inv X pins σ H s) (e : H a = some (.dK [])) : ∃ (o : Obj) (es : Array DictEntry) (ep : Nat), s.heap.get? a = some o ∧ o.cls = .type "dict" ∧ o.data = .dict es ep := by
  obtain ⟨_, _, vs, _, o, es, ep, h1, h2, h3, _⟩ := (show ObjOk X.prog X.w H s.heap a (.dK []) from I.hok a _ e)
  exact ⟨o, es, ep, h1, h2.1, h3⟩
/-- x == z, z a text -/
theorem rc_txt {pins : List (Addr × Obj)} {σ : L2.St} {H : Hp} {s : Shared} {A : Around} {p : Addr} {x : V} {d : PyData} {v : Value} {z : Str} {t : Tok} (I : Inv X pins σ H s) (hd : Dt p H x d) (r : RelV x v) (hu : A.units < cLine) : SeqAt.RcAt A s v (.str z t) (isT d z) := by
  cases hd with
  | non => cases r; exact SeqAt.RcAt.none_str _ _
  | bl b => cases r; exact SeqAt.RcAt.bool_str _ _ _
  | int i => obtain ⟨t', rfl⟩ := r; exact SeqAt.RcAt.int_str _ _ _ _
  | str y z0 => obtain ⟨t', rfl⟩ := r; exact SeqAt.RcAt.str_str _ _ _ _
  | lst n z0 e h =>
    cases r
    obtain ⟨its, _, pl, _⟩ := I.list (SqL.of e)
    exact SeqAt.RcAt.list_str _ _ pl.isList hu
  | tup n z0 e h =>
    cases r
    obtain ⟨its, _, pl, _⟩ := I.tuple (SqT.of e)
    exact SeqAt.RcAt.tuple_str _ _ pl hu
  | @dic a n e =>
    cases r
    obtain ⟨o, es, ep, h1, h2, h3⟩ := dic_at I e
    obtain ⟨oc, od, dt, sl⟩ := o
    cases h2
    cases h3
    exact rc_dict_str _ _ h1 hu
/-- z == x, z a text -/
theorem eq_txt {pins : List (Addr × Obj)} {σ : L2.St} {H : Hp} {s : Shared} {A : Around} {p : Addr} {x : V} {d : PyData} {v : Value} {z : Str} {t : Tok} (I : Inv X pins σ H s) (hd : Dt p H x d) (r : RelV x v) (hu : A.units < cLine) : SeqAt.EqAt A s (.str z t) v (isT d z) := by
  cases hd with
  | non => cases r; exact SeqAt.EqAt.str_none _ _
  | bl b => cases r; exact SeqAt.EqAt.str_bool _ _ _
  | int i => obtain ⟨t', rfl⟩ := r; exact SeqAt.EqAt.str_int _ _ _ _
  | str y z0 =>
    obtain ⟨t', rfl⟩ := r
    have e : isT (.str y) z = (z == y) := by
      show (y == z) = (z == y)
      exact Bool.eq_iff_iff.mpr ⟨fun h => by rw [eq_of_beq h]; exact beq_self_eq_true _, fun h => by rw [eq_of_beq h]; exact beq_self_eq_true _⟩
    rw [e]
    exact SeqAt.EqAt.str_str _ _ _ _
  | lst n z0 e h =>
    cases r
    obtain ⟨its, _, pl, _⟩ := I.list (SqL.of e)
    exact SeqAt.EqAt.str_list _ _ pl.isList hu
  | tup n z0 e h =>
    cases r
    obtain ⟨its, _, pl, _⟩ := I.tuple (SqT.of e)
    exact SeqAt.EqAt.str_tuple _ _ pl hu
  | @dic a n e =>
    cases r
    obtain ⟨o, es, ep, h1, h2, h3⟩ := dic_at I e
    obtain ⟨oc, od, dt, sl⟩ := o
    cases h2
    cases h3
    exact eq_str_dict _ _ h1 hu
def rEqT : R2 := fun x y H Q => ∃ p d z, y = .str z ∧ Dt p H x d ∧ Q (.bl (isT d z)) H
theorem op_eqT (hu : X.A.units + 64 < cLine) : OpR X (compareOp .Eq) rEqT := by
  intro pins s σ H x y v u Q I rx ry h
  obtain ⟨p, d, z, rfl, hd, q⟩ := h
  obtain ⟨t, rfl⟩ := ry
  exact rc_txt I hd rx (by omega) X.prog X.w _ _ ⟨.bl _, H, I, rfl, q⟩
/-- x in [texts] -/
def rInT (K : PySem.W.Frag) : R2 := fun x y H Q => ∃ (p a : Addr) (d : PyData) (zs : List Str), y = .ref a ∧ SqL K H a (zs.map V.str) ∧ Dt p H x d ∧ Q (.bl (zs.any fun z => isT d z)) H
def isTv (d : PyData) : Value → Bool
  | .str z _ => isT d z
  | _ => false
theorem any_isTv (d : PyData) : ∀ {zs : List Str} {us : List Value}, Vals (zs.map V.str) us → us.any (isTv d) = zs.any fun z => isT d z
  | [], _, .nil => rfl
  | z :: zs, _, .cons r t => by
    obtain ⟨k, rfl⟩ := r
    rw [List.any_cons, List.any_cons, any_isTv d t]
    rfl
theorem mem_strs : ∀ {zs : List Str} {us : List Value}, Vals (zs.map V.str) us → ∀ u ∈ us, ∃ z t, u = .str z t
  | [], _, .nil, u, hu => by cases hu
  | z :: zs, _, .cons r t, u, hu => by
    rcases List.mem_cons.mp hu with e | hu
    · obtain ⟨k, rfl⟩ := r
      exact ⟨z, k, e⟩
    · exact mem_strs t u hu
theorem op_inT (hu : X.A.units + 64 < cLine) : OpR X (compareOp .In) (rInT X.K) := by
  intro pins s σ H x y v u Q I rx ry h
  obtain ⟨p, a, d, zs, rfl, hs, hd, q⟩ := h
  cases ry
  obtain ⟨its, rv, pl, _⟩ := I.list hs
  refine SeqAt.in_listAt (isTv d) pl.isList (fun z hz => ?_) ⟨.bl _, H, I, rfl, ?_⟩
  · obtain ⟨w, t, rfl⟩ := mem_strs rv z (by simpa using hz)
    exact eq_txt I hd rx (by show X.A.units + 1 < cLine; omega)
  · rw [show its.toArray.any (isTv d) = its.any (isTv d) by simp, any_isTv d rv]
    exact q
end
end Gj

/-! own layer: len(set(t)), t a tuple of texts -/
namespace Gj
open PySem PySem.Spec PyProof.Rows L2
open C8 (Cal pe_c pe_gc)
/-- how many unlike ones -/
def distinct : List Str → Nat
  | [] => 0
  | x :: l => if l.any (· == x) then distinct l else distinct l + 1
theorem distinct_le : ∀ l : List Str, distinct l ≤ l.length
  | [] => Nat.le_refl _
  | x :: l => by
    have := distinct_le l
    unfold distinct
    rw [List.length_cons]
    split <;> omega
theorem any_iff {l : List Str} {x : Str} : l.any (· == x) = true ↔ x ∈ l := by simp
theorem distinct_nodup : ∀ l : List Str, (distinct l = l.length) ↔ l.Nodup
  | [] => by simp [distinct]
  | x :: l => by
    have h1 := distinct_le l
    have ih := distinct_nodup l
    unfold distinct
    rw [List.length_cons, List.nodup_cons]
    by_cases h : l.any (· == x) = true
    · rw [if_pos h]
      exact ⟨fun e => by omega, fun e => absurd (any_iff.mp h) e.1⟩
    · rw [if_neg h]
      exact ⟨fun e => ⟨fun m => h (any_iff.mpr m), ih.mp (by omega)⟩, fun e => by rw [ih.mpr e.2]⟩
def taken (xs : List Str) (i : Nat) : List Str := (xs.take i).reverse
theorem taken_succ {xs : List Str} {i : Nat} {x : Str} (h : xs[i]? = some x) : taken xs (i + 1) = x :: taken xs i := by
  unfold taken
  rw [List.take_add_one, h, List.reverse_append]
  rfl
section
variable {prog : Program} {w : World} {A : Around} {R : Result → Shared → Prop} {I : Addr} {fp wr : List Addr} {G : Array GenState → Array GenState → Prop} {n : Nat} {P : Nat → Value → Prop} {Sx : Nat → Shared → Prop}
theorem loop_strs (W : WalksS prog w A.in1 I fp wr G n P Sx) (S : Addr) (hSf : S ∉ fp) (xs : List Str) (hsz : xs.length = n) (hn : n ≤ 1000) (hval : ∀ i v, P i v → ∃ t, v = .str (xs.getD i Str.empty) t) :
    ∀ (k i : Nat) (s : Shared), n - i = k → i ≤ n → Sx i s → s.heap.SetOf (PySem.strKind prog w) S (fun y => (taken xs i).any (· == y)) (distinct (taken xs i)) →
      (∀ s', Moved (S :: wr) G s s' → s'.heap.SetOf (PySem.strKind prog w) S (fun y => (taken xs n).any (· == y)) (distinct (taken xs n)) → R (.ok (.ret .none)) s') →
      codeAny (model prog w) A (.builtin "set.update.loop" ⟨[.ref S, .ref I], []⟩) R s
  | 0, i, s, hk, hi, hst, hS, hR => by
    have e : i = n := by omega
    subst e
    refine codeAny_builtin PyProof.Rows.F.entry_set_update_loop (by
      rw [Around.under_plainId PyProof.Rows.F.plain_set_update_loop _]
      exact wpAny_bind (W.done s _ _ hst fun s' hm => wpAny_pure (hR s' (hm.mono fun b hb => List.mem_cons_of_mem _ hb) (by
        obtain ⟨o, es, ep, t, ho, rest⟩ := hS
        exact ⟨o, es, ep, t, hm.heap S _ (fun h => hSf (W.sub _ h)) ho, rest⟩))))
  | k + 1, i, s, hk, hi, hst, hS, hR => by
    have hlt : i < n := by omega
    have hx : xs[i]? = some (xs.getD i Str.empty) := by rw [List.getD_eq_getElem?_getD, List.getElem?_eq_getElem (by omega)]; rfl
    refine codeAny_builtin PyProof.Rows.F.entry_set_update_loop ?_
    rw [Around.under_plainId PyProof.Rows.F.plain_set_update_loop _]
    refine wpAny_bind (m := pyNext (.ref I)) (W.item i s _ _ hlt hst fun v s' hP hst' hm => ?_)
    obtain ⟨t, rfl⟩ := hval i v hP
    have hS' : s'.heap.SetOf (PySem.strKind prog w) S (fun y => (taken xs i).any (· == y)) (distinct (taken xs i)) := by
      obtain ⟨o, es, ep, tb, ho, rest⟩ := hS
      exact ⟨o, es, ep, tb, hm.heap S _ (fun h => hSf (W.sub _ h)) ho, rest⟩
    have dl := distinct_le (taken xs i)
    have tl : (taken xs i).length ≤ 1000 := by
      unfold taken
      rw [List.length_reverse, List.length_take]
      omega
    refine wpAny_bind (m := holding [Value.str (xs.getD i Str.empty) t] (setAdd S (.str (xs.getD i Str.empty) t))) (wpAny_holding ?_)
    unfold setAdd
    refine wpAny_holding (wpAny_bind ((PySem.strKind prog w).pyHash (k := xs.getD i Str.empty) (strKind_is _ _ _ _) (wpAny_setAddHashed_of (knd := PySem.strKind prog w) (s := { s' with toks := s'.toks + 1 }) (strKind_is _ _ _ _) rfl hS' (by unfold scanBound; omega) fun h' hsb hS2 => ?_)))
    have hSi : h'.SetOf (PySem.strKind prog w) S (fun y => (taken xs (i + 1)).any (· == y)) (distinct (taken xs (i + 1))) := by
      rw [taken_succ hx]
      refine SetOf_congr hS2 (fun y => ?_) ?_
      · show ((taken xs i).any (· == y) || decide (y = xs.getD i Str.empty)) = ((xs.getD i Str.empty) == y || (taken xs i).any (· == y))
        rw [Bool.or_comm]
        congr 1
        by_cases e : y = xs.getD i Str.empty
        · rw [← e, decide_eq_true rfl, beq_self_eq_true]
        · rw [decide_eq_false e]
          exact (beq_eq_false_iff_ne.mpr fun z => e z.symm).symm
      · rfl
    refine wpAny_pure ⟨plainId_quiet PyProof.Rows.F.plain_set_update_loop _, loop_strs W S hSf xs hsz hn hval k (i + 1) _ (by omega) hlt (W.frame _ s' _ _ hst' (Nat.le_succ _) fun b hb o e => ?_) hSi fun s'' hm'' hS'' => hR s'' (Moved.trans W.gtrans ((hm.mono fun b hb => List.mem_cons_of_mem _ hb).then_heap (Nat.le_succ _) fun b o hb e => ?_) hm'') hS''⟩
    · exact (hsb.2 b fun h : b = S => hSf (h ▸ hb)).trans e
    · exact (hsb.2 b fun h : b = S => hb (h ▸ List.mem_cons_self)).trans e
end
section
variable {prog : Program} {w : World} {A : Around} {E : Value → Shared → Prop} {s : Shared}
/-- a new set, empty -/
abbrev set0 (led : Bool) : Obj := { cls := .type "set", dict := none, data := .set #[] 0 (.fresh 0 0 led) }
set_option maxHeartbeats 3200000 in
theorem call_set_tup {l : Addr} {items : Array Value} {xs : List Str} {Q : Value → Shared → Prop} (hh : A.handled = none) (hl : s.heap.IsTuple l items) (hi : PyProof.Rows.StrsAre items.toList xs) (hn : xs.length ≤ 1000)
    (h : ∀ (h' : Heap) (tk : Nat), h'.SetOf (PySem.strKind prog w) s.heap.objs.size (fun y => (taken xs xs.length).any (· == y)) (distinct (taken xs xs.length)) → (∀ b o, s.heap.get? b = some o → h'.get? b = some o) → Q (.ref s.heap.objs.size) { s with heap := h', toks := tk }) :
    wpAny (model prog w) A (call (.type "set") [.ref l]) Q E s := by
  obtain ⟨c, tl, hmro⟩ := PySem.F.called_set.mro
  have g1 := PySem.F.called_set.made; have g2 := PySem.F.called_set.sub; have g3 := PySem.F.called_set.notType; have g4 := PySem.F.called_set.canCreate; have g5 := PySem.F.typeCall_set_1 (.ref l)
  refine wpAny_call (codeAny_of_tree (show wpAny _ _ (callAny (.type "set") _) _ _ _ from wpAny_pure ⟨Code.quiet_builtin _ (by decide +kernel), codeAny_builtin PySem.F.entry_type_call ?_⟩))
  rw [Around.under_plain (weight_type_call_type "set" [.ref l] []) rfl]
  repeat (any_goals (first | assumption | wp_step))
  refine codeAny_mono (code_set_new_1 (.ref l) (E := E) (Q₁ := fun obj s₁ => ∃ led : Bool, obj = .ref s.heap.objs.size ∧ s₁ = { s with heap := s.heap.push (set0 led) }) fun led => ⟨led, rfl, rfl⟩) fun r s₁ hr => ?_
  cases r with
  | error e => exact hr
  | ok fl =>
    cases fl with
    | next => exact hr.elim
    | brk => exact hr.elim
    | cont => exact hr.elim
    | ret obj =>
      obtain ⟨led, rfl, rfl⟩ := hr
      have got : (s.heap.push (set0 led)).get? s.heap.objs.size = some (set0 led) := Heap.get?_push_size _ rfl
      have ty : Shared.TypeIs { s with heap := s.heap.push (set0 led) } (.ref s.heap.objs.size) "set" := ⟨_, got, rfl⟩
      have i1 := PySem.F.called_set.init.lookup; have i2 := PySem.F.called_set.init.bind (.ref s.heap.objs.size)
      repeat (any_goals (first | assumption | wp_step))
      refine codeAny_mono (codeAny_call_builtin (R := wants (fun r s₂ => r = .none ∧ ∃ h' tk, s₂ = { s with heap := h', toks := tk } ∧ h'.SetOf (PySem.strKind prog w) s.heap.objs.size (fun y => (taken xs xs.length).any (· == y)) (distinct (taken xs xs.length)) ∧ (∀ b o, s.heap.get? b = some o → h'.get? b = some o)) E) PySem.F.called_set.init.plain PySem.F.entry_set_init (check_set_init_1 ty ?_)) fun r₂ s₂ hr₂ => ?_
      · obtain ⟨⟨oc, od, dt, sl⟩, ho, hc, nl, hd⟩ := hl
        cases hc; cases hd
        have ho2 : (s.heap.push (set0 led)).get? l = some ⟨.type "tuple", od, .seq items nl, sl⟩ := Heap.get?_push_of_some _ ho
        have k1 := PySem.F.sub_tuple_set; have k2 := PySem.F.sub_tuple_frozenset
        have k3 : (Value.type "tuple" == Value.type "dict") = false := by decide
        have isT : (s.heap.push (set0 led)).IsTuple l items := ⟨_, ho2, rfl, nl, rfl⟩
        unfold Builtin.«set.__init__» noKeywords Builtin.Frozenset.updateFrom
        generalize hPI : pyIter = PI
        wp_walk
        subst hPI
        refine wpAny_pyIter_tuple isT (wpAny_bind (wpAny_runValue ?_))
        have lt : l < s.heap.objs.size := Heap.lt_size ho
        have ps : (s.heap.push (set0 led)).objs.size = s.heap.objs.size + 1 := Heap.size_push _ _
        have h3 : A.in1.in1.in1.handled = none := by simp [hh]
        have len : xs.length = items.size := by rw [← StrsAre.len_eq hi, Array.length_toList]
        refine loop_strs ((Walks.tuple h3 _ l (by rw [ps]; exact Nat.ne_of_lt (Nat.lt_succ_of_lt lt)) items).toS) s.heap.objs.size (by rw [ps]; simp only [List.mem_cons, List.not_mem_nil, or_false, not_or]; exact ⟨Nat.ne_of_lt (Nat.lt_succ_self _), Nat.ne_of_gt lt⟩) xs len (by omega) (fun i v hv => SS.strs_at hi i v (by rw [Array.getElem?_toList]; exact hv)) (items.size - 0) 0 _ (by omega) (Nat.zero_le _)
          ⟨⟨_, Heap.get?_push_size _ rfl, rfl, rfl⟩, isT.push _⟩ ?z0 ?z1
        case z0 => exact PyProof.Rows.SetOf_congr ((PyProof.Rows.setObjOf_fresh (knd := PySem.strKind prog w) led).setOf (Heap.get?_push_of_some _ got) (by unfold scanBound; omega)) (fun _ => rfl) rfl
        case z1 =>
          intro s' hm hS'
          obtain ⟨h', g', d', tk', os'⟩ := s'
          obtain rfl : g' = s.gens := hm.gens
          obtain rfl : d' = s.drawn := hm.drawn
          obtain rfl : os' = s.os := hm.os
          rw [← len] at hS'
          have hb : ∀ {b : Addr} {o : Obj}, s.heap.get? b = some o → b < s.heap.objs.size := fun e => Heap.lt_size e
          refine wpAny_pure ?_
          show wpAny _ _ (ret Value.none) _ _ _
          exact wpAny_pure ⟨rfl, h', tk', rfl, hS', fun b o e => hm.heap b o (by rw [ps]; simp only [List.mem_cons, List.not_mem_nil, or_false, not_or]; exact ⟨Nat.ne_of_lt (hb e), Nat.ne_of_lt (Nat.lt_succ_of_lt (hb e))⟩) (Heap.get?_push_of_some _ (Heap.get?_push_of_some _ e))⟩
      · cases r₂ with
        | error e => exact hr₂
        | ok fl₂ =>
          cases fl₂ with
          | next => exact hr₂.elim
          | brk => exact hr₂.elim
          | cont => exact hr₂.elim
          | ret r =>
            obtain ⟨rfl, h', tk, rfl, hS', hk'⟩ := hr₂
            repeat (any_goals (first | assumption | wp_step))
            exact h _ _ hS' hk'
end
end Gj

namespace Gj
open PySem PySem.Spec PyProof.Rows L2
open C8 (Cal pe_c pe_gc)
/-- the set of these texts at a -/
def StrSet (P : Program) (w : World) (a : Addr) (xs : List Str) : HO := .ext fun h => h.SetOf (PySem.strKind P w) a (fun y => (taken xs xs.length).any (· == y)) (distinct (taken xs xs.length))
theorem strSet_ok {P : Program} {w : World} {H : Hp} {h : Heap} {a : Addr} {xs : List Str} (hS : h.SetOf (PySem.strKind P w) a (fun y => (taken xs xs.length).any (· == y)) (distinct (taken xs xs.length))) : ObjOk P w H h a (StrSet P w a xs) := by
  obtain ⟨o, es, ep, t, ho, rest⟩ := hS
  exact ⟨⟨o, es, ep, t, ho, rest⟩, ⟨o, ho⟩, fun h1 h2 z k => by
    obtain ⟨o, es, ep, t, ho, rest⟩ := z
    exact ⟨o, es, ep, t, k _ ho, rest⟩⟩
theorem strs_of : ∀ {ys : List Str} {us : List Value}, Vals (ys.map V.str) us → PyProof.Rows.StrsAre us ys
  | [], _, .nil => .nil
  | y :: ys, _, .cons r t => by
    obtain ⟨k, rfl⟩ := r
    exact .cons y k (strs_of t)
section
variable {X : Cx}
/-- set(t) -/
def rSetS (P : Program) (w : World) (K : PySem.W.Frag) : List V → Hp → VK → Prop := fun vs H Q => ∃ (l : Addr) (xs : List Str), vs = [.ref l] ∧ SqT K H l (xs.map V.str) ∧ xs.length ≤ 1000 ∧ ∀ a, H a = none → Q (.ref a) (upd H a (StrSet P w a xs))
theorem call_setS (hc : X.calm = true) : CallR X (.type "set") (rSetS X.prog X.w X.K) := by
  intro pins s σ H xs us Q I r h
  obtain ⟨l, ys, rfl, hq, hn, q⟩ := h
  obtain ⟨u, rfl, rfl⟩ := vals1 r
  obtain ⟨its, rv, pl, _⟩ := I.tuple hq
  have nf : H s.heap.objs.size = none := I.hok.fresh (Nat.le_refl _)
  exact call_set_tup (I.ok.hd hc) pl (by simpa using strs_of rv) hn fun h' tk hS hk => ⟨.ref _, _, I.laid (t' := tk) hk (Nat.le_refl _) (strSet_ok hS), rfl, q _ nf⟩
/-- len(s) -/
def rLenS (P : Program) (w : World) : List V → Hp → VK → Prop := fun vs H Q => ∃ (a : Addr) (xs : List Str), vs = [.ref a] ∧ H a = some (StrSet P w a xs) ∧ xs.length ≤ 1000 ∧ Q (.int (distinct (taken xs xs.length))) H
theorem call_lenS : CallR X (.builtin "len") (rLenS X.prog X.w) := by
  intro pins s σ H xs us Q I r h
  obtain ⟨a, ys, rfl, ea, hl, q⟩ := h
  obtain ⟨u, rfl, rfl⟩ := vals1 r
  obtain ⟨⟨o, es, ep, t, ho, hex, hd, _, _, _, hf, hn⟩, _, _⟩ := I.hok a _ ea
  have small := distinct_le (taken ys ys.length)
  refine call_len_set ho hex hd hf ?_ ⟨.int _, H, I.tok _, ⟨_, by rw [hn]⟩, q⟩
  have e : (taken ys ys.length).length = ys.length := by simp [taken]
  rw [hn]
  omega
end
end Gj

/-! own layer: tests of data -/
namespace Gj
open PySem PySem.Spec PyProof.Rows L2
open C8 (Cal pe_c pe_gc)
/-- a def that tells a truth of one datum -/
def spPred (f : PyData → Bool) : Sp := fun vs H Q _ => ∃ (p : Addr) (v : V) (d : PyData), vs = [v] ∧ Dt p H v d ∧ ∀ H', Same H H' → Q (.bl (f d)) H'
/-- .. and a number -/
def spPredN (f : PyData → Int → Bool) : Sp := fun vs H Q _ => ∃ (p : Addr) (v : V) (d : PyData) (n : Int), vs = [v, .int n] ∧ Dt p H v d ∧ ∀ H', Same H H' → Q (.bl (f d n)) H'
/-- an expression that tells b, whatever it lays -/
def Say (t : TE) (σ : L2.St) (H : Hp) (b : Bool) : Prop := ∀ Q : VK, (∀ H', Same H H' → Q (.bl b) H') → t σ H Q
/-- an expression that is v -/
def Giv (t : TE) (σ : L2.St) (H : Hp) (v : V) : Prop := ∀ Q : VK, Q v H → t σ H Q
section
variable {σ : L2.St} {H : Hp} {ta tb te : TE} {a b : Bool} {K : PySem.W.Frag} {p : Addr} {v : V} {d : PyData} {i : Nat}
theorem Say.and (ha : Say ta σ H a) (hb : a = true → ∀ H', Same H H' → Say tb σ H' b) : Say (tAndV ta tb) σ H (a && b) := fun Q q => ha _ fun H1 s1 => ⟨a, rfl, by
  cases a with
  | true => exact iteT (hb rfl H1 s1 Q fun H2 s2 => q H2 (s1.trans s2))
  | false => exact iteF (q H1 s1)⟩
theorem Say.or (ha : Say ta σ H a) (hb : a = false → ∀ H', Same H H' → Say tb σ H' b) : Say (tOrV ta tb) σ H (a || b) := fun Q q => ha _ fun H1 s1 => ⟨a, rfl, by
  cases a with
  | true => exact iteT (q H1 s1)
  | false => exact iteF (hb rfl H1 s1 Q fun H2 s2 => q H2 (s1.trans s2))⟩
theorem Say.not (ha : Say ta σ H a) : Say (tNotV ta) σ H (!a) := fun Q q => ha _ fun H1 s1 => ⟨a, rfl, q H1 s1⟩
theorem Say.of (h : Say ta σ H a) (e : a = b) : Say ta σ H b := e ▸ h
theorem giv_var (h : σ[i]? = some (some v)) : Giv (tVar i) σ H v := fun Q q => ⟨v, h, q⟩
theorem giv_c {v : V} : Giv (tC v) σ H v := fun Q q => q
theorem giv_ixT {x : V} {xs : List V} {c : Addr} {k : Nat} (h : Giv te σ H (.ref c)) (e : H c = some (.tup xs)) (g : xs[k]? = some x) : Giv (tOp (rIxT K) te (tC (.int (k : Nat)))) σ H x := fun Q q => h _ ⟨c, xs, _, x, rfl, rfl, SqT.of e, atI_nat g, q⟩
theorem say_isa {T : String} (hv : Giv te σ H v) (hd : Dt p H v d) : Say (tCB (rIsD K T) (tCons te (tCons (tC (.ty T)) tNil))) σ H (isa d T) := fun Q q => hv _ ⟨p, v, d, rfl, hd, q H (Same.refl H)⟩
theorem say_call {f : PyData → Bool} {E : XK} (hv : Giv te σ H v) (hd : Dt p H v d) : Say (tCall (spPred f) [] E (tCons te tNil)) σ H (f d) := fun Q q => hv _ ⟨p, v, d, rfl, hd, q⟩
theorem say_callN {f : PyData → Int → Bool} {n : Int} {tn : TE} {E : XK} (hv : Giv te σ H v) (hn : Giv tn σ H (.int n)) (hd : Dt p H v d) : Say (tCall (spPredN f) [] E (tCons te (tCons tn tNil))) σ H (f d n) := fun Q q => hv _ (hn _ ⟨p, v, d, n, rfl, hd, q⟩)
theorem say_eqT {z : Str} {tz : TE} (hv : Giv te σ H v) (hz : Giv tz σ H (.str z)) (hd : Dt p H v d) : Say (tOp rEqT te tz) σ H (isT d z) := fun Q q => hv _ (hz _ ⟨p, d, z, rfl, hd, q H (Same.refl H)⟩)
theorem say_lenEq {n : Int} {c : Addr} {xs : List V} {tn : TE} {X : Cx} (hv : Giv te σ H (.ref c)) (hn : Giv tn σ H (.int n)) (e : H c = some (.tup xs)) :
    Say (tOp rEq (tCB (fun ys H Q => ∃ x m, ys = [x] ∧ LenV X.K x H m ∧ Q (.int m) H) (tCons te tNil)) tn) σ H (decide ((xs.length : Int) = n)) := fun Q q => hv _ ⟨.ref c, xs.length, rfl, .inr ⟨xs, SqT.of e, rfl⟩, hn _ ⟨rfl, by
      have e2 : decide (V.int (xs.length : Int) = V.int n) = decide ((xs.length : Int) = n) := by
        by_cases h : (xs.length : Int) = n
        · rw [decide_eq_true h, h, decide_eq_true rfl]
        · rw [decide_eq_false h, decide_eq_false fun z => h (V.int.inj z)]
      rw [e2]
      exact q H (Same.refl H)⟩⟩
end
end Gj

namespace Gj
open PySem PySem.Spec PyProof.Rows L2
open C8 (Cal pe_c pe_gc)
/-- whether its length and signs are so -/
def isTxt (z signs : Str) (most : Int) : Bool := (decide (1 ≤ (z.length : Int)) && decide ((z.length : Int) ≤ most)) && (z.cps.toList.map fun c => decide (c ∈ signs.cps.toList)).all id
def mTxt (signs : Str) (most : Int) : PyData → Bool
  | .str z => isTxt z signs most
  | _ => false
abbrev rLenX (K : PySem.W.Frag) : List V → Hp → VK → Prop := fun ys H Q => ∃ x m, ys = [x] ∧ LenV K x H m ∧ Q (.int m) H
abbrev rLeX : R2 := rI0 fun i j => .bl (decide (i ≤ j))
abbrev rInX : R2 := fun x y H Q => ∃ (c : Nat) (z : Str), x = .str ⟨#[c]⟩ ∧ y = .str z ∧ Q (.bl (decide (c ∈ z.cps.toList))) H
section
variable {σ : L2.St} {H : Hp} {ta tb te ts tm : TE} {a b : Bool} {K : PySem.W.Frag} {p : Addr} {v : V} {d : PyData} {i : Nat} {z signs : Str} {most : Int}
theorem say_chain (hv : Giv te σ H (.str z)) (hm : Giv tm σ H (.int most)) (hz : z.length ≤ 1000) : Say (tChain rLeX rLeX (tC (.int 1)) (tCB (rLenX K) (tCons te tNil)) tm) σ H (decide (1 ≤ (z.length : Int)) && decide ((z.length : Int) ≤ most)) := fun Q q =>
  hv _ ⟨_, _, rfl, ⟨Nat.le_of_lt (small1000 hz), rfl⟩, _, _, rfl, rfl, _, rfl, by
    by_cases h : 1 ≤ (z.length : Int)
    · rw [decide_eq_true h]
      refine iteT (hm _ ⟨_, _, rfl, rfl, ?_⟩)
      have := q H (Same.refl H)
      rw [decide_eq_true h, Bool.true_and] at this
      exact this
    · rw [decide_eq_false h]
      have := q H (Same.refl H)
      rw [decide_eq_false h, Bool.false_and] at this
      exact iteF this⟩
theorem say_all (hz : z.length ≤ 1000) (hw : ∀ v, wipe ((wipe σ [i]).set i (some v)) [i] = wipe σ [i]) (hi : ∀ v, ((wipe σ [i]).set i (some v))[i]? = some (some v)) (hs : ∀ v H, Giv ts ((wipe σ [i]).set i (some v)) H (.str signs)) (hv : Giv te σ H (.str z)) :
    Say (tCB (rAll K) (tCons (tLc (iStr te) (gName i) tYes (tOp rInX (tVar i) ts) [i]) tNil)) σ H ((z.cps.toList.map fun c => decide (c ∈ signs.cps.toList)).all id) := fun Q q => hv _ ⟨z, rfl, fun D hD => by
  refine lc_it walk_str (Pv := fun j H' => Same H H' ∧ H' D = some (.lst (((z.cps.toList.take j).map fun c => decide (c ∈ signs.cps.toList)).map V.bl))) ⟨same_new hD, upd_same⟩ (fun _ _ _ _ => trivial) (fun j x H1 H2 hj hp hy => ?_) (fun H1 hp => ?_)
  · obtain ⟨rfl, ch, ec, rfl⟩ := hy
    obtain ⟨sm, eD⟩ := hp
    refine ⟨hw _, _, hi _, hs _ _ _ ⟨ch, signs, rfl, rfl, _, eD, ?_, fun b o e => ?_, ?_⟩⟩
    · rw [List.length_map, List.length_map, List.length_take]
      have : z.cps.toList.length = z.length := rfl
      exact small1000 (by omega)
    · rw [upd_ne (ne_of_none e hD)]
      exact sm b o e
    · have ec2 : z.cps.toList[j]? = some ch := by rw [Array.getElem?_toList]; exact ec
      rw [upd_same, take_snoc ec2, List.map_append, List.map_append]
      rfl
  · obtain ⟨sm, eD⟩ := hp
    rw [show z.cps.toList.take z.cps.size = z.cps.toList from List.take_of_length_le (Nat.le_refl _)] at eD
    exact ⟨D, _, rfl, SqL.of eD, q H1 sm⟩⟩
theorem say_allT {f : PyData → Bool} {E : XK} {c : Addr} {xs : List V} {ds : List PyData} (hl : xs.length ≤ 1000) (hw : ∀ v, wipe ((wipe σ [i]).set i (some v)) [i] = wipe σ [i]) (hi : ∀ v, ((wipe σ [i]).set i (some v))[i]? = some (some v)) (hv : Giv te σ H (.ref c)) (ec : H c = some (.tup xs)) (hd : DtAll p H xs ds) :
    Say (tCB (rAll K) (tCons (tLc (iTup K te) (gName i) tYes (tCall (spPred f) [] E (tCons (tVar i) tNil)) [i]) tNil)) σ H (ds.all f) := fun Q q => hv _ ⟨c, rfl, ⟨xs, SqT.of ec⟩, fun D hD => by
  refine lc_tup (K := K) (a := c) (xs := xs) (Pv := fun j H' => Same H H' ∧ H' D = some (.lst (((ds.take j).map f).map V.bl))) ⟨same_new hD, upd_same⟩ (fun j H' _ hp => SqT.of (hp.1 _ _ ec)) (fun j x H1 hx hp => ?_) (fun H1 hp => ?_)
  · obtain ⟨sm, eD⟩ := hp
    obtain ⟨d, hd1, hd2⟩ := hd.get hx
    refine ⟨hw _, _, hi _, p, x, d, rfl, hd2.same sm, fun H2 s2 => ⟨_, s2 _ _ eD, ?_, fun b o e => ?_, ?_⟩⟩
    · rw [List.length_map, List.length_map, List.length_take, ← hd.length]
      exact small1000 (by omega)
    · rw [upd_ne (ne_of_none e hD)]
      exact s2 _ _ (sm b o e)
    · rw [upd_same, take_snoc hd1, List.map_append, List.map_append]
      rfl
  · obtain ⟨sm, eD⟩ := hp
    rw [show ds.take xs.length = ds from List.take_of_length_le (by rw [hd.length]; exact Nat.le_refl _)] at eD
    refine ⟨D, _, rfl, SqL.of eD, ?_⟩
    rw [List.all_map]
    exact q H1 sm⟩
end
/-! ### names and words are so -/
theorem txt_of {cs : List Nat} {signs : Str} {most : Nat} (h1 : 1 ≤ cs.length) (h2 : cs.length ≤ most) (h : ∀ c ∈ cs, c ∈ signs.cps.toList) : isTxt (SX.S cs) signs (most : Int) = true := by
  have e : ((SX.S cs).length : Int) = (cs.length : Int) := by rw [SX.S_len]
  unfold isTxt
  rw [e, decide_eq_true (show (1 : Int) ≤ (cs.length : Int) by omega), decide_eq_true (show (cs.length : Int) ≤ (most : Int) by omega)]
  show (cs.map fun c => decide (c ∈ signs.cps.toList)).all id = true
  rw [List.all_map]
  exact List.all_eq_true.mpr fun c hc => decide_eq_true (h c hc)
end Gj

/-! own layer: enumerate over a tuple -/
namespace Gj
open PySem PySem.Spec PyProof.Rows L2
open Sem (wp)
open AutoSeq1 (wpAny_loadPart')
theorem enumT_new (c : Addr) (xs : Array Value) (m : Nat) (dd : Option Addr) (ss : Array (Option Value)) :
    Meets (Builtin.«enumerate.__new__» ⟨[.type "enumerate", .ref c], []⟩) (fun _ R z => z.heap.get? c = some { cls := .type "tuple", dict := dd, data := .seq xs m, slots := ss } ∧
      R (.ok (.ret (.ref (z.heap.push { cls := .type "tuple_iterator", data := .fields #[.ref c, .int 0 0] }).objs.size)))
        { z with heap := (z.heap.push { cls := .type "tuple_iterator", data := .fields #[.ref c, .int 0 0] }).push { cls := .type "enumerate", data := .fields #[.none, .bool false, .ref z.heap.objs.size, rawInt 0, .none, .none] } }) :=
  .of_wp fun prog w A R z hh => by
    obtain ⟨hp, gg, dp, tk, os⟩ := z
    obtain ⟨hc, hh⟩ := hh
    have sb := sub_enumerate
    have hT : Heap.IsTuple (Shared.heap ⟨hp, gg, dp, tk, os⟩) c xs := ⟨_, hc, rfl, m, rfl⟩
    wp_walk using wpAny_loadPart' hc
    refine wpAny_stack_any fun _ => wpAny_pure ?_
    split
    · rename_i y _ _ _ _ _
      cases (y == Value.type "enumerate")
      · wp_walk using wpAny_loadPart' hc, wpAny_pyIter_tuple hT
        exact ⟨_, rfl, hh⟩
      · wp_walk using wpAny_loadPart' hc, wpAny_pyIter_tuple hT
        exact ⟨_, rfl, hh⟩
    · wp_walk using wpAny_loadPart' hc, wpAny_pyIter_tuple hT
      exact ⟨_, rfl, hh⟩
theorem enumT_call {prog : Program} {w : World} {A : Around} {E : Value → Shared → Prop} {s : Shared} {c : Addr} {xs : Array Value} {Q : Value → Shared → Prop} (hT : s.heap.IsTuple c xs)
    (k : ∀ h2, IsEnum h2 (s.heap.objs.size + 1) s.heap.objs.size 0 .none → h2.IsTupleIter s.heap.objs.size c 0 → (∀ b o, s.heap.get? b = some o → h2.get? b = some o) → Q (.ref (s.heap.objs.size + 1)) { s with heap := h2 }) :
    wpAny (model prog w) A (call (.type "enumerate") [.ref c]) Q E s := by
  obtain ⟨⟨cl, dd, dt, ss⟩, hc, hcl, m, hdt⟩ := hT
  obtain rfl : cl = .type "tuple" := hcl
  obtain rfl : dt = .seq xs m := hdt
  refine callType_new F.called_enumerate (by decide) (F.typeCall_enumerate_1 _) (F.newCall_enumerate_1 _) (fun ob => F.args_object_init_2 ob _) F.entry_enumerate_new
    (enumT_new c xs m dd ss) ⟨hc, ?_⟩
  have z1 : (s.heap.push { cls := .type "tuple_iterator", data := .fields #[.ref c, .int 0 0] }).objs.size = s.heap.objs.size + 1 := Heap.size_push ..
  show _ ∧ _
  rw [z1]
  have en : IsEnum ((s.heap.push { cls := .type "tuple_iterator", data := .fields #[.ref c, .int 0 0] }).push
      { cls := .type "enumerate", data := .fields #[.none, .bool false, .ref s.heap.objs.size, rawInt 0, .none, .none] }) (s.heap.objs.size + 1) s.heap.objs.size 0 .none := by
    have g := Heap.get?_push_size (s.heap.push { cls := .type "tuple_iterator", data := .fields #[.ref c, .int 0 0] })
      (o := { cls := .type "enumerate", data := .fields #[.none, .bool false, .ref s.heap.objs.size, rawInt 0, .none, .none] }) rfl
    rw [z1] at g
    exact g
  exact ⟨⟨_, en, rfl⟩, k _ en ⟨_, Heap.get?_push_of_some _ (Heap.get?_push_size _ rfl), rfl, rfl⟩ fun b o x => Heap.get?_push_of_some _ (Heap.get?_push_of_some _ x)⟩
/-- the tuple at a, each part in a new pair -/
def ItT (K : PySem.W.Frag) (a : Addr) : It :=
  ⟨fun i H => ∃ (xs : List V) (x : V), SqT K H a xs ∧ xs[i]? = some x, fun i H v H' => ∃ T x, v = .ref T ∧ H T = none ∧ H' = upd H T (.tup [.int (i : Nat), x]) ∧ ∀ xs, SqT K H a xs → xs[i]? = some x, fun i H => ∃ xs : List V, SqT K H a xs ∧ xs.length = i⟩
theorem turn_enumT {P : Program} {w : World} {K : PySem.W.Frag} {elts : List Expr} {kk : Nat} {tpos : Pos} (a e it : Addr) (hai : a ≠ it) (hae : e ≠ a) :
    Turn P w K (.Tuple elts kk tpos) (ItT K a) [e, it] e (fun i h => (∃ old, IsEnum h e it ((i : Nat) : Int) old) ∧ h.IsTupleIter it a i ∧ e ≠ it) where
  mem := by simp
  obj := fun i h st b hb => by
    obtain ⟨⟨old, he⟩, ⟨ot, go, kc, kd⟩, _⟩ := st
    have e2 : b = e ∨ b = it := by simpa using hb
    rcases e2 with rfl | rfl
    · exact ⟨_, he, fun v q => nomatch q⟩
    · exact ⟨ot, go, fun v q => by rw [kd] at q; cases q⟩
  keep := fun i h h' st k => let ⟨⟨old, he⟩, hi, hne⟩ := st; ⟨⟨old, k e (by simp) _ he⟩, hi.at fun ot q => k it (by simp) ot q, hne⟩
  item := by
    intro X hP hw hK hc i pins s σ H E I hf st hg
    subst hP hw hK
    obtain ⟨⟨old, he⟩, hit, hne⟩ := st
    obtain ⟨xs, x, hq, hx⟩ := hg
    obtain ⟨us, rv, pt, _⟩ := I.tuple hq
    obtain ⟨u, hu, ru⟩ := rv.get hx
    have lu : i < us.toArray.size := by
      have := (List.getElem?_eq_some_iff.mp hu).1
      simpa using this
    have el : e < s.heap.objs.size := Heap.lt_size he
    have il : it < s.heap.objs.size := by obtain ⟨_, q, _⟩ := hit; exact Heap.lt_size q
    refine wpAny_pyNext_enum_itemD (Draws.tuple (A := X.A.in1) (I.ok.hd hc) it a hai us.toArray) he ⟨hit, pt⟩ lu hne (by simp [hne, hae]) fun x2 h' tk px ho st' hT hsz hk => ?_
    have ex : x2 = u := by
      have : us[i]? = some x2 := by simpa using px
      rw [hu] at this
      exact (Option.some.inj this).symm
    subst ex
    refine ⟨_, rfl, wpAny_letOwnedTupleGo_enum (s := { s with heap := h', toks := tk + 1 }) ho fun h'' he' sb => ?_⟩
    have hT2 : h''.get? s.heap.objs.size = some { cls := .type "tuple", data := .seq #[.int i tk, x2] } := (sb.2 _ (Nat.ne_of_gt el)).trans hT
    have nw : ObjOk X.prog X.w (upd H s.heap.objs.size (.tup [.int (i : Nat), x])) h'' s.heap.objs.size (.tup [.int (i : Nat), x]) :=
      ⟨by show 2 ≤ sizeLine; decide, [.int i tk, x2], .cons ⟨_, rfl⟩ (.cons ru .nil), ⟨_, hT2, rfl, _, rfl⟩⟩
    have I1 : Inv X pins σ (upd H s.heap.objs.size (.tup [.int (i : Nat), x])) { s with heap := h'', toks := tk + 1 } :=
      I.turnedNew (ch := [e, it]) (fun b ob hb q => (sb.2 b (fun z => hb (by simp [z]))).trans (hk b ob (fun z => hb (by simp [z])) (fun z => hb (by simp [z])) q)) hf (Nat.le_refl _) nw
    refine ⟨.ref s.heap.objs.size, _, I1, rfl, ⟨_, x, rfl, I.hok.fresh (Nat.le_refl _), rfl, fun ys hy => by rw [I.tuple_inj hy hq]; exact hx⟩, ⟨⟨x2, ?_⟩, st'.1.at fun ot q => (sb.2 it (Ne.symm hne)).trans q, hne⟩, fun b hb => ?_⟩
    · have e1 : ((i + 1 : Nat) : Int) = (i : Int) + 1 := by omega
      rw [e1]
      exact he'
    · have e2 : b = e ∨ b = it := by simpa using hb
      have lb : b < s.heap.objs.size := by rcases e2 with rfl | rfl <;> assumption
      rw [upd_ne (Nat.ne_of_lt lb)]
      exact (hf b hb).1
  done := by
    intro X hP hw hK hc i pins s σ H E I hf st hg
    subst hP hw hK
    obtain ⟨⟨old, he⟩, hit, hne⟩ := st
    obtain ⟨xs, hq, hx⟩ := hg
    obtain ⟨us, rv, pt, _⟩ := I.tuple hq
    obtain ⟨f0, f1, f2, f3, f4, f5⟩ := hf it (by simp)
    have hl := rv.length
    have ei : i = us.toArray.size := by simp; omega
    rw [ei] at hit
    exact wpAny_pyNext_enum_endD (Draws.tuple (A := X.A.in1) (I.ok.hd hc) it a hai us.toArray) he ⟨hit, pt⟩ fun h' eb => ⟨rfl, I.turned (t' := s.toks) (fun b ot hb q => eb b ot hb q) f0 f1 f3 f4 f5⟩
  self := fun A i s Q E st h => let ⟨⟨_, he⟩, _⟩ := st; wpAny_pyIter_enum he h
def iEnumT (K : PySem.W.Frag) (ta : TA) : TI := fun σ H R => ta σ H fun vs H1 => ∃ a xs, vs = [.ref a] ∧ SqT K H1 a xs ∧ R (ItT K a) H1
theorem pi_enumT {X : Cx} {e : Expr} {ta : TA} {p pos tpos : Pos} {elts : List Expr} {kk : Nat} (hg : Gl X "enumerate") (hm : X.mg "enumerate" = none) (ha : PA X [e] ta) (hs : starEach [e] X.env = [(false, eval e X.env)] := by rfl) :
    PI X (.Tuple elts kk tpos) (.Call (.Name "enumerate" p) [e] [] pos) (iEnumT X.K ta) := by
  refine ⟨fun pins s σ H R I h => ?_⟩
  refine Call_ (ld_blt I hg hm boot_enumerate (PyProof.Rows.callWith_type1 (thn (ha.run pos pins s σ H _ I h) fun us s1 ⟨vs, H1, I1, r1, q1⟩ => ?_) hs rfl))
  obtain ⟨a, xs, rfl, hq, q⟩ := q1
  cases r1 with
  | cons r rr =>
    cases rr
    cases r
    obtain ⟨its, rv, pt, _⟩ := I1.tuple hq
    have la : a < s1.heap.objs.size := by obtain ⟨o, g, _⟩ := pt; exact Heap.lt_size g
    refine enumT_call pt fun h2 he hit hk => wpAny_pyIter_enum he ?_
    have I2 : Inv X pins σ H1 { s1 with heap := h2 } := I1.kept (t' := s1.toks) hk
    refine ⟨s1.heap.objs.size + 1, [s1.heap.objs.size + 1, s1.heap.objs.size], _, _, H1, rfl, I2, turn_enumT a (s1.heap.objs.size + 1) s1.heap.objs.size (Nat.ne_of_lt la) (Nat.ne_of_gt (Nat.lt_succ_of_lt la)), ⟨⟨.none, he⟩, hit, Nat.succ_ne_self _⟩, fun b hb => ?_, q⟩
    have e2 : b = s1.heap.objs.size + 1 ∨ b = s1.heap.objs.size := by simpa using hb
    have hle : s1.heap.objs.size ≤ b := by
      rcases e2 with z | z <;> rw [z]
      · exact Nat.le_add_right _ _
      · exact Nat.le_refl _
    exact I1.fpOk hle (I1.hok.fresh hle)
end Gj

/-! own layer: tests as statements have them; blocks that return a truth -/
namespace Gj
open PySem PySem.Spec PyProof.Rows L2
open C8 (Cal pe_c pe_gc)
def SayT (t : TT) (σ : L2.St) (H : Hp) (b : Bool) : Prop := ∀ Q : Bool → Hp → Prop, (∀ H', Same H H' → Q b H') → t σ H Q
/-- a block that returns the truth b -/
def Rets (t : TS) (σ : L2.St) (H : Hp) (b : Bool) : Prop := ∀ D : Ends, (∀ H', Same H H' → D.rt (.bl b) H') → t D σ H
section
variable {σ : L2.St} {H : Hp} {ta tb te : TE} {t1 t2 tc : TT} {u1 u2 : TS} {a b c : Bool} {K : PySem.W.Frag} {p : Addr} {v : V} {d : PyData}
theorem Say.tB (h : Say ta σ H a) : SayT (tB ta) σ H a := fun Q q => h _ fun H1 s1 => ⟨a, rfl, q H1 s1⟩
theorem Say.tTest (h : Say ta σ H a) : SayT (tTest ta) σ H a := fun Q q => h _ fun H1 s1 => ⟨a, rfl, q H1 s1⟩
theorem SayT.not (h : SayT t1 σ H a) : SayT (tNot t1) σ H (!a) := fun Q q => h _ q
theorem SayT.of (h : SayT t1 σ H a) (e : a = b) : SayT t1 σ H b := e ▸ h
theorem SayT.or (ha : SayT t1 σ H a) (hb : a = false → ∀ H', Same H H' → SayT t2 σ H' b) : SayT (tOr t1 t2) σ H (a || b) := fun Q q => ha _ fun H1 s1 => by
  cases a with
  | true => exact iteT (q H1 s1)
  | false => exact iteF (hb rfl H1 s1 Q fun H2 s2 => q H2 (s1.trans s2))
theorem SayT.and (ha : SayT t1 σ H a) (hb : a = true → ∀ H', Same H H' → SayT t2 σ H' b) : SayT (tAnd t1 t2) σ H (a && b) := fun Q q => ha _ fun H1 s1 => by
  cases a with
  | true => exact iteT (hb rfl H1 s1 Q fun H2 s2 => q H2 (s1.trans s2))
  | false => exact iteF (q H1 s1)
theorem Rets.ret (h : Say te σ H b) : Rets (tRet te) σ H b := fun D q => h _ q
theorem Rets.of (h : Rets u1 σ H a) (e : a = b) : Rets u1 σ H b := e ▸ h
/-- if c: return a; the rest -/
theorem Rets.iff (hc : SayT tc σ H c) (h1 : c = true → ∀ H', Same H H' → Rets u1 σ H' a) (h2 : c = false → ∀ H', Same H H' → Rets u2 σ H' b) : Rets (tSeq (tIfS tc u1 tNext) u2) σ H (bif c then a else b) := fun D q => hc _ fun H1 s1 => by
  cases c with
  | true => exact iteT (h1 rfl H1 s1 _ fun H2 s2 => q H2 (s1.trans s2))
  | false => exact iteF (h2 rfl H1 s1 D fun H2 s2 => q H2 (s1.trans s2))
theorem say_bl : Say (tC (.bl b)) σ H b := fun Q q => q H (Same.refl H)
theorem say_len {c : Addr} {xs : List V} (hv : Giv te σ H (.ref c)) (e : H c = some (.tup xs)) : Giv (tCB (rLenX K) (tCons te tNil)) σ H (.int (xs.length : Nat)) := fun Q q => hv _ ⟨.ref c, xs.length, rfl, .inr ⟨xs, SqT.of e, rfl⟩, q⟩
theorem say_lt {i j : Int} (h1 : Giv ta σ H (.int i)) (h2 : Giv tb σ H (.int j)) : Say (tOp (rI0 fun i j => .bl (decide (i < j))) ta tb) σ H (decide (i < j)) := fun Q q => h1 _ (h2 _ ⟨i, j, rfl, rfl, q H (Same.refl H)⟩)
theorem dec_int2 {i j : Int} : decide (V.int i = V.int j) = decide (i = j) := by
  by_cases h : i = j
  · rw [h, decide_eq_true rfl, decide_eq_true rfl]
  · rw [decide_eq_false h, decide_eq_false fun z => h (V.int.inj z)]
theorem say_eqI {i j : Int} (h1 : Giv ta σ H (.int i)) (h2 : Giv tb σ H (.int j)) : Say (tOp rEq ta tb) σ H (decide (i = j)) := fun Q q => h1 _ (h2 _ ⟨rfl, by rw [dec_int2]; exact q H (Same.refl H)⟩)
theorem say_neI {i j : Int} (h1 : Giv ta σ H (.int i)) (h2 : Giv tb σ H (.int j)) : Say (tOp rNe ta tb) σ H (!decide (i = j)) := fun Q q => h1 _ (h2 _ ⟨rfl, by rw [dec_int2]; exact q H (Same.refl H)⟩)
end
theorem walk_enumT {K : PySem.W.Frag} {a : Addr} {xs : List V} : Walk (ItT K a) xs.length (fun H => SqT K H a xs) (fun i H v H' => ∃ T x, v = .ref T ∧ H T = none ∧ H' = upd H T (.tup [.int (i : Nat), x]) ∧ xs[i]? = some x) :=
  ⟨fun i _ hi q => ⟨xs, xs[i], q, by simp [hi]⟩, fun _ q => ⟨xs, q, rfl⟩, fun _ _ _ _ _ q ⟨T, x, h1, h2, h3, h4⟩ => ⟨T, x, h1, h2, h3, h4 xs q⟩⟩
/-- whether the k-th is none of those ahead of it -/
def newAt (zs : List Str) (k : Nat) : Bool := !decide (zs.getD k Str.empty ∈ zs.take k)
theorem cut_to (xs : List V) (k : Nat) : cutV xs none (some (k : Int)) = xs.take k := by
  unfold cutV
  rw [HT.sIx_none, HT.sIx_nat, List.drop_zero, Nat.sub_zero]
  by_cases h : k ≤ xs.length
  · rw [Nat.min_eq_left h]
  · rw [Nat.min_eq_right (by omega), List.take_of_length_le (Nat.le_refl _), List.take_of_length_le (by omega)]
theorem say_news {σ : L2.St} {H : Hp} {K : PySem.W.Frag} {te ts : TE} {i j : Nat} {vs : List Nat} {c : Addr} {zs : List Str} (hl : zs.length ≤ 1000) (hv : Giv te σ H (.ref c)) (ec : H c = some (.tup (zs.map V.str)))
    (hw : ∀ x y, wipe (((wipe σ vs).set i (some x)).set j (some y)) vs = wipe σ vs) (hi : ∀ x y, (((wipe σ vs).set i (some x)).set j (some y))[i]? = some (some x)) (hj : ∀ x y, (((wipe σ vs).set i (some x)).set j (some y))[j]? = some (some y)) (hs : ∀ x y H, Giv ts (((wipe σ vs).set i (some x)).set j (some y)) H (.ref c)) :
    Say (tCB (rAll K) (tCons (tLc (iEnumT K (tCons te tNil)) (gTup K 2 (gCons (gName i) (gCons (gName j) gNil))) tYes (tOp (rIn K true) (tVar j) (tSl (rSlA K) ts tNoPart (tPart (tVar i)))) vs) tNil)) σ H ((List.range zs.length).all (newAt zs)) := fun Q q => hv _ ⟨c, _, rfl, SqT.of ec, fun D hD => by
  refine lc_it (walk_enumT (xs := zs.map V.str)) (Pv := fun k H' => Same H H' ∧ H' D = some (.lst (((List.range k).map (newAt zs)).map V.bl))) ⟨same_new hD, upd_same⟩ (fun k H1 _ hp => SqT.of (hp.1 _ _ ec)) (fun k x H1 H2 hk hp hy => ?_) (fun H1 hp => ?_)
  · obtain ⟨sm, eD⟩ := hp
    obtain ⟨T, y, rfl, nT, rfl, ey⟩ := hy
    rw [List.length_map] at hk
    rw [List.getElem?_map, List.getElem?_eq_getElem hk] at ey
    have ey : V.str zs[k] = y := Option.some.inj ey
    subst ey
    have s2 : Same H1 (upd H1 T (.tup [.int (k : Nat), .str zs[k]])) := same_new nT
    refine ⟨T, _, rfl, SqT.of upd_same, rfl, _, _, rfl, _, _, rfl, rfl, hw _ _, _, hj _ _, hs _ _ _ _ ⟨_, hi _ _, (k : Int), rfl, c, _, rfl, SqT.of (s2 _ _ (sm _ _ ec)), fun hwh => ?_, fun hwh a na => ?_⟩⟩
    · have e2 := hwh.2
      rw [HT.sIx_nat, List.length_map, Nat.min_eq_left (Nat.le_of_lt hk)] at e2
      omega
    · refine ⟨a, _, rfl, .inr (SqT.of upd_same), rfl, ?_, _, (same_new na) _ _ (s2 _ _ eD), ?_, fun b o e => ?_, ?_⟩
      · rw [cut_to, ← List.map_take]
        exact flat_strs _
      · rw [List.length_map, List.length_map, List.length_range]
        exact small1000 (by omega)
      · rw [upd_ne (ne_of_none e hD)]
        exact (same_new na) _ _ (s2 _ _ (sm b o e))
      · rw [upd_same, cut_to, ← List.map_take, if_pos rfl, inV_strs, List.range_succ, List.map_append, List.map_append]
        show _ = some (HO.lst (_ ++ [V.bl (!decide (zs.getD k Str.empty ∈ zs.take k))]))
        rw [List.getD_eq_getElem?_getD, List.getElem?_eq_getElem hk]
        rfl
  · obtain ⟨sm, eD⟩ := hp
    rw [List.length_map] at eD
    refine ⟨D, _, rfl, SqL.of eD, ?_⟩
    rw [List.all_map]
    exact q H1 sm⟩
theorem news_nodup (zs : List Str) : ((List.range zs.length).all (newAt zs) = true) ↔ zs.Nodup := by
  rw [List.all_eq_true]
  constructor
  · intro h
    rw [List.nodup_iff_pairwise_ne, List.pairwise_iff_getElem]
    intro i j hi hj hij e
    have := h j (List.mem_range.mpr hj)
    unfold newAt at this
    rw [List.getD_eq_getElem?_getD, List.getElem?_eq_getElem hj] at this
    have h2 : zs[j] ∉ zs.take j := by simpa using this
    exact h2 (by rw [← e]; exact List.mem_take_iff_getElem.mpr ⟨i, by omega, rfl⟩)
  · intro h k hk
    have hk := List.mem_range.mp hk
    unfold newAt
    rw [List.getD_eq_getElem?_getD, List.getElem?_eq_getElem hk]
    have h2 : zs[k] ∉ zs.take k := by
      intro hm
      obtain ⟨i, hi, e⟩ := List.mem_take_iff_getElem.mp hm
      rw [List.nodup_iff_pairwise_ne, List.pairwise_iff_getElem] at h
      exact h i k (by omega) hk (by omega) e
    simpa using h2
end Gj

/-! own layer: expressions that lay data, drawing from the pot at p -/
namespace Gj
open PySem PySem.Spec PyProof.Rows L2
open C8 (Cal pe_c pe_gc)
theorem Drawn.refl {p : Addr} {H : Hp} (h : Pot H p) : Drawn p H H := ⟨Keep.refl, h⟩
/-- it is a datum -/
def Lay (te : TE) (p : Addr) (σ : L2.St) (H : Hp) : Prop := ∀ Q : VK, (∀ (H' : Hp) (v : V) (d : PyData), Drawn p H H' → Dt p H' v d → Q v H') → te σ H Q
/-- they are n data -/
def Lays (ta : TA) (p : Addr) (σ : L2.St) (H : Hp) (n : Nat) : Prop := ∀ Q : List V → Hp → Prop, (∀ (H' : Hp) (vs : List V) (ds : List PyData), Drawn p H H' → DtAll p H' vs ds → vs.length = n → Q vs H') → ta σ H Q
/-- it is a tuple of data -/
def LayT (te : TE) (p : Addr) (σ : L2.St) (H : Hp) (lo hi : Nat) : Prop := ∀ Q : VK, (∀ (H' : Hp) (c : Addr) (xs : List V) (ds : List PyData), Drawn p H H' → c ≠ p → H' c = some (.tup xs) → DtAll p H' xs ds → lo ≤ xs.length → xs.length ≤ hi → Q (.ref c) H') → te σ H Q
/-- it is a number from 0 up to n -/
def LayI (te : TE) (p : Addr) (σ : L2.St) (H : Hp) (n : Int) : Prop := ∀ Q : VK, (∀ (H' : Hp) (i : Int), Drawn p H H' → 0 ≤ i → i < n → Q (.int i) H') → te σ H Q
def GivO (to : TO) (σ : L2.St) (H : Hp) (o : Option Int) : Prop := ∀ Q : Option Int → Hp → Prop, Q o H → to σ H Q
section
variable {p : Addr} {σ : L2.St} {H : Hp} {te tb : TE} {ta : TA} {n m lo hi lo2 hi2 : Nat} {v : V} {d : PyData} {K : PySem.W.Frag}
theorem Lay.of (h : Giv te σ H v) (hp : Pot H p) (hd : Dt p H v d) : Lay te p σ H := fun Q q => h _ (q H v d (Drawn.refl hp) hd)
theorem LayT.lay (h : LayT te p σ H lo hi) (hh : hi ≤ 1000) : Lay te p σ H := fun Q q => h _ fun H1 c xs ds r n e a l1 l2 => q H1 _ _ r (.tup n (by omega) e a)
theorem Lays.nil (hp : Pot H p) : Lays tNil p σ H 0 := fun Q q => q H [] [] (Drawn.refl hp) .nil rfl
theorem Lays.cons (h : Lay te p σ H) (ht : ∀ H', Drawn p H H' → Lays ta p σ H' n) : Lays (tCons te ta) p σ H (n + 1) := fun Q q => h _ fun H1 v d r1 h1 => ht H1 r1 _ fun H2 vs ds r2 h2 e => q H2 _ _ (r1.trans r2) (.cons (h1.keep r2.keep) h2) (by rw [List.length_cons, e])
theorem Lays.tup (h : Lays ta p σ H n) (hn : n ≤ 1000) : LayT (tTup ta) p σ H n n := fun Q q => h _ fun H1 vs ds r h1 e => ⟨Nat.le_of_lt (small1000 (by omega)), fun a na => q _ a vs ds (r.new na) (r.pot.ne na) upd_same (h1.keep (Keep.new na)) (by omega) (by omega)⟩
theorem Lays.lst (h : Lays ta p σ H n) (hn : n ≤ 1000) : Lay (tLst ta) p σ H := fun Q q => h _ fun H1 vs ds r h1 e => ⟨Nat.le_of_lt (small1000 (by omega)), fun a na => q _ _ (.list ds) (r.new na) (.lst (r.pot.ne na) (by omega) upd_same (h1.keep (Keep.new na)))⟩
theorem Lay.dnew (hp : Pot H p) : Lay tDNewK p σ H := fun Q q a na => q _ _ (.dict []) ((Drawn.refl hp).new na) (.dic (hp.ne na) upd_same)
/-- [..][a number] -/
theorem Lays.pick (h : Lays ta p σ H n) (hn : n ≤ 1000) (hi : ∀ H', Drawn p H H' → LayI tb p σ H' n) : Lay (tOp (rIxL K) (tLst ta) tb) p σ H := fun Q q => h _ fun H1 vs ds r h1 e => ⟨Nat.le_of_lt (small1000 (by omega)), fun a na => by
  refine hi _ (r.new na) _ fun H2 i r2 i0 i1 => ?_
  have e2 : H2 a = some (.lst vs) := r2.keep _ _ (r.pot.ne na) upd_same
  have hh := (h1.keep (Keep.new na (o := .lst vs))).keep r2.keep
  obtain ⟨k, rfl⟩ := Int.eq_ofNat_of_zero_le i0
  have hk : vs[k]? = some (vs[k]'(by omega)) := List.getElem?_eq_getElem _
  obtain ⟨d, _, hd⟩ := hh.get hk
  exact ⟨a, vs, k, _, rfl, rfl, SqL.of e2, atI_nat hk, q _ _ d ((r.new na).trans r2) hd⟩⟩
theorem LayI.digit {E : XK} {tp tn : TE} {n : Int} (hp : Giv tp σ H (.ref p)) (hq : Pot H p) (hn : Giv tn σ H (.int n)) (h0 : 0 < n) (h1 : n.natAbs.log2 < 9000) : LayI (tCall spDigit [] E (tCons tp (tCons tn tNil))) p σ H n := fun Q q => hp _ (hn _ ⟨p, n, rfl, hq, h0, h1, fun i H' i0 i1 r => q H' i r i0 i1⟩)
theorem GivO.none : GivO tNoPart σ H none := fun Q q => q
theorem GivO.some {i : Int} (h : Giv te σ H (.int i)) : GivO (tPart te) σ H (some i) := fun Q q => h _ ⟨i, rfl, q⟩
theorem DtAll.cut {xs : List V} {ds : List PyData} (h : DtAll p H xs ds) (a b : Option Int) : DtAll p H (cutV xs a b) ((ds.drop (HT.sIx xs.length 0 a)).take (HT.sIx xs.length xs.length b - HT.sIx xs.length 0 a)) := (h.drop _).take _
theorem LayT.cut {c : Addr} {xs : List V} {ds : List PyData} {tl th : TO} {a b : Option Int} (h : Giv te σ H (.ref c)) (hp : Pot H p) (hc : c ≠ p) (e : H c = some (.tup xs)) (hd : DtAll p H xs ds) (hl : GivO tl σ H a) (hh : GivO th σ H b) (hb : (cutV xs a b).length ≤ hi) : LayT (tSl (rSlA K) te tl th) p σ H 0 hi := fun Q q =>
  h _ (hl _ (hh _ ⟨c, xs, rfl, SqT.of e, fun w => q H c xs ds (Drawn.refl hp) hc e hd (Nat.zero_le _) (by
    unfold cutV at hb
    rw [w.1, w.2, List.drop_zero, Nat.sub_zero, List.take_of_length_le (Nat.le_refl _)] at hb
    exact hb), fun _ z nz => q _ z _ _ ((Drawn.refl hp).new nz) (hp.ne nz) upd_same ((hd.cut a b).keep (Keep.new nz)) (Nat.zero_le _) hb⟩))
theorem cut_from (xs : List V) (k : Nat) : cutV xs (some (k : Int)) none = xs.drop k := by
  unfold cutV
  rw [HT.sIx_none, HT.sIx_nat]
  by_cases h : k ≤ xs.length
  · rw [Nat.min_eq_left h, List.take_of_length_le (by rw [List.length_drop]; exact Nat.le_refl _)]
  · rw [Nat.min_eq_right (by omega), Nat.sub_self, List.take_zero, List.drop_eq_nil_of_le (by omega)]
theorem LayT.cat (h : LayT te p σ H lo hi) (h2 : ∀ H', Drawn p H H' → LayT tb p σ H' lo2 hi2) (hn : hi + hi2 ≤ 1000) : LayT (tOp (rCatA K) te tb) p σ H 0 (hi + hi2) := fun Q q => h _ fun H1 a xs ds r1 na ea ha l1 l2 => h2 H1 r1 _ fun H2 b ys es r2 nb eb hb l3 l4 => by
  have ea2 := r2.keep _ _ na ea
  have ha2 := ha.keep r2.keep
  refine ⟨a, b, xs, ys, rfl, rfl, SqT.of ea2, SqT.of eb, Nat.le_of_lt (small1000 (by omega)), fun _ => ?_, fun _ _ => ?_, fun _ _ c nc => ?_⟩
  · exact q H2 b ys es (r1.trans r2) nb eb hb (Nat.zero_le _) (by omega)
  · exact q H2 a xs ds (r1.trans r2) na ea2 ha2 (Nat.zero_le _) (by omega)
  · exact q _ c _ _ ((r1.trans r2).new nc) (r2.pot.ne nc) upd_same ((ha2.append hb).keep (Keep.new nc)) (Nat.zero_le _) (by rw [List.length_append]; omega)
end
end Gj

namespace Gj
open PySem PySem.Spec PyProof.Rows L2
open C8 (Cal pe_c pe_gc)
/-- it is a list of n data -/
def LayL (te : TE) (p : Addr) (σ : L2.St) (H : Hp) (n : Nat) : Prop := ∀ Q : VK, (∀ (H' : Hp) (c : Addr) (xs : List V) (ds : List PyData), Drawn p H H' → c ≠ p → H' c = some (.lst xs) → DtAll p H' xs ds → xs.length = n → Q (.ref c) H') → te σ H Q
section
variable {p : Addr} {σ : L2.St} {H : Hp} {te tb tp tn : TE} {ta : TA} {n m : Nat} {v : V} {d : PyData} {K : PySem.W.Frag} {E : XK}
theorem Lay.run {Q : VK} (h : Lay te p σ H) (q : ∀ (H' : Hp) (v : V) (d : PyData), Drawn p H H' → Dt p H' v d → Q v H') : te σ H Q := h Q q
theorem LayI.run {n : Int} {Q : VK} (h : LayI te p σ H n) (q : ∀ (H' : Hp) (i : Int), Drawn p H H' → 0 ≤ i → i < n → Q (.int i) H') : te σ H Q := h Q q
theorem LayT.run {lo hi : Nat} {Q : VK} (h : LayT te p σ H lo hi) (q : ∀ (H' : Hp) (c : Addr) (xs : List V) (ds : List PyData), Drawn p H H' → c ≠ p → H' c = some (.tup xs) → DtAll p H' xs ds → lo ≤ xs.length → xs.length ≤ hi → Q (.ref c) H') : te σ H Q := h Q q
theorem LayL.run {n : Nat} {Q : VK} (h : LayL te p σ H n) (q : ∀ (H' : Hp) (c : Addr) (xs : List V) (ds : List PyData), Drawn p H H' → c ≠ p → H' c = some (.lst xs) → DtAll p H' xs ds → xs.length = n → Q (.ref c) H') : te σ H Q := h Q q
theorem Lays.lstL (h : Lays ta p σ H n) (hn : n ≤ 1000) : LayL (tLst ta) p σ H n := fun Q q => h _ fun H1 vs ds r h1 e => ⟨Nat.le_of_lt (small1000 (by omega)), fun a na => q _ a vs ds (r.new na) (r.pot.ne na) upd_same (h1.keep (Keep.new na)) e⟩
theorem LayL.var {c : Addr} {xs : List V} {ds : List PyData} (h : Giv te σ H (.ref c)) (hp : Pot H p) (hc : c ≠ p) (e : H c = some (.lst xs)) (hd : DtAll p H xs ds) (hl : xs.length = n) : LayL te p σ H n := fun Q q => h _ (q H c xs ds (Drawn.refl hp) hc e hd hl)
theorem LayL.cat (h : LayL te p σ H n) (h2 : ∀ H', Drawn p H H' → LayL tb p σ H' m) (hn : n + m ≤ 1000) : LayL (tOp rCat te tb) p σ H (n + m) := fun Q q => h _ fun H1 a xs ds r1 na ea ha l1 => h2 H1 r1 _ fun H2 b ys es r2 nb eb hb l2 => by
  have ea2 := r2.keep _ _ na ea
  have ha2 := ha.keep r2.keep
  exact ⟨a, b, xs, ys, rfl, rfl, ea2, eb, Nat.le_of_lt (small1000 (by omega)), fun c nc => q _ c _ _ ((r1.trans r2).new nc) (r2.pot.ne nc) upd_same ((ha2.append hb).keep (Keep.new nc)) (by rw [List.length_append]; omega)⟩
/-- x[a number] -/
theorem LayL.pick (h : LayL te p σ H n) (hi : ∀ H' c (xs : List V), Drawn p H H' → H' c = some (.lst xs) → xs.length = n → LayI tb p σ H' n) : Lay (tOp (rIxL K) te tb) p σ H := fun Q q => h _ fun H1 a vs ds r na ea h1 e => by
  refine hi _ a vs r ea e _ fun H2 i r2 i0 i1 => ?_
  have e2 : H2 a = some (.lst vs) := r2.keep _ _ na ea
  have hh := h1.keep r2.keep
  obtain ⟨k, rfl⟩ := Int.eq_ofNat_of_zero_le i0
  have hk : vs[k]? = some (vs[k]'(by omega)) := List.getElem?_eq_getElem _
  obtain ⟨d, _, hd⟩ := hh.get hk
  exact ⟨a, vs, k, _, rfl, rfl, SqL.of e2, atI_nat hk, q _ _ d (r.trans r2) hd⟩
theorem Lay.word (hp : Giv tp σ H (.ref p)) (hq : Pot H p) : Lay (tCall spWord [] E (tCons tp tNil)) p σ H := fun Q q => hp _ ⟨p, rfl, hq, fun z H' hz r => q H' _ (.str z) r (.str z hz.small)⟩
theorem Lay.whole {i : Int} (hp : Giv tp σ H (.ref p)) (hq : Pot H p) (hn : Giv tn σ H (.int i)) : Lay (tCall spWhole [] E (tCons tp (tCons tn tNil))) p σ H := fun Q q => hp _ (hn _ ⟨p, i, rfl, hq, fun j H' _ _ r => q H' _ (.int j) r (.int j)⟩)
theorem Lay.name (hp : Giv tp σ H (.ref p)) (hq : Pot H p) : Lay (tCall spName [] E (tCons tp (tCons (tLst tNil) tNil))) p σ H := fun Q q => hp _ ⟨(by show 0 ≤ sizeLine; decide), fun u nu => ⟨p, u, [], rfl, hq.new nu, hq.ne nu, upd_same, (fun _ h => absurd h List.not_mem_nil), by decide, fun z H' hz _ r => q H' _ (.str z) (((Drawn.refl hq).new nu).trans r) (.str z hz.small)⟩⟩
/-- names of the pot, into a new list -/
theorem names_new {Q : VK} {E : XK} {n : Nat} (hq : Pot H p) (hn : n ≤ 25) (q : ∀ (H' : Hp) (c : Addr) (zs : List Str), Drawn p H H' → c ≠ p → H' c = some (.lst (zs.map V.str)) → zs.length = n → (∀ z ∈ zs, NameS z) → zs.Nodup → Q (.ref c) H') : ∀ u, H u = none → spNames [.ref p, .int (n : Nat), .ref u] (upd H u (.lst [])) Q E := fun u nu =>
  ⟨p, u, [], n, rfl, hq.new nu, hq.ne nu, upd_same, (fun _ h => absurd h List.not_mem_nil), by simpa using hn, fun c zs H' nc np hl hz nd _ r e => q H' c zs (((Drawn.refl hq).new nu).trans r) np e hl hz nd⟩
theorem DtAll.names {zs : List Str} (h : ∀ z ∈ zs, NameS z) : DtAll p H (zs.map V.str) (zs.map PyData.str) := DtAll.strs fun z hz => (h z hz).small
abbrev rTupOf (K : PySem.W.Frag) : List V → Hp → VK → Prop := fun xs H Q => ∃ p ys, xs = [.ref p] ∧ ((SqL K H p ys ∧ ∀ l, H l = none → Q (.ref l) (upd H l (.tup ys))) ∨ (SqT K H p ys ∧ Q (.ref p) H))
theorem Lay.shut (hp : Giv tp σ H (.ref p)) (hi : LayI tn p σ H 10) : Lay (tCB (rTupOf K) (tCons (tCall spNames [] E (tCons tp (tCons tn (tCons (tLst tNil) tNil)))) tNil)) p σ H := fun Q q => hp _ (hi _ fun H1 i r1 i0 i1 => ⟨(by show 0 ≤ sizeLine; decide), by
  obtain ⟨k, rfl⟩ := Int.eq_ofNat_of_zero_le i0
  refine names_new (Q := fun x H2 => rTupOf K [x] H2 Q) (E := E) (n := k) r1.pot (by omega) fun H2 c zs r2 nc ec hl hz nd => ?_
  refine ⟨c, _, rfl, .inl ⟨SqL.of ec, fun a na => q _ _ (.tuple (zs.map PyData.str)) ((r1.trans r2).new na) (.tup (r2.pot.ne na) ?_ upd_same (DtAll.names hz))⟩⟩
  rw [List.length_map]
  omega⟩)
abbrev rLstOf (K : PySem.W.Frag) : List V → Hp → VK → Prop := fun xs H Q => ∃ p ys, xs = [.ref p] ∧ (SqL K H p ys ∨ SqT K H p ys) ∧ ∀ l, H l = none → Q (.ref l) (upd H l (.lst ys))
theorem Lay.list {c : Addr} {xs : List V} {ds : List PyData} (h : Giv te σ H (.ref c)) (hp : Pot H p) (hl : xs.length ≤ 1000) (e : H c = some (.tup xs)) (hd : DtAll p H xs ds) : Lay (tCB (rLstOf K) (tCons te tNil)) p σ H := fun Q q => h _ ⟨c, xs, rfl, .inr (SqT.of e), fun a na => q _ _ (.list ds) ((Drawn.refl hp).new na) (.lst (hp.ne na) hl upd_same (hd.keep (Keep.new na)))⟩
theorem giv_lenL {c : Addr} {xs : List V} (hv : Giv te σ H (.ref c)) (e : H c = some (.lst xs)) : Giv (tCB (rLenX K) (tCons te tNil)) σ H (.int (xs.length : Nat)) := fun Q q => hv _ ⟨.ref c, xs.length, rfl, .inl ⟨xs, SqL.of e, rfl⟩, q⟩
theorem giv_add {ta : TE} {i j : Int} (h1 : Giv ta σ H (.int i)) (h2 : Giv tb σ H (.int j)) : Giv (tOp (rI0 fun i j => .int (i + j)) ta tb) σ H (.int (i + j)) := fun Q q => h1 _ (h2 _ ⟨i, j, rfl, rfl, q⟩)
theorem giv_ixV {ti : TE} {c : Addr} {xs : List V} {ds : List PyData} {k : Nat} (h : Giv te σ H (.ref c)) (h2 : Giv ti σ H (.int (k : Nat))) (e : H c = some (.tup xs)) (hd : DtAll p H xs ds) (hk : k < xs.length) : ∃ x d, Giv (tOp (rIxT K) te ti) σ H x ∧ Dt p H x d ∧ xs[k]? = some x ∧ ds[k]? = some d := by
  have hx : xs[k]? = some xs[k] := List.getElem?_eq_getElem hk
  obtain ⟨d, h3, h4⟩ := hd.get hx
  exact ⟨_, d, fun Q q => h _ (h2 _ ⟨c, xs, _, _, rfl, rfl, SqT.of e, atI_nat hx, q⟩), h4, hx, h3⟩
theorem giv_last {c : Addr} {xs : List V} (h : Giv te σ H (.ref c)) (e : H c = some (.tup xs)) (hk : 0 < xs.length) : Giv (tOp (rIxT K) te (tUn (rU fun i => .int (-i)) (tC (.int 1)))) σ H (xs.getD (xs.length - 1) .non) := by
  refine fun Q q => h _ ⟨1, rfl, c, xs, _, _, rfl, rfl, SqT.of e, ?_, q⟩
  show (ixN xs.length (-1)).bind (fun j => xs[j]?) = _
  have : ixN xs.length (-1) = some (xs.length - 1) := by
    unfold ixN
    rw [if_neg (by omega), if_pos (by omega)]
    congr 1
    omega
  rw [this, List.getD_eq_getElem?_getD]
  show xs[xs.length - 1]? = _
  rw [List.getElem?_eq_getElem (by omega)]
  rfl
theorem DtAll.getD {xs : List V} {ds : List PyData} (hd : DtAll p H xs ds) (k : Nat) (hk : k < xs.length) : Dt p H (xs.getD k .non) (ds.getD k .none) := by
  have hx : xs[k]? = some xs[k] := List.getElem?_eq_getElem hk
  obtain ⟨d, h3, h4⟩ := hd.get hx
  rw [List.getD_eq_getElem?_getD, List.getD_eq_getElem?_getD, hx, h3]
  exact h4
theorem LayI.digitN {tn : TE} {n : Nat} (hp : Giv tp σ H (.ref p)) (hq : Pot H p) (hn : Giv tn σ H (.int (n : Nat))) (h0 : 0 < n) (h1 : n ≤ 1000) : LayI (tCall spDigit [] E (tCons tp (tCons tn tNil))) p σ H n := LayI.digit hp hq hn (by omega) (Nat.lt_of_le_of_lt (Nat.log2_le_self _) (by show n < 9000; omega))
def filled : PyData → Bool
  | .tuple ds => !ds.isEmpty
  | _ => false
theorem say_neE {x : V} {d : PyData} (h : Giv te σ H x) (hd : Dt p H x d) (e : isa d "tuple" = true) : Say (tOp (rNeE K) te (tTup tNil)) σ H (filled d) := fun Q q => h _ ⟨(by show 0 ≤ sizeLine; decide), fun a na => by
  cases hd with
  | @tup c xs ds nc hl ec ha =>
    refine ⟨c, a, xs, rfl, rfl, .inr ⟨SqT.of (same_new na _ _ ec), SqT.of upd_same⟩, ?_⟩
    have := q _ (same_new (o := .tup []) na)
    have e2 : filled (.tuple ds) = !xs.isEmpty := by
      cases ha <;> rfl
    rw [e2] at this
    exact this
  | _ => exact absurd e (by dsimp only [isa, kind]; decide +kernel)⟩
/-! ### statements -/
variable {D : Ends} {u t : TS} {i : Nat} {tc : TT} {c : Bool}
theorem setD (h : Lay te p σ H) (q : ∀ (H' : Hp) (v : V) (d : PyData), Drawn p H H' → Dt p H' v d → u D (σ.set i (some v)) H') : tSeq (tAsg te (gName i)) u D σ H := h _ q
theorem setI {n : Int} (h : LayI te p σ H n) (q : ∀ (H' : Hp) (k : Int), Drawn p H H' → 0 ≤ k → k < n → u D (σ.set i (some (.int k))) H') : tSeq (tAsg te (gName i)) u D σ H := h _ q
theorem setT {lo hi : Nat} (h : LayT te p σ H lo hi) (q : ∀ (H' : Hp) (c : Addr) (xs : List V) (ds : List PyData), Drawn p H H' → c ≠ p → H' c = some (.tup xs) → DtAll p H' xs ds → lo ≤ xs.length → xs.length ≤ hi → u D (σ.set i (some (.ref c))) H') : tSeq (tAsg te (gName i)) u D σ H := h _ q
theorem setL {n : Nat} (h : LayL te p σ H n) (q : ∀ (H' : Hp) (c : Addr) (xs : List V) (ds : List PyData), Drawn p H H' → c ≠ p → H' c = some (.lst xs) → DtAll p H' xs ds → xs.length = n → u D (σ.set i (some (.ref c))) H') : tSeq (tAsg te (gName i)) u D σ H := h _ q
theorem setV (h : Giv te σ H v) (q : u D (σ.set i (some v)) H) : tSeq (tAsg te (gName i)) u D σ H := h _ q
theorem retD (h : Lay te p σ H) (q : ∀ (H' : Hp) (v : V) (d : PyData), Drawn p H H' → Dt p H' v d → D.rt v H') : tRet te D σ H := h _ q
theorem retT {lo hi : Nat} (h : LayT te p σ H lo hi) (q : ∀ (H' : Hp) (c : Addr) (xs : List V) (ds : List PyData), Drawn p H H' → c ≠ p → H' c = some (.tup xs) → DtAll p H' xs ds → lo ≤ xs.length → xs.length ≤ hi → D.rt (.ref c) H') : tRet te D σ H := h _ q
theorem ifS (h : SayT tc σ H c) (h1 : c = true → ∀ H', Same H H' → t { D with nx := u D } σ H') (h2 : c = false → ∀ H', Same H H' → u D σ H') : tSeq (tIfS tc t tNext) u D σ H := h _ fun H1 s1 => by
  cases c with
  | true => exact iteT (h1 rfl H1 s1)
  | false => exact iteF (h2 rfl H1 s1)
theorem isI {ta : TE} {k n : Int} (h1 : Giv ta σ H (.int k)) : SayT (tTest (tOp rEq ta (tC (.int n)))) σ H (decide (k = n)) := Say.tTest (say_eqI h1 giv_c)
end
end Gj

set_option maxHeartbeats 4000000
namespace Gj
open PySem PySem.Spec PyProof.Rows L2
open C8 (Cal pe_c pe_gc)
section
variable {σ : L2.St} {H : Hp} {te ta tb : TE} {a b c : Bool} {D : Ends} {u t : TS} {i : Nat} {tc : TT}
theorem setB (h : Say te σ H b) (q : ∀ H', Same H H' → u D (σ.set i (some (.bl b))) H') : tSeq (tAsg te (gName i)) u D σ H := h _ q
theorem setW {w : V} (h : ∀ Q : VK, (∀ H', Same H H' → Q w H') → te σ H Q) (q : ∀ H', Same H H' → u D (σ.set i (some w)) H') : tSeq (tAsg te (gName i)) u D σ H := h _ q
theorem say_var (h : σ[i]? = some (some (.bl b))) : Say (tVar i) σ H b := fun Q q => ⟨_, h, q H (Same.refl H)⟩
theorem retB (h : Say te σ H b) (q : ∀ H', Same H H' → D.rt (.bl b) H') : tRet te D σ H := h _ q
abbrev rReprB : List V → Hp → VK → Prop := fun xs H Q => ∃ b, xs = [.bl b] ∧ Q (.str (if b then "True" else "False")) H
theorem say_reprNe (ha : Say ta σ H a) (hb : ∀ H', Same H H' → Say tb σ H' a) : Say (tOp rNe (tCB rReprB (tCons ta tNil)) (tCB rReprB (tCons tb tNil))) σ H false := fun Q q => ha _ fun H1 s1 => ⟨a, rfl, hb H1 s1 _ fun H2 s2 => ⟨a, rfl, rfl, by
  rw [decide_eq_true rfl]
  exact q H2 (s1.trans s2)⟩⟩
/-- an if whose test is false -/
theorem ifNo (h : SayT tc σ H false) (h2 : ∀ H', Same H H' → u D σ H') : tSeq (tIfS tc t tNext) u D σ H := ifS h (fun e => absurd e (by decide)) fun _ => h2
theorem say_inL {K : PySem.W.Frag} {p : Addr} {v : V} {d : PyData} {z1 z2 : Str} (hv : Giv te σ H v) (hd : Dt p H v d) : Say (tOp (rInT K) te (tLst (tCons (tC (.str z1)) (tCons (tC (.str z2)) tNil)))) σ H ([z1, z2].any fun z => isT d z) := fun Q q => hv _ ⟨(by show 2 ≤ sizeLine; decide), fun a na => ⟨p, a, d, [z1, z2], rfl, SqL.of upd_same, hd.same (same_new na), q _ (same_new na)⟩⟩
end
end Gj

/-! own layer: KeyError as a base -/
namespace Gj
open PySem PySem.F
abbrev keyMro : List Value := [.type "KeyError", .type "LookupError", .type "Exception", .type "BaseException", .type "object"]
theorem key_store : StoreFacts "KeyError" keyMro "object.__setattr__" "object" :=
  { mro := by kernel_rfl
    slot := by
      refine .of (owner := "object") (n := "__setattr__") ?_ (by decide +kernel) (by decide +kernel) (by decide +kernel) ?_ ?_
      · rw [typeLookup_type, builtinLookup_eq_fast] <;> kernel_rfl
      · first | exact .inl (by decide +kernel) | exact .inr (by decide +kernel)
      · rw [isSubtype_type] <;> kernel_rfl
    entry := entry_object_sa, kind := by decide +kernel, split := by decide +kernel, hasOwner := by decide +kernel
    args := fun a b c => by unfold argsOk <;> kernel_rfl
    passes := fun self => by kernel_rfl }
end Gj

/-! own layer: exception classes of one's own, called with keywords too -/
namespace Gj
open PySem PySem.Spec PyProof.Rows L2
/-- what is asked of a class whose __new__ is that of the built-in class B -/
structure NewOk (B newId : String) (bm : List Value) : Prop where
  b : bm.contains (.type B) = true
  noA : bm.contains (.type "AttributeError") = false
  noN : bm.contains (.type "NameError") = false
section
variable {prog : Program} {w : World} {M : Model} {A : Around} {E : Value → Shared → Prop} {h : Heap} {g : Array GenState} {d : PySem.Drawn} {t : Nat} {os : OsState} {R : Result → Shared → Prop}
variable {nm q : Str} {C N : Addr} {bs bm bmB : List Value} {hdct : Bool} {sn : List Str} {sub : List Value} {ab : Bool} {col : Option Bool} {dd : Option Addr} {k0 k1 k2 k3 k5 : Option Value} {B newId initId : String}
theorem kw_check (F : ExcBaseFacts B newId initId bmB) (O : NewOk B newId bm) {us : List Value} {kw : List (Str × Value)} {Q : Unit → Shared → Prop}
    (hC : h.get? C = some (excClassObj nm q C N bs bm hdct sn sub ab col dd k0 k1 k2 k3 k5 newId)) (hq : Q () ⟨h, g, d, t, os⟩) : wpAny M A (checkBuiltinCall newId ⟨.ref C :: us, kw⟩) Q E ⟨h, g, d, t, os⟩ := by
  have hc : (Value.ref C :: bm).contains (.type B) = true := by rw [List.contains_cons, O.b, Bool.or_true]
  have ns := F.noStar
  simp only [checkBuiltinCall, F.newKind, F.newSplit, F.newRow]
  repeat (first | refine wpAny_loadPart_at hC ?_ | (refine wpAny_isSubtype_exc hC ?_; rw [hc]) | refine wpAny_staticBase_exc hC ?_ | refine wpAny_madeBy_exc hC ?_ | simp only [bne_self_eq_false, Bool.false_eq_true, if_false] | wp_step)
  exact hq
theorem kw_new (F : ExcBaseFacts B newId initId bmB) (O : NewOk B newId bm) {us : List Value} {kw : List (Str × Value)}
    (hC : h.get? C = some (excClassObj nm q C N bs bm hdct sn sub ab col dd k0 k1 k2 k3 k5 newId))
    (hq : R (.ok (.ret (.ref (h.objs.size + 1)))) ⟨(h.push (PySem.W.kdv_tup us)).push (PySem.HandSPX.excO C h.objs.size), g, d, t, os⟩) (hl : us.length ≤ sizeLine) :
    codeAny (model prog w) A (.builtin newId ⟨.ref C :: us, kw⟩) R ⟨h, g, d, t, os⟩ := by
  have he := F.ends
  have hB : (Value.ref C :: bm).contains (.type B) = true := by rw [List.contains_cons, O.b, Bool.or_true]
  have hA : (Value.ref C :: bm).contains (.type "AttributeError") = false := by rw [List.contains_cons, O.noA] <;> rfl
  have hN : (Value.ref C :: bm).contains (.type "NameError") = false := by rw [List.contains_cons, O.noN] <;> rfl
  refine codeAny_builtinAt F.entry ?_
  unfold Builtin.«BaseException.__new__»
  refine PySem.wpAt_bind ?_
  show PySem.wpAt _ _ _ (stack >>= _) _ _ _
  refine PySem.wpAt_bind (PySem.wpAt_stack fun _ _ => PySem.wpAt_of_wpAny ?_)
  wp_walk
  refine PySem.wpAt_of_wpAny ?_
  rw [F.owner]
  repeat (first | with_reducible refine wpAny_madeHere_exc F.canon hC ?_ | with_reducible refine wpAny_loadPart_at hC ?_ | (with_reducible refine wpAny_isSubtype_exc hC ?_; first | rw [hB] | rw [hA] | rw [hN]) | wp_step)
  show R _ _
  rw [Heap.size_push] <;> exact hq
theorem kw_type (F : ExcBaseFacts B newId initId bmB) (O : NewOk B newId bm) {us : List Value} {kw : List (Str × Value)} {fI : Addr} {Q : Fin → Shared → Prop}
    (hC : h.get? C = some (excClassObj nm q C N bs bm hdct sn sub ab col dd k0 k1 k2 k3 k5 newId))
    (hi : PySem.W.Looks (model prog w) h (typeLookup (.ref C) "__init__") (some (.ref fI))) (hb : ∀ self, PySem.W.Looks (model prog w) h (bindSpecial (.ref fI) self) (.ref fI, [self])) (hl : us.length ≤ sizeLine)
    (hq : codeAny (model prog w) A (.call (.ref fI) ⟨.ref (h.objs.size + 1) :: us, kw⟩)
      (fun r s' => match r with | .ok (.ret v) => v = .none ∧ Q (.done (.ret (.ref (h.objs.size + 1)))) s' | .ok _ => False | .error e => E e s')
      ⟨(h.push (PySem.W.kdv_tup us)).push (PySem.HandSPX.excO C h.objs.size), g, d, t, os⟩) :
    wpAny (model prog w) A (Builtin.«type.__call__» ⟨.ref C :: us, kw⟩) Q E ⟨h, g, d, t, os⟩ := by
  repeat (first | with_reducible refine wpAny_loadPart_at hC ?_ | with_reducible refine wpAny_madeBy_exc hC ?_ | wp_step)
  refine codeAny_call_builtin_code (Code.quiet_builtin _ F.quiet) (kw_check F O hC ?_)
  refine kw_new F O hC ?_ hl
  show wpAny _ _ _ _ _ _
  have k : ∀ b o, h.get? b = some o → ((h.push (PySem.W.kdv_tup us)).push (PySem.HandSPX.excO C h.objs.size)).get? b = some o := fun b o e => Heap.get?_push_of_some _ (Heap.get?_push_of_some _ e)
  have hD := k _ _ hC
  have got : ((h.push (PySem.W.kdv_tup us)).push (PySem.HandSPX.excO C h.objs.size)).get? (h.objs.size + 1) = some (PySem.HandSPX.excO C h.objs.size) := by heap_get
  have cc : (Value.ref C :: bm).contains (.ref C) = true := by simp
  have i1 := hi.keeps k
  have b1 := (hb (.ref (h.objs.size + 1))).keeps k
  unfold isInstance
  repeat (first | with_reducible refine wpAny_loadPart_at got ?_ | (with_reducible refine wpAny_isSubtype_exc hD ?_; rw [cc]) | wp_step)
  show wpAny _ _ (typeLookup (.ref C) _) _ _ _
  refine i1.at ?_
  refine wpAny_holding (wpAny_bind (b1.at ?_))
  refine wpAny_bind (wpAny_call (codeAny_mono hq fun r s' z => ?_))
  rcases r with e | (v | _ | _ | _) <;> first | exact z | exact z.elim | skip
  obtain ⟨rfl, z⟩ := z
  first | exact wpAny_pure (wpAny_pure z) | (wp_walk; exact z)
theorem kw_call (F : ExcBaseFacts B newId initId bmB) (O : NewOk B newId bm) {us : List Value} {kw : List (Str × Value)} {fI : Addr}
    (hC : h.get? C = some (excClassObj nm q C N bs bm hdct sn sub ab col dd k0 k1 k2 k3 k5 newId))
    (hi : PySem.W.Looks (model prog w) h (typeLookup (.ref C) "__init__") (some (.ref fI))) (hb : ∀ self, PySem.W.Looks (model prog w) h (bindSpecial (.ref fI) self) (.ref fI, [self])) (hl : us.length ≤ sizeLine)
    (hq : codeAny (model prog w) (A.under (.builtin "type.__call__" ⟨.ref C :: us, kw⟩)) (.call (.ref fI) ⟨.ref (h.objs.size + 1) :: us, kw⟩) (PySem.W.InitBack (h.objs.size + 1) R)
      ⟨(h.push (PySem.W.kdv_tup us)).push (PySem.HandSPX.excO C h.objs.size), g, d, t, os⟩) :
    codeAny (model prog w) A (.call (.ref C) ⟨us, kw⟩) R ⟨h, g, d, t, os⟩ := by
  have f1 := tc_lookup
  have f2 := tc_bind (.ref C)
  have ty : (⟨h, g, d, t, os⟩ : Shared).TypeIs (.ref C) "type" := ⟨_, hC, rfl⟩
  refine codeAny_of_tree ?_
  show wpAny _ _ (callAny (.ref C) _) _ _ _
  repeat (any_goals (first | assumption | with_reducible refine wpAny_loadPart_at hC ?_ | wp_step))
  refine ⟨rfl, ?_⟩
  refine codeAny_call_builtin_at (Code.quiet_builtin _ (by decide +kernel)) entry_typeCall (wpAny_check_type_call_sub hC (kw_type F O hC hi hb hl ?_))
  refine codeAny_mono hq fun r s' z => ?_
  rcases r with e | (v | _ | _ | _) <;> exact z
end
end Gj

namespace Gj
open PySem PySem.Spec PyProof.Rows L2
open C8 (Cal pe_c pe_gc)
section
variable {X : Cx}
/-- the call of such a class, from the values, keywords too -/
theorem xmake2 {CX : CXT} {pins : List (Addr × Obj)} {σ : L2.St} {H1 : Hp} {hp : Heap} {g : Array GenState} {dr : PySem.Drawn} {tk : Nat} {os : OsState} {C fI : Addr} {k : Nat} {fd : FuncData} {ps : List Str} {sp : Sp} {us : List Value} {kw : List (Str × Value)} {B newId initId : String} {bmB tl : List Value} {ws2 : Addr → List V} {us2 : Addr → List Value} {Q : Value → Shared → Prop}
    (FB : ExcBaseFacts B newId initId bmB) (T : ExK X.K C tl newId) (O : NewOk B newId tl) (iC : PySem.W.findIn X.K (.ref C) "__init__" = some (some (.ref fI))) (tI : PySem.W.typeIn X.K (.ref fI) = some (.type "function"))
    (F1 : FnOk X.prog X.w X.K X.mg X.base CX k fI fd ps sp) (hr : Room (k + 1) X.A) (hx : Passes CX X (fun _ _ _ => False)) (I1 : Inv X pins σ H1 ⟨hp, g, dr, tk, os⟩) (lus : us.length ≤ sizeLine)
    (hb : ∀ (s : Shared) (a : Addr), X.K.In s.heap → BindsTo s fd ⟨.ref a :: us, kw⟩ (ps.zip (us2 a))) (rr : ∀ a, Vals (ws2 a) (us2 a))
    (q : V → Hp → Prop) (hq : ∀ a, H1 a = none → sp (ws2 a) (upd H1 a (exo a C none)) (fun v H2 => v = .non ∧ q (.ref a) H2) (fun _ _ _ => False))
    (fin : ∀ (a : Addr) (h2 : Heap) (g2 : Array GenState) (d2 : PySem.Drawn) (t2 : Nat) (hp2 : Heap) (H2 : Hp), hp.objs.size ≤ a → H1 a = none → (∀ b o, hp.get? b = some o → hp2.get? b = some o) → Un (frs X.stack) [] (upd H1 a (exo a C none)) H2 hp2 h2 → HOk X.prog X.w H2 h2 → AllBare g2 →
      Inv X pins σ (upd H1 a (exo a C none)) ⟨hp2, g, dr, tk, os⟩ → q (.ref a) H2 → Q (.ref a) ⟨h2, g2, d2, t2, os⟩) :
    wpAny (model X.prog X.w) X.A (call (.ref C) us kw) Q X.xe ⟨hp, g, dr, tk, os⟩ := by
  obtain ⟨nm, qn, N, bs, bm, sn, sub, ab, col, dd, k0, k1, k2, k3, k5, hC, ht⟩ := T.cls
  have ct : ∀ Y : String, bm.contains (.type Y) = tl.contains (.type Y) := fun Y => PySem.W.excTail_contains Y bm ht
  have O2 : NewOk B newId bm := ⟨(ct _).trans O.b, (ct _).trans O.noA, (ct _).trans O.noN⟩
  have sz : hp.objs.size ≤ hp.objs.size + 1 := Nat.le_succ _
  have n1 : H1 (hp.objs.size + 1) = none := I1.hok.fresh sz
  have keep : ∀ b o, hp.get? b = some o → ((hp.push (PySem.W.kdv_tup us)).push (PySem.HandSPX.excO C hp.objs.size)).get? b = some o := fun b o z => Heap.get?_push_of_some _ (Heap.get?_push_of_some _ z)
  have got : ((hp.push (PySem.W.kdv_tup us)).push (PySem.HandSPX.excO C hp.objs.size)).get? (hp.objs.size + 1) = some (PySem.HandSPX.excO C hp.objs.size) := by heap_get
  have I2 := I1.laid (t' := tk) (a := hp.objs.size + 1) (o := exo (hp.objs.size + 1) C none) (h' := (hp.push (PySem.W.kdv_tup us)).push (PySem.HandSPX.excO C hp.objs.size)) keep sz (exo_ok got)
  refine wpAny_call (kw_call FB O2 (I1.kIn _ _ hC) (PySem.W.looks_findIn I1.kIn iC) (fun self => PySem.W.bind_fn I1.kIn self tI) lus
    (codeAny_mono (F1.run _ X.stack _ _ _ _ _ _ _ (hr.make C us kw) (I2.env0.make C us kw) (hb _ _ I2.kIn) (rr _) (hq _ n1)) fun r s' z => ?_))
  cases r with
  | error er => exact hx pins σ _ _ er s' I2 z
  | ok fl =>
    cases fl with
    | ret u =>
      obtain ⟨v, H2, os2, bare2, un2, hok2, rv, ev, q2⟩ := z
      subst ev
      obtain ⟨h2, g2, d2, t2, os'⟩ := s'
      cases os2
      exact ⟨rv, fin _ h2 g2 d2 t2 _ H2 sz n1 keep un2 hok2 bare2 I2 q2⟩
    | next => exact False.elim z
    | brk => exact False.elim z
    | cont => exact False.elim z
end
/-- two fields by keywords in the other order -/
def turned {α : Type} (sw : Bool) (l : List α) : List α := if sw then l.reverse else l
/-- an own exception class with these fields, by the module's name x; keywords in the order ks -/
structure Exq (P : Program) (w : World) (K : PySem.W.Frag) (mg : Str → Option Value) (base : Heap) (x : Str) (C : Addr) (tl : List Value) (B newId initId : String) (bmB : List Value) (fs ks : List Str) (sw : Bool) : Prop where
  T : ExK K C tl newId
  O : NewOk B newId tl
  FB : ExcBaseFacts B newId initId bmB
  g : mg x = some (.ref C)
  small : fs.length ≤ 900
  len : ks.length = fs.length
  no : ∀ f ∈ fs, PySem.W.findIn K (.ref C) f = some none
  ini : ∃ (fI : Addr) (fd : FuncData) (ps : List Str), PySem.W.findIn K (.ref C) "__init__" = some (some (.ref fI)) ∧ PySem.W.typeIn K (.ref fI) = some (.type "function") ∧ FnOk P w K mg base CX0 1 fI fd ps (spInit C fs) ∧ Binds K fd ps [] ∧
    ∀ (s : Shared) (a : Value) (ws : List Value), ws.length = ks.length → K.In s.heap → BindsTo s fd ⟨[a], ks.zip ws⟩ (ps.zip (a :: turned sw ws))
theorem vals_app : ∀ {vs ws : List V} {us ts : List Value}, Vals vs us → Vals ws ts → Vals (vs ++ ws) (us ++ ts)
  | _, _, _, _, .nil, h => h
  | _, _, _, _, .cons r t, h => .cons r (vals_app t h)
theorem vals_turned {sw : Bool} : ∀ {vs : List V} {us : List Value}, Vals vs us → Vals (turned sw vs) (turned sw us) := fun {vs us} h => by
  cases sw with
  | false => exact h
  | true =>
    show Vals vs.reverse us.reverse
    induction h with
    | nil => exact .nil
    | cons r t ih =>
      rw [List.reverse_cons, List.reverse_cons]
      exact vals_app ih (.cons r .nil)
def tXvK (C : Addr) (fs : List Str) (sw : Bool) (ta : TA) : TE := fun σ H Q => ta σ H fun ws H1 => ws.length = fs.length ∧ ∀ a d H', H1 a = none → H1 d = none → d ≠ a → Same H1 H' → H' a = some (exo a C (some d)) → H' d = some (exd d (fs.zip (turned sw ws)).reverse) → Q (.ref a) H'
section
variable {X : Cx} {e : Expr} {es : List Expr} {ta : TA} {x : Str} {p pos : Pos} {B newId initId : String} {tl bmB : List Value} {C : Addr} {fs ks : List Str} {sw : Bool} {kws : List Keyword}
theorem pmk_xq (N : Exq X.prog X.w X.K X.mg X.base x C tl B newId initId bmB fs ks sw) (hr : Room 2 X.A) (hg : Gl X x) (ha : PA X (e :: es) ta)
    (hdb : (x == ("__debug__" : Str)) = false := by decide) (he : starEach (e :: es) X.env = (false, eval e X.env) :: starEach es X.env := by rfl) (hpl : (backTo pos (starEach es X.env)).any (·.1) = false := by rfl) :
    PMk X (.Call (.Name x p) (e :: es) [] pos) (tRz C fs ta) := by
  intro pins s σ H Q I h
  obtain ⟨fI, fd, ps, iC, tI, F1, hb, _⟩ := N.ini
  refine wpAny_Call_Name_kw (ld_glob I hg N.g ?_ hdb)
  refine PySem.W.callWith_K (h₀ := X.base) I.ok.mod.kin N.T.kC (thn (ha.run pos pins s σ H _ I h) fun us s1 ⟨ws, H1, I1, r1, hz, q1⟩ => ⟨I1.kIn, ?_⟩) he hpl
  obtain ⟨hp, g, dr, tk, os⟩ := s1
  have small := N.small
  have lp : ∀ a, (Value.ref a :: us ++ []).length = ps.length := fun a => by
    rw [List.append_nil, ← (Paired.length (.cons rfl r1 : Vals (V.ref a :: ws) (Value.ref a :: us)))]
    exact F1.len _ (upd H1 a (exo a C none)) (fun _ _ => True) (fun _ _ _ => False) ⟨a, ws, rfl, hz, upd_same, fun _ _ _ _ _ _ _ => trivial⟩
  refine xmake2 (us := us) (kw := []) (ws2 := fun a => .ref a :: ws) (us2 := fun a => .ref a :: us) N.FB N.T N.O iC tI F1 hr pass0 I1 (by rw [← Paired.length r1, sizeLine_eq]; omega) (fun s a X2 => by have b := hb s (.ref a :: us) X2 (lp a); rw [List.append_nil] at b; exact b) (fun a => .cons rfl r1)
    (fun v H2 => ∃ a d, v = .ref a ∧ H1 a = none ∧ H1 d = none ∧ d ≠ a ∧ Same H1 H2 ∧ H2 a = some (exo a C (some d)) ∧ H2 d = some (exd d (fs.zip ws).reverse)) (fun a na => ?_) fun a h2 g2 d2 t2 hp2 H2 sz na k un hok bare I2 q => ?_
  · refine ⟨a, ws, rfl, hz, upd_same, fun H2 d nd ne kp ea ed => ⟨rfl, a, d, rfl, na, ?_, ne, fun b o z => kp b o (ne_of_none z na) (by rw [upd_ne (ne_of_none z na)]; exact z), ea, ed⟩⟩
    rw [upd_ne ne] at nd
    exact nd
  · obtain ⟨a', d, ea', _, nd, ne, sm, ea, ed⟩ := q
    cases ea'
    refine mk_end (raises_own N.T.ex.hs N.T.tyC) I1 sz k un hok rfl bare ea ed nd (q1 d _ nd (fun b o z => ?_) upd_same)
    rw [upd_ne (ne_of_none z nd), del_ne (ne_of_none z na)]
    exact sm b o z
theorem pe_xq (N : Exq X.prog X.w X.K X.mg X.base x C tl B newId initId bmB fs ks sw) (hr : Room 2 X.A) (hg : Gl X x) (ha : PA X (e :: es) ta)
    (hdb : (x == ("__debug__" : Str)) = false := by decide) (he : starEach (e :: es) X.env = (false, eval e X.env) :: starEach es X.env := by rfl) (hpl : (backTo pos (starEach es X.env)).any (·.1) = false := by rfl) :
    PE X (.Call (.Name x p) (e :: es) [] pos) (tXv C fs ta) := by
  refine ⟨fun pins s σ H Q I h => ?_⟩
  obtain ⟨fI, fd, ps, iC, tI, F1, hb, _⟩ := N.ini
  refine wpAny_Call_Name_kw (ld_glob I hg N.g ?_ hdb)
  refine PySem.W.callWith_K (h₀ := X.base) I.ok.mod.kin N.T.kC (thn (ha.run pos pins s σ H _ I h) fun us s1 ⟨ws, H1, I1, r1, hz, q1⟩ => ⟨I1.kIn, ?_⟩) he hpl
  obtain ⟨hp, g, dr, tk, os⟩ := s1
  have small := N.small
  have lp : ∀ a, (Value.ref a :: us ++ []).length = ps.length := fun a => by
    rw [List.append_nil, ← (Paired.length (.cons rfl r1 : Vals (V.ref a :: ws) (Value.ref a :: us)))]
    exact F1.len _ (upd H1 a (exo a C none)) (fun _ _ => True) (fun _ _ _ => False) ⟨a, ws, rfl, hz, upd_same, fun _ _ _ _ _ _ _ => trivial⟩
  refine xmake2 (us := us) (kw := []) (ws2 := fun a => .ref a :: ws) (us2 := fun a => .ref a :: us) N.FB N.T N.O iC tI F1 hr pass0 I1 (by rw [← Paired.length r1, sizeLine_eq]; omega) (fun s a X2 => by have b := hb s (.ref a :: us) X2 (lp a); rw [List.append_nil] at b; exact b) (fun a => .cons rfl r1)
    (fun v H2 => ∃ a d, v = .ref a ∧ H1 a = none ∧ H1 d = none ∧ d ≠ a ∧ Same H1 H2 ∧ H2 a = some (exo a C (some d)) ∧ H2 d = some (exd d (fs.zip ws).reverse)) (fun a na => ?_) fun a h2 g2 d2 t2 hp2 H2 sz na k un hok bare I2 q => ?_
  · refine ⟨a, ws, rfl, hz, upd_same, fun H2 d nd ne kp ea ed => ⟨rfl, a, d, rfl, na, ?_, ne, fun b o z => kp b o (ne_of_none z na) (by rw [upd_ne (ne_of_none z na)]; exact z), ea, ed⟩⟩
    rw [upd_ne ne] at nd
    exact nd
  · obtain ⟨a', d, ea', _, nd, ne, sm, ea, ed⟩ := q
    cases ea'
    exact ⟨.ref a, H2, I2.call' (ch := []) rfl un hok bare (fun b z => absurd z (by simp)), rfl, q1 a d H2 na nd ne sm ea ed⟩
/-- C(k = v, ..) -/
theorem pe_xqk (N : Exq X.prog X.w X.K X.mg X.base x C tl B newId initId bmB fs ks sw) (hr : Room 2 X.A) (hg : Gl X x) (hkw : PK X kws ta)
    (hall : (backToKw pos (keywordEach kws X.env)).all (·.1.isSome) = true := by rfl) (hks : (backToKw pos (keywordEach kws X.env)).filterMap (·.1) = ks := by rfl) (hdb : (x == ("__debug__" : Str)) = false := by decide)
    (hpl : ((backTo pos (starEach [] X.env)).any (·.1) || (backToKw pos (keywordEach kws X.env)).any (·.1.isNone)) = false := by rfl) :
    PE X (.Call (.Name x p) [] kws pos) (tXvK C fs sw ta) := by
  refine ⟨fun pins s σ H Q I h => ?_⟩
  obtain ⟨fI, fd, ps, iC, tI, F1, _, hb⟩ := N.ini
  refine wpAny_Call_Name_kw (ld_glob I hg N.g ?_ hdb)
  refine PySem.W.callWith_KW0 (h₀ := X.base) I.ok.mod.kin N.T.kC hall ?_ hpl
  refine thn (hkw.run pos pins s σ H _ I h) fun us s2 ⟨ws, H1, I1, r1, hz, q1⟩ => ⟨I1.kIn, ?_⟩
  rw [hks]
  obtain ⟨hp, g, dr, tk, os⟩ := s2
  have lw : us.length = ks.length := by rw [← Paired.length r1, hz, N.len]
  have ht : (turned sw ws).length = fs.length := by
    rw [← hz]
    cases sw
    · rfl
    · exact List.length_reverse
  refine xmake2 (ws2 := fun a => .ref a :: turned sw ws) (us2 := fun a => .ref a :: turned sw us) (us := []) (kw := ks.zip us) N.FB N.T N.O iC tI F1 hr pass0 I1 (Nat.zero_le _) (fun s a X2 => hb s (.ref a) us lw X2) (fun a => .cons rfl (vals_turned r1))
    (fun v H2 => ∃ a d, v = .ref a ∧ H1 a = none ∧ H1 d = none ∧ d ≠ a ∧ Same H1 H2 ∧ H2 a = some (exo a C (some d)) ∧ H2 d = some (exd d (fs.zip (turned sw ws)).reverse)) (fun a na => ?_) fun a h2 g2 d2 t2 hp2 H2 sz na k un hok bare I2 q => ?_
  · refine ⟨a, turned sw ws, rfl, ht, upd_same, fun H2 d nd ne kp ea ed => ⟨rfl, a, d, rfl, na, ?_, ne, fun b o z => kp b o (ne_of_none z na) (by rw [upd_ne (ne_of_none z na)]; exact z), ea, ed⟩⟩
    rw [upd_ne ne] at nd
    exact nd
  · obtain ⟨a', d, ea', _, nd, ne, sm, ea, ed⟩ := q
    cases ea'
    exact ⟨.ref a, H2, I2.call' (ch := []) rfl un hok bare (fun b z => absurd z (by simp)), rfl, q1 a d H2 na nd ne sm ea ed⟩
end
end Gj

namespace Gj
open PySem PySem.Spec PyProof.Rows L2
open C8 (Cal pe_c pe_gc)
/-- an exception held as a value, of the class at D -/
def Exv (H : Hp) (a D : Addr) : Prop := (∃ (d : Addr) (fs : List (Str × V)), H a = some (exo a D (some d)) ∧ H d = some (exd d fs)) ∨ H a = some (ExO (.ref D) a)
theorem Exv.same {H H' : Hp} {a D : Addr} (h : Exv H a D) (s : Same H H') : Exv H' a D := by
  rcases h with ⟨d, fs, h1, h2⟩ | h
  · exact .inl ⟨d, fs, s _ _ h1, s _ _ h2⟩
  · exact .inr (s _ _ h)
def rIsW (K : PySem.W.Frag) : List V → Hp → VK → Prop := fun xs H Q => ∃ (a D : Addr) (c : V) (cv : Value) (b : Bool), xs = [.ref a, c] ∧ ClsV c cv ∧ ExcC K D ∧ Exv H a D ∧ PySem.W.kitOne K (.ref D) cv = some b ∧ Q (.bl b) H
theorem call_isW {X : Cx} : CallR X (.builtin "isinstance") (rIsW X.K) := by
  intro pins s σ H xs us Q I r h
  obtain ⟨a, D, c, cv, b, rfl, hcv, T, hx, e, q⟩ := h
  rcases hx with ⟨d, fs, h1, h2⟩ | h1
  · exact call_isV pins s σ H _ us Q I r ⟨a, D, some d, c, cv, b, rfl, hcv, T, h1, fun x ex => by cases ex; exact ⟨fs, h2⟩, e, q⟩
  · obtain ⟨u1, u2, rfl, r1, r2⟩ := vals2 r
    cases r1
    have ec := hcv.eq r2
    subst ec
    obtain ⟨⟨oe, vs, got, hz, hd, _⟩, _, _⟩ := I.hok a _ h1
    have J : PySem.W.InstAt s.heap a oe D none := ⟨got, hz.1, by unfold PySem.W.notCls; rw [hd] <;> rfl, by rw [hz.2]; trivial⟩
    exact PySem.W.kia_one (kit_exn T) I.kIn J e (fun z => nomatch z) fun tk => ⟨.bl b, H, I.tok tk, rfl, q⟩
/-- isinstance(e, c), e the caught exception at a -/
def rIsC (K : PySem.W.Frag) (cls : Value) (d : Option Addr) (a : Addr) : List V → Hp → VK → Prop := fun xs H Q => ∃ (D dd : Addr) (c : V) (cv : Value) (b : Bool) (fs : List (Str × V)), xs = [.ref a, c] ∧ cls = .ref D ∧ d = some dd ∧ ExcC K D ∧ ClsV c cv ∧ H dd = some (.xd fs) ∧ PySem.W.kitOne K (.ref D) cv = some b ∧ Q (.bl b) H
theorem call_isC {X : Cx} {a : Addr} {cls : Value} {d : Option Addr} {oe : Obj} {pn : List (Addr × Obj)} (hz : Zc cls d oe) (hf : ∃ vs, oe.data = .fields vs) : CallR (X.suite a ((a, oe) :: pn)) (.builtin "isinstance") (rIsC X.K cls d a) := by
  intro pins s σ H xs us Q I r h
  obtain ⟨D, dd, c, cv, b, fs, rfl, rfl, rfl, T, hcv, ed, e, q⟩ := h
  exact call_isX T hz hf pins s σ H _ us Q I r ⟨c, cv, b, fs, rfl, hcv, ed, e, q⟩
/-! ### lists of truths -/
def Bls (ta : TA) (σ : L2.St) (H : Hp) (bs : List Bool) : Prop := ∀ Q : List V → Hp → Prop, (∀ H', Same H H' → Q (bs.map V.bl) H') → ta σ H Q
def BlsL (te : TE) (σ : L2.St) (H : Hp) (bs : List Bool) : Prop := ∀ Q : VK, (∀ (H' : Hp) (l : Addr), Same H H' → H' l = some (.lst (bs.map V.bl)) → Q (.ref l) H') → te σ H Q
section
variable {σ : L2.St} {H : Hp} {te tb tc : TE} {ta : TA} {b : Bool} {bs cs : List Bool} {K : PySem.W.Frag} {a D : Addr} {c : V} {cv : Value}
theorem Bls.nil : Bls tNil σ H [] := fun Q q => q H (Same.refl H)
theorem Bls.cons (h : Say te σ H b) (ht : ∀ H', Same H H' → Bls ta σ H' bs) : Bls (tCons te ta) σ H (b :: bs) := fun Q q => h _ fun H1 s1 => ht H1 s1 _ fun H2 s2 => q H2 (s1.trans s2)
theorem Bls.lst (h : Bls ta σ H bs) (hn : bs.length ≤ 1000) : BlsL (tLst ta) σ H bs := fun Q q => h _ fun H1 s1 => ⟨by rw [List.length_map]; exact Nat.le_of_lt (small1000 hn), fun l nl => q _ l (s1.trans (same_new nl)) upd_same⟩
theorem BlsL.var {l : Addr} (h : Giv te σ H (.ref l)) (e : H l = some (.lst (bs.map V.bl))) : BlsL te σ H bs := fun Q q => h _ (q H l (Same.refl H) e)
theorem BlsL.cat (h : BlsL te σ H bs) (h2 : ∀ H', Same H H' → BlsL tb σ H' cs) (hn : bs.length + cs.length ≤ 1000) : BlsL (tOp rCat te tb) σ H (bs ++ cs) := fun Q q => h _ fun H1 l1 s1 e1 => h2 H1 s1 _ fun H2 l2 s2 e2 => ⟨l1, l2, _, _, rfl, rfl, s2 _ _ e1, e2, by rw [List.length_map, List.length_map]; exact Nat.le_of_lt (small1000 hn), fun l nl => q _ l ((s1.trans s2).trans (same_new nl)) (by rw [upd_same, List.map_append])⟩
theorem say_isW (hv : Giv te σ H (.ref a)) (hc : Giv tc σ H c) (hcv : ClsV c cv) (T : ExcC K D) (hx : Exv H a D) (e : PySem.W.kitOne K (.ref D) cv = some b) : Say (tCB (rIsW K) (tCons te (tCons tc tNil))) σ H b := fun Q q => hv _ (hc _ ⟨a, D, c, cv, b, rfl, hcv, T, hx, e, q H (Same.refl H)⟩)
end
end Gj

/-! own layer: data compared -/
namespace Gj
open PySem PySem.Spec PyProof.Rows L2
open C8 (Cal pe_c pe_gc)
theorem dp_all {K : PySem.W.Frag} {H : Hp} : ∀ (bs : List Bool), DpAll K H (bs.map V.bl) (bs.map PyData.bool)
  | [] => .nil
  | b :: l => .cons (.bl b) (dp_all l)
theorem dp_bools {K : PySem.W.Frag} {H : Hp} {l : Addr} {bs : List Bool} (e : H l = some (.lst (bs.map V.bl))) : Dp K H (.ref l) (.list (bs.map PyData.bool)) := .lst (SqL.of e) (dp_all bs)
mutual
def plainD : PyData → Bool
  | .list ds => plainA ds
  | .tuple ds => plainA ds
  | .dict _ => false
  | _ => true
def plainA : List PyData → Bool
  | [] => true
  | d :: ds => plainD d && plainA ds
end
mutual
theorem eqv_self : ∀ (d : PyData), plainD d = true → PyData.eqv d d = true
  | .none, _ => by simp [PyData.eqv]
  | .bool b, _ => by simp [PyData.eqv]
  | .int i, _ => by simp [PyData.eqv]
  | .str x, _ => by simp [PyData.eqv]
  | .list ds, h => by
    unfold PyData.eqv
    exact eqv_selfA ds (by unfold plainD at h; exact h)
  | .tuple ds, h => by
    unfold PyData.eqv
    exact eqv_selfA ds (by unfold plainD at h; exact h)
  | .dict _, h => by simp [plainD] at h
theorem eqv_selfA : ∀ (ds : List PyData), plainA ds = true → PyData.eqvAll ds ds = true
  | [], _ => by simp [PyData.eqvAll]
  | d :: ds, h => by
    unfold plainA at h
    obtain ⟨h1, h2⟩ := Bool.and_eq_true_iff.mp h
    unfold PyData.eqvAll
    rw [eqv_self d h1, eqv_selfA ds h2]
    rfl
end
/-- it is this datum -/
def IsD (K : PySem.W.Frag) (te : TE) (σ : L2.St) (H : Hp) (d : PyData) : Prop := ∀ Q : VK, (∀ (H' : Hp) (v : V), Same H H' → Dp K H' v d → Q v H') → te σ H Q
def IsDs (K : PySem.W.Frag) (ta : TA) (σ : L2.St) (H : Hp) (ds : List PyData) : Prop := ∀ Q : List V → Hp → Prop, (∀ (H' : Hp) (vs : List V), Same H H' → DpAll K H' vs ds → Q vs H') → ta σ H Q
section
variable {σ : L2.St} {H H' : Hp} {te tb : TE} {ta : TA} {K : PySem.W.Frag} {d e : PyData} {ds : List PyData} {bs : List Bool}
theorem seq_sameL {a : Addr} {xs : List V} (h : SqL K H a xs) (s : Same H H') : SqL K H' a xs := s.seq h
theorem seq_sameT {a : Addr} {xs : List V} (h : SqT K H a xs) (s : Same H H') : SqT K H' a xs := by
  rcases h with (h | ⟨o, h⟩) | h
  · exact .inl (.inl (s _ _ h))
  · exact .inl (.inr ⟨o, s _ _ h⟩)
  · exact .inr h
mutual
theorem dp_same (s : Same H H') : ∀ {v : V} {d : PyData}, Dp K H v d → Dp K H' v d
  | _, _, .non => .non
  | _, _, .bl b => .bl b
  | _, _, .int i => .int i
  | _, _, .str x => .str x
  | _, _, .lst h a => .lst (seq_sameL h s) (dp_sameA s a)
  | _, _, .tup h a => .tup (seq_sameT h s) (dp_sameA s a)
theorem dp_sameA (s : Same H H') : ∀ {vs : List V} {ds : List PyData}, DpAll K H vs ds → DpAll K H' vs ds
  | _, _, .nil => .nil
  | _, _, .cons a b => .cons (dp_same s a) (dp_sameA s b)
end
theorem dp_len : ∀ {vs : List V} {ds : List PyData}, DpAll K H vs ds → vs.length = ds.length
  | _, _, .nil => rfl
  | _, _, .cons _ b => congrArg Nat.succ (dp_len b)
theorem IsD.of {v : V} (h : Giv te σ H v) (hd : Dp K H v d) : IsD K te σ H d := fun Q q => h _ (q H v (Same.refl H) hd)
theorem IsD.bls (h : BlsL te σ H bs) : IsD K te σ H (.list (bs.map PyData.bool)) := fun Q q => h _ fun H1 l s e => q H1 _ s (dp_bools e)
theorem IsDs.nil : IsDs K tNil σ H [] := fun Q q => q H [] (Same.refl H) .nil
theorem IsDs.cons (h : IsD K te σ H d) (ht : ∀ H', Same H H' → IsDs K ta σ H' ds) : IsDs K (tCons te ta) σ H (d :: ds) := fun Q q => h _ fun H1 v s1 h1 => ht H1 s1 _ fun H2 vs s2 h2 => q H2 _ (s1.trans s2) (.cons (dp_same s2 h1) h2)
theorem IsDs.tup (h : IsDs K ta σ H ds) (hn : ds.length ≤ 1000) : IsD K (tTup ta) σ H (.tuple ds) := fun Q q => h _ fun H1 vs s1 h1 => ⟨by rw [dp_len h1]; exact Nat.le_of_lt (small1000 hn), fun a na => q _ _ (s1.trans (same_new na)) (.tup (SqT.of upd_same) (dp_sameA (same_new na) h1))⟩
theorem IsDs.lst (h : IsDs K ta σ H ds) (hn : ds.length ≤ 1000) : IsD K (tLst ta) σ H (.list ds) := fun Q q => h _ fun H1 vs s1 h1 => ⟨by rw [dp_len h1]; exact Nat.le_of_lt (small1000 hn), fun a na => q _ _ (s1.trans (same_new na)) (.lst (SqL.of upd_same) (dp_sameA (same_new na) h1))⟩
theorem IsD.eq (h : IsD K te σ H d) (h2 : ∀ H', Same H H' → IsD K tb σ H' e) (s1 : SeqAt.shaped d = true) (s2 : SeqAt.shaped e = true) : Say (tOp (rEqD K) te tb) σ H (PyData.eqv d e) := fun Q q => h _ fun H1 v t1 d1 => h2 H1 t1 _ fun H2 u t2 d2 => ⟨d, e, dp_same t2 d1, d2, s1, s2, q H2 (t1.trans t2)⟩
theorem IsD.ne (h : IsD K te σ H d) (h2 : ∀ H', Same H H' → IsD K tb σ H' e) (s1 : SeqAt.shaped d = true) (s2 : SeqAt.shaped e = true) : Say (tOp (rNeD K) te tb) σ H (!PyData.eqv d e) := fun Q q => h _ fun H1 v t1 d1 => h2 H1 t1 _ fun H2 u t2 d2 => ⟨d, e, dp_same t2 d1, d2, s1, s2, q H2 (t1.trans t2)⟩
theorem IsD.eqS (h : IsD K te σ H d) (h2 : ∀ H', Same H H' → IsD K tb σ H' d) (s1 : SeqAt.shaped d = true) (hp : plainD d = true) : Say (tOp (rEqD K) te tb) σ H true := Say.of (IsD.eq h h2 s1 s1) (eqv_self d hp)
theorem IsD.neS (h : IsD K te σ H d) (h2 : ∀ H', Same H H' → IsD K tb σ H' d) (s1 : SeqAt.shaped d = true) (hp : plainD d = true) : Say (tOp (rNeD K) te tb) σ H false := Say.of (IsD.ne h h2 s1 s1) (by rw [eqv_self d hp]; rfl)
theorem plain_bools : ∀ bs : List Bool, plainA (bs.map PyData.bool) = true
  | [] => rfl
  | b :: l => by unfold List.map plainA; rw [plain_bools l]; rfl
end
/-! ### comprehensions of tests -/
section
variable {σ : L2.St} {H : Hp} {te : TE} {K : PySem.W.Frag} {i : Nat} {vs : List Nat} {n : Nat} {f : Nat → Bool} {z : Str} {g : Nat → Bool}
theorem BlsL.range {lo : Int} {wi : TI} (hi : ∀ R : It → Hp → Prop, R (Itr lo n) H → wi σ H R) (hn : n ≤ 1000) (hw : ∀ v, wipe ((wipe σ vs).set i (some v)) vs = wipe σ vs) (hs : ∀ (k : Nat) (H' : Hp), k < n → Same H H' → Say te ((wipe σ vs).set i (some (.int (lo + k)))) H' (f k)) :
    BlsL (tLc wi (gName i) tYes te vs) σ H ((List.range n).map f) := fun Q q => hi _ fun D hD => by
  refine lc_it walk_range (Pv := fun j H' => Same H H' ∧ H' D = some (.lst (((List.range j).map f).map V.bl))) ⟨same_new hD, upd_same⟩ (fun _ _ _ _ => trivial) (fun j x H1 H2 hj hp hy => ?_) (fun H1 hp => ?_)
  · obtain ⟨rfl, rfl⟩ := hy
    obtain ⟨sm, eD⟩ := hp
    refine ⟨hw _, ?_⟩
    refine hs j _ hj sm _ fun H3 s3 => ⟨_, s3 _ _ eD, ?_, fun b o e => ?_, ?_⟩
    · rw [List.length_map, List.length_map, List.length_range]
      exact small1000 (by omega)
    · rw [upd_ne (ne_of_none e hD)]
      exact s3 _ _ (sm b o e)
    · rw [upd_same, List.range_succ, List.map_append, List.map_append]
      rfl
  · obtain ⟨sm, eD⟩ := hp
    exact q H1 D sm eD
theorem BlsL.str (hv : Giv te σ H (.str z)) {tb : TE} (hz : z.length ≤ 1000) (hw : ∀ v, wipe ((wipe σ vs).set i (some v)) vs = wipe σ vs) (hs : ∀ (c : Nat) (H' : Hp), Same H H' → Say tb ((wipe σ vs).set i (some (.str ⟨#[c]⟩))) H' (g c)) :
    BlsL (tLc (iStr te) (gName i) tYes tb vs) σ H (z.cps.toList.map g) := fun Q q => hv _ ⟨z, rfl, fun D hD => by
  refine lc_it walk_str (Pv := fun j H' => Same H H' ∧ H' D = some (.lst (((z.cps.toList.take j).map g).map V.bl))) ⟨same_new hD, upd_same⟩ (fun _ _ _ _ => trivial) (fun j x H1 H2 hj hp hy => ?_) (fun H1 hp => ?_)
  · obtain ⟨rfl, ch, ec, rfl⟩ := hy
    obtain ⟨sm, eD⟩ := hp
    refine ⟨hw _, ?_⟩
    refine hs ch _ sm _ fun H3 s3 => ⟨_, s3 _ _ eD, ?_, fun b o e => ?_, ?_⟩
    · rw [List.length_map, List.length_map, List.length_take]
      have : z.cps.toList.length = z.length := rfl
      exact small1000 (by omega)
    · rw [upd_ne (ne_of_none e hD)]
      exact s3 _ _ (sm b o e)
    · have ec2 : z.cps.toList[j]? = some ch := by rw [Array.getElem?_toList]; exact ec
      rw [upd_same, take_snoc ec2, List.map_append, List.map_append]
      rfl
  · obtain ⟨sm, eD⟩ := hp
    rw [show z.cps.toList.take z.cps.size = z.cps.toList from List.take_of_length_le (Nat.le_refl _)] at eD
    exact q H1 D sm eD⟩
end
end Gj

namespace Gj
open PySem PySem.Spec PyProof.Rows L2
open C8 (Cal pe_c pe_gc)
theorem and2 {a b : Bool} (h : (a && b) = true) : a = true ∧ b = true := Bool.and_eq_true_iff.mp h
/-- isinstance of an instance of D can be told -/
def excB (K : PySem.W.Frag) (D : Addr) : Bool := decide (PySem.W.findIn K (.ref D) "__getattribute__" = some (some (.builtin "BaseException.__getattribute__"))) && (decide (PySem.W.findIn K (.ref D) "__getattr__" = some none) && (decide (PySem.W.subIn K (.ref D) (.type "BaseException") = some true) &&
  (PySem.W.hasDictIn K D && (decide (PySem.W.findIn K (.ref D) "__class__" = some (some (.builtin "object.__class__"))) && (decide (PySem.W.specialIn K (.builtin "object.__class__") "__get__" = some (some (.builtin "getset_descriptor.__get__"))) &&
  (decide (PySem.W.takesIn K (.builtin "object.__class__") = some true) && decide (PySem.W.mroIn K D (.type "object") = some true)))))))
theorem excB_ok {K : PySem.W.Frag} {D : Addr} (h : excB K D = true) : ExcC K D := by
  obtain ⟨h1, h⟩ := and2 h
  obtain ⟨h2, h⟩ := and2 h
  obtain ⟨h3, h⟩ := and2 h
  obtain ⟨h4, h⟩ := and2 h
  obtain ⟨h5, h⟩ := and2 h
  obtain ⟨h6, h⟩ := and2 h
  obtain ⟨h7, h8⟩ := and2 h
  exact ⟨of_decide_eq_true h1, of_decide_eq_true h2, of_decide_eq_true h3, h4, of_decide_eq_true h5, of_decide_eq_true h6, of_decide_eq_true h7, of_decide_eq_true h8⟩
def clsB (K : PySem.W.Frag) (C : Addr) (tl : List Value) (newId : String) : Bool := match K.lookup C with
  | some ⟨.type t, _, .cls cd, sl⟩ => decide (t = "type") && (match cd.mro, sl.toList with
    | .ref C' :: bm, [_, _, _, _, some (.builtin n), _] => decide (C' = C) && (decide (n = newId) && (!cd.hasDel && (cd.hasDict && PySem.W.excTail tl bm)))
    | _, _ => false)
  | _ => false
theorem clsB_ok {K : PySem.W.Frag} {C : Addr} {tl : List Value} {newId : String} (h : clsB K C tl newId = true) : ∃ nm q N bs bm sn sub ab col dd k0 k1 k2 k3 k5, K.lookup C = some (excClassObj nm q C N bs bm true sn sub ab col dd k0 k1 k2 k3 k5 newId) ∧ PySem.W.excTail tl bm = true := by
  unfold clsB at h
  split at h
  · rename_i t dd cd sl ho
    obtain ⟨ht, h⟩ := and2 h
    split at h
    · rename_i C' bm k0 k1 k2 k3 n k5 hm hs
      obtain ⟨e1, h⟩ := and2 h
      obtain ⟨e2, h⟩ := and2 h
      obtain ⟨e3, h⟩ := and2 h
      obtain ⟨e4, e5⟩ := and2 h
      have e1 := of_decide_eq_true e1
      have e2 := of_decide_eq_true e2
      have ht := of_decide_eq_true ht
      obtain ⟨nm, bs, mro, ns, qn, hd, sn, sub, ab, col, del⟩ := cd
      dsimp only at hm e3 e4
      subst hm e1 e2 ht e4
      have e3 : del = false := by simpa using e3
      subst e3
      have hsl : sl = #[k0, k1, k2, k3, some (.builtin n), k5] := by
        obtain ⟨l⟩ := sl
        simp only at hs
        rw [hs]
      subst hsl
      exact ⟨_, _, _, _, bm, _, _, _, _, _, _, _, _, _, _, ho, e5⟩
    · cases h
  · cases h
def exkB (K : PySem.W.Frag) (C : Addr) (tl : List Value) (newId : String) (fs : List Str) : Bool := clsB K C tl newId && (decide (PySem.W.findIn K (.ref C) "__setattr__" = some (some (.builtin "object.__setattr__"))) && (decide (PySem.W.typeIn K (.ref C) = some (.type "type")) && (PySem.W.keepIn K (.ref C) && (excB K C &&
  ((fs.all fun f => decide (PySem.W.findIn K (.ref C) f = some none)) && (decide (PySem.W.findIn K (.ref C) "__init__" = some (some (.ref (He.ma K C "__init__")))) && decide (PySem.W.typeIn K (.ref (He.ma K C "__init__")) = some (.type "function"))))))))
theorem exkB_ok {K : PySem.W.Frag} {C : Addr} {tl : List Value} {newId : String} {fs : List Str} (h : exkB K C tl newId fs = true) : ExK K C tl newId ∧ (∀ f ∈ fs, PySem.W.findIn K (.ref C) f = some none) ∧ PySem.W.findIn K (.ref C) "__init__" = some (some (.ref (He.ma K C "__init__"))) ∧ PySem.W.typeIn K (.ref (He.ma K C "__init__")) = some (.type "function") := by
  obtain ⟨h1, h⟩ := and2 h
  obtain ⟨h2, h⟩ := and2 h
  obtain ⟨h3, h⟩ := and2 h
  obtain ⟨h4, h⟩ := and2 h
  obtain ⟨h5, h⟩ := and2 h
  obtain ⟨h6, h⟩ := and2 h
  obtain ⟨h7, h8⟩ := and2 h
  exact ⟨⟨clsB_ok h1, of_decide_eq_true h2, of_decide_eq_true h3, h4, excB_ok h5⟩, fun f hf => of_decide_eq_true (List.all_eq_true.mp h6 f hf), of_decide_eq_true h7, of_decide_eq_true h8⟩
theorem bind_kw {K : PySem.W.Frag} {x qual : Str} {params : Arguments} {body : List Stmt} {scope : Scope} {f : Addr} {fd : FuncData} {ps ks : List Str} {sw : Bool} (F : FunD K x qual params body scope [] [] f fd)
    (h : ∀ (kV doc pm : Value) (an : Option Addr) (cdv ct a : Value) (ws : List Value), ws.length = ks.length → bindArgs (PySem.W.fnOf x qual params body scope .none kV doc pm an cdv ct) ⟨[a], ks.zip ws⟩ = pure (ps.zip (a :: turned sw ws))) (s : Shared) (a : Value) (ws : List Value) (hl : ws.length = ks.length) : BindsTo s fd ⟨[a], ks.zip ws⟩ (ps.zip (a :: turned sw ws)) := by
  obtain ⟨oc, od, dV, kV, doc, pm, an, cdv, ct, osl, rfl, lk, hcd, hD, hK⟩ := F.ex
  rcases hD with ⟨_, rfl⟩ | ⟨e, _⟩
  · exact .of_eq (h kV doc pm an cdv ct a ws hl)
  · exact absurd rfl e
section
variable {P : Program} {w : World} {K : PySem.W.Frag} {mg : Str → Option Value} {base : Heap}
/-- an __init__ of two fields -/
theorem ok_init2 {B newId : String} {tl : List Value} {x qual f1 f2 : Str} {st : Stmt} {f C : Addr} {fd : FuncData} (F : Fun K x qual st f fd) (SF : StoreFacts B tl "object.__setattr__" "object") (T : ExK K C tl newId) (h1 : PySem.W.findIn K (.ref C) f1 = some none) (h2 : PySem.W.findIn K (.ref C) f2 = some none)
    (sc : FnScope ["self", f1, f2] ["self", f1, f2] (defScope st))
    (hb : ∀ (cdv : Value) (A : Around) (outer : List Env) (s : Shared) (H : Hp) (E : XK), PSs (cxOf CX0 P w K mg base ["self", f1, f2] qual (defScope st) f cdv A outer s H E).nox (defBody st) (tSeq (tXst K tl newId f1 (tVar 0) (tVar 1)) (tXst K tl newId f2 (tVar 0) (tVar 2)))) :
    FnOk P w K mg base CX0 1 f fd ["self", f1, f2] (spInit C [f1, f2]) := by
  refine F.ok sc (fun vs H Q E h => ?_) (fun cdv A outer s H vs Q E hr h => ⟨_, hb cdv A outer s H E, ?_⟩)
  · obtain ⟨a, ws, rfl, hl, _⟩ := h
    show ws.length + 1 = 3
    rw [hl] <;> rfl
  · obtain ⟨a, ws, rfl, hl, ea, q⟩ := h
    match ws, hl with
    | [y1, y2], _ =>
    refine ⟨_, rfl, _, rfl, a, C, rfl, T, h1, .inl ⟨ea, fun dx nd ne => ?_⟩⟩
    refine ⟨_, rfl, _, rfl, a, C, rfl, T, h2, .inr ⟨dx, [(f1, y1)], upd_same, ?_, (by show 1 ≤ 900; decide), ?_⟩⟩
    · rw [upd_ne ne]
      exact upd_same
    · refine q _ dx nd ne (fun b o nb e => ?_) ?_ upd_same
      · have nbd := ne_of_none e nd
        rw [upd_ne nbd, upd_ne nb, upd_ne nbd]
        exact e
      · rw [upd_ne (Ne.symm ne)]
        exact upd_same
theorem ok_init1 {B newId : String} {tl : List Value} {x qual f1 : Str} {st : Stmt} {f C : Addr} {fd : FuncData} (F : Fun K x qual st f fd) (SF : StoreFacts B tl "object.__setattr__" "object") (T : ExK K C tl newId) (h1 : PySem.W.findIn K (.ref C) f1 = some none)
    (sc : FnScope ["self", f1] ["self", f1] (defScope st))
    (hb : ∀ (cdv : Value) (A : Around) (outer : List Env) (s : Shared) (H : Hp) (E : XK), PSs (cxOf CX0 P w K mg base ["self", f1] qual (defScope st) f cdv A outer s H E).nox (defBody st) (tXst K tl newId f1 (tVar 0) (tVar 1))) :
    FnOk P w K mg base CX0 1 f fd ["self", f1] (spInit C [f1]) := by
  refine F.ok sc (fun vs H Q E h => ?_) (fun cdv A outer s H vs Q E hr h => ⟨_, hb cdv A outer s H E, ?_⟩)
  · obtain ⟨a, ws, rfl, hl, _⟩ := h
    show ws.length + 1 = 2
    rw [hl] <;> rfl
  · obtain ⟨a, ws, rfl, hl, ea, q⟩ := h
    match ws, hl with
    | [y1], _ =>
    refine ⟨_, rfl, _, rfl, a, C, rfl, T, h1, .inl ⟨ea, fun dx nd ne => ?_⟩⟩
    refine q _ dx nd ne (fun b o nb e => ?_) upd_same ?_
    · have nbd := ne_of_none e nd
      rw [upd_ne nb, upd_ne nbd]
      exact e
    · rw [upd_ne ne]
      exact upd_same
end
end Gj

set_option maxHeartbeats 4000000
namespace Gj
open PySem PySem.Spec PyProof.Rows L2
open C8 (Cal pe_c pe_gc)
def topS (i : Nat) : Stmt := PySem.Challenge.pw_walkbox_k17_refusals_told_apart.main.body.getD i (.Pass ⟨0, 0, 0, 0⟩)
structure Mg (mg : Str → Option Value) : Prop where
  max : mg "max" = none
  min : mg "min" = none
  abs : mg "abs" = none
  len : mg "len" = none
  range : mg "range" = none
  isinstance : mg "isinstance" = none
  ValueError : mg "ValueError" = none
  LookupError : mg "LookupError" = none
  IndexError : mg "IndexError" = none
  KeyError : mg "KeyError" = none
  RuntimeError : mg "RuntimeError" = none
  ArithmeticError : mg "ArithmeticError" = none
def c15 : List Str := ["NoMap", "NoTurn", "NoPlan", "NoText", "NoThing", "NoWord", "NoRow", "NoSuch", "Still", "NoBar", "Away", "Here", "NoNews", "Begun", "TooMany"]
def cl (K : PySem.W.Frag) (j : Nat) : Addr := He.ga K (c15.getD j "")
def bz (j : Nat) : Str := (["1100000", "1100000", "1100000", "1100000", "1100000", "1100000", "1100000", "0010000", "0011000", "0010100", "0000010", "0000010", "0000010", "0000010", "0000001"] : List Str).getD j ""
def row (j : Nat) : List Bool := (List.range 15).map fun k => decide (k = j)
def one1 (c : Nat) : Bool := decide (V.str ⟨#[c]⟩ = V.str "1")
def brow (j : Nat) : List Bool := (bz j).cps.toList.map one1
def bs (K : PySem.W.Frag) (k : Nat) : Value := ([.ref (He.ga K "WalkError"), .type "ValueError", .type "LookupError", .type "IndexError", .type "KeyError", .type "RuntimeError", .type "ArithmeticError"] : List Value).getD k .none
abbrev veT : List Value := [.type "ValueError", .type "Exception", .type "BaseException", .type "object"]
structure Fx (K : PySem.W.Frag) (mg : Str → Option Value) : Prop where
  g : ∀ x ∈ ("WalkError" : Str) :: c15, mg x = some (.ref (He.ga K x))
  exc : ∀ j < 15, ExcC K (cl K j)
  kit : ∀ j < 15, ∀ k < 15, PySem.W.kitOne K (.ref (cl K j)) (.ref (cl K k)) = some (decide (k = j))
  kitB : ∀ j < 15, ∀ k < 7, PySem.W.kitOne K (.ref (cl K j)) (bs K k) = some ((brow j).getD k false)
  xin : ∀ j < 15, 4 ≤ j → j ≤ 6 → PySem.W.excIn K (cl K j) veT "ValueError.__new__" = true ∧ PySem.W.keepIn K (.ref (cl K j)) = true
  exm : ∀ j < 4, PySem.W.exmOne K (.ref (cl K j)) (.ref (He.ga K "WalkError")) = some true
def spKinds (K : PySem.W.Frag) (f : Nat → List Bool) : Sp := fun vs H Q _ => ∃ (a : Addr) (j : Nat), vs = [.ref a] ∧ j < 15 ∧ Exv H a (cl K j) ∧ ∀ (H' : Hp) (l : Addr), Same H H' → H' l = some (.lst ((f j).map V.bl)) → Q (.ref l) H'
def spIs (K : PySem.W.Frag) : Sp := fun vs H Q _ => ∃ (a : Addr) (j : Nat), vs = [.ref a, .int (j : Nat), .str (bz j)] ∧ j < 15 ∧ Exv H a (cl K j) ∧ ∀ (H' : Hp), Same H H' → Q (.bl true) H'
section
variable {σ : L2.St} {H : Hp} {te : TE} {b : List Bool} {D : Ends} {u t : TS} {i : Nat}
theorem setBl (h : BlsL te σ H b) (q : ∀ (H' : Hp) (l : Addr), Same H H' → H' l = some (.lst (b.map V.bl)) → u D (σ.set i (some (.ref l))) H') : tSeq (tAsg te (gName i)) u D σ H := h _ q
theorem retBl (h : BlsL te σ H b) (q : ∀ (H' : Hp) (l : Addr), Same H H' → H' l = some (.lst (b.map V.bl)) → D.rt (.ref l) H') : tRet te D σ H := h _ q
end
section
variable {P : Program} {w : World} {K : PySem.W.Frag} {mg : Str → Option Value} {base : Heap}
theorem sc__law_digit : FnScope ["_law_pot_here", "_law_many", "_law_digit_here"] ["_law_pot_here", "_law_many"] (defScope (topS 19)) := ⟨rfl, rfl, rfl, by decide +kernel, rfl, by decide +kernel, by decide +kernel⟩
theorem ok__law_digit (D : DefAt K mg "_law_digit" (topS 19)) : Cal P w K mg base 1 "_law_digit" spDigit [] := by
  have sc := sc__law_digit
  refine mkCal D (fun _ _ _ _ _ _ us hl => match us, hl with | [_, _], _ => rfl) sc (fun vs H Q E h => ?_) (fun f cdv A outer s H vs Q E hr h => ?_)
  · obtain ⟨p, n, rfl, _⟩ := h
    rfl
  · obtain ⟨p, n, rfl, ⟨a, b, ep, ha, hb, hb2⟩, hn, hn2, q⟩ := h
    refine ⟨_, (pss_cons (ps_if (pt_cmpR op_gt (pe_ix ix_list (pv 0) pe_int (fun _ _ => rfl)) pe_int (nomark _))
  (pss_cons (ps_set (i := 2) sc.nd rfl (.inl rfl) (pe_op op_mod (pe_ix ix_list (pv 0) pe_int (fun _ _ => rfl)) (pv 1)))
  (pss_cons (ps_asg (pe_op op_fdivW (pe_ix ix_list (pv 0) pe_int (fun _ _ => rfl)) (pv 1)) (pg_sub (pv 0) pe_int set_list))
  (pss_one (ps_ret (pv 2)))))
  pss_nil)
  (pss_cons (ps_asg (pe_op op_mod (pe_op op_add (pe_op op_mul (pe_ix ix_list (pv 0) pe_int (fun _ _ => rfl)) pe_int) pe_int) pe_int) (pg_sub (pv 0) pe_int set_list))
  (pss_one (ps_ret (pe_op op_mod (pe_op op_fdivW (pe_op op_mod (pe_op op_mul (pe_ix ix_list (pv 0) pe_int (fun _ _ => rfl)) (pe_ix ix_list (pv 0) pe_int (fun _ _ => rfl))) pe_int) pe_int) (pv 1)))))), ?_⟩
    have g0 : ∀ {x y : V}, atI [x, y] 0 = some x := fun {x y} => rfl
    have g1 : ∀ {x y : V}, atI [x, y] 1 = some y := fun {x y} => rfl
    refine ⟨_, rfl, p, _, 0, _, rfl, rfl, SqL.of ep, g0, _, _, rfl, rfl, _, rfl, ite2 (fun c => ?_) (fun c => ?_)⟩
    · have c : 0 < a := of_decide_eq_true c
      refine ⟨_, rfl, p, _, 0, _, rfl, rfl, SqL.of ep, g0, _, rfl, _, _, rfl, rfl, hn, ?_⟩
      refine ⟨_, rfl, p, _, 0, _, rfl, rfl, SqL.of ep, g0, _, rfl, _, _, rfl, rfl, ⟨hn, hn2⟩, ?_⟩
      refine ⟨_, rfl, p, _, 0, 0, rfl, rfl, ep, rfl, _, rfl, ?_⟩
      exact q _ _ (Int.emod_nonneg _ (by omega)) (Int.emod_lt_of_pos _ hn) ⟨Keep.here, Pot.put (Int.ediv_nonneg ha (by omega)) hb hb2⟩
    · refine ⟨_, rfl, p, _, 1, _, rfl, rfl, SqL.of ep, g1, _, _, rfl, rfl, .inl ⟨by omega, by omega⟩, _, _, rfl, rfl, _, _, rfl, rfl, (by decide : (0 : Int) < 2147483647), ?_⟩
      have h1 : 0 ≤ (b * 39373 + 20011) % 2147483647 := Int.emod_nonneg _ (by decide)
      have h2 : (b * 39373 + 20011) % 2147483647 < 2147483647 := Int.emod_lt_of_pos _ (by decide)
      refine ⟨_, rfl, p, _, 1, 1, rfl, rfl, ep, rfl, ?_⟩
      refine ⟨_, rfl, p, _, 1, _, rfl, rfl, SqL.of upd_same, g1, _, rfl, p, _, 1, _, rfl, rfl, SqL.of upd_same, g1, _, _, rfl, rfl, .inl ⟨by omega, by omega⟩, _, _, rfl, rfl, (by decide : (0 : Int) < 2147483563), _, _, rfl, rfl, ⟨by decide, by decide⟩, _, rfl, _, _, rfl, rfl, hn, ?_⟩
      exact q _ _ (Int.emod_nonneg _ (by omega)) (Int.emod_lt_of_pos _ hn) ⟨Keep.here, Pot.put ha h1 (by omega)⟩
theorem sc__law_pot : FnScope ["_law_script", "_law_k", "_law_cell"] ["_law_script", "_law_k"] (defScope (topS 18)) := ⟨rfl, rfl, rfl, by decide +kernel, rfl, by decide +kernel, by decide +kernel⟩
theorem ok__law_pot (D : DefAt K mg "_law_pot" (topS 18)) (m : Mg mg) : Cal P w K mg base 1 "_law_pot" (spPot K) [] := by
  have sc := sc__law_pot
  refine mkCal D (fun _ _ _ _ _ _ us hl => match us, hl with | [_, _], _ => rfl) sc (fun vs H Q E h => ?_) (fun f cdv A outer s H vs Q E hr h => ?_)
  · obtain ⟨a, ns, k, rfl, _⟩ := h
    rfl
  · obtain ⟨a, ns, k, rfl, hS, hk, hk2, q⟩ := h
    refine ⟨_, (pss_cons (ps_set (i := 2) sc.nd rfl (.inl rfl) (pe_ifExp (pt_cmpR op_lt (pv 1) (pe_callB call_len (by rfl) m.len (by decide +kernel) (pa_cons (pv 0) pa_nil)) (nomark _)) (pe_ix ix_list (pv 0) (pv 1) (fun _ _ => rfl)) pe_int))
  (pss_one (ps_ret (pe_lst (pa_cons (pe_callB (call_max2 rfl) (by rfl) m.max (by decide +kernel) (pa_cons pe_int (pa_cons (pe_op op_sub (pe_callB call_abs (by rfl) m.abs (by decide +kernel) (pa_cons (pv 2) pa_nil)) (pe_op op_pow pe_int pe_int)) pa_nil))) (pa_cons (pe_op op_add (pe_op op_add (pe_op op_mod (pe_callB call_abs (by rfl) m.abs (by decide +kernel) (pa_cons (pv 2) pa_nil)) pe_int) (pe_op op_mul pe_int (pv 1))) pe_int) pa_nil)))))), ?_⟩
    have c18 : CPow 10 18 := ⟨by decide, by decide, by decide⟩
    refine ⟨_, rfl, _, rfl, _, _, rfl, .inl ⟨_, hS, rfl⟩, _, _, rfl, rfl, _, rfl, ite2 (fun c => ?_) (fun c => ?_)⟩
    · have c : k < ((ns.map V.int).length : Int) := of_decide_eq_true c
      have hi : k.toNat < ns.length := by rw [List.length_map] at c; omega
      have g : atI (ns.map V.int) k = some (.int ns[k.toNat]) := at_of (j := k.toNat) (by omega) (by rw [List.getElem?_map, List.getElem?_eq_getElem hi]; rfl)
      refine ⟨_, rfl, _, rfl, a, _, k, _, rfl, rfl, hS, g, ?_⟩
      refine ⟨_, rfl, _, rfl, _, _, rfl, rfl, c18, _, _, rfl, rfl, _, _, rfl, _, rfl, _, rfl, _, _, rfl, rfl, (by decide : (0 : Int) < 2147483587), _, rfl, _, _, rfl, rfl, .inl ⟨by decide, by decide⟩, _, _, rfl, rfl, _, _, rfl, rfl, (by show 2 ≤ sizeLine; decide), fun p hp => q p _ hp (same_new hp) ⟨_, _, upd_same, ?_, ?_, ?_⟩⟩
      · split <;> omega
      · have := Int.emod_nonneg (if ns[k.toNat] < 0 then -ns[k.toNat] else ns[k.toNat]) (show (2147483587 : Int) ≠ 0 by decide)
        omega
      · have := Int.emod_lt_of_pos (if ns[k.toNat] < 0 then -ns[k.toNat] else ns[k.toNat]) (show (0 : Int) < 2147483587 by decide)
        omega
    · refine ⟨_, rfl, _, rfl, _, _, rfl, rfl, c18, _, _, rfl, rfl, _, _, rfl, _, rfl, _, rfl, _, _, rfl, rfl, (by decide : (0 : Int) < 2147483587), _, rfl, _, _, rfl, rfl, .inl ⟨by decide, by decide⟩, _, _, rfl, rfl, _, _, rfl, rfl, (by show 2 ≤ sizeLine; decide), fun p hp => q p _ hp (same_new hp) ⟨_, _, upd_same, ?_, ?_, ?_⟩⟩
      · split <;> omega
      · have : (if (0 : Int) < 0 then -0 else 0) % 2147483587 = (0 : Int) := by decide
        omega
      · have : (if (0 : Int) < 0 then -0 else 0) % 2147483587 = (0 : Int) := by decide
        omega
theorem sc__law_name : FnScope ["_law_pot_here", "_law_used", "_law_letters", "_law_size", "_law_name_here", "_law_k", "_law_letter"] ["_law_pot_here", "_law_used"] (defScope (topS 20)) := ⟨rfl, rfl, rfl, by decide +kernel, rfl, by decide +kernel, by decide +kernel⟩
theorem ok__law_name (D : DefAt K mg "_law_name" (topS 20)) (m : Mg mg) (c__law_digit : Cal P w K mg base 1 "_law_digit" spDigit []) : Cal P w K mg base 2 "_law_name" spName [] := by
  have sc := sc__law_name
  refine mkCal D (fun _ _ _ _ _ _ us hl => match us, hl with | [_, _], _ => rfl) sc (fun vs H Q E h => ?_) (fun f cdv A outer s H vs Q E hr h => ?_)
  · obtain ⟨p, u, us, rfl, _⟩ := h
    rfl
  · obtain ⟨p, u, us, rfl, hp, nu, eu, hus, hl, q⟩ := h
    refine ⟨_, (pss_cons (ps_set (i := 2) sc.nd rfl (.inr rfl) pe_str)
  (pss_cons (ps_set (i := 3) sc.nd rfl (.inl rfl) (pe_op op_add pe_int (pe_c c__law_digit hr (by decide) (by rfl) (pa_cons (pv 0) (pa_cons (pe_ix ix_list (pe_lst (pa_cons pe_int (pa_cons pe_int (pa_cons pe_int pa_nil)))) (pe_c c__law_digit hr (by decide) (by rfl) (pa_cons (pv 0) (pa_cons pe_int pa_nil))) (fun _ _ => rfl)) pa_nil)))))
  (pss_cons (ps_set (i := 4) sc.nd rfl (.inl rfl) (pe_join pe_str (pe_lc (own := [("_law_k", 5)]) (g := gName 5) (tt := tYes) rfl sc.nd (pi_range1 (by rfl) m.range (pa_cons (pv 3) pa_nil)) (blkOk_by (N := ["_law_pot_here", "_law_used", "_law_letters", "_law_size", "_law_name_here", "_law_k", "_law_letter"]) (sc := defScope (topS 20)) (by decide +kernel)) (fun _ _ _ _ _ => (pg_name (i := 5) sc.nd rfl (.inl rfl))) (fun _ _ _ _ _ => pts_nil) (fun _ _ _ _ _ => (pe_ix ix_str (pv 2) (pe_c c__law_digit hr (by decide) (by rfl) (pa_cons (pv 0) (pa_cons pe_int pa_nil))) (fun _ _ => rfl))))))
  (C8.pss_cut (ps_if (PW.pt (pw_and (pt_cmpR (op_neE hr.units) (pv 1) (pe_lst pa_nil) (nomark _)) (pw_and1 (pt_cmpR op_eq (pe_c c__law_digit hr (by decide) (by rfl) (pa_cons (pv 0) (pa_cons pe_int pa_nil))) pe_int (nomark _)))))
  (pss_one (ps_set (i := 4) sc.nd rfl (.inl rfl) (pe_slice C8.sl_txt (pe_op op_add_str (pe_ix ix_list (pv 1) (pe_un un_neg pe_int) (fun _ _ => rfl)) (pv 4)) po_none (po_some pe_int))))
  pss_nil)
  (pss_cons (ps_if (pt_cmpR op_in_seq (pv 4) (pv 1) rfl)
  (pss_one (ps_set (i := 4) sc.nd rfl (.inl rfl) (pe_ix ix_list (pe_lc (own := [("_law_letter", 6)]) (g := gName 6) (tt := tTest (tOp (rIn K true) (tVar 6) (tVar 1))) rfl sc.nd (pi_str (pv 2)) (blkOk_by (N := ["_law_pot_here", "_law_used", "_law_letters", "_law_size", "_law_name_here", "_law_k", "_law_letter"]) (sc := defScope (topS 20)) (by decide +kernel)) (fun _ _ _ _ _ => (pg_name (i := 6) sc.nd rfl (.inl rfl))) (fun _ _ _ _ _ => (pts_one (pt_cmpR op_notIn_seq (pv 6) (pv 1) rfl))) (fun _ _ _ _ _ => (pv 6))) pe_int (fun _ _ => rfl))))
  pss_nil)
  (pss_one (ps_ret (pv 4)))))))), ?_⟩
    refine ⟨_, rfl, (by show 3 ≤ sizeLine; decide), fun L hL => ?_⟩
    refine ⟨_, rfl, p, _, rfl, hp.new hL, by decide, by decide, fun e H1 e0 e1 r1 => ?_⟩
    obtain ⟨x, hxm, hx⟩ := at_some (xs := [V.int 1, .int 3, .int 8]) e0 e1
    obtain ⟨n, rfl, hn⟩ : ∃ n : Int, x = .int n ∧ (n = 1 ∨ n = 3 ∨ n = 8) := by
      simp only [List.mem_cons, List.not_mem_nil, or_false] at hxm
      rcases hxm with h | h | h
      · exact ⟨1, h, .inl rfl⟩
      · exact ⟨3, h, .inr (.inl rfl)⟩
      · exact ⟨8, h, .inr (.inr rfl)⟩
    have dr1 : Drawn p H H1 := ⟨(Keep.new hL).trans r1.keep, r1.pot⟩
    refine ⟨L, _, _, _, rfl, rfl, SqL.of (r1.keep _ _ (hp.ne hL) upd_same), hx, ?_⟩
    refine ⟨p, n, rfl, r1.pot, by omega, by rcases hn with h | h | h <;> subst h <;> decide, fun d H2 d0 d1 r2 => ?_⟩
    have dr2 := dr1.trans r2
    refine ⟨_, _, rfl, rfl, ?_⟩
    refine ⟨⟨_, rfl⟩, _, rfl, 1 + d, rfl, by omega, by omega, fun D hD => ?_⟩
    refine lc_range (Signs (fun c => c ∈ ltrs) p D H2) (Signs.start r2.pot hD) (fun i H4 hi hs => ?_) (fun H4 hs => ?_)
    · refine ⟨rfl, _, rfl, _, rfl, p, _, rfl, hs.pot, by decide, by decide, fun k H5 k0 k1 r5 => ?_⟩
      obtain ⟨c, hc, hx⟩ := at_some (xs := ltrs) k0 k1
      exact ⟨_, _, _, rfl, rfl, by decide, hx, hs.next hi (by omega) hD r5 hc⟩
    · obtain ⟨cs, ys, hcl, hcs, dr, eD, hz, ej⟩ := hs.join (by omega)
      refine ⟨_, D, ys, rfl, rfl, .inl (SqL.of eD), hz, ?_⟩
      rw [ej]
      have dr4 := dr2.trans dr
      have nm : NameS (SX.S cs) := ⟨cs, rfl, by omega, by omega, hcs⟩
      have eu4 : H4 u = some (.lst (us.map V.str)) := dr4.keep _ _ nu eu
      refine ⟨fun σ' H' => ∃ (z : Str) (s3 s5 s6 : Option V), σ' = [some (.ref p), some (.ref u), some (.str "abcdefghijklmnopqrstuvwxyz"), s3, some (.str z), s5, s6] ∧ NameS z ∧ Drawn p H H' ∧ H' u = some (.lst (us.map V.str)), ?_, ?_⟩
      rotate_left
      · rintro σ' H' ⟨z, s3, s5, s6, rfl, nz, dz, euz⟩
        refine ⟨_, rfl, _, rfl, u, us.map V.str, rfl, .inl (SqL.of euz), rfl, flat_strs us, _, rfl, ite2 (fun c => ?_) (fun c => ?_)⟩
        · refine ⟨_, rfl, _, rfl, fun D2 hD2 => ?_⟩
          have nD2 : D2 ≠ p := dz.pot.ne hD2
          refine lc_it walk_str (Pv := fun i H'' => Drawn p H H'' ∧ H'' u = some (.lst (us.map V.str)) ∧ H'' D2 = some (.lst (((ltrs.take i).filter fun c => decide (SX.S [c] ∉ us)).map fun c => V.str (SX.S [c])))) ⟨dz.new hD2, by rw [upd_ne (ne_of_none euz hD2)]; exact euz, upd_same⟩ (fun _ _ _ _ => trivial) (fun i x H1 H2 hi hp2 hy => ?_) (fun H1 hp2 => ?_)
          · obtain ⟨rfl, ch, ec, rfl⟩ := hy
            obtain ⟨d1, e1, e2⟩ := hp2
            have ec2 : ltrs[i]? = some ch := by rw [Array.getElem?_toList]; exact ec
            refine ⟨rfl, _, rfl, _, rfl, u, us.map V.str, rfl, .inl (SqL.of e1), rfl, flat_strs us, _, rfl, ?_⟩
            have ev : (if true = true then !inV (.str ⟨#[ch]⟩) (us.map V.str) else inV (.str ⟨#[ch]⟩) (us.map V.str)) = decide (SX.S [ch] ∉ us) := by
              rw [if_pos rfl, show (⟨#[ch]⟩ : Str) = SX.S [ch] from rfl, inV_strs]
              by_cases h : SX.S [ch] ∈ us
              · rw [decide_eq_true h, decide_eq_false (fun n => n h)]; rfl
              · rw [decide_eq_false h, decide_eq_true h]; rfl
            rw [ev]
            refine ite2 (fun c => ?_) (fun c => ?_)
            · refine ⟨_, rfl, _, e2, ?_, ⟨fun b o nb eb => ?_, ?_⟩, ?_, ?_⟩
              · rw [List.length_map]
                have l1 := List.length_filter_le (fun c => decide (SX.S [c] ∉ us)) (ltrs.take i)
                have l2 : (ltrs.take i).length ≤ 26 := by
                  rw [List.length_take]
                  exact Nat.le_trans (Nat.min_le_right _ _) (by decide +kernel)
                exact small1000 (by omega)
              · rw [upd_ne (ne_of_none (dz.keep _ _ nb eb) hD2)]
                exact d1.keep _ _ nb eb
              · obtain ⟨x1, x2, e3, z3⟩ := d1.pot
                exact ⟨x1, x2, by rw [upd_ne nD2.symm]; exact e3, z3⟩
              · rw [upd_ne (ne_of_none euz hD2)]; exact e1
              · rw [upd_same, take_snoc ec2, List.filter_append, List.map_append]
                have : [ch].filter (fun c => decide (SX.S [c] ∉ us)) = [ch] := by
                  rw [List.filter_cons, if_pos c]; rfl
                rw [this]; rfl
            · refine ⟨d1, e1, ?_⟩
              rw [e2, take_snoc ec2, List.filter_append]
              have : [ch].filter (fun c => decide (SX.S [c] ∉ us)) = [] := by
                rw [List.filter_cons, if_neg c]; rfl
              rw [this, List.append_nil]
          · obtain ⟨d1, e1, e2⟩ := hp2
            rw [show ltrs.take (PySem.Str.ofString "abcdefghijklmnopqrstuvwxyz").cps.size = ltrs from List.take_of_length_le (Nat.le_refl _)] at e2
            obtain ⟨c0, hc0, hn0⟩ := fresh_letter hl
            obtain ⟨c1, l1, e3⟩ : ∃ c1 l1, ltrs.filter (fun c => decide (SX.S [c] ∉ us)) = c1 :: l1 := by
              cases h : ltrs.filter (fun c => decide (SX.S [c] ∉ us)) with
              | nil =>
                have : c0 ∈ ltrs.filter (fun c => decide (SX.S [c] ∉ us)) := List.mem_filter.mpr ⟨hc0, decide_eq_true hn0⟩
                rw [h] at this; cases this
              | cons c1 l1 => exact ⟨c1, l1, rfl⟩
            have m1 : c1 ∈ ltrs.filter (fun c => decide (SX.S [c] ∉ us)) := by rw [e3]; exact List.mem_cons_self
            have m2 := List.mem_filter.mp m1
            rw [e3] at e2
            refine ⟨D2, _, 0, _, rfl, rfl, SqL.of e2, atI_nat (j := 0) rfl, ?_⟩
            exact ⟨_, rfl, q _ _ (name_one m2.1) (of_decide_eq_true m2.2) d1⟩
        · have c : z ∉ us := fun h => c (by rw [if_neg (by decide), inV_strs, decide_eq_true h])
          exact ⟨_, rfl, q _ _ nz c dz⟩
      refine ⟨_, rfl, (by show 0 ≤ sizeLine; decide), fun E0' hE => ?_⟩
      have eu5 : (upd H4 E0' (.lst [])) u = some (.lst (us.map V.str)) := by rw [upd_ne (ne_of_none eu4 hE)]; exact eu4
      have dr5 : Drawn p H (upd H4 E0' (.lst [])) := dr4.new hE
      refine ⟨u, E0', us.map V.str, rfl, rfl, .inl ⟨SqL.of eu5, SqL.of upd_same⟩, _, rfl, ite2 (fun c => ?_) (fun c => ?_)⟩
      · refine ⟨_, rfl, p, _, rfl, dr5.pot, by decide, by decide, fun g H6 g0 g1 r6 => ?_⟩
        have dr6 := dr5.trans r6
        have eu6 : H6 u = some (.lst (us.map V.str)) := dr6.keep _ _ nu eu
        refine ⟨rfl, _, rfl, ite2 (fun c2 => ?_) (fun c2 => ?_)⟩
        · obtain ⟨ini, z, e⟩ : ∃ ini z, us = ini ++ [z] := by
            cases us with
            | nil => exact absurd c (by simp)
            | cons y l => exact ⟨(y :: l).dropLast, (y :: l).getLast (by simp), (List.dropLast_concat_getLast _).symm⟩
          have gl : atI (us.map V.str) (-1) = some (.str z) := by
            rw [e, List.map_append]
            exact atI_last _ _
          obtain ⟨zs, rfl, hz1, hz2, hz3⟩ := (hus z (by rw [e]; exact List.mem_append_right _ List.mem_cons_self)).ex
          refine ⟨_, rfl, 1, rfl, u, _, -1, _, rfl, rfl, SqL.of eu6, gl, _, rfl, _, _, rfl, rfl, ?_, 8, rfl, _, rfl, ?_, ?_⟩
          · rw [SX.S_len, SX.S_len]
            exact Nat.le_of_lt (small1000 (by omega))
          · rw [SX.S_cat, SX.S_len, List.length_append]
            exact Nat.le_of_lt (small1000 (by omega))
          · rw [SX.S_cat, SX.slice_to (by decide)]
            have nm2 : NameS (SX.S ((zs ++ cs).take (8 : Int).toNat)) := ⟨_, rfl, by rw [List.length_take, List.length_append]; show 1 ≤ min 8 _; omega, by rw [List.length_take]; exact Nat.min_le_left _ _, fun c hc => by
              rcases List.mem_append.mp (List.mem_of_mem_take hc) with h | h
              · exact hz3 c h
              · exact hcs c h⟩
            exact ⟨_, _, _, _, rfl, nm2, dr6, eu6⟩
        · exact ⟨_, _, _, _, rfl, nm, dr6, eu6⟩
      · exact ⟨_, _, _, _, rfl, nm, dr5, eu5⟩
theorem sc__law_names : FnScope ["_law_pot_here", "_law_many", "_law_used", "_law_found", "_law_k"] ["_law_pot_here", "_law_many", "_law_used"] (defScope (topS 21)) := ⟨rfl, rfl, rfl, by decide +kernel, rfl, by decide +kernel, by decide +kernel⟩
theorem ok__law_names (D : DefAt K mg "_law_names" (topS 21)) (m : Mg mg) (c__law_name : Cal P w K mg base 2 "_law_name" spName []) : Cal P w K mg base 3 "_law_names" spNames [] := by
  have sc := sc__law_names
  refine mkCal D (fun _ _ _ _ _ _ us hl => match us, hl with | [_, _, _], _ => rfl) sc (fun vs H Q E h => ?_) (fun f cdv A outer s H vs Q E hr h => ?_)
  · obtain ⟨p, u, us, n, rfl, _⟩ := h
    rfl
  · obtain ⟨p, u, us, n, rfl, hp, nu, eu, hus, hl, q⟩ := h
    refine ⟨_, (pss_cons (ps_set (i := 3) sc.nd rfl (.inl rfl) (pe_lst pa_nil))
  (pss_cons (ps_for PassesOwn.never rfl (pi_range1 (by rfl) m.range (pa_cons (pv 1) pa_nil)) (pg_name (i := 4) sc.nd rfl (.inl rfl))
  (pss_one (ps_expr (pe_bm PySem.F.plainAttrs_list PySem.F.slot_list_append PySem.F.type_list_append mt_append (pv 3) (pa_cons (pe_c c__law_name hr (by decide) (by rfl) (pa_cons (pv 0) (pa_cons (pe_op op_cat (pv 2) (pv 3)) pa_nil))) pa_nil)))))
  (pss_one (ps_ret (pv 3))))), ?_⟩
    refine ⟨(by show 0 ≤ sizeLine; decide), fun F hF => ?_⟩
    have nF : F ≠ p := hp.ne hF
    refine ⟨_, rfl, (n : Int), rfl, by omega, by omega, ?_⟩
    refine for_range (n := n) (fun i σ H' => ∃ (zs : List Str) (y4 : Option V), σ = [some (.ref p), some (.int (n : Nat)), some (.ref u), some (.ref F), y4] ∧ zs.length = i ∧ (∀ z ∈ zs, NameS z) ∧ zs.Nodup ∧ (∀ z ∈ zs, z ∉ us) ∧ Drawn p H H' ∧ H' F = some (.lst (zs.map V.str)))
      ⟨[], _, rfl, rfl, (fun _ h => by cases h), List.nodup_nil, (fun _ h => by cases h), ⟨Keep.new hF, hp.new hF⟩, upd_same⟩ (fun i σ H1 hi hi2 => ?_) (fun σ H1 hi2 => ?_)
    · obtain ⟨zs, y4, rfl, hz, hzn, hnd, hdis, dr, eF⟩ := hi2
      have eu1 : H1 u = some (.lst (us.map V.str)) := dr.keep _ _ nu eu
      refine ⟨_, rfl, .inl ⟨rfl, _, SqL.of eF⟩, _, rfl, _, rfl, _, rfl, u, F, _, _, rfl, rfl, eu1, eF, ?_, fun g hg => ?_⟩
      · rw [List.length_map, List.length_map]
        exact Nat.le_of_lt (small1000 (by omega))
      · have eg : (upd H1 g (.lst (us.map V.str ++ zs.map V.str))) g = some (.lst ((us ++ zs).map V.str)) := by rw [upd_same, List.map_append]
        refine ⟨p, g, us ++ zs, rfl, dr.pot.new hg, dr.pot.ne hg, eg, ?_, by rw [List.length_append]; omega, fun z H2 hzN hzU r2 => ?_⟩
        · intro z h
          rcases List.mem_append.mp h with h | h
          · exact hus z h
          · exact hzn z h
        · have dr2 : Drawn p H H2 := (dr.new hg).trans r2
          have eF2 : H2 F = some (.lst (zs.map V.str)) := r2.keep _ _ nF (by rw [upd_ne (ne_of_none eF hg)]; exact eF)
          refine ⟨F, _, _, rfl, rfl, eF2, ?_, zs ++ [z], _, rfl, ?_, ?_, ?_, ?_, ⟨fun b o nb eb => ?_, ?_⟩, ?_⟩
          · rw [List.length_map]
            exact small1000 (by omega)
          · rw [List.length_append, hz]; rfl
          · intro x h
            rcases List.mem_append.mp h with h | h
            · exact hzn x h
            · rw [List.mem_singleton.mp h]; exact hzN
          · refine List.nodup_append.mpr ⟨hnd, List.nodup_cons.mpr ⟨List.not_mem_nil, List.nodup_nil⟩, fun a ha b hb e => ?_⟩
            rw [List.mem_singleton.mp hb] at e
            exact hzU (List.mem_append_right _ (e ▸ ha))
          · intro x h
            rcases List.mem_append.mp h with h | h
            · exact hdis x h
            · rw [List.mem_singleton.mp h]; exact fun k => hzU (List.mem_append_left _ k)
          · rw [upd_ne (ne_of_none eb hF)]
            exact dr2.keep _ _ nb eb
          · obtain ⟨x1, x2, e3, z3⟩ := dr2.pot
            exact ⟨x1, x2, by rw [upd_ne nF.symm]; exact e3, z3⟩
          · rw [upd_same, List.map_append]; rfl
    · obtain ⟨zs, y4, rfl, hz, hzn, hnd, hdis, dr, eF⟩ := hi2
      exact ⟨_, rfl, q F zs H1 hF nF hz hzn hnd hdis dr eF⟩
end
end Gj

set_option maxHeartbeats 4000000
namespace Gj
open PySem PySem.Spec PyProof.Rows L2
open C8 (Cal pe_c pe_gc)
section
variable {P : Program} {w : World} {K : PySem.W.Frag} {mg : Str → Option Value} {base : Heap}
theorem sc__law_kinds : FnScope ["_law_e", "_law_found"] ["_law_e"] (defScope (topS 22)) := ⟨rfl, rfl, rfl, by decide +kernel, rfl, by decide +kernel, by decide +kernel⟩
theorem ok__law_kinds (D : DefAt K mg "_law_kinds" (topS 22)) (m : Mg mg) (fx : Fx K mg) : Cal P w K mg base 1 "_law_kinds" (spKinds K row) [] := by
  have sc := sc__law_kinds
  refine mkCal D (fun _ _ _ _ _ _ us hl => match us, hl with | [_], _ => rfl) sc (fun vs H Q E h => ?_) (fun f cdv A outer s H vs Q E hr h => ?_)
  · obtain ⟨a, j, rfl, _⟩ := h
    rfl
  · obtain ⟨a, j, rfl, hj, hx, q⟩ := h
    refine ⟨_, (pss_cons (ps_set (i := 1) sc.nd rfl (.inl rfl) (pe_lst (pa_cons (pe_callB call_isW (by rfl) m.isinstance (by decide +kernel) (pa_cons (pv 0) (pa_cons (pe_glob (v := .ref (He.ga K "NoMap")) (by rfl) (fx.g "NoMap" (by decide +kernel)) rfl) pa_nil))) (pa_cons (pe_callB call_isW (by rfl) m.isinstance (by decide +kernel) (pa_cons (pv 0) (pa_cons (pe_glob (v := .ref (He.ga K "NoTurn")) (by rfl) (fx.g "NoTurn" (by decide +kernel)) rfl) pa_nil))) (pa_cons (pe_callB call_isW (by rfl) m.isinstance (by decide +kernel) (pa_cons (pv 0) (pa_cons (pe_glob (v := .ref (He.ga K "NoPlan")) (by rfl) (fx.g "NoPlan" (by decide +kernel)) rfl) pa_nil))) (pa_cons (pe_callB call_isW (by rfl) m.isinstance (by decide +kernel) (pa_cons (pv 0) (pa_cons (pe_glob (v := .ref (He.ga K "NoText")) (by rfl) (fx.g "NoText" (by decide +kernel)) rfl) pa_nil))) pa_nil))))))
  (pss_cons (ps_set (i := 1) sc.nd rfl (.inl rfl) (pe_op op_cat (pv 1) (pe_lst (pa_cons (pe_callB call_isW (by rfl) m.isinstance (by decide +kernel) (pa_cons (pv 0) (pa_cons (pe_glob (v := .ref (He.ga K "NoThing")) (by rfl) (fx.g "NoThing" (by decide +kernel)) rfl) pa_nil))) (pa_cons (pe_callB call_isW (by rfl) m.isinstance (by decide +kernel) (pa_cons (pv 0) (pa_cons (pe_glob (v := .ref (He.ga K "NoWord")) (by rfl) (fx.g "NoWord" (by decide +kernel)) rfl) pa_nil))) (pa_cons (pe_callB call_isW (by rfl) m.isinstance (by decide +kernel) (pa_cons (pv 0) (pa_cons (pe_glob (v := .ref (He.ga K "NoRow")) (by rfl) (fx.g "NoRow" (by decide +kernel)) rfl) pa_nil))) (pa_cons (pe_callB call_isW (by rfl) m.isinstance (by decide +kernel) (pa_cons (pv 0) (pa_cons (pe_glob (v := .ref (He.ga K "NoSuch")) (by rfl) (fx.g "NoSuch" (by decide +kernel)) rfl) pa_nil))) pa_nil)))))))
  (pss_cons (ps_set (i := 1) sc.nd rfl (.inl rfl) (pe_op op_cat (pv 1) (pe_lst (pa_cons (pe_callB call_isW (by rfl) m.isinstance (by decide +kernel) (pa_cons (pv 0) (pa_cons (pe_glob (v := .ref (He.ga K "Still")) (by rfl) (fx.g "Still" (by decide +kernel)) rfl) pa_nil))) (pa_cons (pe_callB call_isW (by rfl) m.isinstance (by decide +kernel) (pa_cons (pv 0) (pa_cons (pe_glob (v := .ref (He.ga K "NoBar")) (by rfl) (fx.g "NoBar" (by decide +kernel)) rfl) pa_nil))) (pa_cons (pe_callB call_isW (by rfl) m.isinstance (by decide +kernel) (pa_cons (pv 0) (pa_cons (pe_glob (v := .ref (He.ga K "Away")) (by rfl) (fx.g "Away" (by decide +kernel)) rfl) pa_nil))) (pa_cons (pe_callB call_isW (by rfl) m.isinstance (by decide +kernel) (pa_cons (pv 0) (pa_cons (pe_glob (v := .ref (He.ga K "Here")) (by rfl) (fx.g "Here" (by decide +kernel)) rfl) pa_nil))) pa_nil)))))))
  (pss_one (ps_ret (pe_op op_cat (pv 1) (pe_lst (pa_cons (pe_callB call_isW (by rfl) m.isinstance (by decide +kernel) (pa_cons (pv 0) (pa_cons (pe_glob (v := .ref (He.ga K "NoNews")) (by rfl) (fx.g "NoNews" (by decide +kernel)) rfl) pa_nil))) (pa_cons (pe_callB call_isW (by rfl) m.isinstance (by decide +kernel) (pa_cons (pv 0) (pa_cons (pe_glob (v := .ref (He.ga K "Begun")) (by rfl) (fx.g "Begun" (by decide +kernel)) rfl) pa_nil))) (pa_cons (pe_callB call_isW (by rfl) m.isinstance (by decide +kernel) (pa_cons (pv 0) (pa_cons (pe_glob (v := .ref (He.ga K "TooMany")) (by rfl) (fx.g "TooMany" (by decide +kernel)) rfl) pa_nil))) pa_nil)))))))))), ?_⟩
    have s0 := Same.refl H
    refine setBl (Bls.lst (Bls.cons (say_isW (giv_var rfl) giv_c (.own _) (fx.exc j hj) (hx.same s0) (fx.kit j hj 0 (by decide))) fun _ s4_ => (Bls.cons (say_isW (giv_var rfl) giv_c (.own _) (fx.exc j hj) (hx.same (s0.trans s4_)) (fx.kit j hj 1 (by decide))) fun _ s3_ => (Bls.cons (say_isW (giv_var rfl) giv_c (.own _) (fx.exc j hj) (hx.same ((s0.trans s4_).trans s3_)) (fx.kit j hj 2 (by decide))) fun _ s2_ => (Bls.cons (say_isW (giv_var rfl) giv_c (.own _) (fx.exc j hj) (hx.same (((s0.trans s4_).trans s3_).trans s2_)) (fx.kit j hj 3 (by decide))) fun _ s1_ => Bls.nil)))) (by simp)) fun H1 l1 t1 e1 => ?_
    refine setBl (BlsL.cat (BlsL.var (giv_var rfl) e1) (fun _ u1 => Bls.lst (Bls.cons (say_isW (giv_var rfl) giv_c (.own _) (fx.exc j hj) (hx.same (t1.trans u1)) (fx.kit j hj 4 (by decide))) fun _ s4_ => (Bls.cons (say_isW (giv_var rfl) giv_c (.own _) (fx.exc j hj) (hx.same ((t1.trans u1).trans s4_)) (fx.kit j hj 5 (by decide))) fun _ s3_ => (Bls.cons (say_isW (giv_var rfl) giv_c (.own _) (fx.exc j hj) (hx.same (((t1.trans u1).trans s4_).trans s3_)) (fx.kit j hj 6 (by decide))) fun _ s2_ => (Bls.cons (say_isW (giv_var rfl) giv_c (.own _) (fx.exc j hj) (hx.same ((((t1.trans u1).trans s4_).trans s3_).trans s2_)) (fx.kit j hj 7 (by decide))) fun _ s1_ => Bls.nil)))) (by simp)) (by simp)) fun H2 l2 t2 e2 => ?_
    have t2 := t1.trans t2
    refine setBl (BlsL.cat (BlsL.var (giv_var rfl) e2) (fun _ u1 => Bls.lst (Bls.cons (say_isW (giv_var rfl) giv_c (.own _) (fx.exc j hj) (hx.same (t2.trans u1)) (fx.kit j hj 8 (by decide))) fun _ s4_ => (Bls.cons (say_isW (giv_var rfl) giv_c (.own _) (fx.exc j hj) (hx.same ((t2.trans u1).trans s4_)) (fx.kit j hj 9 (by decide))) fun _ s3_ => (Bls.cons (say_isW (giv_var rfl) giv_c (.own _) (fx.exc j hj) (hx.same (((t2.trans u1).trans s4_).trans s3_)) (fx.kit j hj 10 (by decide))) fun _ s2_ => (Bls.cons (say_isW (giv_var rfl) giv_c (.own _) (fx.exc j hj) (hx.same ((((t2.trans u1).trans s4_).trans s3_).trans s2_)) (fx.kit j hj 11 (by decide))) fun _ s1_ => Bls.nil)))) (by simp)) (by simp)) fun H3 l3 t3 e3 => ?_
    have t3 := t2.trans t3
    exact retBl (BlsL.cat (BlsL.var (giv_var rfl) e3) (fun _ u1 => Bls.lst (Bls.cons (say_isW (giv_var rfl) giv_c (.own _) (fx.exc j hj) (hx.same (t3.trans u1)) (fx.kit j hj 12 (by decide))) fun _ s3_ => (Bls.cons (say_isW (giv_var rfl) giv_c (.own _) (fx.exc j hj) (hx.same ((t3.trans u1).trans s3_)) (fx.kit j hj 13 (by decide))) fun _ s2_ => (Bls.cons (say_isW (giv_var rfl) giv_c (.own _) (fx.exc j hj) (hx.same (((t3.trans u1).trans s3_).trans s2_)) (fx.kit j hj 14 (by decide))) fun _ s1_ => Bls.nil))) (by simp)) (by simp)) fun H4 l4 t4 e4 => q H4 l4 (t3.trans t4) e4
theorem sc__law_bases : FnScope ["_law_e", "_law_found"] ["_law_e"] (defScope (topS 23)) := ⟨rfl, rfl, rfl, by decide +kernel, rfl, by decide +kernel, by decide +kernel⟩
theorem ok__law_bases (D : DefAt K mg "_law_bases" (topS 23)) (m : Mg mg) (fx : Fx K mg) : Cal P w K mg base 1 "_law_bases" (spKinds K brow) [] := by
  have sc := sc__law_bases
  refine mkCal D (fun _ _ _ _ _ _ us hl => match us, hl with | [_], _ => rfl) sc (fun vs H Q E h => ?_) (fun f cdv A outer s H vs Q E hr h => ?_)
  · obtain ⟨a, j, rfl, _⟩ := h
    rfl
  · obtain ⟨a, j, rfl, hj, hx, q⟩ := h
    refine ⟨_, (pss_cons (ps_set (i := 1) sc.nd rfl (.inl rfl) (pe_lst (pa_cons (pe_callB call_isW (by rfl) m.isinstance (by decide +kernel) (pa_cons (pv 0) (pa_cons (pe_glob (v := .ref (He.ga K "WalkError")) (by rfl) (fx.g "WalkError" (by decide +kernel)) rfl) pa_nil))) (pa_cons (pe_callB call_isW (by rfl) m.isinstance (by decide +kernel) (pa_cons (pv 0) (pa_cons (pe_bltn (v := .ty "ValueError") (by rfl) m.ValueError (by decide +kernel) rfl) pa_nil))) (pa_cons (pe_callB call_isW (by rfl) m.isinstance (by decide +kernel) (pa_cons (pv 0) (pa_cons (pe_bltn (v := .ty "LookupError") (by rfl) m.LookupError (by decide +kernel) rfl) pa_nil))) (pa_cons (pe_callB call_isW (by rfl) m.isinstance (by decide +kernel) (pa_cons (pv 0) (pa_cons (pe_bltn (v := .ty "IndexError") (by rfl) m.IndexError (by decide +kernel) rfl) pa_nil))) pa_nil))))))
  (pss_one (ps_ret (pe_op op_cat (pv 1) (pe_lst (pa_cons (pe_callB call_isW (by rfl) m.isinstance (by decide +kernel) (pa_cons (pv 0) (pa_cons (pe_bltn (v := .ty "KeyError") (by rfl) m.KeyError (by decide +kernel) rfl) pa_nil))) (pa_cons (pe_callB call_isW (by rfl) m.isinstance (by decide +kernel) (pa_cons (pv 0) (pa_cons (pe_bltn (v := .ty "RuntimeError") (by rfl) m.RuntimeError (by decide +kernel) rfl) pa_nil))) (pa_cons (pe_callB call_isW (by rfl) m.isinstance (by decide +kernel) (pa_cons (pv 0) (pa_cons (pe_bltn (v := .ty "ArithmeticError") (by rfl) m.ArithmeticError (by decide +kernel) rfl) pa_nil))) pa_nil)))))))), ?_⟩
    have s0 := Same.refl H
    refine setBl (Bls.lst (Bls.cons (say_isW (giv_var rfl) giv_c (.own _) (fx.exc j hj) (hx.same s0) (fx.kitB j hj 0 (by decide))) fun _ s4_ => (Bls.cons (say_isW (giv_var rfl) giv_c (.ty _) (fx.exc j hj) (hx.same (s0.trans s4_)) (fx.kitB j hj 1 (by decide))) fun _ s3_ => (Bls.cons (say_isW (giv_var rfl) giv_c (.ty _) (fx.exc j hj) (hx.same ((s0.trans s4_).trans s3_)) (fx.kitB j hj 2 (by decide))) fun _ s2_ => (Bls.cons (say_isW (giv_var rfl) giv_c (.ty _) (fx.exc j hj) (hx.same (((s0.trans s4_).trans s3_).trans s2_)) (fx.kitB j hj 3 (by decide))) fun _ s1_ => Bls.nil)))) (by simp)) fun H1 l1 t1 e1 => ?_
    refine retBl (BlsL.cat (BlsL.var (giv_var rfl) e1) (fun _ u1 => Bls.lst (Bls.cons (say_isW (giv_var rfl) giv_c (.ty _) (fx.exc j hj) (hx.same (t1.trans u1)) (fx.kitB j hj 4 (by decide))) fun _ s3_ => (Bls.cons (say_isW (giv_var rfl) giv_c (.ty _) (fx.exc j hj) (hx.same ((t1.trans u1).trans s3_)) (fx.kitB j hj 5 (by decide))) fun _ s2_ => (Bls.cons (say_isW (giv_var rfl) giv_c (.ty _) (fx.exc j hj) (hx.same (((t1.trans u1).trans s3_).trans s2_)) (fx.kitB j hj 6 (by decide))) fun _ s1_ => Bls.nil))) (by simp)) (by simp)) fun H2 l2 t2 e2 => q H2 l2 (t1.trans t2) ?_
    rw [e2]
    have key : ∀ j < 15, ([(brow j).getD 0 false, (brow j).getD 1 false, (brow j).getD 2 false, (brow j).getD 3 false] ++ [(brow j).getD 4 false, (brow j).getD 5 false, (brow j).getD 6 false]) = brow j := by decide +kernel
    rw [key j hj]
theorem sc__law_is : FnScope ["_law_e", "_law_number", "_law_bases_here", "_law_k", "_law_sign"] ["_law_e", "_law_number", "_law_bases_here"] (defScope (topS 24)) := ⟨rfl, rfl, rfl, by decide +kernel, rfl, by decide +kernel, by decide +kernel⟩
theorem ok__law_is (D : DefAt K mg "_law_is" (topS 24)) (m : Mg mg) (c__law_kinds : Cal P w K mg base 1 "_law_kinds" (spKinds K row) []) (c__law_bases : Cal P w K mg base 1 "_law_bases" (spKinds K brow) []) : Cal P w K mg base 2 "_law_is" (spIs K) [] := by
  have sc := sc__law_is
  refine mkCal D (fun _ _ _ _ _ _ us hl => match us, hl with | [_, _, _], _ => rfl) sc (fun vs H Q E h => ?_) (fun f cdv A outer s H vs Q E hr h => ?_)
  · obtain ⟨a, j, rfl, _⟩ := h
    rfl
  · obtain ⟨a, j, rfl, hj, hx, q⟩ := h
    refine ⟨_, (pss_cons (ps_if (pt_cmpR (op_neD hr.units) (pe_c c__law_kinds hr (by decide) (by rfl) (pa_cons (pv 0) pa_nil)) (pe_lc (own := [("_law_k", 3)]) (g := gName 3) (tt := tYes) rfl sc.nd (pi_range1 (by rfl) m.range (pa_cons pe_int pa_nil)) (blkOk_by (N := ["_law_e", "_law_number", "_law_bases_here", "_law_k", "_law_sign"]) (sc := defScope (topS 24)) (by decide +kernel)) (fun _ _ _ _ _ => (pg_name (i := 3) sc.nd rfl (.inl rfl))) (fun _ _ _ _ _ => pts_nil) (fun _ _ _ _ _ => (pe_cmpR op_eq (pv 3) (pv 1) (nomark _)))) (nomark _))
  (pss_one (ps_ret pe_bl))
  pss_nil)
  (pss_one (ps_ret (pe_cmpR (op_eqD hr.units) (pe_c c__law_bases hr (by decide) (by rfl) (pa_cons (pv 0) pa_nil)) (pe_lc (own := [("_law_sign", 4)]) (g := gName 4) (tt := tYes) rfl sc.nd (pi_str (pv 2)) (blkOk_by (N := ["_law_e", "_law_number", "_law_bases_here", "_law_k", "_law_sign"]) (sc := defScope (topS 24)) (by decide +kernel)) (fun _ _ _ _ _ => (pg_name (i := 4) sc.nd rfl (.inl rfl))) (fun _ _ _ _ _ => pts_nil) (fun _ _ _ _ _ => (pe_cmpR op_eq (pv 4) pe_str (nomark _)))) (nomark _))))), ?_⟩
    have sh : ∀ j < 15, SeqAt.shaped (.list ((row j).map PyData.bool)) = true ∧ SeqAt.shaped (.list ((brow j).map PyData.bool)) = true ∧ (bz j).length ≤ 1000 := by decide +kernel
    refine ifNo (Say.tTest (IsD.neS (d := .list ((row j).map PyData.bool)) (IsD.bls fun Q q => ⟨_, rfl, a, j, rfl, hj, hx, q⟩) (fun H1 s1 => IsD.bls ?_) (sh j hj).1 (plain_bools _))) fun H1 s1 => ?_
    · refine BlsL.range (lo := 0) (n := 15) (f := fun k => decide (k = j)) (fun R r => ⟨15, rfl, by decide, by decide, r⟩) (by decide) (fun _ => rfl) fun k H' hk s2 => ?_
      refine Say.of (say_eqI (giv_var rfl) (giv_var rfl)) ?_
      rw [Bool.eq_iff_iff, decide_eq_true_iff, decide_eq_true_iff]
      omega
    refine IsD.eqS (d := .list ((brow j).map PyData.bool)) (IsD.bls fun Q q => ⟨_, rfl, a, j, rfl, hj, hx.same s1, q⟩) (fun H2 s2 => IsD.bls ?_) (sh j hj).2.1 (plain_bools _) _ fun H3 s3 => q H3 (s1.trans s3)
    exact BlsL.str (giv_var rfl) (sh j hj).2.2 (fun _ => rfl) fun c H' s3 Q q => ⟨_, rfl, rfl, q _ (Same.refl _)⟩
end
end Gj

set_option maxHeartbeats 4000000
namespace Gj
open PySem PySem.Spec PyProof.Rows L2
open C8 (Cal pe_c pe_gc)
theorem fun_of_funD {K : PySem.W.Frag} {x q : Str} {st : Stmt} {f : Addr} {fd : FuncData} (F : FunD K x q (defArgs st) (defBody st) (defScope st) [] [] f fd) : Fun K x q st f fd := by
  obtain ⟨oc, od, dV, kV, doc, pm, an, cdv, ct, osl, rfl, lk, hcd, hD, hK⟩ := F.ex
  rcases hD with ⟨_, rfl⟩ | ⟨e, _⟩
  · exact ⟨⟨oc, od, kV, doc, pm, an, cdv, ct, osl, rfl, lk, hcd⟩, F.kp⟩
  · exact absurd rfl e
section
variable {P : Program} {w : World} {K : PySem.W.Frag} {mg : Str → Option Value} {base : Heap}
theorem sc_NoMap : FnScope ["self", "what", "who"] ["self", "what", "who"] (defScope (inClass (topS 2) 0)) := ⟨rfl, rfl, rfl, by decide +kernel, rfl, by decide +kernel, by decide +kernel⟩
theorem xq_NoMap {fd : FuncData} (F : FunD K "__init__" "NoMap.__init__" (defArgs (inClass (topS 2) 0)) (defBody (inClass (topS 2) 0)) (defScope (inClass (topS 2) 0)) [] [] (He.fAd K ("NoMap", some "__init__")) fd) (h : exkB K (He.ga K "NoMap") [.type "ValueError", .type "Exception", .type "BaseException", .type "object"] "ValueError.__new__" ["what", "who"] = true) (g : mg "NoMap" = some (.ref (He.ga K "NoMap"))) : (Exq P w K mg base "NoMap" (He.ga K "NoMap") [.type "ValueError", .type "Exception", .type "BaseException", .type "object"] "ValueError" "ValueError.__new__" "ValueError.__init__" [.type "ValueError", .type "Exception", .type "BaseException", .type "object"] ["what", "who"] ["what", "who"] false) := by
  obtain ⟨T, no, i1, i2⟩ := exkB_ok h
  have sc := sc_NoMap
  refine ⟨T, ⟨by decide +kernel, by decide +kernel, by decide +kernel⟩, PySem.F.excBase_ValueError, g, by decide, rfl, no, _, fd, ["self", "what", "who"], i1, i2, ?_, ?_, ?_⟩
  · exact ok_init2 (fun_of_funD F) PySem.F.store_ValueError T (no _ (by simp)) (no _ (by simp)) sc fun cdv A outer s H E => (pss_cons (ps_xst PySem.F.store_ValueError (pv 0) (pv 1)) (pss_one (ps_xst PySem.F.store_ValueError (pv 0) (pv 2))))
  · exact fun s us _ hl => by
      have b := FunD.bindsA (ps := ["self", "what", "who"]) F (fun _ _ _ _ _ _ us hl => match us, hl with | [_, _, _], _ => rfl) s us (by simpa using hl)
      rw [List.append_nil]
      exact b
  · exact fun s a ws hl _ => bind_kw (ps := ["self", "what", "who"]) (ks := ["what", "who"]) (sw := false) F (fun _ _ _ _ _ _ a ws hl => match ws, hl with | [_, _], _ => rfl) s a ws hl
theorem sc_NoTurn : FnScope ["self", "host", "walker"] ["self", "host", "walker"] (defScope (inClass (topS 3) 0)) := ⟨rfl, rfl, rfl, by decide +kernel, rfl, by decide +kernel, by decide +kernel⟩
theorem xq_NoTurn {fd : FuncData} (F : FunD K "__init__" "NoTurn.__init__" (defArgs (inClass (topS 3) 0)) (defBody (inClass (topS 3) 0)) (defScope (inClass (topS 3) 0)) [] [] (He.fAd K ("NoTurn", some "__init__")) fd) (h : exkB K (He.ga K "NoTurn") [.type "ValueError", .type "Exception", .type "BaseException", .type "object"] "ValueError.__new__" ["host", "walker"] = true) (g : mg "NoTurn" = some (.ref (He.ga K "NoTurn"))) : (Exq P w K mg base "NoTurn" (He.ga K "NoTurn") [.type "ValueError", .type "Exception", .type "BaseException", .type "object"] "ValueError" "ValueError.__new__" "ValueError.__init__" [.type "ValueError", .type "Exception", .type "BaseException", .type "object"] ["host", "walker"] ["walker", "host"] true) := by
  obtain ⟨T, no, i1, i2⟩ := exkB_ok h
  have sc := sc_NoTurn
  refine ⟨T, ⟨by decide +kernel, by decide +kernel, by decide +kernel⟩, PySem.F.excBase_ValueError, g, by decide, rfl, no, _, fd, ["self", "host", "walker"], i1, i2, ?_, ?_, ?_⟩
  · exact ok_init2 (fun_of_funD F) PySem.F.store_ValueError T (no _ (by simp)) (no _ (by simp)) sc fun cdv A outer s H E => (pss_cons (ps_xst PySem.F.store_ValueError (pv 0) (pv 1)) (pss_one (ps_xst PySem.F.store_ValueError (pv 0) (pv 2))))
  · exact fun s us _ hl => by
      have b := FunD.bindsA (ps := ["self", "host", "walker"]) F (fun _ _ _ _ _ _ us hl => match us, hl with | [_, _, _], _ => rfl) s us (by simpa using hl)
      rw [List.append_nil]
      exact b
  · exact fun s a ws hl _ => bind_kw (ps := ["self", "host", "walker"]) (ks := ["walker", "host"]) (sw := true) F (fun _ _ _ _ _ _ a ws hl => match ws, hl with | [_, _], _ => rfl) s a ws hl
theorem sc_NoPlan : FnScope ["self", "who"] ["self", "who"] (defScope (inClass (topS 4) 0)) := ⟨rfl, rfl, rfl, by decide +kernel, rfl, by decide +kernel, by decide +kernel⟩
theorem xq_NoPlan {fd : FuncData} (F : FunD K "__init__" "NoPlan.__init__" (defArgs (inClass (topS 4) 0)) (defBody (inClass (topS 4) 0)) (defScope (inClass (topS 4) 0)) [] [] (He.fAd K ("NoPlan", some "__init__")) fd) (h : exkB K (He.ga K "NoPlan") [.type "ValueError", .type "Exception", .type "BaseException", .type "object"] "ValueError.__new__" ["who"] = true) (g : mg "NoPlan" = some (.ref (He.ga K "NoPlan"))) : (Exq P w K mg base "NoPlan" (He.ga K "NoPlan") [.type "ValueError", .type "Exception", .type "BaseException", .type "object"] "ValueError" "ValueError.__new__" "ValueError.__init__" [.type "ValueError", .type "Exception", .type "BaseException", .type "object"] ["who"] ["who"] false) := by
  obtain ⟨T, no, i1, i2⟩ := exkB_ok h
  have sc := sc_NoPlan
  refine ⟨T, ⟨by decide +kernel, by decide +kernel, by decide +kernel⟩, PySem.F.excBase_ValueError, g, by decide, rfl, no, _, fd, ["self", "who"], i1, i2, ?_, ?_, ?_⟩
  · exact ok_init1 (fun_of_funD F) PySem.F.store_ValueError T (no _ (by simp)) sc fun cdv A outer s H E => (pss_one (ps_xst PySem.F.store_ValueError (pv 0) (pv 1)))
  · exact fun s us _ hl => by
      have b := FunD.bindsA (ps := ["self", "who"]) F (fun _ _ _ _ _ _ us hl => match us, hl with | [_, _], _ => rfl) s us (by simpa using hl)
      rw [List.append_nil]
      exact b
  · exact fun s a ws hl _ => bind_kw (ps := ["self", "who"]) (ks := ["who"]) (sw := false) F (fun _ _ _ _ _ _ a ws hl => match ws, hl with | [_], _ => rfl) s a ws hl
theorem sc_NoText : FnScope ["self", "row"] ["self", "row"] (defScope (inClass (topS 5) 0)) := ⟨rfl, rfl, rfl, by decide +kernel, rfl, by decide +kernel, by decide +kernel⟩
theorem xq_NoText {fd : FuncData} (F : FunD K "__init__" "NoText.__init__" (defArgs (inClass (topS 5) 0)) (defBody (inClass (topS 5) 0)) (defScope (inClass (topS 5) 0)) [] [] (He.fAd K ("NoText", some "__init__")) fd) (h : exkB K (He.ga K "NoText") [.type "ValueError", .type "Exception", .type "BaseException", .type "object"] "ValueError.__new__" ["row"] = true) (g : mg "NoText" = some (.ref (He.ga K "NoText"))) : (Exq P w K mg base "NoText" (He.ga K "NoText") [.type "ValueError", .type "Exception", .type "BaseException", .type "object"] "ValueError" "ValueError.__new__" "ValueError.__init__" [.type "ValueError", .type "Exception", .type "BaseException", .type "object"] ["row"] ["row"] false) := by
  obtain ⟨T, no, i1, i2⟩ := exkB_ok h
  have sc := sc_NoText
  refine ⟨T, ⟨by decide +kernel, by decide +kernel, by decide +kernel⟩, PySem.F.excBase_ValueError, g, by decide, rfl, no, _, fd, ["self", "row"], i1, i2, ?_, ?_, ?_⟩
  · exact ok_init1 (fun_of_funD F) PySem.F.store_ValueError T (no _ (by simp)) sc fun cdv A outer s H E => (pss_one (ps_xst PySem.F.store_ValueError (pv 0) (pv 1)))
  · exact fun s us _ hl => by
      have b := FunD.bindsA (ps := ["self", "row"]) F (fun _ _ _ _ _ _ us hl => match us, hl with | [_, _], _ => rfl) s us (by simpa using hl)
      rw [List.append_nil]
      exact b
  · exact fun s a ws hl _ => bind_kw (ps := ["self", "row"]) (ks := ["row"]) (sw := false) F (fun _ _ _ _ _ _ a ws hl => match ws, hl with | [_], _ => rfl) s a ws hl
theorem sc_NoSuch : FnScope ["self", "who"] ["self", "who"] (defScope (inClass (topS 9) 0)) := ⟨rfl, rfl, rfl, by decide +kernel, rfl, by decide +kernel, by decide +kernel⟩
theorem xq_NoSuch {fd : FuncData} (F : FunD K "__init__" "NoSuch.__init__" (defArgs (inClass (topS 9) 0)) (defBody (inClass (topS 9) 0)) (defScope (inClass (topS 9) 0)) [] [] (He.fAd K ("NoSuch", some "__init__")) fd) (h : exkB K (He.ga K "NoSuch") [.type "LookupError", .type "Exception", .type "BaseException", .type "object"] "LookupError.__new__" ["who"] = true) (g : mg "NoSuch" = some (.ref (He.ga K "NoSuch"))) : (Exq P w K mg base "NoSuch" (He.ga K "NoSuch") [.type "LookupError", .type "Exception", .type "BaseException", .type "object"] "LookupError" "LookupError.__new__" "LookupError.__init__" [.type "LookupError", .type "Exception", .type "BaseException", .type "object"] ["who"] ["who"] false) := by
  obtain ⟨T, no, i1, i2⟩ := exkB_ok h
  have sc := sc_NoSuch
  refine ⟨T, ⟨by decide +kernel, by decide +kernel, by decide +kernel⟩, PySem.F.excBase_LookupError, g, by decide, rfl, no, _, fd, ["self", "who"], i1, i2, ?_, ?_, ?_⟩
  · exact ok_init1 (fun_of_funD F) PySem.F.store_LookupError T (no _ (by simp)) sc fun cdv A outer s H E => (pss_one (ps_xst PySem.F.store_LookupError (pv 0) (pv 1)))
  · exact fun s us _ hl => by
      have b := FunD.bindsA (ps := ["self", "who"]) F (fun _ _ _ _ _ _ us hl => match us, hl with | [_, _], _ => rfl) s us (by simpa using hl)
      rw [List.append_nil]
      exact b
  · exact fun s a ws hl _ => bind_kw (ps := ["self", "who"]) (ks := ["who"]) (sw := false) F (fun _ _ _ _ _ _ a ws hl => match ws, hl with | [_], _ => rfl) s a ws hl
theorem sc_Still : FnScope ["self", "source", "goal"] ["self", "source", "goal"] (defScope (inClass (topS 10) 0)) := ⟨rfl, rfl, rfl, by decide +kernel, rfl, by decide +kernel, by decide +kernel⟩
theorem xq_Still {fd : FuncData} (F : FunD K "__init__" "Still.__init__" (defArgs (inClass (topS 10) 0)) (defBody (inClass (topS 10) 0)) (defScope (inClass (topS 10) 0)) [] [] (He.fAd K ("Still", some "__init__")) fd) (h : exkB K (He.ga K "Still") [.type "IndexError", .type "LookupError", .type "Exception", .type "BaseException", .type "object"] "IndexError.__new__" ["source", "goal"] = true) (g : mg "Still" = some (.ref (He.ga K "Still"))) : (Exq P w K mg base "Still" (He.ga K "Still") [.type "IndexError", .type "LookupError", .type "Exception", .type "BaseException", .type "object"] "IndexError" "IndexError.__new__" "IndexError.__init__" [.type "IndexError", .type "LookupError", .type "Exception", .type "BaseException", .type "object"] ["source", "goal"] ["goal", "source"] true) := by
  obtain ⟨T, no, i1, i2⟩ := exkB_ok h
  have sc := sc_Still
  refine ⟨T, ⟨by decide +kernel, by decide +kernel, by decide +kernel⟩, PySem.F.excBase_IndexError, g, by decide, rfl, no, _, fd, ["self", "source", "goal"], i1, i2, ?_, ?_, ?_⟩
  · exact ok_init2 (fun_of_funD F) PySem.F.store_IndexError T (no _ (by simp)) (no _ (by simp)) sc fun cdv A outer s H E => (pss_cons (ps_xst PySem.F.store_IndexError (pv 0) (pv 1)) (pss_one (ps_xst PySem.F.store_IndexError (pv 0) (pv 2))))
  · exact fun s us _ hl => by
      have b := FunD.bindsA (ps := ["self", "source", "goal"]) F (fun _ _ _ _ _ _ us hl => match us, hl with | [_, _, _], _ => rfl) s us (by simpa using hl)
      rw [List.append_nil]
      exact b
  · exact fun s a ws hl _ => bind_kw (ps := ["self", "source", "goal"]) (ks := ["goal", "source"]) (sw := true) F (fun _ _ _ _ _ _ a ws hl => match ws, hl with | [_, _], _ => rfl) s a ws hl
theorem sc_NoBar : FnScope ["self", "what", "mark"] ["self", "what", "mark"] (defScope (inClass (topS 11) 0)) := ⟨rfl, rfl, rfl, by decide +kernel, rfl, by decide +kernel, by decide +kernel⟩
theorem xq_NoBar {fd : FuncData} (F : FunD K "__init__" "NoBar.__init__" (defArgs (inClass (topS 11) 0)) (defBody (inClass (topS 11) 0)) (defScope (inClass (topS 11) 0)) [] [] (He.fAd K ("NoBar", some "__init__")) fd) (h : exkB K (He.ga K "NoBar") [.type "KeyError", .type "LookupError", .type "Exception", .type "BaseException", .type "object"] "LookupError.__new__" ["what", "mark"] = true) (g : mg "NoBar" = some (.ref (He.ga K "NoBar"))) : (Exq P w K mg base "NoBar" (He.ga K "NoBar") [.type "KeyError", .type "LookupError", .type "Exception", .type "BaseException", .type "object"] "LookupError" "LookupError.__new__" "LookupError.__init__" [.type "LookupError", .type "Exception", .type "BaseException", .type "object"] ["what", "mark"] ["mark", "what"] true) := by
  obtain ⟨T, no, i1, i2⟩ := exkB_ok h
  have sc := sc_NoBar
  refine ⟨T, ⟨by decide +kernel, by decide +kernel, by decide +kernel⟩, PySem.F.excBase_LookupError, g, by decide, rfl, no, _, fd, ["self", "what", "mark"], i1, i2, ?_, ?_, ?_⟩
  · exact ok_init2 (fun_of_funD F) key_store T (no _ (by simp)) (no _ (by simp)) sc fun cdv A outer s H E => (pss_cons (ps_xst key_store (pv 0) (pv 1)) (pss_one (ps_xst key_store (pv 0) (pv 2))))
  · exact fun s us _ hl => by
      have b := FunD.bindsA (ps := ["self", "what", "mark"]) F (fun _ _ _ _ _ _ us hl => match us, hl with | [_, _, _], _ => rfl) s us (by simpa using hl)
      rw [List.append_nil]
      exact b
  · exact fun s a ws hl _ => bind_kw (ps := ["self", "what", "mark"]) (ks := ["mark", "what"]) (sw := true) F (fun _ _ _ _ _ _ a ws hl => match ws, hl with | [_, _], _ => rfl) s a ws hl
theorem sc_Away : FnScope ["self", "who"] ["self", "who"] (defScope (inClass (topS 12) 0)) := ⟨rfl, rfl, rfl, by decide +kernel, rfl, by decide +kernel, by decide +kernel⟩
theorem xq_Away {fd : FuncData} (F : FunD K "__init__" "Away.__init__" (defArgs (inClass (topS 12) 0)) (defBody (inClass (topS 12) 0)) (defScope (inClass (topS 12) 0)) [] [] (He.fAd K ("Away", some "__init__")) fd) (h : exkB K (He.ga K "Away") [.type "RuntimeError", .type "Exception", .type "BaseException", .type "object"] "RuntimeError.__new__" ["who"] = true) (g : mg "Away" = some (.ref (He.ga K "Away"))) : (Exq P w K mg base "Away" (He.ga K "Away") [.type "RuntimeError", .type "Exception", .type "BaseException", .type "object"] "RuntimeError" "RuntimeError.__new__" "RuntimeError.__init__" [.type "RuntimeError", .type "Exception", .type "BaseException", .type "object"] ["who"] ["who"] false) := by
  obtain ⟨T, no, i1, i2⟩ := exkB_ok h
  have sc := sc_Away
  refine ⟨T, ⟨by decide +kernel, by decide +kernel, by decide +kernel⟩, PySem.F.excBase_RuntimeError, g, by decide, rfl, no, _, fd, ["self", "who"], i1, i2, ?_, ?_, ?_⟩
  · exact ok_init1 (fun_of_funD F) PySem.F.store_RuntimeError T (no _ (by simp)) sc fun cdv A outer s H E => (pss_one (ps_xst PySem.F.store_RuntimeError (pv 0) (pv 1)))
  · exact fun s us _ hl => by
      have b := FunD.bindsA (ps := ["self", "who"]) F (fun _ _ _ _ _ _ us hl => match us, hl with | [_, _], _ => rfl) s us (by simpa using hl)
      rw [List.append_nil]
      exact b
  · exact fun s a ws hl _ => bind_kw (ps := ["self", "who"]) (ks := ["who"]) (sw := false) F (fun _ _ _ _ _ _ a ws hl => match ws, hl with | [_], _ => rfl) s a ws hl
theorem sc_Here : FnScope ["self", "host", "walker"] ["self", "host", "walker"] (defScope (inClass (topS 13) 0)) := ⟨rfl, rfl, rfl, by decide +kernel, rfl, by decide +kernel, by decide +kernel⟩
theorem xq_Here {fd : FuncData} (F : FunD K "__init__" "Here.__init__" (defArgs (inClass (topS 13) 0)) (defBody (inClass (topS 13) 0)) (defScope (inClass (topS 13) 0)) [] [] (He.fAd K ("Here", some "__init__")) fd) (h : exkB K (He.ga K "Here") [.type "RuntimeError", .type "Exception", .type "BaseException", .type "object"] "RuntimeError.__new__" ["host", "walker"] = true) (g : mg "Here" = some (.ref (He.ga K "Here"))) : (Exq P w K mg base "Here" (He.ga K "Here") [.type "RuntimeError", .type "Exception", .type "BaseException", .type "object"] "RuntimeError" "RuntimeError.__new__" "RuntimeError.__init__" [.type "RuntimeError", .type "Exception", .type "BaseException", .type "object"] ["host", "walker"] ["host", "walker"] false) := by
  obtain ⟨T, no, i1, i2⟩ := exkB_ok h
  have sc := sc_Here
  refine ⟨T, ⟨by decide +kernel, by decide +kernel, by decide +kernel⟩, PySem.F.excBase_RuntimeError, g, by decide, rfl, no, _, fd, ["self", "host", "walker"], i1, i2, ?_, ?_, ?_⟩
  · exact ok_init2 (fun_of_funD F) PySem.F.store_RuntimeError T (no _ (by simp)) (no _ (by simp)) sc fun cdv A outer s H E => (pss_cons (ps_xst PySem.F.store_RuntimeError (pv 0) (pv 1)) (pss_one (ps_xst PySem.F.store_RuntimeError (pv 0) (pv 2))))
  · exact fun s us _ hl => by
      have b := FunD.bindsA (ps := ["self", "host", "walker"]) F (fun _ _ _ _ _ _ us hl => match us, hl with | [_, _, _], _ => rfl) s us (by simpa using hl)
      rw [List.append_nil]
      exact b
  · exact fun s a ws hl _ => bind_kw (ps := ["self", "host", "walker"]) (ks := ["host", "walker"]) (sw := false) F (fun _ _ _ _ _ _ a ws hl => match ws, hl with | [_, _], _ => rfl) s a ws hl
theorem sc_NoNews : FnScope ["self", "host", "walker"] ["self", "host", "walker"] (defScope (inClass (topS 14) 0)) := ⟨rfl, rfl, rfl, by decide +kernel, rfl, by decide +kernel, by decide +kernel⟩
theorem xq_NoNews {fd : FuncData} (F : FunD K "__init__" "NoNews.__init__" (defArgs (inClass (topS 14) 0)) (defBody (inClass (topS 14) 0)) (defScope (inClass (topS 14) 0)) [] [] (He.fAd K ("NoNews", some "__init__")) fd) (h : exkB K (He.ga K "NoNews") [.type "RuntimeError", .type "Exception", .type "BaseException", .type "object"] "RuntimeError.__new__" ["host", "walker"] = true) (g : mg "NoNews" = some (.ref (He.ga K "NoNews"))) : (Exq P w K mg base "NoNews" (He.ga K "NoNews") [.type "RuntimeError", .type "Exception", .type "BaseException", .type "object"] "RuntimeError" "RuntimeError.__new__" "RuntimeError.__init__" [.type "RuntimeError", .type "Exception", .type "BaseException", .type "object"] ["host", "walker"] ["walker", "host"] true) := by
  obtain ⟨T, no, i1, i2⟩ := exkB_ok h
  have sc := sc_NoNews
  refine ⟨T, ⟨by decide +kernel, by decide +kernel, by decide +kernel⟩, PySem.F.excBase_RuntimeError, g, by decide, rfl, no, _, fd, ["self", "host", "walker"], i1, i2, ?_, ?_, ?_⟩
  · exact ok_init2 (fun_of_funD F) PySem.F.store_RuntimeError T (no _ (by simp)) (no _ (by simp)) sc fun cdv A outer s H E => (pss_cons (ps_xst PySem.F.store_RuntimeError (pv 0) (pv 1)) (pss_one (ps_xst PySem.F.store_RuntimeError (pv 0) (pv 2))))
  · exact fun s us _ hl => by
      have b := FunD.bindsA (ps := ["self", "host", "walker"]) F (fun _ _ _ _ _ _ us hl => match us, hl with | [_, _, _], _ => rfl) s us (by simpa using hl)
      rw [List.append_nil]
      exact b
  · exact fun s a ws hl _ => bind_kw (ps := ["self", "host", "walker"]) (ks := ["walker", "host"]) (sw := true) F (fun _ _ _ _ _ _ a ws hl => match ws, hl with | [_, _], _ => rfl) s a ws hl
theorem sc_Begun : FnScope ["self", "host", "walker"] ["self", "host", "walker"] (defScope (inClass (topS 15) 0)) := ⟨rfl, rfl, rfl, by decide +kernel, rfl, by decide +kernel, by decide +kernel⟩
theorem xq_Begun {fd : FuncData} (F : FunD K "__init__" "Begun.__init__" (defArgs (inClass (topS 15) 0)) (defBody (inClass (topS 15) 0)) (defScope (inClass (topS 15) 0)) [] [] (He.fAd K ("Begun", some "__init__")) fd) (h : exkB K (He.ga K "Begun") [.type "RuntimeError", .type "Exception", .type "BaseException", .type "object"] "RuntimeError.__new__" ["host", "walker"] = true) (g : mg "Begun" = some (.ref (He.ga K "Begun"))) : (Exq P w K mg base "Begun" (He.ga K "Begun") [.type "RuntimeError", .type "Exception", .type "BaseException", .type "object"] "RuntimeError" "RuntimeError.__new__" "RuntimeError.__init__" [.type "RuntimeError", .type "Exception", .type "BaseException", .type "object"] ["host", "walker"] ["walker", "host"] true) := by
  obtain ⟨T, no, i1, i2⟩ := exkB_ok h
  have sc := sc_Begun
  refine ⟨T, ⟨by decide +kernel, by decide +kernel, by decide +kernel⟩, PySem.F.excBase_RuntimeError, g, by decide, rfl, no, _, fd, ["self", "host", "walker"], i1, i2, ?_, ?_, ?_⟩
  · exact ok_init2 (fun_of_funD F) PySem.F.store_RuntimeError T (no _ (by simp)) (no _ (by simp)) sc fun cdv A outer s H E => (pss_cons (ps_xst PySem.F.store_RuntimeError (pv 0) (pv 1)) (pss_one (ps_xst PySem.F.store_RuntimeError (pv 0) (pv 2))))
  · exact fun s us _ hl => by
      have b := FunD.bindsA (ps := ["self", "host", "walker"]) F (fun _ _ _ _ _ _ us hl => match us, hl with | [_, _, _], _ => rfl) s us (by simpa using hl)
      rw [List.append_nil]
      exact b
  · exact fun s a ws hl _ => bind_kw (ps := ["self", "host", "walker"]) (ks := ["walker", "host"]) (sw := true) F (fun _ _ _ _ _ _ a ws hl => match ws, hl with | [_, _], _ => rfl) s a ws hl
theorem sc_TooMany : FnScope ["self", "limit"] ["self", "limit"] (defScope (inClass (topS 16) 0)) := ⟨rfl, rfl, rfl, by decide +kernel, rfl, by decide +kernel, by decide +kernel⟩
theorem xq_TooMany {fd : FuncData} (F : FunD K "__init__" "TooMany.__init__" (defArgs (inClass (topS 16) 0)) (defBody (inClass (topS 16) 0)) (defScope (inClass (topS 16) 0)) [] [] (He.fAd K ("TooMany", some "__init__")) fd) (h : exkB K (He.ga K "TooMany") [.type "ArithmeticError", .type "Exception", .type "BaseException", .type "object"] "ArithmeticError.__new__" ["limit"] = true) (g : mg "TooMany" = some (.ref (He.ga K "TooMany"))) : (Exq P w K mg base "TooMany" (He.ga K "TooMany") [.type "ArithmeticError", .type "Exception", .type "BaseException", .type "object"] "ArithmeticError" "ArithmeticError.__new__" "ArithmeticError.__init__" [.type "ArithmeticError", .type "Exception", .type "BaseException", .type "object"] ["limit"] ["limit"] false) := by
  obtain ⟨T, no, i1, i2⟩ := exkB_ok h
  have sc := sc_TooMany
  refine ⟨T, ⟨by decide +kernel, by decide +kernel, by decide +kernel⟩, PySem.F.excBase_ArithmeticError, g, by decide, rfl, no, _, fd, ["self", "limit"], i1, i2, ?_, ?_, ?_⟩
  · exact ok_init1 (fun_of_funD F) PySem.F.store_ArithmeticError T (no _ (by simp)) sc fun cdv A outer s H E => (pss_one (ps_xst PySem.F.store_ArithmeticError (pv 0) (pv 1)))
  · exact fun s us _ hl => by
      have b := FunD.bindsA (ps := ["self", "limit"]) F (fun _ _ _ _ _ _ us hl => match us, hl with | [_, _], _ => rfl) s us (by simpa using hl)
      rw [List.append_nil]
      exact b
  · exact fun s a ws hl _ => bind_kw (ps := ["self", "limit"]) (ks := ["limit"]) (sw := false) F (fun _ _ _ _ _ _ a ws hl => match ws, hl with | [_], _ => rfl) s a ws hl
end
end Gj

set_option maxHeartbeats 4000000
namespace Gj
open PySem PySem.Spec PyProof.Rows L2
open C8 (Cal pe_c pe_gc)
theorem none_same {H H' : Hp} {l : Addr} (s : Same H H') (n : H' l = none) : H l = none := by
  cases e : H l with
  | none => rfl
  | some o => rw [s _ _ e] at n; cases n
/-- a new list of truths -/
def BlsN (te : TE) (σ : L2.St) (H : Hp) (bs : List Bool) : Prop := ∀ Q : VK, (∀ (H' : Hp) (l : Addr), Same H H' → H l = none → H' l = some (.lst (bs.map V.bl)) → Q (.ref l) H') → te σ H Q
theorem BlsN.range {σ : L2.St} {H : Hp} {te : TE} {i : Nat} {vs : List Nat} {n : Nat} {f : Nat → Bool} {lo : Int} {wi : TI} (hi : ∀ R : It → Hp → Prop, R (Itr lo n) H → wi σ H R) (hn : n ≤ 1000) (hw : ∀ v, wipe ((wipe σ vs).set i (some v)) vs = wipe σ vs) (hs : ∀ (k : Nat) (H' : Hp), k < n → Same H H' → Say te ((wipe σ vs).set i (some (.int (lo + k)))) H' (f k)) :
    BlsN (tLc wi (gName i) tYes te vs) σ H ((List.range n).map f) := fun Q q => hi _ fun D hD => by
  refine lc_it walk_range (Pv := fun j H' => Same H H' ∧ H' D = some (.lst (((List.range j).map f).map V.bl))) ⟨same_new hD, upd_same⟩ (fun _ _ _ _ => trivial) (fun j x H1 H2 hj hp hy => ?_) (fun H1 hp => ?_)
  · obtain ⟨rfl, rfl⟩ := hy
    obtain ⟨sm, eD⟩ := hp
    refine ⟨hw _, ?_⟩
    refine hs j _ hj sm _ fun H3 s3 => ⟨_, s3 _ _ eD, ?_, fun b o e => ?_, ?_⟩
    · rw [List.length_map, List.length_map, List.length_range]
      exact small1000 (by omega)
    · rw [upd_ne (ne_of_none e hD)]
      exact s3 _ _ (sm b o e)
    · rw [upd_same, List.range_succ, List.map_append, List.map_append]
      rfl
  · obtain ⟨sm, eD⟩ := hp
    exact q H1 D sm hD eD
theorem dp_rows {K : PySem.W.Frag} {H : Hp} {f : Nat → List Bool} : ∀ {ls : List Addr} {m : Nat}, (∀ i l, ls[i]? = some l → H l = some (.lst ((f (m + i)).map V.bl))) → DpAll K H (ls.map V.ref) ((List.range ls.length).map fun i => PyData.list ((f (m + i)).map PyData.bool))
  | [], _, _ => .nil
  | l :: ls, m, h => by
    rw [List.length_cons, List.range_succ_eq_map, List.map_cons, List.map_cons, List.map_map]
    refine .cons (dp_bools (h 0 l rfl)) ?_
    have := dp_rows (K := K) (H := H) (f := f) (ls := ls) (m := m + 1) fun i x e => by rw [show m + 1 + i = m + (i + 1) by omega]; exact h (i + 1) x e
    have e2 : (fun i => PyData.list ((f (m + 1 + i)).map PyData.bool)) = ((fun i => PyData.list ((f (m + i)).map PyData.bool)) ∘ Nat.succ) := by
      funext i
      show _ = PyData.list ((f (m + (i + 1))).map PyData.bool)
      rw [show m + 1 + i = m + (i + 1) by omega]
    rw [e2] at this
    exact this
/-- a comprehension of new lists of truths -/
theorem IsD.rows {K : PySem.W.Frag} {σ : L2.St} {H : Hp} {te : TE} {i : Nat} {vs : List Nat} {n : Nat} {f : Nat → List Bool} {lo : Int} {wi : TI} (hi : ∀ R : It → Hp → Prop, R (Itr lo n) H → wi σ H R) (hn : n ≤ 1000) (hw : ∀ v, wipe ((wipe σ vs).set i (some v)) vs = wipe σ vs) (hs : ∀ (k : Nat) (H' : Hp), k < n → Same H H' → BlsN te ((wipe σ vs).set i (some (.int (lo + k)))) H' (f k)) :
    IsD K (tLc wi (gName i) tYes te vs) σ H (.list ((List.range n).map fun k => .list ((f k).map PyData.bool))) := fun Q q => hi _ fun D hD => by
  refine lc_it walk_range (Pv := fun j H' => Same H H' ∧ ∃ ls : List Addr, H' D = some (.lst (ls.map V.ref)) ∧ ls.length = j ∧ ∀ i l, ls[i]? = some l → l ≠ D ∧ H' l = some (.lst ((f i).map V.bl))) ⟨same_new hD, [], upd_same, rfl, fun i l e => by simp at e⟩ (fun _ _ _ _ => trivial) (fun j x H1 H2 hj hp hy => ?_) (fun H1 hp => ?_)
  · obtain ⟨rfl, rfl⟩ := hy
    obtain ⟨sm, ls, eD, hl, ha⟩ := hp
    refine ⟨hw _, ?_⟩
    refine hs j _ hj sm _ fun H3 l s3 nl el => ⟨_, s3 _ _ eD, ?_, fun b o e => ?_, ls ++ [l], ?_, ?_, fun i x e => ?_⟩
    · rw [List.length_map]
      exact small1000 (by omega)
    · rw [upd_ne (ne_of_none e hD)]
      exact s3 _ _ (sm b o e)
    · rw [upd_same, List.map_append]
      rfl
    · rw [List.length_append, hl]
      rfl
    · have lD : l ≠ D := fun z => by rw [z, eD] at nl; cases nl
      by_cases h : i < ls.length
      · rw [List.getElem?_append_left h] at e
        obtain ⟨h1, h2⟩ := ha i x e
        exact ⟨h1, by rw [upd_ne h1]; exact s3 _ _ h2⟩
      · rw [List.getElem?_append_right (by omega)] at e
        have hi : i - ls.length = 0 := by
          have := (List.getElem?_eq_some_iff.mp e).1
          simp at this
          omega
        rw [hi] at e
        have e : l = x := Option.some.inj e
        subst e
        have : i = j := by omega
        subst this
        exact ⟨lD, by rw [upd_ne lD]; exact el⟩
  · obtain ⟨sm, ls, eD, hl, ha⟩ := hp
    refine q H1 _ sm (.lst (SqL.of eD) ?_)
    have := dp_rows (K := K) (H := H1) (f := f) (ls := ls) (m := 0) fun i l e => by rw [Nat.zero_add]; exact (ha i l e).2
    rw [hl] at this
    simpa using this
theorem takes0 {X : Cx} : Takes X (fun _ _ _ _ => False) := fun u s' ⟨a, B, sI, pins, σ, H, c, d, e, I, nb, up, sky, na, os, ag, w⟩ => w.elim
/-- an exception is made -/
def MkX (te : TE) (σ : L2.St) (H : Hp) (D : Addr) : Prop := ∀ Q : VK, (∀ (H' : Hp) (a : Addr), Same H H' → Exv H' a D → Q (.ref a) H') → te σ H Q
/-- .. with these fields -/
def MkF (te : TE) (σ : L2.St) (H : Hp) (D : Addr) (fs : List (Str × V)) : Prop := ∀ Q : VK, (∀ (H' : Hp) (a d : Addr), Same H H' → H' a = some (exo a D (some d)) → H' d = some (exd d fs) → Q (.ref a) H') → te σ H Q
def Fv (H : Hp) (a D : Addr) (fs : List (Str × V)) : Prop := ∃ d, H a = some (exo a D (some d)) ∧ H d = some (exd d fs)
theorem Fv.same {H H' : Hp} {a D : Addr} {fs : List (Str × V)} (h : Fv H a D fs) (s : Same H H') : Fv H' a D fs := by
  obtain ⟨d, h1, h2⟩ := h
  exact ⟨d, s _ _ h1, s _ _ h2⟩
/-- the arguments are values as they are -/
def GivA (ta : TA) (σ : L2.St) (H : Hp) (vs : List V) : Prop := ∀ Q : List V → Hp → Prop, Q vs H → ta σ H Q
/-- .. some of them new -/
def GivN (ta : TA) (σ : L2.St) (H : Hp) (n : Nat) : Prop := ∀ Q : List V → Hp → Prop, (∀ (H' : Hp) (vs : List V), Same H H' → vs.length = n → Q vs H') → ta σ H Q
section
variable {σ : L2.St} {H : Hp} {te : TE} {ta : TA} {v : V} {vs : List V} {n : Nat} {C : Addr} {fs : List Str} {sw : Bool} {K : PySem.W.Frag} {E : XK} {b : Bool}
theorem GivA.nil : GivA tNil σ H [] := fun Q q => q
theorem GivA.cons (h : Giv te σ H v) (ht : GivA ta σ H vs) : GivA (tCons te ta) σ H (v :: vs) := fun Q q => h _ (ht _ q)
theorem GivA.toN (h : GivA ta σ H vs) : GivN ta σ H vs.length := fun Q q => h _ (q H vs (Same.refl H) rfl)
theorem MkX.xv (h : GivN ta σ H fs.length) : MkX (tXv C fs ta) σ H C := fun Q q => h _ fun H1 vs s1 l => ⟨l, fun a d H' na nd ne sm ea ed => q H' a (s1.trans sm) (.inl ⟨d, _, ea, ed⟩)⟩
theorem MkF.xk (h : GivA ta σ H vs) (hl : vs.length = fs.length) : MkF (tXvK C fs sw ta) σ H C (fs.zip (turned sw vs)).reverse := fun Q q => h _ ⟨hl, fun a d H' na nd ne sm ea ed => q H' a d sm ea ed⟩
theorem MkX.one (h : Giv te σ H v) : MkX (fun σ H Q => te σ H fun _ H1 => ∀ a, H1 a = none → Q (.ref a) (upd H1 a (ExO (.ref C) a))) σ H C := fun Q q => h _ fun a na => q _ a (same_new na) (.inr upd_same)
theorem say_is {j : Nat} (h : MkX te σ H (cl K j)) (hj : j < 15) : Say (tCall (spIs K) [] E (tCons te (tCons (tC (.int (j : Nat))) (tCons (tC (.str (bz j))) tNil)))) σ H true := fun Q q => h _ fun H1 a s1 hx => ⟨a, j, rfl, hj, hx, fun H2 s2 => q H2 (s1.trans s2)⟩
end
section
variable {σ : L2.St} {H : Hp} {te tb : TE} {K : PySem.W.Frag} {C C2 a : Addr} {fs gs : List (Str × V)} {f : Str} {v : V} {d : PyData} {D : Ends} {u : TS} {i j : Nat}
theorem parF (h : MkF te σ H C fs) (h2 : ∀ H', Same H H' → MkF tb σ H' C2 gs) (q : ∀ H' a b, Same H H' → Fv H' a C fs → Fv H' b C2 gs → u D ((σ.set i (some (.ref a))).set j (some (.ref b))) H') : tSeq (tPar i j (tCons te (tCons tb tNil))) u D σ H := h _ fun H1 a d s1 ea ed => h2 H1 s1 _ fun H2 b d2 s2 eb ed2 => ⟨_, _, rfl, q H2 a b (s1.trans s2) ⟨d, s2 _ _ ea, s2 _ _ ed⟩ ⟨d2, eb, ed2⟩⟩
theorem setF (h : MkF te σ H C fs) (q : ∀ H' a, Same H H' → Fv H' a C fs → u D (σ.set i (some (.ref a))) H') : tSeq (tAsg te (gName i)) u D σ H := h _ fun H1 a d s1 ea ed => q H1 a s1 ⟨d, ea, ed⟩
theorem IsD.fld (h : Giv te σ H (.ref a)) (hf : Fv H a C fs) (T : XfC K C) (hn : PySem.W.findIn K (.ref C) f = some none) (hl : fs.lookup f = some v) (hd : Dp K H v d) : IsD K (tXfv K f te) σ H d := fun Q q => by
  obtain ⟨dd, h1, h2⟩ := hf
  exact h _ ⟨a, C, dd, fs, v, rfl, T, hn, h1, h2, hl, q H v (Same.refl H) hd⟩
theorem IsD.mk (h : MkF te σ H C fs) (T : XfC K C) (hn : PySem.W.findIn K (.ref C) f = some none) (hl : fs.lookup f = some v) (hd : ∀ H', Same H H' → Dp K H' v d) : IsD K (tXfv K f te) σ H d := fun Q q => h _ fun H1 a dd s1 ea ed => ⟨a, C, dd, fs, v, rfl, T, hn, ea, ed, hl, q H1 v s1 (hd H1 s1)⟩
end
theorem name_ok {z : Str} (h : NameS z) : PyData.strOk z = true := by
  obtain ⟨cs, rfl, h1, h2, h3⟩ := h.ex
  unfold PyData.strOk
  rw [Array.all_eq_true_iff_forall_mem]
  intro c hc
  have hl : ∀ c ∈ ltrs, decide (c < 0x110000) = true := by decide +kernel
  exact hl c (h3 c (by simpa [SX.S] using hc))
def rowT (k : Nat) : List Bool := (List.range 3).map fun i => decide (i = k)
def spTaken : Sp := fun vs H Q _ => ∃ (k : Nat) (z1 z2 : Str) (n : Int), vs = [.int (k : Nat), .str z1, .str z2, .int n] ∧ k < 3 ∧ ∀ (H' : Hp) (l : Addr), Same H H' → H l = none → H' l = some (.lst ((rowT k).map V.bl)) → Q (.ref l) H'
def spR : Sp := fun vs H Q _ => ∃ (z1 z2 : Str) (n : Int), vs = [.str z1, .str z2, .int n] ∧ (NameS z1 ∧ NameS z2) ∧ ∀ (H' : Hp), Same H H' → Q (.bl true) H'
section
variable {P : Program} {w : World} {K : PySem.W.Frag} {mg : Str → Option Value} {base : Heap}
theorem sc__law_forms_right : FnScope ["_law_one", "_law_other", "_law_many"] ["_law_one", "_law_other", "_law_many"] (defScope (topS 26)) := ⟨rfl, rfl, rfl, by decide +kernel, rfl, by decide +kernel, by decide +kernel⟩
theorem ok__law_forms_right (D : DefAt K mg "_law_forms_right" (topS 26)) (fx : Fx K mg) (c__law_is : Cal P w K mg base 2 "_law_is" (spIs K) []) (n_NoMap : (Exq P w K mg base "NoMap" (He.ga K "NoMap") [.type "ValueError", .type "Exception", .type "BaseException", .type "object"] "ValueError" "ValueError.__new__" "ValueError.__init__" [.type "ValueError", .type "Exception", .type "BaseException", .type "object"] ["what", "who"] ["what", "who"] false)) (n_NoTurn : (Exq P w K mg base "NoTurn" (He.ga K "NoTurn") [.type "ValueError", .type "Exception", .type "BaseException", .type "object"] "ValueError" "ValueError.__new__" "ValueError.__init__" [.type "ValueError", .type "Exception", .type "BaseException", .type "object"] ["host", "walker"] ["walker", "host"] true)) (n_NoPlan : (Exq P w K mg base "NoPlan" (He.ga K "NoPlan") [.type "ValueError", .type "Exception", .type "BaseException", .type "object"] "ValueError" "ValueError.__new__" "ValueError.__init__" [.type "ValueError", .type "Exception", .type "BaseException", .type "object"] ["who"] ["who"] false)) (n_NoText : (Exq P w K mg base "NoText" (He.ga K "NoText") [.type "ValueError", .type "Exception", .type "BaseException", .type "object"] "ValueError" "ValueError.__new__" "ValueError.__init__" [.type "ValueError", .type "Exception", .type "BaseException", .type "object"] ["row"] ["row"] false)) (n_NoSuch : (Exq P w K mg base "NoSuch" (He.ga K "NoSuch") [.type "LookupError", .type "Exception", .type "BaseException", .type "object"] "LookupError" "LookupError.__new__" "LookupError.__init__" [.type "LookupError", .type "Exception", .type "BaseException", .type "object"] ["who"] ["who"] false)) : Cal P w K mg base 3 "_law_forms_right" spR [] := by
  have sc := sc__law_forms_right
  refine mkCal D (fun _ _ _ _ _ _ us hl => match us, hl with | [_, _, _], _ => rfl) sc (fun vs H Q E h => ?_) (fun f cdv A outer s H vs Q E hr h => ?_)
  · obtain ⟨z1, z2, n, rfl, _⟩ := h
    rfl
  · obtain ⟨z1, z2, n, rfl, hz12, q⟩ := h
    refine ⟨_, (pss_cons (ps_if (PW.pt (pw_or (pt_not (pt_val (pe_c c__law_is hr (by decide) (by rfl) (pa_cons (pe_xq n_NoMap (hr.mono (by decide)) (by rfl) (pa_cons (pv 0) (pa_cons (pv 1) pa_nil))) (pa_cons pe_int (pa_cons pe_str pa_nil)))))) (pw_or1 (pt_not (pt_val (pe_c c__law_is hr (by decide) (by rfl) (pa_cons (pe_xq n_NoTurn (hr.mono (by decide)) (by rfl) (pa_cons (pv 0) (pa_cons (pv 1) pa_nil))) (pa_cons pe_int (pa_cons pe_str pa_nil)))))))))
  (pss_one (ps_ret pe_bl))
  pss_nil)
  (pss_cons (ps_if (PW.pt (pw_or (pt_not (pt_val (pe_c c__law_is hr (by decide) (by rfl) (pa_cons (pe_xq n_NoPlan (hr.mono (by decide)) (by rfl) (pa_cons (pv 0) pa_nil)) (pa_cons pe_int (pa_cons pe_str pa_nil)))))) (pw_or1 (pt_not (pt_val (pe_c c__law_is hr (by decide) (by rfl) (pa_cons (pe_xq n_NoText (hr.mono (by decide)) (by rfl) (pa_cons (pv 2) pa_nil)) (pa_cons pe_int (pa_cons pe_str pa_nil)))))))))
  (pss_one (ps_ret pe_bl))
  pss_nil)
  (pss_cons (ps_if (PW.pt (pw_or (pt_not (pt_val (pe_c c__law_is hr (by decide) (by rfl) (pa_cons (pe_exc1 PySem.F.excBase_ValueError (fx.xin 4 (by decide) (by decide) (by decide)).1 (fx.g "NoThing" (by decide +kernel)) (fx.xin 4 (by decide) (by decide) (by decide)).2 (by rfl) (pv 0)) (pa_cons pe_int (pa_cons pe_str pa_nil)))))) (pw_or1 (pt_not (pt_val (pe_c c__law_is hr (by decide) (by rfl) (pa_cons (pe_exc1 PySem.F.excBase_ValueError (fx.xin 5 (by decide) (by decide) (by decide)).1 (fx.g "NoWord" (by decide +kernel)) (fx.xin 5 (by decide) (by decide) (by decide)).2 (by rfl) (pv 0)) (pa_cons pe_int (pa_cons pe_str pa_nil)))))))))
  (pss_one (ps_ret pe_bl))
  pss_nil)
  (pss_one (ps_ret (pe_and (pe_c c__law_is hr (by decide) (by rfl) (pa_cons (pe_exc1 PySem.F.excBase_ValueError (fx.xin 6 (by decide) (by decide) (by decide)).1 (fx.g "NoRow" (by decide +kernel)) (fx.xin 6 (by decide) (by decide) (by decide)).2 (by rfl) (pv 0)) (pa_cons pe_int (pa_cons pe_str pa_nil)))) (pe_one (pe_c c__law_is hr (by decide) (by rfl) (pa_cons (pe_xq n_NoSuch (hr.mono (by decide)) (by rfl) (pa_cons (pv 0) pa_nil)) (pa_cons pe_int (pa_cons pe_str pa_nil))))))))))), ?_⟩
    refine ifS (c := false) (SayT.or (b := false) (SayT.not (Say.tB (say_is (j := 0) (MkX.xv (GivA.toN (GivA.cons (giv_var rfl) (GivA.cons (giv_var rfl) GivA.nil)))) (by decide)))) fun _ H' s' => SayT.not (Say.tB (say_is (j := 1) (MkX.xv (GivA.toN (GivA.cons (giv_var rfl) (GivA.cons (giv_var rfl) GivA.nil)))) (by decide)))) (fun z => absurd z (by decide)) fun _ H1 s1 => ?_
    refine ifS (c := false) (SayT.or (b := false) (SayT.not (Say.tB (say_is (j := 2) (MkX.xv (GivA.toN (GivA.cons (giv_var rfl) GivA.nil))) (by decide)))) fun _ H' s' => SayT.not (Say.tB (say_is (j := 3) (MkX.xv (GivA.toN (GivA.cons (giv_var rfl) GivA.nil))) (by decide)))) (fun z => absurd z (by decide)) fun _ H2 s2 => ?_
    refine ifS (c := false) (SayT.or (b := false) (SayT.not (Say.tB (say_is (j := 4) (MkX.one (giv_var rfl)) (by decide)))) fun _ H' s' => SayT.not (Say.tB (say_is (j := 5) (MkX.one (giv_var rfl)) (by decide)))) (fun z => absurd z (by decide)) fun _ H3 s3 => ?_
    exact retB (b := true) (Say.and (say_is (j := 6) (MkX.one (giv_var rfl)) (by decide)) fun _ H' s' => (say_is (j := 7) (MkX.xv (GivA.toN (GivA.cons (giv_var rfl) GivA.nil))) (by decide))) fun H4 s4 => q H4 (((s1.trans s2).trans s3).trans s4)
theorem sc__law_others_right : FnScope ["_law_one", "_law_other", "_law_many"] ["_law_one", "_law_other", "_law_many"] (defScope (topS 27)) := ⟨rfl, rfl, rfl, by decide +kernel, rfl, by decide +kernel, by decide +kernel⟩
theorem ok__law_others_right (D : DefAt K mg "_law_others_right" (topS 27)) (fx : Fx K mg) (c__law_is : Cal P w K mg base 2 "_law_is" (spIs K) []) (n_Still : (Exq P w K mg base "Still" (He.ga K "Still") [.type "IndexError", .type "LookupError", .type "Exception", .type "BaseException", .type "object"] "IndexError" "IndexError.__new__" "IndexError.__init__" [.type "IndexError", .type "LookupError", .type "Exception", .type "BaseException", .type "object"] ["source", "goal"] ["goal", "source"] true)) (n_NoBar : (Exq P w K mg base "NoBar" (He.ga K "NoBar") [.type "KeyError", .type "LookupError", .type "Exception", .type "BaseException", .type "object"] "LookupError" "LookupError.__new__" "LookupError.__init__" [.type "LookupError", .type "Exception", .type "BaseException", .type "object"] ["what", "mark"] ["mark", "what"] true)) (n_Away : (Exq P w K mg base "Away" (He.ga K "Away") [.type "RuntimeError", .type "Exception", .type "BaseException", .type "object"] "RuntimeError" "RuntimeError.__new__" "RuntimeError.__init__" [.type "RuntimeError", .type "Exception", .type "BaseException", .type "object"] ["who"] ["who"] false)) (n_Here : (Exq P w K mg base "Here" (He.ga K "Here") [.type "RuntimeError", .type "Exception", .type "BaseException", .type "object"] "RuntimeError" "RuntimeError.__new__" "RuntimeError.__init__" [.type "RuntimeError", .type "Exception", .type "BaseException", .type "object"] ["host", "walker"] ["host", "walker"] false)) (n_NoNews : (Exq P w K mg base "NoNews" (He.ga K "NoNews") [.type "RuntimeError", .type "Exception", .type "BaseException", .type "object"] "RuntimeError" "RuntimeError.__new__" "RuntimeError.__init__" [.type "RuntimeError", .type "Exception", .type "BaseException", .type "object"] ["host", "walker"] ["walker", "host"] true)) (n_Begun : (Exq P w K mg base "Begun" (He.ga K "Begun") [.type "RuntimeError", .type "Exception", .type "BaseException", .type "object"] "RuntimeError" "RuntimeError.__new__" "RuntimeError.__init__" [.type "RuntimeError", .type "Exception", .type "BaseException", .type "object"] ["host", "walker"] ["walker", "host"] true)) (n_TooMany : (Exq P w K mg base "TooMany" (He.ga K "TooMany") [.type "ArithmeticError", .type "Exception", .type "BaseException", .type "object"] "ArithmeticError" "ArithmeticError.__new__" "ArithmeticError.__init__" [.type "ArithmeticError", .type "Exception", .type "BaseException", .type "object"] ["limit"] ["limit"] false)) : Cal P w K mg base 3 "_law_others_right" spR [] := by
  have sc := sc__law_others_right
  refine mkCal D (fun _ _ _ _ _ _ us hl => match us, hl with | [_, _, _], _ => rfl) sc (fun vs H Q E h => ?_) (fun f cdv A outer s H vs Q E hr h => ?_)
  · obtain ⟨z1, z2, n, rfl, _⟩ := h
    rfl
  · obtain ⟨z1, z2, n, rfl, hz12, q⟩ := h
    refine ⟨_, (pss_cons (ps_if (PW.pt (pw_or (pt_not (pt_val (pe_c c__law_is hr (by decide) (by rfl) (pa_cons (pe_xq n_Still (hr.mono (by decide)) (by rfl) (pa_cons (pv 0) (pa_cons (pv 1) pa_nil))) (pa_cons pe_int (pa_cons pe_str pa_nil)))))) (pw_or1 (pt_not (pt_val (pe_c c__law_is hr (by decide) (by rfl) (pa_cons (pe_xq n_NoBar (hr.mono (by decide)) (by rfl) (pa_cons (pv 0) (pa_cons (pe_tup (pa_cons (pv 1) (pa_cons (pv 2) pa_nil))) pa_nil))) (pa_cons pe_int (pa_cons pe_str pa_nil)))))))))
  (pss_one (ps_ret pe_bl))
  pss_nil)
  (pss_cons (ps_if (PW.pt (pw_or (pt_not (pt_val (pe_c c__law_is hr (by decide) (by rfl) (pa_cons (pe_xq n_Away (hr.mono (by decide)) (by rfl) (pa_cons (pv 0) pa_nil)) (pa_cons pe_int (pa_cons pe_str pa_nil)))))) (pw_or1 (pt_not (pt_val (pe_c c__law_is hr (by decide) (by rfl) (pa_cons (pe_xq n_Here (hr.mono (by decide)) (by rfl) (pa_cons (pv 0) (pa_cons (pv 1) pa_nil))) (pa_cons pe_int (pa_cons pe_str pa_nil)))))))))
  (pss_one (ps_ret pe_bl))
  pss_nil)
  (pss_cons (ps_if (PW.pt (pw_or (pt_not (pt_val (pe_c c__law_is hr (by decide) (by rfl) (pa_cons (pe_xq n_NoNews (hr.mono (by decide)) (by rfl) (pa_cons (pv 0) (pa_cons (pv 1) pa_nil))) (pa_cons pe_int (pa_cons pe_str pa_nil)))))) (pw_or1 (pt_not (pt_val (pe_c c__law_is hr (by decide) (by rfl) (pa_cons (pe_xq n_Begun (hr.mono (by decide)) (by rfl) (pa_cons (pv 0) (pa_cons (pv 1) pa_nil))) (pa_cons pe_int (pa_cons pe_str pa_nil)))))))))
  (pss_one (ps_ret pe_bl))
  pss_nil)
  (pss_one (ps_ret (pe_c c__law_is hr (by decide) (by rfl) (pa_cons (pe_xq n_TooMany (hr.mono (by decide)) (by rfl) (pa_cons (pv 2) pa_nil)) (pa_cons pe_int (pa_cons pe_str pa_nil))))))))), ?_⟩
    refine ifS (c := false) (SayT.or (b := false) (SayT.not (Say.tB (say_is (j := 8) (MkX.xv (GivA.toN (GivA.cons (giv_var rfl) (GivA.cons (giv_var rfl) GivA.nil)))) (by decide)))) fun _ H' s' => SayT.not (Say.tB (say_is (j := 9) (MkX.xv fun Q q => ⟨_, rfl, _, rfl, _, rfl, (by show 2 ≤ sizeLine; decide), fun p np => q _ _ (same_new np) rfl⟩) (by decide)))) (fun z => absurd z (by decide)) fun _ H1 s1 => ?_
    refine ifS (c := false) (SayT.or (b := false) (SayT.not (Say.tB (say_is (j := 10) (MkX.xv (GivA.toN (GivA.cons (giv_var rfl) GivA.nil))) (by decide)))) fun _ H' s' => SayT.not (Say.tB (say_is (j := 11) (MkX.xv (GivA.toN (GivA.cons (giv_var rfl) (GivA.cons (giv_var rfl) GivA.nil)))) (by decide)))) (fun z => absurd z (by decide)) fun _ H2 s2 => ?_
    refine ifS (c := false) (SayT.or (b := false) (SayT.not (Say.tB (say_is (j := 12) (MkX.xv (GivA.toN (GivA.cons (giv_var rfl) (GivA.cons (giv_var rfl) GivA.nil)))) (by decide)))) fun _ H' s' => SayT.not (Say.tB (say_is (j := 13) (MkX.xv (GivA.toN (GivA.cons (giv_var rfl) (GivA.cons (giv_var rfl) GivA.nil)))) (by decide)))) (fun z => absurd z (by decide)) fun _ H3 s3 => ?_
    exact retB (b := true) (say_is (j := 14) (MkX.xv (GivA.toN (GivA.cons (giv_var rfl) GivA.nil))) (by decide)) fun H4 s4 => q H4 (((s1.trans s2).trans s3).trans s4)
end
end Gj

set_option maxHeartbeats 4000000
namespace Gj
open PySem PySem.Spec PyProof.Rows L2
open C8 (Cal pe_c pe_gc)
section
variable {P : Program} {w : World} {K : PySem.W.Frag} {mg : Str → Option Value} {base : Heap}
theorem sc__law_taken : FnScope ["_law_way", "_law_one", "_law_other", "_law_many", "_law_told", "_law_e"] ["_law_way", "_law_one", "_law_other", "_law_many"] (defScope (topS 25)) := ⟨rfl, rfl, rfl, by decide +kernel, rfl, by decide +kernel, by decide +kernel⟩
theorem ok__law_taken (D : DefAt K mg "_law_taken" (topS 25)) (m : Mg mg) (fx : Fx K mg) (n_NoTurn : (Exq P w K mg base "NoTurn" (He.ga K "NoTurn") [.type "ValueError", .type "Exception", .type "BaseException", .type "object"] "ValueError" "ValueError.__new__" "ValueError.__init__" [.type "ValueError", .type "Exception", .type "BaseException", .type "object"] ["host", "walker"] ["walker", "host"] true)) (n_NoMap : (Exq P w K mg base "NoMap" (He.ga K "NoMap") [.type "ValueError", .type "Exception", .type "BaseException", .type "object"] "ValueError" "ValueError.__new__" "ValueError.__init__" [.type "ValueError", .type "Exception", .type "BaseException", .type "object"] ["what", "who"] ["what", "who"] false)) (n_NoText : (Exq P w K mg base "NoText" (He.ga K "NoText") [.type "ValueError", .type "Exception", .type "BaseException", .type "object"] "ValueError" "ValueError.__new__" "ValueError.__init__" [.type "ValueError", .type "Exception", .type "BaseException", .type "object"] ["row"] ["row"] false)) : Cal P w K mg base 3 "_law_taken" spTaken [] := by
  have sc := sc__law_taken
  refine mkCal D (fun _ _ _ _ _ _ us hl => match us, hl with | [_, _, _, _], _ => rfl) sc (fun vs H Q E h => ?_) (fun f cdv A outer s H vs Q E hr h => ?_)
  · obtain ⟨k, z1, z2, n, rfl, _⟩ := h
    rfl
  · obtain ⟨k, z1, z2, n, rfl, hk, q⟩ := h
    refine ⟨_, (pss_cons (ps_set (i := 4) sc.nd rfl (.inl rfl) pe_non)
  (pss_cons (ps_try_as (i := 5) rfl rfl sc.nd rfl rfl ⟨by rfl, by decide, .inl (fx.g "WalkError" (by decide +kernel))⟩ takes0 (fun W pn xe tk po => (pss_cons (ps_if (pt_cmpR op_eq (pv 0) pe_int (nomark _))
  (pss_one (ps_raise rfl tk (pmk_xq n_NoTurn (hr.mono (by decide)) (by rfl) (pa_cons (pv 1) (pa_cons (pv 2) pa_nil)))))
  pss_nil)
  (pss_cons (ps_if (pt_cmpR op_eq (pv 0) pe_int (nomark _))
  (pss_one (ps_raise rfl tk (pmk_xq n_NoMap (hr.mono (by decide)) (by rfl) (pa_cons (pv 1) (pa_cons (pv 2) pa_nil)))))
  pss_nil)
  (pss_one (ps_raise rfl tk (pmk_xq n_NoText (hr.mono (by decide)) (by rfl) (pa_cons (pv 3) pa_nil)))))))
  (fun a oe cls d pn hz hf => (pss_one (ps_set (i := 4) sc.nd rfl (.inl rfl) (pe_lst (pa_cons (pe_callB (call_isC hz hf) (by rfl) m.isinstance (by decide +kernel) (pa_cons (pv 5) (pa_cons (pe_glob (v := .ref (He.ga K "NoTurn")) (by rfl) (fx.g "NoTurn" (by decide +kernel)) rfl) pa_nil))) (pa_cons (pe_callB (call_isC hz hf) (by rfl) m.isinstance (by decide +kernel) (pa_cons (pv 5) (pa_cons (pe_glob (v := .ref (He.ga K "NoMap")) (by rfl) (fx.g "NoMap" (by decide +kernel)) rfl) pa_nil))) (pa_cons (pe_callB (call_isC hz hf) (by rfl) m.isinstance (by decide +kernel) (pa_cons (pv 5) (pa_cons (pe_glob (v := .ref (He.ga K "NoText")) (by rfl) (fx.g "NoText" (by decide +kernel)) rfl) pa_nil))) pa_nil))))))))
  (pss_one (ps_ret (pv 4))))), ?_⟩
    match k, hk with
    | 0, _ =>
      refine ⟨_, rfl, rfl, _, rfl, iteT ?_⟩
      refine ⟨_, rfl, _, rfl, rfl, fun dd H1 nd sm ed => ?_⟩
      refine ⟨true, fx.exm 1 (by decide), fun _ a na => ?_, fun z => absurd z (by decide)⟩
      have T := fx.exc 1 (by decide)
      refine ⟨_, rfl, _, dd, _, _, _, _, rfl, rfl, rfl, T, .own _, ed, fx.kit 1 (by decide) 1 (by decide), ?_⟩
      refine ⟨_, rfl, _, dd, _, _, _, _, rfl, rfl, rfl, T, .own _, ed, fx.kit 1 (by decide) 0 (by decide), ?_⟩
      refine ⟨_, rfl, _, dd, _, _, _, _, rfl, rfl, rfl, T, .own _, ed, fx.kit 1 (by decide) 3 (by decide), ?_⟩
      refine ⟨(by show 3 ≤ sizeLine; decide), fun l nl => ?_⟩
      exact ⟨_, rfl, q _ l (sm.trans (same_new nl)) (none_same sm nl) upd_same⟩
    | 1, _ =>
      refine ⟨_, rfl, rfl, _, rfl, iteF ?_⟩
      refine ⟨_, rfl, rfl, _, rfl, iteT ?_⟩
      refine ⟨_, rfl, _, rfl, rfl, fun dd H1 nd sm ed => ?_⟩
      refine ⟨true, fx.exm 0 (by decide), fun _ a na => ?_, fun z => absurd z (by decide)⟩
      have T := fx.exc 0 (by decide)
      refine ⟨_, rfl, _, dd, _, _, _, _, rfl, rfl, rfl, T, .own _, ed, fx.kit 0 (by decide) 1 (by decide), ?_⟩
      refine ⟨_, rfl, _, dd, _, _, _, _, rfl, rfl, rfl, T, .own _, ed, fx.kit 0 (by decide) 0 (by decide), ?_⟩
      refine ⟨_, rfl, _, dd, _, _, _, _, rfl, rfl, rfl, T, .own _, ed, fx.kit 0 (by decide) 3 (by decide), ?_⟩
      refine ⟨(by show 3 ≤ sizeLine; decide), fun l nl => ?_⟩
      exact ⟨_, rfl, q _ l (sm.trans (same_new nl)) (none_same sm nl) upd_same⟩
    | 2, _ =>
      refine ⟨_, rfl, rfl, _, rfl, iteF ?_⟩
      refine ⟨_, rfl, rfl, _, rfl, iteF ?_⟩
      refine ⟨_, rfl, rfl, fun dd H1 nd sm ed => ?_⟩
      refine ⟨true, fx.exm 3 (by decide), fun _ a na => ?_, fun z => absurd z (by decide)⟩
      have T := fx.exc 3 (by decide)
      refine ⟨_, rfl, _, dd, _, _, _, _, rfl, rfl, rfl, T, .own _, ed, fx.kit 3 (by decide) 1 (by decide), ?_⟩
      refine ⟨_, rfl, _, dd, _, _, _, _, rfl, rfl, rfl, T, .own _, ed, fx.kit 3 (by decide) 0 (by decide), ?_⟩
      refine ⟨_, rfl, _, dd, _, _, _, _, rfl, rfl, rfl, T, .own _, ed, fx.kit 3 (by decide) 3 (by decide), ?_⟩
      refine ⟨(by show 3 ≤ sizeLine; decide), fun l nl => ?_⟩
      exact ⟨_, rfl, q _ l (sm.trans (same_new nl)) (none_same sm nl) upd_same⟩
end
end Gj

set_option maxHeartbeats 4000000
namespace Gj
open PySem PySem.Spec PyProof.Rows L2
open C8 (Cal pe_c pe_gc)
section
variable {P : Program} {w : World} {K : PySem.W.Frag} {mg : Str → Option Value} {base : Heap}
theorem sc__law_fields_right : FnScope ["_law_one", "_law_other", "_law_many", "_law_first", "_law_second", "_law_third", "_law_fourth", "_law_fifth", "_law_sixth", "_law_seventh"] ["_law_one", "_law_other", "_law_many"] (defScope (topS 28)) := ⟨rfl, rfl, rfl, by decide +kernel, rfl, by decide +kernel, by decide +kernel⟩
theorem ok__law_fields_right (D : DefAt K mg "_law_fields_right" (topS 28)) (n_NoMap : (Exq P w K mg base "NoMap" (He.ga K "NoMap") [.type "ValueError", .type "Exception", .type "BaseException", .type "object"] "ValueError" "ValueError.__new__" "ValueError.__init__" [.type "ValueError", .type "Exception", .type "BaseException", .type "object"] ["what", "who"] ["what", "who"] false)) (n_NoTurn : (Exq P w K mg base "NoTurn" (He.ga K "NoTurn") [.type "ValueError", .type "Exception", .type "BaseException", .type "object"] "ValueError" "ValueError.__new__" "ValueError.__init__" [.type "ValueError", .type "Exception", .type "BaseException", .type "object"] ["host", "walker"] ["walker", "host"] true)) (n_NoBar : (Exq P w K mg base "NoBar" (He.ga K "NoBar") [.type "KeyError", .type "LookupError", .type "Exception", .type "BaseException", .type "object"] "LookupError" "LookupError.__new__" "LookupError.__init__" [.type "LookupError", .type "Exception", .type "BaseException", .type "object"] ["what", "mark"] ["mark", "what"] true)) (n_Still : (Exq P w K mg base "Still" (He.ga K "Still") [.type "IndexError", .type "LookupError", .type "Exception", .type "BaseException", .type "object"] "IndexError" "IndexError.__new__" "IndexError.__init__" [.type "IndexError", .type "LookupError", .type "Exception", .type "BaseException", .type "object"] ["source", "goal"] ["goal", "source"] true)) (n_Here : (Exq P w K mg base "Here" (He.ga K "Here") [.type "RuntimeError", .type "Exception", .type "BaseException", .type "object"] "RuntimeError" "RuntimeError.__new__" "RuntimeError.__init__" [.type "RuntimeError", .type "Exception", .type "BaseException", .type "object"] ["host", "walker"] ["host", "walker"] false)) (n_NoNews : (Exq P w K mg base "NoNews" (He.ga K "NoNews") [.type "RuntimeError", .type "Exception", .type "BaseException", .type "object"] "RuntimeError" "RuntimeError.__new__" "RuntimeError.__init__" [.type "RuntimeError", .type "Exception", .type "BaseException", .type "object"] ["host", "walker"] ["walker", "host"] true)) (n_Begun : (Exq P w K mg base "Begun" (He.ga K "Begun") [.type "RuntimeError", .type "Exception", .type "BaseException", .type "object"] "RuntimeError" "RuntimeError.__new__" "RuntimeError.__init__" [.type "RuntimeError", .type "Exception", .type "BaseException", .type "object"] ["host", "walker"] ["walker", "host"] true)) (n_NoText : (Exq P w K mg base "NoText" (He.ga K "NoText") [.type "ValueError", .type "Exception", .type "BaseException", .type "object"] "ValueError" "ValueError.__new__" "ValueError.__init__" [.type "ValueError", .type "Exception", .type "BaseException", .type "object"] ["row"] ["row"] false)) (n_TooMany : (Exq P w K mg base "TooMany" (He.ga K "TooMany") [.type "ArithmeticError", .type "Exception", .type "BaseException", .type "object"] "ArithmeticError" "ArithmeticError.__new__" "ArithmeticError.__init__" [.type "ArithmeticError", .type "Exception", .type "BaseException", .type "object"] ["limit"] ["limit"] false)) (n_NoPlan : (Exq P w K mg base "NoPlan" (He.ga K "NoPlan") [.type "ValueError", .type "Exception", .type "BaseException", .type "object"] "ValueError" "ValueError.__new__" "ValueError.__init__" [.type "ValueError", .type "Exception", .type "BaseException", .type "object"] ["who"] ["who"] false)) (n_NoSuch : (Exq P w K mg base "NoSuch" (He.ga K "NoSuch") [.type "LookupError", .type "Exception", .type "BaseException", .type "object"] "LookupError" "LookupError.__new__" "LookupError.__init__" [.type "LookupError", .type "Exception", .type "BaseException", .type "object"] ["who"] ["who"] false)) (n_Away : (Exq P w K mg base "Away" (He.ga K "Away") [.type "RuntimeError", .type "Exception", .type "BaseException", .type "object"] "RuntimeError" "RuntimeError.__new__" "RuntimeError.__init__" [.type "RuntimeError", .type "Exception", .type "BaseException", .type "object"] ["who"] ["who"] false)) : Cal P w K mg base 3 "_law_fields_right" spR [] := by
  have sc := sc__law_fields_right
  refine mkCal D (fun _ _ _ _ _ _ us hl => match us, hl with | [_, _, _], _ => rfl) sc (fun vs H Q E h => ?_) (fun f cdv A outer s H vs Q E hr h => ?_)
  · obtain ⟨z1, z2, n, rfl, _⟩ := h
    rfl
  · obtain ⟨z1, z2, n, rfl, hz12, q⟩ := h
    refine ⟨_, (pss_cons (ps_par (by rfl) (i := 3) (j := 4) sc.nd rfl rfl (by decide) rfl rfl (pa_cons (pe_xqk n_NoMap (hr.mono (by decide)) (by rfl) (pk_cons (pv 0) (pk_cons (pv 1) pk_nil))) (pa_cons (pe_xqk n_NoTurn (hr.mono (by decide)) (by rfl) (pk_cons (pv 1) (pk_cons (pv 0) pk_nil))) pa_nil)) (by rfl))
  (pss_cons (ps_set (i := 5) sc.nd rfl (.inl rfl) (pe_xqk n_NoBar (hr.mono (by decide)) (by rfl) (pk_cons (pe_tup (pa_cons (pv 1) (pa_cons (pv 2) pa_nil))) (pk_cons (pv 0) pk_nil))))
  (pss_cons (ps_if (pt_cmpR (op_neD hr.units) (pe_tup (pa_cons (pe_xfv (pv 3)) (pa_cons (pe_xfv (pv 3)) (pa_cons (pe_xfv (pv 4)) (pa_cons (pe_xfv (pv 4)) pa_nil))))) (pe_tup (pa_cons (pv 0) (pa_cons (pv 1) (pa_cons (pv 0) (pa_cons (pv 1) pa_nil))))) (nomark _))
  (pss_one (ps_ret pe_bl))
  pss_nil)
  (pss_cons (ps_par (by rfl) (i := 6) (j := 7) sc.nd rfl rfl (by decide) rfl rfl (pa_cons (pe_xqk n_Still (hr.mono (by decide)) (by rfl) (pk_cons (pv 1) (pk_cons (pv 0) pk_nil))) (pa_cons (pe_xqk n_Here (hr.mono (by decide)) (by rfl) (pk_cons (pv 0) (pk_cons (pv 1) pk_nil))) pa_nil)) (by rfl))
  (pss_cons (ps_if (pt_cmpR (op_neD hr.units) (pe_tup (pa_cons (pe_xfv (pv 5)) (pa_cons (pe_xfv (pv 5)) (pa_cons (pe_xfv (pv 6)) (pa_cons (pe_xfv (pv 6)) pa_nil))))) (pe_tup (pa_cons (pv 0) (pa_cons (pe_tup (pa_cons (pv 1) (pa_cons (pv 2) pa_nil))) (pa_cons (pv 0) (pa_cons (pv 1) pa_nil))))) (nomark _))
  (pss_one (ps_ret pe_bl))
  pss_nil)
  (pss_cons (ps_par (by rfl) (i := 8) (j := 9) sc.nd rfl rfl (by decide) rfl rfl (pa_cons (pe_xqk n_NoNews (hr.mono (by decide)) (by rfl) (pk_cons (pv 1) (pk_cons (pv 0) pk_nil))) (pa_cons (pe_xqk n_Begun (hr.mono (by decide)) (by rfl) (pk_cons (pv 1) (pk_cons (pv 0) pk_nil))) pa_nil)) (by rfl))
  (pss_cons (ps_if (pt_cmpR (op_neD hr.units) (pe_tup (pa_cons (pe_xfv (pv 7)) (pa_cons (pe_xfv (pv 7)) (pa_cons (pe_xfv (pv 8)) (pa_cons (pe_xfv (pv 8)) pa_nil))))) (pe_tup (pa_cons (pv 0) (pa_cons (pv 1) (pa_cons (pv 0) (pa_cons (pv 1) pa_nil))))) (nomark _))
  (pss_one (ps_ret pe_bl))
  pss_nil)
  (pss_cons (ps_if (pt_cmpR (op_neD hr.units) (pe_tup (pa_cons (pe_xfv (pv 9)) (pa_cons (pe_xfv (pv 9)) (pa_cons (pe_xfv (pe_xqk n_NoText (hr.mono (by decide)) (by rfl) (pk_cons (pv 2) pk_nil))) (pa_cons (pe_xfv (pe_xqk n_TooMany (hr.mono (by decide)) (by rfl) (pk_cons (pv 2) pk_nil))) pa_nil))))) (pe_tup (pa_cons (pv 0) (pa_cons (pv 1) (pa_cons (pv 2) (pa_cons (pv 2) pa_nil))))) (nomark _))
  (pss_one (ps_ret pe_bl))
  pss_nil)
  (pss_one (ps_ret (pe_cmpR (op_eqD hr.units) (pe_tup (pa_cons (pe_xfv (pe_xqk n_NoPlan (hr.mono (by decide)) (by rfl) (pk_cons (pv 0) pk_nil))) (pa_cons (pe_xfv (pe_xqk n_NoSuch (hr.mono (by decide)) (by rfl) (pk_cons (pv 1) pk_nil))) (pa_cons (pe_xfv (pe_xqk n_Away (hr.mono (by decide)) (by rfl) (pk_cons (pv 0) pk_nil))) pa_nil)))) (pe_tup (pa_cons (pv 0) (pa_cons (pv 1) (pa_cons (pv 0) pa_nil)))) (nomark _)))))))))))), ?_⟩
    have k1 := name_ok hz12.1
    have k2 := name_ok hz12.2
    have s0 := Same.refl H
    refine parF (MkF.xk (GivA.cons (giv_var rfl) (GivA.cons (giv_var rfl) GivA.nil)) rfl) (fun H' s' => MkF.xk (GivA.cons (giv_var rfl) (GivA.cons (giv_var rfl) GivA.nil)) rfl) fun H1 a1 a2 s1 f1 f2 => ?_
    refine ⟨_, rfl, _, rfl, (by show 2 ≤ sizeLine; decide), fun p np => ⟨_, rfl, rfl, fun a3 d3 H2 n1 n2 ne s2 ea ed => ?_⟩⟩
    have s12 : Same H1 H2 := (same_new np).trans s2
    have f3 : Fv H2 a3 _ _ := ⟨d3, ea, ed⟩
    have ep : H2 p = some (.tup [.str z2, .int n]) := s2 _ _ upd_same
    have f1 := f1.same s12
    have f2 := f2.same s12
    have s02 := s1.trans s12
    refine ifNo (Say.tTest (IsD.neS (d := .tuple [.str z1, .str z2, .str z1, .str z2]) (IsDs.tup (IsDs.cons (IsD.fld (giv_var rfl) (f1.same (Same.refl H2)) n_NoMap.T.xf (n_NoMap.no "what" (by decide +kernel)) rfl (.str _)) fun _ c4 => (IsDs.cons (IsD.fld (giv_var rfl) (f1.same ((Same.refl H2).trans c4)) n_NoMap.T.xf (n_NoMap.no "who" (by decide +kernel)) rfl (.str _)) fun _ c3 => (IsDs.cons (IsD.fld (giv_var rfl) (f2.same (((Same.refl H2).trans c4).trans c3)) n_NoTurn.T.xf (n_NoTurn.no "host" (by decide +kernel)) rfl (.str _)) fun _ c2 => (IsDs.cons (IsD.fld (giv_var rfl) (f2.same ((((Same.refl H2).trans c4).trans c3).trans c2)) n_NoTurn.T.xf (n_NoTurn.no "walker" (by decide +kernel)) rfl (.str _)) fun _ c1 => IsDs.nil)))) (by simp)) (fun H' s' => IsDs.tup (IsDs.cons (IsD.of (giv_var rfl) (.str _)) fun _ _ => (IsDs.cons (IsD.of (giv_var rfl) (.str _)) fun _ _ => (IsDs.cons (IsD.of (giv_var rfl) (.str _)) fun _ _ => (IsDs.cons (IsD.of (giv_var rfl) (.str _)) fun _ _ => IsDs.nil)))) (by simp)) (by simp [SeqAt.shaped, PyData.canLay0, PyData.canLayAll0, PyData.depth, PyData.depthAll, k1, k2]) (by simp [plainD, plainA]))) fun H3 s3 => ?_
    refine parF (MkF.xk (GivA.cons (giv_var rfl) (GivA.cons (giv_var rfl) GivA.nil)) rfl) (fun H' s' => MkF.xk (GivA.cons (giv_var rfl) (GivA.cons (giv_var rfl) GivA.nil)) rfl) fun H4 a4 a5 s4 f4 f5 => ?_
    have s24 := s3.trans s4
    have f3 := f3.same s24
    have ep := s24 _ _ ep
    refine ifNo (Say.tTest (IsD.neS (d := .tuple [.str z1, .tuple [.str z2, .int n], .str z1, .str z2]) (IsDs.tup (IsDs.cons (IsD.fld (giv_var rfl) (f3.same (Same.refl H4)) n_NoBar.T.xf (n_NoBar.no "what" (by decide +kernel)) rfl (.str _)) fun _ c4 => (IsDs.cons (IsD.fld (giv_var rfl) (f3.same ((Same.refl H4).trans c4)) n_NoBar.T.xf (n_NoBar.no "mark" (by decide +kernel)) rfl (.tup (SqT.of (((Same.refl H4).trans c4) _ _ ep)) (.cons (.str _) (.cons (.int _) .nil)))) fun _ c3 => (IsDs.cons (IsD.fld (giv_var rfl) (f4.same (((Same.refl H4).trans c4).trans c3)) n_Still.T.xf (n_Still.no "source" (by decide +kernel)) rfl (.str _)) fun _ c2 => (IsDs.cons (IsD.fld (giv_var rfl) (f4.same ((((Same.refl H4).trans c4).trans c3).trans c2)) n_Still.T.xf (n_Still.no "goal" (by decide +kernel)) rfl (.str _)) fun _ c1 => IsDs.nil)))) (by simp)) (fun H' s' => IsDs.tup (IsDs.cons (IsD.of (giv_var rfl) (.str _)) fun _ _ => (IsDs.cons (IsDs.tup (IsDs.cons (IsD.of (giv_var rfl) (.str _)) fun _ _ => IsDs.cons (IsD.of (giv_var rfl) (.int _)) fun _ _ => IsDs.nil) (by simp)) fun _ _ => (IsDs.cons (IsD.of (giv_var rfl) (.str _)) fun _ _ => (IsDs.cons (IsD.of (giv_var rfl) (.str _)) fun _ _ => IsDs.nil)))) (by simp)) (by simp [SeqAt.shaped, PyData.canLay0, PyData.canLayAll0, PyData.depth, PyData.depthAll, k1, k2]) (by simp [plainD, plainA]))) fun H5 s5 => ?_
    have s05 := (s02.trans s24).trans s5
    have f5 := f5.same s5
    refine parF (MkF.xk (GivA.cons (giv_var rfl) (GivA.cons (giv_var rfl) GivA.nil)) rfl) (fun H' s' => MkF.xk (GivA.cons (giv_var rfl) (GivA.cons (giv_var rfl) GivA.nil)) rfl) fun H6 a6 a7 s6 f6 f7 => ?_
    have f5 := f5.same s6
    refine ifNo (Say.tTest (IsD.neS (d := .tuple [.str z1, .str z2, .str z1, .str z2]) (IsDs.tup (IsDs.cons (IsD.fld (giv_var rfl) (f5.same (Same.refl H6)) n_Here.T.xf (n_Here.no "host" (by decide +kernel)) rfl (.str _)) fun _ c4 => (IsDs.cons (IsD.fld (giv_var rfl) (f5.same ((Same.refl H6).trans c4)) n_Here.T.xf (n_Here.no "walker" (by decide +kernel)) rfl (.str _)) fun _ c3 => (IsDs.cons (IsD.fld (giv_var rfl) (f6.same (((Same.refl H6).trans c4).trans c3)) n_NoNews.T.xf (n_NoNews.no "host" (by decide +kernel)) rfl (.str _)) fun _ c2 => (IsDs.cons (IsD.fld (giv_var rfl) (f6.same ((((Same.refl H6).trans c4).trans c3).trans c2)) n_NoNews.T.xf (n_NoNews.no "walker" (by decide +kernel)) rfl (.str _)) fun _ c1 => IsDs.nil)))) (by simp)) (fun H' s' => IsDs.tup (IsDs.cons (IsD.of (giv_var rfl) (.str _)) fun _ _ => (IsDs.cons (IsD.of (giv_var rfl) (.str _)) fun _ _ => (IsDs.cons (IsD.of (giv_var rfl) (.str _)) fun _ _ => (IsDs.cons (IsD.of (giv_var rfl) (.str _)) fun _ _ => IsDs.nil)))) (by simp)) (by simp [SeqAt.shaped, PyData.canLay0, PyData.canLayAll0, PyData.depth, PyData.depthAll, k1, k2]) (by simp [plainD, plainA]))) fun H7 s7 => ?_
    have f7 := f7.same s7
    refine ifNo (Say.tTest (IsD.neS (d := .tuple [.str z1, .str z2, .int n, .int n]) (IsDs.tup (IsDs.cons (IsD.fld (giv_var rfl) (f7.same (Same.refl H7)) n_Begun.T.xf (n_Begun.no "host" (by decide +kernel)) rfl (.str _)) fun _ c4 => (IsDs.cons (IsD.fld (giv_var rfl) (f7.same ((Same.refl H7).trans c4)) n_Begun.T.xf (n_Begun.no "walker" (by decide +kernel)) rfl (.str _)) fun _ c3 => (IsDs.cons (IsD.mk (MkF.xk (GivA.cons (giv_var rfl) GivA.nil) rfl) n_NoText.T.xf (n_NoText.no "row" (by decide +kernel)) rfl fun _ _ => (.int _)) fun _ c2 => (IsDs.cons (IsD.mk (MkF.xk (GivA.cons (giv_var rfl) GivA.nil) rfl) n_TooMany.T.xf (n_TooMany.no "limit" (by decide +kernel)) rfl fun _ _ => (.int _)) fun _ c1 => IsDs.nil)))) (by simp)) (fun H' s' => IsDs.tup (IsDs.cons (IsD.of (giv_var rfl) (.str _)) fun _ _ => (IsDs.cons (IsD.of (giv_var rfl) (.str _)) fun _ _ => (IsDs.cons (IsD.of (giv_var rfl) (.int _)) fun _ _ => (IsDs.cons (IsD.of (giv_var rfl) (.int _)) fun _ _ => IsDs.nil)))) (by simp)) (by simp [SeqAt.shaped, PyData.canLay0, PyData.canLayAll0, PyData.depth, PyData.depthAll, k1, k2]) (by simp [plainD, plainA]))) fun H8 s8 => ?_
    have s08 := ((s05.trans s6).trans s7).trans s8
    exact retB (b := true) (IsD.eqS (d := .tuple [.str z1, .str z2, .str z1]) (IsDs.tup (IsDs.cons (IsD.mk (MkF.xk (GivA.cons (giv_var rfl) GivA.nil) rfl) n_NoPlan.T.xf (n_NoPlan.no "who" (by decide +kernel)) rfl fun _ _ => (.str _)) fun _ c3 => (IsDs.cons (IsD.mk (MkF.xk (GivA.cons (giv_var rfl) GivA.nil) rfl) n_NoSuch.T.xf (n_NoSuch.no "who" (by decide +kernel)) rfl fun _ _ => (.str _)) fun _ c2 => (IsDs.cons (IsD.mk (MkF.xk (GivA.cons (giv_var rfl) GivA.nil) rfl) n_Away.T.xf (n_Away.no "who" (by decide +kernel)) rfl fun _ _ => (.str _)) fun _ c1 => IsDs.nil))) (by simp)) (fun H' s' => IsDs.tup (IsDs.cons (IsD.of (giv_var rfl) (.str _)) fun _ _ => (IsDs.cons (IsD.of (giv_var rfl) (.str _)) fun _ _ => (IsDs.cons (IsD.of (giv_var rfl) (.str _)) fun _ _ => IsDs.nil))) (by simp)) (by simp [SeqAt.shaped, PyData.canLay0, PyData.canLayAll0, PyData.depth, PyData.depthAll, k1, k2]) (by simp [plainD, plainA])) fun H9 s9 => q H9 (s08.trans s9)
end
end Gj

set_option maxHeartbeats 4000000
namespace Gj
open PySem PySem.Spec PyProof.Rows L2
open C8 (Cal pe_c pe_gc)
def spLaw (K : PySem.W.Frag) : Sp := fun vs H Q _ => ∃ (a : Addr) (ns : List Int), vs = [.ref a] ∧ SqL K H a (ns.map V.int) ∧ ns.length ≤ 63 ∧ ∀ H', Q (.bl true) H'
theorem setIs {K : PySem.W.Frag} {te : TE} {σ : L2.St} {H : Hp} {d : PyData} {u : TS} {D : Ends} {i : Nat} (h : IsD K te σ H d) (q : ∀ (H' : Hp) (v : V), Same H H' → Dp K H' v d → u D (σ.set i (some v)) H') : tSeq (tAsg te (gName i)) u D σ H := h _ q
def scopeOf : Expr → Scope
  | .ListComp _ _ sc _ => sc
  | .BoolOp _ [_, .Compare _ _ [e] _] _ => scopeOf e
  | _ => default
def retOf : Stmt → Expr
  | .Return (some e) _ => e
  | _ => .Constant .none 0 ⟨0, 0, 0, 0⟩
def compS : Scope := scopeOf (retOf ((defBody (topS 29)).getD 5 (.Pass ⟨0, 0, 0, 0⟩)))
section
variable {P : Program} {w : World} {K : PySem.W.Frag} {mg : Str → Option Value} {base : Heap}
theorem sc_law : FnScope ["_law_script", "_law_pot_here", "_law_one", "_law_other", "_law_many", "_law_taken_here", "_law_way", "_law_k"] ["_law_script"] (defScope (topS 29)) := ⟨rfl, rfl, rfl, by decide +kernel, rfl, by decide +kernel, by decide +kernel⟩
theorem ok_law {f : Addr} {fd : FuncData} (F : Fun K "law" "law" (topS 29) f fd) (m : Mg mg) (c__law_pot : Cal P w K mg base 1 "_law_pot" (spPot K) []) (c__law_names : Cal P w K mg base 3 "_law_names" spNames []) (c__law_digit : Cal P w K mg base 1 "_law_digit" spDigit []) (c__law_forms_right : Cal P w K mg base 3 "_law_forms_right" spR []) (c__law_others_right : Cal P w K mg base 3 "_law_others_right" spR []) (c__law_taken : Cal P w K mg base 3 "_law_taken" spTaken []) (c__law_fields_right : Cal P w K mg base 3 "_law_fields_right" spR []) : FnOk P w K mg base CX0 4 f fd ["_law_script"] (spLaw K) := by
  have sc := sc_law
  refine F.ok sc (fun vs H Q E h => ?_) (fun cdv A outer s H vs Q E hr h => ?_)
  · obtain ⟨x, z, rfl, _⟩ := h
    rfl
  · obtain ⟨a, ns, rfl, hS, hlen, q⟩ := h
    refine ⟨_, (pss_cons (ps_set (i := 1) sc.nd rfl (by first | exact .inl rfl | exact .inr rfl) (pe_c c__law_pot hr (by decide) (by rfl) (pa_cons (pv 0) (pa_cons pe_int pa_nil))))
  (pss_cons (ps_asg (pe_c c__law_names hr (by decide) (by rfl) (pa_cons (pv 1) (pa_cons pe_int (pa_cons (pe_lst pa_nil) pa_nil)))) (pg_unl (by rfl) (pgs_cons (pg_name (i := 2) sc.nd rfl (by first | exact .inl rfl | exact .inr rfl)) (pgs_cons (pg_name (i := 3) sc.nd rfl (by first | exact .inl rfl | exact .inr rfl)) pgs_nil))))
  (pss_cons (ps_set (i := 4) sc.nd rfl (by first | exact .inl rfl | exact .inr rfl) (pe_c c__law_digit hr (by decide) (by rfl) (pa_cons (pv 1) (pa_cons (pe_op op_pow pe_int pe_int) pa_nil))))
  (pss_cons (ps_if (PW.pt (pw_or (pt_not (pt_val (pe_c c__law_forms_right hr (by decide) (by rfl) (pa_cons (pv 2) (pa_cons (pv 3) (pa_cons (pv 4) pa_nil)))))) (pw_or1 (pt_not (pt_val (pe_c c__law_others_right hr (by decide) (by rfl) (pa_cons (pv 2) (pa_cons (pv 3) (pa_cons (pv 4) pa_nil)))))))))
  (pss_one (ps_ret pe_bl))
  pss_nil)
  (pss_cons (ps_setLc (i := 5) (own := [("_law_way", 6)]) (g := gName 6) (tt := tYes) rfl sc.nd rfl rfl (sw_true rfl rfl rfl (by decide +kernel)) (pi_range1 (by rfl) m.range (pa_cons pe_int pa_nil)) (blkOk_by (N := ["_law_script", "_law_pot_here", "_law_one", "_law_other", "_law_many", "_law_taken_here", "_law_way", "_law_k"]) (sc := defScope (topS 29)) (by decide +kernel)) (fun _ _ _ _ _ => (pg_name (i := 6) sc.nd rfl (by first | exact .inl rfl | exact .inr rfl))) (fun _ _ _ _ _ => pts_nil) (fun _ _ _ _ _ => (pe_c c__law_taken hr (by decide) (by rfl) (pa_cons (pv 6) (pa_cons (pv 2) (pa_cons (pv 3) (pa_cons (pv 4) pa_nil)))))))
  (pss_one (ps_ret (pe_and (pe_c c__law_fields_right hr (by decide) (by rfl) (pa_cons (pv 2) (pa_cons (pv 3) (pa_cons (pv 4) pa_nil)))) (pe_one (pe_cmpR (op_eqD hr.units) (pv 5) (pe_lc (own := [("_law_way", 6)]) (g := gName 6) (tt := tYes) rfl sc.nd (pi_range1 (by rfl) m.range (pa_cons pe_int pa_nil)) (blkOk_by (N := ["_law_script", "_law_pot_here", "_law_one", "_law_other", "_law_many", "_law_taken_here", "_law_way", "_law_k"]) (sc := defScope (topS 29)) (by decide +kernel)) (fun _ _ _ _ _ => (pg_name (i := 6) sc.nd rfl (by first | exact .inl rfl | exact .inr rfl))) (fun _ _ _ _ _ => pts_nil) (fun _ _ _ _ _ => (pe_lc (own := [("_law_k", 7)]) (g := gName 7) (tt := tYes) rfl sc.nd (pi_range1 (by rfl) m.range (pa_cons pe_int pa_nil)) (blkOk_by (N := ["_law_script", "_law_pot_here", "_law_one", "_law_other", "_law_many", "_law_taken_here", "_law_way", "_law_k"]) (sc := compS) (by decide +kernel)) (fun _ _ _ _ _ => (pg_name (i := 7) sc.nd rfl (by first | exact .inl rfl | exact .inr rfl))) (fun _ _ _ _ _ => pts_nil) (fun _ _ _ _ _ => (pe_cmpR op_eq (pv 7) (pv 6) (nomark _)))))) (nomark _))))))))))), ?_⟩
    refine ⟨_, rfl, a, ns, 0, rfl, hS, by decide, by decide, fun p H1 np sm hp => ?_⟩
    refine ⟨_, rfl, (by show 0 ≤ sizeLine; decide), fun u nu => ⟨p, u, [], 2, rfl, hp.new nu, hp.ne nu, upd_same, (fun _ h => absurd h List.not_mem_nil), by decide, fun b zs H2 nc nb hl hz nd _ rr eb => ?_⟩⟩
    match zs, hl, hz with
    | [z1, z2], _, hz =>
    have h12 : NameS z1 ∧ NameS z2 := ⟨hz z1 (by simp), hz z2 (by simp)⟩
    refine ⟨b, _, rfl, SqL.of eb, rfl, _, _, rfl, _, _, rfl, rfl, ?_⟩
    refine ⟨_, rfl, _, _, rfl, rfl, ⟨by decide, by decide, by decide⟩, p, _, rfl, rr.pot, by decide, by decide, fun n H3 n0 n1 r3 => ?_⟩
    dsimp only
    refine ifS (c := false) (SayT.or (b := false) (SayT.not (Say.tB (a := true) fun Q q => ⟨_, rfl, _, rfl, _, rfl, z1, z2, n, rfl, h12, q⟩)) fun _ H' s' => SayT.not (Say.tB (a := true) fun Q q => ⟨_, rfl, _, rfl, _, rfl, z1, z2, n, rfl, h12, q⟩)) (fun z => absurd z (by decide)) fun _ H4 s4 => ?_
    refine setIs (K := K) (d := .list ((List.range 3).map fun k => .list ((rowT k).map PyData.bool))) ?_ fun H5 v s5 hv => ?_
    · refine IsD.rows (K := K) (lo := 0) (n := 3) (f := rowT) (fun R r => ⟨3, rfl, by decide, by decide, r⟩) (by decide) (fun _ => rfl) fun k H' hk s' Q q => ⟨_, rfl, _, rfl, _, rfl, _, rfl, k, z1, z2, n, ?_, hk, q⟩
      rw [Int.zero_add]
      rfl
    refine retB (b := true) (Say.and (a := true) (b := true) (fun Q q => ⟨_, rfl, _, rfl, _, rfl, z1, z2, n, rfl, h12, q⟩) fun _ H6 s6 => IsD.eqS (d := .list ((List.range 3).map fun k => .list ((rowT k).map PyData.bool))) (IsD.of (giv_var rfl) (dp_same s6 hv)) (fun H7 s7 => ?_) (by decide +kernel) (by decide +kernel)) fun H8 s8 => q H8
    refine IsD.rows (K := K) (lo := 0) (n := 3) (f := rowT) (fun R r => ⟨3, rfl, by decide, by decide, r⟩) (by decide) (fun _ => rfl) fun k H' hk s' => ?_
    refine BlsN.range (lo := 0) (n := 3) (f := fun i => decide (i = k)) (fun R r => ⟨3, rfl, by decide, by decide, r⟩) (by decide) (fun _ => rfl) fun i H9 hi s9 => ?_
    refine Say.of (say_eqI (giv_var rfl) (giv_var rfl)) ?_
    rw [Bool.eq_iff_iff, decide_eq_true_iff, decide_eq_true_iff]
    omega
end
end Gj

set_option maxHeartbeats 0
namespace Gj
open PySem PySem.Spec PyProof.Rows L2
open C8 (Cal pe_c pe_gc)
def dd (x : Str) (i : Nat) : He.DefD := ⟨(x, none), x, x, defArgs (topS i), defBody (topS i), defScope (topS i), [], []⟩
def dm (x q : Str) (i : Nat) : He.DefD := ⟨(x, some "__init__"), "__init__", q, defArgs (inClass (topS i) 0), defBody (inClass (topS i) 0), defScope (inClass (topS i) 0), [], []⟩
def fn : List He.DefD := ([dd "_law_digit" 19, dd "_law_pot" 18, dd "_law_name" 20, dd "_law_names" 21, dd "_law_kinds" 22, dd "_law_bases" 23, dd "_law_is" 24, dd "_law_forms_right" 26, dd "_law_others_right" 27, dd "_law_taken" 25] : List _) ++ ([dd "_law_fields_right" 28, dd "law" 29, dm "NoMap" "NoMap.__init__" 2, dm "NoTurn" "NoTurn.__init__" 3, dm "NoPlan" "NoPlan.__init__" 4, dm "NoText" "NoText.__init__" 5, dm "NoSuch" "NoSuch.__init__" 9, dm "Still" "Still.__init__" 10, dm "NoBar" "NoBar.__init__" 11, dm "Away" "Away.__init__" 12] : List _) ++ ([dm "Here" "Here.__init__" 13, dm "NoNews" "NoNews.__init__" 14, dm "Begun" "Begun.__init__" 15, dm "TooMany" "TooMany.__init__" 16] : List _)
def fa : List He.Fa := ([.glo "_law_digit", .glo "_law_pot", .glo "_law_name", .glo "_law_names", .glo "_law_kinds", .glo "_law_bases", .glo "_law_is", .glo "_law_forms_right", .glo "_law_others_right", .glo "_law_taken"] : List _) ++ ([.glo "_law_fields_right", .glo "law", .free "max", .free "min", .free "abs", .free "len", .free "range", .free "isinstance", .free "ValueError", .free "LookupError"] : List _) ++ ([.free "IndexError", .free "KeyError", .free "RuntimeError", .free "ArithmeticError", .glo "WalkError", .glo "NoMap", .glo "NoTurn", .glo "NoPlan", .glo "NoText", .glo "NoThing"] : List _) ++ ([.glo "NoWord", .glo "NoRow", .glo "NoSuch", .glo "Still", .glo "NoBar", .glo "Away", .glo "Here", .glo "NoNews", .glo "Begun", .glo "TooMany"] : List _)
def exA (K : PySem.W.Frag) : Bool := (((List.range 15).all fun j => excB K (cl K j)) && ((List.range 15).all fun j => (List.range 15).all fun k => decide (PySem.W.kitOne K (.ref (cl K j)) (.ref (cl K k)) = some (decide (k = j))))) && ((List.range 15).all fun j => (List.range 7).all fun k => decide (PySem.W.kitOne K (.ref (cl K j)) (bs K k) = some ((brow j).getD k false))) && ([4, 5, 6].all fun j => PySem.W.excIn K (cl K j) veT "ValueError.__new__" && PySem.W.keepIn K (.ref (cl K j))) && ((List.range 4).all fun j => decide (PySem.W.exmOne K (.ref (cl K j)) (.ref (He.ga K "WalkError")) = some true))
def exB (K : PySem.W.Frag) : Bool := exkB K (He.ga K "NoMap") [.type "ValueError", .type "Exception", .type "BaseException", .type "object"] "ValueError.__new__" ["what", "who"] && (exkB K (He.ga K "NoTurn") [.type "ValueError", .type "Exception", .type "BaseException", .type "object"] "ValueError.__new__" ["host", "walker"] && (exkB K (He.ga K "NoPlan") [.type "ValueError", .type "Exception", .type "BaseException", .type "object"] "ValueError.__new__" ["who"] && (exkB K (He.ga K "NoText") [.type "ValueError", .type "Exception", .type "BaseException", .type "object"] "ValueError.__new__" ["row"] && (exkB K (He.ga K "NoSuch") [.type "LookupError", .type "Exception", .type "BaseException", .type "object"] "LookupError.__new__" ["who"] && (exkB K (He.ga K "Still") [.type "IndexError", .type "LookupError", .type "Exception", .type "BaseException", .type "object"] "IndexError.__new__" ["source", "goal"] && (exkB K (He.ga K "NoBar") [.type "KeyError", .type "LookupError", .type "Exception", .type "BaseException", .type "object"] "LookupError.__new__" ["what", "mark"] && (exkB K (He.ga K "Away") [.type "RuntimeError", .type "Exception", .type "BaseException", .type "object"] "RuntimeError.__new__" ["who"] && (exkB K (He.ga K "Here") [.type "RuntimeError", .type "Exception", .type "BaseException", .type "object"] "RuntimeError.__new__" ["host", "walker"] && (exkB K (He.ga K "NoNews") [.type "RuntimeError", .type "Exception", .type "BaseException", .type "object"] "RuntimeError.__new__" ["host", "walker"] && (exkB K (He.ga K "Begun") [.type "RuntimeError", .type "Exception", .type "BaseException", .type "object"] "RuntimeError.__new__" ["host", "walker"] && (exkB K (He.ga K "TooMany") [.type "ArithmeticError", .type "Exception", .type "BaseException", .type "object"] "ArithmeticError.__new__" ["limit"])))))))))))
def ex (K : PySem.W.Frag) : Bool := exA K && exB K
abbrev R : PySem.W.OpenRow := PySem.W.OpenLaw.row PySem.Challenge.rw_walkbox_k17_refusals_told_apart
abbrev hk : PySem.W.Hook := He.hookX 4 fa fn [] [] ex
def ob (s : PySem.W.SharedT) : He.AlX := He.obsX 4 fa fn [] [] ex (HandSHeadRun.getT s)
theorem ob_eq (s : PySem.W.SharedT) : ob s = hk.obs s.abs := He.obsX_eq (HandSHeadRun.getT_eq s)
def names : List Str := (["WalkError", "NoMap", "NoTurn", "NoPlan", "NoText", "NoThing", "NoWord", "NoRow", "NoSuch", "Still", "NoBar", "Away"] : List Str) ++ (["Here", "NoNews", "Begun", "TooMany", "_law_pot", "_law_digit", "_law_name", "_law_names", "_law_kinds", "_law_bases", "_law_is", "_law_taken"] : List Str) ++ (["_law_forms_right", "_law_others_right", "_law_fields_right"] : List Str)
theorem run (w : World) : HandSHeadRun.RunEq R (PySem.W.view R.prog [29]) hk ob 8000 names w := by
  intro os
  kernel_rfl
theorem facts {P : Program} {w : World} {K : PySem.W.Frag} {h : Heap} {mg : Str → Option Value} {f : Addr} (X : K.In h) (G : h.Ns mainGlobals mg) (hfa : mg ("law" : Str) = some (.ref f)) (c : He.SaysX fa fn [] [] ex w h K) :
    ∃ fd : FuncData, (∀ (s : Shared) (v : Value), BindsTo s fd ⟨[v], []⟩ [("_law_script", v)]) ∧ ∀ base : Heap, K.In base → base.Ns mainGlobals mg → FnOk P w K mg base CX0 4 f fd ["_law_script"] (spLaw K) := by
  obtain ⟨fd, F0⟩ := He.SaysD.defs c.t.d (d := dd "law" 29) (List.mem_of_getElem? (i := 11) rfl)
  have e := hfa.symm.trans (He.glo_ok X G (c.t.d.fact 11 (f := .glo "law") rfl))
  cases e
  have b := FunD.bindsA (ps := ["_law_script"]) F0 fun _ _ _ _ _ _ us hl => match us, hl with | [_], _ => rfl
  have m : Mg mg := ⟨He.free_ok X G (c.t.d.fact 12 rfl), He.free_ok X G (c.t.d.fact 13 rfl), He.free_ok X G (c.t.d.fact 14 rfl), He.free_ok X G (c.t.d.fact 15 rfl), He.free_ok X G (c.t.d.fact 16 rfl), He.free_ok X G (c.t.d.fact 17 rfl), He.free_ok X G (c.t.d.fact 18 rfl), He.free_ok X G (c.t.d.fact 19 rfl), He.free_ok X G (c.t.d.fact 20 rfl), He.free_ok X G (c.t.d.fact 21 rfl), He.free_ok X G (c.t.d.fact 22 rfl), He.free_ok X G (c.t.d.fact 23 rfl)⟩
  have fg : ∀ x ∈ ("WalkError" : Str) :: c15, mg x = some (.ref (He.ga K x)) := fun x hx => He.glo_ok X G (He.SaysD.facts c.t.d (by
    have key : ∀ x ∈ ("WalkError" : Str) :: c15, ∃ i, i < 60 ∧ fa[i]? = some (.glo x) := by
      intro x hx
      simp only [c15, List.mem_cons, List.not_mem_nil, or_false] at hx
      rcases hx with rfl | rfl | rfl | rfl | rfl | rfl | rfl | rfl | rfl | rfl | rfl | rfl | rfl | rfl | rfl | rfl
      all_goals first | exact ⟨24, by decide, rfl⟩ | exact ⟨25, by decide, rfl⟩ | exact ⟨26, by decide, rfl⟩ | exact ⟨27, by decide, rfl⟩ | exact ⟨28, by decide, rfl⟩ | exact ⟨29, by decide, rfl⟩ | exact ⟨30, by decide, rfl⟩ | exact ⟨31, by decide, rfl⟩ | exact ⟨32, by decide, rfl⟩ | exact ⟨33, by decide, rfl⟩ | exact ⟨34, by decide, rfl⟩ | exact ⟨35, by decide, rfl⟩ | exact ⟨36, by decide, rfl⟩ | exact ⟨37, by decide, rfl⟩ | exact ⟨38, by decide, rfl⟩ | exact ⟨39, by decide, rfl⟩
    obtain ⟨i, _, hi⟩ := key x hx
    exact List.mem_of_getElem? hi))
  obtain ⟨eA, eB⟩ := and2 c.more
  obtain ⟨e1, e2⟩ := and2 eA
  obtain ⟨e1, e3⟩ := and2 e1
  obtain ⟨e1, e4⟩ := and2 e1
  obtain ⟨e1, e5⟩ := and2 e1
  have fx : Fx K mg := by
    refine ⟨fg, fun j hj => excB_ok (List.all_eq_true.mp e1 j (List.mem_range.mpr hj)), fun j hj k hk => ?_, fun j hj k hk => ?_, fun j hj h4 h6 => ?_, fun j hj => ?_⟩
    · exact of_decide_eq_true (List.all_eq_true.mp (List.all_eq_true.mp e5 j (List.mem_range.mpr hj)) k (List.mem_range.mpr hk))
    · exact of_decide_eq_true (List.all_eq_true.mp (List.all_eq_true.mp e4 j (List.mem_range.mpr hj)) k (List.mem_range.mpr hk))
    · exact and2 (List.all_eq_true.mp e3 j (by simp; omega))
    · exact of_decide_eq_true (List.all_eq_true.mp e2 j (List.mem_range.mpr hj))
  obtain ⟨e_NoMap, eB⟩ := and2 eB
  obtain ⟨e_NoTurn, eB⟩ := and2 eB
  obtain ⟨e_NoPlan, eB⟩ := and2 eB
  obtain ⟨e_NoText, eB⟩ := and2 eB
  obtain ⟨e_NoSuch, eB⟩ := and2 eB
  obtain ⟨e_Still, eB⟩ := and2 eB
  obtain ⟨e_NoBar, eB⟩ := and2 eB
  obtain ⟨e_Away, eB⟩ := and2 eB
  obtain ⟨e_Here, eB⟩ := and2 eB
  obtain ⟨e_NoNews, eB⟩ := and2 eB
  obtain ⟨e_Begun, eB⟩ := and2 eB
  have e_TooMany := eB
  have dA : ∀ (i j : Nat) (x : Str) (_ : fn[i]? = some (dd x j)) (_ : fa[i]? = some (.glo x)), DefAt K mg x (topS j) := fun i j x h1 h2 => by
    obtain ⟨fd, F⟩ := He.SaysD.defs c.t.d (List.mem_of_getElem? h1)
    exact ⟨_, fd, fun_of_funD F, He.glo_ok X G (He.SaysD.facts c.t.d (List.mem_of_getElem? h2))⟩
  refine ⟨fd, fun s v => b s [v] rfl, fun base _ _ => ?_⟩
  obtain ⟨fd_NoMap, F_NoMap⟩ := c.t.d.def_ 12 (d := dm "NoMap" "NoMap.__init__" 2) rfl
  have n_NoMap : (Exq P w K mg base "NoMap" (He.ga K "NoMap") [.type "ValueError", .type "Exception", .type "BaseException", .type "object"] "ValueError" "ValueError.__new__" "ValueError.__init__" [.type "ValueError", .type "Exception", .type "BaseException", .type "object"] ["what", "who"] ["what", "who"] false) := xq_NoMap F_NoMap (e_NoMap) (fg "NoMap" (by decide +kernel))
  obtain ⟨fd_NoTurn, F_NoTurn⟩ := c.t.d.def_ 13 (d := dm "NoTurn" "NoTurn.__init__" 3) rfl
  have n_NoTurn : (Exq P w K mg base "NoTurn" (He.ga K "NoTurn") [.type "ValueError", .type "Exception", .type "BaseException", .type "object"] "ValueError" "ValueError.__new__" "ValueError.__init__" [.type "ValueError", .type "Exception", .type "BaseException", .type "object"] ["host", "walker"] ["walker", "host"] true) := xq_NoTurn F_NoTurn (e_NoTurn) (fg "NoTurn" (by decide +kernel))
  obtain ⟨fd_NoPlan, F_NoPlan⟩ := c.t.d.def_ 14 (d := dm "NoPlan" "NoPlan.__init__" 4) rfl
  have n_NoPlan : (Exq P w K mg base "NoPlan" (He.ga K "NoPlan") [.type "ValueError", .type "Exception", .type "BaseException", .type "object"] "ValueError" "ValueError.__new__" "ValueError.__init__" [.type "ValueError", .type "Exception", .type "BaseException", .type "object"] ["who"] ["who"] false) := xq_NoPlan F_NoPlan (e_NoPlan) (fg "NoPlan" (by decide +kernel))
  obtain ⟨fd_NoText, F_NoText⟩ := c.t.d.def_ 15 (d := dm "NoText" "NoText.__init__" 5) rfl
  have n_NoText : (Exq P w K mg base "NoText" (He.ga K "NoText") [.type "ValueError", .type "Exception", .type "BaseException", .type "object"] "ValueError" "ValueError.__new__" "ValueError.__init__" [.type "ValueError", .type "Exception", .type "BaseException", .type "object"] ["row"] ["row"] false) := xq_NoText F_NoText (e_NoText) (fg "NoText" (by decide +kernel))
  obtain ⟨fd_NoSuch, F_NoSuch⟩ := c.t.d.def_ 16 (d := dm "NoSuch" "NoSuch.__init__" 9) rfl
  have n_NoSuch : (Exq P w K mg base "NoSuch" (He.ga K "NoSuch") [.type "LookupError", .type "Exception", .type "BaseException", .type "object"] "LookupError" "LookupError.__new__" "LookupError.__init__" [.type "LookupError", .type "Exception", .type "BaseException", .type "object"] ["who"] ["who"] false) := xq_NoSuch F_NoSuch (e_NoSuch) (fg "NoSuch" (by decide +kernel))
  obtain ⟨fd_Still, F_Still⟩ := c.t.d.def_ 17 (d := dm "Still" "Still.__init__" 10) rfl
  have n_Still : (Exq P w K mg base "Still" (He.ga K "Still") [.type "IndexError", .type "LookupError", .type "Exception", .type "BaseException", .type "object"] "IndexError" "IndexError.__new__" "IndexError.__init__" [.type "IndexError", .type "LookupError", .type "Exception", .type "BaseException", .type "object"] ["source", "goal"] ["goal", "source"] true) := xq_Still F_Still (e_Still) (fg "Still" (by decide +kernel))
  obtain ⟨fd_NoBar, F_NoBar⟩ := c.t.d.def_ 18 (d := dm "NoBar" "NoBar.__init__" 11) rfl
  have n_NoBar : (Exq P w K mg base "NoBar" (He.ga K "NoBar") [.type "KeyError", .type "LookupError", .type "Exception", .type "BaseException", .type "object"] "LookupError" "LookupError.__new__" "LookupError.__init__" [.type "LookupError", .type "Exception", .type "BaseException", .type "object"] ["what", "mark"] ["mark", "what"] true) := xq_NoBar F_NoBar (e_NoBar) (fg "NoBar" (by decide +kernel))
  obtain ⟨fd_Away, F_Away⟩ := c.t.d.def_ 19 (d := dm "Away" "Away.__init__" 12) rfl
  have n_Away : (Exq P w K mg base "Away" (He.ga K "Away") [.type "RuntimeError", .type "Exception", .type "BaseException", .type "object"] "RuntimeError" "RuntimeError.__new__" "RuntimeError.__init__" [.type "RuntimeError", .type "Exception", .type "BaseException", .type "object"] ["who"] ["who"] false) := xq_Away F_Away (e_Away) (fg "Away" (by decide +kernel))
  obtain ⟨fd_Here, F_Here⟩ := c.t.d.def_ 20 (d := dm "Here" "Here.__init__" 13) rfl
  have n_Here : (Exq P w K mg base "Here" (He.ga K "Here") [.type "RuntimeError", .type "Exception", .type "BaseException", .type "object"] "RuntimeError" "RuntimeError.__new__" "RuntimeError.__init__" [.type "RuntimeError", .type "Exception", .type "BaseException", .type "object"] ["host", "walker"] ["host", "walker"] false) := xq_Here F_Here (e_Here) (fg "Here" (by decide +kernel))
  obtain ⟨fd_NoNews, F_NoNews⟩ := c.t.d.def_ 21 (d := dm "NoNews" "NoNews.__init__" 14) rfl
  have n_NoNews : (Exq P w K mg base "NoNews" (He.ga K "NoNews") [.type "RuntimeError", .type "Exception", .type "BaseException", .type "object"] "RuntimeError" "RuntimeError.__new__" "RuntimeError.__init__" [.type "RuntimeError", .type "Exception", .type "BaseException", .type "object"] ["host", "walker"] ["walker", "host"] true) := xq_NoNews F_NoNews (e_NoNews) (fg "NoNews" (by decide +kernel))
  obtain ⟨fd_Begun, F_Begun⟩ := c.t.d.def_ 22 (d := dm "Begun" "Begun.__init__" 15) rfl
  have n_Begun : (Exq P w K mg base "Begun" (He.ga K "Begun") [.type "RuntimeError", .type "Exception", .type "BaseException", .type "object"] "RuntimeError" "RuntimeError.__new__" "RuntimeError.__init__" [.type "RuntimeError", .type "Exception", .type "BaseException", .type "object"] ["host", "walker"] ["walker", "host"] true) := xq_Begun F_Begun (e_Begun) (fg "Begun" (by decide +kernel))
  obtain ⟨fd_TooMany, F_TooMany⟩ := c.t.d.def_ 23 (d := dm "TooMany" "TooMany.__init__" 16) rfl
  have n_TooMany : (Exq P w K mg base "TooMany" (He.ga K "TooMany") [.type "ArithmeticError", .type "Exception", .type "BaseException", .type "object"] "ArithmeticError" "ArithmeticError.__new__" "ArithmeticError.__init__" [.type "ArithmeticError", .type "Exception", .type "BaseException", .type "object"] ["limit"] ["limit"] false) := xq_TooMany F_TooMany (e_TooMany) (fg "TooMany" (by decide +kernel))
  have c__law_digit := ok__law_digit (P := P) (w := w) (base := base) (dA 0 19 _ rfl rfl)
  have c__law_pot := ok__law_pot (P := P) (w := w) (base := base) (dA 1 18 _ rfl rfl) m
  have c__law_name := ok__law_name (P := P) (w := w) (base := base) (dA 2 20 _ rfl rfl) m c__law_digit
  have c__law_names := ok__law_names (P := P) (w := w) (base := base) (dA 3 21 _ rfl rfl) m c__law_name
  have c__law_kinds := ok__law_kinds (P := P) (w := w) (base := base) (dA 4 22 _ rfl rfl) m fx
  have c__law_bases := ok__law_bases (P := P) (w := w) (base := base) (dA 5 23 _ rfl rfl) m fx
  have c__law_is := ok__law_is (P := P) (w := w) (base := base) (dA 6 24 _ rfl rfl) m c__law_kinds c__law_bases
  have c__law_forms_right := ok__law_forms_right (P := P) (w := w) (base := base) (dA 7 26 _ rfl rfl) fx c__law_is n_NoMap n_NoTurn n_NoPlan n_NoText n_NoSuch
  have c__law_others_right := ok__law_others_right (P := P) (w := w) (base := base) (dA 8 27 _ rfl rfl) fx c__law_is n_Still n_NoBar n_Away n_Here n_NoNews n_Begun n_TooMany
  have c__law_taken := ok__law_taken (P := P) (w := w) (base := base) (dA 9 25 _ rfl rfl) m fx n_NoTurn n_NoMap n_NoText
  have c__law_fields_right := ok__law_fields_right (P := P) (w := w) (base := base) (dA 10 28 _ rfl rfl) n_NoMap n_NoTurn n_NoBar n_Still n_Here n_NoNews n_Begun n_NoText n_TooMany n_NoPlan n_NoSuch n_Away
  exact ok_law (fun_of_funD F0) m c__law_pot c__law_names c__law_digit c__law_forms_right c__law_others_right c__law_taken c__law_fields_right
end Gj
open PySem PySem.W PySem.Calls PyProof.Rows
theorem PySem.Challenge.cw_walkbox_k17_refusals_told_apart_holds : PySem.Challenge.rw_walkbox_k17_refusals_told_apart.Holds := by
  w_on; o_law
  refine HandSHeadRun.head_any (r := OpenLaw.row PySem.Challenge.rw_walkbox_k17_refusals_told_apart) (q := view (OpenLaw.row PySem.Challenge.rw_walkbox_k17_refusals_told_apart).prog [29]) (H := Gj.hk) (ob := Gj.ob) (M := 8000) (loose := Gj.names) (d := HandSHeadRun.topDef (OpenLaw.row PySem.Challenge.rw_walkbox_k17_refusals_told_apart).prog 29) (kwd := []) Gj.ob_eq
    (by kernel_rfl) (fun s => by kernel_rfl) Gj.run (by kernel_rfl) (by kernel_rfl) (by kernel_rfl) (by rfl) (by first | assumption | decide +kernel) (by decide +kernel) ⟨rfl, rfl, rfl, rfl, rfl, by decide +kernel⟩ ?hw ?hc
  case hw => w_witness2
  case hc =>
    refine L2.walk_ofE (l := PySem.Challenge.rw_walkbox_k17_refusals_told_apart) (n := 63) (k := 4) (x := "_law_script") (CX := L2.CX0) rfl (by decide) (by kernel_rfl) ⟨rfl, by decide, by decide⟩ ?F (fun _ _ _ _ z => z)
    intro w mg fa h Y G hmg0
    obtain ⟨K, KX, c⟩ := Y
    have hmg : mg ("law" : PySem.Str) = some (.ref fa) := by
      have e : (HandSHeadRun.topDef (OpenLaw.row PySem.Challenge.rw_walkbox_k17_refusals_told_apart).prog 29).name = ("law" : PySem.Str) := by kernel_rfl
      rw [← e]
      exact hmg0
    obtain ⟨fd, hb, hF⟩ := Gj.facts (P := (PySem.Challenge.rw_walkbox_k17_refusals_told_apart).prog) (w := w) KX G hmg c
    exact ⟨K, fd, Gj.spLaw K, KX, hb, fun H a ns hl _ hS => ⟨a, ns, rfl, hS, hl, fun _ => rfl⟩, hF⟩
