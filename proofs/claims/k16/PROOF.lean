import PyProof.Rows.All
import Wide.All
import OpenK.AllK
import Wide.FinOn
import HandS.ForMost
import HandS.Walk
import HandS.Wide
import HandS.IsInst
import HandS.Codes
import HandS.RaiseMore
import PyProof.NeKinds
import HandS.TupAny
import HandS.Deep
import HandS.Strs
import PyProof.ReprRoads
import HandS.HeadEnd
import HandS.Words
import HandS.Defaults
import HandS.MakeKwOnly
import HandS.TupLe
import HandS.FStrTup
import KE.GoesMore
import HandS.Iter
import HandS.Replace
import PyProof.StrLawsChain
import HandS.Exc
import HandS.ExcInit
import HandS.ExcField
import HandS.ExcIs
import HandS.ExcValue
import HandS.ExcOwn
import HandS.WordsExc
import KE.KExcInit
import KE.KExcIs
import HandS.MakeKw
import HandS.TryOnly
import HandS.OwnEq
import HandS.SetFor
import HandS.SortInts
import PyProof.ReprLen
import HandS.Evl
import HandS.SortKw
import KE.DataMinMax
import PyProof.FactsTree
import PyProof.RulesRaise
import HandS.HeadHook1
import HandS.HeadHook2
import HandS.TryMany
import HandS.Lambda
import HandS.HotCalls
import HandS.ExcInitHot
import HandS.CallSlots
import HandS.Zip
import KE.GoesEnum
import KE.IntTextText
import PyProof.Rows.StrJoinRep
import HandS.Steps
import HandS.Flow
import HandS.NoneIn
import HandS.Style
import HandS.Head0
import HandS.Head1
import HandS.Head2
import HandS.HeadHook3
import HandS.HeadHook4
import KE.KStateDown
import Lean
import PySem.Challenge.RW_walkbox_k16_whole_texts_nearly_good
set_option Elab.async false
set_option linter.all false
set_option maxRecDepth 100000
/-! own layer: defs by name, a pot of digits, two further rules -/
namespace Gj
open PySem PySem.Spec PyProof.Rows L2
open C8 (Cal pe_c pe_gc)
/-- the def st stands at the module's name x -/
def DefAt (K : PySem.W.Frag) (mg : Str → Option Value) (x : Str) (st : Stmt) : Prop := ∃ f fd, Fun K x x st f fd ∧ mg x = some (.ref f)
section
variable {P : Program} {w : World} {K : PySem.W.Frag} {mg : Str → Option Value} {base : Heap}
theorem mkCal {x : Str} {st : Stmt} {N ps : List Str} {k : Nat} {sp : Sp} (D : DefAt K mg x st)
    (hb : ∀ (kV doc pm : Value) (an : Option Addr) (cdv ct : Value) (us : List Value), us.length = ps.length → bindArgs (PySem.W.fnOf x x (defArgs st) (defBody st) (defScope st) .none kV doc pm an cdv ct) ⟨us, []⟩ = pure (ps.zip us))
    (S : FnScope N ps (defScope st)) (len : ∀ vs H Q E, sp vs H Q E → vs.length = ps.length)
    (hbody : ∀ (f : Addr) (cdv : Value) (A : Around) (outer : List Env) (s : Shared) (H : Hp) (vs : List V) (Q : VK) (E : XK), Room k (A.deeper (envOfC x (defScope st) s.heap.objs.size f cdv)) → sp vs H Q E →
      ∃ t, PSs (cxOf CX0 P w K mg base N x (defScope st) f cdv A outer s H E).nox (defBody st) t ∧ t { nx := fun _ H' => Q .non H', rt := Q } (start N vs) H) : C8.Cal P w K mg base (k + 1) x sp [] := by
  obtain ⟨f, fd, F, g⟩ := D
  exact ⟨f, fd, ps, [], F.ok S len (hbody f), g, F.kp, F.binds hb, .nil⟩
end
/-! ### two rules -/
section
variable {X : Cx}
theorem call_repr_bool : CallR X (.builtin "repr") (fun xs H Q => ∃ b, xs = [.bl b] ∧ Q (.str (if b then "True" else "False")) H) := by
  intro pins s σ H xs us Q I r h
  obtain ⟨b, rfl, q⟩ := h
  obtain ⟨u, rfl, rfl⟩ := vals1 r
  exact PySem.P.repr_of_bool ⟨.str _, H, I.tok _, ⟨_, rfl⟩, q⟩
theorem op_mul_str : OpR X (binaryOp .Mult) (fun x y H Q => ∃ z n, x = .str z ∧ y = .int n ∧ MulOk z n ∧ Q (.str (Txt.mul z n)) H) := by
  intro pins s σ H x y v u Q I rx ry h
  obtain ⟨z, n, rfl, rfl, hz, q⟩ := h
  obtain ⟨t, rfl⟩ := rx
  obtain ⟨t', rfl⟩ := ry
  exact PySem.SB.mul hz fun t' k => ⟨.str _, H, I.tok _, ⟨_, rfl⟩, q⟩
end
/-! ### heaps but for one place -/
def Keep (p : Addr) (H H' : Hp) : Prop := ∀ b o, b ≠ p → H b = some o → H' b = some o
theorem Keep.refl {p : Addr} {H : Hp} : Keep p H H := fun _ _ _ h => h
theorem Keep.trans {p : Addr} {H H1 H2 : Hp} (a : Keep p H H1) (b : Keep p H1 H2) : Keep p H H2 := fun c o n h => b c o n (a c o n h)
theorem Keep.here {p : Addr} {H : Hp} {o : HO} : Keep p H (upd H p o) := fun b x n e => by rw [upd_ne n]; exact e
theorem Same.keep {p : Addr} {H H' : Hp} (a : Same H H') : Keep p H H' := fun b o _ h => a b o h
theorem same_new {H : Hp} {p : Addr} {o : HO} (h : H p = none) : Same H (upd H p o) := fun b x e => by rw [upd_ne (ne_of_none e h)]; exact e
theorem Keep.new {p q : Addr} {H : Hp} {o : HO} (h : H q = none) : Keep p H (upd H q o) := Same.keep (same_new h)
/-! ### a pot of digits -/
def Pot (H : Hp) (p : Addr) : Prop := ∃ a b : Int, H p = some (.lst [.int a, .int b]) ∧ 0 ≤ a ∧ 0 ≤ b ∧ b < 4294967296
theorem Pot.new {H : Hp} {p q : Addr} {o : HO} (h : Pot H p) (n : H q = none) : Pot (upd H q o) p := by
  obtain ⟨a, b, e, r⟩ := h
  exact ⟨a, b, by rw [upd_ne (ne_of_none e n)]; exact e, r⟩
theorem Pot.ne {H : Hp} {p q : Addr} (h : Pot H p) (n : H q = none) : q ≠ p := by
  obtain ⟨a, b, e, r⟩ := h
  exact (ne_of_none e n).symm
theorem Pot.put {H : Hp} {p : Addr} {a b : Int} (h0 : 0 ≤ a) (h1 : 0 ≤ b) (h2 : b < 4294967296) : Pot (upd H p (.lst [.int a, .int b])) p := ⟨a, b, upd_same, h0, h1, h2⟩
/-- what a def that draws of a pot leaves: the pot, and all else as it was -/
structure Drawn (p : Addr) (H H' : Hp) : Prop where
  keep : Keep p H H'
  pot : Pot H' p
theorem Drawn.trans {p : Addr} {H H1 H2 : Hp} (a : Drawn p H H1) (b : Drawn p H1 H2) : Drawn p H H2 := ⟨a.keep.trans b.keep, b.pot⟩
theorem Drawn.new {p q : Addr} {H H' : Hp} {o : HO} (a : Drawn p H H') (h : H' q = none) : Drawn p H (upd H' q o) := ⟨a.keep.trans (Keep.new h), a.pot.new h⟩
def spDigit : Sp := fun vs H Q _ => ∃ (p : Addr) (n : Int), vs = [.ref p, .int n] ∧ Pot H p ∧ 0 < n ∧ n.natAbs.log2 < 9000 ∧ ∀ (d : Int) (H' : Hp), 0 ≤ d → d < n → Drawn p H H' → Q (.int d) H'
def spPot (K : PySem.W.Frag) : Sp := fun vs H Q _ => ∃ (a : Addr) (ns : List Int) (k : Int), vs = [.ref a, .int k] ∧ SqL K H a (ns.map V.int) ∧ 0 ≤ k ∧ k ≤ 1000000 ∧ ∀ (p : Addr) (H' : Hp), H p = none → Same H H' → Pot H' p → Q (.ref p) H'
end Gj

namespace Gj
open PySem PySem.Spec PyProof.Rows L2
open C8 (Cal pe_c pe_gc)
theorem at_some {α : Type} {xs : List α} {d : Int} (h0 : 0 ≤ d) (h1 : d < xs.length) : ∃ x, x ∈ xs ∧ atI xs d = some x := by
  have h : d.toNat < xs.length := by omega
  exact ⟨xs[d.toNat], List.getElem_mem h, at_of' h0 h⟩
where
  at_of' {α : Type} {xs : List α} {d : Int} (h0 : 0 ≤ d) (h : d.toNat < xs.length) : atI xs d = some xs[d.toNat] := by
    have e : d = (d.toNat : Int) := by omega
    have g : xs[d.toNat]? = some xs[d.toNat] := List.getElem?_eq_getElem h
    have := atI_nat g
    rw [← e] at this
    exact this
theorem take_snoc {α : Type} {l : List α} {i : Nat} {x : α} (h : l[i]? = some x) : l.take (i + 1) = l.take i ++ [x] := by
  rw [List.take_add_one, h]
  rfl
theorem Keep.same {p : Addr} {H H' : Hp} (h : Keep p H H') (n : H p = none) : Same H H' := fun b o e => h b o (ne_of_none e n) e
theorem Pot.same {H H' : Hp} {p : Addr} (h : Pot H p) (s : Same H H') : Pot H' p := by
  obtain ⟨a, b, e, r⟩ := h
  exact ⟨a, b, s _ _ e, r⟩
theorem Drawn.same {p : Addr} {H H' H2 : Hp} (a : Drawn p H H') (s : Same H' H2) : Drawn p H H2 := ⟨a.keep.trans (Same.keep s), a.pot.same s⟩
/-! ### a comprehension that draws signs, joined -/
theorem joinL_ones : ∀ l : List Nat, TL.joinL [] (l.map fun c => [c]) = l
  | [] => rfl
  | [_] => rfl
  | a :: b :: r => by
    show [a] ++ ([] ++ TL.joinL [] ((b :: r).map fun c => [c])) = a :: b :: r
    rw [joinL_ones (b :: r)]
    rfl
theorem join_signs (cs : List Nat) : Txt.join "" (cs.map fun c => SX.S [c]) = SX.S cs := by
  have e1 : (cs.map fun c => SX.S [c]) = (cs.map fun c => [c]).map SX.S := by rw [List.map_map]; rfl
  rw [e1, show ("" : Str) = SX.S [] from rfl, SX.join_S, joinL_ones]
/-- i signs of the kind G are drawn into the list at D -/
def Signs (G : Nat → Prop) (p D : Addr) (H : Hp) (i : Nat) (H' : Hp) : Prop := ∃ cs : List Nat, cs.length = i ∧ (∀ c ∈ cs, G c) ∧ Drawn p H H' ∧ D ≠ p ∧ H' D = some (.lst (cs.map fun c => V.str (SX.S [c])))
theorem Signs.start {G : Nat → Prop} {p D : Addr} {H : Hp} (hp : Pot H p) (hD : H D = none) : Signs G p D H 0 (upd H D (.lst [])) := ⟨[], rfl, (fun _ h => by cases h), ⟨Keep.new hD, hp.new hD⟩, hp.ne hD, upd_same⟩
theorem Signs.pot {G : Nat → Prop} {p D : Addr} {H H' : Hp} {i : Nat} (h : Signs G p D H i H') : Pot H' p := by
  obtain ⟨_, _, _, d, _⟩ := h
  exact d.pot
theorem Signs.next {G : Nat → Prop} {p D : Addr} {H H1 H2 : Hp} {i n : Nat} {c : Nat} (hi : i < n) (hn : n ≤ 1000) (hs : Signs G p D H i H1) (hD : H D = none) (r : Drawn p H1 H2) (hc : G c) :
    ∃ acc, H2 D = some (.lst acc) ∧ acc.length < sizeLine ∧ Signs G p D H (i + 1) (upd H2 D (.lst (acc ++ [.str ⟨#[c]⟩]))) := by
  obtain ⟨cs, hl, hg, dr, ne, e⟩ := hs
  refine ⟨_, r.keep _ _ ne e, ?_, cs ++ [c], ?_, ?_, ⟨fun b o nb eb => ?_, ?_⟩, ne, ?_⟩
  · rw [List.length_map]
    exact small1000 (by omega)
  · rw [List.length_append, hl]
    rfl
  · intro x hx
    rcases List.mem_append.mp hx with h | h
    · exact hg x h
    · rw [List.mem_singleton.mp h]
      exact hc
  · rw [upd_ne (ne_of_none eb hD)]
    exact r.keep _ _ nb (dr.keep _ _ nb eb)
  · obtain ⟨a, b, e2, z⟩ := r.pot
    exact ⟨a, b, by rw [upd_ne ne.symm]; exact e2, z⟩
  · rw [upd_same, List.map_append]
    rfl
theorem Signs.join {G : Nat → Prop} {p D : Addr} {H H1 : Hp} {n : Nat} (hn : n ≤ 1000) (hs : Signs G p D H n H1) :
    ∃ (cs : List Nat) (ys : List Str), cs.length = n ∧ (∀ c ∈ cs, G c) ∧ Drawn p H H1 ∧ H1 D = some (.lst (ys.map V.str)) ∧ (ys.map (·.length)).sum + ys.length * (PySem.Str.ofString "").length ≤ 16777216 ∧ Txt.join "" ys = SX.S cs := by
  obtain ⟨cs, hl, hg, dr, ne, e⟩ := hs
  have e2 : ((cs.map fun c => SX.S [c]).map (·.length)).sum = cs.length := by
    clear e dr hl hg
    induction cs with
    | nil => rfl
    | cons x l ih =>
      rw [List.map_cons, List.map_cons, List.sum_cons, ih, List.length_cons]
      show 1 + l.length = l.length + 1
      omega
  refine ⟨cs, cs.map fun c => SX.S [c], hl, hg, dr, ?_, ?_, join_signs cs⟩
  · rw [e, List.map_map]
    rfl
  · rw [e2]
    have : (PySem.Str.ofString "").length = 0 := rfl
    rw [this]
    omega
end Gj

/-! own layer: names by a pot -/
namespace Gj
open PySem PySem.Spec PyProof.Rows L2
open C8 (Cal pe_c pe_gc)
section
variable {X : Cx}
/-- xs != [], t != () -/
def rNeE (K : PySem.W.Frag) : R2 := fun x y H Q => ∃ (a b : Addr) (xs : List V), x = .ref a ∧ y = .ref b ∧ ((SqL K H a xs ∧ SqL K H b []) ∨ (SqT K H a xs ∧ SqT K H b [])) ∧ Q (.bl (!xs.isEmpty)) H
theorem op_neE (hu : X.A.units + 64 < cLine) : OpR X (compareOp .NotEq) (rNeE X.K) := by
  intro pins s σ H x y v u Q I rx ry h
  obtain ⟨a, b, xs, rfl, rfl, hq, q⟩ := h
  cases rx
  cases ry
  have hu0 : X.A.units < cLine := by omega
  rcases hq with ⟨h1, h2⟩ | ⟨h1, h2⟩
  · obtain ⟨its, r1, p1, _⟩ := I.list h1
    obtain ⟨ks, r2, p2, _⟩ := I.list h2
    cases r2
    cases xs with
    | nil =>
      cases r1
      exact SeqAt.RcNeAt.lists (e := fun _ => true) p1.isList p2.isList rfl hu0 (fun j h1 h2 => absurd h1 (Nat.not_lt_zero _)) X.prog X.w _ _ ⟨.bl _, H, I, rfl, q⟩
    | cons z l =>
      cases r1
      exact SeqAt.RcNeAt.lists_lengths p1.isList p2.isList (by simp) hu0 X.prog X.w _ _ ⟨.bl _, H, I, rfl, q⟩
  · obtain ⟨its, r1, p1, _⟩ := I.tuple h1
    obtain ⟨ks, r2, p2, _⟩ := I.tuple h2
    cases r2
    have := SeqAt.RcNeAt.tuples (A := X.A) (e := fun _ => true) p1 p2 hu0 (fun j h1 h2 => absurd h2 (Nat.not_lt_zero _)) X.prog X.w X.xe (EP X pins σ Q)
    refine this ⟨.bl _, H, I, ?_, q⟩
    cases xs with
    | nil =>
      cases r1
      rfl
    | cons z l =>
      cases r1
      simp
      rfl
end
/-! ### names -/
abbrev ltrs : List Nat := (PySem.Str.ofString "abcdefghijklmnopqrstuvwxyz").cps.toList
structure NameS (z : Str) : Prop where
  ex : ∃ cs : List Nat, z = SX.S cs ∧ 1 ≤ cs.length ∧ cs.length ≤ 8 ∧ ∀ c ∈ cs, c ∈ ltrs
theorem NameS.len {z : Str} (h : NameS z) : z.length ≤ 8 := by
  obtain ⟨cs, rfl, h1, h2, _⟩ := h.ex
  rw [SX.S_len]
  exact h2
theorem NameS.small {z : Str} (h : NameS z) : z.length ≤ 1000 := Nat.le_trans h.len (by decide)
theorem name_one {c : Nat} (h : c ∈ ltrs) : NameS (SX.S [c]) := ⟨[c], rfl, Nat.le_refl _, (by show 1 ≤ 8; decide), fun x hx => by rw [List.mem_singleton.mp hx]; exact h⟩
/-- a list without doubles within another one -/
theorem nodup_le {α : Type} [DecidableEq α] : ∀ (l D : List α), l.Nodup → (∀ x ∈ l, x ∈ D) → l.length ≤ D.length
  | [], _, _, _ => Nat.zero_le _
  | x :: l, D, hn, hs => by
    obtain ⟨h1, h2⟩ := List.nodup_cons.mp hn
    have hx : x ∈ D := hs x List.mem_cons_self
    have ih := nodup_le l (D.erase x) h2 fun y hy => (List.mem_erase_of_ne (fun e : y = x => h1 (e ▸ hy))).mpr (hs y (List.mem_cons_of_mem _ hy))
    have e := List.length_erase_of_mem hx
    have hp := List.length_pos_of_mem hx
    rw [List.length_cons]
    omega
theorem fresh_letter {us : List Str} (h : us.length ≤ 25) : ∃ c ∈ ltrs, SX.S [c] ∉ us := by
  rcases Classical.em (∃ c ∈ ltrs, SX.S [c] ∉ us) with q | q
  · exact q
  · exfalso
    have sub : ∀ z ∈ ltrs.map (fun c => SX.S [c]), z ∈ us := fun z hz => by
      obtain ⟨c, hc, rfl⟩ := List.mem_map.mp hz
      rcases Classical.em (SX.S [c] ∈ us) with k | k
      · exact k
      · exact absurd ⟨c, hc, k⟩ q
    have nd : (ltrs.map fun c => SX.S [c]).Nodup := by decide +kernel
    have := nodup_le _ us nd sub
    rw [List.length_map] at this
    have e : ltrs.length = 26 := by decide +kernel
    omega
def spName : Sp := fun vs H Q _ => ∃ (p u : Addr) (us : List Str), vs = [.ref p, .ref u] ∧ Pot H p ∧ u ≠ p ∧ H u = some (.lst (us.map V.str)) ∧ (∀ z ∈ us, NameS z) ∧ us.length ≤ 25 ∧ ∀ (z : Str) (H' : Hp), NameS z → z ∉ us → Drawn p H H' → Q (.str z) H'
def spNames : Sp := fun vs H Q _ => ∃ (p u : Addr) (us : List Str) (n : Nat), vs = [.ref p, .int (n : Nat), .ref u] ∧ Pot H p ∧ u ≠ p ∧ H u = some (.lst (us.map V.str)) ∧ (∀ z ∈ us, NameS z) ∧ us.length + n ≤ 25 ∧
  ∀ (q : Addr) (zs : List Str) (H' : Hp), H q = none → q ≠ p → zs.length = n → (∀ z ∈ zs, NameS z) → zs.Nodup → (∀ z ∈ zs, z ∉ us) → Drawn p H H' → H' q = some (.lst (zs.map V.str)) → Q (.ref q) H'
/-! ### words -/
abbrev wrds : List Nat := (PySem.Str.ofString "abcdefghijklmnopqrstuvwxyz0123456789").cps.toList
structure WordS (z : Str) : Prop where
  ex : ∃ cs : List Nat, z = SX.S cs ∧ 1 ≤ cs.length ∧ cs.length ≤ 12 ∧ ∀ c ∈ cs, c ∈ wrds
theorem WordS.small {z : Str} (h : WordS z) : z.length ≤ 1000 := by
  obtain ⟨cs, rfl, h1, h2, _⟩ := h.ex
  rw [SX.S_len]
  omega
def spWord : Sp := fun vs H Q _ => ∃ (p : Addr), vs = [.ref p] ∧ Pot H p ∧ ∀ (z : Str) (H' : Hp), WordS z → Drawn p H H' → Q (.str z) H'
def spWhole : Sp := fun vs H Q _ => ∃ (p : Addr) (n : Int), vs = [.ref p, .int n] ∧ Pot H p ∧ ∀ (i : Int) (H' : Hp), n ≤ i → i < n + 10 ^ 30 → Drawn p H H' → Q (.int i) H'
theorem inV_strs {z : Str} {us : List Str} : inV (.str z) (us.map V.str) = decide (z ∈ us) := by
  induction us with
  | nil => rfl
  | cons y l ih =>
    show (eqV (.str y) (.str z) || inV (.str z) (l.map V.str)) = _
    rw [ih]
    show ((y == z) || decide (z ∈ l)) = decide (z ∈ y :: l)
    by_cases e : z = y
    · subst e
      rw [beq_self_eq_true, decide_eq_true (List.mem_cons_self)]
      rfl
    · rw [beq_eq_false_iff_ne.mpr fun h => e h.symm]
      by_cases h : z ∈ l
      · rw [decide_eq_true h, decide_eq_true (List.mem_cons_of_mem _ h)]
        rfl
      · rw [decide_eq_false h, decide_eq_false fun q => (List.mem_cons.mp q).elim e h]
        rfl
theorem flat_strs (us : List Str) : (us.map V.str).all flatV = true := by
  induction us with
  | nil => rfl
  | cons y l ih => exact ih
end Gj

namespace Gj
open PySem PySem.Spec PyProof.Rows L2
open C8 (Cal pe_c pe_gc)
def topS (i : Nat) : Stmt := PySem.Challenge.pw_walkbox_k16_whole_texts_nearly_good.main.body.getD i (.Pass ⟨0, 0, 0, 0⟩)
structure Mg (mg : Str → Option Value) : Prop where
  len : mg "len" = none
  isinstance : mg "isinstance" = none
  str : mg "str" = none
  all : mg "all" = none
  any : mg "any" = none
  max : mg "max" = none
  min : mg "min" = none
  abs : mg "abs" = none
  range : mg "range" = none
  int : mg "int" = none
  repr : mg "repr" = none
  tuple : mg "tuple" = none
  bool : mg "bool" = none
  set : mg "set" = none
  list : mg "list" = none
  enumerate : mg "enumerate" = none
  zip : mg "zip" = none
  dict : mg "dict" = none
  ValueError : mg "ValueError" = none
section
variable {P : Program} {w : World} {K : PySem.W.Frag} {mg : Str → Option Value} {base : Heap}
theorem sc__law_digit : FnScope ["_law_pot_here", "_law_many", "_law_digit_here"] ["_law_pot_here", "_law_many"] (defScope (topS 32)) := ⟨rfl, rfl, rfl, by decide +kernel, rfl, by decide +kernel, by decide +kernel⟩
theorem ok__law_digit (D : DefAt K mg "_law_digit" (topS 32)) : Cal P w K mg base 1 "_law_digit" spDigit [] := by
  have sc := sc__law_digit
  refine mkCal D (fun _ _ _ _ _ _ us hl => match us, hl with | [_, _], _ => rfl) sc (fun vs H Q E h => ?_) (fun f cdv A outer s H vs Q E hr h => ?_)
  · obtain ⟨p, n, rfl, _⟩ := h
    rfl
  · obtain ⟨p, n, rfl, ⟨a, b, ep, ha, hb, hb2⟩, hn, hn2, q⟩ := h
    refine ⟨_, (pss_cons (ps_if (pt_cmpR op_gt (pe_ix ix_list (pv 0) pe_int (fun _ _ => rfl)) pe_int (nomark _))
  (pss_cons (ps_set (i := 2) sc.nd rfl (.inl rfl) (pe_op op_mod (pe_ix ix_list (pv 0) pe_int (fun _ _ => rfl)) (pv 1)))
  (pss_cons (ps_asg (pe_op op_fdivW (pe_ix ix_list (pv 0) pe_int (fun _ _ => rfl)) (pv 1)) (pg_sub (pv 0) pe_int set_list))
  (pss_one (ps_ret (pv 2)))))
  pss_nil)
  (pss_cons (ps_asg (pe_op op_mod (pe_op op_add (pe_op op_mul (pe_ix ix_list (pv 0) pe_int (fun _ _ => rfl)) pe_int) pe_int) pe_int) (pg_sub (pv 0) pe_int set_list))
  (pss_one (ps_ret (pe_op op_mod (pe_op op_fdivW (pe_op op_mod (pe_op op_mul (pe_ix ix_list (pv 0) pe_int (fun _ _ => rfl)) (pe_ix ix_list (pv 0) pe_int (fun _ _ => rfl))) pe_int) pe_int) (pv 1)))))), ?_⟩
    have g0 : ∀ {x y : V}, atI [x, y] 0 = some x := fun {x y} => rfl
    have g1 : ∀ {x y : V}, atI [x, y] 1 = some y := fun {x y} => rfl
    refine ⟨_, rfl, p, _, 0, _, rfl, rfl, SqL.of ep, g0, _, _, rfl, rfl, _, rfl, ite2 (fun c => ?_) (fun c => ?_)⟩
    · have c : 0 < a := of_decide_eq_true c
      refine ⟨_, rfl, p, _, 0, _, rfl, rfl, SqL.of ep, g0, _, rfl, _, _, rfl, rfl, hn, ?_⟩
      refine ⟨_, rfl, p, _, 0, _, rfl, rfl, SqL.of ep, g0, _, rfl, _, _, rfl, rfl, ⟨hn, hn2⟩, ?_⟩
      refine ⟨_, rfl, p, _, 0, 0, rfl, rfl, ep, rfl, _, rfl, ?_⟩
      exact q _ _ (Int.emod_nonneg _ (by omega)) (Int.emod_lt_of_pos _ hn) ⟨Keep.here, Pot.put (Int.ediv_nonneg ha (by omega)) hb hb2⟩
    · refine ⟨_, rfl, p, _, 1, _, rfl, rfl, SqL.of ep, g1, _, _, rfl, rfl, .inl ⟨by omega, by omega⟩, _, _, rfl, rfl, _, _, rfl, rfl, (by decide : (0 : Int) < 2147483647), ?_⟩
      have h1 : 0 ≤ (b * 39373 + 20011) % 2147483647 := Int.emod_nonneg _ (by decide)
      have h2 : (b * 39373 + 20011) % 2147483647 < 2147483647 := Int.emod_lt_of_pos _ (by decide)
      refine ⟨_, rfl, p, _, 1, 1, rfl, rfl, ep, rfl, ?_⟩
      refine ⟨_, rfl, p, _, 1, _, rfl, rfl, SqL.of upd_same, g1, _, rfl, p, _, 1, _, rfl, rfl, SqL.of upd_same, g1, _, _, rfl, rfl, .inl ⟨by omega, by omega⟩, _, _, rfl, rfl, (by decide : (0 : Int) < 2147483563), _, _, rfl, rfl, ⟨by decide, by decide⟩, _, rfl, _, _, rfl, rfl, hn, ?_⟩
      exact q _ _ (Int.emod_nonneg _ (by omega)) (Int.emod_lt_of_pos _ hn) ⟨Keep.here, Pot.put ha h1 (by omega)⟩
theorem sc__law_pot : FnScope ["_law_script", "_law_k", "_law_cell"] ["_law_script", "_law_k"] (defScope (topS 31)) := ⟨rfl, rfl, rfl, by decide +kernel, rfl, by decide +kernel, by decide +kernel⟩
theorem ok__law_pot (D : DefAt K mg "_law_pot" (topS 31)) (m : Mg mg) : Cal P w K mg base 1 "_law_pot" (spPot K) [] := by
  have sc := sc__law_pot
  refine mkCal D (fun _ _ _ _ _ _ us hl => match us, hl with | [_, _], _ => rfl) sc (fun vs H Q E h => ?_) (fun f cdv A outer s H vs Q E hr h => ?_)
  · obtain ⟨a, ns, k, rfl, _⟩ := h
    rfl
  · obtain ⟨a, ns, k, rfl, hS, hk, hk2, q⟩ := h
    refine ⟨_, (pss_cons (ps_set (i := 2) sc.nd rfl (.inl rfl) (pe_ifExp (pt_cmpR op_lt (pv 1) (pe_callB call_len (by rfl) m.len (by decide +kernel) (pa_cons (pv 0) pa_nil)) (nomark _)) (pe_ix ix_list (pv 0) (pv 1) (fun _ _ => rfl)) pe_int))
  (pss_one (ps_ret (pe_lst (pa_cons (pe_callB (call_max2 rfl) (by rfl) m.max (by decide +kernel) (pa_cons pe_int (pa_cons (pe_op op_sub (pe_callB call_abs (by rfl) m.abs (by decide +kernel) (pa_cons (pv 2) pa_nil)) (pe_op op_pow pe_int pe_int)) pa_nil))) (pa_cons (pe_op op_add (pe_op op_add (pe_op op_mod (pe_callB call_abs (by rfl) m.abs (by decide +kernel) (pa_cons (pv 2) pa_nil)) pe_int) (pe_op op_mul pe_int (pv 1))) pe_int) pa_nil)))))), ?_⟩
    have c18 : CPow 10 18 := ⟨by decide, by decide, by decide⟩
    refine ⟨_, rfl, _, rfl, _, _, rfl, .inl ⟨_, hS, rfl⟩, _, _, rfl, rfl, _, rfl, ite2 (fun c => ?_) (fun c => ?_)⟩
    · have c : k < ((ns.map V.int).length : Int) := of_decide_eq_true c
      have hi : k.toNat < ns.length := by rw [List.length_map] at c; omega
      have g : atI (ns.map V.int) k = some (.int ns[k.toNat]) := at_of (j := k.toNat) (by omega) (by rw [List.getElem?_map, List.getElem?_eq_getElem hi]; rfl)
      refine ⟨_, rfl, _, rfl, a, _, k, _, rfl, rfl, hS, g, ?_⟩
      refine ⟨_, rfl, _, rfl, _, _, rfl, rfl, c18, _, _, rfl, rfl, _, _, rfl, _, rfl, _, rfl, _, _, rfl, rfl, (by decide : (0 : Int) < 2147483587), _, rfl, _, _, rfl, rfl, .inl ⟨by decide, by decide⟩, _, _, rfl, rfl, _, _, rfl, rfl, (by show 2 ≤ sizeLine; decide), fun p hp => q p _ hp (same_new hp) ⟨_, _, upd_same, ?_, ?_, ?_⟩⟩
      · split <;> omega
      · have := Int.emod_nonneg (if ns[k.toNat] < 0 then -ns[k.toNat] else ns[k.toNat]) (show (2147483587 : Int) ≠ 0 by decide)
        omega
      · have := Int.emod_lt_of_pos (if ns[k.toNat] < 0 then -ns[k.toNat] else ns[k.toNat]) (show (0 : Int) < 2147483587 by decide)
        omega
    · refine ⟨_, rfl, _, rfl, _, _, rfl, rfl, c18, _, _, rfl, rfl, _, _, rfl, _, rfl, _, rfl, _, _, rfl, rfl, (by decide : (0 : Int) < 2147483587), _, rfl, _, _, rfl, rfl, .inl ⟨by decide, by decide⟩, _, _, rfl, rfl, _, _, rfl, rfl, (by show 2 ≤ sizeLine; decide), fun p hp => q p _ hp (same_new hp) ⟨_, _, upd_same, ?_, ?_, ?_⟩⟩
      · split <;> omega
      · have : (if (0 : Int) < 0 then -0 else 0) % 2147483587 = (0 : Int) := by decide
        omega
      · have : (if (0 : Int) < 0 then -0 else 0) % 2147483587 = (0 : Int) := by decide
        omega
end
end Gj

/-! own layer: data in the heap (lists, tuples, empty dicts), beside a pot at p -/
namespace Gj
open PySem PySem.Spec PyProof.Rows L2
open C8 (Cal pe_c pe_gc)
section
open PySem.SeqAt AutoSeq1 MeetsSeq
/-! ### a dict and a text are unlike -/
theorem dict_no_str (l : Addr) (o : Obj) (hc : o.cls = .type "dict") (b : Str) (u : Tok) : Meets (Builtin.«dict.__eq__» ⟨[.ref l, .str b u], []⟩) (fun _ R s => s.heap.get? l = some o ∧ R (.ok (.ret .notImplemented)) s) :=
  .of_wp fun prog w A R s h => by
    obtain ⟨hp, g, d, tk, os⟩ := s
    obtain ⟨hl, h⟩ := h
    have f1 := F.sub_str_dict
    wp_walk using wpAny_loadPart' hl
    exact ⟨_, rfl, h⟩
theorem str_no_dict (l : Addr) (c : Value) (dd : Option Addr) (es : Array DictEntry) (n : Nat) (sl : Array (Option Value)) (b : Str) (u : Tok) : Meets (Builtin.«str.__eq__» ⟨[.str b u, .ref l], []⟩) (fun _ R s => s.heap.get? l = some ⟨c, dd, .dict es n, sl⟩ ∧ R (.ok (.ret .notImplemented)) s) :=
  .of_wp fun prog w A R s h => by
    obtain ⟨hp, g, d, tk, os⟩ := s
    obtain ⟨hl, h⟩ := h
    wp_walk using wpAny_loadPart' hl, wpAny_load hl
    exact ⟨_, rfl, h⟩
variable {A : Around} {s : Shared}
theorem rc_dict_str {l : Addr} {dd : Option Addr} {es : Array DictEntry} {n : Nat} {sl : Array (Option Value)} (b : Str) (u : Tok) (ho : s.heap.get? l = some ⟨.type "dict", dd, .dict es n, sl⟩) (hu : A.units < cLine) : RcAt A s (.ref l) (.str b u) false := fun prog w E Q h =>
  rc_eq_decline_or (k := false) ⟨_, ho, rfl⟩ (typeIs_str s b u) (by decide) F.sub_str_dict F.slot_dict_eq F.slot_str_eq_refl
    (fun _ hq => call_meets F.slot_dict_eq ⟨_, ho, rfl⟩ F.entry_dict_eq (F.args_dict_eq_2 _ _) (dict_no_str l _ rfl b u) ⟨ho, hq⟩)
    (fun _ hq => call_meets F.slot_str_eq_refl (typeIs_str s b u) F.entry_str_eq (F.args_str_eq_2 _ _) (str_no_dict l _ _ _ _ _ b u) ⟨ho, hq⟩)
    (fun _ hq => wpAny_of_eq (rfl : isSame (.ref l) (.str b u) = pure false) hq) (.inr hu) h
theorem rc_str_dict {l : Addr} {dd : Option Addr} {es : Array DictEntry} {n : Nat} {sl : Array (Option Value)} (b : Str) (u : Tok) (ho : s.heap.get? l = some ⟨.type "dict", dd, .dict es n, sl⟩) (hu : A.units < cLine) : RcAt A s (.str b u) (.ref l) false := fun prog w E Q h =>
  rc_eq_decline_or (k := false) (typeIs_str s b u) ⟨_, ho, rfl⟩ (by decide) F.sub_dict_str F.slot_str_eq F.slot_dict_eq_refl
    (fun _ hq => call_meets F.slot_str_eq (typeIs_str s b u) F.entry_str_eq (F.args_str_eq_2 _ _) (str_no_dict l _ _ _ _ _ b u) ⟨ho, hq⟩)
    (fun _ hq => call_meets F.slot_dict_eq_refl ⟨_, ho, rfl⟩ F.entry_dict_eq (F.args_dict_eq_2 _ _) (dict_no_str l _ rfl b u) ⟨ho, hq⟩)
    (fun _ hq => wpAny_of_eq (rfl : isSame (.str b u) (.ref l) = pure false) hq) (.inr hu) h
theorem eq_str_dict {l : Addr} {dd : Option Addr} {es : Array DictEntry} {n : Nat} {sl : Array (Option Value)} (b : Str) (u : Tok) (ho : s.heap.get? l = some ⟨.type "dict", dd, .dict es n, sl⟩) (hu : A.units < cLine) : EqAt A s (.str b u) (.ref l) false := fun prog w E Q h => by
  unfold eqBool
  exact wpAny_holding (wpAny_ite_split (fun hab => absurd (eq_of_beq hab) nofun) fun _ => wpAny_bind (rc_str_dict b u ho hu prog w E _ (wpAny_truthy_bool h)))
end
/-! ### data, away from the pot at p -/
mutual
inductive Dt (p : Addr) (H : Hp) : V → PyData → Prop
  | non : Dt p H .non .none
  | bl (b : Bool) : Dt p H (.bl b) (.bool b)
  | int (i : Int) : Dt p H (.int i) (.int i)
  | str (x : Str) : x.length ≤ 1000 → Dt p H (.str x) (.str x)
  | lst {a : Addr} {xs : List V} {ds : List PyData} : a ≠ p → xs.length ≤ 1000 → H a = some (.lst xs) → DtAll p H xs ds → Dt p H (.ref a) (.list ds)
  | tup {a : Addr} {xs : List V} {ds : List PyData} : a ≠ p → xs.length ≤ 1000 → H a = some (.tup xs) → DtAll p H xs ds → Dt p H (.ref a) (.tuple ds)
  | dic {a : Addr} : a ≠ p → H a = some (.dK []) → Dt p H (.ref a) (.dict [])
  | dic1 {a : Addr} {k : Str} {i : Int} : a ≠ p → k.length ≤ 1000 → H a = some (.dK [(.inr k, .int i)]) → Dt p H (.ref a) (.dict [(.str k, .int i)])
inductive DtAll (p : Addr) (H : Hp) : List V → List PyData → Prop
  | nil : DtAll p H [] []
  | cons {v : V} {vs : List V} {d : PyData} {ds : List PyData} : Dt p H v d → DtAll p H vs ds → DtAll p H (v :: vs) (d :: ds)
end
section
variable {p : Addr} {H H' : Hp}
mutual
theorem Dt.keep (k : Keep p H H') : ∀ {v : V} {d : PyData}, Dt p H v d → Dt p H' v d
  | _, _, .non => .non
  | _, _, .bl b => .bl b
  | _, _, .int i => .int i
  | _, _, .str x z => .str x z
  | _, _, .lst n z e h => .lst n z (k _ _ n e) (DtAll.keep k h)
  | _, _, .tup n z e h => .tup n z (k _ _ n e) (DtAll.keep k h)
  | _, _, .dic n e => .dic n (k _ _ n e)
  | _, _, .dic1 n z e => .dic1 n z (k _ _ n e)
theorem DtAll.keep (k : Keep p H H') : ∀ {vs : List V} {ds : List PyData}, DtAll p H vs ds → DtAll p H' vs ds
  | _, _, .nil => .nil
  | _, _, .cons a b => .cons (Dt.keep k a) (DtAll.keep k b)
end
theorem Dt.same {v : V} {d : PyData} (h : Dt p H v d) (s : Same H H') : Dt p H' v d := h.keep (Same.keep s)
theorem DtAll.same {v : List V} {d : List PyData} (h : DtAll p H v d) (s : Same H H') : DtAll p H' v d := h.keep (Same.keep s)
theorem DtAll.length : ∀ {vs : List V} {ds : List PyData}, DtAll p H vs ds → vs.length = ds.length
  | _, _, .nil => rfl
  | _, _, .cons _ b => by rw [List.length_cons, List.length_cons, DtAll.length b]
theorem DtAll.get : ∀ {vs : List V} {ds : List PyData} {i : Nat} {v : V}, DtAll p H vs ds → vs[i]? = some v → ∃ d, ds[i]? = some d ∧ Dt p H v d
  | _, _, i, v, .nil, e => by simp at e
  | _, _, 0, v, .cons a b, e => by
    have e : _ = v := Option.some.inj e
    subst e
    exact ⟨_, rfl, a⟩
  | _, _, i + 1, v, .cons a b, e => DtAll.get b (i := i) e
theorem DtAll.append : ∀ {vs ws : List V} {ds es : List PyData}, DtAll p H vs ds → DtAll p H ws es → DtAll p H (vs ++ ws) (ds ++ es)
  | _, _, _, _, .nil, h => h
  | _, _, _, _, .cons a b, h => .cons a (DtAll.append b h)
theorem DtAll.take : ∀ {vs : List V} {ds : List PyData} (n : Nat), DtAll p H vs ds → DtAll p H (vs.take n) (ds.take n)
  | _, _, 0, _ => .nil
  | _, _, n + 1, .nil => .nil
  | _, _, n + 1, .cons a b => .cons a (DtAll.take n b)
theorem DtAll.drop : ∀ {vs : List V} {ds : List PyData} (n : Nat), DtAll p H vs ds → DtAll p H (vs.drop n) (ds.drop n)
  | _, _, 0, h => h
  | _, _, n + 1, .nil => .nil
  | _, _, n + 1, .cons a b => DtAll.drop n b
theorem DtAll.strs : ∀ {zs : List Str}, (∀ z ∈ zs, z.length ≤ 1000) → DtAll p H (zs.map V.str) (zs.map PyData.str)
  | [], _ => .nil
  | z :: l, h => .cons (.str z (h z List.mem_cons_self)) (DtAll.strs fun y hy => h y (List.mem_cons_of_mem _ hy))
/-- the name of its type -/
def kind : PyData → String
  | .none => "NoneType"
  | .bool _ => "bool"
  | .int _ => "int"
  | .str _ => "str"
  | .list _ => "list"
  | .tuple _ => "tuple"
  | .dict _ => "dict"
theorem Dt.ty {K : PySem.W.Frag} {v : V} {d : PyData} (h : Dt p H v d) : TyX K H v (.type (kind d)) := by
  cases h with
  | non => exact .base .non
  | bl b => exact .base (.bl b)
  | int i => exact .base (.int i)
  | str x z => exact .base (.str x)
  | lst n z e h => exact .base (.lst e)
  | tup n z e h => exact .base (.tup e)
  | dic n e => exact .base (.dK e)
  | dic1 n z e => exact .base (.dK e)
end
/-- isinstance(x, T) -/
def isa (d : PyData) (T : String) : Bool := (kitB (kind d) T).getD false
theorem kit_isa {K : PySem.W.Frag} {d : PyData} {T : String} (h : T = "str" ∨ T = "tuple" ∨ T = "int" ∨ T = "bool" ∨ T = "list") : PySem.W.kitOne K (.type (kind d)) (.type T) = some (isa d T) := by
  refine kit_ty ?_
  unfold isa
  rcases h with rfl | rfl | rfl | rfl | rfl <;> cases d <;> (dsimp only [kind]; decide +kernel)
def rIsD (K : PySem.W.Frag) (T : String) : List V → Hp → VK → Prop := fun xs H Q => ∃ (p : Addr) (x : V) (d : PyData), xs = [x, .ty T] ∧ Dt p H x d ∧ Q (.bl (isa d T)) H
section
variable {X : Cx}
theorem call_isD {T : String} (h : T = "str" ∨ T = "tuple" ∨ T = "int" ∨ T = "bool" ∨ T = "list") : CallR X (.builtin "isinstance") (rIsD X.K T) := by
  intro pins s σ H xs us Q I r hh
  obtain ⟨p, x, d, rfl, hd, q⟩ := hh
  exact call_isi pins s σ H _ us Q I r ⟨x, .ty T, _, _, isa d T, rfl, .ty T, hd.ty, kit_isa h, q⟩
/-- the text that it is -/
def isT (d : PyData) (z : Str) : Bool := match d with
  | .str y => y == z
  | _ => false
theorem dic_at {pins : List (Addr × Obj)} {σ : L2.St} {H : Hp} {s : Shared} {a : Addr} {kvs : List (L2.Key × V)} (I : Inv X pins σ H s) (e : H a = some (.dK kvs)) : ∃ (o : Obj) (es : Array DictEntry) (ep : Nat), s.heap.get? a = some o ∧ o.cls = .type "dict" ∧ o.data = .dict es ep := by
  obtain ⟨_, _, vs, _, o, es, ep, h1, h2, h3, _⟩ := (show ObjOk X.prog X.w H s.heap a (.dK kvs) from I.hok a _ e)
  exact ⟨o, es, ep, h1, h2.1, h3⟩
/-- x == z, z a text -/
theorem rc_txt {pins : List (Addr × Obj)} {σ : L2.St} {H : Hp} {s : Shared} {A : Around} {p : Addr} {x : V} {d : PyData} {v : Value} {z : Str} {t : Tok} (I : Inv X pins σ H s) (hd : Dt p H x d) (r : RelV x v) (hu : A.units < cLine) : SeqAt.RcAt A s v (.str z t) (isT d z) := by
  cases hd with
  | non => cases r; exact SeqAt.RcAt.none_str _ _
  | bl b => cases r; exact SeqAt.RcAt.bool_str _ _ _
  | int i => obtain ⟨t', rfl⟩ := r; exact SeqAt.RcAt.int_str _ _ _ _
  | str y z0 => obtain ⟨t', rfl⟩ := r; exact SeqAt.RcAt.str_str _ _ _ _
  | lst n z0 e h =>
    cases r
    obtain ⟨its, _, pl, _⟩ := I.list (SqL.of e)
    exact SeqAt.RcAt.list_str _ _ pl.isList hu
  | tup n z0 e h =>
    cases r
    obtain ⟨its, _, pl, _⟩ := I.tuple (SqT.of e)
    exact SeqAt.RcAt.tuple_str _ _ pl hu
  | @dic a n e =>
    cases r
    obtain ⟨o, es, ep, h1, h2, h3⟩ := dic_at I e
    obtain ⟨oc, od, dt, sl⟩ := o
    cases h2
    cases h3
    exact rc_dict_str _ _ h1 hu
  | @dic1 a k i n z e =>
    cases r
    obtain ⟨o, es, ep, h1, h2, h3⟩ := dic_at I e
    obtain ⟨oc, od, dt, sl⟩ := o
    cases h2
    cases h3
    exact rc_dict_str _ _ h1 hu
/-- z == x, z a text -/
theorem eq_txt {pins : List (Addr × Obj)} {σ : L2.St} {H : Hp} {s : Shared} {A : Around} {p : Addr} {x : V} {d : PyData} {v : Value} {z : Str} {t : Tok} (I : Inv X pins σ H s) (hd : Dt p H x d) (r : RelV x v) (hu : A.units < cLine) : SeqAt.EqAt A s (.str z t) v (isT d z) := by
  cases hd with
  | non => cases r; exact SeqAt.EqAt.str_none _ _
  | bl b => cases r; exact SeqAt.EqAt.str_bool _ _ _
  | int i => obtain ⟨t', rfl⟩ := r; exact SeqAt.EqAt.str_int _ _ _ _
  | str y z0 =>
    obtain ⟨t', rfl⟩ := r
    have e : isT (.str y) z = (z == y) := by
      show (y == z) = (z == y)
      exact Bool.eq_iff_iff.mpr ⟨fun h => by rw [eq_of_beq h]; exact beq_self_eq_true _, fun h => by rw [eq_of_beq h]; exact beq_self_eq_true _⟩
    rw [e]
    exact SeqAt.EqAt.str_str _ _ _ _
  | lst n z0 e h =>
    cases r
    obtain ⟨its, _, pl, _⟩ := I.list (SqL.of e)
    exact SeqAt.EqAt.str_list _ _ pl.isList hu
  | tup n z0 e h =>
    cases r
    obtain ⟨its, _, pl, _⟩ := I.tuple (SqT.of e)
    exact SeqAt.EqAt.str_tuple _ _ pl hu
  | @dic a n e =>
    cases r
    obtain ⟨o, es, ep, h1, h2, h3⟩ := dic_at I e
    obtain ⟨oc, od, dt, sl⟩ := o
    cases h2
    cases h3
    exact eq_str_dict _ _ h1 hu
  | @dic1 a k i n z e =>
    cases r
    obtain ⟨o, es, ep, h1, h2, h3⟩ := dic_at I e
    obtain ⟨oc, od, dt, sl⟩ := o
    cases h2
    cases h3
    exact eq_str_dict _ _ h1 hu
def rEqT : R2 := fun x y H Q => ∃ p d z, y = .str z ∧ Dt p H x d ∧ Q (.bl (isT d z)) H
theorem op_eqT (hu : X.A.units + 64 < cLine) : OpR X (compareOp .Eq) rEqT := by
  intro pins s σ H x y v u Q I rx ry h
  obtain ⟨p, d, z, rfl, hd, q⟩ := h
  obtain ⟨t, rfl⟩ := ry
  exact rc_txt I hd rx (by omega) X.prog X.w _ _ ⟨.bl _, H, I, rfl, q⟩
/-- x in [texts] -/
def rInT (K : PySem.W.Frag) : R2 := fun x y H Q => ∃ (p a : Addr) (d : PyData) (zs : List Str), y = .ref a ∧ SqL K H a (zs.map V.str) ∧ Dt p H x d ∧ Q (.bl (zs.any fun z => isT d z)) H
def isTv (d : PyData) : Value → Bool
  | .str z _ => isT d z
  | _ => false
theorem any_isTv (d : PyData) : ∀ {zs : List Str} {us : List Value}, Vals (zs.map V.str) us → us.any (isTv d) = zs.any fun z => isT d z
  | [], _, .nil => rfl
  | z :: zs, _, .cons r t => by
    obtain ⟨k, rfl⟩ := r
    rw [List.any_cons, List.any_cons, any_isTv d t]
    rfl
theorem mem_strs : ∀ {zs : List Str} {us : List Value}, Vals (zs.map V.str) us → ∀ u ∈ us, ∃ z t, u = .str z t
  | [], _, .nil, u, hu => by cases hu
  | z :: zs, _, .cons r t, u, hu => by
    rcases List.mem_cons.mp hu with e | hu
    · obtain ⟨k, rfl⟩ := r
      exact ⟨z, k, e⟩
    · exact mem_strs t u hu
theorem op_inT (hu : X.A.units + 64 < cLine) : OpR X (compareOp .In) (rInT X.K) := by
  intro pins s σ H x y v u Q I rx ry h
  obtain ⟨p, a, d, zs, rfl, hs, hd, q⟩ := h
  cases ry
  obtain ⟨its, rv, pl, _⟩ := I.list hs
  refine SeqAt.in_listAt (isTv d) pl.isList (fun z hz => ?_) ⟨.bl _, H, I, rfl, ?_⟩
  · obtain ⟨w, t, rfl⟩ := mem_strs rv z (by simpa using hz)
    exact eq_txt I hd rx (by show X.A.units + 1 < cLine; omega)
  · rw [show its.toArray.any (isTv d) = its.any (isTv d) by simp, any_isTv d rv]
    exact q
end
end Gj

/-! own layer: tests of data -/
namespace Gj
open PySem PySem.Spec PyProof.Rows L2
open C8 (Cal pe_c pe_gc)
/-- a def that tells a truth of one datum -/
def spPred (f : PyData → Bool) : Sp := fun vs H Q _ => ∃ (p : Addr) (v : V) (d : PyData), vs = [v] ∧ Dt p H v d ∧ ∀ H', Same H H' → Q (.bl (f d)) H'
/-- .. and a number -/
def spPredN (f : PyData → Int → Bool) : Sp := fun vs H Q _ => ∃ (p : Addr) (v : V) (d : PyData) (n : Int), vs = [v, .int n] ∧ Dt p H v d ∧ ∀ H', Same H H' → Q (.bl (f d n)) H'
/-- an expression that tells b, whatever it lays -/
def Say (t : TE) (σ : L2.St) (H : Hp) (b : Bool) : Prop := ∀ Q : VK, (∀ H', Same H H' → Q (.bl b) H') → t σ H Q
/-- an expression that is v -/
def Giv (t : TE) (σ : L2.St) (H : Hp) (v : V) : Prop := ∀ Q : VK, Q v H → t σ H Q
section
variable {σ : L2.St} {H : Hp} {ta tb te : TE} {a b : Bool} {K : PySem.W.Frag} {p : Addr} {v : V} {d : PyData} {i : Nat}
theorem Say.and (ha : Say ta σ H a) (hb : a = true → ∀ H', Same H H' → Say tb σ H' b) : Say (tAndV ta tb) σ H (a && b) := fun Q q => ha _ fun H1 s1 => ⟨a, rfl, by
  cases a with
  | true => exact iteT (hb rfl H1 s1 Q fun H2 s2 => q H2 (s1.trans s2))
  | false => exact iteF (q H1 s1)⟩
theorem Say.or (ha : Say ta σ H a) (hb : a = false → ∀ H', Same H H' → Say tb σ H' b) : Say (tOrV ta tb) σ H (a || b) := fun Q q => ha _ fun H1 s1 => ⟨a, rfl, by
  cases a with
  | true => exact iteT (q H1 s1)
  | false => exact iteF (hb rfl H1 s1 Q fun H2 s2 => q H2 (s1.trans s2))⟩
theorem Say.not (ha : Say ta σ H a) : Say (tNotV ta) σ H (!a) := fun Q q => ha _ fun H1 s1 => ⟨a, rfl, q H1 s1⟩
theorem Say.of (h : Say ta σ H a) (e : a = b) : Say ta σ H b := e ▸ h
theorem giv_var (h : σ[i]? = some (some v)) : Giv (tVar i) σ H v := fun Q q => ⟨v, h, q⟩
theorem giv_c {v : V} : Giv (tC v) σ H v := fun Q q => q
theorem giv_ixT {x : V} {xs : List V} {c : Addr} {k : Nat} (h : Giv te σ H (.ref c)) (e : H c = some (.tup xs)) (g : xs[k]? = some x) : Giv (tOp (rIxT K) te (tC (.int (k : Nat)))) σ H x := fun Q q => h _ ⟨c, xs, _, x, rfl, rfl, SqT.of e, atI_nat g, q⟩
theorem say_isa {T : String} (hv : Giv te σ H v) (hd : Dt p H v d) : Say (tCB (rIsD K T) (tCons te (tCons (tC (.ty T)) tNil))) σ H (isa d T) := fun Q q => hv _ ⟨p, v, d, rfl, hd, q H (Same.refl H)⟩
theorem say_call {f : PyData → Bool} {E : XK} (hv : Giv te σ H v) (hd : Dt p H v d) : Say (tCall (spPred f) [] E (tCons te tNil)) σ H (f d) := fun Q q => hv _ ⟨p, v, d, rfl, hd, q⟩
theorem say_callN {f : PyData → Int → Bool} {n : Int} {tn : TE} {E : XK} (hv : Giv te σ H v) (hn : Giv tn σ H (.int n)) (hd : Dt p H v d) : Say (tCall (spPredN f) [] E (tCons te (tCons tn tNil))) σ H (f d n) := fun Q q => hv _ (hn _ ⟨p, v, d, n, rfl, hd, q⟩)
theorem say_eqT {z : Str} {tz : TE} (hv : Giv te σ H v) (hz : Giv tz σ H (.str z)) (hd : Dt p H v d) : Say (tOp rEqT te tz) σ H (isT d z) := fun Q q => hv _ (hz _ ⟨p, d, z, rfl, hd, q H (Same.refl H)⟩)
theorem say_lenEq {n : Int} {c : Addr} {xs : List V} {tn : TE} {X : Cx} (hv : Giv te σ H (.ref c)) (hn : Giv tn σ H (.int n)) (e : H c = some (.tup xs)) :
    Say (tOp rEq (tCB (fun ys H Q => ∃ x m, ys = [x] ∧ LenV X.K x H m ∧ Q (.int m) H) (tCons te tNil)) tn) σ H (decide ((xs.length : Int) = n)) := fun Q q => hv _ ⟨.ref c, xs.length, rfl, .inr ⟨xs, SqT.of e, rfl⟩, hn _ ⟨rfl, by
      have e2 : decide (V.int (xs.length : Int) = V.int n) = decide ((xs.length : Int) = n) := by
        by_cases h : (xs.length : Int) = n
        · rw [decide_eq_true h, h, decide_eq_true rfl]
        · rw [decide_eq_false h, decide_eq_false fun z => h (V.int.inj z)]
      rw [e2]
      exact q H (Same.refl H)⟩⟩
end
end Gj

namespace Gj
open PySem PySem.Spec PyProof.Rows L2
open C8 (Cal pe_c pe_gc)
/-- whether its length and signs are so -/
def isTxt (z signs : Str) (most : Int) : Bool := (decide (1 ≤ (z.length : Int)) && decide ((z.length : Int) ≤ most)) && (z.cps.toList.map fun c => decide (c ∈ signs.cps.toList)).all id
def mTxt (signs : Str) (most : Int) : PyData → Bool
  | .str z => isTxt z signs most
  | _ => false
abbrev rLenX (K : PySem.W.Frag) : List V → Hp → VK → Prop := fun ys H Q => ∃ x m, ys = [x] ∧ LenV K x H m ∧ Q (.int m) H
abbrev rLeX : R2 := rI0 fun i j => .bl (decide (i ≤ j))
abbrev rInX : R2 := fun x y H Q => ∃ (c : Nat) (z : Str), x = .str ⟨#[c]⟩ ∧ y = .str z ∧ Q (.bl (decide (c ∈ z.cps.toList))) H
section
variable {σ : L2.St} {H : Hp} {ta tb te ts tm : TE} {a b : Bool} {K : PySem.W.Frag} {p : Addr} {v : V} {d : PyData} {i : Nat} {z signs : Str} {most : Int}
theorem say_chain (hv : Giv te σ H (.str z)) (hm : Giv tm σ H (.int most)) (hz : z.length ≤ 1000) : Say (tChain rLeX rLeX (tC (.int 1)) (tCB (rLenX K) (tCons te tNil)) tm) σ H (decide (1 ≤ (z.length : Int)) && decide ((z.length : Int) ≤ most)) := fun Q q =>
  hv _ ⟨_, _, rfl, ⟨Nat.le_of_lt (small1000 hz), rfl⟩, _, _, rfl, rfl, _, rfl, by
    by_cases h : 1 ≤ (z.length : Int)
    · rw [decide_eq_true h]
      refine iteT (hm _ ⟨_, _, rfl, rfl, ?_⟩)
      have := q H (Same.refl H)
      rw [decide_eq_true h, Bool.true_and] at this
      exact this
    · rw [decide_eq_false h]
      have := q H (Same.refl H)
      rw [decide_eq_false h, Bool.false_and] at this
      exact iteF this⟩
theorem say_all (hz : z.length ≤ 1000) (hw : ∀ v, wipe ((wipe σ [i]).set i (some v)) [i] = wipe σ [i]) (hi : ∀ v, ((wipe σ [i]).set i (some v))[i]? = some (some v)) (hs : ∀ v H, Giv ts ((wipe σ [i]).set i (some v)) H (.str signs)) (hv : Giv te σ H (.str z)) :
    Say (tCB (rAll K) (tCons (tLc (iStr te) (gName i) tYes (tOp rInX (tVar i) ts) [i]) tNil)) σ H ((z.cps.toList.map fun c => decide (c ∈ signs.cps.toList)).all id) := fun Q q => hv _ ⟨z, rfl, fun D hD => by
  refine lc_it walk_str (Pv := fun j H' => Same H H' ∧ H' D = some (.lst (((z.cps.toList.take j).map fun c => decide (c ∈ signs.cps.toList)).map V.bl))) ⟨same_new hD, upd_same⟩ (fun _ _ _ _ => trivial) (fun j x H1 H2 hj hp hy => ?_) (fun H1 hp => ?_)
  · obtain ⟨rfl, ch, ec, rfl⟩ := hy
    obtain ⟨sm, eD⟩ := hp
    refine ⟨hw _, _, hi _, hs _ _ _ ⟨ch, signs, rfl, rfl, _, eD, ?_, fun b o e => ?_, ?_⟩⟩
    · rw [List.length_map, List.length_map, List.length_take]
      have : z.cps.toList.length = z.length := rfl
      exact small1000 (by omega)
    · rw [upd_ne (ne_of_none e hD)]
      exact sm b o e
    · have ec2 : z.cps.toList[j]? = some ch := by rw [Array.getElem?_toList]; exact ec
      rw [upd_same, take_snoc ec2, List.map_append, List.map_append]
      rfl
  · obtain ⟨sm, eD⟩ := hp
    rw [show z.cps.toList.take z.cps.size = z.cps.toList from List.take_of_length_le (Nat.le_refl _)] at eD
    exact ⟨D, _, rfl, SqL.of eD, q H1 sm⟩⟩
theorem say_allT {f : PyData → Bool} {E : XK} {c : Addr} {xs : List V} {ds : List PyData} (hl : xs.length ≤ 1000) (hw : ∀ v, wipe ((wipe σ [i]).set i (some v)) [i] = wipe σ [i]) (hi : ∀ v, ((wipe σ [i]).set i (some v))[i]? = some (some v)) (hv : Giv te σ H (.ref c)) (ec : H c = some (.tup xs)) (hd : DtAll p H xs ds) :
    Say (tCB (rAll K) (tCons (tLc (iTup K te) (gName i) tYes (tCall (spPred f) [] E (tCons (tVar i) tNil)) [i]) tNil)) σ H (ds.all f) := fun Q q => hv _ ⟨c, rfl, ⟨xs, SqT.of ec⟩, fun D hD => by
  refine lc_tup (K := K) (a := c) (xs := xs) (Pv := fun j H' => Same H H' ∧ H' D = some (.lst (((ds.take j).map f).map V.bl))) ⟨same_new hD, upd_same⟩ (fun j H' _ hp => SqT.of (hp.1 _ _ ec)) (fun j x H1 hx hp => ?_) (fun H1 hp => ?_)
  · obtain ⟨sm, eD⟩ := hp
    obtain ⟨d, hd1, hd2⟩ := hd.get hx
    refine ⟨hw _, _, hi _, p, x, d, rfl, hd2.same sm, fun H2 s2 => ⟨_, s2 _ _ eD, ?_, fun b o e => ?_, ?_⟩⟩
    · rw [List.length_map, List.length_map, List.length_take, ← hd.length]
      exact small1000 (by omega)
    · rw [upd_ne (ne_of_none e hD)]
      exact s2 _ _ (sm b o e)
    · rw [upd_same, take_snoc hd1, List.map_append, List.map_append]
      rfl
  · obtain ⟨sm, eD⟩ := hp
    rw [show ds.take xs.length = ds from List.take_of_length_le (by rw [hd.length]; exact Nat.le_refl _)] at eD
    refine ⟨D, _, rfl, SqL.of eD, ?_⟩
    rw [List.all_map]
    exact q H1 sm⟩
end
/-! ### names and words are so -/
theorem txt_of {cs : List Nat} {signs : Str} {most : Nat} (h1 : 1 ≤ cs.length) (h2 : cs.length ≤ most) (h : ∀ c ∈ cs, c ∈ signs.cps.toList) : isTxt (SX.S cs) signs (most : Int) = true := by
  have e : ((SX.S cs).length : Int) = (cs.length : Int) := by rw [SX.S_len]
  unfold isTxt
  rw [e, decide_eq_true (show (1 : Int) ≤ (cs.length : Int) by omega), decide_eq_true (show (cs.length : Int) ≤ (most : Int) by omega)]
  show (cs.map fun c => decide (c ∈ signs.cps.toList)).all id = true
  rw [List.all_map]
  exact List.all_eq_true.mpr fun c hc => decide_eq_true (h c hc)
end Gj

/-! own layer: len(set(t)), t a tuple of texts -/
namespace Gj
open PySem PySem.Spec PyProof.Rows L2
open C8 (Cal pe_c pe_gc)
/-- how many unlike ones -/
def distinct : List Str → Nat
  | [] => 0
  | x :: l => if l.any (· == x) then distinct l else distinct l + 1
theorem distinct_le : ∀ l : List Str, distinct l ≤ l.length
  | [] => Nat.le_refl _
  | x :: l => by
    have := distinct_le l
    unfold distinct
    rw [List.length_cons]
    split <;> omega
theorem any_iff {l : List Str} {x : Str} : l.any (· == x) = true ↔ x ∈ l := by simp
theorem distinct_nodup : ∀ l : List Str, (distinct l = l.length) ↔ l.Nodup
  | [] => by simp [distinct]
  | x :: l => by
    have h1 := distinct_le l
    have ih := distinct_nodup l
    unfold distinct
    rw [List.length_cons, List.nodup_cons]
    by_cases h : l.any (· == x) = true
    · rw [if_pos h]
      exact ⟨fun e => by omega, fun e => absurd (any_iff.mp h) e.1⟩
    · rw [if_neg h]
      exact ⟨fun e => ⟨fun m => h (any_iff.mpr m), ih.mp (by omega)⟩, fun e => by rw [ih.mpr e.2]⟩
def taken (xs : List Str) (i : Nat) : List Str := (xs.take i).reverse
theorem taken_succ {xs : List Str} {i : Nat} {x : Str} (h : xs[i]? = some x) : taken xs (i + 1) = x :: taken xs i := by
  unfold taken
  rw [List.take_add_one, h, List.reverse_append]
  rfl
section
variable {prog : Program} {w : World} {A : Around} {R : Result → Shared → Prop} {I : Addr} {fp wr : List Addr} {G : Array GenState → Array GenState → Prop} {n : Nat} {P : Nat → Value → Prop} {Sx : Nat → Shared → Prop}
theorem loop_strs (W : WalksS prog w A.in1 I fp wr G n P Sx) (S : Addr) (hSf : S ∉ fp) (xs : List Str) (hsz : xs.length = n) (hn : n ≤ 1000) (hval : ∀ i v, P i v → ∃ t, v = .str (xs.getD i Str.empty) t) :
    ∀ (k i : Nat) (s : Shared), n - i = k → i ≤ n → Sx i s → s.heap.SetOf (PySem.strKind prog w) S (fun y => (taken xs i).any (· == y)) (distinct (taken xs i)) →
      (∀ s', Moved (S :: wr) G s s' → s'.heap.SetOf (PySem.strKind prog w) S (fun y => (taken xs n).any (· == y)) (distinct (taken xs n)) → R (.ok (.ret .none)) s') →
      codeAny (model prog w) A (.builtin "set.update.loop" ⟨[.ref S, .ref I], []⟩) R s
  | 0, i, s, hk, hi, hst, hS, hR => by
    have e : i = n := by omega
    subst e
    refine codeAny_builtin PyProof.Rows.F.entry_set_update_loop (by
      rw [Around.under_plainId PyProof.Rows.F.plain_set_update_loop _]
      exact wpAny_bind (W.done s _ _ hst fun s' hm => wpAny_pure (hR s' (hm.mono fun b hb => List.mem_cons_of_mem _ hb) (by
        obtain ⟨o, es, ep, t, ho, rest⟩ := hS
        exact ⟨o, es, ep, t, hm.heap S _ (fun h => hSf (W.sub _ h)) ho, rest⟩))))
  | k + 1, i, s, hk, hi, hst, hS, hR => by
    have hlt : i < n := by omega
    have hx : xs[i]? = some (xs.getD i Str.empty) := by rw [List.getD_eq_getElem?_getD, List.getElem?_eq_getElem (by omega)]; rfl
    refine codeAny_builtin PyProof.Rows.F.entry_set_update_loop ?_
    rw [Around.under_plainId PyProof.Rows.F.plain_set_update_loop _]
    refine wpAny_bind (m := pyNext (.ref I)) (W.item i s _ _ hlt hst fun v s' hP hst' hm => ?_)
    obtain ⟨t, rfl⟩ := hval i v hP
    have hS' : s'.heap.SetOf (PySem.strKind prog w) S (fun y => (taken xs i).any (· == y)) (distinct (taken xs i)) := by
      obtain ⟨o, es, ep, tb, ho, rest⟩ := hS
      exact ⟨o, es, ep, tb, hm.heap S _ (fun h => hSf (W.sub _ h)) ho, rest⟩
    have dl := distinct_le (taken xs i)
    have tl : (taken xs i).length ≤ 1000 := by
      unfold taken
      rw [List.length_reverse, List.length_take]
      omega
    refine wpAny_bind (m := holding [Value.str (xs.getD i Str.empty) t] (setAdd S (.str (xs.getD i Str.empty) t))) (wpAny_holding ?_)
    unfold setAdd
    refine wpAny_holding (wpAny_bind ((PySem.strKind prog w).pyHash (k := xs.getD i Str.empty) (strKind_is _ _ _ _) (wpAny_setAddHashed_of (knd := PySem.strKind prog w) (s := { s' with toks := s'.toks + 1 }) (strKind_is _ _ _ _) rfl hS' (by unfold scanBound; omega) fun h' hsb hS2 => ?_)))
    have hSi : h'.SetOf (PySem.strKind prog w) S (fun y => (taken xs (i + 1)).any (· == y)) (distinct (taken xs (i + 1))) := by
      rw [taken_succ hx]
      refine SetOf_congr hS2 (fun y => ?_) ?_
      · show ((taken xs i).any (· == y) || decide (y = xs.getD i Str.empty)) = ((xs.getD i Str.empty) == y || (taken xs i).any (· == y))
        rw [Bool.or_comm]
        congr 1
        by_cases e : y = xs.getD i Str.empty
        · rw [← e, decide_eq_true rfl, beq_self_eq_true]
        · rw [decide_eq_false e]
          exact (beq_eq_false_iff_ne.mpr fun z => e z.symm).symm
      · rfl
    refine wpAny_pure ⟨plainId_quiet PyProof.Rows.F.plain_set_update_loop _, loop_strs W S hSf xs hsz hn hval k (i + 1) _ (by omega) hlt (W.frame _ s' _ _ hst' (Nat.le_succ _) fun b hb o e => ?_) hSi fun s'' hm'' hS'' => hR s'' (Moved.trans W.gtrans ((hm.mono fun b hb => List.mem_cons_of_mem _ hb).then_heap (Nat.le_succ _) fun b o hb e => ?_) hm'') hS''⟩
    · exact (hsb.2 b fun h : b = S => hSf (h ▸ hb)).trans e
    · exact (hsb.2 b fun h : b = S => hb (h ▸ List.mem_cons_self)).trans e
end
section
variable {prog : Program} {w : World} {A : Around} {E : Value → Shared → Prop} {s : Shared}
/-- a new set, empty -/
abbrev set0 (led : Bool) : Obj := { cls := .type "set", dict := none, data := .set #[] 0 (.fresh 0 0 led) }
set_option maxHeartbeats 3200000 in
theorem call_set_tup {l : Addr} {items : Array Value} {xs : List Str} {Q : Value → Shared → Prop} (hh : A.handled = none) (hl : s.heap.IsTuple l items) (hi : PyProof.Rows.StrsAre items.toList xs) (hn : xs.length ≤ 1000)
    (h : ∀ (h' : Heap) (tk : Nat), h'.SetOf (PySem.strKind prog w) s.heap.objs.size (fun y => (taken xs xs.length).any (· == y)) (distinct (taken xs xs.length)) → (∀ b o, s.heap.get? b = some o → h'.get? b = some o) → Q (.ref s.heap.objs.size) { s with heap := h', toks := tk }) :
    wpAny (model prog w) A (call (.type "set") [.ref l]) Q E s := by
  obtain ⟨c, tl, hmro⟩ := PySem.F.called_set.mro
  have g1 := PySem.F.called_set.made; have g2 := PySem.F.called_set.sub; have g3 := PySem.F.called_set.notType; have g4 := PySem.F.called_set.canCreate; have g5 := PySem.F.typeCall_set_1 (.ref l)
  refine wpAny_call (codeAny_of_tree (show wpAny _ _ (callAny (.type "set") _) _ _ _ from wpAny_pure ⟨Code.quiet_builtin _ (by decide +kernel), codeAny_builtin PySem.F.entry_type_call ?_⟩))
  rw [Around.under_plain (weight_type_call_type "set" [.ref l] []) rfl]
  repeat (any_goals (first | assumption | wp_step))
  refine codeAny_mono (code_set_new_1 (.ref l) (E := E) (Q₁ := fun obj s₁ => ∃ led : Bool, obj = .ref s.heap.objs.size ∧ s₁ = { s with heap := s.heap.push (set0 led) }) fun led => ⟨led, rfl, rfl⟩) fun r s₁ hr => ?_
  cases r with
  | error e => exact hr
  | ok fl =>
    cases fl with
    | next => exact hr.elim
    | brk => exact hr.elim
    | cont => exact hr.elim
    | ret obj =>
      obtain ⟨led, rfl, rfl⟩ := hr
      have got : (s.heap.push (set0 led)).get? s.heap.objs.size = some (set0 led) := Heap.get?_push_size _ rfl
      have ty : Shared.TypeIs { s with heap := s.heap.push (set0 led) } (.ref s.heap.objs.size) "set" := ⟨_, got, rfl⟩
      have i1 := PySem.F.called_set.init.lookup; have i2 := PySem.F.called_set.init.bind (.ref s.heap.objs.size)
      repeat (any_goals (first | assumption | wp_step))
      refine codeAny_mono (codeAny_call_builtin (R := wants (fun r s₂ => r = .none ∧ ∃ h' tk, s₂ = { s with heap := h', toks := tk } ∧ h'.SetOf (PySem.strKind prog w) s.heap.objs.size (fun y => (taken xs xs.length).any (· == y)) (distinct (taken xs xs.length)) ∧ (∀ b o, s.heap.get? b = some o → h'.get? b = some o)) E) PySem.F.called_set.init.plain PySem.F.entry_set_init (check_set_init_1 ty ?_)) fun r₂ s₂ hr₂ => ?_
      · obtain ⟨⟨oc, od, dt, sl⟩, ho, hc, nl, hd⟩ := hl
        cases hc; cases hd
        have ho2 : (s.heap.push (set0 led)).get? l = some ⟨.type "tuple", od, .seq items nl, sl⟩ := Heap.get?_push_of_some _ ho
        have k1 := PySem.F.sub_tuple_set; have k2 := PySem.F.sub_tuple_frozenset
        have k3 : (Value.type "tuple" == Value.type "dict") = false := by decide
        have isT : (s.heap.push (set0 led)).IsTuple l items := ⟨_, ho2, rfl, nl, rfl⟩
        unfold Builtin.«set.__init__» noKeywords Builtin.Frozenset.updateFrom
        generalize hPI : pyIter = PI
        wp_walk
        subst hPI
        refine wpAny_pyIter_tuple isT (wpAny_bind (wpAny_runValue ?_))
        have lt : l < s.heap.objs.size := Heap.lt_size ho
        have ps : (s.heap.push (set0 led)).objs.size = s.heap.objs.size + 1 := Heap.size_push _ _
        have h3 : A.in1.in1.in1.handled = none := by simp [hh]
        have len : xs.length = items.size := by rw [← StrsAre.len_eq hi, Array.length_toList]
        refine loop_strs ((Walks.tuple h3 _ l (by rw [ps]; exact Nat.ne_of_lt (Nat.lt_succ_of_lt lt)) items).toS) s.heap.objs.size (by rw [ps]; simp only [List.mem_cons, List.not_mem_nil, or_false, not_or]; exact ⟨Nat.ne_of_lt (Nat.lt_succ_self _), Nat.ne_of_gt lt⟩) xs len (by omega) (fun i v hv => SS.strs_at hi i v (by rw [Array.getElem?_toList]; exact hv)) (items.size - 0) 0 _ (by omega) (Nat.zero_le _)
          ⟨⟨_, Heap.get?_push_size _ rfl, rfl, rfl⟩, isT.push _⟩ ?z0 ?z1
        case z0 => exact PyProof.Rows.SetOf_congr ((PyProof.Rows.setObjOf_fresh (knd := PySem.strKind prog w) led).setOf (Heap.get?_push_of_some _ got) (by unfold scanBound; omega)) (fun _ => rfl) rfl
        case z1 =>
          intro s' hm hS'
          obtain ⟨h', g', d', tk', os'⟩ := s'
          obtain rfl : g' = s.gens := hm.gens
          obtain rfl : d' = s.drawn := hm.drawn
          obtain rfl : os' = s.os := hm.os
          rw [← len] at hS'
          have hb : ∀ {b : Addr} {o : Obj}, s.heap.get? b = some o → b < s.heap.objs.size := fun e => Heap.lt_size e
          refine wpAny_pure ?_
          show wpAny _ _ (ret Value.none) _ _ _
          exact wpAny_pure ⟨rfl, h', tk', rfl, hS', fun b o e => hm.heap b o (by rw [ps]; simp only [List.mem_cons, List.not_mem_nil, or_false, not_or]; exact ⟨Nat.ne_of_lt (hb e), Nat.ne_of_lt (Nat.lt_succ_of_lt (hb e))⟩) (Heap.get?_push_of_some _ (Heap.get?_push_of_some _ e))⟩
      · cases r₂ with
        | error e => exact hr₂
        | ok fl₂ =>
          cases fl₂ with
          | next => exact hr₂.elim
          | brk => exact hr₂.elim
          | cont => exact hr₂.elim
          | ret r =>
            obtain ⟨rfl, h', tk, rfl, hS', hk'⟩ := hr₂
            repeat (any_goals (first | assumption | wp_step))
            exact h _ _ hS' hk'
end
end Gj

namespace Gj
open PySem PySem.Spec PyProof.Rows L2
open C8 (Cal pe_c pe_gc)
/-- the set of these texts at a -/
def StrSet (P : Program) (w : World) (a : Addr) (xs : List Str) : HO := .ext fun h => h.SetOf (PySem.strKind P w) a (fun y => (taken xs xs.length).any (· == y)) (distinct (taken xs xs.length))
theorem strSet_ok {P : Program} {w : World} {H : Hp} {h : Heap} {a : Addr} {xs : List Str} (hS : h.SetOf (PySem.strKind P w) a (fun y => (taken xs xs.length).any (· == y)) (distinct (taken xs xs.length))) : ObjOk P w H h a (StrSet P w a xs) := by
  obtain ⟨o, es, ep, t, ho, rest⟩ := hS
  exact ⟨⟨o, es, ep, t, ho, rest⟩, ⟨o, ho⟩, fun h1 h2 z k => by
    obtain ⟨o, es, ep, t, ho, rest⟩ := z
    exact ⟨o, es, ep, t, k _ ho, rest⟩⟩
theorem strs_of : ∀ {ys : List Str} {us : List Value}, Vals (ys.map V.str) us → PyProof.Rows.StrsAre us ys
  | [], _, .nil => .nil
  | y :: ys, _, .cons r t => by
    obtain ⟨k, rfl⟩ := r
    exact .cons y k (strs_of t)
section
variable {X : Cx}
/-- set(t) -/
def rSetS (P : Program) (w : World) (K : PySem.W.Frag) : List V → Hp → VK → Prop := fun vs H Q => ∃ (l : Addr) (xs : List Str), vs = [.ref l] ∧ SqT K H l (xs.map V.str) ∧ xs.length ≤ 1000 ∧ ∀ a, H a = none → Q (.ref a) (upd H a (StrSet P w a xs))
theorem call_setS (hc : X.calm = true) : CallR X (.type "set") (rSetS X.prog X.w X.K) := by
  intro pins s σ H xs us Q I r h
  obtain ⟨l, ys, rfl, hq, hn, q⟩ := h
  obtain ⟨u, rfl, rfl⟩ := vals1 r
  obtain ⟨its, rv, pl, _⟩ := I.tuple hq
  have nf : H s.heap.objs.size = none := I.hok.fresh (Nat.le_refl _)
  exact call_set_tup (I.ok.hd hc) pl (by simpa using strs_of rv) hn fun h' tk hS hk => ⟨.ref _, _, I.laid (t' := tk) hk (Nat.le_refl _) (strSet_ok hS), rfl, q _ nf⟩
/-- len(s) -/
def rLenS (P : Program) (w : World) : List V → Hp → VK → Prop := fun vs H Q => ∃ (a : Addr) (xs : List Str), vs = [.ref a] ∧ H a = some (StrSet P w a xs) ∧ xs.length ≤ 1000 ∧ Q (.int (distinct (taken xs xs.length))) H
theorem call_lenS : CallR X (.builtin "len") (rLenS X.prog X.w) := by
  intro pins s σ H xs us Q I r h
  obtain ⟨a, ys, rfl, ea, hl, q⟩ := h
  obtain ⟨u, rfl, rfl⟩ := vals1 r
  obtain ⟨⟨o, es, ep, t, ho, hex, hd, _, _, _, hf, hn⟩, _, _⟩ := I.hok a _ ea
  have small := distinct_le (taken ys ys.length)
  refine call_len_set ho hex hd hf ?_ ⟨.int _, H, I.tok _, ⟨_, by rw [hn]⟩, q⟩
  have e : (taken ys ys.length).length = ys.length := by simp [taken]
  rw [hn]
  omega
end
end Gj

namespace Gj
open PySem PySem.Spec PyProof.Rows L2
open C8 (Cal pe_c pe_gc)
abbrev sLetters : Str := "abcdefghijklmnopqrstuvwxyz"
abbrev sFigures : Str := "0123456789"
structure Gs (K : PySem.W.Frag) (mg : Str → Option Value) : Prop where
  LETTERS : ∃ u, mg "LETTERS" = some u ∧ RelV (.str sLetters) u
  FIGURES : ∃ u, mg "FIGURES" = some u ∧ RelV (.str sFigures) u
  SORTS : ∃ a, mg "SORTS" = some (.ref a) ∧ ∀ H, SqT K H a [.str "came", .str "short", .str "ask", .str "row"]
/-! ### the mirror -/
def mName : PyData → Bool := mTxt sLetters 8
def mWord : PyData → Bool := mTxt (sLetters ++ sFigures) 12
def mWhole (d : PyData) (n : Int) : Bool := match d with
  | .int i => decide (n ≤ i)
  | _ => false
def atD (d : PyData) (k : Nat) (f : PyData → Bool) : Bool := match d with
  | .tuple ds => (ds[k]?.map f).getD false
  | _ => false
def lenD (d : PyData) (n : Int) : Bool := match d with
  | .tuple ds => decide ((ds.length : Int) = n)
  | _ => false
def mPair (d : PyData) (n : Int) : Bool := lenD d 2 && (atD d 0 mName && atD d 1 fun e => mWhole e n)
def sorts : List Str := ["came", "short", "ask", "row"]
def mSort (d : PyData) : Bool := mName d && sorts.any fun z => isT d z
def strsOf (ds : List PyData) : List Str := ds.filterMap fun d => match d with
  | .str z => some z
  | _ => none
def mShut (d : PyData) : Bool := match d with
  | .tuple ds => ds.all mName && decide (distinct (taken (strsOf ds) (strsOf ds).length) = (strsOf ds).length)
  | _ => false
def mBegins (d : PyData) (k : Str) (n : Int) : Bool := lenD d n && (atD d 0 mName && atD d 0 fun e => isT e k)
def mLetter (d : PyData) : Bool := mBegins d "letter" 4 && (atD d 1 mName && (atD d 2 mName && atD d 3 mWord))
def mEcho (d : PyData) : Bool := mBegins d "echo" 5 && (atD d 1 mName && (atD d 2 mName && (atD d 3 mSort && atD d 4 fun e => mPair e 0)))
def mAnswer (d : PyData) : Bool := mBegins d "answer" 5 && (atD d 1 mName && (atD d 2 mSort && ((atD d 3 fun e => mPair e 0) && atD d 4 fun e => mPair e 1)))
def mGoer (d : PyData) : Bool := mBegins d "goer" 4 && (atD d 1 mName && ((atD d 2 fun e => mWhole e 2) && atD d 3 mShut))
def mParcel (d : PyData) : Bool := mLetter d || mEcho d
def mThing (d : PyData) : Bool := mParcel d || (mAnswer d || mGoer d)
def spTextD : Sp := fun vs H Q _ => ∃ (p : Addr) (v : V) (d : PyData) (signs : Str) (most : Int), vs = [v, .str signs, .int most] ∧ Dt p H v d ∧ ∀ H', Same H H' → Q (.bl (mTxt signs most d)) H'
def spBegins : Sp := fun vs H Q _ => ∃ (p : Addr) (v : V) (d : PyData) (k : Str) (n : Int), vs = [v, .str k, .int n] ∧ Dt p H v d ∧ 1 ≤ n ∧ ∀ H', Same H H' → Q (.bl (mBegins d k n)) H'
/-- a datum that is a tuple -/
theorem tup_of {p : Addr} {H : Hp} {v : V} {d : PyData} (h : Dt p H v d) (e : isa d "tuple" = true) : ∃ c xs ds, v = .ref c ∧ d = .tuple ds ∧ H c = some (.tup xs) ∧ xs.length ≤ 1000 ∧ DtAll p H xs ds := by
  cases h with
  | tup n z e2 h => exact ⟨_, _, _, rfl, rfl, e2, z, h⟩
  | _ => exact absurd e (by dsimp only [isa, kind]; decide +kernel)
theorem tup_len {p : Addr} {H : Hp} {v : V} {d : PyData} {n : Int} (h : Dt p H v d) (e : lenD d n = true) : ∃ c xs ds, v = .ref c ∧ d = .tuple ds ∧ (ds.length : Int) = n ∧ H c = some (.tup xs) ∧ xs.length ≤ 1000 ∧ DtAll p H xs ds := by
  cases h with
  | tup n z e2 h => exact ⟨_, _, _, rfl, rfl, of_decide_eq_true e, e2, z, h⟩
  | _ => exact absurd e (by simp [lenD])
section
variable {σ : L2.St} {H : Hp} {te : TE} {K : PySem.W.Frag} {p c : Addr} {xs : List V} {ds : List PyData} {E : XK}
theorem giv_at {k : Nat} (h : Giv te σ H (.ref c)) (e : H c = some (.tup xs)) (hd : DtAll p H xs ds) (hk : k < ds.length) : ∃ x d, Giv (tOp (rIxT K) te (tC (.int (k : Nat)))) σ H x ∧ Dt p H x d ∧ ds[k]? = some d := by
  have hx : xs[k]? = some (xs[k]'(by rw [hd.length]; exact hk)) := List.getElem?_eq_getElem _
  obtain ⟨d, h1, h2⟩ := hd.get hx
  exact ⟨_, d, giv_ixT h e hx, h2, h1⟩
theorem say_callAt {k : Nat} {f : PyData → Bool} (h : Giv te σ H (.ref c)) (e : H c = some (.tup xs)) (hd : DtAll p H xs ds) (hk : k < ds.length) : Say (tCall (spPred f) [] E (tCons (tOp (rIxT K) te (tC (.int (k : Nat)))) tNil)) σ H (atD (.tuple ds) k f) := by
  obtain ⟨x, d, g, hx, ek⟩ := giv_at (K := K) h e hd hk
  have : atD (.tuple ds) k f = f d := by
    show ((ds[k]?.map f).getD false) = f d
    rw [ek]
    rfl
  rw [this]
  exact say_call g hx
theorem say_callNAt {k : Nat} {n : Int} {f : PyData → Int → Bool} {tn : TE} (h : Giv te σ H (.ref c)) (hn : Giv tn σ H (.int n)) (e : H c = some (.tup xs)) (hd : DtAll p H xs ds) (hk : k < ds.length) : Say (tCall (spPredN f) [] E (tCons (tOp (rIxT K) te (tC (.int (k : Nat)))) (tCons tn tNil))) σ H (atD (.tuple ds) k fun e => f e n) := by
  obtain ⟨x, d, g, hx, ek⟩ := giv_at (K := K) h e hd hk
  have : (atD (.tuple ds) k fun e => f e n) = f d n := by
    show ((ds[k]?.map fun e => f e n).getD false) = f d n
    rw [ek]
    rfl
  rw [this]
  exact say_callN g hn hx
end
theorem strs_all {p : Addr} {H : Hp} : ∀ {xs : List V} {ds : List PyData}, DtAll p H xs ds → ds.all mName = true → xs = (strsOf ds).map V.str ∧ ds = (strsOf ds).map PyData.str
  | _, _, .nil, _ => ⟨rfl, rfl⟩
  | _, _, .cons (d := d) (ds := ds) a b, h => by
    rw [List.all_cons, Bool.and_eq_true] at h
    obtain ⟨h1, h2⟩ := strs_all b h.2
    cases a with
    | str z hz => exact ⟨congrArg (fun t => V.str z :: t) h1, congrArg (fun t => PyData.str z :: t) h2⟩
    | _ => exact absurd h.1 (by simp [mName, mTxt])
end Gj

/-! own layer: functions called where no repr is under way -/
namespace Gj
open PySem PySem.Spec PyProof.Rows L2
open C8 (Cal pe_c pe_gc)
/-- as FnOk, but only where no repr is under way -/
structure FnG (P : Program) (w : World) (K : PySem.W.Frag) (mg : Str → Option Value) (base : Heap) (CX : CXT) (k : Nat) (f : Addr) (fd : FuncData) (ps : List Str) (sp : Sp) : Prop where
  len : ∀ vs H Q E, sp vs H Q E → vs.length = ps.length
  run : ∀ (A : Around) (outer : List Env) (s : Shared) (H : Hp) (args : Args) (us : List Value) (vs : List V) (Q : VK) (E : XK), A.guards = some [] → Room k A → Env0 P w K mg base A outer s H → BindsTo s fd args (ps.zip us) → Vals vs us → sp vs H Q E →
    codeAny (model P w) A (.call (.ref f) args) (CR CX outer P w H s Q E) s
section
variable {P : Program} {w : World} {K : PySem.W.Frag} {mg : Str → Option Value} {base : Heap}
theorem fnG {CX : CXT} {x q : Str} {st : Stmt} {f : Addr} {fd : FuncData} {N ps : List Str} {k : Nat} {sp : Sp} (F : Fun K x q st f fd) (S : FnScope N ps (defScope st)) (len : ∀ vs H Q E, sp vs H Q E → vs.length = ps.length)
    (hb : ∀ (cdv : Value) (A : Around) (outer : List Env) (s : Shared) (H : Hp) (vs : List V) (Q : VK) (E : XK), A.guards = some [] → Room k (A.deeper (envOfC q (defScope st) s.heap.objs.size f cdv)) → sp vs H Q E →
      ∃ t, PSs (cxOf CX P w K mg base N q (defScope st) f cdv A outer s H E) (defBody st) t ∧ t { nx := fun _ H' => Q .non H', rt := Q } (start N vs) H) : FnG P w K mg base CX (k + 1) f fd ps sp := by
  obtain ⟨oc, od, kV, doc, pm, an, cdv, ct, osl, rfl, lk, hcd⟩ := F.ex
  refine ⟨len, fun A outer s H args us vs Q E hg hr e0 hbi r hsp => ?_⟩
  have lv := len _ _ _ _ hsp
  have kx : K.In s.heap := e0.mod.kin.keeps fun b o z => (e0.bs b o z).1
  have nl : s.heap.NoLimit := e0.mod.nolimit.keeps fun b o z => (e0.bs b o z).1
  have kinds : ∀ y ∈ ps.zip us, (defScope st).names.lookup y.1 = some .local ∨ ((defScope st).names.lookup y.1 = some .cell ∧ ((cellsFrom (s.heap.objs.size + 1) (defScope st).names []).lookup y.1).isSome = true) := fun ⟨n, v⟩ hy =>
    (S.par n (List.of_mem_zip hy).1).imp (fun z => z) fun z => ⟨z, PySem.W.cellsFrom_some _ _ _ (.inl z)⟩
  refine codeAny_call_function hr.depth (kx _ _ lk) rfl S.co S.gen rfl (PySem.W.codeRec_of kx hcd) (hbi _ _ _ _ ?_)
  refine wpAny_newFunctionEnv_cells S.kind kinds fun env he s1 y => ?_
  cases he
  refine ⟨nl.keeps y.toInCall.keep, codeAny_func ?_⟩
  obtain ⟨t, ht, hq⟩ := hb cdv A outer s H vs Q E hg (hr.deeper _) hsp
  refine wpAny_mono (ht.run [] s1 (start N vs) H _ (inv_start S hr.hd e0 lv r y) hq) (fun fl s' z => ?_) fun e s' z => z
  cases fl with
  | ret u =>
    obtain ⟨v, σ2, H2, J, rv, q2⟩ := z
    exact ⟨v, H2, J.os, J.bare, J.base, J.hok, rv, q2⟩
  | next =>
    obtain ⟨σ2, H2, J, q2⟩ := z
    exact ⟨V.non, H2, J.os, J.bare, J.base, J.hok, rfl, q2⟩
  | brk => exact (let ⟨_, _, _, v⟩ := z; False.elim v)
  | cont => exact (let ⟨_, _, _, v⟩ := z; False.elim v)
end
/-- a def by its name, called where no repr is under way -/
structure CalG (P : Program) (w : World) (K : PySem.W.Frag) (mg : Str → Option Value) (base : Heap) (k : Nat) (x : Str) (sp : Sp) : Prop where
  ex : ∃ f fd ps, FnG P w K mg base CX0 k f fd ps sp ∧ mg x = some (.ref f) ∧ PySem.W.keepIn K (.ref f) = true ∧ Binds K fd ps []
section
variable {X : Cx} {k j : Nat} {x : Str} {sp : Sp} {p pos : Pos} {e : Expr} {es : List Expr} {t : TA}
theorem pe_cG (c : CalG X.prog X.w X.K X.mg X.base k x sp) (hg0 : X.A.guards = some []) (hr : Room j X.A) (hk : k ≤ j) (hg : Gl X x) (ha : PA X (e :: es) t)
    (hdb : (x == ("__debug__" : Str)) = false := by decide) (he : starEach (e :: es) X.env = (false, eval e X.env) :: starEach es X.env := by rfl) (hpl : (backTo pos (starEach es X.env)).any (·.1) = false := by rfl) :
    PE X (.Call (.Name x p) (e :: es) [] pos) (tCall sp [] C8.E0 t) := by
  obtain ⟨f, fd, ps, F, hm, kp, b⟩ := c.ex
  refine ⟨fun pins s σ H Q I h => ?_⟩
  refine wpAny_Call_Name_kw (ld_glob I hg hm ?_ hdb)
  refine PySem.W.callWith_K (h₀ := X.base) I.ok.mod.kin kp (thn (ha.run pos pins s σ H _ I h) fun us s1 ⟨vs, H1, I1, r, q⟩ => ⟨I1.kIn, ?_⟩) he hpl
  have r2 : Vals (vs ++ []) (us ++ []) := r.append .nil
  have hl : (us ++ []).length = ps.length := by rw [← r2.length]; exact F.len _ _ _ _ q
  refine wpAny_call (codeAny_mono (F.run X.A X.stack s1 H1 ⟨us, []⟩ (us ++ []) (vs ++ []) Q C8.E0 hg0 (hr.mono hk) I1.env0 (b s1 us I1.kIn hl) r2 q) fun r s' z => ?_)
  cases r with
  | error er => exact pass0 pins σ H1 s1 er s' I1 z
  | ok fl =>
    cases fl with
    | ret u => exact I1.after z
    | next => exact z.elim
    | brk => exact z.elim
    | cont => exact z.elim
end
/-! ### the law itself -/
section
variable {P : Program} {w : World} {K : PySem.W.Frag} {mg mb : Str → Option Value} {k : Nat} {fa a : Addr} {fd : FuncData} {x : Str} {sp : Sp} {z : Shared} {vs : List Value} {ns : List Int}
/-- .. from an abstract heap that tracks the script alone, or nothing -/
theorem lawG_at (kx : K.In z.heap) (g : z.heap.Ns mainGlobals mg) (hb : z.heap.Ns builtinsNs mb) (hbb : ∀ y : Str, y ≠ "__name__" → mb y = bootBuiltins y) (lim : z.heap.NoLimit) (hg : z.gens = #[])
    (ea : z.heap.get? a = some { cls := .type "list", data := .seq vs.toArray }) (hr : Room k callerA)
    (F : ∀ base : Heap, K.In base → base.Ns mainGlobals mg → FnG P w K mg base CX0 k fa fd [x] sp) (bind : ∀ (s : Shared) (u : Value), BindsTo s fd ⟨[u], []⟩ [(x, u)])
    (H : Hp) (only : Only H) (hp : sp [.ref a] H (fun v _ => v = .bl true) fun _ _ _ => False) (ok : HOk P w H z.heap) (al : ∀ b u, H b = some u → b = a) (nk : ∀ u, H a = some u → K.lookup a = none) :
    codeAny (model P w) callerA (.call (.ref fa) ⟨[.ref a], []⟩) (fun r s' => r = .ok (.ret (.bool true)) ∧ OldK z.heap s'.heap ∧ s'.os = z.os ∧ AllBare s'.gens) z := by
  have none_of : ∀ b, (b = a → False) → H b = none := fun b nb => by
    cases e : H b with
    | none => rfl
    | some u => exact (nb (al b u e)).elim
  have nsB : ∀ {b : Addr} {m : Str → Option Value}, z.heap.Ns b m → (hidT z.heap H).Ns b m := fun {b m} ⟨o, es, ep, e, d, r⟩ => ⟨o, es, ep, hidT_get e (none_of b fun eb => by
    subst eb
    cases ea.symm.trans e
    cases (show Data.seq vs.toArray _ = Data.dict es ep from d)), d, r⟩
  have kb : K.In (hidT z.heap H) := fun b o e => hidT_get (kx b o e) (by
    cases q : H b with
    | none => rfl
    | some u =>
      have eb := al b u q
      subst eb
      rw [nk u q] at e
      cases e)
  have e0 : Env0 P w K mg (hidT z.heap H) callerA [] z H := ⟨rfl, ⟨kb, nsB g, ⟨mb, nsB hb, hbb⟩, let ⟨c, l1, l2⟩ := lim; ⟨c, nsB l1, l2⟩⟩, fun b o e => of_hidT e, Nat.le_of_eq (hidT_size _ _), trivial, fun b hb => absurd (show b ∈ ([] : List Addr) from hb) (by simp), ok, .of_eq hg⟩
  refine codeAny_mono ((F _ kb (nsB g)).run callerA [] z H ⟨[.ref a], []⟩ [.ref a] [.ref a] _ _ rfl hr e0 (bind z (.ref a)) (.cons rfl .nil) hp) fun r s' h => ?_
  cases r with
  | error e => exact (show False from h).elim
  | ok fl =>
    cases fl with
    | next => exact h.elim
    | brk => exact h.elim
    | cont => exact h.elim
    | ret u =>
      obtain ⟨v, H2, os, bare, un, ok2, rv, rfl⟩ := h
      cases rv
      refine ⟨rfl, OldK.of_keep fun b o e => ?_, os, bare⟩
      rcases only b with q | ⟨ob, xs, q⟩
      · exact un.keep b o e q (fun m => absurd (show b ∈ ([] : List Addr) from m) (by simp)) (by simp)
      · have f1 := (ok b _ q).1
        have f2 := (ok2 b _ (un.frzs b ob _ q)).1
        cases e.symm.trans f1
        exact f2
theorem lawG (kx : K.In z.heap) (g : z.heap.Ns mainGlobals mg) (hb : z.heap.Ns builtinsNs mb) (hbb : ∀ y : Str, y ≠ "__name__" → mb y = bootBuiltins y) (lim : z.heap.NoLimit) (hg : z.gens = #[])
    (ea : z.heap.get? a = some { cls := .type "list", data := .seq vs.toArray }) (hi : IntsAre vs ns) (hl : ns.length ≤ sizeLine) (hr : Room k callerA)
    (F : ∀ base : Heap, K.In base → base.Ns mainGlobals mg → FnG P w K mg base CX0 k fa fd [x] sp) (bind : ∀ (s : Shared) (u : Value), BindsTo s fd ⟨[u], []⟩ [(x, u)])
    (hp : ∀ H : Hp, Only H → SqL K H a (ns.map V.int) → sp [.ref a] H (fun v _ => v = .bl true) fun _ _ _ => False) :
    codeAny (model P w) callerA (.call (.ref fa) ⟨[.ref a], []⟩) (fun r s' => r = .ok (.ret (.bool true)) ∧ OldK z.heap s'.heap ∧ s'.os = z.os ∧ AllBare s'.gens) z := by
  have rv := vals_ints hi
  have ln := hi.length
  cases hk : K.lookup a with
  | some o =>
    have o1 : Only (fun _ => none) := fun _ => .inl rfl
    cases ea.symm.trans (kx a o hk)
    exact lawG_at kx g hb hbb lim hg ea hr F bind (fun _ => none) o1 (hp _ o1 (.inr ⟨_, vs.toArray, _, hk, rfl, rfl, rfl, by rw [List.size_toArray, ln]; exact hl, by simpa using rv⟩)) (fun b u e => by cases e) (fun b u e => by cases e) fun u e => by cases e
  | none =>
    let H0 : Hp := fun b => if b = a then some (.frz { cls := .type "list", data := .seq vs.toArray } (.lst (ns.map V.int))) else none
    have at_ : ∀ b u, H0 b = some u → b = a ∧ u = .frz { cls := .type "list", data := .seq vs.toArray } (.lst (ns.map V.int)) := fun b u e => by
      by_cases eb : b = a
      · exact ⟨eb, (Option.some.inj ((if_pos eb).symm.trans e)).symm⟩
      · cases (if_neg eb).symm.trans e
    have o1 : Only H0 := fun b => by
      by_cases eb : b = a
      · exact .inr ⟨_, _, if_pos eb⟩
      · exact .inl (if_neg eb)
    refine lawG_at kx g hb hbb lim hg ea hr F bind H0 o1 (hp _ o1 (.inl (.inr ⟨{ cls := .type "list", data := .seq vs.toArray }, if_pos rfl⟩))) (fun b u e => ?_) (fun b u e => (at_ b u e).1) fun _ _ => hk
    obtain ⟨rfl, rfl⟩ := at_ b u e
    exact ⟨ea, by rw [List.length_map]; exact hl, vs, _, rv, ea⟩
end
theorem walkG {l : PySem.W.OpenLaw} {n k : Nat} {q : Program} {loose : List Str} {XP : (Str → Option Value) → Heap → Prop} {YP : World → Heap → Prop} {d : DefRec} {x : Str}
    (hn : l.most = some n) (hn2 : n ≤ sizeLine) (hdf : d.params.defaults = []) (hr : Room k callerA)
    (F : ∀ (w : World) (mg : Str → Option Value) (fa : Addr) (h : Heap), YP w h → h.Ns mainGlobals mg → mg d.name = some (.ref fa) →
      ∃ (K : PySem.W.Frag) (fd : FuncData) (sp : Sp), K.In h ∧ (∀ (s : Shared) (u : Value), BindsTo s fd ⟨[u], []⟩ [(x, u)]) ∧
        (∀ (H : Hp) (a : Addr) (ns : List Int), ns.length ≤ n → Only H → SqL K H a (ns.map V.int) → sp [.ref a] H (fun v _ => v = .bl true) fun _ _ _ => False) ∧ ∀ base : Heap, K.In base → base.Ns mainGlobals mg → FnG l.prog w K mg base CX0 k fa fd [x] sp) :
    PySem.W.WalkO q loose XP YP l.row.toRowW d [] (fun f vs => PySem.call f vs) := by
  refine Att.attach_call hn hdf fun w s0 s1 mg mb fa o pm cd doc a vs ns G Y ho hd hcd hmg hobj hints hlen hg => ?_
  obtain ⟨K, fd, sp, kx, hb, hsp, hF⟩ := F w mg fa _ Y G.T.g hmg
  exact lawG kx G.T.g G.T.b G.T.builtins G.T.nolimit hg hobj hints (Nat.le_trans hlen hn2) hr hF hb fun H hO hS => hsp H a ns hlen hO hS
end Gj

/-! own layer: defs by name called by place or by keywords; repr and str of data -/
namespace Gj
open PySem PySem.Spec PyProof.Rows L2
open C8 (Cal pe_c pe_gc)
/-- a def by its name, with its text -/
def CalF (P : Program) (w : World) (K : PySem.W.Frag) (mg : Str → Option Value) (base : Heap) (k : Nat) (x : Str) (st : Stmt) (ps : List Str) (sp : Sp) : Prop :=
  ∃ f fd, Fun K x x st f fd ∧ FnOk P w K mg base CX0 k f fd ps sp ∧ mg x = some (.ref f)
section
variable {P : Program} {w : World} {K : PySem.W.Frag} {mg : Str → Option Value} {base : Heap} {x : Str} {st : Stmt} {ps : List Str} {k : Nat} {sp : Sp}
theorem mkCalF {N : List Str} (D : DefAt K mg x st) (S : FnScope N ps (defScope st)) (len : ∀ vs H Q E, sp vs H Q E → vs.length = ps.length)
    (hbody : ∀ (f : Addr) (cdv : Value) (A : Around) (outer : List Env) (s : Shared) (H : Hp) (vs : List V) (Q : VK) (E : XK), Room k (A.deeper (envOfC x (defScope st) s.heap.objs.size f cdv)) → sp vs H Q E →
      ∃ t, PSs (cxOf CX0 P w K mg base N x (defScope st) f cdv A outer s H E).nox (defBody st) t ∧ t { nx := fun _ H' => Q .non H', rt := Q } (start N vs) H) : CalF P w K mg base (k + 1) x st ps sp := by
  obtain ⟨f, fd, F, g⟩ := D
  exact ⟨f, fd, F, F.ok S len (hbody f), g⟩
theorem CalF.cal (c : CalF P w K mg base k x st ps sp) (hb : ∀ (kV doc pm : Value) (an : Option Addr) (cdv ct : Value) (us : List Value), us.length = ps.length → bindArgs (PySem.W.fnOf x x (defArgs st) (defBody st) (defScope st) .none kV doc pm an cdv ct) ⟨us, []⟩ = pure (ps.zip us)) : Cal P w K mg base k x sp [] := by
  obtain ⟨f, fd, F, h, g⟩ := c
  exact ⟨f, fd, ps, [], h, g, F.kp, F.binds hb, .nil⟩
/-- .. by keywords alone, in the order ks -/
def CalK (P : Program) (w : World) (K : PySem.W.Frag) (mg : Str → Option Value) (base : Heap) (k : Nat) (x : Str) (sp : Sp) (ks : List Str) (gV : List V → List V) : Prop :=
  ∃ (f : Addr) (fd : FuncData) (ps : List Str) (g : List Value → List Value), FnOk P w K mg base CX0 k f fd ps sp ∧ mg x = some (.ref f) ∧ PySem.W.keepIn K (.ref f) = true ∧ KBn K fd ps 0 ks (fun _ ws => g ws) (fun _ zs => gV zs)
theorem CalF.kw (c : CalF P w K mg base k x st ps sp) {ks : List Str} {g : List Value → List Value} {gV : List V → List V}
    (hb : ∀ (kV doc pm : Value) (an : Option Addr) (cdv ct : Value) (ws : List Value), ws.length = ks.length → bindArgs (PySem.W.fnOf x x (defArgs st) (defBody st) (defScope st) .none kV doc pm an cdv ct) ⟨[], ks.zip ws⟩ = pure (ps.zip (g ws)))
    (hv : ∀ {zs : List V} {ws : List Value}, Vals zs ws → Vals (gV zs) (g ws)) : CalK P w K mg base k x sp ks gV := by
  obtain ⟨f, fd, F, h, e⟩ := c
  refine ⟨f, fd, ps, g, h, e, F.kp, ⟨fun s us ws kx l1 l2 => ?_, fun _ rz => hv rz⟩⟩
  obtain ⟨oc, od, kV, doc, pm, an, cdv, ct, osl, rfl, lk, hcd⟩ := F.ex
  cases us with
  | nil => exact BindsTo.of_looks fun M => PySem.W.Looks.of_pure (hb kV doc pm an cdv ct ws l2)
  | cons _ _ => cases l1
end
section
variable {X : Cx} {k j : Nat} {x : Str} {sp : Sp} {p pos : Pos} {kws : List Keyword} {ks : List Str} {gV : List V → List V} {tk : TA}
def tCallK0 (n : Nat) (sp : Sp) (gV : List V → List V) (tk : TA) : TE := fun σ H Q => tk σ H fun zs H2 => zs.length = n ∧ sp (gV zs) H2 Q C8.E0
/-- f(k = v, ..) -/
theorem pe_ck (c : CalK X.prog X.w X.K X.mg X.base k x sp ks gV) (hr : Room j X.A) (hk : k ≤ j) (hg : Gl X x) (hkw : PK X kws tk)
    (hall : (backToKw pos (keywordEach kws X.env)).all (·.1.isSome) = true := by rfl) (hks : (backToKw pos (keywordEach kws X.env)).filterMap (·.1) = ks := by rfl) (hdb : (x == ("__debug__" : Str)) = false := by decide)
    (hpl : ((backTo pos (starEach [] X.env)).any (·.1) || (backToKw pos (keywordEach kws X.env)).any (·.1.isNone)) = false := by rfl) :
    PE X (.Call (.Name x p) [] kws pos) (tCallK0 ks.length sp gV tk) := by
  obtain ⟨f, fd, ps, g, F, hm, kp, hb⟩ := c
  refine ⟨fun pins s σ H Q I h => ?_⟩
  refine wpAny_Call_Name_kw (ld_glob I hg hm ?_ hdb)
  refine PySem.W.callWith_KW0 (h₀ := X.base) I.ok.mod.kin kp hall ?_ hpl
  refine thn (hkw.run pos pins s σ H _ I h) fun ws s2 ⟨zs, H2, I2, rz, l2, q2⟩ => ⟨I2.kIn, ?_⟩
  rw [hks]
  exact run_fnN (us := []) (vs := []) F (hr.mono hk) hb pass0 I2 .nil rz rfl l2 q2
end
/-! ### repr of data -/
section
mutual
theorem Dt.dp {K : PySem.W.Frag} {p : Addr} {H : Hp} : ∀ {v : V} {d : PyData}, Dt p H v d → d.hasDict = false → Dp K H v d
  | _, _, .non, _ => .non
  | _, _, .bl b, _ => .bl b
  | _, _, .int i, _ => .int i
  | _, _, .str x _, _ => .str x
  | _, _, .lst _ _ e h, z => .lst (SqL.of e) (DtAll.dp h (by simpa only [PyData.hasDict] using z))
  | _, _, .tup _ _ e h, z => .tup (SqT.of e) (DtAll.dp h (by simpa only [PyData.hasDict] using z))
  | _, _, .dic _ _, z => absurd z (by simp [PyData.hasDict])
  | _, _, .dic1 _ _ _, z => absurd z (by simp [PyData.hasDict])
theorem DtAll.dp {K : PySem.W.Frag} {p : Addr} {H : Hp} : ∀ {vs : List V} {ds : List PyData}, DtAll p H vs ds → PyData.hasDictAll ds = false → DpAll K H vs ds
  | _, _, .nil, _ => .nil
  | _, _, .cons a b, z => by
    rw [PyData.hasDictAll, Bool.or_eq_false_iff] at z
    exact .cons (Dt.dp a z.1) (DtAll.dp b z.2)
end
/-- data that repr tells in one piece -/
structure Shows (d : PyData) : Prop where
  show1 : d.showable = true
  nod : d.hasDict = false
  deep : d.depth ≤ 8
  size : d.shown.length ≤ sizeLine
def rReprD (K : PySem.W.Frag) : List V → Hp → VK → Prop := fun xs H Q => ∃ a d, xs = [.ref a] ∧ Dp K H (.ref a) d ∧ Shows d ∧ Q (.str d.shown) H
theorem call_reprD {X : Cx} (hg : X.A.guards = some []) (hu : X.A.units + 64 < cLine) : CallR X (.builtin "repr") (rReprD X.K) := by
  intro pins s σ H xs us Q I r h
  obtain ⟨a, d, rfl, hd, hs, q⟩ := h
  obtain ⟨u, rfl, e⟩ := vals1 r
  cases e
  obtain ⟨as, rd⟩ := Dp.reads I d _ _ hd rfl
  exact repr_of_reads' rd hs.show1 (fun z => absurd z (by rw [hs.nod]; decide)) hg (by have := hs.deep; omega) (fun _ _ e => e) (fun h' u tk k => ⟨.str _, H, I.kept k, ⟨_, rfl⟩, q⟩) hs.size
def rStrD : List V → Hp → VK → Prop := fun xs H Q => (∃ i, xs = [.int i] ∧ i.natAbs.log2 < 1920 ∧ Q (.str (toString i)) H) ∨ ∃ z, xs = [.str z] ∧ Q (.str z) H
end
end Gj
namespace Gj
open PySem PySem.Spec PyProof.Rows L2
theorem call_strD {X : Cx} : CallR X (.type "str") rStrD := by
  intro pins s σ H xs us Q I r h
  rcases h with h | h
  · exact call_str_int pins s σ H xs us Q I r h
  · exact SkE.call_str_str pins s σ H xs us Q I r h
end Gj
namespace Gj
open PySem PySem.Spec PyProof.Rows L2
theorem fnGn {P : Program} {w : World} {K : PySem.W.Frag} {mg : Str → Option Value} {base : Heap} {CX : CXT} {x q : Str} {st : Stmt} {f : Addr} {fd : FuncData} {N ps : List Str} {k : Nat} {sp : Sp} (F : Fun K x q st f fd) (S : FnScope N ps (defScope st)) (len : ∀ vs H Q E, sp vs H Q E → vs.length = ps.length)
    (hb : ∀ (cdv : Value) (A : Around) (outer : List Env) (s : Shared) (H : Hp) (vs : List V) (Q : VK) (E : XK), A.guards = some [] → Room k (A.deeper (envOfC q (defScope st) s.heap.objs.size f cdv)) → sp vs H Q E →
      ∃ t, PSs (cxOf CX P w K mg base N q (defScope st) f cdv A outer s H E).nox (defBody st) t ∧ t { nx := fun _ H' => Q .non H', rt := Q } (start N vs) H) : FnG P w K mg base CX (k + 1) f fd ps sp :=
  fnG F S len fun cdv A outer s H vs Q E hg hr h => let ⟨t, h1, h2⟩ := hb cdv A outer s H vs Q E hg hr h; ⟨t, h1.nox, h2⟩
theorem mkCalG {P : Program} {w : World} {K : PySem.W.Frag} {mg : Str → Option Value} {base : Heap} {x : Str} {st : Stmt} {N ps : List Str} {k : Nat} {sp : Sp} (D : DefAt K mg x st)
    (hb : ∀ (kV doc pm : Value) (an : Option Addr) (cdv ct : Value) (us : List Value), us.length = ps.length → bindArgs (PySem.W.fnOf x x (defArgs st) (defBody st) (defScope st) .none kV doc pm an cdv ct) ⟨us, []⟩ = pure (ps.zip us))
    (S : FnScope N ps (defScope st)) (len : ∀ vs H Q E, sp vs H Q E → vs.length = ps.length)
    (hbody : ∀ (f : Addr) (cdv : Value) (A : Around) (outer : List Env) (s : Shared) (H : Hp) (vs : List V) (Q : VK) (E : XK), A.guards = some [] → Room k (A.deeper (envOfC x (defScope st) s.heap.objs.size f cdv)) → sp vs H Q E →
      ∃ t, PSs (cxOf CX0 P w K mg base N x (defScope st) f cdv A outer s H E).nox (defBody st) t ∧ t { nx := fun _ H' => Q .non H', rt := Q } (start N vs) H) : CalG P w K mg base (k + 1) x sp := by
  obtain ⟨f, fd, F, g⟩ := D
  exact ⟨f, fd, ps, fnGn F S len (hbody f), g, F.kp, F.binds hb⟩
end Gj

/-! own layer: things, their texts -/
namespace Gj
open PySem PySem.Spec PyProof.Rows L2
open C8 (Cal pe_c pe_gc)
def num (n : Nat) : Str := ((toString (n : Int) : String) : Str)
theorem num_S (n : Nat) : num n = SX.S (TL.numL n) := SX.num_S n
theorem num_tl (n : Nat) : (num n).cps.toList = TL.numL n := TL.tl_num n
inductive Th
  | letter (a b w : Str)
  | echo (a b s m : Str) (n : Nat)
  | answer (a s m : Str) (n : Nat) (h : Str) (k : Nat)
  | goer (a : Str) (n : Nat) (zs : List Str)
def Th.parts : Th → List PyData
  | .letter a b w => [.str "letter", .str a, .str b, .str w]
  | .echo a b s m n => [.str "echo", .str a, .str b, .str s, .tuple [.str m, .int (n : Int)]]
  | .answer a s m n h k => [.str "answer", .str a, .str s, .tuple [.str m, .int (n : Int)], .tuple [.str h, .int (k : Int)]]
  | .goer a n zs => [.str "goer", .str a, .int (n : Int), .tuple (zs.map .str)]
def Th.data (t : Th) : PyData := .tuple t.parts
def Th.words : Th → List Str
  | .letter a b w => ["letter", a, b, w]
  | .echo a b s m n => ["echo", a, b, s, m, num n]
  | .answer a s m n h k => ["answer", a, s, m, num n, h, num k]
  | .goer a n zs => "goer" :: a :: num n :: zs
def Th.text (t : Th) : Str := Txt.join " " t.words
/-- a number that a thing has -/
def NumOk (n : Nat) : Prop := n < 10 ^ 31
def Th.Good : Th → Prop
  | .letter a b w => NameS a ∧ NameS b ∧ WordS w
  | .echo a b s m n => NameS a ∧ NameS b ∧ s ∈ sorts ∧ NameS m ∧ NumOk n
  | .answer a s m n h k => NameS a ∧ s ∈ sorts ∧ NameS m ∧ NumOk n ∧ NameS h ∧ 1 ≤ k ∧ NumOk k
  | .goer a n zs => NameS a ∧ 2 ≤ n ∧ NumOk n ∧ (∀ z ∈ zs, NameS z) ∧ zs.Nodup ∧ zs.length ≤ 9
/-! ### signs -/
theorem NameS.free {z : Str} (h : NameS z) : (32 : Nat) ∉ TL.tl z := by
  obtain ⟨cs, rfl, _, _, h3⟩ := h.ex
  intro hm
  exact absurd (h3 32 hm) (by decide +kernel)
theorem WordS.free {z : Str} (h : WordS z) : (32 : Nat) ∉ TL.tl z := by
  obtain ⟨cs, rfl, _, _, h3⟩ := h.ex
  intro hm
  exact absurd (h3 32 hm) (by decide +kernel)
theorem num_free (n : Nat) : (32 : Nat) ∉ TL.tl (num n) := by
  show 32 ∉ (num n).cps.toList
  rw [num_tl]
  exact TL.numL_free (.inl (by decide))
theorem num_len {n : Nat} (h : NumOk n) : (num n).length ≤ 31 := by
  rw [num_S, SX.S_len]
  exact TL.numL_len (by decide) h
theorem sorts_name : ∀ s ∈ sorts, mName (.str s) = true ∧ s.length ≤ 8 ∧ (32 : Nat) ∉ TL.tl s := by decide +kernel
theorem kinds_name : ∀ s ∈ (["letter", "echo", "answer", "goer"] : List Str), mName (.str s) = true ∧ s.length ≤ 8 ∧ (32 : Nat) ∉ TL.tl s := by decide +kernel
theorem NameS.m {z : Str} (h : NameS z) : mName (.str z) = true := by
  obtain ⟨cs, rfl, h1, h2, h3⟩ := h.ex
  exact txt_of (most := 8) h1 h2 h3
theorem wrds_eq : wrds = (sLetters ++ sFigures : Str).cps.toList := by decide +kernel
theorem WordS.m {z : Str} (h : WordS z) : mWord (.str z) = true := by
  obtain ⟨cs, rfl, h1, h2, h3⟩ := h.ex
  exact txt_of (most := 12) h1 h2 fun c hc => wrds_eq ▸ h3 c hc
theorem whole_m {n : Nat} {i : Int} (h : i ≤ n) : mWhole (.int n) i = true := decide_eq_true h
theorem sort_m {s : Str} (h : s ∈ sorts) : mSort (.str s) = true := by
  show (mName (.str s) && sorts.any fun z => isT (.str s) z) = true
  rw [(sorts_name s h).1, Bool.true_and]
  exact List.any_eq_true.mpr ⟨s, h, beq_self_eq_true s⟩
theorem pair_m {z : Str} {n : Nat} {i : Int} (h : NameS z) (h2 : i ≤ n) : mPair (.tuple [.str z, .int (n : Int)]) i = true := by
  show (true && (mName (.str z) && mWhole (.int n) i)) = true
  rw [h.m, whole_m h2]
  rfl
theorem strsOf_map : ∀ zs : List Str, strsOf (zs.map PyData.str) = zs
  | [] => rfl
  | z :: l => congrArg (z :: ·) (strsOf_map l)
theorem shut_m {zs : List Str} (h : ∀ z ∈ zs, NameS z) (nd : zs.Nodup) : mShut (.tuple (zs.map .str)) = true := by
  show ((zs.map PyData.str).all mName && decide (distinct (taken (strsOf (zs.map PyData.str)) (strsOf (zs.map PyData.str)).length) = (strsOf (zs.map PyData.str)).length)) = true
  rw [strsOf_map]
  have e1 : (zs.map PyData.str).all mName = true := by
    rw [List.all_map]
    exact List.all_eq_true.mpr fun z hz => (h z hz).m
  have e2 : taken zs zs.length = zs.reverse := by
    unfold taken
    rw [List.take_of_length_le (Nat.le_refl _)]
  rw [e1, Bool.true_and, e2]
  refine decide_eq_true ?_
  rw [← List.length_reverse]
  exact (distinct_nodup _).mpr (List.pairwise_reverse.mpr (nd.imp Ne.symm))
theorem begins_m {k : Str} {ds : List PyData} {n : Int} (hk : mName (.str k) = true) (hl : ((ds.length : Int) + 1) = n) : mBegins (.tuple (.str k :: ds)) k n = true := by
  show (decide (((ds.length + 1 : Nat) : Int) = n) && (mName (.str k) && (k == k))) = true
  rw [hk, beq_self_eq_true, decide_eq_true (by omega)]
  rfl
theorem or_r {a b : Bool} (h : b = true) : (a || b) = true := by rw [h, Bool.or_true]
theorem or_l {a b : Bool} (h : a = true) : (a || b) = true := by rw [h, Bool.true_or]
theorem and_i {a b : Bool} (h : a = true) (h2 : b = true) : (a && b) = true := by rw [h, h2]; rfl
theorem Th.Good.thing {t : Th} (h : t.Good) : mThing t.data = true := by
  have k := kinds_name
  cases t with
  | letter a b w =>
    obtain ⟨h1, h2, h3⟩ := h
    exact or_l (or_l (and_i (begins_m (k _ (by decide +kernel)).1 rfl) (and_i h1.m (and_i h2.m h3.m))))
  | echo a b s m n =>
    obtain ⟨h1, h2, h3, h4, h5⟩ := h
    exact or_l (or_r (and_i (begins_m (k _ (by decide +kernel)).1 rfl) (and_i h1.m (and_i h2.m (and_i (sort_m h3) (pair_m h4 (by omega)))))))
  | answer a s m n h k2 =>
    obtain ⟨h1, h2, h3, h4, h5, h6, h7⟩ := h
    exact or_r (or_l (and_i (begins_m (k _ (by decide +kernel)).1 rfl) (and_i h1.m (and_i (sort_m h2) (and_i (pair_m h3 (by omega)) (pair_m h5 (by omega)))))))
  | goer a n zs =>
    obtain ⟨h1, h2, h3, h4, h5, h6⟩ := h
    exact or_r (or_r (and_i (begins_m (k _ (by decide +kernel)).1 rfl) (and_i h1.m (and_i (whole_m (by omega)) (shut_m h4 h5)))))
/-! ### words -/
theorem Th.Good.word {t : Th} (h : t.Good) : ∀ z ∈ t.words, (32 : Nat) ∉ TL.tl z ∧ z.length ≤ 31 := by
  have k := kinds_name
  have kk : ∀ s ∈ (["letter", "echo", "answer", "goer"] : List Str), (32 : Nat) ∉ TL.tl s ∧ s.length ≤ 31 := fun s hs => ⟨(k s hs).2.2, by have := (k s hs).2.1; omega⟩
  have nn : ∀ {z : Str}, NameS z → (32 : Nat) ∉ TL.tl z ∧ z.length ≤ 31 := fun h => ⟨h.free, by have := h.len; omega⟩
  have ss : ∀ {s : Str}, s ∈ sorts → (32 : Nat) ∉ TL.tl s ∧ s.length ≤ 31 := fun h => ⟨(sorts_name _ h).2.2, by have := (sorts_name _ h).2.1; omega⟩
  have mm : ∀ {n : Nat}, NumOk n → (32 : Nat) ∉ TL.tl (num n) ∧ (num n).length ≤ 31 := fun h => ⟨num_free _, num_len h⟩
  have ww : ∀ {z : Str}, WordS z → (32 : Nat) ∉ TL.tl z ∧ z.length ≤ 31 := fun h => ⟨h.free, by
    obtain ⟨cs, rfl, h1, h2, _⟩ := h.ex
    rw [SX.S_len]
    omega⟩
  cases t with
  | letter a b w =>
    obtain ⟨h1, h2, h3⟩ := h
    intro z hz
    simp only [Th.words, List.mem_cons, List.not_mem_nil, or_false] at hz
    rcases hz with rfl | rfl | rfl | rfl
    · exact kk _ (by decide +kernel)
    · exact nn h1
    · exact nn h2
    · exact ww h3
  | echo a b s m n =>
    obtain ⟨h1, h2, h3, h4, h5⟩ := h
    intro z hz
    simp only [Th.words, List.mem_cons, List.not_mem_nil, or_false] at hz
    rcases hz with rfl | rfl | rfl | rfl | rfl | rfl
    · exact kk _ (by decide +kernel)
    · exact nn h1
    · exact nn h2
    · exact ss h3
    · exact nn h4
    · exact mm h5
  | answer a s m n h k2 =>
    obtain ⟨h1, h2, h3, h4, h5, h6, h7⟩ := h
    intro z hz
    simp only [Th.words, List.mem_cons, List.not_mem_nil, or_false] at hz
    rcases hz with rfl | rfl | rfl | rfl | rfl | rfl | rfl
    · exact kk _ (by decide +kernel)
    · exact nn h1
    · exact ss h2
    · exact nn h3
    · exact mm h4
    · exact nn h5
    · exact mm h7
  | goer a n zs =>
    obtain ⟨h1, h2, h3, h4, h5, h6⟩ := h
    intro z hz
    simp only [Th.words, List.mem_cons] at hz
    rcases hz with rfl | rfl | rfl | hz
    · exact kk _ (by decide +kernel)
    · exact nn h1
    · exact mm h3
    · exact nn (h4 z hz)
theorem Th.Good.many {t : Th} (h : t.Good) : 3 ≤ t.words.length ∧ t.words.length ≤ 12 := by
  cases t with
  | letter a b w => show 3 ≤ 4 ∧ 4 ≤ 12; omega
  | echo a b s m n => show 3 ≤ 6 ∧ 6 ≤ 12; omega
  | answer a s m n h k2 => show 3 ≤ 7 ∧ 7 ≤ 12; omega
  | goer a n zs =>
    obtain ⟨h1, h2, h3, h4, h5, h6⟩ := h
    show 3 ≤ zs.length + 1 + 1 + 1 ∧ zs.length + 1 + 1 + 1 ≤ 12
    omega
theorem sum_le {B : Nat} : ∀ {l : List Str}, (∀ z ∈ l, z.length ≤ B) → (l.map (·.length)).sum ≤ l.length * B
  | [], _ => Nat.zero_le _
  | z :: l, h => by
    rw [List.map_cons, List.sum_cons, List.length_cons, Nat.succ_mul]
    have := h z List.mem_cons_self
    have := sum_le fun y hy => h y (List.mem_cons_of_mem _ hy)
    omega
theorem Th.Good.sum {t : Th} (h : t.Good) : (t.words.map (·.length)).sum ≤ 400 := by
  have h1 := sum_le (B := 31) fun z hz => (h.word z hz).2
  have h2 := h.many.2
  have h3 : t.words.length * 31 ≤ 12 * 31 := Nat.mul_le_mul_right _ h2
  omega
/-- THE READ-BACK -/
theorem Th.Good.split {t : Th} (h : t.Good) : Txt.split t.text " " = t.words :=
  TL.split_join (s := 32) (S := []) rfl (by decide +kernel) (fun e => by have := h.many.1; rw [e] at this; exact absurd this (by decide)) fun z hz => (h.word z hz).1
theorem Th.inj {t u : Th} (h : t.Good) (h2 : u.Good) (e : t.text = u.text) : t.words = u.words := by rw [← h.split, ← h2.split, e]
theorem num_inj {m n : Nat} (h : num m = num n) : m = n := TL.numL_inj (by rw [← num_tl, ← num_tl, h])
theorem words_inj {t u : Th} (e : t.words = u.words) : t = u := by
  cases t <;> cases u <;> simp only [Th.words, List.cons.injEq, and_true, true_and] at e
  case letter.letter => obtain ⟨rfl, rfl, rfl⟩ := e; rfl
  case echo.echo =>
    obtain ⟨rfl, rfl, rfl, rfl, e⟩ := e
    rw [num_inj e]
  case answer.answer =>
    obtain ⟨rfl, rfl, rfl, e1, rfl, e2⟩ := e
    rw [num_inj e1, num_inj e2]
  case goer.goer =>
    obtain ⟨rfl, e, rfl⟩ := e
    rw [num_inj e]
  all_goals exact absurd e.1 (by decide +kernel)
theorem Th.text_inj {t u : Th} (h : t.Good) (h2 : u.Good) (e : t.text = u.text) : t = u := words_inj (Th.inj h h2 e)
/-! ### repr -/
theorem str_small {z : Str} {B : Nat} (h : ∀ c ∈ z.cps.toList, c < 16 ^ 8) (hl : z.length ≤ B) : (PyData.shown (.str z)).length ≤ 10 * B + 2 := by
  have := StrLaws.reprText_len z h
  show (reprText z).length ≤ _
  omega
theorem NameS.cps {z : Str} (h : NameS z) : ∀ c ∈ z.cps.toList, c < 16 ^ 8 := by
  obtain ⟨cs, rfl, _, _, h3⟩ := h.ex
  have k : ∀ c ∈ ltrs, c < 16 ^ 8 := by decide +kernel
  exact fun c hc => k c (h3 c hc)
theorem WordS.cps {z : Str} (h : WordS z) : ∀ c ∈ z.cps.toList, c < 16 ^ 8 := by
  obtain ⟨cs, rfl, _, _, h3⟩ := h.ex
  have k : ∀ c ∈ wrds, c < 16 ^ 8 := by decide +kernel
  exact fun c hc => k c (h3 c hc)
theorem sorts_cps : ∀ s ∈ sorts, ∀ c ∈ s.cps.toList, c < 16 ^ 8 := by decide +kernel
theorem kinds_cps : ∀ s ∈ (["letter", "echo", "answer", "goer"] : List Str), ∀ c ∈ s.cps.toList, c < 16 ^ 8 := by decide +kernel
theorem piled_le {B : Nat} : ∀ {l : List Str}, (∀ z ∈ l, z.length ≤ B) → piled l ≤ l.length * (B + 2)
  | [], _ => Nat.zero_le _
  | z :: l, h => by
    have := h z List.mem_cons_self
    have := piled_le fun y hy => h y (List.mem_cons_of_mem _ hy)
    rw [List.length_cons, Nat.succ_mul]
    simp only [piled, List.map_cons, List.sum_cons] at *
    omega
theorem shownAll_map (ds : List PyData) : PyData.shownAll ds = ds.map PyData.shown := by
  induction ds with
  | nil => rfl
  | cons d l ih => rw [PyData.shownAll, ih, List.map_cons]
theorem tup_small {B : Nat} {ds : List PyData} (h : ∀ d ∈ ds, d.shown.length ≤ B) : (PyData.shown (.tuple ds)).length ≤ ds.length * (B + 2) + 2 := by
  show (tupleText (PyData.shownAll ds)).length ≤ _
  rw [shownAll_map]
  have h1 := fmt_text (ds.map PyData.shown)
  have h2 := piled_le (B := B) (l := ds.map PyData.shown) fun z hz => by
    obtain ⟨d, hd, rfl⟩ := List.mem_map.mp hz
    exact h d hd
  rw [List.length_map] at h2
  omega
theorem int_small {n : Nat} (h : NumOk n) : (PyData.shown (.int n)).length ≤ 400 := by
  have := num_len h
  show (num n).length ≤ 400
  omega
theorem int_log {n : Nat} (h : NumOk n) : (n : Int).natAbs.log2 < 1920 := by
  show n.log2 < 1920
  by_cases e : n = 0
  · subst e
    decide
  · have h2 : n < 2 ^ 1920 := Nat.lt_trans h (by decide +kernel)
    exact (Nat.log2_lt e).mpr h2
end Gj

/-! own layer: enumerate over a tuple -/
namespace Gj
open PySem PySem.Spec PyProof.Rows L2
open Sem (wp)
open AutoSeq1 (wpAny_loadPart')
theorem enumT_new (c : Addr) (xs : Array Value) (m : Nat) (dd : Option Addr) (ss : Array (Option Value)) :
    Meets (Builtin.«enumerate.__new__» ⟨[.type "enumerate", .ref c], []⟩) (fun _ R z => z.heap.get? c = some { cls := .type "tuple", dict := dd, data := .seq xs m, slots := ss } ∧
      R (.ok (.ret (.ref (z.heap.push { cls := .type "tuple_iterator", data := .fields #[.ref c, .int 0 0] }).objs.size)))
        { z with heap := (z.heap.push { cls := .type "tuple_iterator", data := .fields #[.ref c, .int 0 0] }).push { cls := .type "enumerate", data := .fields #[.none, .bool false, .ref z.heap.objs.size, rawInt 0, .none, .none] } }) :=
  .of_wp fun prog w A R z hh => by
    obtain ⟨hp, gg, dp, tk, os⟩ := z
    obtain ⟨hc, hh⟩ := hh
    have sb := sub_enumerate
    have hT : Heap.IsTuple (Shared.heap ⟨hp, gg, dp, tk, os⟩) c xs := ⟨_, hc, rfl, m, rfl⟩
    wp_walk using wpAny_loadPart' hc
    refine wpAny_stack_any fun _ => wpAny_pure ?_
    split
    · rename_i y _ _ _ _ _
      cases (y == Value.type "enumerate")
      · wp_walk using wpAny_loadPart' hc, wpAny_pyIter_tuple hT
        exact ⟨_, rfl, hh⟩
      · wp_walk using wpAny_loadPart' hc, wpAny_pyIter_tuple hT
        exact ⟨_, rfl, hh⟩
    · wp_walk using wpAny_loadPart' hc, wpAny_pyIter_tuple hT
      exact ⟨_, rfl, hh⟩
theorem enumT_call {prog : Program} {w : World} {A : Around} {E : Value → Shared → Prop} {s : Shared} {c : Addr} {xs : Array Value} {Q : Value → Shared → Prop} (hT : s.heap.IsTuple c xs)
    (k : ∀ h2, IsEnum h2 (s.heap.objs.size + 1) s.heap.objs.size 0 .none → h2.IsTupleIter s.heap.objs.size c 0 → (∀ b o, s.heap.get? b = some o → h2.get? b = some o) → Q (.ref (s.heap.objs.size + 1)) { s with heap := h2 }) :
    wpAny (model prog w) A (call (.type "enumerate") [.ref c]) Q E s := by
  obtain ⟨⟨cl, dd, dt, ss⟩, hc, hcl, m, hdt⟩ := hT
  obtain rfl : cl = .type "tuple" := hcl
  obtain rfl : dt = .seq xs m := hdt
  refine callType_new F.called_enumerate (by decide) (F.typeCall_enumerate_1 _) (F.newCall_enumerate_1 _) (fun ob => F.args_object_init_2 ob _) F.entry_enumerate_new
    (enumT_new c xs m dd ss) ⟨hc, ?_⟩
  have z1 : (s.heap.push { cls := .type "tuple_iterator", data := .fields #[.ref c, .int 0 0] }).objs.size = s.heap.objs.size + 1 := Heap.size_push ..
  show _ ∧ _
  rw [z1]
  have en : IsEnum ((s.heap.push { cls := .type "tuple_iterator", data := .fields #[.ref c, .int 0 0] }).push
      { cls := .type "enumerate", data := .fields #[.none, .bool false, .ref s.heap.objs.size, rawInt 0, .none, .none] }) (s.heap.objs.size + 1) s.heap.objs.size 0 .none := by
    have g := Heap.get?_push_size (s.heap.push { cls := .type "tuple_iterator", data := .fields #[.ref c, .int 0 0] })
      (o := { cls := .type "enumerate", data := .fields #[.none, .bool false, .ref s.heap.objs.size, rawInt 0, .none, .none] }) rfl
    rw [z1] at g
    exact g
  exact ⟨⟨_, en, rfl⟩, k _ en ⟨_, Heap.get?_push_of_some _ (Heap.get?_push_size _ rfl), rfl, rfl⟩ fun b o x => Heap.get?_push_of_some _ (Heap.get?_push_of_some _ x)⟩
/-- the tuple at a, each part in a new pair -/
def ItT (K : PySem.W.Frag) (a : Addr) : It :=
  ⟨fun i H => ∃ (xs : List V) (x : V), SqT K H a xs ∧ xs[i]? = some x, fun i H v H' => ∃ T x, v = .ref T ∧ H T = none ∧ H' = upd H T (.tup [.int (i : Nat), x]) ∧ ∀ xs, SqT K H a xs → xs[i]? = some x, fun i H => ∃ xs : List V, SqT K H a xs ∧ xs.length = i⟩
theorem turn_enumT {P : Program} {w : World} {K : PySem.W.Frag} {elts : List Expr} {kk : Nat} {tpos : Pos} (a e it : Addr) (hai : a ≠ it) (hae : e ≠ a) :
    Turn P w K (.Tuple elts kk tpos) (ItT K a) [e, it] e (fun i h => (∃ old, IsEnum h e it ((i : Nat) : Int) old) ∧ h.IsTupleIter it a i ∧ e ≠ it) where
  mem := by simp
  obj := fun i h st b hb => by
    obtain ⟨⟨old, he⟩, ⟨ot, go, kc, kd⟩, _⟩ := st
    have e2 : b = e ∨ b = it := by simpa using hb
    rcases e2 with rfl | rfl
    · exact ⟨_, he, fun v q => nomatch q⟩
    · exact ⟨ot, go, fun v q => by rw [kd] at q; cases q⟩
  keep := fun i h h' st k => let ⟨⟨old, he⟩, hi, hne⟩ := st; ⟨⟨old, k e (by simp) _ he⟩, hi.at fun ot q => k it (by simp) ot q, hne⟩
  item := by
    intro X hP hw hK hc i pins s σ H E I hf st hg
    subst hP hw hK
    obtain ⟨⟨old, he⟩, hit, hne⟩ := st
    obtain ⟨xs, x, hq, hx⟩ := hg
    obtain ⟨us, rv, pt, _⟩ := I.tuple hq
    obtain ⟨u, hu, ru⟩ := rv.get hx
    have lu : i < us.toArray.size := by
      have := (List.getElem?_eq_some_iff.mp hu).1
      simpa using this
    have el : e < s.heap.objs.size := Heap.lt_size he
    have il : it < s.heap.objs.size := by obtain ⟨_, q, _⟩ := hit; exact Heap.lt_size q
    refine wpAny_pyNext_enum_itemD (Draws.tuple (A := X.A.in1) (I.ok.hd hc) it a hai us.toArray) he ⟨hit, pt⟩ lu hne (by simp [hne, hae]) fun x2 h' tk px ho st' hT hsz hk => ?_
    have ex : x2 = u := by
      have : us[i]? = some x2 := by simpa using px
      rw [hu] at this
      exact (Option.some.inj this).symm
    subst ex
    refine ⟨_, rfl, wpAny_letOwnedTupleGo_enum (s := { s with heap := h', toks := tk + 1 }) ho fun h'' he' sb => ?_⟩
    have hT2 : h''.get? s.heap.objs.size = some { cls := .type "tuple", data := .seq #[.int i tk, x2] } := (sb.2 _ (Nat.ne_of_gt el)).trans hT
    have nw : ObjOk X.prog X.w (upd H s.heap.objs.size (.tup [.int (i : Nat), x])) h'' s.heap.objs.size (.tup [.int (i : Nat), x]) :=
      ⟨by show 2 ≤ sizeLine; decide, [.int i tk, x2], .cons ⟨_, rfl⟩ (.cons ru .nil), ⟨_, hT2, rfl, _, rfl⟩⟩
    have I1 : Inv X pins σ (upd H s.heap.objs.size (.tup [.int (i : Nat), x])) { s with heap := h'', toks := tk + 1 } :=
      I.turnedNew (ch := [e, it]) (fun b ob hb q => (sb.2 b (fun z => hb (by simp [z]))).trans (hk b ob (fun z => hb (by simp [z])) (fun z => hb (by simp [z])) q)) hf (Nat.le_refl _) nw
    refine ⟨.ref s.heap.objs.size, _, I1, rfl, ⟨_, x, rfl, I.hok.fresh (Nat.le_refl _), rfl, fun ys hy => by rw [I.tuple_inj hy hq]; exact hx⟩, ⟨⟨x2, ?_⟩, st'.1.at fun ot q => (sb.2 it (Ne.symm hne)).trans q, hne⟩, fun b hb => ?_⟩
    · have e1 : ((i + 1 : Nat) : Int) = (i : Int) + 1 := by omega
      rw [e1]
      exact he'
    · have e2 : b = e ∨ b = it := by simpa using hb
      have lb : b < s.heap.objs.size := by rcases e2 with rfl | rfl <;> assumption
      rw [upd_ne (Nat.ne_of_lt lb)]
      exact (hf b hb).1
  done := by
    intro X hP hw hK hc i pins s σ H E I hf st hg
    subst hP hw hK
    obtain ⟨⟨old, he⟩, hit, hne⟩ := st
    obtain ⟨xs, hq, hx⟩ := hg
    obtain ⟨us, rv, pt, _⟩ := I.tuple hq
    obtain ⟨f0, f1, f2, f3, f4, f5⟩ := hf it (by simp)
    have hl := rv.length
    have ei : i = us.toArray.size := by simp; omega
    rw [ei] at hit
    exact wpAny_pyNext_enum_endD (Draws.tuple (A := X.A.in1) (I.ok.hd hc) it a hai us.toArray) he ⟨hit, pt⟩ fun h' eb => ⟨rfl, I.turned (t' := s.toks) (fun b ot hb q => eb b ot hb q) f0 f1 f3 f4 f5⟩
  self := fun A i s Q E st h => let ⟨⟨_, he⟩, _⟩ := st; wpAny_pyIter_enum he h
def iEnumT (K : PySem.W.Frag) (ta : TA) : TI := fun σ H R => ta σ H fun vs H1 => ∃ a xs, vs = [.ref a] ∧ SqT K H1 a xs ∧ R (ItT K a) H1
theorem pi_enumT {X : Cx} {e : Expr} {ta : TA} {p pos tpos : Pos} {elts : List Expr} {kk : Nat} (hg : Gl X "enumerate") (hm : X.mg "enumerate" = none) (ha : PA X [e] ta) (hs : starEach [e] X.env = [(false, eval e X.env)] := by rfl) :
    PI X (.Tuple elts kk tpos) (.Call (.Name "enumerate" p) [e] [] pos) (iEnumT X.K ta) := by
  refine ⟨fun pins s σ H R I h => ?_⟩
  refine Call_ (ld_blt I hg hm boot_enumerate (PyProof.Rows.callWith_type1 (thn (ha.run pos pins s σ H _ I h) fun us s1 ⟨vs, H1, I1, r1, q1⟩ => ?_) hs rfl))
  obtain ⟨a, xs, rfl, hq, q⟩ := q1
  cases r1 with
  | cons r rr =>
    cases rr
    cases r
    obtain ⟨its, rv, pt, _⟩ := I1.tuple hq
    have la : a < s1.heap.objs.size := by obtain ⟨o, g, _⟩ := pt; exact Heap.lt_size g
    refine enumT_call pt fun h2 he hit hk => wpAny_pyIter_enum he ?_
    have I2 : Inv X pins σ H1 { s1 with heap := h2 } := I1.kept (t' := s1.toks) hk
    refine ⟨s1.heap.objs.size + 1, [s1.heap.objs.size + 1, s1.heap.objs.size], _, _, H1, rfl, I2, turn_enumT a (s1.heap.objs.size + 1) s1.heap.objs.size (Nat.ne_of_lt la) (Nat.ne_of_gt (Nat.lt_succ_of_lt la)), ⟨⟨.none, he⟩, hit, Nat.succ_ne_self _⟩, fun b hb => ?_, q⟩
    have e2 : b = s1.heap.objs.size + 1 ∨ b = s1.heap.objs.size := by simpa using hb
    have hle : s1.heap.objs.size ≤ b := by
      rcases e2 with z | z <;> rw [z]
      · exact Nat.le_add_right _ _
      · exact Nat.le_refl _
    exact I1.fpOk hle (I1.hok.fresh hle)
end Gj

/-! own layer: tests as statements have them; blocks that return a truth -/
namespace Gj
open PySem PySem.Spec PyProof.Rows L2
open C8 (Cal pe_c pe_gc)
def SayT (t : TT) (σ : L2.St) (H : Hp) (b : Bool) : Prop := ∀ Q : Bool → Hp → Prop, (∀ H', Same H H' → Q b H') → t σ H Q
/-- a block that returns the truth b -/
def Rets (t : TS) (σ : L2.St) (H : Hp) (b : Bool) : Prop := ∀ D : Ends, (∀ H', Same H H' → D.rt (.bl b) H') → t D σ H
section
variable {σ : L2.St} {H : Hp} {ta tb te : TE} {t1 t2 tc : TT} {u1 u2 : TS} {a b c : Bool} {K : PySem.W.Frag} {p : Addr} {v : V} {d : PyData}
theorem Say.tB (h : Say ta σ H a) : SayT (tB ta) σ H a := fun Q q => h _ fun H1 s1 => ⟨a, rfl, q H1 s1⟩
theorem Say.tTest (h : Say ta σ H a) : SayT (tTest ta) σ H a := fun Q q => h _ fun H1 s1 => ⟨a, rfl, q H1 s1⟩
theorem SayT.not (h : SayT t1 σ H a) : SayT (tNot t1) σ H (!a) := fun Q q => h _ q
theorem SayT.of (h : SayT t1 σ H a) (e : a = b) : SayT t1 σ H b := e ▸ h
theorem SayT.or (ha : SayT t1 σ H a) (hb : a = false → ∀ H', Same H H' → SayT t2 σ H' b) : SayT (tOr t1 t2) σ H (a || b) := fun Q q => ha _ fun H1 s1 => by
  cases a with
  | true => exact iteT (q H1 s1)
  | false => exact iteF (hb rfl H1 s1 Q fun H2 s2 => q H2 (s1.trans s2))
theorem SayT.and (ha : SayT t1 σ H a) (hb : a = true → ∀ H', Same H H' → SayT t2 σ H' b) : SayT (tAnd t1 t2) σ H (a && b) := fun Q q => ha _ fun H1 s1 => by
  cases a with
  | true => exact iteT (hb rfl H1 s1 Q fun H2 s2 => q H2 (s1.trans s2))
  | false => exact iteF (q H1 s1)
theorem Rets.ret (h : Say te σ H b) : Rets (tRet te) σ H b := fun D q => h _ q
theorem Rets.of (h : Rets u1 σ H a) (e : a = b) : Rets u1 σ H b := e ▸ h
/-- if c: return a; the rest -/
theorem Rets.iff (hc : SayT tc σ H c) (h1 : c = true → ∀ H', Same H H' → Rets u1 σ H' a) (h2 : c = false → ∀ H', Same H H' → Rets u2 σ H' b) : Rets (tSeq (tIfS tc u1 tNext) u2) σ H (bif c then a else b) := fun D q => hc _ fun H1 s1 => by
  cases c with
  | true => exact iteT (h1 rfl H1 s1 _ fun H2 s2 => q H2 (s1.trans s2))
  | false => exact iteF (h2 rfl H1 s1 D fun H2 s2 => q H2 (s1.trans s2))
theorem say_bl : Say (tC (.bl b)) σ H b := fun Q q => q H (Same.refl H)
theorem say_len {c : Addr} {xs : List V} (hv : Giv te σ H (.ref c)) (e : H c = some (.tup xs)) : Giv (tCB (rLenX K) (tCons te tNil)) σ H (.int (xs.length : Nat)) := fun Q q => hv _ ⟨.ref c, xs.length, rfl, .inr ⟨xs, SqT.of e, rfl⟩, q⟩
theorem say_lt {i j : Int} (h1 : Giv ta σ H (.int i)) (h2 : Giv tb σ H (.int j)) : Say (tOp (rI0 fun i j => .bl (decide (i < j))) ta tb) σ H (decide (i < j)) := fun Q q => h1 _ (h2 _ ⟨i, j, rfl, rfl, q H (Same.refl H)⟩)
theorem dec_int2 {i j : Int} : decide (V.int i = V.int j) = decide (i = j) := by
  by_cases h : i = j
  · rw [h, decide_eq_true rfl, decide_eq_true rfl]
  · rw [decide_eq_false h, decide_eq_false fun z => h (V.int.inj z)]
theorem say_eqI {i j : Int} (h1 : Giv ta σ H (.int i)) (h2 : Giv tb σ H (.int j)) : Say (tOp rEq ta tb) σ H (decide (i = j)) := fun Q q => h1 _ (h2 _ ⟨rfl, by rw [dec_int2]; exact q H (Same.refl H)⟩)
theorem say_neI {i j : Int} (h1 : Giv ta σ H (.int i)) (h2 : Giv tb σ H (.int j)) : Say (tOp rNe ta tb) σ H (!decide (i = j)) := fun Q q => h1 _ (h2 _ ⟨rfl, by rw [dec_int2]; exact q H (Same.refl H)⟩)
end
theorem walk_enumT {K : PySem.W.Frag} {a : Addr} {xs : List V} : Walk (ItT K a) xs.length (fun H => SqT K H a xs) (fun i H v H' => ∃ T x, v = .ref T ∧ H T = none ∧ H' = upd H T (.tup [.int (i : Nat), x]) ∧ xs[i]? = some x) :=
  ⟨fun i _ hi q => ⟨xs, xs[i], q, by simp [hi]⟩, fun _ q => ⟨xs, q, rfl⟩, fun _ _ _ _ _ q ⟨T, x, h1, h2, h3, h4⟩ => ⟨T, x, h1, h2, h3, h4 xs q⟩⟩
/-- whether the k-th is none of those ahead of it -/
def newAt (zs : List Str) (k : Nat) : Bool := !decide (zs.getD k Str.empty ∈ zs.take k)
theorem cut_to (xs : List V) (k : Nat) : cutV xs none (some (k : Int)) = xs.take k := by
  unfold cutV
  rw [HT.sIx_none, HT.sIx_nat, List.drop_zero, Nat.sub_zero]
  by_cases h : k ≤ xs.length
  · rw [Nat.min_eq_left h]
  · rw [Nat.min_eq_right (by omega), List.take_of_length_le (Nat.le_refl _), List.take_of_length_le (by omega)]
theorem say_news {σ : L2.St} {H : Hp} {K : PySem.W.Frag} {te ts : TE} {i j : Nat} {vs : List Nat} {c : Addr} {zs : List Str} (hl : zs.length ≤ 1000) (hv : Giv te σ H (.ref c)) (ec : H c = some (.tup (zs.map V.str)))
    (hw : ∀ x y, wipe (((wipe σ vs).set i (some x)).set j (some y)) vs = wipe σ vs) (hi : ∀ x y, (((wipe σ vs).set i (some x)).set j (some y))[i]? = some (some x)) (hj : ∀ x y, (((wipe σ vs).set i (some x)).set j (some y))[j]? = some (some y)) (hs : ∀ x y H, Giv ts (((wipe σ vs).set i (some x)).set j (some y)) H (.ref c)) :
    Say (tCB (rAll K) (tCons (tLc (iEnumT K (tCons te tNil)) (gTup K 2 (gCons (gName i) (gCons (gName j) gNil))) tYes (tOp (rIn K true) (tVar j) (tSl (rSlA K) ts tNoPart (tPart (tVar i)))) vs) tNil)) σ H ((List.range zs.length).all (newAt zs)) := fun Q q => hv _ ⟨c, _, rfl, SqT.of ec, fun D hD => by
  refine lc_it (walk_enumT (xs := zs.map V.str)) (Pv := fun k H' => Same H H' ∧ H' D = some (.lst (((List.range k).map (newAt zs)).map V.bl))) ⟨same_new hD, upd_same⟩ (fun k H1 _ hp => SqT.of (hp.1 _ _ ec)) (fun k x H1 H2 hk hp hy => ?_) (fun H1 hp => ?_)
  · obtain ⟨sm, eD⟩ := hp
    obtain ⟨T, y, rfl, nT, rfl, ey⟩ := hy
    rw [List.length_map] at hk
    rw [List.getElem?_map, List.getElem?_eq_getElem hk] at ey
    have ey : V.str zs[k] = y := Option.some.inj ey
    subst ey
    have s2 : Same H1 (upd H1 T (.tup [.int (k : Nat), .str zs[k]])) := same_new nT
    refine ⟨T, _, rfl, SqT.of upd_same, rfl, _, _, rfl, _, _, rfl, rfl, hw _ _, _, hj _ _, hs _ _ _ _ ⟨_, hi _ _, (k : Int), rfl, c, _, rfl, SqT.of (s2 _ _ (sm _ _ ec)), fun hwh => ?_, fun hwh a na => ?_⟩⟩
    · have e2 := hwh.2
      rw [HT.sIx_nat, List.length_map, Nat.min_eq_left (Nat.le_of_lt hk)] at e2
      omega
    · refine ⟨a, _, rfl, .inr (SqT.of upd_same), rfl, ?_, _, (same_new na) _ _ (s2 _ _ eD), ?_, fun b o e => ?_, ?_⟩
      · rw [cut_to, ← List.map_take]
        exact flat_strs _
      · rw [List.length_map, List.length_map, List.length_range]
        exact small1000 (by omega)
      · rw [upd_ne (ne_of_none e hD)]
        exact (same_new na) _ _ (s2 _ _ (sm b o e))
      · rw [upd_same, cut_to, ← List.map_take, if_pos rfl, inV_strs, List.range_succ, List.map_append, List.map_append]
        show _ = some (HO.lst (_ ++ [V.bl (!decide (zs.getD k Str.empty ∈ zs.take k))]))
        rw [List.getD_eq_getElem?_getD, List.getElem?_eq_getElem hk]
        rfl
  · obtain ⟨sm, eD⟩ := hp
    rw [List.length_map] at eD
    refine ⟨D, _, rfl, SqL.of eD, ?_⟩
    rw [List.all_map]
    exact q H1 sm⟩
theorem news_nodup (zs : List Str) : ((List.range zs.length).all (newAt zs) = true) ↔ zs.Nodup := by
  rw [List.all_eq_true]
  constructor
  · intro h
    rw [List.nodup_iff_pairwise_ne, List.pairwise_iff_getElem]
    intro i j hi hj hij e
    have := h j (List.mem_range.mpr hj)
    unfold newAt at this
    rw [List.getD_eq_getElem?_getD, List.getElem?_eq_getElem hj] at this
    have h2 : zs[j] ∉ zs.take j := by simpa using this
    exact h2 (by rw [← e]; exact List.mem_take_iff_getElem.mpr ⟨i, by omega, rfl⟩)
  · intro h k hk
    have hk := List.mem_range.mp hk
    unfold newAt
    rw [List.getD_eq_getElem?_getD, List.getElem?_eq_getElem hk]
    have h2 : zs[k] ∉ zs.take k := by
      intro hm
      obtain ⟨i, hi, e⟩ := List.mem_take_iff_getElem.mp hm
      rw [List.nodup_iff_pairwise_ne, List.pairwise_iff_getElem] at h
      exact h i k (by omega) hk (by omega) e
    simpa using h2
end Gj

namespace Gj
open PySem PySem.Spec PyProof.Rows L2
open C8 (Cal pe_c pe_gc)
section
variable {P : Program} {w : World} {K : PySem.W.Frag} {mg : Str → Option Value} {base : Heap}
theorem sc_is_text_of : FnScope ["thing", "signs", "most", "sign"] ["thing", "signs", "most"] (defScope (topS 8)) := ⟨rfl, rfl, rfl, by decide +kernel, rfl, by decide +kernel, by decide +kernel⟩
theorem ok_is_text_of (D : DefAt K mg "is_text_of" (topS 8)) (m : Mg mg) : Cal P w K mg base 1 "is_text_of" spTextD [] := by
  have sc := sc_is_text_of
  refine mkCal D (fun _ _ _ _ _ _ us hl => match us, hl with | [_, _, _], _ => rfl) sc (fun vs H Q E h => ?_) (fun f cdv A outer s H vs Q E hr h => ?_)
  · obtain ⟨p, v, d, z, mo, rfl, _⟩ := h
    rfl
  · obtain ⟨p, v, d, signs, most, rfl, hd, q⟩ := h
    refine ⟨_, (pss_one (ps_ret (pe_and (pe_callB (call_isD (T := "str") (.inl rfl)) (by rfl) m.isinstance (by decide +kernel) (pa_cons (pv 0) (pa_cons (pe_bltn (v := .ty "str") (by rfl) m.str (by decide +kernel) rfl) pa_nil))) (pe_and (pe_chain op_le op_le pe_int (pe_callB call_len (by rfl) m.len (by decide +kernel) (pa_cons (pv 0) pa_nil)) (pv 2)) (pe_one (pe_callB (cr_all rfl) (by rfl) m.all (by decide +kernel) (pa_cons (pe_lc (own := [("sign", 3)]) (g := gName 3) (tt := tYes) rfl sc.nd (pi_str (pv 0)) (blkOk_by (N := ["thing", "signs", "most", "sign"]) (sc := defScope (topS 8)) (by decide +kernel)) (fun _ _ _ _ _ => (pg_name (i := 3) sc.nd rfl (.inl rfl))) (fun _ _ _ _ _ => pts_nil) (fun _ _ _ _ _ => (pe_cmpR op_in_sign (pv 3) (pv 1) rfl))) pa_nil))))))), ?_⟩
    refine (Say.of (Say.and (b := mTxt signs most d) (say_isa (giv_var rfl) hd) fun e H1 s1 => ?_) ?_) _ q
    · cases hd with
      | str z hz => exact Say.and (say_chain (giv_var rfl) (giv_var rfl) hz) fun e2 H2 s2 => say_all hz (fun _ => rfl) (fun _ => rfl) (fun _ _ => giv_var rfl) (giv_var rfl)
      | _ => exact absurd e (by dsimp only [isa, kind]; decide +kernel)
    · cases d with
      | str z =>
        show (isa (.str z) "str" && _) = _
        rw [show isa (.str z) "str" = true by dsimp only [isa, kind]; decide +kernel, Bool.true_and]
      | _ => exact Bool.and_false _
theorem sc_is_name : FnScope ["thing"] ["thing"] (defScope (topS 9)) := ⟨rfl, rfl, rfl, by decide +kernel, rfl, by decide +kernel, by decide +kernel⟩
theorem okF_is_name (D : DefAt K mg "is_name" (topS 9)) (gs : Gs K mg) (c_is_text_of : Cal P w K mg base 1 "is_text_of" spTextD []) : CalF P w K mg base 2 "is_name" (topS 9) ["thing"] (spPred mName) := by
  have sc := sc_is_name
  refine mkCalF D sc (fun vs H Q E h => ?_) (fun f cdv A outer s H vs Q E hr h => ?_)
  · obtain ⟨p, v, d, rfl, _⟩ := h
    rfl
  · obtain ⟨p, v, d, rfl, hd, q⟩ := h
    refine ⟨_, (pss_one (ps_ret (pe_c c_is_text_of hr (by decide) (by rfl) (pa_cons (pv 0) (pa_cons (pe_gc (by rfl) gs.LETTERS) (pa_cons pe_int pa_nil)))))), ?_⟩
    exact ⟨_, rfl, p, v, d, _, _, rfl, hd, q⟩
theorem ok_is_name (D : DefAt K mg "is_name" (topS 9)) (gs : Gs K mg) (c_is_text_of : Cal P w K mg base 1 "is_text_of" spTextD []) : Cal P w K mg base 2 "is_name" (spPred mName) [] := (okF_is_name D gs c_is_text_of).cal (fun _ _ _ _ _ _ us hl => match us, hl with | [_], _ => rfl)
theorem kw_is_name (D : DefAt K mg "is_name" (topS 9)) (gs : Gs K mg) (c_is_text_of : Cal P w K mg base 1 "is_text_of" spTextD []) : CalK P w K mg base 2 "is_name" (spPred mName) ["thing"] (fun zs => zs) := (okF_is_name D gs c_is_text_of).kw (g := fun ws => ws) (fun _ _ _ _ _ _ us hl => match us, hl with | [_], _ => rfl) (fun r => r)
theorem sc_is_word : FnScope ["thing"] ["thing"] (defScope (topS 10)) := ⟨rfl, rfl, rfl, by decide +kernel, rfl, by decide +kernel, by decide +kernel⟩
theorem okF_is_word (D : DefAt K mg "is_word" (topS 10)) (gs : Gs K mg) (c_is_text_of : Cal P w K mg base 1 "is_text_of" spTextD []) : CalF P w K mg base 2 "is_word" (topS 10) ["thing"] (spPred mWord) := by
  have sc := sc_is_word
  refine mkCalF D sc (fun vs H Q E h => ?_) (fun f cdv A outer s H vs Q E hr h => ?_)
  · obtain ⟨p, v, d, rfl, _⟩ := h
    rfl
  · obtain ⟨p, v, d, rfl, hd, q⟩ := h
    refine ⟨_, (pss_one (ps_ret (pe_c c_is_text_of hr (by decide) (by rfl) (pa_cons (pv 0) (pa_cons (pe_op op_add_str (pe_gc (by rfl) gs.LETTERS) (pe_gc (by rfl) gs.FIGURES)) (pa_cons pe_int pa_nil)))))), ?_⟩
    exact ⟨_, rfl, _, _, rfl, rfl, by decide, p, v, d, _, _, rfl, hd, q⟩
theorem ok_is_word (D : DefAt K mg "is_word" (topS 10)) (gs : Gs K mg) (c_is_text_of : Cal P w K mg base 1 "is_text_of" spTextD []) : Cal P w K mg base 2 "is_word" (spPred mWord) [] := (okF_is_word D gs c_is_text_of).cal (fun _ _ _ _ _ _ us hl => match us, hl with | [_], _ => rfl)
theorem kw_is_word (D : DefAt K mg "is_word" (topS 10)) (gs : Gs K mg) (c_is_text_of : Cal P w K mg base 1 "is_text_of" spTextD []) : CalK P w K mg base 2 "is_word" (spPred mWord) ["thing"] (fun zs => zs) := (okF_is_word D gs c_is_text_of).kw (g := fun ws => ws) (fun _ _ _ _ _ _ us hl => match us, hl with | [_], _ => rfl) (fun r => r)
theorem sc_is_whole : FnScope ["thing", "least"] ["thing", "least"] (defScope (topS 13)) := ⟨rfl, rfl, rfl, by decide +kernel, rfl, by decide +kernel, by decide +kernel⟩
theorem ok_is_whole (D : DefAt K mg "is_whole" (topS 13)) (m : Mg mg) : Cal P w K mg base 1 "is_whole" (spPredN mWhole) [] := by
  have sc := sc_is_whole
  refine mkCal D (fun _ _ _ _ _ _ us hl => match us, hl with | [_, _], _ => rfl) sc (fun vs H Q E h => ?_) (fun f cdv A outer s H vs Q E hr h => ?_)
  · obtain ⟨p, v, d, n, rfl, _⟩ := h
    rfl
  · obtain ⟨p, v, d, n, rfl, hd, q⟩ := h
    refine ⟨_, (pss_one (ps_ret (pe_and (pe_callB (call_isD (T := "int") (.inr (.inr (.inl rfl)))) (by rfl) m.isinstance (by decide +kernel) (pa_cons (pv 0) (pa_cons (pe_bltn (v := .ty "int") (by rfl) m.int (by decide +kernel) rfl) pa_nil))) (pe_and (pe_not (pe_callB (call_isD (T := "bool") (.inr (.inr (.inr (.inl rfl))))) (by rfl) m.isinstance (by decide +kernel) (pa_cons (pv 0) (pa_cons (pe_bltn (v := .ty "bool") (by rfl) m.bool (by decide +kernel) rfl) pa_nil)))) (pe_one (pe_cmpR op_ge (pv 0) (pv 1) (nomark _))))))), ?_⟩
    refine (Say.of (Say.and (b := !(isa d "bool") && mWhole d n) (say_isa (giv_var rfl) hd) fun e H1 s1 => Say.and (Say.not (say_isa (giv_var rfl) (hd.same s1))) fun e2 H2 s2 => ?_) ?_) _ q
    · cases hd with
      | int i => exact fun Q q => ⟨_, rfl, _, rfl, _, _, rfl, rfl, q _ (Same.refl _)⟩
      | bl b => exact absurd e2 (by dsimp only [isa, kind]; decide +kernel)
      | _ => exact absurd e (by dsimp only [isa, kind]; decide +kernel)
    · cases d with
      | int i =>
        rw [show isa (.int i) "int" = true by dsimp only [isa, kind]; decide +kernel, show isa (.int i) "bool" = false by dsimp only [isa, kind]; decide +kernel]
        rfl
      | _ => show (isa _ "int" && (!(isa _ "bool") && false)) = false; rw [Bool.and_false, Bool.and_false]
theorem sc_is_pair : FnScope ["thing", "least"] ["thing", "least"] (defScope (topS 14)) := ⟨rfl, rfl, rfl, by decide +kernel, rfl, by decide +kernel, by decide +kernel⟩
theorem ok_is_pair (D : DefAt K mg "is_pair" (topS 14)) (m : Mg mg) (c_is_name : Cal P w K mg base 2 "is_name" (spPred mName) []) (c_is_whole : Cal P w K mg base 1 "is_whole" (spPredN mWhole) []) : Cal P w K mg base 3 "is_pair" (spPredN mPair) [] := by
  have sc := sc_is_pair
  refine mkCal D (fun _ _ _ _ _ _ us hl => match us, hl with | [_, _], _ => rfl) sc (fun vs H Q E h => ?_) (fun f cdv A outer s H vs Q E hr h => ?_)
  · obtain ⟨p, v, d, n, rfl, _⟩ := h
    rfl
  · obtain ⟨p, v, d, n, rfl, hd, q⟩ := h
    refine ⟨_, (pss_one (ps_ret (pe_and (pe_callB (call_isD (T := "tuple") (.inr (.inl rfl))) (by rfl) m.isinstance (by decide +kernel) (pa_cons (pv 0) (pa_cons (pe_bltn (v := .ty "tuple") (by rfl) m.tuple (by decide +kernel) rfl) pa_nil))) (pe_and (pe_cmpR op_eq (pe_callB call_len (by rfl) m.len (by decide +kernel) (pa_cons (pv 0) pa_nil)) pe_int (nomark _)) (pe_and (pe_c c_is_name hr (by decide) (by rfl) (pa_cons (pe_ix ix_tup (pv 0) pe_int (fun _ _ => rfl)) pa_nil)) (pe_one (pe_c c_is_whole hr (by decide) (by rfl) (pa_cons (pe_ix ix_tup (pv 0) pe_int (fun _ _ => rfl)) (pa_cons (pv 1) pa_nil))))))))), ?_⟩
    refine (Say.of (Say.and (b := mPair d n) (say_isa (giv_var rfl) hd) fun e H1 s1 => ?_) ?_) _ q
    · obtain ⟨c, xs, ds, rfl, rfl, ec, hl, ha⟩ := tup_of (hd.same s1) e
      refine Say.and (Say.of (say_lenEq (X := (cxOf CX0 P w K mg base [] "" (defScope (topS 0)) f cdv A outer s H E)) (giv_var rfl) giv_c ec) (by rw [ha.length]; rfl)) fun e2 H2 s2 => ?_
      have l2 : (ds.length : Int) = 2 := of_decide_eq_true e2
      exact Say.and (say_callAt (k := 0) (giv_var rfl) (s2 _ _ ec) (ha.same s2) (by omega)) fun e3 H3 s3 => say_callNAt (k := 1) (giv_var rfl) (giv_var rfl) ((s2.trans s3) _ _ ec) (ha.same (s2.trans s3)) (by omega)
    · cases d with
      | tuple ds => rw [show isa (.tuple ds) "tuple" = true by dsimp only [isa, kind]; decide +kernel, Bool.true_and]
      | _ => exact Bool.and_false _
theorem sc_is_sort : FnScope ["thing"] ["thing"] (defScope (topS 15)) := ⟨rfl, rfl, rfl, by decide +kernel, rfl, by decide +kernel, by decide +kernel⟩
theorem ok_is_sort (D : DefAt K mg "is_sort" (topS 15)) (gs : Gs K mg) (c_is_name : Cal P w K mg base 2 "is_name" (spPred mName) []) : Cal P w K mg base 3 "is_sort" (spPred mSort) [] := by
  have sc := sc_is_sort
  refine mkCal D (fun _ _ _ _ _ _ us hl => match us, hl with | [_], _ => rfl) sc (fun vs H Q E h => ?_) (fun f cdv A outer s H vs Q E hr h => ?_)
  · obtain ⟨p, v, d, rfl, _⟩ := h
    rfl
  · obtain ⟨p, v, d, rfl, hd, q⟩ := h
    obtain ⟨aS, gS, hS⟩ := gs.SORTS
    refine ⟨_, (pss_one (ps_ret (pe_and (pe_c c_is_name hr (by decide) (by rfl) (pa_cons (pv 0) pa_nil)) (pe_one (pe_cmpR op_in_seq (pv 0) (pe_glob (v := .ref aS) (by rfl) gS rfl) rfl))))), ?_⟩
    refine Say.and (say_call (giv_var rfl) hd) (fun e H1 s1 => ?_) _ q
    cases hd with
    | str z hz =>
      intro Q q
      refine ⟨_, rfl, aS, _, rfl, .inr (hS _), rfl, rfl, ?_⟩
      have ev : inV (.str z) [.str "came", .str "short", .str "ask", .str "row"] = sorts.any fun y => isT (.str z) y := by
        show (("came" : Str) == z || (("short" : Str) == z || (("ask" : Str) == z || (("row" : Str) == z || false)))) = (z == ("came" : Str) || (z == ("short" : Str) || (z == ("ask" : Str) || (z == ("row" : Str) || false))))
        rw [BEq.comm (a := ("came" : Str)), BEq.comm (a := ("short" : Str)), BEq.comm (a := ("ask" : Str)), BEq.comm (a := ("row" : Str))]
      rw [if_neg (by decide), ev]
      exact q _ (Same.refl _)
    | _ => exact absurd e (by simp [mName, mTxt])
end
end Gj

namespace Gj
open PySem PySem.Spec PyProof.Rows L2
open C8 (Cal pe_c pe_gc)
section
variable {P : Program} {w : World} {K : PySem.W.Frag} {mg : Str → Option Value} {base : Heap}
theorem sc_is_shut : FnScope ["thing", "name"] ["thing"] (defScope (topS 16)) := ⟨rfl, rfl, rfl, by decide +kernel, rfl, by decide +kernel, by decide +kernel⟩
theorem ok_is_shut (D : DefAt K mg "is_shut" (topS 16)) (m : Mg mg) (c_is_name : Cal P w K mg base 2 "is_name" (spPred mName) []) : Cal P w K mg base 3 "is_shut" (spPred mShut) [] := by
  have sc := sc_is_shut
  refine mkCal D (fun _ _ _ _ _ _ us hl => match us, hl with | [_], _ => rfl) sc (fun vs H Q E h => ?_) (fun f cdv A outer s H vs Q E hr h => ?_)
  · obtain ⟨p, v, d, rfl, _⟩ := h
    rfl
  · obtain ⟨p, v, d, rfl, hd, q⟩ := h
    refine ⟨_, (pss_one (ps_ret (pe_and (pe_callB (call_isD (T := "tuple") (.inr (.inl rfl))) (by rfl) m.isinstance (by decide +kernel) (pa_cons (pv 0) (pa_cons (pe_bltn (v := .ty "tuple") (by rfl) m.tuple (by decide +kernel) rfl) pa_nil))) (pe_and (pe_callB (cr_all rfl) (by rfl) m.all (by decide +kernel) (pa_cons (pe_lc (own := [("name", 1)]) (g := gName 1) (tt := tYes) rfl sc.nd (pi_tup (pv 0)) (blkOk_by (N := ["thing", "name"]) (sc := defScope (topS 16)) (by decide +kernel)) (fun _ _ _ _ _ => (pg_name (i := 1) sc.nd rfl (.inl rfl))) (fun _ _ _ _ _ => pts_nil) (fun _ _ _ _ _ => (pe_c c_is_name hr (by decide) (by rfl) (pa_cons (pv 1) pa_nil)))) pa_nil)) (pe_one (pe_cmpR op_eq (pe_callB call_lenS (by rfl) m.len (by decide +kernel) (pa_cons (pe_callTy (call_setS rfl) (by rfl) m.set (by decide +kernel) (pa_cons (pv 0) pa_nil)) pa_nil)) (pe_callB call_len (by rfl) m.len (by decide +kernel) (pa_cons (pv 0) pa_nil)) (nomark _))))))), ?_⟩
    refine (Say.of (Say.and (b := mShut d) (say_isa (giv_var rfl) hd) fun e H1 s1 => ?_) ?_) _ q
    · obtain ⟨c, xs, ds, rfl, rfl, ec, hl, ha⟩ := tup_of (hd.same s1) e
      refine Say.and (say_allT hl (fun _ => rfl) (fun _ => rfl) (giv_var rfl) ec ha) fun e2 H2 s2 => ?_
      obtain ⟨ex, ed⟩ := strs_all ha e2
      have ec2 := s2 _ _ ec
      rw [ex] at ec2 hl
      rw [List.length_map] at hl
      intro Q q
      refine ⟨_, rfl, c, strsOf ds, rfl, SqT.of ec2, hl, fun a na => ?_⟩
      refine ⟨a, strsOf ds, rfl, upd_same, hl, _, rfl, _, _, rfl, .inr ⟨_, SqT.of (by rw [upd_ne (ne_of_none ec2 na)]; exact ec2), rfl⟩, rfl, ?_⟩
      rw [List.length_map]
      have ev : decide (V.int (distinct (taken (strsOf ds) (strsOf ds).length) : Nat) = V.int ((strsOf ds).length : Nat)) = decide (distinct (taken (strsOf ds) (strsOf ds).length) = (strsOf ds).length) := by
        by_cases h : distinct (taken (strsOf ds) (strsOf ds).length) = (strsOf ds).length
        · rw [decide_eq_true h, h, decide_eq_true rfl]
        · rw [decide_eq_false h, decide_eq_false fun z => h (by have := V.int.inj z; omega)]
      rw [ev]
      exact q _ (same_new na)
    · cases d with
      | tuple ds => rw [show isa (.tuple ds) "tuple" = true by dsimp only [isa, kind]; decide +kernel, Bool.true_and]
      | _ => exact Bool.and_false _
theorem sc_begins : FnScope ["thing", "kind", "many"] ["thing", "kind", "many"] (defScope (topS 17)) := ⟨rfl, rfl, rfl, by decide +kernel, rfl, by decide +kernel, by decide +kernel⟩
theorem ok_begins (D : DefAt K mg "begins" (topS 17)) (m : Mg mg) (c_is_name : Cal P w K mg base 2 "is_name" (spPred mName) []) : Cal P w K mg base 3 "begins" spBegins [] := by
  have sc := sc_begins
  refine mkCal D (fun _ _ _ _ _ _ us hl => match us, hl with | [_, _, _], _ => rfl) sc (fun vs H Q E h => ?_) (fun f cdv A outer s H vs Q E hr h => ?_)
  · obtain ⟨p, v, d, kd, n, rfl, _⟩ := h
    rfl
  · obtain ⟨p, v, d, kd, n, rfl, hd, hn, q⟩ := h
    refine ⟨_, (pss_one (ps_ret (pe_and (pe_callB (call_isD (T := "tuple") (.inr (.inl rfl))) (by rfl) m.isinstance (by decide +kernel) (pa_cons (pv 0) (pa_cons (pe_bltn (v := .ty "tuple") (by rfl) m.tuple (by decide +kernel) rfl) pa_nil))) (pe_and (pe_cmpR op_eq (pe_callB call_len (by rfl) m.len (by decide +kernel) (pa_cons (pv 0) pa_nil)) (pv 2) (nomark _)) (pe_and (pe_c c_is_name hr (by decide) (by rfl) (pa_cons (pe_ix ix_tup (pv 0) pe_int (fun _ _ => rfl)) pa_nil)) (pe_one (pe_cmpR (op_eqT hr.units) (pe_ix ix_tup (pv 0) pe_int (fun _ _ => rfl)) (pv 1) (nomark _)))))))), ?_⟩
    refine (Say.of (Say.and (b := mBegins d kd n) (say_isa (giv_var rfl) hd) fun e H1 s1 => ?_) ?_) _ q
    · obtain ⟨c, xs, ds, rfl, rfl, ec, hl, ha⟩ := tup_of (hd.same s1) e
      refine Say.and (Say.of (say_lenEq (X := (cxOf CX0 P w K mg base [] "" (defScope (topS 0)) f cdv A outer s H E)) (giv_var rfl) (giv_var rfl) ec) (by rw [ha.length]; rfl)) fun e2 H2 s2 => ?_
      have l2 : (ds.length : Int) = n := of_decide_eq_true e2
      refine Say.and (say_callAt (k := 0) (giv_var rfl) (s2 _ _ ec) (ha.same s2) (by omega)) fun e3 H3 s3 => ?_
      obtain ⟨x, d0, g, hx, ek⟩ := giv_at (K := K) (k := 0) (te := tVar 0) (σ := [some (.ref c), some (.str kd), some (.int n)]) (H := H3) (giv_var rfl) ((s2.trans s3) _ _ ec) (ha.same (s2.trans s3)) (by omega)
      refine Say.of (say_eqT g (giv_var rfl) hx) ?_
      show _ = ((ds[0]?.map fun e => isT e kd).getD false)
      rw [ek]; rfl
    · cases d with
      | tuple ds => rw [show isa (.tuple ds) "tuple" = true by dsimp only [isa, kind]; decide +kernel, Bool.true_and]
      | _ => exact Bool.and_false _
theorem sc_is_letter : FnScope ["thing"] ["thing"] (defScope (topS 18)) := ⟨rfl, rfl, rfl, by decide +kernel, rfl, by decide +kernel, by decide +kernel⟩
theorem ok_is_letter (D : DefAt K mg "is_letter" (topS 18)) (c_begins : Cal P w K mg base 3 "begins" spBegins []) (c_is_name : Cal P w K mg base 2 "is_name" (spPred mName) []) (c_is_word : Cal P w K mg base 2 "is_word" (spPred mWord) []) : Cal P w K mg base 4 "is_letter" (spPred mLetter) [] := by
  have sc := sc_is_letter
  refine mkCal D (fun _ _ _ _ _ _ us hl => match us, hl with | [_], _ => rfl) sc (fun vs H Q E h => ?_) (fun f cdv A outer s H vs Q E hr h => ?_)
  · obtain ⟨p, v, d, rfl, _⟩ := h
    rfl
  · obtain ⟨p, v, d, rfl, hd, q⟩ := h
    refine ⟨_, (pss_one (ps_ret (pe_and (pe_c c_begins hr (by decide) (by rfl) (pa_cons (pv 0) (pa_cons pe_str (pa_cons pe_int pa_nil)))) (pe_and (pe_c c_is_name hr (by decide) (by rfl) (pa_cons (pe_ix ix_tup (pv 0) pe_int (fun _ _ => rfl)) pa_nil)) (pe_and (pe_c c_is_name hr (by decide) (by rfl) (pa_cons (pe_ix ix_tup (pv 0) pe_int (fun _ _ => rfl)) pa_nil)) (pe_one (pe_c c_is_word hr (by decide) (by rfl) (pa_cons (pe_ix ix_tup (pv 0) pe_int (fun _ _ => rfl)) pa_nil)))))))), ?_⟩
    refine Say.and (fun Q q => ⟨_, rfl, p, v, d, _, _, rfl, hd, by decide, q⟩) (fun e H1 s1 => ?_) _ q
    have e1 : lenD d 4 = true := (Bool.and_eq_true_iff.mp e).1
    obtain ⟨c, xs, ds, rfl, rfl, l2, ec, hl, ha⟩ := tup_len (hd.same s1) e1
    exact (Say.and (say_callAt (k := 1) (giv_var rfl) ec ha (by omega)) fun _ _ t0 => (Say.and (say_callAt (k := 2) (giv_var rfl) (t0 _ _ ec) (ha.same t0) (by omega)) fun _ _ t1 => (say_callAt (k := 3) (giv_var rfl) ((t0.trans t1) _ _ ec) (ha.same (t0.trans t1)) (by omega))))
theorem sc_is_echo : FnScope ["thing"] ["thing"] (defScope (topS 19)) := ⟨rfl, rfl, rfl, by decide +kernel, rfl, by decide +kernel, by decide +kernel⟩
theorem ok_is_echo (D : DefAt K mg "is_echo" (topS 19)) (c_begins : Cal P w K mg base 3 "begins" spBegins []) (c_is_name : Cal P w K mg base 2 "is_name" (spPred mName) []) (c_is_sort : Cal P w K mg base 3 "is_sort" (spPred mSort) []) (c_is_pair : Cal P w K mg base 3 "is_pair" (spPredN mPair) []) : Cal P w K mg base 4 "is_echo" (spPred mEcho) [] := by
  have sc := sc_is_echo
  refine mkCal D (fun _ _ _ _ _ _ us hl => match us, hl with | [_], _ => rfl) sc (fun vs H Q E h => ?_) (fun f cdv A outer s H vs Q E hr h => ?_)
  · obtain ⟨p, v, d, rfl, _⟩ := h
    rfl
  · obtain ⟨p, v, d, rfl, hd, q⟩ := h
    refine ⟨_, (pss_one (ps_ret (pe_and (pe_c c_begins hr (by decide) (by rfl) (pa_cons (pv 0) (pa_cons pe_str (pa_cons pe_int pa_nil)))) (pe_and (pe_c c_is_name hr (by decide) (by rfl) (pa_cons (pe_ix ix_tup (pv 0) pe_int (fun _ _ => rfl)) pa_nil)) (pe_and (pe_c c_is_name hr (by decide) (by rfl) (pa_cons (pe_ix ix_tup (pv 0) pe_int (fun _ _ => rfl)) pa_nil)) (pe_and (pe_c c_is_sort hr (by decide) (by rfl) (pa_cons (pe_ix ix_tup (pv 0) pe_int (fun _ _ => rfl)) pa_nil)) (pe_one (pe_c c_is_pair hr (by decide) (by rfl) (pa_cons (pe_ix ix_tup (pv 0) pe_int (fun _ _ => rfl)) (pa_cons pe_int pa_nil)))))))))), ?_⟩
    refine Say.and (fun Q q => ⟨_, rfl, p, v, d, _, _, rfl, hd, by decide, q⟩) (fun e H1 s1 => ?_) _ q
    have e1 : lenD d 5 = true := (Bool.and_eq_true_iff.mp e).1
    obtain ⟨c, xs, ds, rfl, rfl, l2, ec, hl, ha⟩ := tup_len (hd.same s1) e1
    exact (Say.and (say_callAt (k := 1) (giv_var rfl) ec ha (by omega)) fun _ _ t0 => (Say.and (say_callAt (k := 2) (giv_var rfl) (t0 _ _ ec) (ha.same t0) (by omega)) fun _ _ t1 => (Say.and (say_callAt (k := 3) (giv_var rfl) ((t0.trans t1) _ _ ec) (ha.same (t0.trans t1)) (by omega)) fun _ _ t2 => (say_callNAt (k := 4) (giv_var rfl) giv_c (((t0.trans t1).trans t2) _ _ ec) (ha.same ((t0.trans t1).trans t2)) (by omega)))))
theorem sc_is_answer : FnScope ["thing"] ["thing"] (defScope (topS 20)) := ⟨rfl, rfl, rfl, by decide +kernel, rfl, by decide +kernel, by decide +kernel⟩
theorem ok_is_answer (D : DefAt K mg "is_answer" (topS 20)) (c_begins : Cal P w K mg base 3 "begins" spBegins []) (c_is_name : Cal P w K mg base 2 "is_name" (spPred mName) []) (c_is_sort : Cal P w K mg base 3 "is_sort" (spPred mSort) []) (c_is_pair : Cal P w K mg base 3 "is_pair" (spPredN mPair) []) : Cal P w K mg base 4 "is_answer" (spPred mAnswer) [] := by
  have sc := sc_is_answer
  refine mkCal D (fun _ _ _ _ _ _ us hl => match us, hl with | [_], _ => rfl) sc (fun vs H Q E h => ?_) (fun f cdv A outer s H vs Q E hr h => ?_)
  · obtain ⟨p, v, d, rfl, _⟩ := h
    rfl
  · obtain ⟨p, v, d, rfl, hd, q⟩ := h
    refine ⟨_, (pss_one (ps_ret (pe_and (pe_c c_begins hr (by decide) (by rfl) (pa_cons (pv 0) (pa_cons pe_str (pa_cons pe_int pa_nil)))) (pe_and (pe_c c_is_name hr (by decide) (by rfl) (pa_cons (pe_ix ix_tup (pv 0) pe_int (fun _ _ => rfl)) pa_nil)) (pe_and (pe_c c_is_sort hr (by decide) (by rfl) (pa_cons (pe_ix ix_tup (pv 0) pe_int (fun _ _ => rfl)) pa_nil)) (pe_and (pe_c c_is_pair hr (by decide) (by rfl) (pa_cons (pe_ix ix_tup (pv 0) pe_int (fun _ _ => rfl)) (pa_cons pe_int pa_nil))) (pe_one (pe_c c_is_pair hr (by decide) (by rfl) (pa_cons (pe_ix ix_tup (pv 0) pe_int (fun _ _ => rfl)) (pa_cons pe_int pa_nil)))))))))), ?_⟩
    refine Say.and (fun Q q => ⟨_, rfl, p, v, d, _, _, rfl, hd, by decide, q⟩) (fun e H1 s1 => ?_) _ q
    have e1 : lenD d 5 = true := (Bool.and_eq_true_iff.mp e).1
    obtain ⟨c, xs, ds, rfl, rfl, l2, ec, hl, ha⟩ := tup_len (hd.same s1) e1
    exact (Say.and (say_callAt (k := 1) (giv_var rfl) ec ha (by omega)) fun _ _ t0 => (Say.and (say_callAt (k := 2) (giv_var rfl) (t0 _ _ ec) (ha.same t0) (by omega)) fun _ _ t1 => (Say.and (say_callNAt (k := 3) (giv_var rfl) giv_c ((t0.trans t1) _ _ ec) (ha.same (t0.trans t1)) (by omega)) fun _ _ t2 => (say_callNAt (k := 4) (giv_var rfl) giv_c (((t0.trans t1).trans t2) _ _ ec) (ha.same ((t0.trans t1).trans t2)) (by omega)))))
theorem sc_is_goer : FnScope ["thing"] ["thing"] (defScope (topS 21)) := ⟨rfl, rfl, rfl, by decide +kernel, rfl, by decide +kernel, by decide +kernel⟩
theorem ok_is_goer (D : DefAt K mg "is_goer" (topS 21)) (c_begins : Cal P w K mg base 3 "begins" spBegins []) (c_is_name : Cal P w K mg base 2 "is_name" (spPred mName) []) (c_is_whole : Cal P w K mg base 1 "is_whole" (spPredN mWhole) []) (c_is_shut : Cal P w K mg base 3 "is_shut" (spPred mShut) []) : Cal P w K mg base 4 "is_goer" (spPred mGoer) [] := by
  have sc := sc_is_goer
  refine mkCal D (fun _ _ _ _ _ _ us hl => match us, hl with | [_], _ => rfl) sc (fun vs H Q E h => ?_) (fun f cdv A outer s H vs Q E hr h => ?_)
  · obtain ⟨p, v, d, rfl, _⟩ := h
    rfl
  · obtain ⟨p, v, d, rfl, hd, q⟩ := h
    refine ⟨_, (pss_one (ps_ret (pe_and (pe_c c_begins hr (by decide) (by rfl) (pa_cons (pv 0) (pa_cons pe_str (pa_cons pe_int pa_nil)))) (pe_and (pe_c c_is_name hr (by decide) (by rfl) (pa_cons (pe_ix ix_tup (pv 0) pe_int (fun _ _ => rfl)) pa_nil)) (pe_and (pe_c c_is_whole hr (by decide) (by rfl) (pa_cons (pe_ix ix_tup (pv 0) pe_int (fun _ _ => rfl)) (pa_cons pe_int pa_nil))) (pe_one (pe_c c_is_shut hr (by decide) (by rfl) (pa_cons (pe_ix ix_tup (pv 0) pe_int (fun _ _ => rfl)) pa_nil)))))))), ?_⟩
    refine Say.and (fun Q q => ⟨_, rfl, p, v, d, _, _, rfl, hd, by decide, q⟩) (fun e H1 s1 => ?_) _ q
    have e1 : lenD d 4 = true := (Bool.and_eq_true_iff.mp e).1
    obtain ⟨c, xs, ds, rfl, rfl, l2, ec, hl, ha⟩ := tup_len (hd.same s1) e1
    exact (Say.and (say_callAt (k := 1) (giv_var rfl) ec ha (by omega)) fun _ _ t0 => (Say.and (say_callNAt (k := 2) (giv_var rfl) giv_c (t0 _ _ ec) (ha.same t0) (by omega)) fun _ _ t1 => (say_callAt (k := 3) (giv_var rfl) ((t0.trans t1) _ _ ec) (ha.same (t0.trans t1)) (by omega))))
theorem sc_is_parcel : FnScope ["thing"] ["thing"] (defScope (topS 22)) := ⟨rfl, rfl, rfl, by decide +kernel, rfl, by decide +kernel, by decide +kernel⟩
theorem okF_is_parcel (D : DefAt K mg "is_parcel" (topS 22)) (c_is_letter : Cal P w K mg base 4 "is_letter" (spPred mLetter) []) (c_is_echo : Cal P w K mg base 4 "is_echo" (spPred mEcho) []) : CalF P w K mg base 5 "is_parcel" (topS 22) ["thing"] (spPred mParcel) := by
  have sc := sc_is_parcel
  refine mkCalF D sc (fun vs H Q E h => ?_) (fun f cdv A outer s H vs Q E hr h => ?_)
  · obtain ⟨p, v, d, rfl, _⟩ := h
    rfl
  · obtain ⟨p, v, d, rfl, hd, q⟩ := h
    refine ⟨_, (pss_one (ps_ret (pe_or (pe_c c_is_letter hr (by decide) (by rfl) (pa_cons (pv 0) pa_nil)) (pe_one (pe_c c_is_echo hr (by decide) (by rfl) (pa_cons (pv 0) pa_nil)))))), ?_⟩
    exact Say.or (say_call (giv_var rfl) hd) (fun e H1 s1 => say_call (giv_var rfl) (hd.same s1)) _ q
theorem ok_is_parcel (D : DefAt K mg "is_parcel" (topS 22)) (c_is_letter : Cal P w K mg base 4 "is_letter" (spPred mLetter) []) (c_is_echo : Cal P w K mg base 4 "is_echo" (spPred mEcho) []) : Cal P w K mg base 5 "is_parcel" (spPred mParcel) [] := (okF_is_parcel D c_is_letter c_is_echo).cal (fun _ _ _ _ _ _ us hl => match us, hl with | [_], _ => rfl)
theorem kw_is_parcel (D : DefAt K mg "is_parcel" (topS 22)) (c_is_letter : Cal P w K mg base 4 "is_letter" (spPred mLetter) []) (c_is_echo : Cal P w K mg base 4 "is_echo" (spPred mEcho) []) : CalK P w K mg base 5 "is_parcel" (spPred mParcel) ["thing"] (fun zs => zs) := (okF_is_parcel D c_is_letter c_is_echo).kw (g := fun ws => ws) (fun _ _ _ _ _ _ us hl => match us, hl with | [_], _ => rfl) (fun r => r)
theorem sc_is_thing : FnScope ["thing"] ["thing"] (defScope (topS 23)) := ⟨rfl, rfl, rfl, by decide +kernel, rfl, by decide +kernel, by decide +kernel⟩
theorem okF_is_thing (D : DefAt K mg "is_thing" (topS 23)) (c_is_parcel : Cal P w K mg base 5 "is_parcel" (spPred mParcel) []) (c_is_answer : Cal P w K mg base 4 "is_answer" (spPred mAnswer) []) (c_is_goer : Cal P w K mg base 4 "is_goer" (spPred mGoer) []) : CalF P w K mg base 6 "is_thing" (topS 23) ["thing"] (spPred mThing) := by
  have sc := sc_is_thing
  refine mkCalF D sc (fun vs H Q E h => ?_) (fun f cdv A outer s H vs Q E hr h => ?_)
  · obtain ⟨p, v, d, rfl, _⟩ := h
    rfl
  · obtain ⟨p, v, d, rfl, hd, q⟩ := h
    refine ⟨_, (pss_one (ps_ret (pe_or (pe_c c_is_parcel hr (by decide) (by rfl) (pa_cons (pv 0) pa_nil)) (pe_or (pe_c c_is_answer hr (by decide) (by rfl) (pa_cons (pv 0) pa_nil)) (pe_one (pe_c c_is_goer hr (by decide) (by rfl) (pa_cons (pv 0) pa_nil))))))), ?_⟩
    exact Say.or (say_call (giv_var rfl) hd) (fun e H1 s1 => Say.or (say_call (giv_var rfl) (hd.same s1)) fun e2 H2 s2 => say_call (giv_var rfl) (hd.same (s1.trans s2))) _ q
theorem ok_is_thing (D : DefAt K mg "is_thing" (topS 23)) (c_is_parcel : Cal P w K mg base 5 "is_parcel" (spPred mParcel) []) (c_is_answer : Cal P w K mg base 4 "is_answer" (spPred mAnswer) []) (c_is_goer : Cal P w K mg base 4 "is_goer" (spPred mGoer) []) : Cal P w K mg base 6 "is_thing" (spPred mThing) [] := (okF_is_thing D c_is_parcel c_is_answer c_is_goer).cal (fun _ _ _ _ _ _ us hl => match us, hl with | [_], _ => rfl)
theorem kw_is_thing (D : DefAt K mg "is_thing" (topS 23)) (c_is_parcel : Cal P w K mg base 5 "is_parcel" (spPred mParcel) []) (c_is_answer : Cal P w K mg base 4 "is_answer" (spPred mAnswer) []) (c_is_goer : Cal P w K mg base 4 "is_goer" (spPred mGoer) []) : CalK P w K mg base 6 "is_thing" (spPred mThing) ["thing"] (fun zs => zs) := (okF_is_thing D c_is_parcel c_is_answer c_is_goer).kw (g := fun ws => ws) (fun _ _ _ _ _ _ us hl => match us, hl with | [_], _ => rfl) (fun r => r)
end
end Gj

/-! own layer: expressions that lay data, drawing from the pot at p -/
namespace Gj
open PySem PySem.Spec PyProof.Rows L2
open C8 (Cal pe_c pe_gc)
theorem Drawn.refl {p : Addr} {H : Hp} (h : Pot H p) : Drawn p H H := ⟨Keep.refl, h⟩
/-- it is a datum -/
def Lay (te : TE) (p : Addr) (σ : L2.St) (H : Hp) : Prop := ∀ Q : VK, (∀ (H' : Hp) (v : V) (d : PyData), Drawn p H H' → Dt p H' v d → Q v H') → te σ H Q
/-- they are n data -/
def Lays (ta : TA) (p : Addr) (σ : L2.St) (H : Hp) (n : Nat) : Prop := ∀ Q : List V → Hp → Prop, (∀ (H' : Hp) (vs : List V) (ds : List PyData), Drawn p H H' → DtAll p H' vs ds → vs.length = n → Q vs H') → ta σ H Q
/-- it is a tuple of data -/
def LayT (te : TE) (p : Addr) (σ : L2.St) (H : Hp) (lo hi : Nat) : Prop := ∀ Q : VK, (∀ (H' : Hp) (c : Addr) (xs : List V) (ds : List PyData), Drawn p H H' → c ≠ p → H' c = some (.tup xs) → DtAll p H' xs ds → lo ≤ xs.length → xs.length ≤ hi → Q (.ref c) H') → te σ H Q
/-- it is a number from 0 up to n -/
def LayI (te : TE) (p : Addr) (σ : L2.St) (H : Hp) (n : Int) : Prop := ∀ Q : VK, (∀ (H' : Hp) (i : Int), Drawn p H H' → 0 ≤ i → i < n → Q (.int i) H') → te σ H Q
def GivO (to : TO) (σ : L2.St) (H : Hp) (o : Option Int) : Prop := ∀ Q : Option Int → Hp → Prop, Q o H → to σ H Q
section
variable {p : Addr} {σ : L2.St} {H : Hp} {te tb : TE} {ta : TA} {n m lo hi lo2 hi2 : Nat} {v : V} {d : PyData} {K : PySem.W.Frag}
theorem Lay.of (h : Giv te σ H v) (hp : Pot H p) (hd : Dt p H v d) : Lay te p σ H := fun Q q => h _ (q H v d (Drawn.refl hp) hd)
theorem LayT.lay (h : LayT te p σ H lo hi) (hh : hi ≤ 1000) : Lay te p σ H := fun Q q => h _ fun H1 c xs ds r n e a l1 l2 => q H1 _ _ r (.tup n (by omega) e a)
theorem Lays.nil (hp : Pot H p) : Lays tNil p σ H 0 := fun Q q => q H [] [] (Drawn.refl hp) .nil rfl
theorem Lays.cons (h : Lay te p σ H) (ht : ∀ H', Drawn p H H' → Lays ta p σ H' n) : Lays (tCons te ta) p σ H (n + 1) := fun Q q => h _ fun H1 v d r1 h1 => ht H1 r1 _ fun H2 vs ds r2 h2 e => q H2 _ _ (r1.trans r2) (.cons (h1.keep r2.keep) h2) (by rw [List.length_cons, e])
theorem Lays.tup (h : Lays ta p σ H n) (hn : n ≤ 1000) : LayT (tTup ta) p σ H n n := fun Q q => h _ fun H1 vs ds r h1 e => ⟨Nat.le_of_lt (small1000 (by omega)), fun a na => q _ a vs ds (r.new na) (r.pot.ne na) upd_same (h1.keep (Keep.new na)) (by omega) (by omega)⟩
theorem Lays.lst (h : Lays ta p σ H n) (hn : n ≤ 1000) : Lay (tLst ta) p σ H := fun Q q => h _ fun H1 vs ds r h1 e => ⟨Nat.le_of_lt (small1000 (by omega)), fun a na => q _ _ (.list ds) (r.new na) (.lst (r.pot.ne na) (by omega) upd_same (h1.keep (Keep.new na)))⟩
theorem Lay.dnew (hp : Pot H p) : Lay tDNewK p σ H := fun Q q a na => q _ _ (.dict []) ((Drawn.refl hp).new na) (.dic (hp.ne na) upd_same)
/-- [..][a number] -/
theorem Lays.pick (h : Lays ta p σ H n) (hn : n ≤ 1000) (hi : ∀ H', Drawn p H H' → LayI tb p σ H' n) : Lay (tOp (rIxL K) (tLst ta) tb) p σ H := fun Q q => h _ fun H1 vs ds r h1 e => ⟨Nat.le_of_lt (small1000 (by omega)), fun a na => by
  refine hi _ (r.new na) _ fun H2 i r2 i0 i1 => ?_
  have e2 : H2 a = some (.lst vs) := r2.keep _ _ (r.pot.ne na) upd_same
  have hh := (h1.keep (Keep.new na (o := .lst vs))).keep r2.keep
  obtain ⟨k, rfl⟩ := Int.eq_ofNat_of_zero_le i0
  have hk : vs[k]? = some (vs[k]'(by omega)) := List.getElem?_eq_getElem _
  obtain ⟨d, _, hd⟩ := hh.get hk
  exact ⟨a, vs, k, _, rfl, rfl, SqL.of e2, atI_nat hk, q _ _ d ((r.new na).trans r2) hd⟩⟩
theorem LayI.digit {E : XK} {tp tn : TE} {n : Int} (hp : Giv tp σ H (.ref p)) (hq : Pot H p) (hn : Giv tn σ H (.int n)) (h0 : 0 < n) (h1 : n.natAbs.log2 < 9000) : LayI (tCall spDigit [] E (tCons tp (tCons tn tNil))) p σ H n := fun Q q => hp _ (hn _ ⟨p, n, rfl, hq, h0, h1, fun i H' i0 i1 r => q H' i r i0 i1⟩)
theorem GivO.none : GivO tNoPart σ H none := fun Q q => q
theorem GivO.some {i : Int} (h : Giv te σ H (.int i)) : GivO (tPart te) σ H (some i) := fun Q q => h _ ⟨i, rfl, q⟩
theorem DtAll.cut {xs : List V} {ds : List PyData} (h : DtAll p H xs ds) (a b : Option Int) : DtAll p H (cutV xs a b) ((ds.drop (HT.sIx xs.length 0 a)).take (HT.sIx xs.length xs.length b - HT.sIx xs.length 0 a)) := (h.drop _).take _
theorem LayT.cut {c : Addr} {xs : List V} {ds : List PyData} {tl th : TO} {a b : Option Int} (h : Giv te σ H (.ref c)) (hp : Pot H p) (hc : c ≠ p) (e : H c = some (.tup xs)) (hd : DtAll p H xs ds) (hl : GivO tl σ H a) (hh : GivO th σ H b) (hb : (cutV xs a b).length ≤ hi) : LayT (tSl (rSlA K) te tl th) p σ H 0 hi := fun Q q =>
  h _ (hl _ (hh _ ⟨c, xs, rfl, SqT.of e, fun w => q H c xs ds (Drawn.refl hp) hc e hd (Nat.zero_le _) (by
    unfold cutV at hb
    rw [w.1, w.2, List.drop_zero, Nat.sub_zero, List.take_of_length_le (Nat.le_refl _)] at hb
    exact hb), fun _ z nz => q _ z _ _ ((Drawn.refl hp).new nz) (hp.ne nz) upd_same ((hd.cut a b).keep (Keep.new nz)) (Nat.zero_le _) hb⟩))
theorem cut_from (xs : List V) (k : Nat) : cutV xs (some (k : Int)) none = xs.drop k := by
  unfold cutV
  rw [HT.sIx_none, HT.sIx_nat]
  by_cases h : k ≤ xs.length
  · rw [Nat.min_eq_left h, List.take_of_length_le (by rw [List.length_drop]; exact Nat.le_refl _)]
  · rw [Nat.min_eq_right (by omega), Nat.sub_self, List.take_zero, List.drop_eq_nil_of_le (by omega)]
theorem LayT.cat (h : LayT te p σ H lo hi) (h2 : ∀ H', Drawn p H H' → LayT tb p σ H' lo2 hi2) (hn : hi + hi2 ≤ 1000) : LayT (tOp (rCatA K) te tb) p σ H 0 (hi + hi2) := fun Q q => h _ fun H1 a xs ds r1 na ea ha l1 l2 => h2 H1 r1 _ fun H2 b ys es r2 nb eb hb l3 l4 => by
  have ea2 := r2.keep _ _ na ea
  have ha2 := ha.keep r2.keep
  refine ⟨a, b, xs, ys, rfl, rfl, SqT.of ea2, SqT.of eb, Nat.le_of_lt (small1000 (by omega)), fun _ => ?_, fun _ _ => ?_, fun _ _ c nc => ?_⟩
  · exact q H2 b ys es (r1.trans r2) nb eb hb (Nat.zero_le _) (by omega)
  · exact q H2 a xs ds (r1.trans r2) na ea2 ha2 (Nat.zero_le _) (by omega)
  · exact q _ c _ _ ((r1.trans r2).new nc) (r2.pot.ne nc) upd_same ((ha2.append hb).keep (Keep.new nc)) (Nat.zero_le _) (by rw [List.length_append]; omega)
end
end Gj

namespace Gj
open PySem PySem.Spec PyProof.Rows L2
open C8 (Cal pe_c pe_gc)
/-- it is a list of n data -/
def LayL (te : TE) (p : Addr) (σ : L2.St) (H : Hp) (n : Nat) : Prop := ∀ Q : VK, (∀ (H' : Hp) (c : Addr) (xs : List V) (ds : List PyData), Drawn p H H' → c ≠ p → H' c = some (.lst xs) → DtAll p H' xs ds → xs.length = n → Q (.ref c) H') → te σ H Q
section
variable {p : Addr} {σ : L2.St} {H : Hp} {te tb tp tn : TE} {ta : TA} {n m : Nat} {v : V} {d : PyData} {K : PySem.W.Frag} {E : XK}
theorem Lay.run {Q : VK} (h : Lay te p σ H) (q : ∀ (H' : Hp) (v : V) (d : PyData), Drawn p H H' → Dt p H' v d → Q v H') : te σ H Q := h Q q
theorem LayI.run {n : Int} {Q : VK} (h : LayI te p σ H n) (q : ∀ (H' : Hp) (i : Int), Drawn p H H' → 0 ≤ i → i < n → Q (.int i) H') : te σ H Q := h Q q
theorem LayT.run {lo hi : Nat} {Q : VK} (h : LayT te p σ H lo hi) (q : ∀ (H' : Hp) (c : Addr) (xs : List V) (ds : List PyData), Drawn p H H' → c ≠ p → H' c = some (.tup xs) → DtAll p H' xs ds → lo ≤ xs.length → xs.length ≤ hi → Q (.ref c) H') : te σ H Q := h Q q
theorem LayL.run {n : Nat} {Q : VK} (h : LayL te p σ H n) (q : ∀ (H' : Hp) (c : Addr) (xs : List V) (ds : List PyData), Drawn p H H' → c ≠ p → H' c = some (.lst xs) → DtAll p H' xs ds → xs.length = n → Q (.ref c) H') : te σ H Q := h Q q
theorem Lays.lstL (h : Lays ta p σ H n) (hn : n ≤ 1000) : LayL (tLst ta) p σ H n := fun Q q => h _ fun H1 vs ds r h1 e => ⟨Nat.le_of_lt (small1000 (by omega)), fun a na => q _ a vs ds (r.new na) (r.pot.ne na) upd_same (h1.keep (Keep.new na)) e⟩
theorem LayL.var {c : Addr} {xs : List V} {ds : List PyData} (h : Giv te σ H (.ref c)) (hp : Pot H p) (hc : c ≠ p) (e : H c = some (.lst xs)) (hd : DtAll p H xs ds) (hl : xs.length = n) : LayL te p σ H n := fun Q q => h _ (q H c xs ds (Drawn.refl hp) hc e hd hl)
theorem LayL.cat (h : LayL te p σ H n) (h2 : ∀ H', Drawn p H H' → LayL tb p σ H' m) (hn : n + m ≤ 1000) : LayL (tOp rCat te tb) p σ H (n + m) := fun Q q => h _ fun H1 a xs ds r1 na ea ha l1 => h2 H1 r1 _ fun H2 b ys es r2 nb eb hb l2 => by
  have ea2 := r2.keep _ _ na ea
  have ha2 := ha.keep r2.keep
  exact ⟨a, b, xs, ys, rfl, rfl, ea2, eb, Nat.le_of_lt (small1000 (by omega)), fun c nc => q _ c _ _ ((r1.trans r2).new nc) (r2.pot.ne nc) upd_same ((ha2.append hb).keep (Keep.new nc)) (by rw [List.length_append]; omega)⟩
/-- x[a number] -/
theorem LayL.pick (h : LayL te p σ H n) (hi : ∀ H' c (xs : List V), Drawn p H H' → H' c = some (.lst xs) → xs.length = n → LayI tb p σ H' n) : Lay (tOp (rIxL K) te tb) p σ H := fun Q q => h _ fun H1 a vs ds r na ea h1 e => by
  refine hi _ a vs r ea e _ fun H2 i r2 i0 i1 => ?_
  have e2 : H2 a = some (.lst vs) := r2.keep _ _ na ea
  have hh := h1.keep r2.keep
  obtain ⟨k, rfl⟩ := Int.eq_ofNat_of_zero_le i0
  have hk : vs[k]? = some (vs[k]'(by omega)) := List.getElem?_eq_getElem _
  obtain ⟨d, _, hd⟩ := hh.get hk
  exact ⟨a, vs, k, _, rfl, rfl, SqL.of e2, atI_nat hk, q _ _ d (r.trans r2) hd⟩
theorem Lay.word (hp : Giv tp σ H (.ref p)) (hq : Pot H p) : Lay (tCall spWord [] E (tCons tp tNil)) p σ H := fun Q q => hp _ ⟨p, rfl, hq, fun z H' hz r => q H' _ (.str z) r (.str z hz.small)⟩
theorem Lay.whole {i : Int} (hp : Giv tp σ H (.ref p)) (hq : Pot H p) (hn : Giv tn σ H (.int i)) : Lay (tCall spWhole [] E (tCons tp (tCons tn tNil))) p σ H := fun Q q => hp _ (hn _ ⟨p, i, rfl, hq, fun j H' _ _ r => q H' _ (.int j) r (.int j)⟩)
theorem Lay.name (hp : Giv tp σ H (.ref p)) (hq : Pot H p) : Lay (tCall spName [] E (tCons tp (tCons (tLst tNil) tNil))) p σ H := fun Q q => hp _ ⟨(by show 0 ≤ sizeLine; decide), fun u nu => ⟨p, u, [], rfl, hq.new nu, hq.ne nu, upd_same, (fun _ h => absurd h List.not_mem_nil), by decide, fun z H' hz _ r => q H' _ (.str z) (((Drawn.refl hq).new nu).trans r) (.str z hz.small)⟩⟩
/-- names of the pot, into a new list -/
theorem names_new {Q : VK} {E : XK} {n : Nat} (hq : Pot H p) (hn : n ≤ 25) (q : ∀ (H' : Hp) (c : Addr) (zs : List Str), Drawn p H H' → c ≠ p → H' c = some (.lst (zs.map V.str)) → zs.length = n → (∀ z ∈ zs, NameS z) → zs.Nodup → Q (.ref c) H') : ∀ u, H u = none → spNames [.ref p, .int (n : Nat), .ref u] (upd H u (.lst [])) Q E := fun u nu =>
  ⟨p, u, [], n, rfl, hq.new nu, hq.ne nu, upd_same, (fun _ h => absurd h List.not_mem_nil), by simpa using hn, fun c zs H' nc np hl hz nd _ r e => q H' c zs (((Drawn.refl hq).new nu).trans r) np e hl hz nd⟩
theorem DtAll.names {zs : List Str} (h : ∀ z ∈ zs, NameS z) : DtAll p H (zs.map V.str) (zs.map PyData.str) := DtAll.strs fun z hz => (h z hz).small
abbrev rTupOf (K : PySem.W.Frag) : List V → Hp → VK → Prop := fun xs H Q => ∃ p ys, xs = [.ref p] ∧ ((SqL K H p ys ∧ ∀ l, H l = none → Q (.ref l) (upd H l (.tup ys))) ∨ (SqT K H p ys ∧ Q (.ref p) H))
theorem Lay.shut (hp : Giv tp σ H (.ref p)) (hi : LayI tn p σ H 10) : Lay (tCB (rTupOf K) (tCons (tCall spNames [] E (tCons tp (tCons tn (tCons (tLst tNil) tNil)))) tNil)) p σ H := fun Q q => hp _ (hi _ fun H1 i r1 i0 i1 => ⟨(by show 0 ≤ sizeLine; decide), by
  obtain ⟨k, rfl⟩ := Int.eq_ofNat_of_zero_le i0
  refine names_new (Q := fun x H2 => rTupOf K [x] H2 Q) (E := E) (n := k) r1.pot (by omega) fun H2 c zs r2 nc ec hl hz nd => ?_
  refine ⟨c, _, rfl, .inl ⟨SqL.of ec, fun a na => q _ _ (.tuple (zs.map PyData.str)) ((r1.trans r2).new na) (.tup (r2.pot.ne na) ?_ upd_same (DtAll.names hz))⟩⟩
  rw [List.length_map]
  omega⟩)
abbrev rLstOf (K : PySem.W.Frag) : List V → Hp → VK → Prop := fun xs H Q => ∃ p ys, xs = [.ref p] ∧ (SqL K H p ys ∨ SqT K H p ys) ∧ ∀ l, H l = none → Q (.ref l) (upd H l (.lst ys))
theorem Lay.list {c : Addr} {xs : List V} {ds : List PyData} (h : Giv te σ H (.ref c)) (hp : Pot H p) (hl : xs.length ≤ 1000) (e : H c = some (.tup xs)) (hd : DtAll p H xs ds) : Lay (tCB (rLstOf K) (tCons te tNil)) p σ H := fun Q q => h _ ⟨c, xs, rfl, .inr (SqT.of e), fun a na => q _ _ (.list ds) ((Drawn.refl hp).new na) (.lst (hp.ne na) hl upd_same (hd.keep (Keep.new na)))⟩
theorem giv_lenL {c : Addr} {xs : List V} (hv : Giv te σ H (.ref c)) (e : H c = some (.lst xs)) : Giv (tCB (rLenX K) (tCons te tNil)) σ H (.int (xs.length : Nat)) := fun Q q => hv _ ⟨.ref c, xs.length, rfl, .inl ⟨xs, SqL.of e, rfl⟩, q⟩
theorem giv_add {ta : TE} {i j : Int} (h1 : Giv ta σ H (.int i)) (h2 : Giv tb σ H (.int j)) : Giv (tOp (rI0 fun i j => .int (i + j)) ta tb) σ H (.int (i + j)) := fun Q q => h1 _ (h2 _ ⟨i, j, rfl, rfl, q⟩)
theorem giv_ixV {ti : TE} {c : Addr} {xs : List V} {ds : List PyData} {k : Nat} (h : Giv te σ H (.ref c)) (h2 : Giv ti σ H (.int (k : Nat))) (e : H c = some (.tup xs)) (hd : DtAll p H xs ds) (hk : k < xs.length) : ∃ x d, Giv (tOp (rIxT K) te ti) σ H x ∧ Dt p H x d ∧ xs[k]? = some x ∧ ds[k]? = some d := by
  have hx : xs[k]? = some xs[k] := List.getElem?_eq_getElem hk
  obtain ⟨d, h3, h4⟩ := hd.get hx
  exact ⟨_, d, fun Q q => h _ (h2 _ ⟨c, xs, _, _, rfl, rfl, SqT.of e, atI_nat hx, q⟩), h4, hx, h3⟩
theorem giv_last {c : Addr} {xs : List V} (h : Giv te σ H (.ref c)) (e : H c = some (.tup xs)) (hk : 0 < xs.length) : Giv (tOp (rIxT K) te (tUn (rU fun i => .int (-i)) (tC (.int 1)))) σ H (xs.getD (xs.length - 1) .non) := by
  refine fun Q q => h _ ⟨1, rfl, c, xs, _, _, rfl, rfl, SqT.of e, ?_, q⟩
  show (ixN xs.length (-1)).bind (fun j => xs[j]?) = _
  have : ixN xs.length (-1) = some (xs.length - 1) := by
    unfold ixN
    rw [if_neg (by omega), if_pos (by omega)]
    congr 1
    omega
  rw [this, List.getD_eq_getElem?_getD]
  show xs[xs.length - 1]? = _
  rw [List.getElem?_eq_getElem (by omega)]
  rfl
theorem DtAll.getD {xs : List V} {ds : List PyData} (hd : DtAll p H xs ds) (k : Nat) (hk : k < xs.length) : Dt p H (xs.getD k .non) (ds.getD k .none) := by
  have hx : xs[k]? = some xs[k] := List.getElem?_eq_getElem hk
  obtain ⟨d, h3, h4⟩ := hd.get hx
  rw [List.getD_eq_getElem?_getD, List.getD_eq_getElem?_getD, hx, h3]
  exact h4
theorem LayI.digitN {tn : TE} {n : Nat} (hp : Giv tp σ H (.ref p)) (hq : Pot H p) (hn : Giv tn σ H (.int (n : Nat))) (h0 : 0 < n) (h1 : n ≤ 1000) : LayI (tCall spDigit [] E (tCons tp (tCons tn tNil))) p σ H n := LayI.digit hp hq hn (by omega) (Nat.lt_of_le_of_lt (Nat.log2_le_self _) (by show n < 9000; omega))
def filled : PyData → Bool
  | .tuple ds => !ds.isEmpty
  | _ => false
theorem say_neE {x : V} {d : PyData} (h : Giv te σ H x) (hd : Dt p H x d) (e : isa d "tuple" = true) : Say (tOp (rNeE K) te (tTup tNil)) σ H (filled d) := fun Q q => h _ ⟨(by show 0 ≤ sizeLine; decide), fun a na => by
  cases hd with
  | @tup c xs ds nc hl ec ha =>
    refine ⟨c, a, xs, rfl, rfl, .inr ⟨SqT.of (same_new na _ _ ec), SqT.of upd_same⟩, ?_⟩
    have := q _ (same_new (o := .tup []) na)
    have e2 : filled (.tuple ds) = !xs.isEmpty := by
      cases ha <;> rfl
    rw [e2] at this
    exact this
  | _ => exact absurd e (by dsimp only [isa, kind]; decide +kernel)⟩
/-! ### statements -/
variable {D : Ends} {u t : TS} {i : Nat} {tc : TT} {c : Bool}
theorem setD (h : Lay te p σ H) (q : ∀ (H' : Hp) (v : V) (d : PyData), Drawn p H H' → Dt p H' v d → u D (σ.set i (some v)) H') : tSeq (tAsg te (gName i)) u D σ H := h _ q
theorem setI {n : Int} (h : LayI te p σ H n) (q : ∀ (H' : Hp) (k : Int), Drawn p H H' → 0 ≤ k → k < n → u D (σ.set i (some (.int k))) H') : tSeq (tAsg te (gName i)) u D σ H := h _ q
theorem setT {lo hi : Nat} (h : LayT te p σ H lo hi) (q : ∀ (H' : Hp) (c : Addr) (xs : List V) (ds : List PyData), Drawn p H H' → c ≠ p → H' c = some (.tup xs) → DtAll p H' xs ds → lo ≤ xs.length → xs.length ≤ hi → u D (σ.set i (some (.ref c))) H') : tSeq (tAsg te (gName i)) u D σ H := h _ q
theorem setL {n : Nat} (h : LayL te p σ H n) (q : ∀ (H' : Hp) (c : Addr) (xs : List V) (ds : List PyData), Drawn p H H' → c ≠ p → H' c = some (.lst xs) → DtAll p H' xs ds → xs.length = n → u D (σ.set i (some (.ref c))) H') : tSeq (tAsg te (gName i)) u D σ H := h _ q
theorem setV (h : Giv te σ H v) (q : u D (σ.set i (some v)) H) : tSeq (tAsg te (gName i)) u D σ H := h _ q
theorem retD (h : Lay te p σ H) (q : ∀ (H' : Hp) (v : V) (d : PyData), Drawn p H H' → Dt p H' v d → D.rt v H') : tRet te D σ H := h _ q
theorem retT {lo hi : Nat} (h : LayT te p σ H lo hi) (q : ∀ (H' : Hp) (c : Addr) (xs : List V) (ds : List PyData), Drawn p H H' → c ≠ p → H' c = some (.tup xs) → DtAll p H' xs ds → lo ≤ xs.length → xs.length ≤ hi → D.rt (.ref c) H') : tRet te D σ H := h _ q
theorem ifS (h : SayT tc σ H c) (h1 : c = true → ∀ H', Same H H' → t { D with nx := u D } σ H') (h2 : c = false → ∀ H', Same H H' → u D σ H') : tSeq (tIfS tc t tNext) u D σ H := h _ fun H1 s1 => by
  cases c with
  | true => exact iteT (h1 rfl H1 s1)
  | false => exact iteF (h2 rfl H1 s1)
theorem isI {ta : TE} {k n : Int} (h1 : Giv ta σ H (.int k)) : SayT (tTest (tOp rEq ta (tC (.int n)))) σ H (decide (k = n)) := Say.tTest (say_eqI h1 giv_c)
end
end Gj

/-! own layer: the words of parts -/
namespace Gj
open PySem PySem.Spec PyProof.Rows L2
open C8 (Cal pe_c pe_gc)
theorem Th.Good.shows {t : Th} (h : t.Good) : Shows t.data := by
  have nB : ∀ {z : Str}, NameS z → (PyData.shown (.str z)).length ≤ 400 := fun h => by have := str_small h.cps h.len; omega
  have kB : ∀ s ∈ (["letter", "echo", "answer", "goer"] : List Str), (PyData.shown (.str s)).length ≤ 400 := fun s hs => by have := str_small (kinds_cps s hs) (kinds_name s hs).2.1; omega
  have sB : ∀ {s : Str}, s ∈ sorts → (PyData.shown (.str s)).length ≤ 400 := fun hs => by have := str_small (sorts_cps _ hs) (sorts_name _ hs).2.1; omega
  have wB : ∀ {z : Str}, WordS z → (PyData.shown (.str z)).length ≤ 400 := fun {z} h => by
    have h2 : z.length ≤ 12 := by
      obtain ⟨cs, e, h1, h2, _⟩ := h.ex
      rw [e, SX.S_len]
      exact h2
    have := str_small h.cps h2
    omega
  have pB : ∀ {z : Str} {n : Nat}, NameS z → NumOk n → (PyData.shown (.tuple [.str z, .int n])).length ≤ 1000 := fun {z n} hz hn => by
    have := tup_small (B := 400) (ds := [.str z, .int n]) fun d hd => by
      simp only [List.mem_cons, List.not_mem_nil, or_false] at hd
      rcases hd with rfl | rfl
      · exact nB hz
      · exact int_small hn
    have e : ([PyData.str z, .int n] : List PyData).length = 2 := rfl
    rw [e] at this
    omega
  have zB : ∀ {zs : List Str}, (∀ z ∈ zs, NameS z) → zs.length ≤ 9 → (PyData.shown (.tuple (zs.map .str))).length ≤ 4000 := fun {zs} hz hl => by
    have := tup_small (B := 400) (ds := zs.map .str) fun d hd => by
      obtain ⟨z, h1, rfl⟩ := List.mem_map.mp hd
      exact nB (hz z h1)
    rw [List.length_map] at this
    have h3 : zs.length * (400 + 2) ≤ 9 * 402 := Nat.mul_le_mul_right _ hl
    omega
  have all : (∀ d ∈ t.parts, d.shown.length ≤ 4000) ∧ t.parts.length ≤ 5 := by
    cases t with
    | letter a b w =>
      obtain ⟨h1, h2, h3⟩ := h
      refine ⟨fun d hd => ?_, by show 4 ≤ 5; omega⟩
      simp only [Th.parts, List.mem_cons, List.not_mem_nil, or_false] at hd
      rcases hd with rfl | rfl | rfl | rfl
      · exact Nat.le_trans (kB _ (by decide +kernel)) (by decide)
      · exact Nat.le_trans (nB h1) (by decide)
      · exact Nat.le_trans (nB h2) (by decide)
      · exact Nat.le_trans (wB h3) (by decide)
    | echo a b s m n =>
      obtain ⟨h1, h2, h3, h4, h5⟩ := h
      refine ⟨fun d hd => ?_, by show 5 ≤ 5; omega⟩
      simp only [Th.parts, List.mem_cons, List.not_mem_nil, or_false] at hd
      rcases hd with rfl | rfl | rfl | rfl | rfl
      · exact Nat.le_trans (kB _ (by decide +kernel)) (by decide)
      · exact Nat.le_trans (nB h1) (by decide)
      · exact Nat.le_trans (nB h2) (by decide)
      · exact Nat.le_trans (sB h3) (by decide)
      · exact Nat.le_trans (pB h4 h5) (by decide)
    | answer a s m n g k =>
      obtain ⟨h1, h2, h3, h4, h5, h6, h7⟩ := h
      refine ⟨fun d hd => ?_, by show 5 ≤ 5; omega⟩
      simp only [Th.parts, List.mem_cons, List.not_mem_nil, or_false] at hd
      rcases hd with rfl | rfl | rfl | rfl | rfl
      · exact Nat.le_trans (kB _ (by decide +kernel)) (by decide)
      · exact Nat.le_trans (nB h1) (by decide)
      · exact Nat.le_trans (sB h2) (by decide)
      · exact Nat.le_trans (pB h3 h4) (by decide)
      · exact Nat.le_trans (pB h5 h7) (by decide)
    | goer a n zs =>
      obtain ⟨h1, h2, h3, h4, h5, h6⟩ := h
      refine ⟨fun d hd => ?_, by show 4 ≤ 5; omega⟩
      simp only [Th.parts, List.mem_cons, List.not_mem_nil, or_false] at hd
      rcases hd with rfl | rfl | rfl | rfl
      · exact Nat.le_trans (kB _ (by decide +kernel)) (by decide)
      · exact Nat.le_trans (nB h1) (by decide)
      · exact Nat.le_trans (int_small h3) (by decide)
      · exact zB h4 h6
  have ssA : ∀ zs : List Str, PyData.showableAll (zs.map .str) = true ∧ PyData.hasDictAll (zs.map .str) = false ∧ PyData.depthAll (zs.map .str) ≤ 1 := fun zs => by
    induction zs with
    | nil => exact ⟨rfl, rfl, by simp [PyData.depthAll]⟩
    | cons z l ih =>
      obtain ⟨i1, i2, i3⟩ := ih
      refine ⟨?_, ?_, ?_⟩
      · rw [List.map_cons, PyData.showableAll, i1]; rfl
      · rw [List.map_cons, PyData.hasDictAll, i2]; rfl
      · rw [List.map_cons]; simp only [PyData.depthAll, PyData.depth]; omega
  refine ⟨?_, ?_, ?_, ?_⟩
  · cases t with
    | letter a b w => rfl
    | echo a b s m n => simp [Th.data, Th.parts, PyData.showable, PyData.showableAll]; exact int_log h.2.2.2.2
    | answer a s m n g k => simp [Th.data, Th.parts, PyData.showable, PyData.showableAll]; exact ⟨int_log h.2.2.2.1, int_log h.2.2.2.2.2.2⟩
    | goer a n zs => simp [Th.data, Th.parts, PyData.showable, PyData.showableAll, (ssA zs).1]; exact int_log h.2.2.1
  · cases t with
    | letter a b w => rfl
    | echo a b s m n => rfl
    | answer a s m n g k => rfl
    | goer a n zs => simp [Th.data, Th.parts, PyData.hasDict, PyData.hasDictAll, (ssA zs).2.1]
  · cases t with
    | letter a b w => simp [Th.data, Th.parts, PyData.depth, PyData.depthAll]
    | echo a b s m n => simp [Th.data, Th.parts, PyData.depth, PyData.depthAll]
    | answer a s m n g k => simp [Th.data, Th.parts, PyData.depth, PyData.depthAll]
    | goer a n zs =>
      have := (ssA zs).2.2
      simp [Th.data, Th.parts, PyData.depth, PyData.depthAll]
      omega
  · have := tup_small all.1
    have h3 : t.parts.length * (4000 + 2) ≤ 5 * 4002 := Nat.mul_le_mul_right _ all.2
    show (PyData.shown (.tuple t.parts)).length ≤ 2 ^ 24
    omega
/-! ### parts -/
inductive Leaf : PyData → Prop
  | str (z : Str) : Leaf (.str z)
  | int {n : Nat} : NumOk n → Leaf (.int n)
def wordOf : PyData → Str
  | .str z => z
  | .int i => ((toString i : String) : Str)
  | _ => ""
inductive Part : PyData → Prop
  | leaf {d : PyData} : Leaf d → Part d
  | tup {es : List PyData} : (∀ e ∈ es, Leaf e) → Part (.tuple es)
def partWords : PyData → List Str
  | .tuple es => es.map wordOf
  | d => [wordOf d]
theorem Leaf.words {d : PyData} (h : Leaf d) : partWords d = [wordOf d] := by cases h <;> rfl
theorem Leaf.isa {d : PyData} (h : Leaf d) : isa d "tuple" = false := by cases h <;> (dsimp only [Gj.isa, kind]; decide +kernel)
theorem Th.Good.part {t : Th} (h : t.Good) : ∀ d ∈ t.parts, Part d := by
  cases t with
  | letter a b w =>
    intro d hd
    simp only [Th.parts, List.mem_cons, List.not_mem_nil, or_false] at hd
    rcases hd with rfl | rfl | rfl | rfl <;> exact .leaf (.str _)
  | echo a b s m n =>
    obtain ⟨h1, h2, h3, h4, h5⟩ := h
    intro d hd
    simp only [Th.parts, List.mem_cons, List.not_mem_nil, or_false] at hd
    rcases hd with rfl | rfl | rfl | rfl | rfl
    iterate 4 exact .leaf (.str _)
    exact .tup fun e he => by
      simp only [List.mem_cons, List.not_mem_nil, or_false] at he
      rcases he with rfl | rfl
      · exact .str _
      · exact .int h5
  | answer a s m n g k =>
    obtain ⟨h1, h2, h3, h4, h5, h6, h7⟩ := h
    intro d hd
    simp only [Th.parts, List.mem_cons, List.not_mem_nil, or_false] at hd
    rcases hd with rfl | rfl | rfl | rfl | rfl
    iterate 3 exact .leaf (.str _)
    · exact .tup fun e he => by
        simp only [List.mem_cons, List.not_mem_nil, or_false] at he
        rcases he with rfl | rfl
        · exact .str _
        · exact .int h4
    · exact .tup fun e he => by
        simp only [List.mem_cons, List.not_mem_nil, or_false] at he
        rcases he with rfl | rfl
        · exact .str _
        · exact .int h7
  | goer a n zs =>
    obtain ⟨h1, h2, h3, h4, h5, h6⟩ := h
    intro d hd
    simp only [Th.parts, List.mem_cons, List.not_mem_nil, or_false] at hd
    rcases hd with rfl | rfl | rfl | rfl
    iterate 2 exact .leaf (.str _)
    · exact .leaf (.int h3)
    · exact .tup fun e he => by
        obtain ⟨z, _, rfl⟩ := List.mem_map.mp he
        exact .str _
theorem map_wordOf (zs : List Str) : (zs.map PyData.str).map wordOf = zs := by
  rw [List.map_map]
  exact List.map_id' zs
theorem parts_words (t : Th) : t.parts.flatMap partWords = t.words := by
  cases t with
  | letter a b w => rfl
  | echo a b s m n => rfl
  | answer a s m n g k => rfl
  | goer a n zs =>
    show ("goer" : Str) :: a :: num n :: ((zs.map PyData.str).map wordOf ++ []) = _
    rw [map_wordOf, List.append_nil]
    rfl
def wordsTo (t : Th) (i : Nat) : List Str := (t.parts.take i).flatMap partWords
theorem wordsTo_len {t : Th} (h : t.Good) (i : Nat) : (wordsTo t i).length ≤ 12 := by
  have e := parts_words t
  rw [← List.take_append_drop i t.parts, List.flatMap_append] at e
  have := congrArg List.length e
  rw [List.length_append] at this
  have := h.many.2
  unfold wordsTo
  omega
theorem wordsTo_all (t : Th) {n : Nat} (h : t.parts.length ≤ n) : wordsTo t n = t.words := by
  unfold wordsTo
  rw [List.take_of_length_le h, parts_words]
theorem wordsTo_succ {t : Th} {i : Nat} {d : PyData} (h : t.parts[i]? = some d) : wordsTo t (i + 1) = wordsTo t i ++ partWords d := by
  unfold wordsTo
  rw [take_snoc h, List.flatMap_append]
  simp
theorem Leaf.str1 {p : Addr} {H : Hp} {v : V} {d : PyData} {Q : VK} (hl : Leaf d) (hd : Dt p H v d) (q : Q (.str (wordOf d)) H) : rStrD [v] H Q := by
  cases hl with
  | str z =>
    cases hd
    exact .inr ⟨z, rfl, q⟩
  | int hn =>
    cases hd
    exact .inl ⟨_, rfl, int_log hn, q⟩
def spTT : Sp := fun vs H Q _ => ∃ (p c : Addr) (xs : List V) (t : Th), vs = [.ref c] ∧ H c = some (.tup xs) ∧ DtAll p H xs t.parts ∧ t.Good ∧ ∀ H', Same H H' → Q (.str t.text) H'
/-- [str(x) for x in part] -/
theorem lc_strs {K : PySem.W.Frag} {σ : L2.St} {H : Hp} {te : TE} {i : Nat} {p a : Addr} {xs : List V} {es : List PyData} {Q : VK} (hv : Giv te σ H (.ref a)) (ea : H a = some (.tup xs)) (hd : DtAll p H xs es) (hl : xs.length ≤ 1000) (lf : ∀ e ∈ es, Leaf e)
    (hw : ∀ v, wipe ((wipe σ [i]).set i (some v)) [i] = wipe σ [i]) (hi : ∀ v, ((wipe σ [i]).set i (some v))[i]? = some (some v))
    (q : ∀ (H' : Hp) (D : Addr), H D = none → Same H H' → H' D = some (.lst ((es.map wordOf).map V.str)) → Q (.ref D) H') :
    tLc (iTup K te) (gName i) tYes (tCB rStrD (tCons (tVar i) tNil)) [i] σ H Q := hv _ ⟨a, rfl, ⟨xs, SqT.of ea⟩, fun D hD => by
  refine lc_tup (K := K) (a := a) (xs := xs) (Pv := fun j H' => Same H H' ∧ H' D = some (.lst (((es.take j).map wordOf).map V.str))) ⟨same_new hD, upd_same⟩ (fun j H' _ hp => SqT.of (hp.1 _ _ ea)) (fun j x H1 hx hp => ?_) (fun H1 hp => ?_)
  · obtain ⟨sm, eD⟩ := hp
    obtain ⟨d, hd1, hd2⟩ := hd.get hx
    refine ⟨hw _, _, hi _, ?_⟩
    refine Leaf.str1 (Q := fun y H4 => ∃ acc, H4 D = some (.lst acc) ∧ acc.length < sizeLine ∧ Same H (upd H4 D (.lst (acc ++ [y]))) ∧ upd H4 D (.lst (acc ++ [y])) D = some (.lst (((es.take (j + 1)).map wordOf).map V.str))) (lf d (List.mem_of_getElem? hd1)) (hd2.same sm) ?_
    refine ⟨_, eD, ?_, fun b o e => ?_, ?_⟩
    · rw [List.length_map, List.length_map, List.length_take, ← hd.length]
      exact small1000 (by omega)
    · rw [upd_ne (ne_of_none e hD)]
      exact sm b o e
    · rw [upd_same, take_snoc hd1, List.map_append, List.map_append]
      rfl
  · obtain ⟨sm, eD⟩ := hp
    rw [show es.take xs.length = es from List.take_of_length_le (by rw [hd.length]; exact Nat.le_refl _)] at eD
    exact q H1 D hD sm eD⟩
theorem giv_str {σ : L2.St} {H : Hp} {te : TE} {p : Addr} {v : V} {d : PyData} (hv : Giv te σ H v) (hl : Leaf d) (hd : Dt p H v d) : Giv (tCB rStrD (tCons te tNil)) σ H (.str (wordOf d)) := fun Q q => hv _ (hl.str1 hd q)
theorem Th.parts_len (t : Th) : t.parts.length ≤ 5 := by
  cases t <;> (simp only [Th.parts, List.length_cons, List.length_nil]; omega)
theorem joinL_len (a : List Nat) : ∀ l : List (List Nat), (TL.joinL a l).length ≤ (l.map List.length).sum + l.length * a.length
  | [] => Nat.zero_le _
  | [x] => by show x.length ≤ _; simp
  | x :: y :: r => by
    show (x ++ (a ++ TL.joinL a (y :: r))).length ≤ _
    have := joinL_len a (y :: r)
    rw [List.length_append, List.length_append, List.map_cons, List.sum_cons, List.length_cons (a := x), Nat.succ_mul]
    omega
theorem join_len (z : Str) (l : List Str) : (Txt.join z l).length ≤ (l.map (·.length)).sum + l.length * z.length := by
  have e : (Txt.join z l).length = (TL.tl (Txt.join z l)).length := rfl
  rw [e, TL.join_eq, TL.tl_join]
  have := joinL_len (TL.tl z) (l.map TL.tl)
  rw [List.map_map, List.length_map] at this
  exact this
theorem Th.Good.len {t : Th} (h : t.Good) : t.text.length ≤ 1000 := by
  have h1 := join_len " " t.words
  have h2 := h.sum
  have h3 := h.many.2
  have e : (PySem.Str.ofString " ").length = 1 := rfl
  rw [e] at h1
  show (Txt.join " " t.words).length ≤ 1000
  omega
end Gj

namespace Gj
open PySem PySem.Spec PyProof.Rows L2
open C8 (Cal pe_c pe_gc)
section
variable {P : Program} {w : World} {K : PySem.W.Frag} {mg : Str → Option Value} {base : Heap}
theorem sc_thing_text : FnScope ["thing", "words", "part", "inner"] ["thing"] (defScope (topS 25)) := ⟨rfl, rfl, rfl, by decide +kernel, rfl, by decide +kernel, by decide +kernel⟩
theorem okF_thing_text (D : DefAt K mg "thing_text" (topS 25)) (m : Mg mg) : CalF P w K mg base 1 "thing_text" (topS 25) ["thing"] spTT := by
  have sc := sc_thing_text
  refine mkCalF D sc (fun vs H Q E h => ?_) (fun f cdv A outer s H vs Q E hr h => ?_)
  · obtain ⟨p, c, xs, t, rfl, _⟩ := h
    rfl
  · obtain ⟨p, c, xs, t, rfl, ec, hd, hg, q⟩ := h
    refine ⟨_, (pss_cons (ps_set (i := 1) sc.nd rfl (.inl rfl) (pe_lst pa_nil))
  (pss_cons (ps_for PassesOwn.never rfl (pi_tup (pv 0)) (pg_name (i := 2) sc.nd rfl (.inl rfl))
  (pss_one (ps_if (pt_val (pe_callB (call_isD (T := "tuple") (.inr (.inl rfl))) (by rfl) m.isinstance (by decide +kernel) (pa_cons (pv 2) (pa_cons (pe_bltn (v := .ty "tuple") (by rfl) m.tuple (by decide +kernel) rfl) pa_nil))))
  (pss_one (ps_expr (pe_bm PySem.F.plainAttrs_list PySem.F.slot_list_extend PySem.F.type_list_extend mt_extend (pv 1) (pa_cons (pe_lc (own := [("inner", 3)]) (g := gName 3) (tt := tYes) rfl sc.nd (pi_tup (pv 2)) (blkOk_by (N := ["thing", "words", "part", "inner"]) (sc := defScope (topS 25)) (by decide +kernel)) (fun _ _ _ _ _ => (pg_name (i := 3) sc.nd rfl (.inl rfl))) (fun _ _ _ _ _ => pts_nil) (fun _ _ _ _ _ => (pe_callTy call_strD (by rfl) m.str (by decide +kernel) (pa_cons (pv 3) pa_nil)))) pa_nil))))
  (pss_one (ps_expr (pe_bm PySem.F.plainAttrs_list PySem.F.slot_list_append PySem.F.type_list_append mt_append (pv 1) (pa_cons (pe_callTy call_strD (by rfl) m.str (by decide +kernel) (pa_cons (pv 2) pa_nil)) pa_nil)))))))
  (pss_one (ps_ret (pe_join pe_str (pv 1)))))), ?_⟩
    refine ⟨(by show 0 ≤ sizeLine; decide), fun W nW => ?_⟩
    have lx : xs.length ≤ 5 := by rw [hd.length]; exact t.parts_len
    refine ⟨_, rfl, c, rfl, ⟨xs, SqT.of ((same_new nW) _ _ ec)⟩, ?_⟩
    refine for_tup (K := K) (a := c) (xs := xs) (fun i σ H' => ∃ y2 y3, σ = [some (.ref c), some (.ref W), y2, y3] ∧ Same H H' ∧ H' W = some (.lst ((wordsTo t i).map V.str))) ⟨_, _, rfl, same_new nW, upd_same⟩ (fun i σ H' _ hp => ?_) (fun i x σ H1 hx hp => ?_) (fun σ H1 hp => ?_)
    · obtain ⟨y2, y3, rfl, sm, eW⟩ := hp
      exact SqT.of (sm _ _ ec)
    · obtain ⟨y2, y3, rfl, sm, eW⟩ := hp
      obtain ⟨d, hd1, hd2⟩ := hd.get hx
      have hd2 := hd2.same sm
      have wl := wordsTo_len hg i
      have pt := hg.part d (List.mem_of_getElem? hd1)
      refine Say.tB (say_isa (giv_var rfl) hd2) _ fun H2 s2 => ?_
      have sm := sm.trans s2
      have eW := s2 _ _ eW
      have hd2 := hd2.same s2
      cases pt with
      | leaf lf =>
        rw [lf.isa]
        refine iteF ?_
        refine ⟨_, rfl, .inl ⟨rfl, _, SqL.of eW⟩, ?_⟩
        refine giv_str (te := tVar 2) (giv_var rfl) lf hd2 _ ?_
        refine ⟨W, _, _, rfl, rfl, eW, ?_, _, _, rfl, fun b o e => ?_, ?_⟩
        · rw [List.length_map]; exact small1000 (by omega)
        · rw [upd_ne (ne_of_none e nW)]; exact sm b o e
        · rw [upd_same, wordsTo_succ hd1, lf.words, List.map_append]; rfl
      | @tup es lf =>
        cases hd2 with
        | @tup a ys _ na la ea ha =>
          have wl2 : (wordsTo t i ++ es.map wordOf).length ≤ 12 := by rw [show wordsTo t i ++ es.map wordOf = wordsTo t (i + 1) from (wordsTo_succ hd1).symm]; exact wordsTo_len hg _
          rw [List.length_append, List.length_map, ← ha.length] at wl2
          rw [show isa (.tuple _) "tuple" = true by dsimp only [isa, kind]; decide +kernel]
          refine iteT ?_
          refine ⟨_, rfl, .inl ⟨rfl, _, SqL.of eW⟩, ?_⟩
          refine lc_strs (K := K) (te := tVar 2) (i := 3) (giv_var rfl) ea ha la lf (fun _ => rfl) (fun _ => rfl) fun H3 D nD s3 eD => ?_
          refine ⟨W, D, _, _, rfl, rfl, s3 _ _ eW, eD, ?_, _, _, rfl, fun b o e => ?_, ?_⟩
          · rw [List.length_map, List.length_map, List.length_map, ← ha.length]; exact Nat.le_of_lt (small1000 (by omega))
          · rw [upd_ne (ne_of_none e nW)]; exact s3 _ _ (sm b o e)
          · rw [upd_same, wordsTo_succ hd1, List.map_append]; rfl
    · obtain ⟨y2, y3, rfl, sm, eW⟩ := hp
      rw [wordsTo_all t (by rw [hd.length]; exact Nat.le_refl _)] at eW
      refine ⟨⟨_, rfl⟩, _, rfl, _, W, t.words, rfl, rfl, .inl (SqL.of eW), ?_, q _ sm⟩
      have := hg.sum
      have := hg.many.2
      have e : (PySem.Str.ofString " ").length = 1 := rfl
      rw [e]
      omega
theorem ok_thing_text (D : DefAt K mg "thing_text" (topS 25)) (m : Mg mg) : Cal P w K mg base 1 "thing_text" spTT [] := (okF_thing_text D m).cal (fun _ _ _ _ _ _ us hl => match us, hl with | [_], _ => rfl)
theorem kw_thing_text (D : DefAt K mg "thing_text" (topS 25)) (m : Mg mg) : CalK P w K mg base 1 "thing_text" spTT ["thing"] (fun zs => zs) := (okF_thing_text D m).kw (g := fun ws => ws) (fun _ _ _ _ _ _ us hl => match us, hl with | [_], _ => rfl) (fun r => r)
end
end Gj

set_option maxHeartbeats 4000000
namespace Gj
open PySem PySem.Spec PyProof.Rows L2
open C8 (Cal pe_c pe_gc)
section
variable {σ : L2.St} {H : Hp} {te ta tb : TE} {a b c : Bool} {D : Ends} {u t : TS} {i : Nat} {tc : TT}
theorem setB (h : Say te σ H b) (q : ∀ H', Same H H' → u D (σ.set i (some (.bl b))) H') : tSeq (tAsg te (gName i)) u D σ H := h _ q
theorem setW {w : V} (h : ∀ Q : VK, (∀ H', Same H H' → Q w H') → te σ H Q) (q : ∀ H', Same H H' → u D (σ.set i (some w)) H') : tSeq (tAsg te (gName i)) u D σ H := h _ q
theorem say_var (h : σ[i]? = some (some (.bl b))) : Say (tVar i) σ H b := fun Q q => ⟨_, h, q H (Same.refl H)⟩
theorem retB (h : Say te σ H b) (q : ∀ H', Same H H' → D.rt (.bl b) H') : tRet te D σ H := h _ q
abbrev rReprB : List V → Hp → VK → Prop := fun xs H Q => ∃ b, xs = [.bl b] ∧ Q (.str (if b then "True" else "False")) H
theorem say_reprNe (ha : Say ta σ H a) (hb : ∀ H', Same H H' → Say tb σ H' a) : Say (tOp rNe (tCB rReprB (tCons ta tNil)) (tCB rReprB (tCons tb tNil))) σ H false := fun Q q => ha _ fun H1 s1 => ⟨a, rfl, hb H1 s1 _ fun H2 s2 => ⟨a, rfl, rfl, by
  rw [decide_eq_true rfl]
  exact q H2 (s1.trans s2)⟩⟩
/-- an if whose test is false -/
theorem ifNo (h : SayT tc σ H false) (h2 : ∀ H', Same H H' → u D σ H') : tSeq (tIfS tc t tNext) u D σ H := ifS h (fun e => absurd e (by decide)) fun _ => h2
theorem say_inL {K : PySem.W.Frag} {p : Addr} {v : V} {d : PyData} {z1 z2 : Str} (hv : Giv te σ H v) (hd : Dt p H v d) : Say (tOp (rInT K) te (tLst (tCons (tC (.str z1)) (tCons (tC (.str z2)) tNil)))) σ H ([z1, z2].any fun z => isT d z) := fun Q q => hv _ ⟨(by show 2 ≤ sizeLine; decide), fun a na => ⟨p, a, d, [z1, z2], rfl, SqL.of upd_same, hd.same (same_new na), q _ (same_new na)⟩⟩
end
end Gj

/-! own layer: numbers read figure by figure -/
namespace Gj
open PySem PySem.Spec PyProof.Rows L2
open C8 (Cal pe_c pe_gc)
theorem num_head : ∀ n : Nat, n ≠ 0 → (TL.numL n)[0]? ≠ some 48 := by
  intro n
  induction n using Nat.strongRecOn with
  | _ n ih =>
    intro hn
    by_cases h : n < 10
    · rw [TL.numL_lt h]
      intro e
      have e : 48 + n = 48 := Option.some.inj e
      omega
    · rw [TL.numL_step (by omega)]
      have hp : 0 < (TL.numL (n / 10)).length := List.length_pos_iff.mpr (TL.numL_ne _)
      rw [List.getElem?_append_left hp]
      exact ih (n / 10) (by omega) (by omega)
theorem num_zero {n : Nat} (h : Txt.startswith (num n) "0" = true) : n = 0 := by
  unfold Txt.startswith at h
  rw [Bool.and_eq_true] at h
  have h2 := (StrLaws.subAt_one (num n) 48 0).mp ⟨of_decide_eq_true h.1, h.2⟩
  rw [num_tl] at h2
  by_cases e : n = 0
  · exact e
  · exact absurd h2 (num_head n e)
theorem num_starts (n : Nat) : (Txt.startswith (num n) "0" && !decide (V.str (num n) = V.str "0")) = false := by
  cases h : Txt.startswith (num n) "0" with
  | false => rfl
  | true =>
    rw [num_zero h]
    rfl
theorem num_txt {n : Nat} : mTxt sFigures ((num n).length : Nat) (.str (num n)) = true := by
  show isTxt (num n) sFigures _ = true
  rw [num_S, SX.S_len]
  have hp : 0 < (TL.numL n).length := List.length_pos_iff.mpr (TL.numL_ne _)
  refine txt_of (most := (TL.numL n).length) hp (Nat.le_refl _) fun c hc => ?_
  have h := TL.numL_digits n c hc
  have k : ∀ c, c < 58 → 48 ≤ c → c ∈ sFigures.cps.toList := by decide +kernel
  exact k c (by omega) h.1
theorem fig_at : ∀ k, k < 10 → Builtin.Str.occurrences sFigures ⟨#[48 + k]⟩ 0 sFigures.length 1 = [k] := by decide +kernel
/-- the number of the first j figures -/
def numTo (n j : Nat) : Int := ((TL.numL n).take j).foldl (fun (t : Int) (c : Nat) => t * 10 + ((c : Int) - 48)) 0
theorem numTo_succ {n j c : Nat} (h : (TL.numL n)[j]? = some c) : numTo n (j + 1) = numTo n j * 10 + ((c : Int) - 48) := by
  unfold numTo
  rw [take_snoc h, List.foldl_append]
  rfl
theorem numTo_all {n j : Nat} (h : (TL.numL n).length ≤ j) : numTo n j = n := by
  unfold numTo
  rw [List.take_of_length_le h]
  exact TL.fold_num n
def spNum : Sp := fun vs H Q _ => ∃ n : Nat, vs = [.str (num n)] ∧ NumOk n ∧ ∀ H', Same H H' → Q (.int n) H'
def spPairOf : Sp := fun vs H Q _ => ∃ (z : Str) (n : Nat), vs = [.str z, .str (num n)] ∧ NumOk n ∧ ∀ H' a, H a = none → Same H H' → H' a = some (.tup [.str z, .int n]) → Q (.ref a) H'
def spTold : Sp := fun vs H Q _ => ∃ (p c : Addr) (t : Th), vs = [.ref c] ∧ H p ≠ none ∧ H c = some (.lst (t.words.map V.str)) ∧ t.Good ∧ ∀ H' v, Same H H' → Dt p H' v t.data → Q v H'
def spThingOf : Sp := fun vs H Q _ => ∃ (p : Addr) (t : Th), vs = [.str t.text] ∧ H p ≠ none ∧ t.Good ∧ ∀ H' v, Same H H' → Dt p H' v t.data → Q v H'
theorem ne_p {p a : Addr} {H H' : Hp} (h : H p ≠ none) (s : Same H H') (n : H' a = none) : a ≠ p := by
  rintro rfl
  cases e : H a with
  | none => exact h e
  | some o => rw [s _ _ e] at n; cases n
theorem new_of {a : Addr} {H H' : Hp} (s : Same H H') (n : H' a = none) : H a = none := by
  cases e : H a with
  | none => rfl
  | some o => rw [s _ _ e] at n; cases n
section
variable {σ : L2.St} {H : Hp} {te ta tb : TE} {a b c : Bool} {D : Ends} {u t : TS} {tc : TT}
theorem ifYes (h : SayT tc σ H true) (h1 : ∀ H', Same H H' → t { D with nx := u D } σ H') : tSeq (tIfS tc t tNext) u D σ H := ifS h (fun _ => h1) fun e => absurd e (by decide)
theorem dec_str2 {x y : Str} : decide (V.str x = V.str y) = decide (x = y) := by
  by_cases h : x = y
  · rw [h, decide_eq_true rfl, decide_eq_true rfl]
  · rw [decide_eq_false h, decide_eq_false fun z => h (V.str.inj z)]
theorem say_eqS {x y : Str} (h1 : Giv ta σ H (.str x)) (h2 : Giv tb σ H (.str y)) : Say (tOp rEq ta tb) σ H (decide (x = y)) := fun Q q => h1 _ (h2 _ ⟨rfl, by rw [dec_str2]; exact q H (Same.refl H)⟩)
theorem say_neS {x y : Str} (h1 : Giv ta σ H (.str x)) (h2 : Giv tb σ H (.str y)) : Say (tOp rNe ta tb) σ H (!decide (x = y)) := fun Q q => h1 _ (h2 _ ⟨rfl, by rw [dec_str2]; exact q H (Same.refl H)⟩)
theorem sayKind {k z : Str} {n i : Int} (h1 : σ[1]? = some (some (.str k))) (h2 : σ[2]? = some (some (.int n))) : SayT (tAnd (tTest (tOp rEq (tVar 1) (tC (.str z)))) (tTest (tOp rEq (tVar 2) (tC (.int i))))) σ H (decide (k = z) && decide (n = i)) :=
  SayT.and (Say.tTest (say_eqS (giv_var h1) giv_c)) fun _ H' s => Say.tTest (say_eqI (giv_var h2) giv_c)
theorem say_ge {i j : Int} (h1 : Giv ta σ H (.int i)) (h2 : Giv tb σ H (.int j)) : Say (tOp (rI0 fun i j => .bl (decide (i ≥ j))) ta tb) σ H (decide (i ≥ j)) := fun Q q => h1 _ (h2 _ ⟨i, j, rfl, rfl, q H (Same.refl H)⟩)
theorem sayKindG {k z : Str} {n i : Int} (h1 : σ[1]? = some (some (.str k))) (h2 : σ[2]? = some (some (.int n))) : SayT (tAnd (tTest (tOp rEq (tVar 1) (tC (.str z)))) (tTest (tOp (rI0 fun i j => .bl (decide (i ≥ j))) (tVar 2) (tC (.int i))))) σ H (decide (k = z) && decide (n ≥ i)) :=
  SayT.and (Say.tTest (say_eqS (giv_var h1) giv_c)) fun _ H' s => Say.tTest (say_ge (giv_var h2) giv_c)
end
end Gj

namespace Gj
open PySem PySem.Spec PyProof.Rows L2
/-! ### words that tell numbers -/
def figs (z : Str) : Bool := mTxt sFigures ((z.length : Nat) : Int) (.str z)
def lead (z : Str) : Bool := Txt.startswith z "0" && !decide (z = "0")
def valL (l : List Nat) : Int := l.foldl (fun (t : Int) (c : Nat) => t * 10 + ((c : Int) - 48)) 0
def valZ (z : Str) : Int := valL (TL.tl z)
def numD (z : Str) : PyData := if figs z = true ∧ lead z = false then .int (valZ z) else .none
def numV (z : Str) : V := if figs z = true ∧ lead z = false then .int (valZ z) else .non
theorem figs_iff {z : Str} : figs z = true ↔ z.length ≠ 0 ∧ ∀ c ∈ TL.tl z, 48 ≤ c ∧ c ≤ 57 := by
  show isTxt z sFigures _ = true ↔ _
  unfold isTxt
  rw [Bool.and_eq_true, Bool.and_eq_true, List.all_eq_true]
  have k : ∀ c, decide (c ∈ sFigures.cps.toList) = true ↔ 48 ≤ c ∧ c ≤ 57 := fun c => by
    rw [decide_eq_true_eq]
    constructor
    · have h : ∀ c ∈ sFigures.cps.toList, 48 ≤ c ∧ c ≤ 57 := by decide +kernel
      exact h c
    · have h : ∀ c, c < 58 → 48 ≤ c → c ∈ sFigures.cps.toList := by decide +kernel
      exact fun w => h c (by omega) w.1
  constructor
  · rintro ⟨⟨h1, _⟩, h3⟩
    have h1 := of_decide_eq_true h1
    refine ⟨by omega, fun c hc => (k c).mp (h3 _ (List.mem_map.mpr ⟨c, hc, rfl⟩))⟩
  · rintro ⟨h1, h2⟩
    refine ⟨⟨decide_eq_true (by omega), decide_eq_true (by omega)⟩, fun b hb => ?_⟩
    obtain ⟨c, hc, rfl⟩ := List.mem_map.mp hb
    exact (k c).mpr (h2 c hc)
theorem valL_snoc (l : List Nat) (c : Nat) : valL (l ++ [c]) = valL l * 10 + ((c : Int) - 48) := by
  unfold valL
  rw [List.foldl_append]
  rfl
theorem snoc_or (l : List Nat) : l = [] ∨ ∃ m c, l = m ++ [c] := by
  rcases List.eq_nil_or_concat l with h | ⟨m, c, h⟩
  · exact .inl h
  · exact .inr ⟨m, c, by rw [h, List.concat_eq_append]⟩
theorem valL_bound : ∀ (n : Nat) (l : List Nat), l.length = n → (∀ c ∈ l, 48 ≤ c ∧ c ≤ 57) → 0 ≤ valL l ∧ valL l < 10 ^ n := by
  intro n
  induction n with
  | zero =>
    intro l hl _
    rw [List.eq_nil_of_length_eq_zero hl]
    exact ⟨Int.le_refl 0, by decide⟩
  | succ n ih =>
    intro l hl h
    rcases snoc_or l with rfl | ⟨m, c, rfl⟩
    · cases hl
    · rw [List.length_append, List.length_singleton] at hl
      have h1 := ih m (by omega) fun x hx => h x (List.mem_append_left _ hx)
      have h2 := h c (List.mem_append_right _ List.mem_cons_self)
      rw [valL_snoc]
      have e : (10 : Int) ^ (n + 1) = 10 ^ n * 10 := Int.pow_succ 10 n
      omega
/-- figures without a nought ahead are the text of their number -/
theorem canon : ∀ (n : Nat) (l : List Nat), l.length = n → l ≠ [] → (∀ c ∈ l, 48 ≤ c ∧ c ≤ 57) → (l.head? = some 48 → l = [48]) → TL.numL (valL l).toNat = l := by
  intro n
  induction n with
  | zero => exact fun l hl ne => absurd (List.eq_nil_of_length_eq_zero hl) ne
  | succ n ih =>
    intro l hl ne h hd
    rcases snoc_or l with rfl | ⟨m, c, rfl⟩
    · exact absurd rfl ne
    · rw [List.length_append, List.length_singleton] at hl
      have hc := h c (List.mem_append_right _ List.mem_cons_self)
      have hm : ∀ x ∈ m, 48 ≤ x ∧ x ≤ 57 := fun x hx => h x (List.mem_append_left _ hx)
      rw [valL_snoc]
      cases m with
      | nil =>
        have e : (valL [] * 10 + ((c : Int) - 48)).toNat = c - 48 := by
          show ((0 : Int) * 10 + ((c : Int) - 48)).toNat = c - 48
          omega
        rw [e, TL.numL_lt (by omega)]
        show [48 + (c - 48)] = [c]
        rw [show 48 + (c - 48) = c by omega]
      | cons d m =>
        have hd2 : (d :: m).head? = some 48 → (d :: m) = [48] := fun e => by
          have e2 : ((d :: m) ++ [c]).head? = some 48 := e
          have := hd e2
          have := congrArg List.length this
          rw [List.length_append, List.length_cons, List.length_singleton, List.length_singleton] at this
          omega
        have nd : d ≠ 48 := fun e => by
          have := hd (by rw [e]; rfl)
          have := congrArg List.length this
          rw [List.length_append, List.length_cons, List.length_singleton, List.length_singleton] at this
          omega
        have ih2 := ih (d :: m) (by omega) (List.cons_ne_nil _ _) hm hd2
        have b := valL_bound n (d :: m) (by omega) hm
        have pos : 1 ≤ valL (d :: m) := by
          refine Int.not_lt.mp fun lt => ?_
          have z : valL (d :: m) = 0 := by omega
          rw [z] at ih2
          have ih2 : TL.numL 0 = d :: m := ih2
          rw [TL.numL_lt (by decide)] at ih2
          exact nd (List.cons.inj ih2).1.symm
        have e : (valL (d :: m) * 10 + ((c : Int) - 48)).toNat = (valL (d :: m)).toNat * 10 + (c - 48) := by omega
        rw [e, TL.numL_step (by omega)]
        rw [show ((valL (d :: m)).toNat * 10 + (c - 48)) / 10 = (valL (d :: m)).toNat by omega, show ((valL (d :: m)).toNat * 10 + (c - 48)) % 10 = c - 48 by omega, ih2]
        show d :: m ++ [48 + (c - 48)] = d :: m ++ [c]
        rw [show 48 + (c - 48) = c by omega]
theorem starts0 {z : Str} : Txt.startswith z "0" = true ↔ (TL.tl z).head? = some 48 := by
  unfold Txt.startswith
  rw [Bool.and_eq_true]
  have h := StrLaws.subAt_one z 48 0
  rw [List.head?_eq_getElem?]
  constructor
  · rintro ⟨h1, h2⟩
    exact h.mp ⟨of_decide_eq_true h1, h2⟩
  · intro e
    have := h.mpr e
    exact ⟨decide_eq_true this.1, this.2⟩
/-- str(int(z)) == z, of figures: no nought ahead -/
theorem canonZ {z : Str} (h : figs z = true) : decide (num (valZ z).toNat = z) = !lead z := by
  obtain ⟨h1, h2⟩ := figs_iff.mp h
  have ne : TL.tl z ≠ [] := fun e => h1 (by show (TL.tl z).length = 0; rw [e]; rfl)
  unfold lead
  cases e : Txt.startswith z "0" with
  | false =>
    rw [Bool.false_and, Bool.not_false]
    refine decide_eq_true ?_
    have hd : (TL.tl z).head? = some 48 → TL.tl z = [48] := fun w => by rw [starts0.mpr w] at e; cases e
    rw [num_S, valZ, canon _ _ rfl ne h2 hd]
    first | done | exact SX.S_tl z
  | true =>
    rw [Bool.true_and, Bool.not_not]
    by_cases q : z = "0"
    · subst q
      rw [decide_eq_true rfl]
      decide +kernel
    · rw [decide_eq_false q]
      refine decide_eq_false fun w => q ?_
      have e2 := starts0.mp e
      have e3 : TL.numL (valZ z).toNat = TL.tl z := by rw [← num_tl, w]
      rw [← e3, List.head?_eq_getElem?] at e2
      have z0 : (valZ z).toNat = 0 := by
        by_cases z0 : (valZ z).toNat = 0
        · exact z0
        · exact absurd e2 (num_head _ z0)
      rw [z0] at w
      rw [← w]
      decide +kernel
def isNumB (z : Str) (n : Int) : Bool := mWhole (numD z) n
theorem isNumB_eq {z : Str} {n : Int} : isNumB z n = (figs z && (!lead z && decide (n ≤ valZ z))) := by
  unfold isNumB numD
  cases e : figs z with
  | false => rw [if_neg (by intro h; cases h.1)]; rfl
  | true =>
    cases e2 : lead z with
    | true => rw [if_neg (by intro h; cases h.2)]; rfl
    | false => rw [if_pos ⟨rfl, rfl⟩]; rfl
/-! ### the thing that words tell -/
def wAt (W : List Str) (i : Nat) : Str := W.getD i ""
def toldD (W : List Str) : PyData :=
  if wAt W 0 = "echo" ∧ W.length = 6 then .tuple [.str (wAt W 0), .str (wAt W 1), .str (wAt W 2), .str (wAt W 3), .tuple [.str (wAt W 4), numD (wAt W 5)]]
  else if wAt W 0 = "answer" ∧ W.length = 7 then .tuple [.str (wAt W 0), .str (wAt W 1), .str (wAt W 2), .tuple [.str (wAt W 3), numD (wAt W 4)], .tuple [.str (wAt W 5), numD (wAt W 6)]]
  else if wAt W 0 = "goer" ∧ 3 ≤ W.length then .tuple [.str (wAt W 0), .str (wAt W 1), numD (wAt W 2), .tuple ((W.drop 3).map PyData.str)]
  else .tuple (W.map PyData.str)
def okS (w : Str) (c : Nat) : Bool :=
  if c = 48 ∨ c = 49 ∨ c = 50 then isNumB w ((c : Int) - 48) else if c = 110 then mName (.str w) else if c = 119 then mWord (.str w) else if c = 115 then decide (w ∈ sorts) else true
def areB (R : List Str) (S : List Nat) : Bool := decide (R.length = S.length) && (R.zip S).all fun p => okS p.1 p.2
def shutB (zs : List Str) : Bool := areB zs (List.replicate zs.length 110) && (List.range zs.length).all (newAt zs)
def nnw : List Nat := [110, 110, 119]
def nnsn0 : List Nat := [110, 110, 115, 110, 48]
def nsn0n1 : List Nat := [110, 115, 110, 48, 110, 49]
def n2 : List Nat := [110, 50]
/-- the law's own reading -/
def dueD (W : List Str) : Option PyData :=
  if wAt W 0 = "letter" ∧ areB (W.drop 1) nnw = true then some (.tuple [.str "letter", .str (wAt W 1), .str (wAt W 2), .str (wAt W 3)])
  else if wAt W 0 = "echo" ∧ areB (W.drop 1) nnsn0 = true then some (.tuple [.str "echo", .str (wAt W 1), .str (wAt W 2), .str (wAt W 3), .tuple [.str (wAt W 4), .int (valZ (wAt W 5))]])
  else if wAt W 0 = "answer" ∧ areB (W.drop 1) nsn0n1 = true then some (.tuple [.str "answer", .str (wAt W 1), .str (wAt W 2), .tuple [.str (wAt W 3), .int (valZ (wAt W 4))], .tuple [.str (wAt W 5), .int (valZ (wAt W 6))]])
  else if wAt W 0 = "goer" ∧ areB ((W.drop 1).take 2) n2 = true ∧ shutB ((W.drop 1).drop 2) = true then some (.tuple [.str "goer", .str (wAt W 1), .int (valZ (wAt W 2)), .tuple (((W.drop 1).drop 2).map PyData.str)])
  else none
theorem isNumB_val {z : Str} {n : Int} (h : isNumB z n = true) : numD z = .int (valZ z) := by
  rw [isNumB_eq, Bool.and_eq_true, Bool.and_eq_true] at h
  unfold numD
  rw [if_pos ⟨h.1, by simpa using h.2.1⟩]
theorem sort_iff {s : Str} : mSort (.str s) = decide (s ∈ sorts) := by
  by_cases h : s ∈ sorts
  · rw [sort_m h, decide_eq_true h]
  · rw [decide_eq_false h]
    unfold mSort
    rw [Bool.and_eq_false_iff]
    refine .inr (Bool.eq_false_iff.mpr fun w => h ?_)
    obtain ⟨y, hy, e⟩ := List.any_eq_true.mp w
    have e : (s == y) = true := e
    rw [eq_of_beq e]
    exact hy
theorem begins_other {k z : Str} {ds : List PyData} {n : Int} (h : k ≠ z) : mBegins (.tuple (.str k :: ds)) z n = false := by
  show (lenD (.tuple (.str k :: ds)) n && (mName (.str k) && (k == z))) = false
  rw [show (k == z) = false from beq_eq_false_iff_ne.mpr h, Bool.and_false, Bool.and_false]
theorem begins_same {k : Str} {ds : List PyData} {n : Int} (hk : mName (.str k) = true) : mBegins (.tuple (.str k :: ds)) k n = decide (((ds.length + 1 : Nat) : Int) = n) := by
  show (decide (((ds.length + 1 : Nat) : Int) = n) && (mName (.str k) && (k == k))) = _
  rw [hk, beq_self_eq_true, Bool.and_true, Bool.and_true]
section
variable {ds : List PyData} {k : Str}
theorem thing_letter' : mThing (.tuple (.str "letter" :: ds)) = mLetter (.tuple (.str "letter" :: ds)) := by
  unfold mThing mParcel mEcho mAnswer mGoer
  rw [begins_other (by decide +kernel), begins_other (by decide +kernel), begins_other (by decide +kernel), Bool.false_and, Bool.false_and, Bool.false_and, Bool.or_false, Bool.or_false, Bool.or_false]
theorem thing_echo' : mThing (.tuple (.str "echo" :: ds)) = mEcho (.tuple (.str "echo" :: ds)) := by
  unfold mThing mParcel mLetter mAnswer mGoer
  rw [begins_other (by decide +kernel), begins_other (by decide +kernel), begins_other (by decide +kernel), Bool.false_and, Bool.false_and, Bool.false_and, Bool.false_or, Bool.or_false, Bool.or_false]
theorem thing_answer' : mThing (.tuple (.str "answer" :: ds)) = mAnswer (.tuple (.str "answer" :: ds)) := by
  unfold mThing mParcel mLetter mEcho mGoer
  rw [begins_other (by decide +kernel), begins_other (by decide +kernel), begins_other (by decide +kernel), Bool.false_and, Bool.false_and, Bool.false_and, Bool.false_or, Bool.or_false, Bool.false_or]
theorem thing_goer' : mThing (.tuple (.str "goer" :: ds)) = mGoer (.tuple (.str "goer" :: ds)) := by
  unfold mThing mParcel mLetter mEcho mAnswer
  rw [begins_other (by decide +kernel), begins_other (by decide +kernel), begins_other (by decide +kernel), Bool.false_and, Bool.false_and, Bool.false_and, Bool.false_or, Bool.false_or, Bool.false_or]
theorem thing_none' (h1 : k ≠ "letter") (h2 : k ≠ "echo") (h3 : k ≠ "answer") (h4 : k ≠ "goer") : mThing (.tuple (.str k :: ds)) = false := by
  unfold mThing mParcel mLetter mEcho mAnswer mGoer
  rw [begins_other h1, begins_other h2, begins_other h3, begins_other h4]
  rfl
end
theorem ifb {α : Type} {a b : Bool} {x y z : α} (h : a = b) : (if a = true then x else y) = (if b = true then x else y) := by rw [h]
theorem areB_len {R : List Str} {S : List Nat} (h : R.length ≠ S.length) : areB R S = false := by
  unfold areB
  rw [decide_eq_false h, Bool.false_and]
theorem num_pair {w z : Str} {n : Int} : mPair (.tuple [.str w, numD z]) n = (mName (.str w) && isNumB z n) := rfl
theorem str_pair {w : Str} {n : Int} : mPair (.str w) n = false := rfl
theorem areB_true {R : List Str} {S : List Nat} (h : areB R S = true) : R.length = S.length := of_decide_eq_true (Bool.and_eq_true_iff.mp h).1
theorem kL : mName (.str "letter") = true := (kinds_name _ (by decide +kernel)).1
theorem kE : mName (.str "echo") = true := (kinds_name _ (by decide +kernel)).1
theorem kA : mName (.str "answer") = true := (kinds_name _ (by decide +kernel)).1
theorem kG : mName (.str "goer") = true := (kinds_name _ (by decide +kernel)).1
theorem m_letter (r : List Str) : mLetter (.tuple (.str "letter" :: r.map PyData.str)) = areB r nnw := by
  by_cases hl : r.length = 3
  · match r, hl with
    | [a, b, w], _ =>
    unfold mLetter
    rw [begins_same kL]
    show (true && (mName (.str a) && (mName (.str b) && mWord (.str w)))) = (true && (mName (.str a) && (mName (.str b) && (mWord (.str w) && true))))
    rw [Bool.and_true]
  · rw [areB_len hl]
    unfold mLetter
    rw [begins_same kL, decide_eq_false (by rw [List.length_map]; omega), Bool.false_and]
theorem m_echo5 (a b s m n : Str) : mEcho (.tuple [.str "echo", .str a, .str b, .str s, .tuple [.str m, numD n]]) = areB [a, b, s, m, n] nnsn0 := by
  unfold mEcho
  rw [begins_same kE]
  show (true && (mName (.str a) && (mName (.str b) && (mSort (.str s) && (mName (.str m) && isNumB n 0))))) = (true && (mName (.str a) && (mName (.str b) && (decide (s ∈ sorts) && (mName (.str m) && (isNumB n 0 && true))))))
  rw [Bool.and_true, sort_iff]
theorem m_echoX {r : List Str} : mEcho (.tuple (.str "echo" :: r.map PyData.str)) = false := by
  unfold mEcho
  rw [begins_same kE]
  by_cases hl : r.length = 4
  · match r, hl with
    | [a, b, s, m], _ =>
    show (true && (mName (.str a) && (mName (.str b) && (mSort (.str s) && false)))) = false
    rw [Bool.and_false, Bool.and_false, Bool.and_false, Bool.and_false]
  · rw [decide_eq_false (by rw [List.length_map]; omega), Bool.false_and]
theorem m_answer6 (a s m n h k : Str) : mAnswer (.tuple [.str "answer", .str a, .str s, .tuple [.str m, numD n], .tuple [.str h, numD k]]) = areB [a, s, m, n, h, k] nsn0n1 := by
  unfold mAnswer
  rw [begins_same kA]
  show (true && (mName (.str a) && (mSort (.str s) && ((mName (.str m) && isNumB n 0) && (mName (.str h) && isNumB k 1))))) = (true && (mName (.str a) && (decide (s ∈ sorts) && (mName (.str m) && (isNumB n 0 && (mName (.str h) && (isNumB k 1 && true)))))))
  rw [Bool.and_true, sort_iff, Bool.and_assoc (mName (.str m))]
theorem m_answerX {r : List Str} : mAnswer (.tuple (.str "answer" :: r.map PyData.str)) = false := by
  unfold mAnswer
  rw [begins_same kA]
  by_cases hl : r.length = 4
  · match r, hl with
    | [a, s, m, n], _ =>
    show (true && (mName (.str a) && (mSort (.str s) && (false && false)))) = false
    rw [Bool.and_false, Bool.and_false, Bool.and_false, Bool.and_false]
  · rw [decide_eq_false (by rw [List.length_map]; omega), Bool.false_and]
theorem zip_rep : ∀ zs : List Str, ((zs.zip (List.replicate zs.length 110)).all fun p => okS p.1 p.2) = zs.all fun z => mName (.str z)
  | [] => rfl
  | z :: l => by
    rw [List.length_cons, List.replicate_succ, List.zip_cons_cons, List.all_cons, List.all_cons, zip_rep l]
    rfl
theorem m_shut (zs : List Str) : mShut (.tuple (zs.map PyData.str)) = shutB zs := by
  unfold shutB areB
  rw [zip_rep, decide_eq_true (by rw [List.length_replicate]), Bool.true_and]
  show ((zs.map PyData.str).all mName && decide (distinct (taken (strsOf (zs.map PyData.str)) (strsOf (zs.map PyData.str)).length) = (strsOf (zs.map PyData.str)).length)) = _
  rw [strsOf_map, List.all_map]
  have e2 : taken zs zs.length = zs.reverse := by
    unfold taken
    rw [List.take_of_length_le (Nat.le_refl _)]
  rw [e2]
  have e3 : decide (distinct zs.reverse = zs.length) = (List.range zs.length).all (newAt zs) := by
    refine Bool.eq_iff_iff.mpr ?_
    rw [decide_eq_true_eq, news_nodup, ← List.length_reverse, distinct_nodup]
    constructor
    · intro h
      have := List.pairwise_reverse.mpr (h.imp Ne.symm)
      rw [List.reverse_reverse] at this
      exact this
    · intro h
      exact List.pairwise_reverse.mpr (h.imp Ne.symm)
  rw [e3]
  rfl
theorem m_goer (a n : Str) (zs : List Str) : mGoer (.tuple [.str "goer", .str a, numD n, .tuple (zs.map PyData.str)]) = (areB [a, n] n2 && shutB zs) := by
  unfold mGoer
  rw [begins_same kG, ← m_shut]
  show (true && (mName (.str a) && (isNumB n 2 && mShut (.tuple (zs.map PyData.str))))) = ((true && (mName (.str a) && (isNumB n 2 && true))) && mShut (.tuple (zs.map PyData.str)))
  rw [Bool.and_true, Bool.true_and, Bool.true_and, Bool.and_assoc]
theorem m_goerX {r : List Str} (h : r.length < 2) : mGoer (.tuple (.str "goer" :: r.map PyData.str)) = false := by
  unfold mGoer
  rw [begins_same kG, decide_eq_false (by rw [List.length_map]; omega), Bool.false_and]
theorem toldD_letter (r : List Str) : toldD ("letter" :: r) = .tuple (.str "letter" :: r.map PyData.str) := by
  unfold toldD
  rw [show wAt ("letter" :: r) 0 = "letter" from rfl, if_neg (fun w => absurd w.1 (by decide +kernel)), if_neg (fun w => absurd w.1 (by decide +kernel)), if_neg (fun w => absurd w.1 (by decide +kernel))]
  rfl
theorem toldD_echo5 (a b s m n : Str) : toldD ["echo", a, b, s, m, n] = .tuple [.str "echo", .str a, .str b, .str s, .tuple [.str m, numD n]] := by
  unfold toldD
  rw [if_pos ⟨rfl, rfl⟩]
  rfl
theorem toldD_echoX {r : List Str} (h : r.length ≠ 5) : toldD ("echo" :: r) = .tuple (.str "echo" :: r.map PyData.str) := by
  unfold toldD
  rw [show wAt ("echo" :: r) 0 = "echo" from rfl, if_neg (fun w => h (by have := w.2; rw [List.length_cons] at this; omega)), if_neg (fun w => absurd w.1 (by decide +kernel)), if_neg (fun w => absurd w.1 (by decide +kernel))]
  rfl
theorem toldD_answer6 (a s m n h k : Str) : toldD ["answer", a, s, m, n, h, k] = .tuple [.str "answer", .str a, .str s, .tuple [.str m, numD n], .tuple [.str h, numD k]] := by
  unfold toldD
  rw [show wAt ["answer", a, s, m, n, h, k] 0 = "answer" from rfl, if_neg (fun w => absurd w.1 (by decide +kernel)), if_pos ⟨rfl, rfl⟩]
  rfl
theorem toldD_answerX {r : List Str} (h : r.length ≠ 6) : toldD ("answer" :: r) = .tuple (.str "answer" :: r.map PyData.str) := by
  unfold toldD
  rw [show wAt ("answer" :: r) 0 = "answer" from rfl, if_neg (fun w => absurd w.1 (by decide +kernel)), if_neg (fun w => h (by have := w.2; rw [List.length_cons] at this; omega)), if_neg (fun w => absurd w.1 (by decide +kernel))]
  rfl
theorem toldD_goer (a n : Str) (zs : List Str) : toldD ("goer" :: a :: n :: zs) = .tuple [.str "goer", .str a, numD n, .tuple (zs.map PyData.str)] := by
  unfold toldD
  rw [show wAt ("goer" :: a :: n :: zs) 0 = "goer" from rfl, if_neg (fun w => absurd w.1 (by decide +kernel)), if_neg (fun w => absurd w.1 (by decide +kernel)), if_pos ⟨rfl, by rw [List.length_cons, List.length_cons, List.length_cons]; omega⟩]
  rfl
theorem toldD_goerX {r : List Str} (h : r.length < 2) : toldD ("goer" :: r) = .tuple (.str "goer" :: r.map PyData.str) := by
  unfold toldD
  rw [show wAt ("goer" :: r) 0 = "goer" from rfl, if_neg (fun w => absurd w.1 (by decide +kernel)), if_neg (fun w => absurd w.1 (by decide +kernel)), if_neg (fun w => by have := w.2; rw [List.length_cons] at this; omega)]
  rfl
theorem toldD_none {k : Str} {r : List Str} (h2 : k ≠ "echo") (h3 : k ≠ "answer") (h4 : k ≠ "goer") : toldD (k :: r) = .tuple (.str k :: r.map PyData.str) := by
  unfold toldD
  rw [show wAt (k :: r) 0 = k from rfl, if_neg (fun w => h2 w.1), if_neg (fun w => h3 w.1), if_neg (fun w => h4 w.1)]
  rfl
section
variable (r : List Str)
theorem dueD_letter : dueD ("letter" :: r) = if areB r nnw = true then some (.tuple [.str "letter", .str (wAt ("letter" :: r) 1), .str (wAt ("letter" :: r) 2), .str (wAt ("letter" :: r) 3)]) else none := by
  unfold dueD
  rw [show wAt ("letter" :: r) 0 = "letter" from rfl, show List.drop 1 (("letter" : Str) :: r) = r from rfl]
  cases hb : areB r nnw with
  | true => rw [if_pos ⟨rfl, rfl⟩, if_pos rfl]
  | false => rw [if_neg (fun w => by cases w.2), if_neg (fun w => absurd w.1 (by decide +kernel)), if_neg (fun w => absurd w.1 (by decide +kernel)), if_neg (fun w => absurd w.1 (by decide +kernel)), if_neg (by decide)]
theorem dueD_echo : dueD ("echo" :: r) = if areB r nnsn0 = true then some (.tuple [.str "echo", .str (wAt ("echo" :: r) 1), .str (wAt ("echo" :: r) 2), .str (wAt ("echo" :: r) 3), .tuple [.str (wAt ("echo" :: r) 4), .int (valZ (wAt ("echo" :: r) 5))]]) else none := by
  unfold dueD
  rw [show wAt ("echo" :: r) 0 = "echo" from rfl, show List.drop 1 (("echo" : Str) :: r) = r from rfl, if_neg (fun w => absurd w.1 (by decide +kernel))]
  cases hb : areB r nnsn0 with
  | true => rw [if_pos ⟨rfl, rfl⟩, if_pos rfl]
  | false => rw [if_neg (fun w => by cases w.2), if_neg (fun w => absurd w.1 (by decide +kernel)), if_neg (fun w => absurd w.1 (by decide +kernel)), if_neg (by decide)]
theorem dueD_answer : dueD ("answer" :: r) = if areB r nsn0n1 = true then some (.tuple [.str "answer", .str (wAt ("answer" :: r) 1), .str (wAt ("answer" :: r) 2), .tuple [.str (wAt ("answer" :: r) 3), .int (valZ (wAt ("answer" :: r) 4))], .tuple [.str (wAt ("answer" :: r) 5), .int (valZ (wAt ("answer" :: r) 6))]]) else none := by
  unfold dueD
  rw [show wAt ("answer" :: r) 0 = "answer" from rfl, show List.drop 1 (("answer" : Str) :: r) = r from rfl, if_neg (fun w => absurd w.1 (by decide +kernel)), if_neg (fun w => absurd w.1 (by decide +kernel))]
  cases hb : areB r nsn0n1 with
  | true => rw [if_pos ⟨rfl, rfl⟩, if_pos rfl]
  | false => rw [if_neg (fun w => by cases w.2), if_neg (fun w => absurd w.1 (by decide +kernel)), if_neg (by decide)]
theorem dueD_goer : dueD ("goer" :: r) = if (areB (r.take 2) n2 && shutB (r.drop 2)) = true then some (.tuple [.str "goer", .str (wAt ("goer" :: r) 1), .int (valZ (wAt ("goer" :: r) 2)), .tuple ((r.drop 2).map PyData.str)]) else none := by
  unfold dueD
  rw [show wAt ("goer" :: r) 0 = "goer" from rfl, show List.drop 1 (("goer" : Str) :: r) = r from rfl, if_neg (fun w => absurd w.1 (by decide +kernel)), if_neg (fun w => absurd w.1 (by decide +kernel)), if_neg (fun w => absurd w.1 (by decide +kernel))]
  cases hb : areB (r.take 2) n2 with
  | false => rw [if_neg (fun w => by cases w.2.1), Bool.false_and, if_neg (by decide)]
  | true =>
    cases hs : shutB (r.drop 2) with
    | true => rw [if_pos ⟨rfl, rfl, rfl⟩, Bool.and_true, if_pos rfl]
    | false => rw [if_neg (fun w => by cases w.2.2), Bool.and_false, if_neg (by decide)]
theorem dueD_none {k : Str} (h1 : k ≠ "letter") (h2 : k ≠ "echo") (h3 : k ≠ "answer") (h4 : k ≠ "goer") : dueD (k :: r) = none := by
  unfold dueD
  rw [show wAt (k :: r) 0 = k from rfl, if_neg (fun w => h1 w.1), if_neg (fun w => h2 w.1), if_neg (fun w => h3 w.1), if_neg (fun w => h4 w.1)]
end
/-- the law's look is the code's -/
theorem due_told {W : List Str} (ne : W ≠ []) : dueD W = if mThing (toldD W) = true then some (toldD W) else none := by
  match W, ne with
  | k :: r, _ =>
  by_cases h1 : k = "letter"
  · subst h1
    rw [dueD_letter, toldD_letter, thing_letter', m_letter]
    cases hb : areB r nnw with
    | false => rfl
    | true =>
      match r, areB_true hb with
      | [a, b, w], _ => rfl
  by_cases h2 : k = "echo"
  · subst h2
    rw [dueD_echo]
    by_cases hl : r.length = 5
    · match r, hl with
      | [a, b, s, m, n], _ =>
      rw [toldD_echo5, thing_echo', m_echo5]
      cases hb : areB [a, b, s, m, n] nnsn0 with
      | false => rfl
      | true =>
        have hn : isNumB n 0 = true := by
          have := hb
          unfold areB nnsn0 at this
          rw [Bool.and_eq_true, List.all_eq_true] at this
          exact this.2 (n, 48) (by simp)
        rw [isNumB_val hn]
        rfl
    · rw [areB_len hl, toldD_echoX hl, thing_echo', m_echoX]
      rfl
  by_cases h3 : k = "answer"
  · subst h3
    rw [dueD_answer]
    by_cases hl : r.length = 6
    · match r, hl with
      | [a, s, m, n, h, k2], _ =>
      rw [toldD_answer6, thing_answer', m_answer6]
      cases hb : areB [a, s, m, n, h, k2] nsn0n1 with
      | false => rfl
      | true =>
        have hh := hb
        unfold areB nsn0n1 at hh
        rw [Bool.and_eq_true, List.all_eq_true] at hh
        have hn : isNumB n 0 = true := hh.2 (n, 48) (by simp)
        have hk : isNumB k2 1 = true := hh.2 (k2, 49) (by simp)
        rw [isNumB_val hn, isNumB_val hk]
        rfl
    · rw [areB_len hl, toldD_answerX hl, thing_answer', m_answerX]
      rfl
  by_cases h4 : k = "goer"
  · subst h4
    rw [dueD_goer]
    by_cases hl : r.length < 2
    · rw [toldD_goerX hl, thing_goer', m_goerX hl, areB_len (by rw [List.length_take]; have e : n2.length = 2 := rfl; omega)]
      rfl
    · match r, hl with
      | [], h => exact absurd (show 0 < 2 by decide) h
      | [_], h => exact absurd (show 1 < 2 by decide) h
      | a :: n :: zs, _ =>
      rw [toldD_goer, thing_goer', m_goer, show (a :: n :: zs).take 2 = [a, n] from rfl, show (a :: n :: zs).drop 2 = zs from rfl]
      cases hb : areB [a, n] n2 with
      | false => rfl
      | true =>
        have hn : isNumB n 2 = true := by
          have := hb
          unfold areB n2 at this
          rw [Bool.and_eq_true, List.all_eq_true] at this
          exact this.2 (n, 50) (by simp)
        rw [isNumB_val hn]
        rfl
  rw [dueD_none r h1 h2 h3 h4, toldD_none h2 h3 h4, thing_none' h1 h2 h3 h4]
  rfl
theorem kn (s : Str) (h : s ∈ (["letter", "echo", "answer", "goer"] : List Str)) : mName (.str s) = true := (kinds_name s h).1
end Gj

namespace Gj
open PySem PySem.Spec PyProof.Rows L2
open C8 (Cal pe_c pe_gc)
/-! ### sizes of joined texts -/
def tot (W : List Str) : Nat := (W.map (·.length)).sum + W.length
theorem tot_nil : tot [] = 0 := rfl
theorem tot_cons (z : Str) (W : List Str) : tot (z :: W) = z.length + 1 + tot W := by
  unfold tot
  rw [List.map_cons, List.sum_cons, List.length_cons]
  omega
theorem tot_append : ∀ (A B : List Str), tot (A ++ B) = tot A + tot B
  | [], B => by rw [List.nil_append, tot_nil, Nat.zero_add]
  | a :: A, B => by
    rw [List.cons_append, tot_cons, tot_cons, tot_append A B]
    omega
theorem tot_cut (W : List Str) (k : Nat) : tot (W.take k) + tot (W.drop k) = tot W := by rw [← tot_append, List.take_append_drop]
theorem tot_drop1 (W : List Str) (k : Nat) : tot (W.drop (k + 1)) ≤ tot (W.drop k) := by
  have h := tot_cut (W.drop k) 1
  rw [List.drop_drop] at h
  omega
theorem tot_mem : ∀ {W : List Str} {x : Str}, x ∈ W → x.length + 1 ≤ tot W
  | z :: W, x, m => by
    rw [tot_cons]
    rcases List.mem_cons.mp m with rfl | m
    · omega
    · have := tot_mem m
      omega
theorem tot_set : ∀ {W : List Str} {i : Nat} {y x : Str}, W[i]? = some y → tot (W.set i x) + y.length = tot W + x.length
  | [], i, y, x, h => by cases h
  | z :: W, 0, y, x, h => by
    cases h
    rw [List.set_cons_zero, tot_cons, tot_cons]
    omega
  | z :: W, i + 1, y, x, h => by
    have := tot_set (x := x) (show W[i]? = some y from h)
    rw [List.set_cons_succ, tot_cons, tot_cons]
    omega
theorem tot_join : ∀ W : List Str, tot W ≤ (Str.join " " W).length + 1
  | [] => Nat.zero_le _
  | [x] => by
    rw [tot_cons, tot_nil]
    exact Nat.le_refl _
  | x :: z :: r => by
    have := tot_join (z :: r)
    have e : (" " : Str).length = 1 := by decide +kernel
    rw [tot_cons]
    show _ ≤ (x ++ " " ++ Str.join " " (z :: r)).length + 1
    rw [Str.length_append, Str.length_append, e]
    omega
theorem tot_split (z : Str) : tot (Txt.split z " ") ≤ z.length + 1 := by
  have := tot_join (Txt.split z " ")
  rw [StrLaws.join_split] at this
  exact this
theorem join_tot (W : List Str) : (Txt.join " " W).length ≤ tot W := by
  have e : (" " : Str).length = 1 := by decide +kernel
  have := StrLaws.join_length_le " " W
  rw [e, Nat.mul_one] at this
  rw [TL.join_eq]
  exact this
theorem join_fits {W : List Str} (h : tot W ≤ 5000) : (W.map (·.length)).sum + W.length * (" " : Str).length ≤ sizeLine := by
  have e : (" " : Str).length = 1 := by decide +kernel
  have sz : sizeLine = 16777216 := sizeLine_eq
  unfold tot at h
  rw [e, Nat.mul_one]
  omega
theorem split_pos (z : Str) : 0 < (Txt.split z " ").length := by
  have h := TL.split_spl z " " (by decide +kernel) (TL.kind_ok (by decide +kernel))
  have e := congrArg List.length h
  rw [List.length_map] at e
  rw [e]
  generalize TL.tl z = l
  suffices hh : ∀ (l acc : List Nat), 0 < (TL.spl (TL.tl " ") 0 acc l).length from hh l []
  intro l
  induction l with
  | nil => intro acc; rw [TL.spl_nil]; exact Nat.zero_lt_one
  | cons c r ih =>
    intro acc
    cases hp : TL.pre (TL.tl " ") (c :: r) with
    | true => rw [TL.spl_hit hp]; exact Nat.succ_pos _
    | false => rw [TL.spl_miss hp]; exact ih _
end Gj

/-! the mathematics of shelves: rows by numbers, those of one number in order -/
namespace Gj
open PySem
/-- a number and a parcel -/
abbrev Row : Type := Int × PyData
def keyB (n : Int) (r : Row) : Bool := decide (r.1 = n)
/-- T is K by numbers, those of one number in order -/
structure Std (T K : List Row) : Prop where
  ord : T.Pairwise fun a b => a.1 ≤ b.1
  fil : ∀ n : Int, T.filter (keyB n) = K.filter (keyB n)
theorem keyB_self (r : Row) : keyB r.1 r = true := decide_eq_true rfl
theorem keyB_ne {r : Row} {n : Int} (h : r.1 ≠ n) : keyB n r = false := decide_eq_false h
theorem fil_nil {T : List Row} (h : ∀ n : Int, T.filter (keyB n) = []) : T = [] := by
  cases T with
  | nil => rfl
  | cons x t =>
    have := h x.1
    rw [List.filter_cons, if_pos (keyB_self x)] at this
    cases this
theorem ord_unique : ∀ {T U : List Row}, (T.Pairwise fun a b => a.1 ≤ b.1) → (U.Pairwise fun a b => a.1 ≤ b.1) → (∀ n : Int, T.filter (keyB n) = U.filter (keyB n)) → T = U
  | [], U, _, _, e => (fil_nil fun n => (e n).symm).symm
  | x :: t, [], _, _, e => fil_nil e
  | x :: t, y :: u, h1, h2, e => by
    obtain ⟨a1, a2⟩ := List.pairwise_cons.mp h1
    obtain ⟨b1, b2⟩ := List.pairwise_cons.mp h2
    have mx : x ∈ y :: u := by
      have : x ∈ (y :: u).filter (keyB x.1) := by rw [← e]; exact List.mem_filter.mpr ⟨List.mem_cons_self, keyB_self x⟩
      exact (List.mem_filter.mp this).1
    have my : y ∈ x :: t := by
      have : y ∈ (x :: t).filter (keyB y.1) := by rw [e]; exact List.mem_filter.mpr ⟨List.mem_cons_self, keyB_self y⟩
      exact (List.mem_filter.mp this).1
    have l1 : y.1 ≤ x.1 := by
      rcases List.mem_cons.mp mx with h | h
      · rw [h]; exact Int.le_refl _
      · exact b1 x h
    have l2 : x.1 ≤ y.1 := by
      rcases List.mem_cons.mp my with h | h
      · rw [h]; exact Int.le_refl _
      · exact a1 y h
    have k : x.1 = y.1 := Int.le_antisymm l2 l1
    have e0 := e x.1
    rw [List.filter_cons, if_pos (keyB_self x), List.filter_cons, if_pos (by rw [k]; exact keyB_self y)] at e0
    have exy : x = y := (List.cons.inj e0).1
    subst exy
    refine congrArg (x :: ·) (ord_unique a2 b2 fun n => ?_)
    have en := e n
    rw [List.filter_cons, List.filter_cons] at en
    by_cases c : keyB n x = true
    · rw [if_pos c, if_pos c] at en
      exact (List.cons.inj en).2
    · rw [if_neg c, if_neg c] at en
      exact en
theorem Std.uniq {T U K : List Row} (h : Std T K) (g : Std U K) : T = U := ord_unique h.ord g.ord fun n => (h.fil n).trans (g.fil n).symm
theorem Std.nil : Std [] [] := ⟨.nil, fun _ => rfl⟩
/-! ### as the law tells it -/
def byNums (ns : List Int) (K : List Row) : List Row := ns.flatMap fun n => K.filter (keyB n)
theorem fil_two {K : List Row} {n m : Int} : (K.filter (keyB n)).filter (keyB m) = if n = m then K.filter (keyB m) else [] := by
  rw [List.filter_filter]
  by_cases h : n = m
  · subst h
    rw [if_pos rfl]
    exact congrFun (congrArg _ (funext fun r => Bool.and_self _)) _
  · rw [if_neg h]
    refine List.filter_eq_nil_iff.mpr fun r _ c => ?_
    obtain ⟨c1, c2⟩ := Bool.and_eq_true_iff.mp c
    exact h ((of_decide_eq_true c2).symm.trans (of_decide_eq_true c1))
theorem byNums_fil : ∀ {ns : List Int} {K : List Row} (m : Int), ns.Pairwise (· < ·) → (byNums ns K).filter (keyB m) = if m ∈ ns then K.filter (keyB m) else []
  | [], K, m, _ => by rw [if_neg (by simp)]; rfl
  | n :: ns, K, m, h => by
    obtain ⟨h1, h2⟩ := List.pairwise_cons.mp h
    show (K.filter (keyB n) ++ byNums ns K).filter (keyB m) = _
    rw [List.filter_append, fil_two, byNums_fil m h2]
    by_cases e : n = m
    · subst e
      rw [if_pos rfl, if_neg (fun c => Int.lt_irrefl _ (h1 n c)), List.append_nil, if_pos List.mem_cons_self]
    · rw [if_neg e, List.nil_append]
      by_cases c : m ∈ ns
      · rw [if_pos c, if_pos (List.mem_cons_of_mem _ c)]
      · rw [if_neg c, if_neg fun q => (List.mem_cons.mp q).elim (fun z => e z.symm) c]
theorem byNums_ord : ∀ {ns : List Int} {K : List Row}, ns.Pairwise (· < ·) → (byNums ns K).Pairwise fun a b => a.1 ≤ b.1
  | [], K, _ => .nil
  | n :: ns, K, h => by
    obtain ⟨h1, h2⟩ := List.pairwise_cons.mp h
    refine List.pairwise_append.mpr ⟨?_, byNums_ord h2, fun a ha b hb => ?_⟩
    · refine List.pairwise_iff_forall_sublist.mpr fun {a b} s => ?_
      have ma := (List.mem_filter.mp (s.subset (List.mem_cons_self))).2
      have mb := (List.mem_filter.mp (s.subset (List.mem_cons_of_mem _ List.mem_cons_self))).2
      rw [of_decide_eq_true ma, of_decide_eq_true mb]
      exact Int.le_refl _
    · have ma := of_decide_eq_true (List.mem_filter.mp ha).2
      obtain ⟨m, hm, hb⟩ := List.mem_flatMap.mp hb
      have mb := of_decide_eq_true (List.mem_filter.mp hb).2
      have := h1 m hm
      omega
theorem byNums_std {ns : List Int} {K : List Row} (h : ns.Pairwise (· < ·)) (hm : ∀ k : Int, k ∈ ns ↔ k ∈ K.map (·.1)) : Std (byNums ns K) K := by
  refine ⟨byNums_ord h, fun m => ?_⟩
  rw [byNums_fil m h]
  by_cases c : m ∈ ns
  · rw [if_pos c]
  · rw [if_neg c]
    refine (List.filter_eq_nil_iff.mpr fun r hr e => c ((hm m).mpr ?_)).symm
    rw [← of_decide_eq_true e]
    exact List.mem_map.mpr ⟨r, hr, rfl⟩
/-! ### split by a bound -/
theorem ord_split {p : Int → Bool} (hp : ∀ a b : Int, a ≤ b → p b = true → p a = true) : ∀ {T : List Row}, (T.Pairwise fun a b => a.1 ≤ b.1) → T = T.filter (fun r => p r.1) ++ T.filter fun r => !p r.1
  | [], _ => rfl
  | x :: t, h => by
    obtain ⟨h1, h2⟩ := List.pairwise_cons.mp h
    by_cases c : p x.1 = true
    · rw [List.filter_cons, if_pos c, List.filter_cons, if_neg (by rw [c]; decide), List.cons_append, ← ord_split hp h2]
    · have all : ∀ y ∈ t, p y.1 = false := fun y hy => by
        cases e : p y.1 with
        | false => rfl
        | true => exact absurd (hp _ _ (h1 y hy) e) c
      have e1 : (x :: t).filter (fun r => p r.1) = [] := List.filter_eq_nil_iff.mpr fun y hy => by
        rcases List.mem_cons.mp hy with e | e
        · rw [e]; exact c
        · rw [all y e]; decide
      have e2 : (x :: t).filter (fun r => !p r.1) = x :: t := List.filter_eq_self.mpr fun y hy => by
        rcases List.mem_cons.mp hy with e | e
        · rw [e, Bool.eq_false_iff.mpr c]; rfl
        · rw [all y e]; rfl
      rw [e1, e2]
      rfl
theorem le_down (n : Int) : ∀ a b : Int, a ≤ b → decide (b ≤ n) = true → decide (a ≤ n) = true := fun a b h1 h2 => decide_eq_true (Int.le_trans h1 (of_decide_eq_true h2))
theorem lt_down (n : Int) : ∀ a b : Int, a ≤ b → decide (b < n) = true → decide (a < n) = true := fun a b h1 h2 => decide_eq_true (Int.lt_of_le_of_lt h1 (of_decide_eq_true h2))
def ahead (n : Int) (T : List Row) : List Row := T.filter fun r => decide (r.1 ≤ n)
def below (n : Int) (T : List Row) : List Row := T.filter fun r => decide (r.1 < n)
theorem cut_at {α : Type} {T A B : List α} (h : T = A ++ B) : T.take A.length = A ∧ T.drop A.length = B := by
  subst h
  exact ⟨List.take_left .., List.drop_left ..⟩
/-- one more -/
def put1 (r : Row) (T : List Row) : List Row := T.take (ahead r.1 T).length ++ [r] ++ T.drop (ahead r.1 T).length
theorem Std.put {T K : List Row} {r : Row} (h : Std T K) : Std (put1 r T) (K ++ [r]) := by
  have sp := ord_split (le_down r.1) h.ord
  have et : T.take (ahead r.1 T).length = ahead r.1 T := (cut_at (A := ahead r.1 T) sp).1
  have ed : T.drop (ahead r.1 T).length = T.filter fun x => !decide (x.1 ≤ r.1) := (cut_at (A := ahead r.1 T) sp).2
  unfold put1
  rw [et, ed]
  have ho := h.ord
  rw [sp] at ho
  obtain ⟨o1, o2, o3⟩ := List.pairwise_append.mp ho
  have g1 : ∀ x ∈ ahead r.1 T, x.1 ≤ r.1 := fun x hx => of_decide_eq_true (List.mem_filter.mp hx).2
  have g2 : ∀ x ∈ T.filter (fun x => !decide (x.1 ≤ r.1)), r.1 < x.1 := fun x hx => by
    have := (List.mem_filter.mp hx).2
    by_cases c : x.1 ≤ r.1
    · rw [decide_eq_true c] at this; cases this
    · omega
  refine ⟨?_, fun n => ?_⟩
  · refine List.pairwise_append.mpr ⟨List.pairwise_append.mpr ⟨o1, List.pairwise_singleton _ _, fun a ha b hb => ?_⟩, o2, fun a ha b hb => ?_⟩
    · rw [List.mem_singleton.mp hb]; exact g1 a ha
    · rcases List.mem_append.mp ha with ha | ha
      · have := g1 a ha; have := g2 b hb; omega
      · rw [List.mem_singleton.mp ha]; have := g2 b hb; omega
  · rw [List.filter_append, List.filter_append, List.filter_append, ← h.fil n]
    conv => rhs; rw [sp, List.filter_append]
    show _ = (ahead r.1 T).filter (keyB n) ++ _ ++ _
    by_cases c : r.1 = n
    · have z : (T.filter fun x => !decide (x.1 ≤ r.1)).filter (keyB n) = [] := List.filter_eq_nil_iff.mpr fun x hx e => by
        have := g2 x hx
        have := of_decide_eq_true e
        omega
      rw [z, List.append_nil, List.append_nil]
    · have z : [r].filter (keyB n) = [] := by
        rw [List.filter_cons, if_neg (by rw [keyB_ne c]; decide)]; rfl
      rw [z, List.append_nil, List.append_nil]
/-- what may be taken -/
theorem Std.below_split {T K : List Row} (h : Std T K) (n : Int) : T = below n T ++ T.filter fun r => !decide (r.1 < n) := ord_split (lt_down n) h.ord
theorem ge_fil {T : List Row} (n : Int) : (T.filter fun r => !decide (r.1 < n)) = T.filter fun r => decide (r.1 ≥ n) := by
  congr 1
  funext r
  by_cases c : r.1 < n
  · rw [decide_eq_true c, decide_eq_false (show ¬ r.1 ≥ n by omega)]; rfl
  · rw [decide_eq_false c, decide_eq_true (show r.1 ≥ n by omega)]; rfl
theorem Std.take_none {T K : List Row} {n : Int} (h : Std T K) (e : (below n T).length = T.length) : (T.filter fun r => decide (r.1 ≥ n)) = [] := by
  have sp := h.below_split n
  rw [ge_fil] at sp
  have := congrArg List.length sp
  rw [List.length_append] at this
  exact List.length_eq_zero_iff.mp (by omega)
theorem Std.take_some {T K : List Row} {n : Int} (h : Std T K) (e : (below n T).length ≠ T.length) : ∃ x B, (T.filter fun r => decide (r.1 ≥ n)) = x :: B ∧ T[(below n T).length]? = some x ∧ T.eraseIdx (below n T).length = below n T ++ B ∧ x ∈ K := by
  have sp := h.below_split n
  rw [ge_fil] at sp
  cases eB : T.filter fun r => decide (r.1 ≥ n) with
  | nil =>
    rw [eB, List.append_nil] at sp
    exact absurd (congrArg List.length sp.symm) e
  | cons x B =>
    rw [eB] at sp
    refine ⟨x, B, rfl, ?_, ?_, ?_⟩
    · conv => lhs; arg 1; rw [sp]
      rw [List.getElem?_append_right (Nat.le_refl _), Nat.sub_self]
      rfl
    · conv => lhs; arg 1; rw [sp]
      rw [List.eraseIdx_append_of_length_le (Nat.le_refl _), Nat.sub_self]
      rfl
    · have : x ∈ K.filter (keyB x.1) := by
        rw [← h.fil]
        refine List.mem_filter.mpr ⟨?_, keyB_self x⟩
        rw [sp]
        exact List.mem_append_right _ List.mem_cons_self
      exact (List.mem_filter.mp this).1
/-- the first place of x -/
def firstAt (x : Row) (K : List Row) (k : Nat) : Prop := ∃ K1 K2, K = K1 ++ x :: K2 ∧ x ∉ K1 ∧ K1.length = k
theorem Std.took {T K : List Row} {n : Int} {x : Row} {B : List Row} {k : Nat} (h : Std T K) (e : (T.filter fun r => decide (r.1 ≥ n)) = x :: B) (f : firstAt x K k) : Std (below n T ++ B) (K.eraseIdx k) := by
  have sp := h.below_split n
  rw [ge_fil, e] at sp
  obtain ⟨K1, K2, rfl, hx, rfl⟩ := f
  have hn : x.1 ≥ n := of_decide_eq_true (List.mem_filter.mp (show x ∈ T.filter _ by rw [e]; exact List.mem_cons_self)).2
  have ho := h.ord
  rw [sp] at ho
  rw [List.eraseIdx_append_of_length_le (Nat.le_refl _), Nat.sub_self]
  show Std _ (K1 ++ K2)
  refine ⟨List.Pairwise.sublist (List.Sublist.append_left (List.sublist_cons_self x B) _) ho, fun m => ?_⟩
  have em := h.fil m
  rw [sp, List.filter_append, List.filter_append, List.filter_cons, List.filter_cons] at em
  rw [List.filter_append, List.filter_append]
  by_cases c : x.1 = m
  · subst c
    have z : (below n T).filter (keyB x.1) = [] := List.filter_eq_nil_iff.mpr fun y hy q => by
      have h1 := of_decide_eq_true (List.mem_filter.mp hy).2
      have h2 := of_decide_eq_true q
      omega
    rw [z, List.nil_append, if_pos (keyB_self x), if_pos (keyB_self x)] at em
    rw [z, List.nil_append]
    cases e1 : K1.filter (keyB x.1) with
    | nil =>
      rw [e1, List.nil_append] at em
      rw [List.nil_append]
      exact (List.cons.inj em).2
    | cons y l =>
      rw [e1] at em
      have : x = y := (List.cons.inj em).1
      subst this
      have : x ∈ K1.filter (keyB x.1) := by rw [e1]; exact List.mem_cons_self
      exact absurd (List.mem_filter.mp this).1 hx
  · rw [if_neg (by rw [keyB_ne c]; decide), if_neg (by rw [keyB_ne c]; decide)] at em
    exact em
theorem first_ex {x : Row} : ∀ {K : List Row}, x ∈ K → ∃ k, firstAt x K k
  | y :: K, h => by
    rcases Classical.em (x = y) with e | e
    · subst e
      exact ⟨0, [], K, rfl, List.not_mem_nil, rfl⟩
    · obtain ⟨k, K1, K2, rfl, h1, rfl⟩ := first_ex ((List.mem_cons.mp h).resolve_left e)
      exact ⟨_, y :: K1, K2, rfl, fun q => (List.mem_cons.mp q).elim e h1, rfl⟩
theorem Std.len {T K : List Row} (h : Std T K) : T.length = K.length := by
  classical
  have : T.Perm K := by
    refine List.perm_iff_count.mpr fun r => ?_
    have e := congrArg (List.count r) (h.fil r.1)
    rwa [List.count_filter (keyB_self r), List.count_filter (keyB_self r)] at e
  exact this.length_eq
theorem Std.mem {T K : List Row} (h : Std T K) {r : Row} : r ∈ T ↔ r ∈ K := by
  have e : r ∈ T.filter (keyB r.1) ↔ r ∈ K.filter (keyB r.1) := by rw [h.fil]
  rw [List.mem_filter, List.mem_filter] at e
  exact ⟨fun m => (e.mp ⟨m, keyB_self r⟩).1, fun m => (e.mpr ⟨m, keyB_self r⟩).1⟩
end Gj

/-! own layer: own exception classes over any built-in one, with fields -/
namespace Gj
open PySem PySem.Spec PyProof.Rows L2
open C8 (Cal pe_c pe_gc)
/-- what the written part says of an own exception class whose mro ends in tl -/
structure ExK (K : PySem.W.Frag) (C : Addr) (tl : List Value) (newId : String) : Prop where
  cls : ∃ nm q N bs bm sn sub ab col dd k0 k1 k2 k3 k5, K.lookup C = some (excClassObj nm q C N bs bm true sn sub ab col dd k0 k1 k2 k3 k5 newId) ∧ PySem.W.excTail tl bm = true
  sa : PySem.W.findIn K (.ref C) "__setattr__" = some (some (.builtin "object.__setattr__"))
  tyC : PySem.W.typeIn K (.ref C) = some (.type "type")
  kC : PySem.W.keepIn K (.ref C) = true
  ex : ExcC K C
theorem ExK.xf {K : PySem.W.Frag} {C : Addr} {tl : List Value} {newId : String} (T : ExK K C tl newId) : XfC K C := ⟨T.ex.hg, T.ex.hk, T.ex.hs, T.ex.hd⟩
theorem ExK.over {K : PySem.W.Frag} {C : Addr} {tl : List Value} {newId : String} (T : ExK K C tl newId) : PySem.W.excOver K C tl = true := by
  obtain ⟨nm, q, N, bs, bm, sn, sub, ab, col, dd, k0, k1, k2, k3, k5, hC, ht⟩ := T.cls
  have hc : PySem.W.clsIn K C = some { name := nm, bases := bs, mro := .ref C :: bm, ns := N, qualname := q, hasDict := true, slotNames := sn, subclasses := sub, abstract := ab, collection := col, hasDel := false } := by
    unfold PySem.W.clsIn
    rw [hC] <;> rfl
  unfold PySem.W.excOver
  rw [hc]
  show (decide (C = C) && PySem.W.excTail tl bm) = true
  rw [ht, decide_eq_true rfl]
  rfl
theorem taker_none {K : PySem.W.Frag} {C : Addr} {f : Str} (h : PySem.W.findIn K (.ref C) f = some none) : PySem.W.takerIn K C f = some none := by
  unfold PySem.W.takerIn
  rw [h] <;> rfl
section
variable {X : Cx} {pins : List (Addr × Obj)} {σ : L2.St} {H : Hp} {s : Shared} {a C dx : Addr} {f : Str} {y : V} {u : Value} {fs : List (Str × V)} {Q : Unit → Shared → Prop} {E : Value → Shared → Prop} {A : Around} {B newId : String} {tl : List Value}
theorem xost_new (SF : StoreFacts B tl "object.__setattr__" "object") (T : ExK X.K C tl newId) (I : Inv X pins σ H s) (e : H a = some (exo a C none)) (hno : PySem.W.findIn X.K (.ref C) f = some none) (ry : RelV y u)
    (h : ∀ dx s', H dx = none → dx ≠ a → Inv X pins σ (upd (upd H dx (exd dx [(f, y)])) a (exo a C (some dx))) s' → Q () s') : wpAny (model X.prog X.w) A (setAttr (.ref a) f u) Q E s := by
  obtain ⟨t1, ho⟩ := exo_at I.hok e
  obtain ⟨cd, hc, hdt⟩ := PySem.W.any_some T.ex.hd
  obtain ⟨hp, g, d, t, os⟩ := s
  refine PySem.W.set_plain I.kIn (od := none) ⟨ho, rfl, rfl, trivial⟩ T.sa (PySem.W.osa_openX (s := ⟨hp, g, d, t + 1, os⟩) SF I.kIn (od := none) ⟨ho, rfl, rfl, trivial⟩ T.over (taker_none hno) fun b => ?_)
  refine wpAny_bind (wpAny_pure (wpAny_bind (PySem.W.instanceDict_exc ho (PySem.W.looks_clsIn I.kIn hc) hdt ?_)))
  have as : a < hp.objs.size := Heap.lt_size ho
  have nh : H hp.objs.size = none := I.hok.fresh (Nat.le_refl _)
  have ne : hp.objs.size ≠ a := Nat.ne_of_gt as
  have up1 : (((hp.push (PySem.W.dictOf [] 0)).update a fun o => { o with dict := some hp.objs.size }).get? a) = some ({ cls := .ref C, dict := some hp.objs.size, data := .fields #[.ref t1, .none, .none, .none, .bool false, .none] } : Obj) := Heap.get?_update_self _ (Heap.get?_push_of_some _ ho) rfl
  have up2 : ∀ b o, b ≠ a → hp.get? b = some o → (((hp.push (PySem.W.dictOf [] 0)).update a fun o => { o with dict := some hp.objs.size }).get? b) = some o := fun b o nb q => (Heap.get?_update_ne _ _ _ _ nb).trans (Heap.get?_push_of_some _ q)
  have up3 : (((hp.push (PySem.W.dictOf [] 0)).update a fun o => { o with dict := some hp.objs.size }).get? hp.objs.size) = some (PySem.W.dictOf [] 0) := (Heap.get?_update_ne _ _ _ _ ne).trans (Heap.get?_push_size _ rfl)
  show wpAny _ _ (Builtin.ObjectAttr.storeInDict hp.objs.size (.str f t) f u) _ _ _
  refine PySem.HandSPX.store_in_new ⟨_, #[], _, up3, rfl, fun e he => absurd he (by simp), fun _ => rfl⟩ fun h' tk' hn sb => ?_
  have old : ∀ b o, b ≠ a → hp.get? b = some o → h'.get? b = some o := fun b o nb q => (sb.2 b (Nat.ne_of_lt (Heap.lt_size q))).trans (up2 b o nb q)
  have newA := (sb.2 a ne.symm).trans up1
  have na : ∀ {b : Addr}, H b = none → b ≠ a := fun {b} n z => by rw [z, e] at n; cases n
  have nd : ∀ {b : Addr} {o : Obj}, hp.get? b = some o → b ≠ hp.objs.size := fun {b o} q => Nat.ne_of_lt (Heap.lt_size q)
  refine h hp.objs.size ⟨h', g, d, tk', os⟩ nh ne (I.un (t' := tk') (h' := h') ⟨fun b o q n _ _ => old b o (na n) q, fun b o q n _ _ => ⟨o.slots, old b o (na n) q⟩, fun b o q n _ => ?_, fun b o q _ => ?_, fun b xs q => ?_, fun b o v q => ?_, fun b ps q => ⟨#[], ?_⟩⟩ fun b o q => ?_)
  · rw [upd_ne (na n), upd_ne (nd q)]; exact n
  · by_cases hb : b = a
    · rw [hb]; exact ⟨_, newA⟩
    · exact ⟨o, old b o hb q⟩
  · rw [upd_ne (at_ne e q exo_tup), upd_ne (ne_of_none q nh)]; exact q
  · rw [upd_ne (at_ne e q exo_frz), upd_ne (ne_of_none q nh)]; exact q
  · rw [upd_ne (at_ne e q exo_tbl), upd_ne (ne_of_none q nh), q]; simp
  · by_cases hb : b = a
    · rw [hb, upd_same] at q; cases q; rw [hb]; exact exo_ok newA
    · rw [upd_ne hb] at q
      by_cases hd : b = hp.objs.size
      · rw [hd, upd_same] at q; cases q; rw [hd]; exact exd_ok hn (relO_put (fs := []) ry fun g => True.intro)
      · rw [upd_ne hd] at q
        refine (I.hok b o q).stay (fun c v hc z => old c v ?_ z) (fun c hc => ?_) fun c xs hc => ?_
        · rcases hc with hc | hc
          · rw [hc]; exact hb
          · exact at_ne e hc exo_own
        · rw [upd_ne (at_ne e hc exo_own), upd_ne (ne_of_none hc nh)]; exact hc
        · rw [upd_ne (at_ne e hc exo_tup), upd_ne (ne_of_none hc nh)]; exact hc
theorem xost_old (SF : StoreFacts B tl "object.__setattr__" "object") (T : ExK X.K C tl newId) (I : Inv X pins σ H s) (e : H a = some (exo a C (some dx))) (ed : H dx = some (exd dx fs)) (hl : fs.length ≤ 900) (hno : PySem.W.findIn X.K (.ref C) f = some none) (ry : RelV y u)
    (h : ∀ s', Inv X pins σ (upd H dx (exd dx ((f, y) :: fs))) s' → Q () s') : wpAny (model X.prog X.w) A (setAttr (.ref a) f u) Q E s := by
  obtain ⟨t1, ho⟩ := exo_at I.hok e
  obtain ⟨mA, hns, rel⟩ := exd_at I.hok ed
  obtain ⟨cd, hc, hdt⟩ := PySem.W.any_some T.ex.hd
  obtain ⟨oD, _, _, hoD, _, _⟩ := hns.count (within_of rel)
  obtain ⟨hp, g, d, t, os⟩ := s
  refine PySem.W.set_plain I.kIn (od := some oD) ⟨ho, rfl, rfl, hoD⟩ T.sa (PySem.W.osa_openX (s := ⟨hp, g, d, t + 1, os⟩) SF I.kIn (od := some oD) ⟨ho, rfl, rfl, hoD⟩ T.over (taker_none hno) fun b => ?_)
  refine wpAny_bind (wpAny_pure (wpAny_bind (wpAny_bind (wpAny_loadPart ho (wpAny_bind ((PySem.W.looks_clsIn (show X.K.In hp from I.kIn) hc).here ?_))))))
  rw [hdt]
  refine wpAny_pure (a := some dx) (PySem.OEX.store_in_old hns (within_of rel) (by rw [List.length_map]; omega) fun h' tk' hn sb => ?_)
  have hd : ∃ o, h'.get? dx = some o := by
    obtain ⟨o, _, _, e', _⟩ := hn
    exact ⟨o, e'⟩
  exact h _ (I.write (t' := tk') (x := dx) (e := dx) (o := exd dx ((f, y) :: fs)) (by rw [ed]; exact True.intro) (.inl rfl) (fun b o nb q => (sb.2 b nb).trans q) hd (exd_ok hn (relO_put ry rel)))
end
/-- self.f = e within the __init__ of such a class -/
def tXst (K : PySem.W.Frag) (tl : List Value) (newId : String) (f : Str) (to te : TE) : TS := fun D σ H => te σ H fun y H1 => to σ H1 fun x H2 => ∃ a C : Addr, x = .ref a ∧ ExK K C tl newId ∧ PySem.W.findIn K (.ref C) f = some none ∧
  ((H2 a = some (exo a C none) ∧ ∀ dx, H2 dx = none → dx ≠ a → D.nx σ (upd (upd H2 dx (exd dx [(f, y)])) a (exo a C (some dx)))) ∨
    ∃ (dx : Addr) (fs : List (Str × V)), H2 a = some (exo a C (some dx)) ∧ H2 dx = some (exd dx fs) ∧ fs.length ≤ 900 ∧ D.nx σ (upd H2 dx (exd dx ((f, y) :: fs))))
section
variable {X : Cx} {o e : Expr} {es : List Expr} {to te : TE} {ta : TA} {f : Str} {p p' pos : Pos} {B newId initId : String} {tl : List Value}
theorem ps_xst (SF : StoreFacts B tl "object.__setattr__" "object") (ho : PE X o to) (he : PE X e te) (hs : swapsWith e (some (.Attribute o f p')) pos.line X.env = pure false := by rfl) : PS X (.Assign [.Attribute o f p'] e pos) (tXst X.K tl newId f to te) := by
  refine ⟨fun pins s σ H D I h => ?_⟩
  refine plainObj_wpAny_Assign_Attribute (thn (he.run pins s σ H _ I h) fun v s1 ⟨y, H1, I1, r1, q1⟩ => thn (ho.run pins s1 σ H1 _ I1 q1) fun u s2 ⟨x, H2, I2, r2, a, C, ex, T, hno, q⟩ => ?_) hs
  subst ex
  obtain rfl : u = Value.ref a := r2
  rcases q with ⟨ea, q⟩ | ⟨dx, fs, ea, ed, hl, q⟩
  · exact xost_new SF T I2 ea hno r1 fun dx s' n ne J => ⟨σ, _, J, q dx n ne⟩
  · exact xost_old SF T I2 ea ed hl hno r1 fun s' J => ⟨σ, _, J, q⟩
/-- the call of such a class, from the arguments' values -/
theorem xmake {CX : CXT} {pins : List (Addr × Obj)} {σ : L2.St} {H1 : Hp} {hp : Heap} {g : Array GenState} {dr : PySem.Drawn} {tk : Nat} {os : OsState} {C fI : Addr} {k : Nat} {fd : FuncData} {ps : List Str} {sp : Sp} {vs : List V} {us : List Value} {Q : Value → Shared → Prop}
    (FB : ExcBaseFacts B newId initId tl) (T : ExK X.K C tl newId) (iC : PySem.W.findIn X.K (.ref C) "__init__" = some (some (.ref fI))) (tI : PySem.W.typeIn X.K (.ref fI) = some (.type "function"))
    (F1 : FnOk X.prog X.w X.K X.mg X.base CX k fI fd ps sp) (hr : Room (k + 1) X.A) (hb : Binds X.K fd ps []) (hx : Passes CX X (fun _ _ _ => False)) (I1 : Inv X pins σ H1 ⟨hp, g, dr, tk, os⟩) (r1 : Vals vs us) (hz : vs.length ≤ 1000)
    (q : V → Hp → Prop) (hq : ∀ a, H1 a = none → sp (.ref a :: vs) (upd H1 a (exo a C none)) (fun v H2 => v = .non ∧ q (.ref a) H2) (fun _ _ _ => False))
    (fin : ∀ (a : Addr) (h2 : Heap) (g2 : Array GenState) (d2 : PySem.Drawn) (t2 : Nat) (hp2 : Heap) (H2 : Hp), hp.objs.size ≤ a → H1 a = none → (∀ b o, hp.get? b = some o → hp2.get? b = some o) → Un (frs X.stack) [] (upd H1 a (exo a C none)) H2 hp2 h2 → HOk X.prog X.w H2 h2 → AllBare g2 →
      Inv X pins σ (upd H1 a (exo a C none)) ⟨hp2, g, dr, tk, os⟩ → q (.ref a) H2 → Q (.ref a) ⟨h2, g2, d2, t2, os⟩) :
    wpAny (model X.prog X.w) X.A (call (.ref C) us) Q X.xe ⟨hp, g, dr, tk, os⟩ := by
  obtain ⟨nm, qn, N, bs, bm, sn, sub, ab, col, dd, k0, k1, k2, k3, k5, hC, ht⟩ := T.cls
  have sz : hp.objs.size ≤ hp.objs.size + 1 := Nat.le_succ _
  have n1 : H1 (hp.objs.size + 1) = none := I1.hok.fresh sz
  have keep : ∀ b o, hp.get? b = some o → ((hp.push (PySem.W.kdv_tup us)).push (PySem.HandSPX.excO C hp.objs.size)).get? b = some o := fun b o z => Heap.get?_push_of_some _ (Heap.get?_push_of_some _ z)
  have got : ((hp.push (PySem.W.kdv_tup us)).push (PySem.HandSPX.excO C hp.objs.size)).get? (hp.objs.size + 1) = some (PySem.HandSPX.excO C hp.objs.size) := by heap_get
  have I2 := I1.laid (t' := tk) (a := hp.objs.size + 1) (o := exo (hp.objs.size + 1) C none) (h' := (hp.push (PySem.W.kdv_tup us)).push (PySem.HandSPX.excO C hp.objs.size)) keep sz (exo_ok got)
  have rr : Vals (V.ref (hp.objs.size + 1) :: vs) (Value.ref (hp.objs.size + 1) :: us) := .cons rfl r1
  have sp1 := hq _ n1
  have len : (Value.ref (hp.objs.size + 1) :: us ++ []).length = ps.length := by
    rw [List.append_nil, ← rr.length]
    exact F1.len _ _ _ _ sp1
  have lus : us.length ≤ sizeLine := by rw [← Paired.length r1, sizeLine_eq]; omega
  have bnd := hb ⟨(hp.push (PySem.W.kdv_tup us)).push (PySem.HandSPX.excO C hp.objs.size), g, dr, tk, os⟩ (Value.ref (hp.objs.size + 1) :: us) I2.kIn len
  rw [List.append_nil] at bnd
  refine wpAny_call (PySem.HandSPX.call_own FB (fun Y => PySem.W.excTail_contains Y bm ht) (I1.kIn _ _ hC) (PySem.W.looks_findIn I1.kIn iC) (fun self => PySem.W.bind_fn I1.kIn self tI) lus
    (codeAny_mono (F1.run _ X.stack _ _ _ _ _ _ _ (hr.make C us []) (I2.env0.make C us []) bnd rr sp1) fun r s' z => ?_))
  cases r with
  | error er => exact hx pins σ _ _ er s' I2 z
  | ok fl =>
    cases fl with
    | ret u =>
      obtain ⟨v, H2, os2, bare2, un2, hok2, rv, ev, q2⟩ := z
      subst ev
      obtain ⟨h2, g2, d2, t2, os'⟩ := s'
      cases os2
      exact ⟨rv, fin _ h2 g2 d2 t2 _ H2 sz n1 keep un2 hok2 bare2 I2 q2⟩
    | next => exact False.elim z
    | brk => exact False.elim z
    | cont => exact False.elim z
end
end Gj

namespace Gj
open PySem PySem.Spec PyProof.Rows L2
open C8 (Cal pe_c pe_gc)
/-- an __init__ that stores its arguments by these names -/
def spInit (C : Addr) (fs : List Str) : Sp := fun vs H Q _ => ∃ (a : Addr) (ws : List V), vs = .ref a :: ws ∧ ws.length = fs.length ∧ H a = some (exo a C none) ∧
  ∀ (H' : Hp) (dx : Addr), H dx = none → dx ≠ a → (∀ b o, b ≠ a → H b = some o → H' b = some o) → H' a = some (exo a C (some dx)) → H' dx = some (exd dx (fs.zip ws).reverse) → Q .non H'
/-- an own exception class with these fields, by the module's name x -/
structure Exn (P : Program) (w : World) (K : PySem.W.Frag) (mg : Str → Option Value) (base : Heap) (x : Str) (C : Addr) (tl : List Value) (newId : String) (fs : List Str) : Prop where
  T : ExK K C tl newId
  g : mg x = some (.ref C)
  small : fs.length ≤ 900
  ini : ∃ (fI : Addr) (fd : FuncData) (ps : List Str), PySem.W.findIn K (.ref C) "__init__" = some (some (.ref fI)) ∧ PySem.W.typeIn K (.ref fI) = some (.type "function") ∧ FnOk P w K mg base CX0 1 fI fd ps (spInit C fs) ∧ Binds K fd ps []
/-- raise C(..): the fields' dict at d -/
def tRz (C : Addr) (fs : List Str) (ta : TA) : L2.St → Hp → XK → Prop := fun σ H Q => ta σ H fun ws H1 => ws.length = fs.length ∧ ∀ d H', H1 d = none → Same H1 H' → H' d = some (.xd (fs.zip ws).reverse) → Q (.ref C) (some d) H'
/-- C(..) as a value -/
def tXv (C : Addr) (fs : List Str) (ta : TA) : TE := fun σ H Q => ta σ H fun ws H1 => ws.length = fs.length ∧ ∀ a d H', H1 a = none → H1 d = none → d ≠ a → Same H1 H' → H' a = some (exo a C (some d)) → H' d = some (exd d (fs.zip ws).reverse) → Q (.ref a) H'
section
variable {X : Cx} {e : Expr} {es : List Expr} {ta : TA} {x : Str} {p pos : Pos} {B newId initId : String} {tl : List Value} {C : Addr} {fs : List Str}
theorem pmk_xn (FB : ExcBaseFacts B newId initId tl) (N : Exn X.prog X.w X.K X.mg X.base x C tl newId fs) (hr : Room 2 X.A) (hg : Gl X x) (ha : PA X (e :: es) ta)
    (hdb : (x == ("__debug__" : Str)) = false := by decide) (he : starEach (e :: es) X.env = (false, eval e X.env) :: starEach es X.env := by rfl) (hpl : (backTo pos (starEach es X.env)).any (·.1) = false := by rfl) :
    PMk X (.Call (.Name x p) (e :: es) [] pos) (tRz C fs ta) := by
  intro pins s σ H Q I h
  obtain ⟨fI, fd, ps, iC, tI, F1, hb⟩ := N.ini
  refine wpAny_Call_Name_kw (ld_glob I hg N.g ?_ hdb)
  refine PySem.W.callWith_K (h₀ := X.base) I.ok.mod.kin N.T.kC (thn (ha.run pos pins s σ H _ I h) fun us s1 ⟨ws, H1, I1, r1, hz, q1⟩ => ⟨I1.kIn, ?_⟩) he hpl
  obtain ⟨hp, g, dr, tk, os⟩ := s1
  have small := N.small
  refine xmake FB N.T iC tI F1 hr hb pass0 I1 r1 (by omega) (fun v H2 => ∃ a d, v = .ref a ∧ H1 a = none ∧ H1 d = none ∧ d ≠ a ∧ Same H1 H2 ∧ H2 a = some (exo a C (some d)) ∧ H2 d = some (exd d (fs.zip ws).reverse)) (fun a na => ?_) fun a h2 g2 d2 t2 hp2 H2 sz na k un hok bare I2 q => ?_
  · refine ⟨a, ws, rfl, hz, upd_same, fun H2 d nd ne kp ea ed => ⟨rfl, a, d, rfl, na, ?_, ne, fun b o z => kp b o (ne_of_none z na) (by rw [upd_ne (ne_of_none z na)]; exact z), ea, ed⟩⟩
    rw [upd_ne ne] at nd
    exact nd
  · obtain ⟨a', d, ea', _, nd, ne, sm, ea, ed⟩ := q
    cases ea'
    refine mk_end (raises_own N.T.ex.hs N.T.tyC) I1 sz k un hok rfl bare ea ed nd (q1 d _ nd (fun b o z => ?_) upd_same)
    rw [upd_ne (ne_of_none z nd), del_ne (ne_of_none z na)]
    exact sm b o z
theorem pe_xn (FB : ExcBaseFacts B newId initId tl) (N : Exn X.prog X.w X.K X.mg X.base x C tl newId fs) (hr : Room 2 X.A) (hg : Gl X x) (ha : PA X (e :: es) ta)
    (hdb : (x == ("__debug__" : Str)) = false := by decide) (he : starEach (e :: es) X.env = (false, eval e X.env) :: starEach es X.env := by rfl) (hpl : (backTo pos (starEach es X.env)).any (·.1) = false := by rfl) :
    PE X (.Call (.Name x p) (e :: es) [] pos) (tXv C fs ta) := by
  refine ⟨fun pins s σ H Q I h => ?_⟩
  obtain ⟨fI, fd, ps, iC, tI, F1, hb⟩ := N.ini
  refine wpAny_Call_Name_kw (ld_glob I hg N.g ?_ hdb)
  refine PySem.W.callWith_K (h₀ := X.base) I.ok.mod.kin N.T.kC (thn (ha.run pos pins s σ H _ I h) fun us s1 ⟨ws, H1, I1, r1, hz, q1⟩ => ⟨I1.kIn, ?_⟩) he hpl
  obtain ⟨hp, g, dr, tk, os⟩ := s1
  have small := N.small
  refine xmake FB N.T iC tI F1 hr hb pass0 I1 r1 (by omega) (fun v H2 => ∃ a d, v = .ref a ∧ H1 a = none ∧ H1 d = none ∧ d ≠ a ∧ Same H1 H2 ∧ H2 a = some (exo a C (some d)) ∧ H2 d = some (exd d (fs.zip ws).reverse)) (fun a na => ?_) fun a h2 g2 d2 t2 hp2 H2 sz na k un hok bare I2 q => ?_
  · refine ⟨a, ws, rfl, hz, upd_same, fun H2 d nd ne kp ea ed => ⟨rfl, a, d, rfl, na, ?_, ne, fun b o z => kp b o (ne_of_none z na) (by rw [upd_ne (ne_of_none z na)]; exact z), ea, ed⟩⟩
    rw [upd_ne ne] at nd
    exact nd
  · obtain ⟨a', d, ea', _, nd, ne, sm, ea, ed⟩ := q
    cases ea'
    exact ⟨.ref a, H2, I2.call' (ch := []) rfl un hok bare (fun b z => absurd z (by simp)), rfl, q1 a d H2 na nd ne sm ea ed⟩
end
/-! ### isinstance, fields -/
theorem kit_exn {K : PySem.W.Frag} {C x : Addr} {ox : Obj} {od : Option Obj} (T : ExcC K C) : PySem.W.KitX K (.ref x) (.ref C) (fun h => PySem.W.InstAt h x ox C od) :=
  PySem.W.kitx_exc (by obtain ⟨cd, hc, _⟩ := PySem.W.any_some T.hd; rw [hc]; rfl) T.hg T.hk T.hs T.ha T.hn T.ht T.hm
/-- isinstance(e, c), e the caught exception at a of the class D, its fields' dict at d -/
def rIsX (K : PySem.W.Frag) (D a d : Addr) : List V → Hp → VK → Prop := fun xs H Q => ∃ (c : V) (cv : Value) (b : Bool) (fs : List (Str × V)), xs = [.ref a, c] ∧ ClsV c cv ∧ H d = some (.xd fs) ∧ PySem.W.kitOne K (.ref D) cv = some b ∧ Q (.bl b) H
theorem call_isX {X : Cx} {a D d : Addr} {oe : Obj} {pn : List (Addr × Obj)} (T : ExcC X.K D) (hz : Zc (.ref D) (some d) oe) (hf : ∃ vs, oe.data = .fields vs) : CallR (X.suite a ((a, oe) :: pn)) (.builtin "isinstance") (rIsX X.K D a d) := by
  intro pins s σ H xs us Q I r h
  obtain ⟨c, cv, b, fs, rfl, hcv, ed, e, q⟩ := h
  obtain ⟨u1, u2, rfl, r1, r2⟩ := vals2 r
  cases r1
  have ec := hcv.eq r2
  subst ec
  obtain ⟨got, _⟩ := I.pin (a, oe) (List.mem_append.mpr (.inl List.mem_cons_self))
  obtain ⟨vs, hv⟩ := hf
  obtain ⟨mA, hns, _⟩ := (show ObjOk X.prog X.w H s.heap d (.xd fs) from I.hok d _ ed)
  obtain ⟨od, _, _, god, _⟩ := hns
  have J : PySem.W.InstAt s.heap a oe D (some od) := ⟨got, hz.1, by unfold PySem.W.notCls; rw [hv] <;> rfl, by rw [hz.2]; exact god⟩
  exact PySem.W.kia_one (kit_exn T) I.kIn J e (fun z => nomatch z) fun tk => ⟨.bl b, H, I.tok tk, rfl, q⟩
/-- isinstance(e, c), e an exception held as a value -/
def rIsV (K : PySem.W.Frag) : List V → Hp → VK → Prop := fun xs H Q => ∃ (a D : Addr) (d : Option Addr) (c : V) (cv : Value) (b : Bool), xs = [.ref a, c] ∧ ClsV c cv ∧ ExcC K D ∧ H a = some (exo a D d) ∧ (∀ x, d = some x → ∃ fs, H x = some (exd x fs)) ∧ PySem.W.kitOne K (.ref D) cv = some b ∧ Q (.bl b) H
theorem call_isV {X : Cx} : CallR X (.builtin "isinstance") (rIsV X.K) := by
  intro pins s σ H xs us Q I r h
  obtain ⟨a, D, d, c, cv, b, rfl, hcv, T, ea, ed, e, q⟩ := h
  obtain ⟨u1, u2, rfl, r1, r2⟩ := vals2 r
  cases r1
  have ec := hcv.eq r2
  subst ec
  obtain ⟨t1, got⟩ := exo_at I.hok ea
  obtain ⟨od, J⟩ : ∃ od, PySem.W.InstAt s.heap a { cls := .ref D, dict := d, data := .fields #[.ref t1, .none, .none, .none, .bool false, .none] } D od := by
    cases d with
    | none => exact ⟨none, got, rfl, rfl, trivial⟩
    | some x =>
      obtain ⟨fs, ex⟩ := ed x rfl
      obtain ⟨mA, ⟨od, _, _, god, _⟩, _⟩ := exd_at I.hok ex
      exact ⟨some od, got, rfl, rfl, god⟩
  exact PySem.W.kia_one (kit_exn T) I.kIn J e (fun z => nomatch z) fun tk => ⟨.bl b, H, I.tok tk, rfl, q⟩
/-- e.f, e an exception held as a value -/
def tXfv (K : PySem.W.Frag) (f : Str) (te : TE) : TE := fun σ H Q => te σ H fun x H1 => ∃ (a C d : Addr) (fs : List (Str × V)) (v : V), x = .ref a ∧ XfC K C ∧ PySem.W.findIn K (.ref C) f = some none ∧ H1 a = some (exo a C (some d)) ∧ H1 d = some (exd d fs) ∧ fs.lookup f = some v ∧ Q v H1
theorem pe_xfv {X : Cx} {e : Expr} {te : TE} {pos : Pos} {n : Str} (he : PE X e te) (hb : attributeBase e n X.env (eval e X.env) = eval e X.env := by rfl) : PE X (.Attribute e n pos) (tXfv X.K n te) := by
  refine ⟨fun pins s σ H Q I h => ?_⟩
  refine attr_of hb (thn (he.run pins s σ H _ I h) fun u s1 hh => ?_)
  obtain ⟨x, H1, I1, rx, a, C, d, fs, v, rfl, T, hno, ea, ed, l, q⟩ := hh
  cases rx
  obtain ⟨t1, got⟩ := exo_at I1.hok ea
  obtain ⟨mA, hns, hr⟩ := exd_at I1.hok ed
  obtain ⟨od, ho, hl⟩ := lookIn_ns hns
  obtain ⟨u, hu, ru⟩ := RelO.some_of (v := v) (o := mA n) (by rw [← l]; exact hr n)
  exact HandSPX.exc_get I1.kIn (od := some od) ⟨got, rfl, rfl, ho⟩ T.ga T.gg T.exC (PySem.W.findObj_own T.hdC hno rfl (by rw [hl, hu])) (handed_of ru) ⟨v, H1, I1.tok _, ru, q⟩
end Gj

/-! own layer: exception classes of one's own, called with keywords too -/
namespace Gj
open PySem PySem.Spec PyProof.Rows L2
/-- what is asked of a class whose __new__ is that of the built-in class B -/
structure NewOk (B newId : String) (bm : List Value) : Prop where
  b : bm.contains (.type B) = true
  noA : bm.contains (.type "AttributeError") = false
  noN : bm.contains (.type "NameError") = false
section
variable {prog : Program} {w : World} {M : Model} {A : Around} {E : Value → Shared → Prop} {h : Heap} {g : Array GenState} {d : PySem.Drawn} {t : Nat} {os : OsState} {R : Result → Shared → Prop}
variable {nm q : Str} {C N : Addr} {bs bm bmB : List Value} {hdct : Bool} {sn : List Str} {sub : List Value} {ab : Bool} {col : Option Bool} {dd : Option Addr} {k0 k1 k2 k3 k5 : Option Value} {B newId initId : String}
theorem kw_check (F : ExcBaseFacts B newId initId bmB) (O : NewOk B newId bm) {us : List Value} {kw : List (Str × Value)} {Q : Unit → Shared → Prop}
    (hC : h.get? C = some (excClassObj nm q C N bs bm hdct sn sub ab col dd k0 k1 k2 k3 k5 newId)) (hq : Q () ⟨h, g, d, t, os⟩) : wpAny M A (checkBuiltinCall newId ⟨.ref C :: us, kw⟩) Q E ⟨h, g, d, t, os⟩ := by
  have hc : (Value.ref C :: bm).contains (.type B) = true := by rw [List.contains_cons, O.b, Bool.or_true]
  have ns := F.noStar
  simp only [checkBuiltinCall, F.newKind, F.newSplit, F.newRow]
  repeat (first | refine wpAny_loadPart_at hC ?_ | (refine wpAny_isSubtype_exc hC ?_; rw [hc]) | refine wpAny_staticBase_exc hC ?_ | refine wpAny_madeBy_exc hC ?_ | simp only [bne_self_eq_false, Bool.false_eq_true, if_false] | wp_step)
  exact hq
theorem kw_new (F : ExcBaseFacts B newId initId bmB) (O : NewOk B newId bm) {us : List Value} {kw : List (Str × Value)}
    (hC : h.get? C = some (excClassObj nm q C N bs bm hdct sn sub ab col dd k0 k1 k2 k3 k5 newId))
    (hq : R (.ok (.ret (.ref (h.objs.size + 1)))) ⟨(h.push (PySem.W.kdv_tup us)).push (PySem.HandSPX.excO C h.objs.size), g, d, t, os⟩) (hl : us.length ≤ sizeLine) :
    codeAny (model prog w) A (.builtin newId ⟨.ref C :: us, kw⟩) R ⟨h, g, d, t, os⟩ := by
  have he := F.ends
  have hB : (Value.ref C :: bm).contains (.type B) = true := by rw [List.contains_cons, O.b, Bool.or_true]
  have hA : (Value.ref C :: bm).contains (.type "AttributeError") = false := by rw [List.contains_cons, O.noA] <;> rfl
  have hN : (Value.ref C :: bm).contains (.type "NameError") = false := by rw [List.contains_cons, O.noN] <;> rfl
  refine codeAny_builtinAt F.entry ?_
  unfold Builtin.«BaseException.__new__»
  refine PySem.wpAt_bind ?_
  show PySem.wpAt _ _ _ (stack >>= _) _ _ _
  refine PySem.wpAt_bind (PySem.wpAt_stack fun _ _ => PySem.wpAt_of_wpAny ?_)
  wp_walk
  refine PySem.wpAt_of_wpAny ?_
  rw [F.owner]
  repeat (first | with_reducible refine wpAny_madeHere_exc F.canon hC ?_ | with_reducible refine wpAny_loadPart_at hC ?_ | (with_reducible refine wpAny_isSubtype_exc hC ?_; first | rw [hB] | rw [hA] | rw [hN]) | wp_step)
  show R _ _
  rw [Heap.size_push] <;> exact hq
theorem kw_type (F : ExcBaseFacts B newId initId bmB) (O : NewOk B newId bm) {us : List Value} {kw : List (Str × Value)} {fI : Addr} {Q : Fin → Shared → Prop}
    (hC : h.get? C = some (excClassObj nm q C N bs bm hdct sn sub ab col dd k0 k1 k2 k3 k5 newId))
    (hi : PySem.W.Looks (model prog w) h (typeLookup (.ref C) "__init__") (some (.ref fI))) (hb : ∀ self, PySem.W.Looks (model prog w) h (bindSpecial (.ref fI) self) (.ref fI, [self])) (hl : us.length ≤ sizeLine)
    (hq : codeAny (model prog w) A (.call (.ref fI) ⟨.ref (h.objs.size + 1) :: us, kw⟩)
      (fun r s' => match r with | .ok (.ret v) => v = .none ∧ Q (.done (.ret (.ref (h.objs.size + 1)))) s' | .ok _ => False | .error e => E e s')
      ⟨(h.push (PySem.W.kdv_tup us)).push (PySem.HandSPX.excO C h.objs.size), g, d, t, os⟩) :
    wpAny (model prog w) A (Builtin.«type.__call__» ⟨.ref C :: us, kw⟩) Q E ⟨h, g, d, t, os⟩ := by
  repeat (first | with_reducible refine wpAny_loadPart_at hC ?_ | with_reducible refine wpAny_madeBy_exc hC ?_ | wp_step)
  refine codeAny_call_builtin_code (Code.quiet_builtin _ F.quiet) (kw_check F O hC ?_)
  refine kw_new F O hC ?_ hl
  show wpAny _ _ _ _ _ _
  have k : ∀ b o, h.get? b = some o → ((h.push (PySem.W.kdv_tup us)).push (PySem.HandSPX.excO C h.objs.size)).get? b = some o := fun b o e => Heap.get?_push_of_some _ (Heap.get?_push_of_some _ e)
  have hD := k _ _ hC
  have got : ((h.push (PySem.W.kdv_tup us)).push (PySem.HandSPX.excO C h.objs.size)).get? (h.objs.size + 1) = some (PySem.HandSPX.excO C h.objs.size) := by heap_get
  have cc : (Value.ref C :: bm).contains (.ref C) = true := by simp
  have i1 := hi.keeps k
  have b1 := (hb (.ref (h.objs.size + 1))).keeps k
  unfold isInstance
  repeat (first | with_reducible refine wpAny_loadPart_at got ?_ | (with_reducible refine wpAny_isSubtype_exc hD ?_; rw [cc]) | wp_step)
  show wpAny _ _ (typeLookup (.ref C) _) _ _ _
  refine i1.at ?_
  refine wpAny_holding (wpAny_bind (b1.at ?_))
  refine wpAny_bind (wpAny_call (codeAny_mono hq fun r s' z => ?_))
  rcases r with e | (v | _ | _ | _) <;> first | exact z | exact z.elim | skip
  obtain ⟨rfl, z⟩ := z
  first | exact wpAny_pure (wpAny_pure z) | (wp_walk; exact z)
theorem kw_call (F : ExcBaseFacts B newId initId bmB) (O : NewOk B newId bm) {us : List Value} {kw : List (Str × Value)} {fI : Addr}
    (hC : h.get? C = some (excClassObj nm q C N bs bm hdct sn sub ab col dd k0 k1 k2 k3 k5 newId))
    (hi : PySem.W.Looks (model prog w) h (typeLookup (.ref C) "__init__") (some (.ref fI))) (hb : ∀ self, PySem.W.Looks (model prog w) h (bindSpecial (.ref fI) self) (.ref fI, [self])) (hl : us.length ≤ sizeLine)
    (hq : codeAny (model prog w) (A.under (.builtin "type.__call__" ⟨.ref C :: us, kw⟩)) (.call (.ref fI) ⟨.ref (h.objs.size + 1) :: us, kw⟩) (PySem.W.InitBack (h.objs.size + 1) R)
      ⟨(h.push (PySem.W.kdv_tup us)).push (PySem.HandSPX.excO C h.objs.size), g, d, t, os⟩) :
    codeAny (model prog w) A (.call (.ref C) ⟨us, kw⟩) R ⟨h, g, d, t, os⟩ := by
  have f1 := tc_lookup
  have f2 := tc_bind (.ref C)
  have ty : (⟨h, g, d, t, os⟩ : Shared).TypeIs (.ref C) "type" := ⟨_, hC, rfl⟩
  refine codeAny_of_tree ?_
  show wpAny _ _ (callAny (.ref C) _) _ _ _
  repeat (any_goals (first | assumption | with_reducible refine wpAny_loadPart_at hC ?_ | wp_step))
  refine ⟨rfl, ?_⟩
  refine codeAny_call_builtin_at (Code.quiet_builtin _ (by decide +kernel)) entry_typeCall (wpAny_check_type_call_sub hC (kw_type F O hC hi hb hl ?_))
  refine codeAny_mono hq fun r s' z => ?_
  rcases r with e | (v | _ | _ | _) <;> exact z
end
end Gj

namespace Gj
open PySem PySem.Spec PyProof.Rows L2
open C8 (Cal pe_c pe_gc)
section
variable {X : Cx}
/-- the call of such a class, from the values, keywords too -/
theorem xmake2 {CX : CXT} {pins : List (Addr × Obj)} {σ : L2.St} {H1 : Hp} {hp : Heap} {g : Array GenState} {dr : PySem.Drawn} {tk : Nat} {os : OsState} {C fI : Addr} {k : Nat} {fd : FuncData} {ps : List Str} {sp : Sp} {us : List Value} {kw : List (Str × Value)} {B newId initId : String} {bmB tl : List Value} {ws2 : Addr → List V} {us2 : Addr → List Value} {Q : Value → Shared → Prop}
    (FB : ExcBaseFacts B newId initId bmB) (T : ExK X.K C tl newId) (O : NewOk B newId tl) (iC : PySem.W.findIn X.K (.ref C) "__init__" = some (some (.ref fI))) (tI : PySem.W.typeIn X.K (.ref fI) = some (.type "function"))
    (F1 : FnOk X.prog X.w X.K X.mg X.base CX k fI fd ps sp) (hr : Room (k + 1) X.A) (hx : Passes CX X (fun _ _ _ => False)) (I1 : Inv X pins σ H1 ⟨hp, g, dr, tk, os⟩) (lus : us.length ≤ sizeLine)
    (hb : ∀ (s : Shared) (a : Addr), X.K.In s.heap → BindsTo s fd ⟨.ref a :: us, kw⟩ (ps.zip (us2 a))) (rr : ∀ a, Vals (ws2 a) (us2 a))
    (q : V → Hp → Prop) (hq : ∀ a, H1 a = none → sp (ws2 a) (upd H1 a (exo a C none)) (fun v H2 => v = .non ∧ q (.ref a) H2) (fun _ _ _ => False))
    (fin : ∀ (a : Addr) (h2 : Heap) (g2 : Array GenState) (d2 : PySem.Drawn) (t2 : Nat) (hp2 : Heap) (H2 : Hp), hp.objs.size ≤ a → H1 a = none → (∀ b o, hp.get? b = some o → hp2.get? b = some o) → Un (frs X.stack) [] (upd H1 a (exo a C none)) H2 hp2 h2 → HOk X.prog X.w H2 h2 → AllBare g2 →
      Inv X pins σ (upd H1 a (exo a C none)) ⟨hp2, g, dr, tk, os⟩ → q (.ref a) H2 → Q (.ref a) ⟨h2, g2, d2, t2, os⟩) :
    wpAny (model X.prog X.w) X.A (call (.ref C) us kw) Q X.xe ⟨hp, g, dr, tk, os⟩ := by
  obtain ⟨nm, qn, N, bs, bm, sn, sub, ab, col, dd, k0, k1, k2, k3, k5, hC, ht⟩ := T.cls
  have ct : ∀ Y : String, bm.contains (.type Y) = tl.contains (.type Y) := fun Y => PySem.W.excTail_contains Y bm ht
  have O2 : NewOk B newId bm := ⟨(ct _).trans O.b, (ct _).trans O.noA, (ct _).trans O.noN⟩
  have sz : hp.objs.size ≤ hp.objs.size + 1 := Nat.le_succ _
  have n1 : H1 (hp.objs.size + 1) = none := I1.hok.fresh sz
  have keep : ∀ b o, hp.get? b = some o → ((hp.push (PySem.W.kdv_tup us)).push (PySem.HandSPX.excO C hp.objs.size)).get? b = some o := fun b o z => Heap.get?_push_of_some _ (Heap.get?_push_of_some _ z)
  have got : ((hp.push (PySem.W.kdv_tup us)).push (PySem.HandSPX.excO C hp.objs.size)).get? (hp.objs.size + 1) = some (PySem.HandSPX.excO C hp.objs.size) := by heap_get
  have I2 := I1.laid (t' := tk) (a := hp.objs.size + 1) (o := exo (hp.objs.size + 1) C none) (h' := (hp.push (PySem.W.kdv_tup us)).push (PySem.HandSPX.excO C hp.objs.size)) keep sz (exo_ok got)
  refine wpAny_call (kw_call FB O2 (I1.kIn _ _ hC) (PySem.W.looks_findIn I1.kIn iC) (fun self => PySem.W.bind_fn I1.kIn self tI) lus
    (codeAny_mono (F1.run _ X.stack _ _ _ _ _ _ _ (hr.make C us kw) (I2.env0.make C us kw) (hb _ _ I2.kIn) (rr _) (hq _ n1)) fun r s' z => ?_))
  cases r with
  | error er => exact hx pins σ _ _ er s' I2 z
  | ok fl =>
    cases fl with
    | ret u =>
      obtain ⟨v, H2, os2, bare2, un2, hok2, rv, ev, q2⟩ := z
      subst ev
      obtain ⟨h2, g2, d2, t2, os'⟩ := s'
      cases os2
      exact ⟨rv, fin _ h2 g2 d2 t2 _ H2 sz n1 keep un2 hok2 bare2 I2 q2⟩
    | next => exact False.elim z
    | brk => exact False.elim z
    | cont => exact False.elim z
end
/-- two fields by keywords in the other order -/
def turned {α : Type} (sw : Bool) (l : List α) : List α := if sw then l.reverse else l
/-- an own exception class with these fields, by the module's name x; keywords in the order ks -/
structure Exq (P : Program) (w : World) (K : PySem.W.Frag) (mg : Str → Option Value) (base : Heap) (x : Str) (C : Addr) (tl : List Value) (B newId initId : String) (bmB : List Value) (fs ks : List Str) (sw : Bool) : Prop where
  T : ExK K C tl newId
  O : NewOk B newId tl
  FB : ExcBaseFacts B newId initId bmB
  g : mg x = some (.ref C)
  small : fs.length ≤ 900
  len : ks.length = fs.length
  no : ∀ f ∈ fs, PySem.W.findIn K (.ref C) f = some none
  ini : ∃ (fI : Addr) (fd : FuncData) (ps : List Str), PySem.W.findIn K (.ref C) "__init__" = some (some (.ref fI)) ∧ PySem.W.typeIn K (.ref fI) = some (.type "function") ∧ FnOk P w K mg base CX0 1 fI fd ps (spInit C fs) ∧ Binds K fd ps [] ∧
    ∀ (s : Shared) (a : Value) (ws : List Value), ws.length = ks.length → K.In s.heap → BindsTo s fd ⟨[a], ks.zip ws⟩ (ps.zip (a :: turned sw ws))
theorem vals_app : ∀ {vs ws : List V} {us ts : List Value}, Vals vs us → Vals ws ts → Vals (vs ++ ws) (us ++ ts)
  | _, _, _, _, .nil, h => h
  | _, _, _, _, .cons r t, h => .cons r (vals_app t h)
theorem vals_turned {sw : Bool} : ∀ {vs : List V} {us : List Value}, Vals vs us → Vals (turned sw vs) (turned sw us) := fun {vs us} h => by
  cases sw with
  | false => exact h
  | true =>
    show Vals vs.reverse us.reverse
    induction h with
    | nil => exact .nil
    | cons r t ih =>
      rw [List.reverse_cons, List.reverse_cons]
      exact vals_app ih (.cons r .nil)
def tXvK (C : Addr) (fs : List Str) (sw : Bool) (ta : TA) : TE := fun σ H Q => ta σ H fun ws H1 => ws.length = fs.length ∧ ∀ a d H', H1 a = none → H1 d = none → d ≠ a → Same H1 H' → H' a = some (exo a C (some d)) → H' d = some (exd d (fs.zip (turned sw ws)).reverse) → Q (.ref a) H'
section
variable {X : Cx} {e : Expr} {es : List Expr} {ta : TA} {x : Str} {p pos : Pos} {B newId initId : String} {tl bmB : List Value} {C : Addr} {fs ks : List Str} {sw : Bool} {kws : List Keyword}
theorem pmk_xq (N : Exq X.prog X.w X.K X.mg X.base x C tl B newId initId bmB fs ks sw) (hr : Room 2 X.A) (hg : Gl X x) (ha : PA X (e :: es) ta)
    (hdb : (x == ("__debug__" : Str)) = false := by decide) (he : starEach (e :: es) X.env = (false, eval e X.env) :: starEach es X.env := by rfl) (hpl : (backTo pos (starEach es X.env)).any (·.1) = false := by rfl) :
    PMk X (.Call (.Name x p) (e :: es) [] pos) (tRz C fs ta) := by
  intro pins s σ H Q I h
  obtain ⟨fI, fd, ps, iC, tI, F1, hb, _⟩ := N.ini
  refine wpAny_Call_Name_kw (ld_glob I hg N.g ?_ hdb)
  refine PySem.W.callWith_K (h₀ := X.base) I.ok.mod.kin N.T.kC (thn (ha.run pos pins s σ H _ I h) fun us s1 ⟨ws, H1, I1, r1, hz, q1⟩ => ⟨I1.kIn, ?_⟩) he hpl
  obtain ⟨hp, g, dr, tk, os⟩ := s1
  have small := N.small
  have lp : ∀ a, (Value.ref a :: us ++ []).length = ps.length := fun a => by
    rw [List.append_nil, ← (Paired.length (.cons rfl r1 : Vals (V.ref a :: ws) (Value.ref a :: us)))]
    exact F1.len _ (upd H1 a (exo a C none)) (fun _ _ => True) (fun _ _ _ => False) ⟨a, ws, rfl, hz, upd_same, fun _ _ _ _ _ _ _ => trivial⟩
  refine xmake2 (us := us) (kw := []) (ws2 := fun a => .ref a :: ws) (us2 := fun a => .ref a :: us) N.FB N.T N.O iC tI F1 hr pass0 I1 (by rw [← Paired.length r1, sizeLine_eq]; omega) (fun s a X2 => by have b := hb s (.ref a :: us) X2 (lp a); rw [List.append_nil] at b; exact b) (fun a => .cons rfl r1)
    (fun v H2 => ∃ a d, v = .ref a ∧ H1 a = none ∧ H1 d = none ∧ d ≠ a ∧ Same H1 H2 ∧ H2 a = some (exo a C (some d)) ∧ H2 d = some (exd d (fs.zip ws).reverse)) (fun a na => ?_) fun a h2 g2 d2 t2 hp2 H2 sz na k un hok bare I2 q => ?_
  · refine ⟨a, ws, rfl, hz, upd_same, fun H2 d nd ne kp ea ed => ⟨rfl, a, d, rfl, na, ?_, ne, fun b o z => kp b o (ne_of_none z na) (by rw [upd_ne (ne_of_none z na)]; exact z), ea, ed⟩⟩
    rw [upd_ne ne] at nd
    exact nd
  · obtain ⟨a', d, ea', _, nd, ne, sm, ea, ed⟩ := q
    cases ea'
    refine mk_end (raises_own N.T.ex.hs N.T.tyC) I1 sz k un hok rfl bare ea ed nd (q1 d _ nd (fun b o z => ?_) upd_same)
    rw [upd_ne (ne_of_none z nd), del_ne (ne_of_none z na)]
    exact sm b o z
theorem pe_xq (N : Exq X.prog X.w X.K X.mg X.base x C tl B newId initId bmB fs ks sw) (hr : Room 2 X.A) (hg : Gl X x) (ha : PA X (e :: es) ta)
    (hdb : (x == ("__debug__" : Str)) = false := by decide) (he : starEach (e :: es) X.env = (false, eval e X.env) :: starEach es X.env := by rfl) (hpl : (backTo pos (starEach es X.env)).any (·.1) = false := by rfl) :
    PE X (.Call (.Name x p) (e :: es) [] pos) (tXv C fs ta) := by
  refine ⟨fun pins s σ H Q I h => ?_⟩
  obtain ⟨fI, fd, ps, iC, tI, F1, hb, _⟩ := N.ini
  refine wpAny_Call_Name_kw (ld_glob I hg N.g ?_ hdb)
  refine PySem.W.callWith_K (h₀ := X.base) I.ok.mod.kin N.T.kC (thn (ha.run pos pins s σ H _ I h) fun us s1 ⟨ws, H1, I1, r1, hz, q1⟩ => ⟨I1.kIn, ?_⟩) he hpl
  obtain ⟨hp, g, dr, tk, os⟩ := s1
  have small := N.small
  have lp : ∀ a, (Value.ref a :: us ++ []).length = ps.length := fun a => by
    rw [List.append_nil, ← (Paired.length (.cons rfl r1 : Vals (V.ref a :: ws) (Value.ref a :: us)))]
    exact F1.len _ (upd H1 a (exo a C none)) (fun _ _ => True) (fun _ _ _ => False) ⟨a, ws, rfl, hz, upd_same, fun _ _ _ _ _ _ _ => trivial⟩
  refine xmake2 (us := us) (kw := []) (ws2 := fun a => .ref a :: ws) (us2 := fun a => .ref a :: us) N.FB N.T N.O iC tI F1 hr pass0 I1 (by rw [← Paired.length r1, sizeLine_eq]; omega) (fun s a X2 => by have b := hb s (.ref a :: us) X2 (lp a); rw [List.append_nil] at b; exact b) (fun a => .cons rfl r1)
    (fun v H2 => ∃ a d, v = .ref a ∧ H1 a = none ∧ H1 d = none ∧ d ≠ a ∧ Same H1 H2 ∧ H2 a = some (exo a C (some d)) ∧ H2 d = some (exd d (fs.zip ws).reverse)) (fun a na => ?_) fun a h2 g2 d2 t2 hp2 H2 sz na k un hok bare I2 q => ?_
  · refine ⟨a, ws, rfl, hz, upd_same, fun H2 d nd ne kp ea ed => ⟨rfl, a, d, rfl, na, ?_, ne, fun b o z => kp b o (ne_of_none z na) (by rw [upd_ne (ne_of_none z na)]; exact z), ea, ed⟩⟩
    rw [upd_ne ne] at nd
    exact nd
  · obtain ⟨a', d, ea', _, nd, ne, sm, ea, ed⟩ := q
    cases ea'
    exact ⟨.ref a, H2, I2.call' (ch := []) rfl un hok bare (fun b z => absurd z (by simp)), rfl, q1 a d H2 na nd ne sm ea ed⟩
/-- C(k = v, ..) -/
theorem pe_xqk (N : Exq X.prog X.w X.K X.mg X.base x C tl B newId initId bmB fs ks sw) (hr : Room 2 X.A) (hg : Gl X x) (hkw : PK X kws ta)
    (hall : (backToKw pos (keywordEach kws X.env)).all (·.1.isSome) = true := by rfl) (hks : (backToKw pos (keywordEach kws X.env)).filterMap (·.1) = ks := by rfl) (hdb : (x == ("__debug__" : Str)) = false := by decide)
    (hpl : ((backTo pos (starEach [] X.env)).any (·.1) || (backToKw pos (keywordEach kws X.env)).any (·.1.isNone)) = false := by rfl) :
    PE X (.Call (.Name x p) [] kws pos) (tXvK C fs sw ta) := by
  refine ⟨fun pins s σ H Q I h => ?_⟩
  obtain ⟨fI, fd, ps, iC, tI, F1, _, hb⟩ := N.ini
  refine wpAny_Call_Name_kw (ld_glob I hg N.g ?_ hdb)
  refine PySem.W.callWith_KW0 (h₀ := X.base) I.ok.mod.kin N.T.kC hall ?_ hpl
  refine thn (hkw.run pos pins s σ H _ I h) fun us s2 ⟨ws, H1, I1, r1, hz, q1⟩ => ⟨I1.kIn, ?_⟩
  rw [hks]
  obtain ⟨hp, g, dr, tk, os⟩ := s2
  have lw : us.length = ks.length := by rw [← Paired.length r1, hz, N.len]
  have ht : (turned sw ws).length = fs.length := by
    rw [← hz]
    cases sw
    · rfl
    · exact List.length_reverse
  refine xmake2 (ws2 := fun a => .ref a :: turned sw ws) (us2 := fun a => .ref a :: turned sw us) (us := []) (kw := ks.zip us) N.FB N.T N.O iC tI F1 hr pass0 I1 (Nat.zero_le _) (fun s a X2 => hb s (.ref a) us lw X2) (fun a => .cons rfl (vals_turned r1))
    (fun v H2 => ∃ a d, v = .ref a ∧ H1 a = none ∧ H1 d = none ∧ d ≠ a ∧ Same H1 H2 ∧ H2 a = some (exo a C (some d)) ∧ H2 d = some (exd d (fs.zip (turned sw ws)).reverse)) (fun a na => ?_) fun a h2 g2 d2 t2 hp2 H2 sz na k un hok bare I2 q => ?_
  · refine ⟨a, turned sw ws, rfl, ht, upd_same, fun H2 d nd ne kp ea ed => ⟨rfl, a, d, rfl, na, ?_, ne, fun b o z => kp b o (ne_of_none z na) (by rw [upd_ne (ne_of_none z na)]; exact z), ea, ed⟩⟩
    rw [upd_ne ne] at nd
    exact nd
  · obtain ⟨a', d, ea', _, nd, ne, sm, ea, ed⟩ := q
    cases ea'
    exact ⟨.ref a, H2, I2.call' (ch := []) rfl un hok bare (fun b z => absurd z (by simp)), rfl, q1 a d H2 na nd ne sm ea ed⟩
end
end Gj

namespace Gj
open PySem PySem.Spec PyProof.Rows L2
open C8 (Cal pe_c pe_gc)
/-- an exception held as a value, of the class at D -/
def Exv (H : Hp) (a D : Addr) : Prop := (∃ (d : Addr) (fs : List (Str × V)), H a = some (exo a D (some d)) ∧ H d = some (exd d fs)) ∨ H a = some (ExO (.ref D) a)
theorem Exv.same {H H' : Hp} {a D : Addr} (h : Exv H a D) (s : Same H H') : Exv H' a D := by
  rcases h with ⟨d, fs, h1, h2⟩ | h
  · exact .inl ⟨d, fs, s _ _ h1, s _ _ h2⟩
  · exact .inr (s _ _ h)
def rIsW (K : PySem.W.Frag) : List V → Hp → VK → Prop := fun xs H Q => ∃ (a D : Addr) (c : V) (cv : Value) (b : Bool), xs = [.ref a, c] ∧ ClsV c cv ∧ ExcC K D ∧ Exv H a D ∧ PySem.W.kitOne K (.ref D) cv = some b ∧ Q (.bl b) H
theorem call_isW {X : Cx} : CallR X (.builtin "isinstance") (rIsW X.K) := by
  intro pins s σ H xs us Q I r h
  obtain ⟨a, D, c, cv, b, rfl, hcv, T, hx, e, q⟩ := h
  rcases hx with ⟨d, fs, h1, h2⟩ | h1
  · exact call_isV pins s σ H _ us Q I r ⟨a, D, some d, c, cv, b, rfl, hcv, T, h1, fun x ex => by cases ex; exact ⟨fs, h2⟩, e, q⟩
  · obtain ⟨u1, u2, rfl, r1, r2⟩ := vals2 r
    cases r1
    have ec := hcv.eq r2
    subst ec
    obtain ⟨⟨oe, vs, got, hz, hd, _⟩, _, _⟩ := I.hok a _ h1
    have J : PySem.W.InstAt s.heap a oe D none := ⟨got, hz.1, by unfold PySem.W.notCls; rw [hd] <;> rfl, by rw [hz.2]; trivial⟩
    exact PySem.W.kia_one (kit_exn T) I.kIn J e (fun z => nomatch z) fun tk => ⟨.bl b, H, I.tok tk, rfl, q⟩
/-- isinstance(e, c), e the caught exception at a -/
def rIsC (K : PySem.W.Frag) (cls : Value) (d : Option Addr) (a : Addr) : List V → Hp → VK → Prop := fun xs H Q => ∃ (D dd : Addr) (c : V) (cv : Value) (b : Bool) (fs : List (Str × V)), xs = [.ref a, c] ∧ cls = .ref D ∧ d = some dd ∧ ExcC K D ∧ ClsV c cv ∧ H dd = some (.xd fs) ∧ PySem.W.kitOne K (.ref D) cv = some b ∧ Q (.bl b) H
theorem call_isC {X : Cx} {a : Addr} {cls : Value} {d : Option Addr} {oe : Obj} {pn : List (Addr × Obj)} (hz : Zc cls d oe) (hf : ∃ vs, oe.data = .fields vs) : CallR (X.suite a ((a, oe) :: pn)) (.builtin "isinstance") (rIsC X.K cls d a) := by
  intro pins s σ H xs us Q I r h
  obtain ⟨D, dd, c, cv, b, fs, rfl, rfl, rfl, T, hcv, ed, e, q⟩ := h
  exact call_isX T hz hf pins s σ H _ us Q I r ⟨c, cv, b, fs, rfl, hcv, ed, e, q⟩
/-! ### lists of truths -/
def Bls (ta : TA) (σ : L2.St) (H : Hp) (bs : List Bool) : Prop := ∀ Q : List V → Hp → Prop, (∀ H', Same H H' → Q (bs.map V.bl) H') → ta σ H Q
def BlsL (te : TE) (σ : L2.St) (H : Hp) (bs : List Bool) : Prop := ∀ Q : VK, (∀ (H' : Hp) (l : Addr), Same H H' → H' l = some (.lst (bs.map V.bl)) → Q (.ref l) H') → te σ H Q
section
variable {σ : L2.St} {H : Hp} {te tb tc : TE} {ta : TA} {b : Bool} {bs cs : List Bool} {K : PySem.W.Frag} {a D : Addr} {c : V} {cv : Value}
theorem Bls.nil : Bls tNil σ H [] := fun Q q => q H (Same.refl H)
theorem Bls.cons (h : Say te σ H b) (ht : ∀ H', Same H H' → Bls ta σ H' bs) : Bls (tCons te ta) σ H (b :: bs) := fun Q q => h _ fun H1 s1 => ht H1 s1 _ fun H2 s2 => q H2 (s1.trans s2)
theorem Bls.lst (h : Bls ta σ H bs) (hn : bs.length ≤ 1000) : BlsL (tLst ta) σ H bs := fun Q q => h _ fun H1 s1 => ⟨by rw [List.length_map]; exact Nat.le_of_lt (small1000 hn), fun l nl => q _ l (s1.trans (same_new nl)) upd_same⟩
theorem BlsL.var {l : Addr} (h : Giv te σ H (.ref l)) (e : H l = some (.lst (bs.map V.bl))) : BlsL te σ H bs := fun Q q => h _ (q H l (Same.refl H) e)
theorem BlsL.cat (h : BlsL te σ H bs) (h2 : ∀ H', Same H H' → BlsL tb σ H' cs) (hn : bs.length + cs.length ≤ 1000) : BlsL (tOp rCat te tb) σ H (bs ++ cs) := fun Q q => h _ fun H1 l1 s1 e1 => h2 H1 s1 _ fun H2 l2 s2 e2 => ⟨l1, l2, _, _, rfl, rfl, s2 _ _ e1, e2, by rw [List.length_map, List.length_map]; exact Nat.le_of_lt (small1000 hn), fun l nl => q _ l ((s1.trans s2).trans (same_new nl)) (by rw [upd_same, List.map_append])⟩
theorem say_isW (hv : Giv te σ H (.ref a)) (hc : Giv tc σ H c) (hcv : ClsV c cv) (T : ExcC K D) (hx : Exv H a D) (e : PySem.W.kitOne K (.ref D) cv = some b) : Say (tCB (rIsW K) (tCons te (tCons tc tNil))) σ H b := fun Q q => hv _ (hc _ ⟨a, D, c, cv, b, rfl, hcv, T, hx, e, q H (Same.refl H)⟩)
end
end Gj

/-! own layer: data compared -/
namespace Gj
open PySem PySem.Spec PyProof.Rows L2
open C8 (Cal pe_c pe_gc)
theorem dp_all {K : PySem.W.Frag} {H : Hp} : ∀ (bs : List Bool), DpAll K H (bs.map V.bl) (bs.map PyData.bool)
  | [] => .nil
  | b :: l => .cons (.bl b) (dp_all l)
theorem dp_bools {K : PySem.W.Frag} {H : Hp} {l : Addr} {bs : List Bool} (e : H l = some (.lst (bs.map V.bl))) : Dp K H (.ref l) (.list (bs.map PyData.bool)) := .lst (SqL.of e) (dp_all bs)
mutual
def plainD : PyData → Bool
  | .list ds => plainA ds
  | .tuple ds => plainA ds
  | .dict _ => false
  | _ => true
def plainA : List PyData → Bool
  | [] => true
  | d :: ds => plainD d && plainA ds
end
mutual
theorem eqv_self : ∀ (d : PyData), plainD d = true → PyData.eqv d d = true
  | .none, _ => by simp [PyData.eqv]
  | .bool b, _ => by simp [PyData.eqv]
  | .int i, _ => by simp [PyData.eqv]
  | .str x, _ => by simp [PyData.eqv]
  | .list ds, h => by
    unfold PyData.eqv
    exact eqv_selfA ds (by unfold plainD at h; exact h)
  | .tuple ds, h => by
    unfold PyData.eqv
    exact eqv_selfA ds (by unfold plainD at h; exact h)
  | .dict _, h => by simp [plainD] at h
theorem eqv_selfA : ∀ (ds : List PyData), plainA ds = true → PyData.eqvAll ds ds = true
  | [], _ => by simp [PyData.eqvAll]
  | d :: ds, h => by
    unfold plainA at h
    obtain ⟨h1, h2⟩ := Bool.and_eq_true_iff.mp h
    unfold PyData.eqvAll
    rw [eqv_self d h1, eqv_selfA ds h2]
    rfl
end
/-- it is this datum -/
def IsD (K : PySem.W.Frag) (te : TE) (σ : L2.St) (H : Hp) (d : PyData) : Prop := ∀ Q : VK, (∀ (H' : Hp) (v : V), Same H H' → Dp K H' v d → Q v H') → te σ H Q
def IsDs (K : PySem.W.Frag) (ta : TA) (σ : L2.St) (H : Hp) (ds : List PyData) : Prop := ∀ Q : List V → Hp → Prop, (∀ (H' : Hp) (vs : List V), Same H H' → DpAll K H' vs ds → Q vs H') → ta σ H Q
section
variable {σ : L2.St} {H H' : Hp} {te tb : TE} {ta : TA} {K : PySem.W.Frag} {d e : PyData} {ds : List PyData} {bs : List Bool}
theorem seq_sameL {a : Addr} {xs : List V} (h : SqL K H a xs) (s : Same H H') : SqL K H' a xs := s.seq h
theorem seq_sameT {a : Addr} {xs : List V} (h : SqT K H a xs) (s : Same H H') : SqT K H' a xs := by
  rcases h with (h | ⟨o, h⟩) | h
  · exact .inl (.inl (s _ _ h))
  · exact .inl (.inr ⟨o, s _ _ h⟩)
  · exact .inr h
mutual
theorem dp_same (s : Same H H') : ∀ {v : V} {d : PyData}, Dp K H v d → Dp K H' v d
  | _, _, .non => .non
  | _, _, .bl b => .bl b
  | _, _, .int i => .int i
  | _, _, .str x => .str x
  | _, _, .lst h a => .lst (seq_sameL h s) (dp_sameA s a)
  | _, _, .tup h a => .tup (seq_sameT h s) (dp_sameA s a)
theorem dp_sameA (s : Same H H') : ∀ {vs : List V} {ds : List PyData}, DpAll K H vs ds → DpAll K H' vs ds
  | _, _, .nil => .nil
  | _, _, .cons a b => .cons (dp_same s a) (dp_sameA s b)
end
theorem dp_len : ∀ {vs : List V} {ds : List PyData}, DpAll K H vs ds → vs.length = ds.length
  | _, _, .nil => rfl
  | _, _, .cons _ b => congrArg Nat.succ (dp_len b)
theorem IsD.of {v : V} (h : Giv te σ H v) (hd : Dp K H v d) : IsD K te σ H d := fun Q q => h _ (q H v (Same.refl H) hd)
theorem IsD.bls (h : BlsL te σ H bs) : IsD K te σ H (.list (bs.map PyData.bool)) := fun Q q => h _ fun H1 l s e => q H1 _ s (dp_bools e)
theorem IsDs.nil : IsDs K tNil σ H [] := fun Q q => q H [] (Same.refl H) .nil
theorem IsDs.cons (h : IsD K te σ H d) (ht : ∀ H', Same H H' → IsDs K ta σ H' ds) : IsDs K (tCons te ta) σ H (d :: ds) := fun Q q => h _ fun H1 v s1 h1 => ht H1 s1 _ fun H2 vs s2 h2 => q H2 _ (s1.trans s2) (.cons (dp_same s2 h1) h2)
theorem IsDs.tup (h : IsDs K ta σ H ds) (hn : ds.length ≤ 1000) : IsD K (tTup ta) σ H (.tuple ds) := fun Q q => h _ fun H1 vs s1 h1 => ⟨by rw [dp_len h1]; exact Nat.le_of_lt (small1000 hn), fun a na => q _ _ (s1.trans (same_new na)) (.tup (SqT.of upd_same) (dp_sameA (same_new na) h1))⟩
theorem IsDs.lst (h : IsDs K ta σ H ds) (hn : ds.length ≤ 1000) : IsD K (tLst ta) σ H (.list ds) := fun Q q => h _ fun H1 vs s1 h1 => ⟨by rw [dp_len h1]; exact Nat.le_of_lt (small1000 hn), fun a na => q _ _ (s1.trans (same_new na)) (.lst (SqL.of upd_same) (dp_sameA (same_new na) h1))⟩
theorem IsD.eq (h : IsD K te σ H d) (h2 : ∀ H', Same H H' → IsD K tb σ H' e) (s1 : SeqAt.shaped d = true) (s2 : SeqAt.shaped e = true) : Say (tOp (rEqD K) te tb) σ H (PyData.eqv d e) := fun Q q => h _ fun H1 v t1 d1 => h2 H1 t1 _ fun H2 u t2 d2 => ⟨d, e, dp_same t2 d1, d2, s1, s2, q H2 (t1.trans t2)⟩
theorem IsD.ne (h : IsD K te σ H d) (h2 : ∀ H', Same H H' → IsD K tb σ H' e) (s1 : SeqAt.shaped d = true) (s2 : SeqAt.shaped e = true) : Say (tOp (rNeD K) te tb) σ H (!PyData.eqv d e) := fun Q q => h _ fun H1 v t1 d1 => h2 H1 t1 _ fun H2 u t2 d2 => ⟨d, e, dp_same t2 d1, d2, s1, s2, q H2 (t1.trans t2)⟩
theorem IsD.eqS (h : IsD K te σ H d) (h2 : ∀ H', Same H H' → IsD K tb σ H' d) (s1 : SeqAt.shaped d = true) (hp : plainD d = true) : Say (tOp (rEqD K) te tb) σ H true := Say.of (IsD.eq h h2 s1 s1) (eqv_self d hp)
theorem IsD.neS (h : IsD K te σ H d) (h2 : ∀ H', Same H H' → IsD K tb σ H' d) (s1 : SeqAt.shaped d = true) (hp : plainD d = true) : Say (tOp (rNeD K) te tb) σ H false := Say.of (IsD.ne h h2 s1 s1) (by rw [eqv_self d hp]; rfl)
theorem plain_bools : ∀ bs : List Bool, plainA (bs.map PyData.bool) = true
  | [] => rfl
  | b :: l => by unfold List.map plainA; rw [plain_bools l]; rfl
end
/-! ### comprehensions of tests -/
section
variable {σ : L2.St} {H : Hp} {te : TE} {K : PySem.W.Frag} {i : Nat} {vs : List Nat} {n : Nat} {f : Nat → Bool} {z : Str} {g : Nat → Bool}
theorem BlsL.range {lo : Int} {wi : TI} (hi : ∀ R : It → Hp → Prop, R (Itr lo n) H → wi σ H R) (hn : n ≤ 1000) (hw : ∀ v, wipe ((wipe σ vs).set i (some v)) vs = wipe σ vs) (hs : ∀ (k : Nat) (H' : Hp), k < n → Same H H' → Say te ((wipe σ vs).set i (some (.int (lo + k)))) H' (f k)) :
    BlsL (tLc wi (gName i) tYes te vs) σ H ((List.range n).map f) := fun Q q => hi _ fun D hD => by
  refine lc_it walk_range (Pv := fun j H' => Same H H' ∧ H' D = some (.lst (((List.range j).map f).map V.bl))) ⟨same_new hD, upd_same⟩ (fun _ _ _ _ => trivial) (fun j x H1 H2 hj hp hy => ?_) (fun H1 hp => ?_)
  · obtain ⟨rfl, rfl⟩ := hy
    obtain ⟨sm, eD⟩ := hp
    refine ⟨hw _, ?_⟩
    refine hs j _ hj sm _ fun H3 s3 => ⟨_, s3 _ _ eD, ?_, fun b o e => ?_, ?_⟩
    · rw [List.length_map, List.length_map, List.length_range]
      exact small1000 (by omega)
    · rw [upd_ne (ne_of_none e hD)]
      exact s3 _ _ (sm b o e)
    · rw [upd_same, List.range_succ, List.map_append, List.map_append]
      rfl
  · obtain ⟨sm, eD⟩ := hp
    exact q H1 D sm eD
theorem BlsL.str (hv : Giv te σ H (.str z)) {tb : TE} (hz : z.length ≤ 1000) (hw : ∀ v, wipe ((wipe σ vs).set i (some v)) vs = wipe σ vs) (hs : ∀ (c : Nat) (H' : Hp), Same H H' → Say tb ((wipe σ vs).set i (some (.str ⟨#[c]⟩))) H' (g c)) :
    BlsL (tLc (iStr te) (gName i) tYes tb vs) σ H (z.cps.toList.map g) := fun Q q => hv _ ⟨z, rfl, fun D hD => by
  refine lc_it walk_str (Pv := fun j H' => Same H H' ∧ H' D = some (.lst (((z.cps.toList.take j).map g).map V.bl))) ⟨same_new hD, upd_same⟩ (fun _ _ _ _ => trivial) (fun j x H1 H2 hj hp hy => ?_) (fun H1 hp => ?_)
  · obtain ⟨rfl, ch, ec, rfl⟩ := hy
    obtain ⟨sm, eD⟩ := hp
    refine ⟨hw _, ?_⟩
    refine hs ch _ sm _ fun H3 s3 => ⟨_, s3 _ _ eD, ?_, fun b o e => ?_, ?_⟩
    · rw [List.length_map, List.length_map, List.length_take]
      have : z.cps.toList.length = z.length := rfl
      exact small1000 (by omega)
    · rw [upd_ne (ne_of_none e hD)]
      exact s3 _ _ (sm b o e)
    · have ec2 : z.cps.toList[j]? = some ch := by rw [Array.getElem?_toList]; exact ec
      rw [upd_same, take_snoc ec2, List.map_append, List.map_append]
      rfl
  · obtain ⟨sm, eD⟩ := hp
    rw [show z.cps.toList.take z.cps.size = z.cps.toList from List.take_of_length_le (Nat.le_refl _)] at eD
    exact q H1 D sm eD⟩
end
end Gj

/-! own layer: methods of own classes by place and by keywords, len of an instance -/
namespace Gj
open PySem PySem.Spec PyProof.Rows L2
open C8 (Cal pe_c pe_gc)
theorem fun_of {K : PySem.W.Frag} {x q : Str} {st : Stmt} {kws : List (Str × V)} {f : Addr} {fd : FuncData} (F : FunD K x q (defArgs st) (defBody st) (defScope st) [] kws f fd) : Fun K x q st f fd := by
  obtain ⟨oc, od, dV, kV, doc, pm, an, cdv, ct, osl, rfl, lk, hcd, hD, hK⟩ := F.ex
  rcases hD with ⟨_, rfl⟩ | ⟨e, _⟩
  · exact ⟨⟨oc, od, kV, doc, pm, an, cdv, ct, osl, rfl, lk, hcd⟩, F.kp⟩
  · exact absurd rfl e
/-- the method m of the class at C: its text st, its keyword-only defaults kws -/
def MAt (K : PySem.W.Frag) (C : Addr) (m q : Str) (st : Stmt) (kws : List (Str × V)) : Prop := ∃ f fd, FunD K m q (defArgs st) (defBody st) (defScope st) [] kws f fd ∧ Meth K C m f
/-- what the method promises -/
def MthF (P : Program) (w : World) (K : PySem.W.Frag) (mg : Str → Option Value) (base : Heap) (k : Nat) (C : Addr) (m q : Str) (st : Stmt) (kws : List (Str × V)) (ps : List Str) (sp : Sp) : Prop :=
  ∃ f fd, FunD K m q (defArgs st) (defBody st) (defScope st) [] kws f fd ∧ Meth K C m f ∧ FnOk P w K mg base CX0 k f fd ps sp
/-- .. called by places, dvs its keyword-only defaults -/
def Mth (P : Program) (w : World) (K : PySem.W.Frag) (mg : Str → Option Value) (base : Heap) (k : Nat) (C : Addr) (m : Str) (sp : Sp) (dvs : List V) : Prop :=
  ∃ f fd ps ds, FnOk P w K mg base CX0 k f fd ps sp ∧ Meth K C m f ∧ Binds K fd ps ds ∧ Vals dvs ds
/-- .. by keywords alone -/
def MthK (P : Program) (w : World) (K : PySem.W.Frag) (mg : Str → Option Value) (base : Heap) (k : Nat) (C : Addr) (m : Str) (sp : Sp) (ks : List Str) (gV : V → List V → List V) : Prop :=
  ∃ (f : Addr) (fd : FuncData) (ps : List Str) (g : List Value → List Value → List Value), FnOk P w K mg base CX0 k f fd ps sp ∧ Meth K C m f ∧ KBn K fd ps 1 ks g (fun vs zs => gV (vs.headD .non) zs)
section
variable {P : Program} {w : World} {K : PySem.W.Frag} {mg : Str → Option Value} {base : Heap} {C : Addr} {m q : Str} {st : Stmt} {kws : List (Str × V)} {ps : List Str} {k : Nat} {sp : Sp}
theorem mkMthF {N : List Str} (D : MAt K C m q st kws) (S : FnScope N ps (defScope st)) (len : ∀ vs H Q E, sp vs H Q E → vs.length = ps.length)
    (hbody : ∀ (f : Addr) (cdv : Value) (A : Around) (outer : List Env) (s : Shared) (H : Hp) (vs : List V) (Q : VK) (E : XK), Room k (A.deeper (envOfC q (defScope st) s.heap.objs.size f cdv)) → sp vs H Q E →
      ∃ t, PSs (cxOf CX0 P w K mg base N q (defScope st) f cdv A outer s H E).nox (defBody st) t ∧ t { nx := fun _ H' => Q .non H', rt := Q } (start N vs) H) : MthF P w K mg base (k + 1) C m q st kws ps sp := by
  obtain ⟨f, fd, F, g⟩ := D
  exact ⟨f, fd, F, g, (fun_of F).ok S len (hbody f)⟩
theorem MthF.byPlace (c : MthF P w K mg base k C m q st kws ps sp) (hb : ∀ (kV doc pm : Value) (an : Option Addr) (cdv ct : Value) (us : List Value), us.length = ps.length → bindArgs (PySem.W.fnOf m q (defArgs st) (defBody st) (defScope st) .none kV doc pm an cdv ct) ⟨us, []⟩ = pure (ps.zip us)) : Mth P w K mg base k C m sp [] := by
  obtain ⟨f, fd, F, g, h⟩ := c
  exact ⟨f, fd, ps, [], h, g, F.bindsN hb, .nil⟩
theorem MthF.byDefault (c : MthF P w K mg base k C m q st kws ps sp) (n : Nat) (hk : kws ≠ []) (hn : n + kws.length = ps.length)
    (hb : ∀ (D : Addr) (doc pm : Value) (an : Option Addr) (cdv ct : Value) (us ks : List Value), us.length = n → ks.length = kws.length → KwChain D ((kws.map (·.1)).zip ks) (bindArgs (PySem.W.fnOf m q (defArgs st) (defBody st) (defScope st) .none (.ref D) doc pm an cdv ct) ⟨us, []⟩) (ps.zip (us ++ ks))) : Mth P w K mg base k C m sp (kws.map (·.2)) := by
  obtain ⟨f, fd, F, g, h⟩ := c
  obtain ⟨ds, r, b⟩ := F.binds0 n hk hn hb
  exact ⟨f, fd, ps, ds, h, g, b, r⟩
theorem MthF.byKeys (c : MthF P w K mg base k C m q st kws ps sp) {ks : List Str} {g : Value → List Value → List Value} {gV : V → List V → List V}
    (hb : ∀ (kV doc pm : Value) (an : Option Addr) (cdv ct : Value) (u : Value) (ws : List Value), ws.length = ks.length → bindArgs (PySem.W.fnOf m q (defArgs st) (defBody st) (defScope st) .none kV doc pm an cdv ct) ⟨[u], ks.zip ws⟩ = pure (ps.zip (g u ws)))
    (hv : ∀ {v : V} {u : Value} {zs : List V} {ws : List Value}, RelV v u → Vals zs ws → Vals (gV v zs) (g u ws)) : MthK P w K mg base k C m sp ks gV := by
  obtain ⟨f, fd, F, a, h⟩ := c
  obtain ⟨oc, od, kV, doc, pm, an, cdv, ct, osl, rfl, lk, hcd⟩ := (fun_of F).ex
  refine ⟨f, _, ps, fun us ws => g (us.headD .none) ws, h, a, ⟨fun s us ws kx l1 l2 => ?_, fun {vs us zs ws} r rz => ?_⟩⟩
  · match us, l1 with
    | [u], _ => exact BindsTo.of_looks fun M => PySem.W.Looks.of_pure (hb kV doc pm an cdv ct u ws l2)
  · cases r with
    | nil => exact hv rfl rz
    | cons r t => exact hv r rz
end
section
variable {X : Cx} {k j : Nat} {C : Addr} {m : Str} {sp : Sp} {dvs : List V} {o e : Expr} {es : List Expr} {kws : List Keyword} {ks : List Str} {gV : V → List V → List V} {ta : TE} {t tk : TA} {apos pos : Pos}
/-- o.m(e, ..) -/
theorem pe_m {pl : Sem Bool} (he : PE X o ta) (c : Cls X.K C) (h : Mth X.prog X.w X.K X.mg X.base k C m sp dvs) (hr : Room j X.A) (hk : k ≤ j) (ha : PA X (e :: es) t)
    (hst : starEach (e :: es) X.env = (false, eval e X.env) :: starEach es X.env := by rfl) (hpl : (backTo pos (starEach es X.env)).any (·.1) = false := by rfl)
    (ht : eval (.Call (.Attribute o m apos) (e :: es) [] pos) X.env = (do
      let ov ← eval o X.env
      standAt apos.atName
      let (f, first) ← holding [ov] (getMethod ov m pl)
      callWith pos f first (backTo pos (starEach (e :: es) X.env)) (backToKw pos (keywordEach [] X.env))) := by rfl) : PE X (.Call (.Attribute o m apos) (e :: es) [] pos) (tMeth C m sp dvs C8.E0 ta t) := by
  obtain ⟨f, fd, ps, ds, F, hm, hb, hd⟩ := h
  exact pe_meth he c hm F (hr.mono hk) hb hd pass0 ha hst hpl ht
/-- o.m() -/
theorem pe_m0 {pl : Sem Bool} (he : PE X o ta) (c : Cls X.K C) (h : Mth X.prog X.w X.K X.mg X.base k C m sp dvs) (hr : Room j X.A) (hk : k ≤ j)
    (ht : eval (.Call (.Attribute o m apos) [] [] pos) X.env = (do
      let ov ← eval o X.env
      standAt apos.atName
      let (f, first) ← holding [ov] (getMethod ov m pl)
      callWith pos f first (backTo pos (starEach [] X.env)) (backToKw pos (keywordEach [] X.env))) := by rfl) : PE X (.Call (.Attribute o m apos) [] [] pos) (tMeth C m sp dvs C8.E0 ta tNil) := by
  obtain ⟨f, fd, ps, ds, F, hm, hb, hd⟩ := h
  exact pe_meth0 he c hm F (hr.mono hk) hb hd pass0 ht
def tMethK (C : Addr) (m : Str) (n : Nat) (sp : Sp) (gV : V → List V → List V) (ta : TE) (tk : TA) : TE := fun σ H Q => ta σ H fun x H1 => ∃ a dx fs, x = .ref a ∧ H1 a = some (.ins C dx fs) ∧ fs.lookup m = none ∧ tk σ H1 fun zs H2 => zs.length = n ∧ sp (gV x zs) H2 Q C8.E0
/-- o.m(k = v, ..) -/
theorem pe_mK {pl : Sem Bool} (he : PE X o ta) (c : Cls X.K C) (h : MthK X.prog X.w X.K X.mg X.base k C m sp ks gV) (hr : Room j X.A) (hk : k ≤ j) (hkw : PK X kws tk)
    (hall : (backToKw pos (keywordEach kws X.env)).all (·.1.isSome) = true := by rfl) (hks : (backToKw pos (keywordEach kws X.env)).filterMap (·.1) = ks := by rfl)
    (hpl : ((backTo pos (starEach [] X.env)).any (·.1) || (backToKw pos (keywordEach kws X.env)).any (·.1.isNone)) = false := by rfl)
    (ht : eval (.Call (.Attribute o m apos) [] kws pos) X.env = (do
      let ov ← eval o X.env
      standAt apos.atName
      let (f, first) ← holding [ov] (getMethod ov m pl)
      callWith pos f first (backTo pos (starEach [] X.env)) (backToKw pos (keywordEach kws X.env))) := by rfl) : PE X (.Call (.Attribute o m apos) [] kws pos) (tMethK C m ks.length sp gV ta tk) := by
  obtain ⟨f, fd, ps, g, F, hm, hb⟩ := h
  refine ⟨fun pins s σ H Q I h => ?_⟩
  refine PySem.W.methodCall_KW (pl := pl) (thn (he.run pins s σ H _ I h) fun u s1 ⟨x, H1, I1, rx, a, dx, fs, ex, ea, l, q⟩ => ?_) ht
  subst ex
  obtain rfl : u = Value.ref a := rx
  refine getmeth_ok I1 ea c hm l (PySem.W.callWith_KW0 (first := [.ref a]) (h₀ := X.base) I.ok.mod.kin hm.kp hall ?_ hpl)
  refine thn (hkw.run pos pins s1 σ H1 _ I1 q) fun ws s2 ⟨zs, H2, I2, rz, l2, q2⟩ => ⟨I2.kIn, ?_⟩
  rw [hks]
  exact run_fnN (us := [.ref a]) (vs := [.ref a]) F (hr.mono hk) hb pass0 I2 (.cons rfl .nil) rz rfl l2 q2
end
/-! ### len of an instance -/
section
variable {X : Cx} {k j : Nat} {C : Addr} {sp : Sp}
def rLenO (C : Addr) (sp : Sp) : List V → Hp → VK → Prop := fun vs H Q => ∃ a dx fs, vs = [.ref a] ∧ H a = some (.ins C dx fs) ∧ sp [.ref a] H (fun v H' => ∃ n : Nat, v = .int n ∧ n ≤ sizeLine ∧ Q (.int n) H') C8.E0
theorem call_lenO (h : Mth X.prog X.w X.K X.mg X.base k C "__len__" sp []) (hr : Room j X.A) (hk : k + 1 ≤ j) : CallR X (.builtin "len") (rLenO C sp) := by
  intro pins s σ H xs us Q I r hq
  obtain ⟨a, dx, fs, rfl, ha, q⟩ := hq
  obtain ⟨u, rfl, rfl⟩ := vals1 r
  obtain ⟨f, fd, ps, ds, F, hm, hb, hd⟩ := h
  cases hd
  obtain ⟨mA, J, _⟩ := ins_get I.hok ha
  obtain ⟨od, J, _⟩ := J.look
  obtain ⟨mm, hF⟩ := I.fr
  refine PySem.W.len_K hF I.ok.mod.kin J hm.at_ hm.fn ?_
  have hl := F.len _ _ _ _ q
  have e0 : Env0 X.prog X.w X.K X.mg X.base X.A.in1 X.stack s H := by
    have e := I.env0
    exact ⟨e.frames, e.mod, e.bs, e.bsz, e.funs, e.frf, e.hok, e.bare⟩
  have r2 : Vals [V.ref a] [Value.ref a] := .cons rfl .nil
  refine wpAny_call (codeAny_mono (F.run X.A.in1 X.stack s H ⟨[.ref a], []⟩ [.ref a] [.ref a] _ C8.E0 ((hr.mono hk).in1) e0 (by simpa using hb s [.ref a] I.kIn (by simpa using hl)) r2 q) fun r s' hq => ?_)
  cases r with
  | error e => exact pass0 pins σ H s e s' I hq
  | ok fl =>
    cases fl with
    | next => exact False.elim hq
    | brk => exact False.elim hq
    | cont => exact False.elim hq
    | ret w =>
      obtain ⟨z, H', I', rz, n, rfl, hn, q2⟩ := I.after hq
      obtain ⟨tk, rfl⟩ := rz
      refine ⟨⟨by omega, ?_⟩, .int n, H', I'.tok _, ⟨_, rfl⟩, q2⟩
      have : sizeLine = 16777216 := sizeLine_eq
      omega
end
end Gj

/-! own layer: set(xs) of a list of ints, sorted of such a set, any size -/
namespace Gj
open PySem PySem.Spec PyProof.Rows L2
open C8 (Cal pe_c pe_gc)
section
variable {prog : Program} {w : World} {A : Around} {E : Value → Shared → Prop} {s : Shared}
/-- a new set by the world's way -/
abbrev setW0 (w : World) : Obj := { cls := .type "set", dict := none, data := .set #[] 0 (.fresh 0 0 (!w.params.followText "set-order")) }
set_option maxHeartbeats 3200000 in
theorem call_set_lst {l : Addr} {items : Array Value} {ns : List Int} {Q : Value → Shared → Prop} (hh : A.handled = none) (hl : s.heap.IsList l items) (hi : IntsAre items.toList ns) (hn : ns.length ≤ 1000)
    (h : ∀ (h' : Heap) (tk c : Nat), SetR w h' s.heap.objs.size (fun j => decide (j ∈ ns)) c → c ≤ ns.length → (∀ b o, s.heap.get? b = some o → h'.get? b = some o) → Q (.ref s.heap.objs.size) { s with heap := h', toks := tk }) :
    wpAny (model prog w) A (call (.type "set") [.ref l]) Q E s := by
  have len : items.size = ns.length := by have q := IntsAre.length hi; rwa [Array.length_toList] at q
  obtain ⟨c, tl, hmro⟩ := PySem.F.called_set.mro
  have g1 := PySem.F.called_set.made; have g2 := PySem.F.called_set.sub; have g3 := PySem.F.called_set.notType; have g4 := PySem.F.called_set.canCreate; have g5 := PySem.F.typeCall_set_1 (.ref l)
  refine wpAny_call (codeAny_of_tree (show wpAny _ _ (callAny (.type "set") _) _ _ _ from wpAny_pure ⟨Code.quiet_builtin _ (by decide +kernel), codeAny_builtin PySem.F.entry_type_call ?_⟩))
  rw [Around.under_plain (weight_type_call_type "set" [.ref l] []) rfl]
  repeat (any_goals (first | assumption | wp_step))
  refine codeAny_mono (code_set_led1 (.ref l) (E := E) (Q₁ := fun obj s₁ => obj = .ref s.heap.objs.size ∧ s₁ = { s with heap := s.heap.push (setW0 w) }) ⟨rfl, rfl⟩) fun r s₁ hr => ?_
  cases r with
  | error e => exact hr
  | ok fl =>
    cases fl with
    | next => exact hr.elim
    | brk => exact hr.elim
    | cont => exact hr.elim
    | ret obj =>
      obtain ⟨rfl, rfl⟩ := hr
      have got : (s.heap.push (setW0 w)).get? s.heap.objs.size = some (setW0 w) := Heap.get?_push_size _ rfl
      have ty : Shared.TypeIs { s with heap := s.heap.push (setW0 w) } (.ref s.heap.objs.size) "set" := ⟨_, got, rfl⟩
      have i1 := PySem.F.called_set.init.lookup; have i2 := PySem.F.called_set.init.bind (.ref s.heap.objs.size)
      repeat (any_goals (first | assumption | wp_step))
      refine codeAny_mono (codeAny_call_builtin (R := wants (fun r s₂ => r = .none ∧ ∃ h' tk c, s₂ = { s with heap := h', toks := tk } ∧ SetR w h' s.heap.objs.size (fun j => decide (j ∈ ns)) c ∧ c ≤ ns.length ∧ (∀ b o, s.heap.get? b = some o → h'.get? b = some o)) E) PySem.F.called_set.init.plain PySem.F.entry_set_init (check_set_init_1 ty ?_)) fun r₂ s₂ hr₂ => ?_
      · obtain ⟨⟨oc, od, dt, sl⟩, ho, hc, nl, hd⟩ := hl
        cases hc; cases hd
        have ho2 : (s.heap.push (setW0 w)).get? l = some ⟨.type "list", od, .seq items nl, sl⟩ := Heap.get?_push_of_some _ ho
        have k1 := PySem.F.sub_list_set; have k2 := PySem.F.sub_list_frozenset
        have k3 : (Value.type "list" == Value.type "dict") = false := by decide
        have isL : (s.heap.push (setW0 w)).IsList l items := ⟨_, ho2, rfl, nl, rfl⟩
        unfold Builtin.«set.__init__» noKeywords Builtin.Frozenset.updateFrom
        generalize hPI : pyIter = PI
        wp_walk
        subst hPI
        refine wpAny_pyIter_list isL (wpAny_bind (wpAny_runValue ?_))
        have lt : l < s.heap.objs.size := Heap.lt_size ho
        have ps : (s.heap.push (setW0 w)).objs.size = s.heap.objs.size + 1 := Heap.size_push _ _
        have h3 : A.in1.in1.in1.handled = none := by simp [hh]
        refine set_update_ints ((Walks.list h3 _ l (by rw [ps]; exact Nat.ne_of_lt (Nat.lt_succ_of_lt lt)) items).toS) s.heap.objs.size (by rw [ps]; simp only [List.mem_cons, List.not_mem_nil, or_false, not_or]; exact ⟨Nat.ne_of_lt (Nat.lt_succ_self _), Nat.ne_of_gt lt⟩) ns len (by unfold scanBound; omega) (fun i v hv => ?_) (items.size - 0) 0 _ (by omega) (Nat.zero_le _)
          ⟨⟨_, Heap.get?_push_size _ rfl, rfl, rfl⟩, isL.push _⟩ ?z0 ?z1
        · have hlt : i < ns.length := by rw [← len]; exact (Array.getElem?_eq_some_iff.mp hv).1
          obtain ⟨t, e⟩ := PyProof.Rows.IntsAre.int_at hi i v (by rw [Array.getElem?_toList]; exact hv)
          exact ⟨ns[i], t, List.getElem?_eq_getElem hlt, by rw [e, List.getD_eq_getElem?_getD, List.getElem?_eq_getElem hlt]; rfl⟩
        case z0 => exact ⟨0, Nat.le_refl 0, setR_new_at (Heap.get?_push_of_some _ got)⟩
        case z1 =>
          intro s' c' hm hc' hS'
          obtain ⟨h', g', d', tk', os'⟩ := s'
          obtain rfl : g' = s.gens := hm.gens
          obtain rfl : d' = s.drawn := hm.drawn
          obtain rfl : os' = s.os := hm.os
          have hb : ∀ {b : Addr} {o : Obj}, s.heap.get? b = some o → b < s.heap.objs.size := fun e => Heap.lt_size e
          refine wpAny_pure ?_
          show wpAny _ _ (ret Value.none) _ _ _
          have tk0 : ns.take items.size = ns := by rw [len]; exact List.take_length
          exact wpAny_pure ⟨rfl, h', tk', c', rfl, by simpa [tk0] using hS', by omega, fun b o e => hm.heap b o (by rw [ps]; simp only [List.mem_cons, List.not_mem_nil, or_false, not_or]; exact ⟨Nat.ne_of_lt (hb e), Nat.ne_of_lt (Nat.lt_succ_of_lt (hb e))⟩) (Heap.get?_push_of_some _ (Heap.get?_push_of_some _ e))⟩
      · cases r₂ with
        | error e => exact hr₂
        | ok fl₂ =>
          cases fl₂ with
          | next => exact hr₂.elim
          | brk => exact hr₂.elim
          | cont => exact hr₂.elim
          | ret r =>
            obtain ⟨rfl, h', tk, c, rfl, hS', hc', hk'⟩ := hr₂
            repeat (any_goals (first | assumption | wp_step))
            exact h _ _ _ hS' hc' hk'
set_option maxHeartbeats 3200000 in
/-- sorted(s), s a set of ints of any size -/
theorem sorted_setN {a : Addr} {S : Int → Bool} {n : Nat} {Q : Value → Shared → Prop} (R : SetR w s.heap a S n) (hh : A.handled = none) (hn : n ≤ 1000)
    (hQ : ∀ s' p (out : List Value) (c : Nat) (ns : List Int), (∀ b o, s.heap.get? b = some o → s'.heap.get? b = some o) → s'.gens = s.gens → s'.os = s.os → s.heap.objs.size ≤ p →
      s'.heap.get? p = some (seqObj "list" out.toArray c) → IntsAre out ns → ns.Pairwise (· < ·) → (∀ k, k ∈ ns ↔ S k = true) → ns.length = n → Q (.ref p) s') : wpAny (model prog w) A (call (.builtin "sorted") [.ref a]) Q E s := by
  obtain ⟨o, es, ep, t, ho, hex, hd, g, nd, hm, hb, hf, hn2, hr, hl⟩ := R
  refine Calls.call_function_entry kind_sorted plain_sorted entry_sorted (args_sorted1 _) ?_
  unfold Builtin.«sorted»
  refine wpAny_bind (m := checkCount "sorted" 1 1 _) (wpAny_pure (wpAny_bind (collect_set (A := A.in1) hh ⟨o, ho, hex.1, hd⟩ hf hb hr hl fun s1 vs k1 hz g1 o1 pm => ?_)))
  have vl : vs.length = n := by rw [pm.length_eq, List.length_map, Array.length_toList]; exact hn2
  have vi : IntsAre vs (vs.map Builtin.Re.reRawOf) := ints_of vs fun v hv => by
    obtain ⟨e, he, q⟩ := List.mem_map.mp (pm.mem_iff.mp hv)
    obtain ⟨k, tk, h1, _⟩ := g e he
    exact ⟨k, tk, q ▸ h1⟩
  have pk : (vs.map Builtin.Re.reRawOf).Perm (es.toList.map keyOf) := by
    have q := pm.map Builtin.Re.reRawOf
    rwa [List.map_map] at q
  have small : vs.length ≤ sizeLine := by rw [vl, sizeLine_eq]; omega
  refine wpAny_bind (wpAny_newList ?_ small)
  have at0 : (s1.heap.push (seqObj "list" vs.toArray 0)).get? s1.heap.objs.size = some (seqObj "list" vs.toArray 0) := Heap.get?_push_size _ rfl
  refine wpAny_bind (wpAny_holding (wpAny_call_entry slot_list_sort ⟨_, at0, rfl⟩ entry_list_sort (SrtO.list_sort_ord SrtO.swo_int at0 small (fun h2 => SrtO.ints_sortable vi h2) fun out a1 a2 => ⟨_, rfl, ?_⟩) (args_list_sort _)))
  obtain ⟨b1, b2, b3⟩ := SrtO.ints_out vi a1 a2
  obtain ⟨c, hc⟩ := sortedHeap_at (vs := vs) (out := out.toArray) at0
  have pn : (out.map SrtO.iv).Perm (es.toList.map keyOf) := b2.trans pk
  refine wpAny_pure ⟨_, rfl, hQ _ s1.heap.objs.size out c _ (fun b u e => ?_) g1 o1 hz hc b1 (lt_of_le_nodup _ b3 (pn.nodup_iff.mpr nd)) (fun k => by rw [pn.mem_iff, ← hm k]) (by rw [pn.length_eq, List.length_map, Array.length_toList]; exact hn2)⟩
  have hlt := Heap.lt_size (k1 b u e)
  refine (sortedHeap_old (Nat.ne_of_lt hlt) (by rw [size_push']; exact Nat.lt_succ_of_lt hlt)).trans ?_
  exact Heap.get?_push_of_some _ (k1 b u e)
end
section
variable {X : Cx}
/-- set(xs), xs a list of ints -/
def rSetLI (w : World) (K : PySem.W.Frag) : List V → Hp → VK → Prop := fun vs H Q => ∃ (l : Addr) (ns : List Int), vs = [.ref l] ∧ SqL K H l (ns.map V.int) ∧ ns.length ≤ 1000 ∧ ∀ a c, H a = none → c ≤ ns.length → Q (.ref a) (upd H a (SetO w a (fun j => decide (j ∈ ns)) c))
theorem call_setLI (hc : X.calm = true) : CallR X (.type "set") (rSetLI X.w X.K) := by
  intro pins s σ H xs us Q I r h
  obtain ⟨l, ns, rfl, hq, hn, q⟩ := h
  obtain ⟨u, rfl, rfl⟩ := vals1 r
  obtain ⟨its, rv, pl, _⟩ := I.list hq
  have nf : H s.heap.objs.size = none := I.hok.fresh (Nat.le_refl _)
  exact call_set_lst (I.ok.hd hc) pl.isList (by simpa using rv.ints) hn fun h' tk c hS hc hk => ⟨.ref _, _, I.laid (t' := tk) hk (Nat.le_refl _) (setO_new hS), rfl, q _ c nf hc⟩
/-- sorted(s) -/
def rSortedN (w : World) : List V → Hp → VK → Prop := fun vs H Q => ∃ (a : Addr) (S : Int → Bool) (n : Nat), vs = [V.ref a] ∧ H a = some (SetO w a S n) ∧ n ≤ 1000 ∧
  ∀ (ns : List Int) (p : Addr), ns.Pairwise (· < ·) → (∀ k : Int, k ∈ ns ↔ S k = true) → H p = none → Q (.ref p) (upd H p (.lst (ns.map V.int)))
theorem cr_sortedN (hc : X.calm = true) : CallR X (.builtin "sorted") (rSortedN X.w) := by
  intro pins s σ H vs us Q I r h
  obtain ⟨a, S, n, rfl, ha, h64, q⟩ := h
  rw [Vals.ref1 r]
  refine sorted_setN (setO_get I ha) (I.ok.hd hc) h64 fun s' p out c ns k g o hp hg hi hs hm hl => ?_
  have small : (ns.map V.int).length ≤ sizeLine := by rw [List.length_map, hl, sizeLine_eq]; omega
  have hn : H p = none := I.hok.fresh hp
  have J : Inv X pins σ (upd H p (.lst (ns.map V.int))) { s with heap := s'.heap, gens := s'.gens, drawn := s'.drawn, toks := s'.toks } := I.call (ch := []) (Un.laid k hp hn) (I.hok.laid k hp ⟨small, out, c, vals_of_ints hi, hg⟩) (by rw [g]; exact I.bare) (fun _ z => nomatch z)
  obtain ⟨h', g', d', tk', os'⟩ := s'
  obtain rfl : os' = s.os := o
  exact ⟨.ref p, _, J, rfl, q ns p hs hm hn⟩
end
end Gj

/-! own layer: data that stay (texts, numbers, tuples of such), rows of a number and a datum -/
namespace Gj
open PySem PySem.Spec PyProof.Rows L2
open C8 (Cal pe_c pe_gc)
/-- tuples stay -/
def Ts (H H' : Hp) : Prop := ∀ b xs, H b = some (.tup xs) → H' b = some (.tup xs)
theorem Ts.refl {H : Hp} : Ts H H := fun _ _ h => h
theorem Ts.trans {H H1 H2 : Hp} (a : Ts H H1) (b : Ts H1 H2) : Ts H H2 := fun c o h => b c o (a c o h)
theorem Same.ts {H H' : Hp} (s : Same H H') : Ts H H' := fun b xs h => s _ _ h
/-- all stays but for what is among S -/
def Kp (S : List Addr) (H H' : Hp) : Prop := ∀ b o, b ∉ S → H b = some o → H' b = some o
theorem Kp.refl {S : List Addr} {H : Hp} : Kp S H H := fun _ _ _ h => h
theorem Kp.trans {S : List Addr} {H H1 H2 : Hp} (a : Kp S H H1) (b : Kp S H1 H2) : Kp S H H2 := fun c o n h => b c o n (a c o n h)
theorem Kp.mono {S T : List Addr} {H H1 : Hp} (a : Kp S H H1) (h : ∀ x ∈ S, x ∈ T) : Kp T H H1 := fun c o n e => a c o (fun m => n (h c m)) e
theorem Same.kp {S : List Addr} {H H' : Hp} (s : Same H H') : Kp S H H' := fun b o _ h => s _ _ h
theorem Keep.kp {p : Addr} {S : List Addr} {H H' : Hp} (k : Keep p H H') (h : p ∈ S) : Kp S H H' := fun b o n e => k b o (fun z => n (z ▸ h)) e
theorem Kp.upd {S : List Addr} {H : Hp} {l : Addr} {o : HO} (h : l ∈ S) : Kp S H (upd H l o) := fun b x n e => by
  have hb : b ≠ l := fun z => n (by rw [z]; exact h)
  rw [upd_ne hb]
  exact e
/-- lists are at S -/
def Ls (S : List Addr) (H : Hp) : Prop := ∀ a ∈ S, ∀ xs, H a ≠ some (.tup xs)
theorem Kp.ts {S : List Addr} {H H' : Hp} (k : Kp S H H') (l : Ls S H) : Ts H H' := fun b xs h => k b _ (fun m => l b m xs h) h
theorem ls_one {a : Addr} {xs : List V} {H : Hp} (h : H a = some (.lst xs)) : Ls [a] H := fun b m ys e => by
  rw [List.mem_singleton.mp m, h] at e
  cases e
mutual
inductive Im (H : Hp) : V → PyData → Prop
  | non : Im H .non .none
  | int (i : Int) : Im H (.int i) (.int i)
  | str (x : Str) : Im H (.str x) (.str x)
  | tup {a : Addr} {xs : List V} {ds : List PyData} : H a = some (.tup xs) → ImAll H xs ds → Im H (.ref a) (.tuple ds)
inductive ImAll (H : Hp) : List V → List PyData → Prop
  | nil : ImAll H [] []
  | cons {v : V} {vs : List V} {d : PyData} {ds : List PyData} : Im H v d → ImAll H vs ds → ImAll H (v :: vs) (d :: ds)
end
section
variable {H H' : Hp} {K : PySem.W.Frag}
mutual
theorem Im.ts (t : Ts H H') : ∀ {v : V} {d : PyData}, Im H v d → Im H' v d
  | _, _, .non => .non
  | _, _, .int i => .int i
  | _, _, .str x => .str x
  | _, _, .tup e h => .tup (t _ _ e) (ImAll.ts t h)
theorem ImAll.ts (t : Ts H H') : ∀ {vs : List V} {ds : List PyData}, ImAll H vs ds → ImAll H' vs ds
  | _, _, .nil => .nil
  | _, _, .cons a b => .cons (Im.ts t a) (ImAll.ts t b)
end
theorem Im.same {v : V} {d : PyData} (h : Im H v d) (s : Same H H') : Im H' v d := h.ts (Same.ts s)
mutual
theorem Im.dp : ∀ {v : V} {d : PyData}, Im H v d → Dp K H v d
  | _, _, .non => .non
  | _, _, .int i => .int i
  | _, _, .str x => .str x
  | _, _, .tup e h => .tup (SqT.of e) (ImAll.dp h)
theorem ImAll.dp : ∀ {vs : List V} {ds : List PyData}, ImAll H vs ds → DpAll K H vs ds
  | _, _, .nil => .nil
  | _, _, .cons a b => .cons (Im.dp a) (ImAll.dp b)
end
/-- what draws and lays keeps tuples -/
theorem Drawn.ts {p : Addr} (r : Drawn p H H') (h : Pot H p) : Ts H H' := fun b xs e => r.keep _ _ (by
  rintro rfl
  obtain ⟨a, c, e2, _⟩ := h
  rw [e] at e2
  cases e2) e
/-! ### rows -/
inductive RowsAt (H : Hp) : List V → List Row → Prop
  | nil : RowsAt H [] []
  | cons {t : Addr} {v : V} {r : Row} {xs : List V} {T : List Row} : H t = some (.tup [.int r.1, v]) → Im H v r.2 → RowsAt H xs T → RowsAt H (.ref t :: xs) (r :: T)
theorem RowsAt.ts (t : Ts H H') : ∀ {xs : List V} {T : List Row}, RowsAt H xs T → RowsAt H' xs T
  | _, _, .nil => .nil
  | _, _, .cons e i h => .cons (t _ _ e) (i.ts t) (RowsAt.ts t h)
theorem RowsAt.same {xs : List V} {T : List Row} (h : RowsAt H xs T) (s : Same H H') : RowsAt H' xs T := h.ts (Same.ts s)
theorem RowsAt.len : ∀ {xs : List V} {T : List Row}, RowsAt H xs T → xs.length = T.length
  | _, _, .nil => rfl
  | _, _, .cons _ _ h => congrArg Nat.succ h.len
theorem RowsAt.append : ∀ {xs ys : List V} {T U : List Row}, RowsAt H xs T → RowsAt H ys U → RowsAt H (xs ++ ys) (T ++ U)
  | _, _, _, _, .nil, g => g
  | _, _, _, _, .cons e i h, g => .cons e i (h.append g)
theorem RowsAt.take : ∀ {xs : List V} {T : List Row} (n : Nat), RowsAt H xs T → RowsAt H (xs.take n) (T.take n)
  | _, _, 0, _ => .nil
  | _, _, n + 1, .nil => .nil
  | _, _, n + 1, .cons e i h => .cons e i (h.take n)
theorem RowsAt.drop : ∀ {xs : List V} {T : List Row} (n : Nat), RowsAt H xs T → RowsAt H (xs.drop n) (T.drop n)
  | _, _, 0, h => h
  | _, _, n + 1, .nil => .nil
  | _, _, n + 1, .cons _ _ h => h.drop n
theorem RowsAt.erase : ∀ {xs : List V} {T : List Row} (n : Nat), RowsAt H xs T → RowsAt H (xs.eraseIdx n) (T.eraseIdx n)
  | _, _, _, .nil => .nil
  | _, _, 0, .cons _ _ h => h
  | _, _, n + 1, .cons e i h => .cons e i (h.erase n)
theorem RowsAt.get : ∀ {xs : List V} {T : List Row} {i : Nat} {x : V}, RowsAt H xs T → xs[i]? = some x → ∃ t v r, x = .ref t ∧ T[i]? = some r ∧ H t = some (.tup [.int r.1, v]) ∧ Im H v r.2
  | _, _, i, x, .nil, e => by simp at e
  | _, _, 0, x, .cons e i h, q => by
    have q : _ = x := Option.some.inj q
    subst q
    exact ⟨_, _, _, rfl, rfl, e, i⟩
  | _, _, n + 1, x, .cons _ _ h, q => RowsAt.get h (i := n) q
def rowD (r : Row) : PyData := .tuple [.int r.1, r.2]
theorem row_im {t : Addr} {v : V} {r : Row} (e : H t = some (.tup [.int r.1, v])) (i : Im H v r.2) : Im H (.ref t) (rowD r) := .tup e (.cons (.int _) (.cons i .nil))
theorem RowsAt.dp : ∀ {xs : List V} {T : List Row}, RowsAt H xs T → DpAll K H xs (T.map rowD)
  | _, _, .nil => .nil
  | _, _, .cons e i h => .cons (row_im e i).dp h.dp
/-- the numbers of rows -/
theorem RowsAt.filter {f : Row → Bool} {g : V → Bool} : ∀ {xs : List V} {T : List Row}, RowsAt H xs T → (∀ (t : Addr) (v : V) (r : Row), H t = some (.tup [.int r.1, v]) → g (.ref t) = f r) → RowsAt H (xs.filter g) (T.filter f)
  | _, _, .nil, _ => .nil
  | _, _, @RowsAt.cons _ t v r _ _ e i h, hg => by
    rw [List.filter_cons, List.filter_cons, hg t v r e]
    by_cases c : f r = true
    · rw [if_pos c, if_pos c]
      exact .cons e i (h.filter hg)
    · rw [if_neg c, if_neg c]
      exact h.filter hg
end
/-! ### comprehensions that choose -/
/-- the truth of its number -/
def onNum (H : Hp) (f : Int → Bool) (x : V) : Bool := match x with
  | .ref t => (match H t with
    | some (.tup [.int n, _]) => f n
    | _ => false)
  | _ => false
theorem onNum_at {H : Hp} {f : Int → Bool} {t : Addr} {v : V} {n : Int} (e : H t = some (.tup [.int n, v])) : onNum H f (.ref t) = f n := by
  unfold onNum
  dsimp only
  rw [e]
theorem lc_choose {K : PySem.W.Frag} {c : Addr} {xs : List V} {σ : L2.St} {H : Hp} {te : TE} {tt : TT} {i : Nat} {f : V → Bool} {vs : List Nat} (hv : Giv te σ H (.ref c)) (hc : SqL K H c xs) (hl : xs.length ≤ 1000)
    (hw : ∀ v, wipe ((wipe σ vs).set i (some v)) vs = wipe σ vs) (hi : ∀ v, ((wipe σ vs).set i (some v))[i]? = some (some v))
    (ht : ∀ (k : Nat) (x : V) (H' : Hp), xs[k]? = some x → Same H H' → SayT tt ((wipe σ vs).set i (some x)) H' (f x)) {Q : VK} (q : ∀ (D : Addr) (H' : Hp), H D = none → Same H H' → H' D = some (.lst (xs.filter f)) → Q (.ref D) H') :
    tLc (iList K te) (gName i) tt (tVar i) vs σ H Q := hv _ ⟨c, rfl, ⟨xs, hc⟩, fun D hD => by
  refine lc_list (K := K) (a := c) (xs := xs) (fun j H' => Same H H' ∧ H' D = some (.lst ((xs.take j).filter f))) ⟨same_new hD, upd_same⟩ (fun j H' _ hp => hp.1.seq hc) (fun j x H1 hx hp => ?_) (fun H1 hp => ?_)
  · obtain ⟨sm, eD⟩ := hp
    refine ⟨hw _, ht j x _ hx sm _ fun H2 s2 => ?_⟩
    have fx : (xs.take (j + 1)).filter f = (xs.take j).filter f ++ [x].filter f := by rw [take_snoc hx, List.filter_append]
    cases e : f x with
    | true =>
      refine iteT ⟨_, hi _, _, s2 _ _ eD, ?_, fun b o h => ?_, ?_⟩
      · have l1 := List.length_filter_le f (xs.take j)
        have l2 : (xs.take j).length ≤ xs.length := by rw [List.length_take]; exact Nat.min_le_right _ _
        exact small1000 (by omega)
      · rw [upd_ne (ne_of_none h hD)]
        exact s2 _ _ (sm b o h)
      · rw [upd_same, fx, List.filter_cons, if_pos e]
        rfl
    | false =>
      refine iteF ⟨sm.trans s2, ?_⟩
      rw [s2 _ _ eD, fx, List.filter_cons, if_neg (by rw [e]; decide), List.filter_nil, List.append_nil]
  · obtain ⟨sm, eD⟩ := hp
    rw [List.take_of_length_le (Nat.le_refl _)] at eD
    exact q D H1 hD sm eD⟩
/-- [row[0] for row in rows] -/
theorem lc_nums {K : PySem.W.Frag} {c : Addr} {xs : List V} {σ : L2.St} {H : Hp} {te : TE} {i : Nat} {T : List Row} {vs : List Nat} (hv : Giv te σ H (.ref c)) (hc : SqL K H c xs) (hr : RowsAt H xs T) (hl : xs.length ≤ 1000)
    (hw : ∀ v, wipe ((wipe σ vs).set i (some v)) vs = wipe σ vs) (hi : ∀ v, ((wipe σ vs).set i (some v))[i]? = some (some v)) {Q : VK} (q : ∀ (D : Addr) (H' : Hp), H D = none → Same H H' → H' D = some (.lst ((T.map (·.1)).map V.int)) → Q (.ref D) H') :
    tLc (iList K te) (gName i) tYes (tOp (rIxT K) (tVar i) (tC (.int 0))) vs σ H Q := hv _ ⟨c, rfl, ⟨xs, hc⟩, fun D hD => by
  refine lc_list (K := K) (a := c) (xs := xs) (fun j H' => Same H H' ∧ H' D = some (.lst (((T.take j).map (·.1)).map V.int))) ⟨same_new hD, upd_same⟩ (fun j H' _ hp => hp.1.seq hc) (fun j x H1 hx hp => ?_) (fun H1 hp => ?_)
  · obtain ⟨sm, eD⟩ := hp
    obtain ⟨t, v, r, rfl, er, et, _⟩ := hr.get hx
    refine ⟨hw _, _, hi _, t, _, 0, _, rfl, rfl, SqT.of (sm _ _ et), atI_nat (j := 0) rfl, _, eD, ?_, fun b o h => ?_, ?_⟩
    · rw [List.length_map, List.length_map, List.length_take]
      have := hr.len
      exact small1000 (by omega)
    · rw [upd_ne (ne_of_none h hD)]
      exact sm b o h
    · rw [upd_same, take_snoc er, List.map_append, List.map_append]
      rfl
  · obtain ⟨sm, eD⟩ := hp
    rw [List.take_of_length_le (by rw [hr.len]; exact Nat.le_refl _)] at eD
    exact q D H1 hD sm eD⟩
/-! ### equality of data without truths -/
mutual
def nb : PyData → Bool
  | .bool _ => false
  | .dict _ => false
  | .list ds => nbA ds
  | .tuple ds => nbA ds
  | _ => true
def nbA : List PyData → Bool
  | [] => true
  | d :: ds => nb d && nbA ds
end
mutual
theorem eqv_nb : ∀ (d e : PyData), nb d = true → nb e = true → (PyData.eqv d e = true ↔ d = e)
  | .none, e, _, h => by cases e <;> simp [PyData.eqv] <;> simp [nb] at h
  | .bool b, e, h, _ => by simp [nb] at h
  | .int i, e, _, h => by cases e <;> simp [PyData.eqv] <;> simp [nb] at h
  | .str x, e, _, h => by cases e <;> simp [PyData.eqv] <;> simp [nb] at h
  | .list ds, e, h1, h2 => by
    cases e with
    | list es =>
      unfold PyData.eqv
      rw [eqvA_nb ds es (by simpa [nb] using h1) (by simpa [nb] using h2)]
      simp
    | _ => simp [PyData.eqv]
  | .tuple ds, e, h1, h2 => by
    cases e with
    | tuple es =>
      unfold PyData.eqv
      rw [eqvA_nb ds es (by simpa [nb] using h1) (by simpa [nb] using h2)]
      simp
    | _ => simp [PyData.eqv]
  | .dict _, e, h, _ => by simp [nb] at h
theorem eqvA_nb : ∀ (ds es : List PyData), nbA ds = true → nbA es = true → (PyData.eqvAll ds es = true ↔ ds = es)
  | [], [], _, _ => by simp [PyData.eqvAll]
  | [], _ :: _, _, _ => by simp [PyData.eqvAll]
  | _ :: _, [], _, _ => by simp [PyData.eqvAll]
  | d :: ds, e :: es, h1, h2 => by
    unfold nbA at h1 h2
    obtain ⟨a1, a2⟩ := Bool.and_eq_true_iff.mp h1
    obtain ⟨b1, b2⟩ := Bool.and_eq_true_iff.mp h2
    unfold PyData.eqvAll
    rw [Bool.and_eq_true_iff, eqv_nb d e a1 b1, eqvA_nb ds es a2 b2]
    simp
end
theorem nbA_strs : ∀ zs : List Str, nbA (zs.map PyData.str) = true
  | [] => rfl
  | z :: l => by
    unfold List.map nbA
    rw [nbA_strs l]
    rfl
theorem Th.nb (t : Th) : Gj.nb t.data = true := by
  cases t with
  | letter a b w => rfl
  | echo a b s m n => rfl
  | answer a s m n h k => rfl
  | goer a n zs =>
    show nbA [.str "goer", .str a, .int (n : Int), .tuple (zs.map .str)] = true
    unfold nbA nbA nbA nbA nbA
    show (true && (true && (true && (nbA (zs.map .str) && true)))) = true
    rw [nbA_strs]
    rfl
end Gj

/-! own layer: rows are told by repr; repr of what is laid -/
namespace Gj
open PySem PySem.Spec PyProof.Rows L2
open C8 (Cal pe_c pe_gc)
theorem strOk_of {z : Str} (h : ∀ c ∈ z.cps.toList, c < 1114112) : PyData.strOk z = true := by
  unfold PyData.strOk
  rw [Array.all_eq_true]
  intro i hi
  exact decide_eq_true (h _ (by simp))
theorem NameS.ok {z : Str} (h : NameS z) : PyData.strOk z = true := strOk_of fun c hc => by
  obtain ⟨cs, rfl, _, _, h3⟩ := h.ex
  have : ∀ c ∈ ltrs, c < 1114112 := by decide +kernel
  exact this c (h3 c hc)
theorem WordS.ok {z : Str} (h : WordS z) : PyData.strOk z = true := strOk_of fun c hc => by
  obtain ⟨cs, rfl, _, _, h3⟩ := h.ex
  have : ∀ c ∈ wrds, c < 1114112 := by decide +kernel
  exact this c (h3 c hc)
theorem sorts_ok : ∀ s ∈ sorts, PyData.strOk s = true := by decide +kernel
theorem kinds_ok : PyData.strOk "letter" = true ∧ PyData.strOk "echo" = true ∧ PyData.strOk "answer" = true ∧ PyData.strOk "goer" = true := by decide +kernel
theorem canLay_strs : ∀ {zs : List Str}, (∀ z ∈ zs, NameS z) → PyData.canLayAll0 (zs.map .str) = true
  | [], _ => rfl
  | z :: l, h => by
    rw [List.map_cons]
    unfold PyData.canLayAll0 PyData.canLay0
    rw [(h z List.mem_cons_self).ok, canLay_strs fun y hy => h y (List.mem_cons_of_mem _ hy)]
    rfl
theorem Th.Good.lay {t : Th} (h : t.Good) : t.data.canLay0 = true := by
  obtain ⟨k1, k2, k3, k4⟩ := kinds_ok
  cases t with
  | letter a b w =>
    obtain ⟨h1, h2, h3⟩ := h
    simp only [Th.data, Th.parts, PyData.canLay0, PyData.canLayAll0, k1, h1.ok, h2.ok, h3.ok, Bool.and_true]
  | echo a b s m n =>
    obtain ⟨h1, h2, h3, h4, h5⟩ := h
    simp only [Th.data, Th.parts, PyData.canLay0, PyData.canLayAll0, k2, h1.ok, h2.ok, sorts_ok _ h3, h4.ok, Bool.and_true]
  | answer a s m n g k =>
    obtain ⟨h1, h2, h3, h4, h5, h6, h7⟩ := h
    simp only [Th.data, Th.parts, PyData.canLay0, PyData.canLayAll0, k3, h1.ok, sorts_ok _ h2, h3.ok, h5.ok, Bool.and_true]
  | goer a n zs =>
    obtain ⟨h1, h2, h3, h4, h5, h6⟩ := h
    simp only [Th.data, Th.parts, PyData.canLay0, PyData.canLayAll0, k4, h1.ok, canLay_strs h4, Bool.and_true]
theorem Th.Good.small {t : Th} (h : t.Good) : t.data.shown.length ≤ 20012 := by
  have nB : ∀ {z : Str}, NameS z → (PyData.shown (.str z)).length ≤ 400 := fun h => by have := str_small h.cps h.len; omega
  have kB : ∀ s ∈ (["letter", "echo", "answer", "goer"] : List Str), (PyData.shown (.str s)).length ≤ 400 := fun s hs => by have := str_small (kinds_cps s hs) (kinds_name s hs).2.1; omega
  have sB : ∀ {s : Str}, s ∈ sorts → (PyData.shown (.str s)).length ≤ 400 := fun hs => by have := str_small (sorts_cps _ hs) (sorts_name _ hs).2.1; omega
  have wB : ∀ {z : Str}, WordS z → (PyData.shown (.str z)).length ≤ 400 := fun {z} h => by
    have h2 : z.length ≤ 12 := by
      obtain ⟨cs, e, h1, h2, _⟩ := h.ex
      rw [e, SX.S_len]
      exact h2
    have := str_small h.cps h2
    omega
  have pB : ∀ {z : Str} {n : Nat}, NameS z → NumOk n → (PyData.shown (.tuple [.str z, .int n])).length ≤ 1000 := fun {z n} hz hn => by
    have := tup_small (B := 400) (ds := [.str z, .int n]) fun d hd => by
      simp only [List.mem_cons, List.not_mem_nil, or_false] at hd
      rcases hd with rfl | rfl
      · exact nB hz
      · exact int_small hn
    have e : ([PyData.str z, .int n] : List PyData).length = 2 := rfl
    rw [e] at this
    omega
  have zB : ∀ {zs : List Str}, (∀ z ∈ zs, NameS z) → zs.length ≤ 9 → (PyData.shown (.tuple (zs.map .str))).length ≤ 4000 := fun {zs} hz hl => by
    have := tup_small (B := 400) (ds := zs.map .str) fun d hd => by
      obtain ⟨z, h1, rfl⟩ := List.mem_map.mp hd
      exact nB (hz z h1)
    rw [List.length_map] at this
    have h3 : zs.length * (400 + 2) ≤ 9 * 402 := Nat.mul_le_mul_right _ hl
    omega
  have all : (∀ d ∈ t.parts, d.shown.length ≤ 4000) ∧ t.parts.length ≤ 5 := by
    cases t with
    | letter a b w =>
      obtain ⟨h1, h2, h3⟩ := h
      refine ⟨fun d hd => ?_, by show 4 ≤ 5; omega⟩
      simp only [Th.parts, List.mem_cons, List.not_mem_nil, or_false] at hd
      rcases hd with rfl | rfl | rfl | rfl
      · exact Nat.le_trans (kB _ (by decide +kernel)) (by decide)
      · exact Nat.le_trans (nB h1) (by decide)
      · exact Nat.le_trans (nB h2) (by decide)
      · exact Nat.le_trans (wB h3) (by decide)
    | echo a b s m n =>
      obtain ⟨h1, h2, h3, h4, h5⟩ := h
      refine ⟨fun d hd => ?_, by show 5 ≤ 5; omega⟩
      simp only [Th.parts, List.mem_cons, List.not_mem_nil, or_false] at hd
      rcases hd with rfl | rfl | rfl | rfl | rfl
      · exact Nat.le_trans (kB _ (by decide +kernel)) (by decide)
      · exact Nat.le_trans (nB h1) (by decide)
      · exact Nat.le_trans (nB h2) (by decide)
      · exact Nat.le_trans (sB h3) (by decide)
      · exact Nat.le_trans (pB h4 h5) (by decide)
    | answer a s m n g k =>
      obtain ⟨h1, h2, h3, h4, h5, h6, h7⟩ := h
      refine ⟨fun d hd => ?_, by show 5 ≤ 5; omega⟩
      simp only [Th.parts, List.mem_cons, List.not_mem_nil, or_false] at hd
      rcases hd with rfl | rfl | rfl | rfl | rfl
      · exact Nat.le_trans (kB _ (by decide +kernel)) (by decide)
      · exact Nat.le_trans (nB h1) (by decide)
      · exact Nat.le_trans (sB h2) (by decide)
      · exact Nat.le_trans (pB h3 h4) (by decide)
      · exact Nat.le_trans (pB h5 h7) (by decide)
    | goer a n zs =>
      obtain ⟨h1, h2, h3, h4, h5, h6⟩ := h
      refine ⟨fun d hd => ?_, by show 4 ≤ 5; omega⟩
      simp only [Th.parts, List.mem_cons, List.not_mem_nil, or_false] at hd
      rcases hd with rfl | rfl | rfl | rfl
      · exact Nat.le_trans (kB _ (by decide +kernel)) (by decide)
      · exact Nat.le_trans (nB h1) (by decide)
      · exact Nat.le_trans (int_small h3) (by decide)
      · exact zB h4 h6
  have := tup_small all.1
  have h3 : t.parts.length * (4000 + 2) ≤ 5 * 4002 := Nat.mul_le_mul_right _ all.2
  show (PyData.shown (.tuple t.parts)).length ≤ 20012
  omega
theorem Th.flat (t : Th) : t.data.depth ≤ 4 := by
  have ssA : ∀ zs : List Str, PyData.showableAll (zs.map .str) = true ∧ PyData.hasDictAll (zs.map .str) = false ∧ PyData.depthAll (zs.map .str) ≤ 1 := fun zs => by
    induction zs with
    | nil => exact ⟨rfl, rfl, by simp [PyData.depthAll]⟩
    | cons z l ih =>
      obtain ⟨i1, i2, i3⟩ := ih
      refine ⟨?_, ?_, ?_⟩
      · rw [List.map_cons, PyData.showableAll, i1]; rfl
      · rw [List.map_cons, PyData.hasDictAll, i2]; rfl
      · rw [List.map_cons]; simp only [PyData.depthAll, PyData.depth]; omega
  cases t with
    | letter a b w => simp [Th.data, Th.parts, PyData.depth, PyData.depthAll]
    | echo a b s m n => simp [Th.data, Th.parts, PyData.depth, PyData.depthAll]
    | answer a s m n g k => simp [Th.data, Th.parts, PyData.depth, PyData.depthAll]
    | goer a n zs =>
      have := (ssA zs).2.2
      simp [Th.data, Th.parts, PyData.depth, PyData.depthAll]
      omega
/-- a row that is as it should be -/
structure OkRow (B : Int) (r : Row) : Prop where
  lo : 0 ≤ r.1
  hi : r.1 ≤ B
  th : ∃ t : Th, t.Good ∧ r.2 = t.data
theorem OkRow.mono {B B' : Int} {r : Row} (h : OkRow B r) (e : B ≤ B') : OkRow B' r := ⟨h.lo, Int.le_trans h.hi e, h.th⟩
abbrev most : Int := 10000000000000000000000000000
theorem OkRow.num {r : Row} (h : OkRow most r) : ∃ n : Nat, r.1 = (n : Int) ∧ NumOk n := by
  obtain ⟨n, e⟩ := Int.eq_ofNat_of_zero_le h.lo
  refine ⟨n, e, ?_⟩
  have := h.hi
  unfold NumOk
  have e2 : (10 : Nat) ^ 31 = 10000000000000000000000000000000 := by decide
  rw [e2]
  unfold most at this
  omega
theorem OkRow.facts {r : Row} (h : OkRow most r) : (rowD r).showable = true ∧ (rowD r).hasDict = false ∧ (rowD r).depth ≤ 5 ∧ (rowD r).shown.length ≤ 40030 ∧ nb (rowD r) = true ∧ (rowD r).canLay0 = true := by
  obtain ⟨n, e, hn⟩ := h.num
  obtain ⟨t, ht, e2⟩ := h.th
  have s := ht.shows
  have fl := t.flat
  unfold rowD
  rw [e, e2]
  have d5 : (PyData.tuple [.int (n : Int), t.data]).depth ≤ 5 := by
    simp only [PyData.depth, PyData.depthAll]
    omega
  refine ⟨?_, ?_, d5, ?_, ?_, ?_⟩
  · simp only [PyData.showable, PyData.showableAll, s.show1, Bool.and_true]
    exact decide_eq_true (int_log hn)
  · simp only [PyData.hasDict, PyData.hasDictAll, s.nod, Bool.or_false]
  · have := tup_small (B := 20012) (ds := [.int (n : Int), t.data]) fun d hd => by
      simp only [List.mem_cons, List.not_mem_nil, or_false] at hd
      rcases hd with rfl | rfl
      · exact Nat.le_trans (int_small hn) (by decide)
      · exact ht.small
    have e3 : ([PyData.int (n : Int), t.data] : List PyData).length = 2 := rfl
    rw [e3] at this
    omega
  · show nbA [.int (n : Int), t.data] = true
    unfold nbA nbA nbA
    rw [t.nb]
    rfl
  · simp only [PyData.canLay0, PyData.canLayAll0, ht.lay, Bool.and_true]
/-! ### lists of rows -/
theorem rows_facts {T : List Row} (h : ∀ r ∈ T, OkRow most r) : PyData.showableAll (T.map rowD) = true ∧ PyData.hasDictAll (T.map rowD) = false ∧ PyData.depthAll (T.map rowD) ≤ 5 ∧ nbA (T.map rowD) = true ∧ PyData.canLayAll0 (T.map rowD) = true := by
  induction T with
  | nil => exact ⟨rfl, rfl, by simp [PyData.depthAll], rfl, rfl⟩
  | cons r l ih =>
    obtain ⟨i1, i2, i3, i4, i5⟩ := ih fun x hx => h x (List.mem_cons_of_mem _ hx)
    obtain ⟨f1, f2, f3, _, f5, f6⟩ := (h r List.mem_cons_self).facts
    refine ⟨?_, ?_, ?_, ?_, ?_⟩
    · rw [List.map_cons, PyData.showableAll, f1, i1]; rfl
    · rw [List.map_cons, PyData.hasDictAll, f2, i2]; rfl
    · rw [List.map_cons]; simp only [PyData.depthAll]; omega
    · rw [List.map_cons]; unfold nbA; rw [f5, i4]; rfl
    · rw [List.map_cons, PyData.canLayAll0, f6, i5]; rfl
theorem lst_small {B : Nat} {ds : List PyData} (h : ∀ d ∈ ds, d.shown.length ≤ B) : (PyData.shown (.list ds)).length ≤ ds.length * (B + 2) + 3 := by
  show (listText (PyData.shownAll ds)).length ≤ _
  rw [shownAll_map]
  have h1 := listText_len_le (ds.map PyData.shown)
  have h2 := sum_le (B := B) (l := ds.map PyData.shown) fun z hz => by
    obtain ⟨d, hd, rfl⟩ := List.mem_map.mp hz
    exact h d hd
  rw [List.length_map] at h1 h2
  rw [Nat.mul_add]
  omega
theorem rows_show {T : List Row} (h : ∀ r ∈ T, OkRow most r) (hn : T.length ≤ 300) : Shows (.list (T.map rowD)) := by
  obtain ⟨i1, i2, i3, i4, i5⟩ := rows_facts h
  refine ⟨?_, ?_, ?_, ?_⟩
  · simp only [PyData.showable, i1]
  · simp only [PyData.hasDict, i2]
  · simp only [PyData.depth]; omega
  · have := lst_small (B := 40030) (ds := T.map rowD) fun d hd => by
      obtain ⟨r, hr, rfl⟩ := List.mem_map.mp hd
      exact (h r hr).facts.2.2.2.1
    rw [List.length_map] at this
    have h3 : T.length * (40030 + 2) ≤ 300 * 40032 := Nat.mul_le_mul_right _ hn
    show _ ≤ 2 ^ 24
    omega
theorem row_show {r : Row} (h : OkRow most r) : Shows (rowD r) := by
  obtain ⟨f1, f2, f3, f4, f5, _⟩ := h.facts
  exact ⟨f1, f2, by omega, by show _ ≤ 2 ^ 24; omega⟩
theorem rows_shaped {T : List Row} (h : ∀ r ∈ T, OkRow most r) : SeqAt.shaped (.list (T.map rowD)) = true := by
  obtain ⟨i1, i2, i3, i4, i5⟩ := rows_facts h
  unfold SeqAt.shaped
  rw [Bool.and_eq_true_iff]
  refine ⟨by simp only [PyData.canLay0, i5], decide_eq_true ?_⟩
  simp only [PyData.depth]
  omega
theorem row_shaped {r : Row} (h : OkRow most r) : SeqAt.shaped (rowD r) = true := by
  obtain ⟨f1, f2, f3, f4, f5, f6⟩ := h.facts
  unfold SeqAt.shaped
  rw [Bool.and_eq_true_iff]
  exact ⟨f6, decide_eq_true (by omega)⟩
theorem rowD_inj {r s : Row} (e : rowD r = rowD s) : r = s := by
  unfold rowD at e
  injection e with e
  injection e with e1 e2
  injection e2 with e2 _
  injection e1 with e1
  exact Prod.ext e1 e2
theorem row_eqv {r s : Row} (h : OkRow most r) (g : OkRow most s) : PyData.eqv (rowD r) (rowD s) = true ↔ r = s :=
  (eqv_nb _ _ h.facts.2.2.2.2.1 g.facts.2.2.2.2.1).trans ⟨rowD_inj, fun e => by rw [e]⟩
/-! ### texts that are told -/
def SayS (t : TE) (σ : L2.St) (H : Hp) (z : Str) : Prop := ∀ Q : VK, (∀ H', Same H H' → Q (.str z) H') → t σ H Q
def SayI (t : TE) (σ : L2.St) (H : Hp) (i : Int) : Prop := ∀ Q : VK, (∀ H', Same H H' → Q (.int i) H') → t σ H Q
theorem dec_strS {x y : Str} : decide (V.str x = V.str y) = decide (x = y) := by
  by_cases h : x = y
  · rw [h, decide_eq_true rfl, decide_eq_true rfl]
  · rw [decide_eq_false h, decide_eq_false fun z => h (V.str.inj z)]
section
variable {K : PySem.W.Frag} {σ : L2.St} {H : Hp} {te ta tb : TE} {d : PyData} {z y : Str} {i j : Int}
theorem SayS.reprL {ds : List PyData} (h : IsD K te σ H (.list ds)) (hs : Shows (.list ds)) : SayS (tCB (rReprD K) (tCons te tNil)) σ H (PyData.shown (.list ds)) := fun Q q => h _ fun H1 v s1 hd => by
  have hd2 := hd
  cases hd2 with
  | lst _ _ => exact ⟨_, _, rfl, hd, hs, q _ s1⟩
theorem SayS.reprT {ds : List PyData} (h : IsD K te σ H (.tuple ds)) (hs : Shows (.tuple ds)) : SayS (tCB (rReprD K) (tCons te tNil)) σ H (PyData.shown (.tuple ds)) := fun Q q => h _ fun H1 v s1 hd => by
  have hd2 := hd
  cases hd2 with
  | tup _ _ => exact ⟨_, _, rfl, hd, hs, q _ s1⟩
theorem SayS.eq (h1 : SayS ta σ H z) (h2 : ∀ H', Same H H' → SayS tb σ H' y) : Say (tOp rEq ta tb) σ H (decide (z = y)) := fun Q q => h1 _ fun H1 s1 => h2 _ s1 _ fun H2 s2 => ⟨rfl, by rw [dec_strS]; exact q _ (s1.trans s2)⟩
theorem SayS.ne (h1 : SayS ta σ H z) (h2 : ∀ H', Same H H' → SayS tb σ H' y) : Say (tOp rNe ta tb) σ H (!decide (z = y)) := fun Q q => h1 _ fun H1 s1 => h2 _ s1 _ fun H2 s2 => ⟨rfl, by rw [dec_strS]; exact q _ (s1.trans s2)⟩
theorem SayI.eq (h1 : SayI ta σ H i) (h2 : ∀ H', Same H H' → SayI tb σ H' j) : Say (tOp rEq ta tb) σ H (decide (i = j)) := fun Q q => h1 _ fun H1 s1 => h2 _ s1 _ fun H2 s2 => ⟨rfl, by rw [dec_int2]; exact q _ (s1.trans s2)⟩
theorem SayI.ne (h1 : SayI ta σ H i) (h2 : ∀ H', Same H H' → SayI tb σ H' j) : Say (tOp rNe ta tb) σ H (!decide (i = j)) := fun Q q => h1 _ fun H1 s1 => h2 _ s1 _ fun H2 s2 => ⟨rfl, by rw [dec_int2]; exact q _ (s1.trans s2)⟩
theorem SayI.of (h : Giv te σ H (.int i)) : SayI te σ H i := fun Q q => h _ (q _ (Same.refl H))
end
end Gj

/-! own layer: a shelf in the heap, what its methods promise -/
namespace Gj
open PySem PySem.Spec PyProof.Rows L2
open C8 (Cal pe_c pe_gc)
theorem setE {σ : L2.St} {H : Hp} {te : TE} {D : Ends} {u : TS} {i : Nat} (h : te σ H (fun v H' => u D (σ.set i (some v)) H')) : tSeq (tAsg te (gName i)) u D σ H := h
theorem forE {K : PySem.W.Frag} {σ : L2.St} {H : Hp} {te : TE} {D : Ends} {u tb : TS} {g : TG} (h : te σ H (fun x H1 => ∃ a, x = .ref a ∧ (∃ xs, SqL K H1 a xs) ∧ tFor (fun _ _ R => R (Itl K a) H1) g tb { D with nx := u D } σ H)) : tSeq (tFor (iList K te) g tb) u D σ H := h
theorem appE2 {r1 r2 : List V → Hp → VK → Prop} {σ : L2.St} {H : Hp} {te : TE} {Q : VK} (h : te σ H (fun x H1 => r2 [x] H1 fun y H2 => r1 [y] H2 Q)) : tCB r1 (tCons (tCB r2 (tCons te tNil)) tNil) σ H Q := h
/-- a list of rows at l -/
structure RowsL (H : Hp) (l : Addr) (T : List Row) : Prop where
  ex : ∃ xs, H l = some (.lst xs) ∧ RowsAt H xs T
/-- a shelf at a, its rows at l -/
structure ShelfAt (C : Addr) (H : Hp) (a l : Addr) (T : List Row) : Prop where
  ob : ∃ dx, H a = some (.ins C dx [("kept", .ref l)])
  rows : RowsL H l T
section
variable {C : Addr} {H H' : Hp} {a l k : Addr} {T : List Row} {S : List Addr}
theorem RowsL.keep (h : RowsL H l T) (e : ∀ o, H l = some o → H' l = some o) (t : Ts H H') : RowsL H' l T := by
  obtain ⟨xs, e1, r⟩ := h.ex
  exact ⟨xs, e _ e1, r.ts t⟩
theorem RowsL.same (h : RowsL H l T) (s : Same H H') : RowsL H' l T := h.keep (fun o e => s _ _ e) (Same.ts s)
theorem ShelfAt.keep (h : ShelfAt C H a l T) (e1 : ∀ o, H a = some o → H' a = some o) (e2 : ∀ o, H l = some o → H' l = some o) (t : Ts H H') : ShelfAt C H' a l T := by
  obtain ⟨dx, e⟩ := h.ob
  exact ⟨⟨dx, e1 _ e⟩, h.rows.keep e2 t⟩
theorem ShelfAt.same (h : ShelfAt C H a l T) (s : Same H H') : ShelfAt C H' a l T := h.keep (fun o e => s _ _ e) (fun o e => s _ _ e) (Same.ts s)
theorem RowsL.kp (h : RowsL H l T) (k : Kp S H H') (n : l ∉ S) (ls : Ls S H) : RowsL H' l T := h.keep (fun o e => k _ _ n e) (k.ts ls)
theorem ShelfAt.kp (h : ShelfAt C H a l T) (k : Kp S H H') (n1 : a ∉ S) (n2 : l ∉ S) (ls : Ls S H) : ShelfAt C H' a l T := h.keep (fun o e => k _ _ n1 e) (fun o e => k _ _ n2 e) (k.ts ls)
theorem RowsL.ls (h : RowsL H l T) : Ls [l] H := by
  obtain ⟨xs, e, _⟩ := h.ex
  exact ls_one e
theorem Ls.append {S U : List Addr} (h : Ls S H) (g : Ls U H) : Ls (S ++ U) H := fun a m xs => (List.mem_append.mp m).elim (fun m => h a m xs) (fun m => g a m xs)
theorem ShelfAt.ne (h : ShelfAt C H a l T) : a ≠ l := by
  rintro rfl
  obtain ⟨dx, e⟩ := h.ob
  obtain ⟨xs, e2, _⟩ := h.rows.ex
  rw [e] at e2
  cases e2
theorem Pot.ls {p : Addr} (h : Pot H p) : Ls [p] H := by
  obtain ⟨x, y, e, _⟩ := h
  exact ls_one e
theorem Drawn.kp {p : Addr} (r : Drawn p H H') : Kp [p] H H' := fun b o n e => r.keep b o (fun z => n (by rw [z]; exact List.mem_singleton.mpr rfl)) e
theorem giv_kept {K : PySem.W.Frag} {σ : L2.St} {te : TE} (cl : Cls K C) (nk : NoAttr K C "kept") (h : ShelfAt C H a l T) (hv : Giv te σ H (.ref a)) : Giv (tFld K te "kept") σ H (.ref l) := fun Q q => hv _ (by
  obtain ⟨dx, e⟩ := h.ob
  exact ⟨a, C, dx, _, _, rfl, e, cl, nk, rfl, q⟩)
/-- row[0] < n, and its like -/
theorem say_num {K : PySem.W.Frag} {σ : L2.St} {g : Int → Int → Bool} {i : Nat} {tn : TE} {t : Addr} {v : V} {x n : Int} (hi : σ[i]? = some (some (.ref t))) (e : H t = some (.tup [.int x, v])) (hn : Giv tn σ H (.int n)) : SayT (tTest (tOp (rI0 fun i j => .bl (g i j)) (tOp (rIxT K) (tVar i) (tC (.int 0))) tn)) σ H (g x n) := fun Q q =>
  ⟨_, hi, t, _, 0, _, rfl, rfl, SqT.of e, atI_nat (j := 0) rfl, hn _ ⟨_, _, rfl, rfl, _, rfl, q _ (Same.refl H)⟩⟩
/-- [row for row in rows if row[0] < n], and its like -/
theorem lc_rows {K : PySem.W.Frag} {c : Addr} {xs : List V} {σ : L2.St} {te tn : TE} {i : Nat} {g : Int → Int → Bool} {n : Int} {vs : List Nat} (hv : Giv te σ H (.ref c)) (hc : SqL K H c xs) (hr : RowsAt H xs T) (hl : xs.length ≤ 1000)
    (hw : ∀ v, wipe ((wipe σ vs).set i (some v)) vs = wipe σ vs) (hi : ∀ v, ((wipe σ vs).set i (some v))[i]? = some (some v)) (hn : ∀ v H, Giv tn ((wipe σ vs).set i (some v)) H (.int n)) {Q : VK}
    (q : ∀ (D : Addr) (H' : Hp) (ys : List V), H D = none → Same H H' → H' D = some (.lst ys) → RowsAt H' ys (T.filter fun r => g r.1 n) → Q (.ref D) H') :
    tLc (iList K te) (gName i) (tTest (tOp (rI0 fun i j => .bl (g i j)) (tOp (rIxT K) (tVar i) (tC (.int 0))) tn)) (tVar i) vs σ H Q := by
  refine lc_choose (f := onNum H fun x => g x n) hv hc hl hw hi (fun k x H' hx s => ?_) fun D H' nD s e => ?_
  · obtain ⟨t, v, r, rfl, _, et, _⟩ := hr.get hx
    rw [onNum_at et]
    exact say_num (hi _) (s _ _ et) (hn _ _)
  · exact q D H' _ nD s e ((hr.filter fun t v r et => onNum_at et).same s)
end
/-! ### promises -/
def spInitS (C : Addr) : Sp := fun vs H Q _ => ∃ (a dx : Addr), vs = [.ref a] ∧ H a = some (.ins C dx []) ∧ ∀ (l : Addr) (H' : Hp), H l = none → Kp [a] H H' → ShelfAt C H' a l [] → Q .non H'
def spPutS (C : Addr) : Sp := fun vs H Q _ => ∃ (a l : Addr) (T : List Row) (n : Int) (v : V) (d : PyData), vs = [.ref a, .int n, v] ∧ ShelfAt C H a l T ∧ T.length ≤ 500 ∧ Im H v d ∧ ∀ H', Kp [l] H H' → ShelfAt C H' a l (put1 (n, d) T) → Q .non H'
def spTakenS (C : Addr) : Sp := fun vs H Q _ => ∃ (a l : Addr) (T : List Row) (n : Int), vs = [.ref a, .int n] ∧ ShelfAt C H a l T ∧ T.length ≤ 500 ∧
  ((below n T).length = T.length → ∀ H', Same H H' → Q .non H') ∧
  ((below n T).length ≠ T.length → ∀ (H' : Hp) (t : Addr) (v : V) (r : Row), Kp [l] H H' → T[(below n T).length]? = some r → H' t = some (.tup [.int r.1, v]) → Im H' v r.2 → ShelfAt C H' a l (T.eraseIdx (below n T).length) → Q (.ref t) H')
def spToldS (C : Addr) : Sp := fun vs H Q _ => ∃ (a l : Addr) (T : List Row), vs = [.ref a] ∧ ShelfAt C H a l T ∧ T.length ≤ 500 ∧ ∀ (q : Addr) (H' : Hp), H q = none → Same H H' → RowsL H' q T → Q (.ref q) H'
def spLenS (C : Addr) : Sp := fun vs H Q _ => ∃ (a l : Addr) (T : List Row), vs = [.ref a] ∧ ShelfAt C H a l T ∧ T.length ≤ 500 ∧ Q (.int (T.length : Nat)) H
end Gj

/-! own layer: shelves beside their rows, what a law's defs promise of them -/
namespace Gj
open PySem PySem.Spec PyProof.Rows L2
open C8 (Cal pe_c pe_gc)
theorem pick_str {zs : List Str} {k : Nat} {x : V} (h : (zs.map V.str)[k]? = some x) : ∃ z ∈ zs, x = .str z := by
  rw [List.getElem?_map] at h
  cases e : zs[k]? with
  | none => rw [e] at h; cases h
  | some z =>
    rw [e] at h
    exact ⟨z, List.mem_of_getElem? e, (Option.some.inj h).symm⟩
theorem word_a : ∀ z ∈ (["a", "b", "z9", "0"] : List Str), WordS z := by
  intro z hz
  simp only [List.mem_cons, List.not_mem_nil, or_false] at hz
  rcases hz with rfl | rfl | rfl | rfl
  · exact ⟨[97], rfl, by decide, by decide, by decide +kernel⟩
  · exact ⟨[98], rfl, by decide, by decide, by decide +kernel⟩
  · exact ⟨[122, 57], rfl, by decide, by decide, by decide +kernel⟩
  · exact ⟨[48], rfl, by decide, by decide, by decide +kernel⟩
def spLParcel : Sp := fun vs H Q _ => ∃ (p c : Addr) (zs : List Str), vs = [.ref p, .ref c] ∧ Pot H p ∧ c ≠ p ∧ H c = some (.lst (zs.map V.str)) ∧ 0 < zs.length ∧ zs.length ≤ 100 ∧ (∀ z ∈ zs, NameS z) ∧
  ∀ (v : V) (t : Th) (H' : Hp), Drawn p H H' → Im H' v t.data → t.Good → Q v H'
def spLNumber : Sp := fun vs H Q _ => ∃ (p k : Addr) (Kk : List Row) (B : Int), vs = [.ref p, .ref k] ∧ Pot H p ∧ k ≠ p ∧ RowsL H k Kk ∧ Kk.length ≤ 300 ∧ (∀ r ∈ Kk, 0 ≤ r.1 ∧ r.1 ≤ B) ∧ 1000000000000000000000000002 ≤ B ∧
  ∀ (n : Int) (H' : Hp), 0 ≤ n → n ≤ B + 1 → Drawn p H H' → Q (.int n) H'
def spLTold : Sp := fun vs H Q _ => ∃ (k : Addr) (Kk T : List Row), vs = [.ref k] ∧ RowsL H k Kk ∧ Kk.length ≤ 300 ∧ Std T Kk ∧ ∀ (c : Addr) (H' : Hp), H c = none → Same H H' → RowsL H' c T → Q (.ref c) H'
/-- a shelf and its rows, as they should be -/
structure Pair (C : Addr) (H : Hp) (a l k : Addr) (T Kk : List Row) (B : Int) : Prop where
  sh : ShelfAt C H a l T
  rw : RowsL H k Kk
  std : Std T Kk
  ne : l ≠ k
  ok : ∀ r ∈ Kk, OkRow B r
theorem Pair.okT {C : Addr} {H : Hp} {a l k : Addr} {T Kk : List Row} {B : Int} (h : Pair C H a l k T Kk B) : ∀ r ∈ T, OkRow B r := fun r m => h.ok r (h.std.mem.mp m)
theorem Pair.nak {C : Addr} {H : Hp} {a l k : Addr} {T Kk : List Row} {B : Int} (h : Pair C H a l k T Kk B) : a ≠ k := by
  rintro rfl
  obtain ⟨dx, e⟩ := h.sh.ob
  obtain ⟨xs, e2, _⟩ := h.rw.ex
  rw [e] at e2
  cases e2
theorem Pair.ls {C : Addr} {H : Hp} {a l k : Addr} {T Kk : List Row} {B : Int} (h : Pair C H a l k T Kk B) : Ls [l, k] H := Ls.append (S := [l]) (U := [k]) h.sh.rows.ls h.rw.ls
theorem Pair.same {C : Addr} {H H' : Hp} {a l k : Addr} {T Kk : List Row} {B : Int} (h : Pair C H a l k T Kk B) (s : Same H H') : Pair C H' a l k T Kk B := ⟨h.sh.same s, h.rw.same s, h.std, h.ne, h.ok⟩
theorem Pair.mono {C : Addr} {H : Hp} {a l k : Addr} {T Kk : List Row} {B B' : Int} (h : Pair C H a l k T Kk B) (e : B ≤ B') : Pair C H a l k T Kk B' := ⟨h.sh, h.rw, h.std, h.ne, fun r m => (h.ok r m).mono e⟩
theorem Pair.kp {C : Addr} {H H' : Hp} {a l k : Addr} {T Kk : List Row} {B : Int} {S : List Addr} (h : Pair C H a l k T Kk B) (s : Kp S H H') (ls : Ls S H) (n1 : a ∉ S) (n2 : l ∉ S) (n3 : k ∉ S) : Pair C H' a l k T Kk B := ⟨h.sh.kp s n1 n2 ls, h.rw.kp s n3 ls, h.std, h.ne, h.ok⟩
def spLTaken (C : Addr) : Sp := fun vs H Q _ => ∃ (a l k : Addr) (T Kk : List Row) (B h way : Int), vs = [.ref a, .ref k, .int h, .int way] ∧ Pair C H a l k T Kk B ∧ B ≤ most ∧ Kk.length ≤ 200 ∧
  ∀ (H' : Hp) (T' K' : List Row), Kp [l, k] H H' → Pair C H' a l k T' K' B → K'.length ≤ Kk.length → (h = 0 → K' = [] ∨ K'.length < Kk.length) → Q (.bl true) H'
def spLStands (C : Addr) : Sp := fun vs H Q _ => ∃ (a l k : Addr) (T Kk : List Row) (B : Int), vs = [.ref a, .ref k] ∧ Pair C H a l k T Kk B ∧ B ≤ most ∧ Kk.length ≤ 200 ∧ ∀ H', Same H H' → Q (.bl true) H'
def spLDeed (C : Addr) : Sp := fun vs H Q _ => ∃ (p a l k c : Addr) (T Kk : List Row) (B : Int) (zs : List Str), vs = [.ref p, .ref a, .ref k, .ref c] ∧ Pot H p ∧ Pair C H a l k T Kk B ∧ 1000000000000000000000000002 ≤ B ∧ B + 1 ≤ most ∧ Kk.length < 200 ∧ p ≠ l ∧ p ≠ k ∧ c ≠ p ∧
  H c = some (.lst (zs.map V.str)) ∧ 0 < zs.length ∧ zs.length ≤ 100 ∧ (∀ z ∈ zs, NameS z) ∧
  ∀ (H' : Hp) (T' K' : List Row), Kp [p, l, k] H H' → Pot H' p → Pair C H' a l k T' K' (B + 1) → K'.length ≤ Kk.length + 1 → Q (.bl true) H'
def spLBoth (C : Addr) : Sp := fun vs H Q _ => ∃ (s r a1 a2 l1 l2 k1 k2 : Addr) (T1 T2 K1 K2 : List Row) (B : Int), vs = [.ref s, .ref r] ∧ H s = some (.lst [.ref a1, .ref a2]) ∧ H r = some (.lst [.ref k1, .ref k2]) ∧ Pair C H a1 l1 k1 T1 K1 B ∧ Pair C H a2 l2 k2 T2 K2 B ∧ B ≤ most ∧ K1.length ≤ 200 ∧ K2.length ≤ 200 ∧
  ∀ H', Same H H' → Q (.bl true) H'
/-! ### the places of a row -/
theorem filter_first {Kk : List Row} {x : Row} {g : Nat → Bool} (hg : ∀ j r, Kk[j]? = some r → (g j = true ↔ r = x)) (hx : x ∈ Kk) : ∃ k l, (List.range Kk.length).filter g = k :: l ∧ firstAt x Kk k := by
  obtain ⟨k, K1, K2, rfl, h1, rfl⟩ := first_ex hx
  have e1 : (List.range (K1 ++ x :: K2).length).filter g = ((List.range (K1.length + 1)).filter g) ++ ((List.range (K1 ++ x :: K2).length).drop (K1.length + 1)).filter g := by
    conv => lhs; rw [← List.take_append_drop (K1.length + 1) (List.range (K1 ++ x :: K2).length)]
    rw [List.filter_append, List.take_range]
    congr 3
    rw [List.length_append, List.length_cons]
    omega
  have e2 : (List.range (K1.length + 1)).filter g = [K1.length] := by
    rw [List.range_succ, List.filter_append]
    have z : (List.range K1.length).filter g = [] := List.filter_eq_nil_iff.mpr fun j hj c => by
      have hj := List.mem_range.mp hj
      have ej : (K1 ++ x :: K2)[j]? = some K1[j] := by rw [List.getElem?_append_left hj, List.getElem?_eq_getElem hj]
      exact h1 (((hg j _ ej).mp c) ▸ List.getElem_mem hj)
    have y : g K1.length = true := (hg K1.length x (by rw [List.getElem?_append_right (Nat.le_refl _), Nat.sub_self]; rfl)).mpr rfl
    rw [z, List.nil_append, List.filter_cons, if_pos y]
    rfl
  rw [e1, e2]
  exact ⟨_, _, rfl, K1, K2, rfl, h1, rfl⟩
end Gj

/-! own layer: comprehensions over rows that a call lays; the places of a row -/
namespace Gj
open PySem PySem.Spec PyProof.Rows L2
open C8 (Cal pe_c pe_gc)
section
variable {K : PySem.W.Frag} {σ : L2.St} {H : Hp} {te tn : TE} {i : Nat} {T Kk : List Row} {g : Int → Int → Bool} {n : Int} {vs : List Nat}
theorem lc_rowsC (hv : ∀ R : VK, (∀ c H1, H c = none → Same H H1 → RowsL H1 c T → R (.ref c) H1) → te σ H R) (hl : T.length ≤ 1000)
    (hw : ∀ v, wipe ((wipe σ vs).set i (some v)) vs = wipe σ vs) (hi : ∀ v, ((wipe σ vs).set i (some v))[i]? = some (some v)) (hn : ∀ v H, Giv tn ((wipe σ vs).set i (some v)) H (.int n)) {Q : VK}
    (q : ∀ (D : Addr) (H' : Hp), H D = none → Same H H' → RowsL H' D (T.filter fun r => g r.1 n) → Q (.ref D) H') :
    tLc (iList K te) (gName i) (tTest (tOp (rI0 fun i j => .bl (g i j)) (tOp (rIxT K) (tVar i) (tC (.int 0))) tn)) (tVar i) vs σ H Q := hv _ fun c H1 _ s1 hr => by
  obtain ⟨xs, ec, hx⟩ := hr.ex
  exact lc_rows (te := tC (.ref c)) giv_c (SqL.of ec) hx (by rw [hx.len]; exact hl) hw hi hn fun D H' ys nD s2 e2 h2 => q D H' (Evl.fresh_back s1 nD) (s1.trans s2) ⟨ys, e2, h2⟩
/-- [k for k, row in enumerate(rows) if row == x] -/
theorem lc_places {k : Addr} {j : Nat} {x : Row} {xs : List V} {tx : TE} (ek : H k = some (.lst xs)) (hr : RowsAt H xs Kk) (hl : Kk.length ≤ 1000) (hv : Giv te σ H (.ref k))
    (hw : ∀ u v, wipe (((wipe σ vs).set i (some u)).set j (some v)) vs = wipe σ vs) (hi : ∀ u v, (((wipe σ vs).set i (some u)).set j (some v))[i]? = some (some u)) (hj : ∀ u v, (((wipe σ vs).set i (some u)).set j (some v))[j]? = some (some v))
    (hx : ∀ u v H', Same H H' → ∃ y, Giv tx (((wipe σ vs).set i (some u)).set j (some v)) H' y ∧ Im H' y (rowD x)) (ok : ∀ r ∈ Kk, OkRow most r) (okx : OkRow most x) {Q : VK}
    (q : ∀ (D : Addr) (H' : Hp) (f : Nat → Bool), H D = none → Same H H' → (∀ m r, Kk[m]? = some r → (f m = true ↔ r = x)) → H' D = some (.lst (((List.range Kk.length).filter f).map fun m : Nat => V.int (m : Nat))) → Q (.ref D) H') :
    tLc (iEnum K (tCons te tNil)) (gTup K 2 (gCons (gName i) (gCons (gName j) gNil))) (tTest (tOp (rEqD K) (tVar j) tx)) (tVar i) vs σ H Q := hv _ ⟨k, xs, rfl, SqL.of ek, fun D hD => by
  have lx := hr.len
  let f : Nat → Bool := fun m => (Kk[m]?.map fun r => PyData.eqv (rowD r) (rowD x)).getD false
  refine lc_it (walk_enum (K := K) (a := k) (xs := xs)) (fun m H' => Same H H' ∧ H' D = some (.lst (((List.range m).filter f).map fun m : Nat => V.int (m : Nat)))) ⟨same_new hD, upd_same⟩ (fun m H' _ hp => SqL.of (hp.1 _ _ ek)) (fun m v H1 H2 hm hp hy => ?_) (fun H1 hp => ?_)
  · obtain ⟨sm, eD⟩ := hp
    obtain ⟨U, u, y, rfl, nU, rfl, eu, ey⟩ := hy
    obtain rfl : V.int (m : Nat) = u := Option.some.inj eu
    obtain ⟨t, v, r, rfl, er, et, hi1⟩ := hr.get ey
    have s2 : Same H (upd H1 U (.tup [.int (m : Nat), .ref t])) := sm.trans (same_new nU)
    obtain ⟨z, gz, hz⟩ := hx (.int (m : Nat)) (.ref t) _ s2
    refine ⟨U, _, rfl, SqT.of upd_same, rfl, _, _, rfl, _, _, rfl, rfl, hw _ _, ?_⟩
    refine ⟨_, hj _ _, gz _ ⟨_, _, ((row_im et hi1).same s2).dp, hz.dp, row_shaped (ok r (List.mem_of_getElem? er)), row_shaped okx, _, rfl, ?_⟩⟩
    have fm : f m = PyData.eqv (rowD r) (rowD x) := by
      show (Kk[m]?.map fun r => PyData.eqv (rowD r) (rowD x)).getD false = _
      rw [er]
      rfl
    rw [← fm]
    have e1 : (List.range (m + 1)).filter f = (List.range m).filter f ++ [m].filter f := by rw [List.range_succ, List.filter_append]
    have eD2 := (same_new (o := .tup [.int (m : Nat), .ref t]) nU) _ _ eD
    cases e : f m with
    | true =>
      refine iteT ⟨_, hi _ _, _, eD2, ?_, fun b o h => ?_, ?_⟩
      · rw [List.length_map]
        have := List.length_filter_le f (List.range m)
        rw [List.length_range] at this
        exact small1000 (by omega)
      · rw [upd_ne (ne_of_none h hD)]
        exact s2 _ _ h
      · rw [upd_same, e1, List.filter_cons, if_pos e, List.map_append]
        rfl
    | false =>
      refine iteF ⟨s2, ?_⟩
      rw [eD2, e1, List.filter_cons, if_neg (by rw [e]; decide), List.filter_nil, List.append_nil]
  · obtain ⟨sm, eD⟩ := hp
    rw [lx] at eD
    refine q D H1 f hD sm (fun m r er => ?_) eD
    have fm : f m = PyData.eqv (rowD r) (rowD x) := by
      show (Kk[m]?.map fun r => PyData.eqv (rowD r) (rowD x)).getD false = _
      rw [er]
      rfl
    rw [fm]
    exact row_eqv (ok r (List.mem_of_getElem? er)) okx⟩
end
theorem consOpE {r : R2} {σ : L2.St} {H : Hp} {te tb : TE} {Q : List V → Hp → Prop} (h : te σ H (fun x H1 => tb σ H1 (fun y H2 => r x y H2 (fun z H3 => Q [z] H3)))) : tCons (tOp r te tb) tNil σ H Q := h
theorem eqv_nil {T : List Row} : PyData.eqv (.list (T.map rowD)) (.list []) = decide (T = []) := by
  cases T with
  | nil => simp [PyData.eqv, PyData.eqvAll]
  | cons r l => simp [PyData.eqv, PyData.eqvAll]
theorem shaped_nil : SeqAt.shaped (.list []) = true := by decide +kernel
/-- the truth behind a shelf's taken -/
def TookS (C a l : Addr) (T : List Row) (h : Int) (H : Hp) (x : V) (H' : Hp) : Prop :=
  ((below h T).length = T.length ∧ x = .non ∧ Same H H') ∨
  ((below h T).length ≠ T.length ∧ ∃ t v r, x = .ref t ∧ Kp [l] H H' ∧ T[(below h T).length]? = some r ∧ H' t = some (.tup [.int r.1, v]) ∧ Im H' v r.2 ∧ ShelfAt C H' a l (T.eraseIdx (below h T).length))
theorem tookS {C a l : Addr} {T : List Row} {h : Int} {H : Hp} {Q : VK} (hs : ShelfAt C H a l T) (hT : T.length ≤ 500) (q : ∀ x H', TookS C a l T h H x H' → Q x H') : spTakenS C [.ref a, .int h] H Q C8.E0 :=
  ⟨a, l, T, h, rfl, hs, hT, fun e H' s => q _ _ (.inl ⟨e, rfl, s⟩), fun e H' t v r k e1 e2 e3 e4 => q _ _ (.inr ⟨e, t, v, r, rfl, k, e1, e2, e3, e4⟩)⟩
theorem below_zero {T : List Row} {B : Int} (h : ∀ r ∈ T, OkRow B r) : below 0 T = [] := List.filter_eq_nil_iff.mpr fun r m c => by
  have := (h r m).lo
  have := of_decide_eq_true c
  omega
end Gj
namespace Gj
open PySem PySem.Spec PyProof.Rows L2
theorem RowsL.dp {K : PySem.W.Frag} {H : Hp} {c : Addr} {T : List Row} (h : RowsL H c T) : Dp K H (.ref c) (.list (T.map rowD)) := by
  obtain ⟨xs, e, hr⟩ := h.ex
  exact .lst (SqL.of e) hr.dp
section
variable {K : PySem.W.Frag} {σ : L2.St} {H : Hp} {te : TE} {C a l k : Addr} {T Kk : List Row} {B : Int}
theorem isd_told {E : XK} (hv : Giv te σ H (.ref k)) (hr : RowsL H k Kk) (hl : Kk.length ≤ 300) (hs : Std T Kk) : IsD K (tCall spLTold [] E (tCons te tNil)) σ H (.list (T.map rowD)) := fun Q q => hv _ ⟨k, Kk, T, rfl, hr, hl, hs, fun c H' _ s h => q H' _ s h.dp⟩
theorem isd_toldS {E : XK} (hv : Giv te σ H (.ref a)) (hs : ShelfAt C H a l T) (hT : T.length ≤ 500) : IsD K (tMeth C "told" (spToldS C) [] E te tNil) σ H (.list (T.map rowD)) := fun Q q => hv _ (by
  obtain ⟨dx, eo⟩ := hs.ob
  exact ⟨a, dx, _, rfl, eo, rfl, a, l, T, rfl, hs, hT, fun c H' _ s h => q H' _ s h.dp⟩)
theorem sayi_lenS (hv : Giv te σ H (.ref a)) (hs : ShelfAt C H a l T) (hT : T.length ≤ 500) : SayI (tCB (rLenO C (spLenS C)) (tCons te tNil)) σ H (T.length : Nat) := fun Q q => hv _ (by
  obtain ⟨dx, eo⟩ := hs.ob
  exact ⟨a, dx, _, rfl, eo, a, l, T, rfl, hs, hT, T.length, rfl, Nat.le_of_lt (small1000 (by omega)), q _ (Same.refl H)⟩)
theorem sayi_lenR (hv : Giv te σ H (.ref k)) (hr : RowsL H k Kk) : SayI (tCB (rLenX K) (tCons te tNil)) σ H (Kk.length : Nat) := fun Q q => hv _ (by
  obtain ⟨xs, e, h⟩ := hr.ex
  refine ⟨_, _, rfl, .inl ⟨_, SqL.of e, rfl⟩, ?_⟩
  rw [h.len]
  exact q _ (Same.refl H))
theorem say_isL {xs : List V} (hv : Giv te σ H (.ref a)) (e : H a = some (.lst xs)) : Say (tCB (rIsi K) (tCons te (tCons (tC (.ty "list")) tNil))) σ H true := fun Q q => hv _ ⟨_, .ty "list", .type "list", .type "list", true, rfl, .ty "list", .base (.lst e), kit_ty (by decide +kernel), q _ (Same.refl H)⟩
end
end Gj

/-! own layer: two shelves, a pot, making of objects -/
namespace Gj
open PySem PySem.Spec PyProof.Rows L2
open C8 (Cal pe_c pe_gc)
/-- C(): what the class's __init__ promises -/
def Mak (P : Program) (w : World) (K : PySem.W.Frag) (mg : Str → Option Value) (base : Heap) (k : Nat) (C : Addr) (x : Str) (sp : Sp) : Prop := ∃ f fd ps, Mk K C f ∧ FnOk P w K mg base CX0 k f fd ps sp ∧ mg x = some (.ref C) ∧ Binds K fd ps []
theorem pe_mk0 {X : Cx} {k j : Nat} {C : Addr} {x : Str} {sp : Sp} {p pos : Pos} (h : Mak X.prog X.w X.K X.mg X.base k C x sp) (hr : Room j X.A) (hk : k + 1 ≤ j) (hg : Gl X x) (hdb : (x == ("__debug__" : Str)) = false := by decide) : PE X (.Call (.Name x p) [] [] pos) (tMake C sp [] C8.E0 tNil) := by
  obtain ⟨f, fd, ps, M, F, hm, hb⟩ := h
  exact pe_make0 M F (hr.mono hk) hg hm hb .nil pass0 hdb
theorem mkShelf {C : Addr} {σ : L2.St} {H : Hp} {Q : VK} (q : ∀ (a l : Addr) (H' : Hp), H a = none → H l = none → a ≠ l → Same H H' → ShelfAt C H' a l [] → Q (.ref a) H') : tMake C (spInitS C) [] C8.E0 tNil σ H Q := by
  intro a dx na ndx nad
  have ea : (upd (upd H dx (.own a)) a (.ins C dx [])) a = some (.ins C dx []) := upd_same
  refine ⟨a, dx, rfl, ea, fun l H' nl kp hs => ⟨rfl, ?_⟩⟩
  have nal : a ≠ l := ne_of_none ea nl
  have nl2 : H l = none := by
    cases e : H l with
    | none => rfl
    | some o =>
      rw [upd_ne nal.symm, upd_ne (ne_of_none e ndx), e] at nl
      cases nl
  refine q a l H' na nl2 nal (fun b o e => ?_) hs
  have nb : b ≠ a := ne_of_none e na
  exact kp b o (fun z => nb (List.mem_singleton.mp z)) (by rw [upd_ne nb, upd_ne (ne_of_none e ndx)]; exact e)
abbrev B0 : Int := 1000000000000000000000000002
structure Stat (H0 : Hp) (p s r c a1 l1 k1 a2 l2 k2 : Addr) (zs : List Str) : Prop where
  es : H0 s = some (.lst [.ref a1, .ref a2])
  er : H0 r = some (.lst [.ref k1, .ref k2])
  ec : H0 c = some (.lst (zs.map V.str))
  z0 : 0 < zs.length
  z1 : zs.length ≤ 100
  hz : ∀ z ∈ zs, NameS z
  nd : [p, l1, k1, l2, k2].Nodup
  off : ∀ x ∈ [s, r, c, a1, a2], x ∉ [p, l1, k1, l2, k2]
def Dyn (C : Addr) (H0 : Hp) (p a1 l1 k1 a2 l2 k2 : Addr) (n : Nat) (H : Hp) : Prop := ∃ T1 K1 T2 K2, Kp [p, l1, k1, l2, k2] H0 H ∧ Pot H p ∧ Pair C H a1 l1 k1 T1 K1 (B0 + n) ∧ Pair C H a2 l2 k2 T2 K2 (B0 + n) ∧ K1.length ≤ n ∧ K2.length ≤ n
section
variable {C : Addr} {H0 H H' : Hp} {p s r c a1 l1 k1 a2 l2 k2 : Addr} {zs : List Str} {n : Nat} {Q : VK} {E : XK}
theorem Dyn.same (h : Dyn C H0 p a1 l1 k1 a2 l2 k2 n H) (sm : Same H H') : Dyn C H0 p a1 l1 k1 a2 l2 k2 n H' := by
  obtain ⟨T1, K1, T2, K2, h1, h2, h3, h4, h5⟩ := h
  exact ⟨T1, K1, T2, K2, h1.trans (Same.kp sm), h2.same sm, h3.same sm, h4.same sm, h5⟩
theorem Dyn.drawn (st : Stat H0 p s r c a1 l1 k1 a2 l2 k2 zs) (h : Dyn C H0 p a1 l1 k1 a2 l2 k2 n H) (d : Drawn p H H') : Dyn C H0 p a1 l1 k1 a2 l2 k2 n H' := by
  obtain ⟨T1, K1, T2, K2, h1, h2, h3, h4, h5⟩ := h
  have nd := st.nd
  have o1 := st.off a1 (by simp)
  have o2 := st.off a2 (by simp)
  simp only [List.nodup_cons, List.mem_cons, List.not_mem_nil, or_false, not_or] at nd o1 o2
  refine ⟨T1, K1, T2, K2, h1.trans (d.kp.mono (by simp)), d.pot, h3.kp d.kp h2.ls ?_ ?_ ?_, h4.kp d.kp h2.ls ?_ ?_ ?_, h5⟩ <;> simp only [List.mem_singleton]
  · exact o1.1
  · exact Ne.symm nd.1.1
  · exact Ne.symm nd.1.2.1
  · exact o2.1
  · exact Ne.symm nd.1.2.2.1
  · exact Ne.symm nd.1.2.2.2
theorem Dyn.swap1 (st : Stat H0 p s r c a1 l1 k1 a2 l2 k2 zs) (h : Dyn C H0 p a1 l1 k1 a2 l2 k2 n H) {m : Nat} {S : List Addr} (hS : S = [l1, k1] ∨ S = [p, l1, k1]) (kp : Kp S H H') (hp : Pot H' p) {T K : List Row} (hP : Pair C H' a1 l1 k1 T K (B0 + m)) (hl : K.length ≤ m) (hm : n ≤ m) : Dyn C H0 p a1 l1 k1 a2 l2 k2 m H' := by
  obtain ⟨T1, K1, T2, K2, h1, h2, h3, h4, h5, h6⟩ := h
  have nd := st.nd
  have o2 := st.off a2 (by simp)
  simp only [List.nodup_cons, List.mem_cons, List.not_mem_nil, or_false, not_or] at nd o2
  have kp3 : Kp [p, l1, k1] H H' := by
    rcases hS with rfl | rfl
    · exact kp.mono fun x h => List.mem_cons_of_mem _ h
    · exact kp
  have ls : Ls [p, l1, k1] H := Ls.append (S := [p]) (U := [l1, k1]) h2.ls h3.ls
  refine ⟨T, K, T2, K2, h1.trans (kp3.mono (by intro x hx; simp only [List.mem_cons, List.not_mem_nil, or_false] at hx ⊢; rcases hx with h | h | h <;> simp [h])), hp, hP, (h4.kp kp3 ls ?_ ?_ ?_).mono (by omega), hl, by omega⟩ <;> simp only [List.mem_cons, List.not_mem_nil, or_false, not_or]
  · exact ⟨o2.1, o2.2.1, o2.2.2.1⟩
  · exact ⟨Ne.symm nd.1.2.2.1, Ne.symm nd.2.1.2.1, Ne.symm nd.2.2.1.1⟩
  · exact ⟨Ne.symm nd.1.2.2.2, Ne.symm nd.2.1.2.2, Ne.symm nd.2.2.1.2⟩
theorem Dyn.swap2 (st : Stat H0 p s r c a1 l1 k1 a2 l2 k2 zs) (h : Dyn C H0 p a1 l1 k1 a2 l2 k2 n H) {m : Nat} {S : List Addr} (hS : S = [l2, k2] ∨ S = [p, l2, k2]) (kp : Kp S H H') (hp : Pot H' p) {T K : List Row} (hP : Pair C H' a2 l2 k2 T K (B0 + m)) (hl : K.length ≤ m) (hm : n ≤ m) : Dyn C H0 p a1 l1 k1 a2 l2 k2 m H' := by
  obtain ⟨T1, K1, T2, K2, h1, h2, h3, h4, h5, h6⟩ := h
  have nd := st.nd
  have o1 := st.off a1 (by simp)
  simp only [List.nodup_cons, List.mem_cons, List.not_mem_nil, or_false, not_or] at nd o1
  have kp3 : Kp [p, l2, k2] H H' := by
    rcases hS with rfl | rfl
    · exact kp.mono fun x h => List.mem_cons_of_mem _ h
    · exact kp
  have ls : Ls [p, l2, k2] H := Ls.append (S := [p]) (U := [l2, k2]) h2.ls h4.ls
  refine ⟨T1, K1, T, K, h1.trans (kp3.mono (by intro x hx; simp only [List.mem_cons, List.not_mem_nil, or_false] at hx ⊢; rcases hx with h | h | h <;> simp [h])), hp, (h3.kp kp3 ls ?_ ?_ ?_).mono (by omega), hP, by omega, hl⟩ <;> simp only [List.mem_cons, List.not_mem_nil, or_false, not_or]
  · exact ⟨o1.1, o1.2.2.2.1, o1.2.2.2.2⟩
  · exact ⟨Ne.symm nd.1.1, nd.2.1.2.1, nd.2.1.2.2⟩
  · exact ⟨Ne.symm nd.1.2.1, nd.2.2.1.1, nd.2.2.1.2⟩
theorem Dyn.at (st : Stat H0 p s r c a1 l1 k1 a2 l2 k2 zs) (h : Dyn C H0 p a1 l1 k1 a2 l2 k2 n H) {x : Addr} {o : HO} (hx : x ∈ [s, r, c, a1, a2]) (e : H0 x = some o) : H x = some o := by
  obtain ⟨T1, K1, T2, K2, h1, _⟩ := h
  exact h1 x o (st.off x hx) e
theorem Dyn.pot (h : Dyn C H0 p a1 l1 k1 a2 l2 k2 n H) : Pot H p := by
  obtain ⟨T1, K1, T2, K2, h1, h2, _⟩ := h
  exact h2
theorem Dyn.deed (st : Stat H0 p s r c a1 l1 k1 a2 l2 k2 zs) (h : Dyn C H0 p a1 l1 k1 a2 l2 k2 n H) (hn : n < 100) {x y : V} {d : Nat} (hx : [V.ref a1, V.ref a2][d]? = some x) (hy : [V.ref k1, V.ref k2][d]? = some y) (q : ∀ H', Dyn C H0 p a1 l1 k1 a2 l2 k2 (n + 1) H' → Q (.bl true) H') : spLDeed C [.ref p, x, y, .ref c] H Q E := by
  have h0 := h
  obtain ⟨T1, K1, T2, K2, h1, h2, h3, h4, h5, h6⟩ := h
  have nd := st.nd
  have oc := st.off c (by simp)
  have ec := h0.at st (x := c) (by simp) st.ec
  simp only [List.nodup_cons, List.mem_cons, List.not_mem_nil, or_false, not_or] at nd oc
  have e1 : B0 + (n : Int) + 1 = B0 + ((n + 1 : Nat) : Int) := by omega
  have b1 : B0 + (n : Int) + 1 ≤ most := by unfold B0 most; omega
  match d, hx, hy with
  | 0, hx, hy =>
    obtain rfl : V.ref a1 = x := Option.some.inj hx
    obtain rfl : V.ref k1 = y := Option.some.inj hy
    refine ⟨p, a1, l1, k1, c, T1, K1, B0 + n, zs, rfl, h2, h3, by unfold B0; omega, b1, by omega, nd.1.1, nd.1.2.1, oc.1, ec, st.z0, st.z1, st.hz, fun H' T' K' kp hp hP hl => q H' ?_⟩
    rw [e1] at hP
    exact h0.swap1 st (.inr rfl) kp hp hP (by omega) (by omega)
  | 1, hx, hy =>
    obtain rfl : V.ref a2 = x := Option.some.inj hx
    obtain rfl : V.ref k2 = y := Option.some.inj hy
    refine ⟨p, a2, l2, k2, c, T2, K2, B0 + n, zs, rfl, h2, h4, by unfold B0; omega, b1, by omega, nd.1.2.2.1, nd.1.2.2.2, oc.1, ec, st.z0, st.z1, st.hz, fun H' T' K' kp hp hP hl => q H' ?_⟩
    rw [e1] at hP
    exact h0.swap2 st (.inr rfl) kp hp hP (by omega) (by omega)
theorem Dyn.both (st : Stat H0 p s r c a1 l1 k1 a2 l2 k2 zs) (h : Dyn C H0 p a1 l1 k1 a2 l2 k2 n H) (hn : n ≤ 100) (q : ∀ H', Same H H' → Q (.bl true) H') : spLBoth C [.ref s, .ref r] H Q E := by
  have h0 := h
  obtain ⟨T1, K1, T2, K2, h1, h2, h3, h4, h5, h6⟩ := h
  exact ⟨s, r, a1, a2, l1, l2, k1, k2, T1, T2, K1, K2, B0 + n, rfl, h0.at st (by simp) st.es, h0.at st (by simp) st.er, h3, h4, by unfold B0 most; omega, by omega, by omega, q⟩
/-- one of the two -/
theorem Dyn.one (st : Stat H0 p s r c a1 l1 k1 a2 l2 k2 zs) (h : Dyn C H0 p a1 l1 k1 a2 l2 k2 n H) {x y : V} {d : Nat} (hx : [V.ref a1, V.ref a2][d]? = some x) (hy : [V.ref k1, V.ref k2][d]? = some y) :
    ∃ a l k T K, x = .ref a ∧ y = .ref k ∧ Pair C H a l k T K (B0 + n) ∧ K.length ≤ n ∧ p ∉ [l, k] ∧ ∀ H' T' K', Kp [l, k] H H' → Pair C H' a l k T' K' (B0 + n) → K'.length ≤ n → Dyn C H0 p a1 l1 k1 a2 l2 k2 n H' := by
  have h0 := h
  obtain ⟨T1, K1, T2, K2, h1, h2, h3, h4, h5, h6⟩ := h
  have nd := st.nd
  simp only [List.nodup_cons, List.mem_cons, List.not_mem_nil, or_false, not_or] at nd
  have pt : ∀ {l k : Addr} {H' : Hp}, p ∉ [l, k] → Kp [l, k] H H' → Pot H' p := fun n kp => by
    obtain ⟨x, y, e, z⟩ := h2
    exact ⟨x, y, kp _ _ n e, z⟩
  match d, hx, hy with
  | 0, hx, hy =>
    obtain rfl : V.ref a1 = x := Option.some.inj hx
    obtain rfl : V.ref k1 = y := Option.some.inj hy
    have np : p ∉ [l1, k1] := by simp only [List.mem_cons, List.not_mem_nil, or_false, not_or]; exact ⟨nd.1.1, nd.1.2.1⟩
    exact ⟨a1, l1, k1, T1, K1, rfl, rfl, h3, h5, np, fun H' T' K' kp hP hl => h0.swap1 st (.inl rfl) kp (pt np kp) hP hl (Nat.le_refl _)⟩
  | 1, hx, hy =>
    obtain rfl : V.ref a2 = x := Option.some.inj hx
    obtain rfl : V.ref k2 = y := Option.some.inj hy
    have np : p ∉ [l2, k2] := by simp only [List.mem_cons, List.not_mem_nil, or_false, not_or]; exact ⟨nd.1.2.2.1, nd.1.2.2.2⟩
    exact ⟨a2, l2, k2, T2, K2, rfl, rfl, h4, h6, np, fun H' T' K' kp hP hl => h0.swap2 st (.inl rfl) kp (pt np kp) hP hl (Nat.le_refl _)⟩
/-- what stood ahead of all of them stands -/
theorem Dyn.back {H1 : Hp} (h : Dyn C H0 p a1 l1 k1 a2 l2 k2 n H) (s0 : Same H1 H0) (f : ∀ x ∈ [p, l1, k1, l2, k2], H1 x = none) : Same H1 H := fun b o e => by
  obtain ⟨T1, K1, T2, K2, h1, _⟩ := h
  exact h1 b o (fun z => by rw [f b z] at e; cases e) (s0 _ _ e)
end
end Gj
namespace Gj
open PySem PySem.Spec PyProof.Rows L2
theorem par2E {σ : L2.St} {H : Hp} {D : Ends} {u : TS} {i j : Nat} {t1 t2 : TE} {ta : TA} (h : t1 σ H (fun v1 H1 => t2 σ H1 (fun v2 H2 => tPar i j (tCons (tLst (fun _ _ R => R [v1, v2] H2)) ta) { D with nx := u D } σ H2))) : tSeq (tPar i j (tCons (tLst (tCons t1 (tCons t2 tNil))) ta)) u D σ H := h
theorem gNameE {i : Nat} {v : V} {σ : L2.St} {H : Hp} {Q : L2.St → Hp → Prop} (h : Q (σ.set i (some v)) H) : gName i v σ H Q := h
theorem ifN1 {σ : L2.St} {H : Hp} {tc : TT} {t : TS} {D : Ends} (h : SayT tc σ H false) (h2 : ∀ H', Same H H' → D.nx σ H') : tIfS tc t tNext D σ H := h _ fun H' s => iteF (h2 H' s)
end Gj

/-! own layer: maps -/
namespace Gj
open PySem PySem.Spec PyProof.Rows L2
open C8 (Cal pe_c pe_gc)
theorem nextE {D : Ends} {σ : L2.St} {H : Hp} (h : D.nx σ H) : tNext D σ H := h
abbrev Wk : Type := Str × Str
/-- the rows of a good map -/
structure Gd (hosts : List Str) (ws : List Wk) : Prop where
  hn : ∀ z ∈ hosts, NameS z
  wn : ∀ r ∈ ws, NameS r.1
  nd : hosts.Nodup
  wnd : (ws.map (·.1)).Nodup
  dis : ∀ r ∈ ws, r.1 ∉ hosts
  hm : ∀ r ∈ ws, r.2 ∈ hosts
  h2 : 2 ≤ hosts.length
  h6 : hosts.length ≤ 6
  w1 : 1 ≤ ws.length
  w5 : ws.length ≤ 5
/-- pairs of texts -/
def PrsAt (H : Hp) : List V → List Wk → Prop
  | [], [] => True
  | x :: xs, r :: rs => (∃ t, x = .ref t ∧ H t = some (.tup [.str r.1, .str r.2])) ∧ PrsAt H xs rs
  | _, _ => False
section
variable {H H' : Hp}
theorem PrsAt.ts (t : Ts H H') : ∀ {xs : List V} {rs : List Wk}, PrsAt H xs rs → PrsAt H' xs rs
  | [], [], _ => trivial
  | x :: xs, r :: rs, h => by
    obtain ⟨⟨a, e, ha⟩, h2⟩ := h
    exact ⟨⟨a, e, t _ _ ha⟩, PrsAt.ts t h2⟩
  | [], _ :: _, h => h.elim
  | _ :: _, [], h => h.elim
theorem PrsAt.same {xs : List V} {rs : List Wk} (h : PrsAt H xs rs) (s : Same H H') : PrsAt H' xs rs := h.ts (Same.ts s)
theorem PrsAt.len : ∀ {xs : List V} {rs : List Wk}, PrsAt H xs rs → xs.length = rs.length
  | [], [], _ => rfl
  | x :: xs, r :: rs, h => congrArg Nat.succ (PrsAt.len h.2)
  | [], _ :: _, h => h.elim
  | _ :: _, [], h => h.elim
theorem PrsAt.get : ∀ {xs : List V} {rs : List Wk} {i : Nat} {x : V}, PrsAt H xs rs → xs[i]? = some x → ∃ t r, x = .ref t ∧ rs[i]? = some r ∧ H t = some (.tup [.str r.1, .str r.2])
  | [], [], i, x, _, e => by simp at e
  | y :: xs, r :: rs, 0, x, h, e => by
    obtain ⟨⟨a, e1, ha⟩, _⟩ := h
    have e : y = x := Option.some.inj e
    exact ⟨a, r, e ▸ e1, rfl, ha⟩
  | y :: xs, r :: rs, i + 1, x, h, e => PrsAt.get (i := i) h.2 e
  | [], _ :: _, _, _, h, _ => h.elim
  | _ :: _, [], _, _, h, _ => h.elim
theorem PrsAt.snoc : ∀ {xs : List V} {rs : List Wk} {t : Addr} {r : Wk}, PrsAt H xs rs → H t = some (.tup [.str r.1, .str r.2]) → PrsAt H (xs ++ [.ref t]) (rs ++ [r])
  | [], [], t, r, _, e => ⟨⟨t, rfl, e⟩, trivial⟩
  | x :: xs, r0 :: rs, t, r, h, e => ⟨h.1, PrsAt.snoc h.2 e⟩
  | [], _ :: _, _, _, h, _ => h.elim
  | _ :: _, [], _, _, h, _ => h.elim
theorem PrsAt.paired {K : PySem.W.Frag} : ∀ {xs : List V} {rs : List Wk}, PrsAt H xs rs → ∃ ps : List Addr, xs = ps.map V.ref ∧ Paired (fun p (kv : L2.Key × V) => SqT K H p [kV kv.1, kv.2]) ps (rs.map fun r => (.inr r.1, .str r.2))
  | [], [], _ => ⟨[], rfl, .nil⟩
  | x :: xs, r :: rs, h => by
    obtain ⟨⟨a, rfl, ha⟩, h2⟩ := h
    obtain ⟨ps, rfl, hp⟩ := PrsAt.paired h2
    exact ⟨a :: ps, rfl, .cons (SqT.of ha) hp⟩
  | [], _ :: _, h => h.elim
  | _ :: _, [], h => h.elim
end
/-- a map at a -/
structure MapAt (C : Addr) (H : Hp) (a l1 l2 : Addr) (hosts : List Str) (ws : List Wk) : Prop where
  ob : ∃ dx, H a = some (.ins C dx [("host_names", .ref l1), ("homes", .ref l2)])
  hs : H l1 = some (.lst (hosts.map V.str))
  ww : ∃ xs, H l2 = some (.lst xs) ∧ PrsAt H xs ws
section
variable {C : Addr} {H H' : Hp} {a l1 l2 : Addr} {hosts : List Str} {ws : List Wk} {S : List Addr}
theorem MapAt.same (h : MapAt C H a l1 l2 hosts ws) (s : Same H H') : MapAt C H' a l1 l2 hosts ws := by
  obtain ⟨dx, e⟩ := h.ob
  obtain ⟨xs, e2, hp⟩ := h.ww
  exact ⟨⟨dx, s _ _ e⟩, s _ _ h.hs, xs, s _ _ e2, hp.same s⟩
theorem MapAt.kp (h : MapAt C H a l1 l2 hosts ws) (k : Kp S H H') (n1 : a ∉ S) (n2 : l1 ∉ S) (n3 : l2 ∉ S) (ls : Ls S H) : MapAt C H' a l1 l2 hosts ws := by
  obtain ⟨dx, e⟩ := h.ob
  obtain ⟨xs, e2, hp⟩ := h.ww
  exact ⟨⟨dx, k _ _ n1 e⟩, k _ _ n2 h.hs, xs, k _ _ n3 e2, hp.ts (k.ts ls)⟩
end
/-- what is a host | a walker -/
def isIn (l : List Str) (d : PyData) : Bool := mName d && (match d with
  | .str z => decide (z ∈ l)
  | _ => false)
theorem isIn_of {l : List Str} {z : Str} (h : NameS z) (m : z ∈ l) : isIn l (.str z) = true := by
  unfold isIn
  rw [h.m]
  show (true && decide (z ∈ l)) = true
  rw [decide_eq_true m]
  rfl
def spCkHosts : Sp := fun vs H Q _ => ∃ (c : Addr) (hosts : List Str) (ws : List Wk), vs = [.ref c] ∧ H c = some (.lst (hosts.map V.str)) ∧ Gd hosts ws ∧ ∀ H', Same H H' → Q .non H'
def spCkWalker : Sp := fun vs H Q _ => ∃ (c u t : Addr) (hosts us : List Str) (i : Int) (r : Wk), vs = [.ref c, .ref u, .int i, .ref t] ∧ H c = some (.lst (hosts.map V.str)) ∧ H u = some (.lst (us.map V.str)) ∧ H t = some (.tup [.str r.1, .str r.2]) ∧ NameS r.1 ∧ NameS r.2 ∧ r.1 ∉ us ∧ r.2 ∈ hosts ∧ ∀ H', Same H H' → Q .non H'
def spCkWalkers : Sp := fun vs H Q _ => ∃ (c w : Addr) (xs : List V) (hosts : List Str) (ws : List Wk), vs = [.ref c, .ref w] ∧ H c = some (.lst (hosts.map V.str)) ∧ H w = some (.lst xs) ∧ PrsAt H xs ws ∧ Gd hosts ws ∧ ∀ H', Same H H' → Q .non H'
def spMapInit (C : Addr) : Sp := fun vs H Q _ => ∃ (a dx c w : Addr) (xs : List V) (hosts : List Str) (ws : List Wk), vs = [.ref a, .ref c, .ref w] ∧ H a = some (.ins C dx []) ∧ H c = some (.lst (hosts.map V.str)) ∧ H w = some (.lst xs) ∧ PrsAt H xs ws ∧ Gd hosts ws ∧ ∀ (l1 l2 : Addr) (H' : Hp), H l1 = none → H l2 = none → l1 ≠ l2 → Kp [a] H H' → MapAt C H' a l1 l2 hosts ws → Q .non H'
def spHosts (C : Addr) : Sp := fun vs H Q _ => ∃ (a l1 l2 : Addr) (hosts : List Str) (ws : List Wk), vs = [.ref a] ∧ MapAt C H a l1 l2 hosts ws ∧ ∀ (c : Addr) (H' : Hp), H c = none → Same H H' → H' c = some (.lst (hosts.map V.str)) → Q (.ref c) H'
def spWalkers (C : Addr) : Sp := fun vs H Q _ => ∃ (a l1 l2 : Addr) (hosts : List Str) (ws : List Wk), vs = [.ref a] ∧ MapAt C H a l1 l2 hosts ws ∧ ws.length ≤ 100 ∧ ∀ (c : Addr) (H' : Hp), H c = none → Same H H' → H' c = some (.lst ((ws.map (·.1)).map V.str)) → Q (.ref c) H'
def spHasHost (C : Addr) : Sp := fun vs H Q _ => ∃ (p a l1 l2 : Addr) (v : V) (d : PyData) (hosts : List Str) (ws : List Wk), vs = [.ref a, v] ∧ MapAt C H a l1 l2 hosts ws ∧ Dt p H v d ∧ ∀ H', Same H H' → Q (.bl (isIn hosts d)) H'
def spHasWalker (C : Addr) : Sp := fun vs H Q _ => ∃ (p a l1 l2 : Addr) (v : V) (d : PyData) (hosts : List Str) (ws : List Wk), vs = [.ref a, v] ∧ MapAt C H a l1 l2 hosts ws ∧ ws.length ≤ 100 ∧ Dt p H v d ∧ ∀ H', Same H H' → Q (.bl (isIn (ws.map (·.1)) d)) H'
def spCheckHost (C : Addr) : Sp := fun vs H Q _ => ∃ (a l1 l2 : Addr) (z : Str) (hosts : List Str) (ws : List Wk), vs = [.ref a, .str z] ∧ MapAt C H a l1 l2 hosts ws ∧ NameS z ∧ z ∈ hosts ∧ ∀ H', Same H H' → Q .non H'
def spCheckWalker (C : Addr) : Sp := fun vs H Q _ => ∃ (a l1 l2 : Addr) (r : Wk) (hosts : List Str) (ws : List Wk), vs = [.ref a, .str r.1] ∧ MapAt C H a l1 l2 hosts ws ∧ Gd hosts ws ∧ r ∈ ws ∧ ∀ H', Same H H' → Q .non H'
def spHome (C : Addr) : Sp := fun vs H Q _ => ∃ (a l1 l2 : Addr) (r : Wk) (hosts : List Str) (ws : List Wk), vs = [.ref a, .str r.1] ∧ MapAt C H a l1 l2 hosts ws ∧ Gd hosts ws ∧ r ∈ ws ∧ ∀ H', Same H H' → Q (.str r.2) H'
theorem mkMap {C : Addr} {σ : L2.St} {H : Hp} {Q : VK} {ta : TA} {c w : Addr} {xs : List V} {hosts : List Str} {ws : List Wk} (hta : ∀ R : List V → Hp → Prop, R [.ref c, .ref w] H → ta σ H R) (e1 : H c = some (.lst (hosts.map V.str))) (e2 : H w = some (.lst xs)) (hp : PrsAt H xs ws) (gd : Gd hosts ws)
    (q : ∀ (a l1 l2 : Addr) (H' : Hp), H a = none → H l1 = none → H l2 = none → a ≠ l1 → a ≠ l2 → l1 ≠ l2 → Same H H' → MapAt C H' a l1 l2 hosts ws → Q (.ref a) H') : tMake C (spMapInit C) [] C8.E0 ta σ H Q := hta _ (by
  intro a dx na ndx nad
  have ea : (upd (upd H dx (.own a)) a (.ins C dx [])) a = some (.ins C dx []) := upd_same
  have sm : Same H (upd (upd H dx (.own a)) a (.ins C dx [])) := fun b o e => by rw [upd_ne (ne_of_none e na), upd_ne (ne_of_none e ndx)]; exact e
  refine ⟨a, dx, c, w, xs, hosts, ws, rfl, ea, sm _ _ e1, sm _ _ e2, hp.same sm, gd, fun l1 l2 H' n1 n2 n12 kp hm => ⟨rfl, ?_⟩⟩
  refine q a l1 l2 H' na (Evl.fresh_back sm n1) (Evl.fresh_back sm n2) (ne_of_none ea n1) (ne_of_none ea n2) n12 (fun b o e => ?_) hm
  exact kp b o (fun z => ne_of_none e na (List.mem_singleton.mp z)) (sm _ _ e))
theorem merge_no : ∀ {ws : List Wk} {acc : List (L2.Key × V)} {z : Str}, z ∉ ws.map (·.1) → valV (mergeK acc (ws.map fun r => ((.inr r.1 : L2.Key), V.str r.2))) (.inr z) = valV acc (.inr z)
  | [], _, _, _ => rfl
  | r :: ws, acc, z, h => by
    rw [List.map_cons, List.mem_cons, not_or] at h
    show valV (mergeK (putK acc (.inr r.1) (.str r.2)) (ws.map _)) _ = _
    rw [merge_no h.2, valV_put, if_neg (fun e => h.1 (Sum.inr.inj e))]
theorem lookup_acc : ∀ {ws : List Wk} {acc : List (L2.Key × V)} {r : Wk}, (ws.map (·.1)).Nodup → r ∈ ws → valV (mergeK acc (ws.map fun r => ((.inr r.1 : L2.Key), V.str r.2))) (.inr r.1) = some (.str r.2)
  | x :: ws, acc, r, nd, h => by
    rw [List.map_cons, List.nodup_cons] at nd
    show valV (mergeK (putK acc (.inr x.1) (.str x.2)) (ws.map _)) _ = _
    rcases List.mem_cons.mp h with e | h
    · subst e
      rw [merge_no nd.1, valV_put, if_pos rfl]
    · exact lookup_acc nd.2 h
theorem lookup_ws {ws : List Wk} {r : Wk} (nd : (ws.map (·.1)).Nodup) (h : r ∈ ws) : valV (mergeK [] (ws.map fun r => ((.inr r.1 : L2.Key), V.str r.2))) (.inr r.1) = some (.str r.2) := lookup_acc nd h
end Gj

/-! own layer: max(xs, default = d) of ints -/
namespace Gj
open PySem PySem.Spec PyProof.Rows L2
open C8 (Cal pe_c pe_gc)
def maxOr (d : Int) : List Int → Int
  | [] => d
  | n :: ns => ns.foldl max n
theorem maxOr_ge {d : Int} : ∀ {ns : List Int} {m : Int}, m ∈ ns → m ≤ maxOr d ns
  | n :: ns, m, h => by
    have key : ∀ (l : List Int) (a : Int), a ≤ l.foldl max a ∧ ∀ x ∈ l, x ≤ l.foldl max a := by
      intro l
      induction l with
      | nil => exact fun a => ⟨Int.le_refl _, fun x h => by cases h⟩
      | cons y l ih =>
        intro a
        obtain ⟨h1, h2⟩ := ih (max a y)
        refine ⟨Int.le_trans (Int.le_max_left a y) h1, fun x hx => ?_⟩
        rcases List.mem_cons.mp hx with e | e
        · rw [e]; exact Int.le_trans (Int.le_max_right a y) h1
        · exact h2 x e
    rcases List.mem_cons.mp h with e | e
    · rw [e]; exact (key ns n).1
    · exact (key ns n).2 m e
theorem maxOr_mem {d : Int} : ∀ {ns : List Int}, ns ≠ [] → maxOr d ns ∈ ns
  | n :: ns, _ => by
    have key : ∀ (l : List Int) (a : Int), l.foldl max a = a ∨ l.foldl max a ∈ l := by
      intro l
      induction l with
      | nil => exact fun a => .inl rfl
      | cons y l ih =>
        intro a
        show l.foldl max (max a y) = a ∨ l.foldl max (max a y) ∈ y :: l
        rcases ih (max a y) with h | h
        · rw [h]
          by_cases c : a ≤ y
          · rw [Int.max_eq_right c]; exact .inr List.mem_cons_self
          · rw [Int.max_eq_left (by omega)]; exact .inl rfl
        · exact .inr (List.mem_cons_of_mem _ h)
    rcases key ns n with h | h
    · show ns.foldl max n ∈ _
      rw [h]; exact List.mem_cons_self
    · exact List.mem_cons_of_mem _ h
theorem dp_ints {K : PySem.W.Frag} {H : Hp} : ∀ ns : List Int, DpAll K H (ns.map V.int) (ns.map PyData.int)
  | [] => .nil
  | n :: l => .cons (.int n) (dp_ints l)
def rMaxDef (K : PySem.W.Frag) : List V → List V → Hp → VK → Prop := fun vs zs H Q => ∃ (a : Addr) (ns : List Int) (d : Int), vs = [.ref a] ∧ zs = [.int d] ∧ SqL K H a (ns.map V.int) ∧ Q (.int (maxOr d ns)) H
theorem depth_ints : ∀ ns : List Int, PyData.depthAll (ns.map PyData.int) ≤ 1
  | [] => by simp [PyData.depthAll]
  | n :: l => by
    have := depth_ints l
    simp only [List.map_cons, PyData.depthAll, PyData.depth]
    omega
theorem cr_maxDef {X : Cx} (hc : X.calm = true) (hu : X.A.units + 64 < cLine) : CallRK X (.builtin "max") [Str.ofString "default"] (rMaxDef X.K) := by
  intro pins s σ H vs zs us ws Q I r rz h
  obtain ⟨a, ns, d, rfl, rfl, hs, q⟩ := h
  obtain ⟨w1, rfl, t0, rfl⟩ := vals1 rz
  rw [Vals.ref1 r]
  obtain ⟨as, rd⟩ := Dp.reads I (.list (ns.map .int)) (.ref a) (.ref a) (.lst hs (dp_ints ns)) rfl
  cases rd with
  | @list _ o vs n _ as h1 h2 h3 h4 =>
    have al : PySem.W.AlikeAll (ns.map PyData.int) := by
      refine ⟨fun x hx y hy => ?_, fun x hx => ?_⟩
      · obtain ⟨_, _, rfl⟩ := List.mem_map.mp hx
        obtain ⟨_, _, rfl⟩ := List.mem_map.mp hy
        rfl
      · obtain ⟨_, _, rfl⟩ := List.mem_map.mp hx
        intro z
        cases z
    have dp := depth_ints ns
    refine PySem.W.max_list_default (I.ok.hd hc) ⟨o, h1, h2, n, h3⟩ h4 al (by omega) (fun e h' tk k => ?_) (fun y ys i v h' tk bs e hv rv k => ?_)
    · cases ns with
      | nil => exact ⟨.int d, H, I.kept k, ⟨_, rfl⟩, q⟩
      | cons _ _ => cases e
    · cases ns with
      | nil => cases e
      | cons m l =>
        rw [List.map_cons] at e
        obtain ⟨rfl, rfl⟩ := List.cons.inj e
        rw [PySem.W.maxD_ints] at rv
        cases rv
        exact ⟨.int _, H, I.kept k, ⟨_, rfl⟩, q⟩
end Gj

/-! own layer: posts -/
namespace Gj
open PySem PySem.Spec PyProof.Rows L2
open C8 (Cal pe_c pe_gc)
/-! ### data by their shapes -/
section
variable {H H' : Hp} {v : V} {ds : List PyData} {d e f : PyData} {xs : List V}
theorem Im.tupI (h : Im H v (.tuple ds)) : ∃ a xs, v = .ref a ∧ H a = some (.tup xs) ∧ ImAll H xs ds := by
  cases h with
  | tup e h => exact ⟨_, _, rfl, e, h⟩
theorem Im.strI {z : Str} (h : Im H v (.str z)) : v = .str z := by cases h; rfl
theorem Im.intI {z : Int} (h : Im H v (.int z)) : v = .int z := by cases h; rfl
theorem ImAll.consI (h : ImAll H xs (d :: ds)) : ∃ x ys, xs = x :: ys ∧ Im H x d ∧ ImAll H ys ds := by
  cases h with
  | cons a b => exact ⟨_, _, rfl, a, b⟩
theorem ImAll.nilI (h : ImAll H xs []) : xs = [] := by cases h; rfl
theorem Im.two (h : Im H v (.tuple [d, e])) : ∃ a x y, v = .ref a ∧ H a = some (.tup [x, y]) ∧ Im H x d ∧ Im H y e := by
  obtain ⟨a, xs, rfl, ea, h⟩ := h.tupI
  obtain ⟨x, ys, rfl, hx, h⟩ := h.consI
  obtain ⟨y, zs, rfl, hy, h⟩ := h.consI
  obtain rfl := h.nilI
  exact ⟨a, x, y, rfl, ea, hx, hy⟩
theorem Im.three (h : Im H v (.tuple [d, e, f])) : ∃ a x y z, v = .ref a ∧ H a = some (.tup [x, y, z]) ∧ Im H x d ∧ Im H y e ∧ Im H z f := by
  obtain ⟨a, xs, rfl, ea, h⟩ := h.tupI
  obtain ⟨x, ys, rfl, hx, h⟩ := h.consI
  obtain ⟨y, zs, rfl, hy, h⟩ := h.consI
  obtain ⟨z, us, rfl, hz, h⟩ := h.consI
  obtain rfl := h.nilI
  exact ⟨a, x, y, z, rfl, ea, hx, hy, hz⟩
theorem ImAll.len : ∀ {xs : List V} {ds : List PyData}, ImAll H xs ds → xs.length = ds.length
  | _, _, .nil => rfl
  | _, _, .cons _ b => congrArg Nat.succ b.len
theorem ImAll.append : ∀ {xs ys : List V} {ds es : List PyData}, ImAll H xs ds → ImAll H ys es → ImAll H (xs ++ ys) (ds ++ es)
  | _, _, _, _, .nil, g => g
  | _, _, _, _, .cons a b, g => .cons a (b.append g)
theorem ImAll.erase : ∀ {xs : List V} {ds : List PyData} (n : Nat), ImAll H xs ds → ImAll H (xs.eraseIdx n) (ds.eraseIdx n)
  | _, _, _, .nil => .nil
  | _, _, 0, .cons _ b => b
  | _, _, n + 1, .cons a b => .cons a (b.erase n)
theorem ImAll.get : ∀ {xs : List V} {ds : List PyData} {i : Nat} {x : V}, ImAll H xs ds → xs[i]? = some x → ∃ d, ds[i]? = some d ∧ Im H x d
  | _, _, i, x, .nil, e => by simp at e
  | _, _, 0, x, .cons a b, e => by
    obtain rfl := Option.some.inj e
    exact ⟨_, rfl, a⟩
  | _, _, i + 1, x, .cons a b, e => b.get (i := i) e
theorem ImAll.get2 : ∀ {xs : List V} {ds : List PyData} {i : Nat} {d : PyData}, ImAll H xs ds → ds[i]? = some d → ∃ x, xs[i]? = some x ∧ Im H x d
  | _, _, i, d, .nil, e => by simp at e
  | _, _, 0, d, .cons a b, e => by
    obtain rfl := Option.some.inj e
    exact ⟨_, rfl, a⟩
  | _, _, i + 1, d, .cons a b, e => b.get2 (i := i) e
theorem ImAll.same (h : ImAll H xs ds) (s : Same H H') : ImAll H' xs ds := h.ts (Same.ts s)
end
/-- a list of data at l -/
structure LstI (H : Hp) (l : Addr) (ds : List PyData) : Prop where
  ex : ∃ xs, H l = some (.lst xs) ∧ ImAll H xs ds
section
variable {H H' : Hp} {l : Addr} {ds : List PyData} {S : List Addr} {K : PySem.W.Frag}
theorem LstI.keep (h : LstI H l ds) (e : ∀ o, H l = some o → H' l = some o) (t : Ts H H') : LstI H' l ds := by
  obtain ⟨xs, e1, r⟩ := h.ex
  exact ⟨xs, e _ e1, r.ts t⟩
theorem LstI.same (h : LstI H l ds) (s : Same H H') : LstI H' l ds := h.keep (fun o e => s _ _ e) (Same.ts s)
theorem LstI.kp (h : LstI H l ds) (k : Kp S H H') (n : l ∉ S) (ls : Ls S H) : LstI H' l ds := h.keep (fun o e => k _ _ n e) (k.ts ls)
theorem LstI.ls (h : LstI H l ds) : Ls [l] H := by
  obtain ⟨xs, e, _⟩ := h.ex
  exact ls_one e
theorem LstI.dp (h : LstI H l ds) : Dp K H (.ref l) (.list ds) := by
  obtain ⟨xs, e, r⟩ := h.ex
  exact .lst (SqL.of e) r.dp
end
/-! ### posts -/
structure Bar where
  sort : Str
  who : Str
  num : Int
  first : Int
def pairD (x : Str × Int) : PyData := .tuple [.str x.1, .int x.2]
def Bar.mark (b : Bar) : Str × Int := (b.who, b.num)
def Bar.data (b : Bar) : PyData := .tuple [.str b.sort, pairD b.mark, .int b.first]
structure PSt where
  host : Str
  walker : Str
  last : Int
  sign : Option (Str × Int)
  news : Option (Str × Int)
  bars : List Bar
def signD : Option (Str × Int) → PyData
  | none => .str "here"
  | some x => pairD x
def newsD : Option (Str × Int) → PyData
  | none => .none
  | some x => pairD x
def flds (mp lb : Addr) (st : PSt) (vs vn : V) : List (Str × V) := [("own_map", .ref mp), ("host", .str st.host), ("walker", .str st.walker), ("last_stay", .int st.last), ("sign_now", vs), ("news_now", vn), ("bars_now", .ref lb)]
structure PostAt (C : Addr) (H : Hp) (a mp lb : Addr) (st : PSt) : Prop where
  ob : ∃ dx vs vn, H a = some (.ins C dx (flds mp lb st vs vn)) ∧ Im H vs (signD st.sign) ∧ Im H vn (newsD st.news)
  bars : LstI H lb (st.bars.map Bar.data)
section
variable {C : Addr} {H H' : Hp} {a mp lb : Addr} {st : PSt} {S : List Addr}
theorem PostAt.keep (h : PostAt C H a mp lb st) (e1 : ∀ o, H a = some o → H' a = some o) (e2 : ∀ o, H lb = some o → H' lb = some o) (t : Ts H H') : PostAt C H' a mp lb st := by
  obtain ⟨dx, vs, vn, e, h1, h2⟩ := h.ob
  exact ⟨⟨dx, vs, vn, e1 _ e, h1.ts t, h2.ts t⟩, h.bars.keep e2 t⟩
theorem PostAt.same (h : PostAt C H a mp lb st) (s : Same H H') : PostAt C H' a mp lb st := h.keep (fun o e => s _ _ e) (fun o e => s _ _ e) (Same.ts s)
theorem PostAt.kp (h : PostAt C H a mp lb st) (k : Kp S H H') (n1 : a ∉ S) (n2 : lb ∉ S) (ls : Ls S H) : PostAt C H' a mp lb st := h.keep (fun o e => k _ _ n1 e) (fun o e => k _ _ n2 e) (k.ts ls)
theorem PostAt.ne (h : PostAt C H a mp lb st) : a ≠ lb := by
  rintro rfl
  obtain ⟨dx, vs, vn, e, _⟩ := h.ob
  obtain ⟨xs, e2, _⟩ := h.bars.ex
  rw [e] at e2
  cases e2
end
/-- the state at the beginning -/
def PSt.new (h w home : Str) : PSt := ⟨h, w, if h = home then 1 else 0, if h = home then none else some (home, 1), none, []⟩
def spPostInit (C CM : Addr) : Sp := fun vs H Q _ => ∃ (a dx mp l1 l2 : Addr) (h : Str) (r : Wk) (hosts : List Str) (ws : List Wk), vs = [.ref a, .ref mp, .str h, .str r.1] ∧ H a = some (.ins C dx []) ∧ MapAt CM H mp l1 l2 hosts ws ∧ Gd hosts ws ∧ h ∈ hosts ∧ r ∈ ws ∧
  ∀ (lb : Addr) (H' : Hp), H lb = none → Kp [a] H H' → PostAt C H' a mp lb (PSt.new h r.1 r.2) → Q .non H'
def spLast (C : Addr) : Sp := fun vs H Q _ => ∃ (a mp lb : Addr) (st : PSt), vs = [.ref a] ∧ PostAt C H a mp lb st ∧ Q (.int st.last) H
def spSign (C : Addr) : Sp := fun vs H Q _ => ∃ (a mp lb : Addr) (st : PSt), vs = [.ref a] ∧ PostAt C H a mp lb st ∧ ∀ v, Im H v (signD st.sign) → Q v H
def spNews (C : Addr) : Sp := fun vs H Q _ => ∃ (a mp lb : Addr) (st : PSt), vs = [.ref a] ∧ PostAt C H a mp lb st ∧ ∀ v, Im H v (newsD st.news) → Q v H
def spBars (C : Addr) : Sp := fun vs H Q _ => ∃ (a mp lb : Addr) (st : PSt), vs = [.ref a] ∧ PostAt C H a mp lb st ∧ ∀ (c : Addr) (H' : Hp), H c = none → Same H H' → LstI H' c (st.bars.map Bar.data) → Q (.ref c) H'
def spHeight (C : Addr) : Sp := fun vs H Q _ => ∃ (a mp lb : Addr) (st : PSt), vs = [.ref a] ∧ PostAt C H a mp lb st ∧ st.bars.length ≤ 1000 ∧ ∀ H', Same H H' → Q (.int (maxOr 0 (st.bars.map (·.num)))) H'
def spSent (C : Addr) : Sp := fun vs H Q _ => ∃ (a mp lb : Addr) (st : PSt) (b : Bar) (v : V), vs = [.ref a, .str b.sort, v, .int b.first] ∧ PostAt C H a mp lb st ∧ st.bars.length < 1000 ∧ Im H v (pairD b.mark) ∧ ∀ H', Kp [lb] H H' → PostAt C H' a mp lb { st with bars := st.bars ++ [b] } → Q .non H'
def isBar (s : Str) (m : Str × Int) (b : Bar) : Bool := decide (b.sort = s) && decide (b.mark = m)
def spAnswered (C CB : Addr) : Sp := fun vs H Q E => ∃ (a mp lb : Addr) (st : PSt) (s : Str) (m : Str × Int) (v : V), vs = [.ref a, .str s, v] ∧ PostAt C H a mp lb st ∧ st.bars.length ≤ 900 ∧ Im H v (pairD m) ∧ NameS s ∧ NameS m.1 ∧ (∀ b ∈ st.bars, NameS b.sort ∧ NameS b.who) ∧
  (∀ k, st.bars.findIdx? (isBar s m) = some k → ∀ H', Kp [lb] H H' → PostAt C H' a mp lb { st with bars := st.bars.eraseIdx k } → Q .non H') ∧
  (st.bars.findIdx? (isBar s m) = none → ∀ (d : Addr) (H' : Hp), H d = none → Same H H' → H' d = some (.xd [("mark", v), ("what", .str s)]) → E (.ref CB) (some d) H')
end Gj

/-! own layer: KeyError as a base -/
namespace Gj
open PySem PySem.F
abbrev keyMro : List Value := [.type "KeyError", .type "LookupError", .type "Exception", .type "BaseException", .type "object"]
theorem key_store : StoreFacts "KeyError" keyMro "object.__setattr__" "object" :=
  { mro := by kernel_rfl
    slot := by
      refine .of (owner := "object") (n := "__setattr__") ?_ (by decide +kernel) (by decide +kernel) (by decide +kernel) ?_ ?_
      · rw [typeLookup_type, builtinLookup_eq_fast] <;> kernel_rfl
      · first | exact .inl (by decide +kernel) | exact .inr (by decide +kernel)
      · rw [isSubtype_type] <;> kernel_rfl
    entry := entry_object_sa, kind := by decide +kernel, split := by decide +kernel, hasOwner := by decide +kernel
    args := fun a b c => by unfold argsOk <;> kernel_rfl
    passes := fun self => by kernel_rfl }
end Gj

namespace Gj
open PySem PySem.Spec PyProof.Rows L2
open C8 (Cal pe_c pe_gc)
theorem and2 {a b : Bool} (h : (a && b) = true) : a = true ∧ b = true := Bool.and_eq_true_iff.mp h
/-- isinstance of an instance of D can be told -/
def excB (K : PySem.W.Frag) (D : Addr) : Bool := decide (PySem.W.findIn K (.ref D) "__getattribute__" = some (some (.builtin "BaseException.__getattribute__"))) && (decide (PySem.W.findIn K (.ref D) "__getattr__" = some none) && (decide (PySem.W.subIn K (.ref D) (.type "BaseException") = some true) &&
  (PySem.W.hasDictIn K D && (decide (PySem.W.findIn K (.ref D) "__class__" = some (some (.builtin "object.__class__"))) && (decide (PySem.W.specialIn K (.builtin "object.__class__") "__get__" = some (some (.builtin "getset_descriptor.__get__"))) &&
  (decide (PySem.W.takesIn K (.builtin "object.__class__") = some true) && decide (PySem.W.mroIn K D (.type "object") = some true)))))))
theorem excB_ok {K : PySem.W.Frag} {D : Addr} (h : excB K D = true) : ExcC K D := by
  obtain ⟨h1, h⟩ := and2 h
  obtain ⟨h2, h⟩ := and2 h
  obtain ⟨h3, h⟩ := and2 h
  obtain ⟨h4, h⟩ := and2 h
  obtain ⟨h5, h⟩ := and2 h
  obtain ⟨h6, h⟩ := and2 h
  obtain ⟨h7, h8⟩ := and2 h
  exact ⟨of_decide_eq_true h1, of_decide_eq_true h2, of_decide_eq_true h3, h4, of_decide_eq_true h5, of_decide_eq_true h6, of_decide_eq_true h7, of_decide_eq_true h8⟩
def clsB (K : PySem.W.Frag) (C : Addr) (tl : List Value) (newId : String) : Bool := match K.lookup C with
  | some ⟨.type t, _, .cls cd, sl⟩ => decide (t = "type") && (match cd.mro, sl.toList with
    | .ref C' :: bm, [_, _, _, _, some (.builtin n), _] => decide (C' = C) && (decide (n = newId) && (!cd.hasDel && (cd.hasDict && PySem.W.excTail tl bm)))
    | _, _ => false)
  | _ => false
theorem clsB_ok {K : PySem.W.Frag} {C : Addr} {tl : List Value} {newId : String} (h : clsB K C tl newId = true) : ∃ nm q N bs bm sn sub ab col dd k0 k1 k2 k3 k5, K.lookup C = some (excClassObj nm q C N bs bm true sn sub ab col dd k0 k1 k2 k3 k5 newId) ∧ PySem.W.excTail tl bm = true := by
  unfold clsB at h
  split at h
  · rename_i t dd cd sl ho
    obtain ⟨ht, h⟩ := and2 h
    split at h
    · rename_i C' bm k0 k1 k2 k3 n k5 hm hs
      obtain ⟨e1, h⟩ := and2 h
      obtain ⟨e2, h⟩ := and2 h
      obtain ⟨e3, h⟩ := and2 h
      obtain ⟨e4, e5⟩ := and2 h
      have e1 := of_decide_eq_true e1
      have e2 := of_decide_eq_true e2
      have ht := of_decide_eq_true ht
      obtain ⟨nm, bs, mro, ns, qn, hd, sn, sub, ab, col, del⟩ := cd
      dsimp only at hm e3 e4
      subst hm e1 e2 ht e4
      have e3 : del = false := by simpa using e3
      subst e3
      have hsl : sl = #[k0, k1, k2, k3, some (.builtin n), k5] := by
        obtain ⟨l⟩ := sl
        simp only at hs
        rw [hs]
      subst hsl
      exact ⟨_, _, _, _, bm, _, _, _, _, _, _, _, _, _, _, ho, e5⟩
    · cases h
  · cases h
def exkB (K : PySem.W.Frag) (C : Addr) (tl : List Value) (newId : String) (fs : List Str) : Bool := clsB K C tl newId && (decide (PySem.W.findIn K (.ref C) "__setattr__" = some (some (.builtin "object.__setattr__"))) && (decide (PySem.W.typeIn K (.ref C) = some (.type "type")) && (PySem.W.keepIn K (.ref C) && (excB K C &&
  ((fs.all fun f => decide (PySem.W.findIn K (.ref C) f = some none)) && (decide (PySem.W.findIn K (.ref C) "__init__" = some (some (.ref (He.ma K C "__init__")))) && decide (PySem.W.typeIn K (.ref (He.ma K C "__init__")) = some (.type "function"))))))))
theorem exkB_ok {K : PySem.W.Frag} {C : Addr} {tl : List Value} {newId : String} {fs : List Str} (h : exkB K C tl newId fs = true) : ExK K C tl newId ∧ (∀ f ∈ fs, PySem.W.findIn K (.ref C) f = some none) ∧ PySem.W.findIn K (.ref C) "__init__" = some (some (.ref (He.ma K C "__init__"))) ∧ PySem.W.typeIn K (.ref (He.ma K C "__init__")) = some (.type "function") := by
  obtain ⟨h1, h⟩ := and2 h
  obtain ⟨h2, h⟩ := and2 h
  obtain ⟨h3, h⟩ := and2 h
  obtain ⟨h4, h⟩ := and2 h
  obtain ⟨h5, h⟩ := and2 h
  obtain ⟨h6, h⟩ := and2 h
  obtain ⟨h7, h8⟩ := and2 h
  exact ⟨⟨clsB_ok h1, of_decide_eq_true h2, of_decide_eq_true h3, h4, excB_ok h5⟩, fun f hf => of_decide_eq_true (List.all_eq_true.mp h6 f hf), of_decide_eq_true h7, of_decide_eq_true h8⟩
theorem bind_kw {K : PySem.W.Frag} {x qual : Str} {params : Arguments} {body : List Stmt} {scope : Scope} {f : Addr} {fd : FuncData} {ps ks : List Str} {sw : Bool} (F : FunD K x qual params body scope [] [] f fd)
    (h : ∀ (kV doc pm : Value) (an : Option Addr) (cdv ct a : Value) (ws : List Value), ws.length = ks.length → bindArgs (PySem.W.fnOf x qual params body scope .none kV doc pm an cdv ct) ⟨[a], ks.zip ws⟩ = pure (ps.zip (a :: turned sw ws))) (s : Shared) (a : Value) (ws : List Value) (hl : ws.length = ks.length) : BindsTo s fd ⟨[a], ks.zip ws⟩ (ps.zip (a :: turned sw ws)) := by
  obtain ⟨oc, od, dV, kV, doc, pm, an, cdv, ct, osl, rfl, lk, hcd, hD, hK⟩ := F.ex
  rcases hD with ⟨_, rfl⟩ | ⟨e, _⟩
  · exact .of_eq (h kV doc pm an cdv ct a ws hl)
  · exact absurd rfl e
section
variable {P : Program} {w : World} {K : PySem.W.Frag} {mg : Str → Option Value} {base : Heap}
/-- an __init__ of two fields -/
theorem ok_init2 {B newId : String} {tl : List Value} {x qual f1 f2 : Str} {st : Stmt} {f C : Addr} {fd : FuncData} (F : Fun K x qual st f fd) (SF : StoreFacts B tl "object.__setattr__" "object") (T : ExK K C tl newId) (h1 : PySem.W.findIn K (.ref C) f1 = some none) (h2 : PySem.W.findIn K (.ref C) f2 = some none)
    (sc : FnScope ["self", f1, f2] ["self", f1, f2] (defScope st))
    (hb : ∀ (cdv : Value) (A : Around) (outer : List Env) (s : Shared) (H : Hp) (E : XK), PSs (cxOf CX0 P w K mg base ["self", f1, f2] qual (defScope st) f cdv A outer s H E).nox (defBody st) (tSeq (tXst K tl newId f1 (tVar 0) (tVar 1)) (tXst K tl newId f2 (tVar 0) (tVar 2)))) :
    FnOk P w K mg base CX0 1 f fd ["self", f1, f2] (spInit C [f1, f2]) := by
  refine F.ok sc (fun vs H Q E h => ?_) (fun cdv A outer s H vs Q E hr h => ⟨_, hb cdv A outer s H E, ?_⟩)
  · obtain ⟨a, ws, rfl, hl, _⟩ := h
    show ws.length + 1 = 3
    rw [hl] <;> rfl
  · obtain ⟨a, ws, rfl, hl, ea, q⟩ := h
    match ws, hl with
    | [y1, y2], _ =>
    refine ⟨_, rfl, _, rfl, a, C, rfl, T, h1, .inl ⟨ea, fun dx nd ne => ?_⟩⟩
    refine ⟨_, rfl, _, rfl, a, C, rfl, T, h2, .inr ⟨dx, [(f1, y1)], upd_same, ?_, (by show 1 ≤ 900; decide), ?_⟩⟩
    · rw [upd_ne ne]
      exact upd_same
    · refine q _ dx nd ne (fun b o nb e => ?_) ?_ upd_same
      · have nbd := ne_of_none e nd
        rw [upd_ne nbd, upd_ne nb, upd_ne nbd]
        exact e
      · rw [upd_ne (Ne.symm ne)]
        exact upd_same
theorem ok_init1 {B newId : String} {tl : List Value} {x qual f1 : Str} {st : Stmt} {f C : Addr} {fd : FuncData} (F : Fun K x qual st f fd) (SF : StoreFacts B tl "object.__setattr__" "object") (T : ExK K C tl newId) (h1 : PySem.W.findIn K (.ref C) f1 = some none)
    (sc : FnScope ["self", f1] ["self", f1] (defScope st))
    (hb : ∀ (cdv : Value) (A : Around) (outer : List Env) (s : Shared) (H : Hp) (E : XK), PSs (cxOf CX0 P w K mg base ["self", f1] qual (defScope st) f cdv A outer s H E).nox (defBody st) (tXst K tl newId f1 (tVar 0) (tVar 1))) :
    FnOk P w K mg base CX0 1 f fd ["self", f1] (spInit C [f1]) := by
  refine F.ok sc (fun vs H Q E h => ?_) (fun cdv A outer s H vs Q E hr h => ⟨_, hb cdv A outer s H E, ?_⟩)
  · obtain ⟨a, ws, rfl, hl, _⟩ := h
    show ws.length + 1 = 2
    rw [hl] <;> rfl
  · obtain ⟨a, ws, rfl, hl, ea, q⟩ := h
    match ws, hl with
    | [y1], _ =>
    refine ⟨_, rfl, _, rfl, a, C, rfl, T, h1, .inl ⟨ea, fun dx nd ne => ?_⟩⟩
    refine q _ dx nd ne (fun b o nb e => ?_) upd_same ?_
    · have nbd := ne_of_none e nd
      rw [upd_ne nb, upd_ne nbd]
      exact e
    · rw [upd_ne ne]
      exact upd_same
end
end Gj

/-! own layer: methods that may raise; methods by places and keywords -/
namespace Gj
open PySem PySem.Spec PyProof.Rows L2
open C8 (Cal pe_c pe_gc)
def MthX (P : Program) (w : World) (K : PySem.W.Frag) (mg : Str → Option Value) (base : Heap) (k : Nat) (C : Addr) (m : Str) (sp : Sp) : Prop :=
  ∃ f fd ps, FnOk P w K mg base (L2.CX P w) k f fd ps sp ∧ Meth K C m f ∧ Binds K fd ps []
/-- .. by n places and these keywords -/
def MthN (P : Program) (w : World) (K : PySem.W.Frag) (mg : Str → Option Value) (base : Heap) (k : Nat) (C : Addr) (m : Str) (sp : Sp) (n : Nat) (ks : List Str) (gV : List V → List V → List V) : Prop :=
  ∃ (f : Addr) (fd : FuncData) (ps : List Str) (g : List Value → List Value → List Value), FnOk P w K mg base CX0 k f fd ps sp ∧ Meth K C m f ∧ KBn K fd ps (n + 1) ks g gV
section
variable {P : Program} {w : World} {K : PySem.W.Frag} {mg : Str → Option Value} {base : Heap} {C : Addr} {m q : Str} {st : Stmt} {kws : List (Str × V)} {ps : List Str} {k : Nat} {sp : Sp}
theorem mkMthX {N : List Str} (D : MAt K C m q st kws) (S : FnScope N ps (defScope st)) (hb : ∀ (kV doc pm : Value) (an : Option Addr) (cdv ct : Value) (us : List Value), us.length = ps.length → bindArgs (PySem.W.fnOf m q (defArgs st) (defBody st) (defScope st) .none kV doc pm an cdv ct) ⟨us, []⟩ = pure (ps.zip us)) (len : ∀ vs H Q E, sp vs H Q E → vs.length = ps.length)
    (hbody : ∀ (f : Addr) (cdv : Value) (A : Around) (outer : List Env) (s : Shared) (H : Hp) (vs : List V) (Q : VK) (E : XK), Room k (A.deeper (envOfC q (defScope st) s.heap.objs.size f cdv)) → sp vs H Q E →
      ∃ t, PSs (cxOf (L2.CX P w) P w K mg base N q (defScope st) f cdv A outer s H E) (defBody st) t ∧ t { nx := fun _ H' => Q .non H', rt := Q } (start N vs) H) : MthX P w K mg base (k + 1) C m sp := by
  obtain ⟨f, fd, F, g⟩ := D
  exact ⟨f, fd, ps, (fun_of F).okX S len (hbody f), g, F.bindsN hb⟩
theorem MthF.byMix (c : MthF P w K mg base k C m q st kws ps sp) {n : Nat} {ks : List Str} {g : List Value → List Value → List Value} {gV : List V → List V → List V}
    (hb : ∀ (kV doc pm : Value) (an : Option Addr) (cdv ct : Value) (us ws : List Value), us.length = n + 1 → ws.length = ks.length → bindArgs (PySem.W.fnOf m q (defArgs st) (defBody st) (defScope st) .none kV doc pm an cdv ct) ⟨us, ks.zip ws⟩ = pure (ps.zip (g us ws)))
    (hv : ∀ {vs : List V} {us : List Value} {zs : List V} {ws : List Value}, Vals vs us → Vals zs ws → Vals (gV vs zs) (g us ws)) : MthN P w K mg base k C m sp n ks gV := by
  obtain ⟨f, fd, F, a, h⟩ := c
  obtain ⟨oc, od, kV, doc, pm, an, cdv, ct, osl, rfl, lk, hcd⟩ := (fun_of F).ex
  exact ⟨f, _, ps, g, h, a, ⟨fun s us ws kx l1 l2 => BindsTo.of_looks fun M => PySem.W.Looks.of_pure (hb kV doc pm an cdv ct us ws l1 l2), hv⟩⟩
end
section
variable {X : Cx} {k j n : Nat} {C : Addr} {m : Str} {sp : Sp} {o e : Expr} {es : List Expr} {kws : List Keyword} {ks : List Str} {gV : List V → List V → List V} {ta : TE} {t tk : TA} {apos pos : Pos} {E : L2.St → XK}
def tMethX (C : Addr) (m : Str) (sp : Sp) (E : L2.St → XK) (ta : TE) (t : TA) : TE := fun σ H Q => ta σ H fun x H1 => ∃ a dx fs, x = .ref a ∧ H1 a = some (.ins C dx fs) ∧ fs.lookup m = none ∧ t σ H1 fun vs H2 => sp (x :: vs) H2 Q (E σ)
/-- o.m(e, ..) that may raise -/
theorem pe_mX {pl : Sem Bool} (he : PE X o ta) (c : Cls X.K C) (h : MthX X.prog X.w X.K X.mg X.base k C m sp) (hr : Room j X.A) (hk : k ≤ j) (hx : ∀ σ, PassesAt (L2.CX X.prog X.w) X σ (E σ)) (ha : PA X (e :: es) t)
    (hst : starEach (e :: es) X.env = (false, eval e X.env) :: starEach es X.env := by rfl) (hpl : (backTo pos (starEach es X.env)).any (·.1) = false := by rfl)
    (ht : eval (.Call (.Attribute o m apos) (e :: es) [] pos) X.env = (do
      let ov ← eval o X.env
      standAt apos.atName
      let (f, first) ← holding [ov] (getMethod ov m pl)
      callWith pos f first (backTo pos (starEach (e :: es) X.env)) (backToKw pos (keywordEach [] X.env))) := by rfl) : PE X (.Call (.Attribute o m apos) (e :: es) [] pos) (tMethX C m sp E ta t) := by
  obtain ⟨f, fd, ps, F, hm, hb⟩ := h
  refine ⟨fun pins s σ H Q I h => ?_⟩
  refine PySem.W.methodCall_KW (pl := pl) (thn (he.run pins s σ H _ I h) fun u s1 ⟨x, H1, I1, rx, a, dx, fs, ex, ea, l, q⟩ => ?_) ht
  subst ex
  obtain rfl : u = Value.ref a := rx
  refine getmeth_ok I1 ea c hm l ?_
  refine PySem.W.callWith_K (first := [.ref a]) (h₀ := X.base) I.ok.mod.kin hm.kp (thn (ha.run pos pins s1 σ H1 _ I1 q) fun us s2 ⟨vs, H2, I2, r, q2⟩ => ⟨I2.kIn, ?_⟩) hst hpl
  exact run_fnS (us := .ref a :: us) (vs := .ref a :: vs) F (hr.mono hk) hb (hx σ) I2 (.cons rfl r) q2
def tMethN (C : Addr) (m : Str) (n nk : Nat) (sp : Sp) (gV : List V → List V → List V) (ta : TE) (t tk : TA) : TE := fun σ H Q => ta σ H fun x H1 => ∃ a dx fs, x = .ref a ∧ H1 a = some (.ins C dx fs) ∧ fs.lookup m = none ∧ t σ H1 fun vs H2 => tk σ H2 fun zs H3 => vs.length = n ∧ zs.length = nk ∧ sp (gV (x :: vs) zs) H3 Q C8.E0
/-- o.m(e, .., k = v, ..) -/
theorem pe_mN {pl : Sem Bool} (he : PE X o ta) (c : Cls X.K C) (h : MthN X.prog X.w X.K X.mg X.base k C m sp n ks gV) (hr : Room j X.A) (hk : k ≤ j) (ha : PA X (e :: es) t) (hkw : PK X kws tk)
    (hst : starEach (e :: es) X.env = (false, eval e X.env) :: starEach es X.env := by rfl) (hall : (backToKw pos (keywordEach kws X.env)).all (·.1.isSome) = true := by rfl) (hks : (backToKw pos (keywordEach kws X.env)).filterMap (·.1) = ks := by rfl)
    (hpl : ((backTo pos (starEach (e :: es) X.env)).any (·.1) || (backToKw pos (keywordEach kws X.env)).any (·.1.isNone)) = false := by rfl)
    (ht : eval (.Call (.Attribute o m apos) (e :: es) kws pos) X.env = (do
      let ov ← eval o X.env
      standAt apos.atName
      let (f, first) ← holding [ov] (getMethod ov m pl)
      callWith pos f first (backTo pos (starEach (e :: es) X.env)) (backToKw pos (keywordEach kws X.env))) := by rfl) : PE X (.Call (.Attribute o m apos) (e :: es) kws pos) (tMethN C m n ks.length sp gV ta t tk) := by
  obtain ⟨f, fd, ps, g, F, hm, hb⟩ := h
  refine ⟨fun pins s σ H Q I h => ?_⟩
  refine PySem.W.methodCall_KW (pl := pl) (thn (he.run pins s σ H _ I h) fun u s1 ⟨x, H1, I1, rx, a, dx, fs, ex, ea, l, q⟩ => ?_) ht
  subst ex
  obtain rfl : u = Value.ref a := rx
  refine getmeth_ok I1 ea c hm l (PySem.W.callWith_KW (first := [.ref a]) (h₀ := X.base) I.ok.mod.kin hm.kp hall ?_ hpl hst)
  refine thn (ha.run pos pins s1 σ H1 _ I1 q) fun us s2 ⟨vs, H2, I2, r, q2⟩ => ?_
  refine thn (hkw.run pos pins s2 σ H2 _ I2 q2) fun ws s3 ⟨zs, H3, I3, rz, l1, l2, q3⟩ => ⟨I3.kIn, ?_⟩
  rw [hks]
  exact run_fnN (us := .ref a :: us) (vs := .ref a :: vs) F (hr.mono hk) hb pass0 I3 (.cons rfl r) rz (by rw [List.length_cons, l1]) l2 q3
end
end Gj
namespace Gj
open PySem PySem.Spec PyProof.Rows L2
/-- isinstance(e, (c1, c2, ..)), e the caught exception at a -/
def rIsCT (K : PySem.W.Frag) (cls : Value) (d : Option Addr) (a : Addr) : List V → Hp → VK → Prop := fun xs H Q => ∃ (D dd tp : Addr) (cs : List V) (us : List Value) (b : Bool) (fs : List (Str × V)), xs = [.ref a, .ref tp] ∧ cls = .ref D ∧ d = some dd ∧ ExcC K D ∧ H tp = some (.tup cs) ∧ Paired ClsV cs us ∧ H dd = some (.xd fs) ∧ PySem.W.kitAny K (.ref D) us = some b ∧ Q (.bl b) H
theorem call_isCT {X : Cx} {a : Addr} {cls : Value} {d : Option Addr} {oe : Obj} {pn : List (Addr × Obj)} (hz : Zc cls d oe) (hf : ∃ vs, oe.data = .fields vs) : CallR (X.suite a ((a, oe) :: pn)) (.builtin "isinstance") (rIsCT X.K cls d a) := by
  intro pins s σ H xs us Q I r h
  obtain ⟨D, dd, tp, cs, ws, b, fs, rfl, rfl, rfl, T, hT, k, ed, e, q⟩ := h
  obtain ⟨u1, u2, rfl, r1, r2⟩ := vals2 r
  cases r1
  cases (show u2 = Value.ref tp from r2)
  obtain ⟨got, _⟩ := I.pin (a, oe) (List.mem_append.mpr (.inl List.mem_cons_self))
  obtain ⟨vs, hv⟩ := hf
  obtain ⟨mA, hns, _⟩ := (show ObjOk X.prog X.w H s.heap dd (.xd fs) from I.hok dd _ ed)
  obtain ⟨od, _, _, god, _⟩ := hns
  have J : PySem.W.InstAt s.heap a oe D (some od) := ⟨got, hz.1, by unfold PySem.W.notCls; rw [hv] <;> rfl, by rw [hz.2]; exact god⟩
  obtain ⟨_, its, rv, o, h1, h2, n, h3⟩ := (show ObjOk X.prog X.w H s.heap tp (.tup cs) from I.hok tp _ hT)
  have e3 := ClsV.all k rv
  subst e3
  obtain ⟨oc, od2, dt, sl⟩ := o
  simp only at h2 h3
  subst h2 h3
  exact PySem.W.kia_tup (kit_exn T) I.kIn J h1 e (fun z => nomatch z) fun tk => ⟨.bl b, H, I.tok tk, rfl, q⟩
end Gj

set_option maxHeartbeats 2000000
/-! own layer: several clauses `except C as n`, each with the same name n; a caught exception handed to a def; makers that raise -/
namespace Gj
open PySem PySem.Spec PyProof.Rows L2
open C8 (Cal pe_c pe_gc)
abbrev Cls2 : Type := Value × (Addr → Value → Option Addr → TS)
/-- the clauses, one after the other, over the wish Wout of what none of them takes -/
def wAsL (K : PySem.W.Frag) (i : Nat) (Wout : WX) (D : Ends) : List Cls2 → WX
  | [] => Wout
  | (c, ts) :: r => wAs K c i ts (wAsL K i Wout D r) D
inductive HdsN (X : Cx) (n : Str) : List ExceptHandler → List Cls2 → Prop
  | nil : HdsN X n [] []
  | cons {x : Str} {c : Value} {ts : Addr → Value → Option Addr → TS} {b0 : Stmt} {su : List Stmt} {np p2 : Pos} {hds : List ExceptHandler} {l : List Cls2} (hc : Names X x c)
      (hsu : ∀ (a : Addr) (oe : Obj) (cls : Value) (d : Option Addr) (pn : List (Addr × Obj)), Zc cls d oe → (∃ vs, oe.data = .fields vs) → PSs (X.suite a ((a, oe) :: pn)) (b0 :: su) (ts a cls d))
      (r : HdsN X n hds l) : HdsN X n (.ExceptHandler (some (.Name x np)) (some n) (b0 :: su) p2 :: hds) ((c, ts) :: l)
section
variable {X : Cx} {n : Str} {i : Nat} {body : List Stmt} {h0 : ExceptHandler} {hds : List ExceptHandler} {l : List Cls2} {pos : Pos} {tb : WX → TS} {Wout : WX}
theorem ps_tryL (hs : X.stack = X.env :: X.outer) (hf : X.env.frame = some X.env.locals) (hN : X.N.Nodup) (hi : X.N[i]? = some n) (hln : X.env.kindOf n = some .local) (tk : Takes X Wout)
    (hb : ∀ (W : WX) (pn : List (Addr × Obj)) (xe : Value → Shared → Prop), Takes (X.tr pn xe) W → PassesOwn (model X.prog X.w) X.A X.env xe → PSs (X.tr pn xe) body (tb W))
    (hh : HdsN X n (h0 :: hds) l) : PS X (.Try body (h0 :: hds) [] [] pos) (fun D σ H => tb (wAsL X.K i Wout D l) D σ H) := by
  refine ⟨fun pins s σ H D I q0 => wpAny_Try_except ?_⟩
  have ok := I.ok
  have fr : X.A.frames = some (X.env :: X.outer) := ok.frames.trans (congrArg some hs)
  have lo : Loc X.env.scope n := .inl hln
  refine wpAny_mono ((hb (wAsL X.K i Wout D l) (X.pn ++ pins) _ (fun u s' got => ?_) PassesOwn.looking).run [] s σ H D (I.toTry _) q0) (fun f s1 z => ?_) (fun _ _ z => z) (E := fun e s₁ => wpAny (model X.prog X.w) X.A (noteFrame e X.env) (fun _ s₂ => wpAny (model X.prog X.w) X.A (setFlight e none) (fun _ s₃ => wpAny (model X.prog X.w) X.A (handleBy e X.env (h0 :: hds)) (SP X pins D) X.xe s₃) X.xe s₂) X.xe s₁)
  · obtain ⟨a, B, sI, pins', σ1, H1, cls, d, rfl, J', nb, up, sky, na, os, ag, w⟩ := got
    have J : Inv X pins σ1 H1 sI := J'.ofTry ok
    refine Sky.land Zc.steady fr hf (hs ▸ sky) fun h3 fl up3 => ?_
    have J3 : Inv X pins σ1 H1 { s' with heap := h3 } := J.landed nb fl.1 (up.trans up3) os ag
    obtain ⟨oe, vs, he, hz, hd⟩ := fl.there
    have nfr : a ∉ frs (X.env :: X.outer) := fun hm => by
      obtain ⟨_, o', e', hnf⟩ := fl.2.2.1.mem hm
      rw [he] at e'
      cases e'
      exact hnf _ hd
    have nL : a ≠ X.env.locals := fun z => nfr (List.mem_filterMap.mpr ⟨X.env, List.mem_cons_self, by rw [hf, z]⟩)
    have nF : a ∉ X.fs := fun hm => by
      obtain ⟨e, he, q⟩ := List.mem_filterMap.mp hm
      exact nfr (List.mem_filterMap.mpr ⟨e, List.mem_cons_of_mem _ he, q⟩)
    have S3 := J3.suite he hd na nL nF
    suffices go : ∀ {hd' : List ExceptHandler} {l' : List Cls2}, HdsN X n hd' l' → wAsL X.K i Wout D l' cls d σ1 H1 → wpAny (model X.prog X.w) X.A (handleBy (.ref a) X.env hd') (SP X pins D) X.xe { s' with heap := h3 } from go hh w
    intro hd' l' hk
    induction hk with
    | nil =>
      intro w
      refine wpAny_handleBy_nil ?_
      obtain ⟨k1, k2, k3, oe, vs, T, oT, ts', he, hz, hd, h1, hr⟩ := id fl
      unfold PySem.passOn
      refine wpAny_bind (wpAny_field he hd h1 ?_)
      rw [if_neg (show ¬ ((Value.ref T == Value.none) = true) from by simp)]
      have fin : wpAny (model X.prog X.w) X.A (setFlight (.ref a) X.env.frame) (fun _ s4 => wpAny (model X.prog X.w) X.A (throw (.ref a) : Sem Flow) (SP X pins D) X.xe s4) X.xe { s' with heap := h3 } := by
        rw [hf]
        exact HandSPX.setFlight_upZ fl fun h4 hh4 up4 => wpAny_throw (tk _ _ ⟨a, B, sI, pins, σ1, H1, cls, d, rfl, J, nb, (up.trans up3).trans up4, .inr (.inr (by rw [hs]; exact hh4)), na, os, ag, w⟩)
      first
        | exact wpAny_bind (wpAny_pure (wpAny_bind fin))
        | exact wpAny_bind fin
    | @cons x c ts b0 su np p2 hds2 l2 hc hsu r ih =>
      intro w
      obtain ⟨b, hb1, hyes, hno⟩ := w
      refine wpAny_handleBy_cons (codeAny_handlers_test ?_) (by intro q; cases q)
      have LT : PySem.W.Looks (model X.prog X.w) h3 (typeOf (.ref a)) cls := fun A Q E s k q => wpAny_typeOf_ref (k _ _ he) (by rw [hz.1]; exact q)
      have LM := PySem.W.exm_one (M := model X.prog X.w) (J3.kIn) LT hb1
      have test : ∀ {Q : Value → Shared → Prop} {E : Value → Shared → Prop}, Q c { s' with heap := h3 } → wpAny (model X.prog X.w) (X.A.mark (some (.ref a))) (eval (.Name x np) X.env) Q E { s' with heap := h3 } := fun {Q E} q => by
        obtain ⟨hg, hdbg, hm | ⟨hm, hv, hnn⟩⟩ := hc
        · exact ld_glob (X := X.suite a ((a, oe) :: (X.pn ++ pins))) S3 hg hm q hdbg
        · exact ld_blt (X := X.suite a ((a, oe) :: (X.pn ++ pins))) S3 hg hm hv q hnn hdbg
      refine test (LM.here ?_)
      cases b with
      | false => exact ih (hno rfl)
      | true =>
        refine codeAny_handlers_suite_as (HandSPX.lands_againZ fl fun h4 fl4 up4 => ?_)
        have J4 : Inv X pins σ1 H1 { s' with heap := h4 } := J.landed nb fl4.1 ((up.trans up3).trans up4) os ag
        obtain ⟨oe4, vs4, he4, hz4, hd4⟩ := fl4.there
        refine store_ok (X := X.suite a ((a, oe4) :: (X.pn ++ pins))) (v := .ref a) (J4.suite he4 hd4 na nL nF) hN hi lo rfl (fun s5 S5 => ?_) (.inr hln)
        refine wpAny_mono ((hsu a oe4 cls d (X.pn ++ pins) hz4 ⟨_, hd4⟩).run [] s5 _ H1 _ S5 (hyes rfl a na)) (fun f s6 z => ?_) (fun _ _ z => z.elim)
        have off : ∀ {σ6 : L2.St} {H6 : Hp} {Q : Shared → Prop}, Inv (X.suite a ((a, oe4) :: (X.pn ++ pins))) [] σ6 H6 s6 → (∀ s7, Inv X pins (σ6.set i none) H6 s7 → Q s7) →
            wpAny (model X.prog X.w) X.A (do bindName X.env n .none; unbindBehindTheSuite X.env n p2) (fun _ s7 => Q s7) X.xe s6 := fun {σ6 H6 Q} S6 hq => gone_ok (S6.unsuite ok) hN hi hln hq
        cases f with
        | next =>
          obtain ⟨σ6, H6, S6, q6⟩ := z
          exact off S6 fun s7 J7 => ⟨_, _, J7, q6⟩
        | brk =>
          obtain ⟨σ6, H6, S6, q6⟩ := z
          exact off S6 fun s7 J7 => ⟨_, _, J7, q6⟩
        | cont =>
          obtain ⟨σ6, H6, S6, q6⟩ := z
          exact off S6 fun s7 J7 => ⟨_, _, J7, q6⟩
        | ret u =>
          obtain ⟨v6, σ6, H6, S6, r6, q6⟩ := z
          exact off S6 fun s7 J7 => ⟨_, _, _, J7, r6, q6⟩
  · cases f with
    | next =>
      obtain ⟨σ', H', J', q⟩ := z
      exact wpAny_execs_nil ⟨σ', H', J'.ofTry ok, q⟩
    | brk =>
      obtain ⟨σ', H', J', q⟩ := z
      exact ⟨σ', H', J'.ofTry ok, q⟩
    | cont =>
      obtain ⟨σ', H', J', q⟩ := z
      exact ⟨σ', H', J'.ofTry ok, q⟩
    | ret u =>
      obtain ⟨v, σ', H', J', r, q⟩ := z
      exact ⟨v, σ', H', J'.ofTry ok, r, q⟩
end
end Gj

set_option maxHeartbeats 2000000
/-! own layer: a caught exception handed to a def; makers that raise; repr of data with empty dicts -/
namespace Gj
open PySem PySem.Spec PyProof.Rows L2
open C8 (Cal pe_c pe_gc)
open L2H (RoomH PinOk cxH inv_startH roomH_mark)
section
variable {X : Cx} {a : Addr} {cls : Value} {d : Option Addr} {oe : Obj}
/-- isinstance(e, c), e an exception that the context bears -/
theorem call_isP (hp : (a, oe) ∈ X.pn) (hz : Zc cls d oe) (hf : ∃ vs, oe.data = .fields vs) : CallR X (.builtin "isinstance") (rIsC X.K cls d a) := by
  intro pins s σ H xs us Q I r h
  obtain ⟨D, dd, c, cv, b, fs, rfl, rfl, rfl, T, hcv, ed, e, q⟩ := h
  obtain ⟨u1, u2, rfl, r1, r2⟩ := vals2 r
  cases r1
  have ec := hcv.eq r2
  subst ec
  obtain ⟨got, _⟩ := I.pin (a, oe) (List.mem_append_left _ hp)
  obtain ⟨vs, hv⟩ := hf
  obtain ⟨mA, hns, _⟩ := (show ObjOk X.prog X.w H s.heap dd (.xd fs) from I.hok dd _ ed)
  obtain ⟨od, _, _, god, _⟩ := hns
  have J : PySem.W.InstAt s.heap a oe D (some od) := ⟨got, hz.1, by unfold PySem.W.notCls; rw [hv] <;> rfl, by rw [hz.2]; exact god⟩
  exact PySem.W.kia_one (kit_exn T) I.kIn J e (fun z => nomatch z) fun tk => ⟨.bl b, H, I.tok tk, rfl, q⟩
theorem call_isPT (hp : (a, oe) ∈ X.pn) (hz : Zc cls d oe) (hf : ∃ vs, oe.data = .fields vs) : CallR X (.builtin "isinstance") (rIsCT X.K cls d a) := by
  intro pins s σ H xs us Q I r h
  obtain ⟨D, dd, tp, cs, ws, b, fs, rfl, rfl, rfl, T, hT, k, ed, e, q⟩ := h
  obtain ⟨u1, u2, rfl, r1, r2⟩ := vals2 r
  cases r1
  cases (show u2 = Value.ref tp from r2)
  obtain ⟨got, _⟩ := I.pin (a, oe) (List.mem_append_left _ hp)
  obtain ⟨vs, hv⟩ := hf
  obtain ⟨mA, hns, _⟩ := (show ObjOk X.prog X.w H s.heap dd (.xd fs) from I.hok dd _ ed)
  obtain ⟨od, _, _, god, _⟩ := hns
  have J : PySem.W.InstAt s.heap a oe D (some od) := ⟨got, hz.1, by unfold PySem.W.notCls; rw [hv] <;> rfl, by rw [hz.2]; exact god⟩
  obtain ⟨_, its, rv, o, h1, h2, n, h3⟩ := (show ObjOk X.prog X.w H s.heap tp (.tup cs) from I.hok tp _ hT)
  have e3 := ClsV.all k rv
  subst e3
  obtain ⟨oc, od2, dt, sl⟩ := o
  simp only at h2 h3
  subst h2 h3
  exact PySem.W.kia_tup (kit_exn T) I.kIn J h1 e (fun z => nomatch z) fun tk => ⟨.bl b, H, I.tok tk, rfl, q⟩
end
abbrev SpE : Type := Value → Option Addr → Addr → Hp → VK → Prop
/-- a def of one parameter, called within an except suite with the caught exception -/
structure FnE (P : Program) (w : World) (K : PySem.W.Frag) (mg : Str → Option Value) (base : Heap) (k : Nat) (f : Addr) (fd : FuncData) (y : Str) (sp : SpE) : Prop where
  run : ∀ (A : Around) (outer : List Env) (s : Shared) (H : Hp) (Q : VK) (p : Addr × Obj) (cls : Value) (d : Option Addr), RoomH k A → PinOk outer H s p → Zc cls d p.2 → (∃ vs, p.2.data = .fields vs) → Env0 P w K mg base A outer s H →
    BindsTo s fd ⟨[.ref p.1], []⟩ [(y, .ref p.1)] → sp cls d p.1 H Q → codeAny (model P w) A (.call (.ref f) ⟨[.ref p.1], []⟩) (CR CX0 outer P w H s Q C8.E0) s
def CalE (P : Program) (w : World) (K : PySem.W.Frag) (mg : Str → Option Value) (base : Heap) (k : Nat) (x : Str) (sp : SpE) : Prop :=
  ∃ f fd y, FnE P w K mg base k f fd y sp ∧ mg x = some (.ref f) ∧ PySem.W.keepIn K (.ref f) = true ∧ Binds K fd [y] []
theorem mkCalE {P : Program} {w : World} {K : PySem.W.Frag} {mg : Str → Option Value} {base : Heap} {x y : Str} {st : Stmt} {N : List Str} {k : Nat} {sp : SpE} (D : DefAt K mg x st)
    (hb : ∀ (kV doc pm : Value) (an : Option Addr) (cdv ct : Value) (us : List Value), us.length = [y].length → bindArgs (PySem.W.fnOf x x (defArgs st) (defBody st) (defScope st) .none kV doc pm an cdv ct) ⟨us, []⟩ = pure ([y].zip us))
    (S : FnScope N [y] (defScope st))
    (hbody : ∀ (f : Addr) (cdv : Value) (A : Around) (outer : List Env) (s : Shared) (H : Hp) (Q : VK) (p : Addr × Obj) (cls : Value) (d : Option Addr), RoomH k (A.deeper (envOfC x (defScope st) s.heap.objs.size f cdv)) → Zc cls d p.2 → (∃ vs, p.2.data = .fields vs) → sp cls d p.1 H Q →
      ∃ t, PSs (cxH CX0 P w K mg base N x (defScope st) f cdv A outer s H C8.E0 p) (defBody st) t ∧ t { nx := fun _ H' => Q .non H', rt := Q } (L2.start N [.ref p.1]) H) : CalE P w K mg base (k + 1) x sp := by
  obtain ⟨f, fd, F, g⟩ := D
  have bi := F.binds hb
  refine ⟨f, fd, y, FnE.mk (fun A outer s H Q p cls d hr pin hz hf e0 bt hsp => ?_), g, F.kp, bi⟩
  obtain ⟨oc, od, kV, doc, pm, an, cdv, ct, osl, rfl, lk, hcd⟩ := F.ex
  have KX : K.In s.heap := e0.mod.kin.keeps fun b o e => (e0.bs b o e).1
  have lim : s.heap.NoLimit := e0.mod.nolimit.keeps fun b o e => (e0.bs b o e).1
  have kinds : ∀ z ∈ [y].zip [Value.ref p.1], (defScope st).names.lookup z.1 = some .local ∨ ((defScope st).names.lookup z.1 = some .cell ∧ ((cellsFrom (s.heap.objs.size + 1) (defScope st).names []).lookup z.1).isSome = true) := fun ⟨n, v⟩ hy =>
    (S.par n (List.of_mem_zip hy).1).imp id fun q => ⟨q, PySem.W.cellsFrom_some _ _ _ (.inl q)⟩
  refine codeAny_call_function hr.depth (KX _ _ lk) rfl S.co S.gen rfl (PySem.W.codeRec_of KX hcd) (bt _ _ _ _ (wpAny_newFunctionEnv_cells S.kind kinds fun env he s1 x => ?_))
  subst he
  refine ⟨lim.keeps x.toInCall.keep, codeAny_func ?_⟩
  obtain ⟨t, ht, hq⟩ := hbody f cdv A outer s H Q p cls d (hr.deeper _) hz hf hsp
  have I := inv_startH (CX := CX0) (E := C8.E0) (vs := [.ref p.1]) S pin e0 rfl (.cons rfl .nil) x
  refine wpAny_mono (ht.run [] s1 _ H _ I hq) (fun fl s' z => ?_) fun e s' z => z
  cases fl with
  | ret u =>
    obtain ⟨v, σ', H', J, rv, q⟩ := z
    exact ⟨v, H', J.os, J.bare, J.base, J.hok, rv, q⟩
  | next =>
    obtain ⟨σ', H', J, q⟩ := z
    exact ⟨V.non, H', J.os, J.bare, J.base, J.hok, rfl, q⟩
  | brk => exact z.elim fun _ z => z.elim fun _ z => z.2.elim
  | cont => exact z.elim fun _ z => z.elim fun _ z => z.2.elim
def tCallE (sp : SpE) (a : Addr) (cls : Value) (d : Option Addr) (t : TA) : TE := fun σ H Q => t σ H fun vs H1 => vs = [.ref a] ∧ sp cls d a H1 Q
theorem pe_cE {X : Cx} {k j : Nat} {x : Str} {sp : SpE} {p pos : Pos} {e : Expr} {es : List Expr} {t : TA} {a : Addr} {cls : Value} {d : Option Addr} {oe : Obj} {pn : List (Addr × Obj)} (c : CalE X.prog X.w X.K X.mg X.base k x sp) (hz : Zc cls d oe) (hf : ∃ vs, oe.data = .fields vs) (hr : Room j X.A) (hk : k ≤ j) (hg : Gl X x)
    (ha : PA (X.suite a ((a, oe) :: pn)) (e :: es) t) (hdb : (x == ("__debug__" : Str)) = false := by decide) (he : starEach (e :: es) X.env = (false, eval e X.env) :: starEach es X.env := by rfl) (hpl : (backTo pos (starEach es X.env)).any (·.1) = false := by rfl) :
    PE (X.suite a ((a, oe) :: pn)) (.Call (.Name x p) (e :: es) [] pos) (tCallE sp a cls d t) := by
  obtain ⟨f, fd, y, F, hm, kp, hb⟩ := c
  refine ⟨fun pins s σ H Q I h => ?_⟩
  refine wpAny_Call_Name_kw (ld_glob (X := X.suite a ((a, oe) :: pn)) I hg hm ?_ hdb)
  refine PySem.W.callWith_K (h₀ := X.base) I.ok.mod.kin kp (thn (ha.run pos pins s σ H _ I h) fun us s1 ⟨vs, H1, I1, r, ev, q⟩ => ⟨I1.kIn, ?_⟩) he hpl
  subst ev
  obtain ⟨u, rfl, ru⟩ := vals1 r
  cases ru
  have P1 := I1.pin (a, oe) (List.mem_append_left _ List.mem_cons_self)
  have pin : PinOk X.stack H1 s1 (a, oe) := ⟨P1.1, P1.2.1, fun hm => (List.mem_cons.mp (I1.stkSub a hm)).elim P1.2.2.1 P1.2.2.2.1, P1.2.2.2.2⟩
  have bt := hb s1 [.ref a] I1.kIn rfl
  refine wpAny_call (codeAny_mono (F.run _ X.stack s1 H1 Q (a, oe) cls d (roomH_mark (hr.mono hk) _) pin hz hf I1.env0 bt q) fun r s' hq => ?_)
  cases r with
  | error e => exact pass0 pins σ H1 s1 e s' I1 hq
  | ok fl =>
    cases fl with
    | ret u => exact I1.after hq
    | next => exact False.elim hq
    | brk => exact False.elim hq
    | cont => exact False.elim hq
/-! ### makers that raise -/
def MakX (P : Program) (w : World) (K : PySem.W.Frag) (mg : Str → Option Value) (base : Heap) (k : Nat) (C : Addr) (x : Str) (sp : Sp) : Prop := ∃ f fd ps, Mk K C f ∧ FnOk P w K mg base (L2.CX P w) k f fd ps sp ∧ mg x = some (.ref C) ∧ Binds K fd ps []
def tMakeX (C : Addr) (sp : Sp) (E : L2.St → XK) (t : TA) : TE := fun σ H Q => t σ H fun vs H1 => ∀ x dx, H1 x = none → H1 dx = none → dx ≠ x → sp (.ref x :: vs) (upd (upd H1 dx (.own x)) x (.ins C dx [])) (fun v H2 => v = .non ∧ Q (.ref x) H2) (E σ)
theorem pe_mkX {X : Cx} {k j : Nat} {C : Addr} {x : Str} {sp : Sp} {p pos : Pos} {e : Expr} {es : List Expr} {t : TA} {E : L2.St → XK} (h : MakX X.prog X.w X.K X.mg X.base k C x sp) (hr : Room j X.A) (hk : k + 1 ≤ j) (hg : Gl X x) (hx : ∀ σ, PassesAt (L2.CX X.prog X.w) X σ (E σ)) (ha : PA X (e :: es) t) (hdb : (x == ("__debug__" : Str)) = false := by decide)
    (he : starEach (e :: es) X.env = (false, eval e X.env) :: starEach es X.env := by rfl) (hpl : (backTo pos (starEach es X.env)).any (·.1) = false := by rfl) : PE X (.Call (.Name x p) (e :: es) [] pos) (tMakeX C sp E t) := by
  obtain ⟨f, fd, ps, M, F, hm, hb⟩ := h
  refine ⟨fun pins s σ H Q I h => ?_⟩
  refine wpAny_Call_Name_kw (ld_glob I hg hm ?_ hdb)
  refine PySem.W.callWith_K (h₀ := X.base) I.ok.mod.kin M.kp (thn (ha.run pos pins s σ H _ I h) fun us s1 ⟨vs, H1, I1, r, q⟩ => ⟨I1.kIn, ?_⟩) he hpl
  have q0 := q (s1.heap.objs.size + 1) s1.heap.objs.size (I1.hok.fresh (Nat.le_succ _)) (I1.hok.fresh (Nat.le_refl _)) (Nat.ne_of_lt (Nat.lt_succ_self _))
  have I2 := Inv.made (C := C) I1
  have r2 : Vals (V.ref (s1.heap.objs.size + 1) :: vs) (Value.ref (s1.heap.objs.size + 1) :: us) := .cons rfl r
  have hl : (Value.ref (s1.heap.objs.size + 1) :: us ++ []).length = ps.length := by
    rw [List.append_nil, ← r2.length]
    exact F.len _ _ _ _ q0
  have bt := hb _ (Value.ref (s1.heap.objs.size + 1) :: us) I2.kIn hl
  rw [List.append_nil] at bt
  refine wpAny_call (make_map (f := f) I1.kIn M.makes M.init (beq_iff_eq.mp M.fn) (codeAny_mono (F.run _ X.stack _ _ ⟨Value.ref (s1.heap.objs.size + 1) :: us, []⟩ _ _ _ (E σ) ((hr.mono hk).make C us []) (I2.env0.make C us []) bt r2 q0) fun r s' z => ?_))
  cases r with
  | error e => exact hx σ pins _ _ e s' I2 z
  | ok fl =>
    cases fl with
    | ret u =>
      obtain ⟨v, H', I3, rv, ev, q3⟩ := I2.after z
      subst ev
      exact ⟨rv, ⟨V.ref (s1.heap.objs.size + 1), H', I3, rfl, q3⟩⟩
    | next => exact False.elim z
    | brk => exact False.elim z
    | cont => exact False.elim z
/-! ### repr of [x, True, ..], x a datum or {} -/
section
variable {X : Cx} {pins : List (Addr × Obj)} {σ : L2.St} {H : Hp} {s : Shared} {p : Addr}
theorem dic_reads (I : Inv X pins σ H s) {a : Addr} (e : H a = some (.dK [])) : Reads s.heap (.ref a) (.dict []) [a] ∧ a ≠ sysModules := by
  obtain ⟨_, hs, vs, kv, o, es, ep, h1, h2, h3, _, h5, _⟩ := (show ObjOk X.prog X.w H s.heap a (.dK []) from I.hok a _ e)
  cases kv
  have he : es.toList = [] := List.eq_nil_of_length_eq_zero (by rw [h5.length]; rfl)
  refine ⟨?_, beq_eq_false_iff_ne.mp hs⟩
  have r : Reads s.heap (.ref a) (.dict []) (a :: [] ++ []) := Reads.dict h1 h2.1 h3 (by rw [he]; exact ReadsAll.nil) (by rw [he]; exact ReadsAll.nil)
  exact r
theorem bools_reads {h : Heap} : ∀ (bs : List Bool) (us : List Value), Vals (bs.map V.bl) us → ReadsAll h us (bs.map PyData.bool) []
  | [], _, r => by
    cases r
    exact ReadsAll.nil
  | b :: l, _, r => by
    cases r with
    | cons r1 r2 =>
      cases r1
      exact ReadsAll.cons (as := []) (bs := []) (Reads.bool b) (bools_reads l _ r2)
theorem odd_reads (I : Inv X pins σ H s) {v : V} {d : PyData} {u : Value} (h : Dt p H v d) (g : d.hasDict = true → d = .dict []) (r : RelV v u) : ∃ as, Reads s.heap u d as ∧ (d.hasDict = true → sysModules ∉ as) := by
  cases z : d.hasDict with
  | false =>
    obtain ⟨as, q⟩ := Dp.reads I d v u (Dt.dp h z) r
    exact ⟨as, q, fun w => by cases w⟩
  | true =>
    obtain rfl := g z
    cases h with
    | dic n e =>
      cases r
      obtain ⟨q, n⟩ := dic_reads I e
      exact ⟨_, q, fun _ hm => n (List.mem_singleton.mp hm).symm⟩
end
theorem hasDict_bools : ∀ bs : List Bool, PyData.hasDictAll (bs.map PyData.bool) = false
  | [] => rfl
  | b :: l => by rw [List.map_cons, PyData.hasDictAll, hasDict_bools l]; rfl
section
variable {prog : Program} {w : World} {h₀ : Heap} {a : Addr} {o : Obj} {vs : Array Value} {n : Nat} {xs : List PyData} {as : List Addr}
theorem showsL (h1 : h₀.get? a = some o) (h2 : o.cls = .type "list") (h3 : o.data = .seq vs n) (h4 : ReadsAll h₀ vs.toList xs as) (hs : (PyData.list xs).showable = true) (hsm : PyData.hasDictAll xs = true → sysModules ∉ as) (hsz : (PyData.list xs).shown.length ≤ sizeLine) (ne : vs.toList ≠ []) : ∃ T idr, ShowsBy prog w h₀ a (.list xs) T idr := by
  have hz' : (listText (PyData.shownAll xs)).length ≤ sizeLine := by simpa only [PyData.shown] using hsz
  obtain ⟨bs, hb, hk⟩ := ReprAllK.of_readsAll (prog := prog) (w := w) h4 (by simpa [PyData.showable] using hs) hsm (fun t ht => Nat.le_trans (listText_mem_le ht) hz')
  have hna : a ∉ bs := not_mem_of_deeper (.list h1 h2 h3 h4) (by simp only [PyData.depth]; omega) hb
  refine ⟨"list", "list.__repr__", F.slot_list_repr.toG, F.slot_list_str, F.slot_list_format, fun s k => ⟨o, k _ _ h1, h2⟩, fun A E s Q hg hu k hQ => ?_⟩
  simp only [PyData.depth] at hu
  simp only [PyData.shown] at hQ
  obtain ⟨l⟩ := vs
  cases l with
  | nil => exact absurd rfl ne
  | cons x l => exact call_list_reprK h1 h2 h3 hna (by simpa using hk.length_eq) (fun i y e => hk.item i y (by simpa using e)) hg (fun b _ => Clear.nil b) hu k hQ hz'
end
structure ShowsT (d : PyData) : Prop where
  show1 : d.showable = true
  deep : d.depth ≤ 8
  size : d.shown.length ≤ sizeLine
def rReprO : List V → Hp → VK → Prop := fun xs H Q => ∃ (p a : Addr) (v : V) (d : PyData) (bs : List Bool), xs = [.ref a] ∧ H a = some (.lst (v :: bs.map V.bl)) ∧ Dt p H v d ∧ (d.hasDict = true → d = .dict []) ∧ ShowsT (.list (d :: bs.map .bool)) ∧ Q (.str (PyData.list (d :: bs.map .bool)).shown) H
theorem call_reprO {X : Cx} (hg : X.A.guards = some []) (hu : X.A.units + 64 < cLine) : CallR X (.builtin "repr") rReprO := by
  intro pins s σ H xs us Q I r h
  obtain ⟨p, a, v, d, bs, rfl, ea, hd, g, hs, q⟩ := h
  obtain ⟨u, rfl, e⟩ := vals1 r
  cases e
  obtain ⟨its, rv, ⟨o, n, ho, hc, _, hdt⟩, _⟩ := I.list (SqL.of ea)
  cases rv with
  | cons r1 r2 =>
    rename_i u1 us1
    obtain ⟨as, q1, n1⟩ := odd_reads I hd g r1
    have rd : ReadsAll s.heap (u1 :: us1).toArray.toList (d :: bs.map .bool) (as ++ []) := ReadsAll.cons q1 (bools_reads bs us1 r2)
    have hz : PyData.hasDictAll (d :: bs.map .bool) = d.hasDict := by rw [PyData.hasDictAll, hasDict_bools, Bool.or_false]
    obtain ⟨T, idr, S⟩ := showsL (prog := X.prog) (w := X.w) ho hc hdt rd hs.show1 (fun z => by rw [List.append_nil]; exact n1 (hz ▸ z)) hs.size (by simp)
    have dp := hs.deep
    exact call_repr_slot (by omega) (S.typeIs s (fun _ _ e => e)) S.slotRepr (S.call X.A.in1 X.xe s _ hg (by show X.A.units + 1 + _ < cLine; omega) (fun _ _ e => e) fun h' u tk k => ⟨_, _, rfl, ⟨.str _, H, I.kept k, ⟨_, rfl⟩, q⟩⟩)
end Gj

set_option maxHeartbeats 2000000
/-! own layer: methods and defs that may raise, by places and by keywords -/
namespace Gj
open PySem PySem.Spec PyProof.Rows L2
open C8 (Cal pe_c pe_gc)
def MthXF (P : Program) (w : World) (K : PySem.W.Frag) (mg : Str → Option Value) (base : Heap) (k : Nat) (C : Addr) (m q : Str) (st : Stmt) (kws : List (Str × V)) (ps : List Str) (sp : Sp) : Prop :=
  ∃ f fd, FunD K m q (defArgs st) (defBody st) (defScope st) [] kws f fd ∧ Meth K C m f ∧ FnOk P w K mg base (L2.CX P w) k f fd ps sp
def MthXK (P : Program) (w : World) (K : PySem.W.Frag) (mg : Str → Option Value) (base : Heap) (k : Nat) (C : Addr) (m : Str) (sp : Sp) (ks : List Str) (gV : V → List V → List V) : Prop :=
  ∃ (f : Addr) (fd : FuncData) (ps : List Str) (g : List Value → List Value → List Value), FnOk P w K mg base (L2.CX P w) k f fd ps sp ∧ Meth K C m f ∧ KBn K fd ps 1 ks g (fun vs zs => gV (vs.headD .non) zs)
section
variable {P : Program} {w : World} {K : PySem.W.Frag} {mg : Str → Option Value} {base : Heap} {C : Addr} {m q : Str} {st : Stmt} {kws : List (Str × V)} {ps : List Str} {k : Nat} {sp : Sp}
theorem mkMthXF {N : List Str} (D : MAt K C m q st kws) (S : FnScope N ps (defScope st)) (len : ∀ vs H Q E, sp vs H Q E → vs.length = ps.length)
    (hbody : ∀ (f : Addr) (cdv : Value) (A : Around) (outer : List Env) (s : Shared) (H : Hp) (vs : List V) (Q : VK) (E : XK), Room k (A.deeper (envOfC q (defScope st) s.heap.objs.size f cdv)) → sp vs H Q E →
      ∃ t, PSs (cxOf (L2.CX P w) P w K mg base N q (defScope st) f cdv A outer s H E) (defBody st) t ∧ t { nx := fun _ H' => Q .non H', rt := Q } (start N vs) H) : MthXF P w K mg base (k + 1) C m q st kws ps sp := by
  obtain ⟨f, fd, F, g⟩ := D
  exact ⟨f, fd, F, g, (fun_of F).okX S len (hbody f)⟩
theorem MthXF.byPlace (c : MthXF P w K mg base k C m q st kws ps sp) (hb : ∀ (kV doc pm : Value) (an : Option Addr) (cdv ct : Value) (us : List Value), us.length = ps.length → bindArgs (PySem.W.fnOf m q (defArgs st) (defBody st) (defScope st) .none kV doc pm an cdv ct) ⟨us, []⟩ = pure (ps.zip us)) : MthX P w K mg base k C m sp := by
  obtain ⟨f, fd, F, g, h⟩ := c
  exact ⟨f, fd, ps, h, g, F.bindsN hb⟩
theorem MthXF.byKeys (c : MthXF P w K mg base k C m q st kws ps sp) {ks : List Str} {g : Value → List Value → List Value} {gV : V → List V → List V}
    (hb : ∀ (kV doc pm : Value) (an : Option Addr) (cdv ct : Value) (u : Value) (ws : List Value), ws.length = ks.length → bindArgs (PySem.W.fnOf m q (defArgs st) (defBody st) (defScope st) .none kV doc pm an cdv ct) ⟨[u], ks.zip ws⟩ = pure (ps.zip (g u ws)))
    (hv : ∀ {v : V} {u : Value} {zs : List V} {ws : List Value}, RelV v u → Vals zs ws → Vals (gV v zs) (g u ws)) : MthXK P w K mg base k C m sp ks gV := by
  obtain ⟨f, fd, F, a, h⟩ := c
  obtain ⟨oc, od, kV, doc, pm, an, cdv, ct, osl, rfl, lk, hcd⟩ := (fun_of F).ex
  refine ⟨f, _, ps, fun us ws => g (us.headD .none) ws, h, a, ⟨fun s us ws kx l1 l2 => ?_, fun {vs us zs ws} r rz => ?_⟩⟩
  · match us, l1 with
    | [u], _ => exact BindsTo.of_looks fun M => PySem.W.Looks.of_pure (hb kV doc pm an cdv ct u ws l2)
  · cases r with
    | nil => exact hv rfl rz
    | cons r t => exact hv r rz
end
section
variable {X : Cx} {k j : Nat} {C : Addr} {m : Str} {sp : Sp} {o : Expr} {kws : List Keyword} {ks : List Str} {gV : V → List V → List V} {ta : TE} {tk : TA} {apos pos : Pos} {E : L2.St → XK}
def tMethXK (C : Addr) (m : Str) (n : Nat) (sp : Sp) (gV : V → List V → List V) (E : L2.St → XK) (ta : TE) (tk : TA) : TE := fun σ H Q => ta σ H fun x H1 => ∃ a dx fs, x = .ref a ∧ H1 a = some (.ins C dx fs) ∧ fs.lookup m = none ∧ tk σ H1 fun zs H2 => zs.length = n ∧ sp (gV x zs) H2 Q (E σ)
/-- o.m(k = v, ..) that may raise -/
theorem pe_mXK {pl : Sem Bool} (he : PE X o ta) (c : Cls X.K C) (h : MthXK X.prog X.w X.K X.mg X.base k C m sp ks gV) (hr : Room j X.A) (hk : k ≤ j) (hx : ∀ σ, PassesAt (L2.CX X.prog X.w) X σ (E σ)) (hkw : PK X kws tk)
    (hall : (backToKw pos (keywordEach kws X.env)).all (·.1.isSome) = true := by rfl) (hks : (backToKw pos (keywordEach kws X.env)).filterMap (·.1) = ks := by rfl)
    (hpl : ((backTo pos (starEach [] X.env)).any (·.1) || (backToKw pos (keywordEach kws X.env)).any (·.1.isNone)) = false := by rfl)
    (ht : eval (.Call (.Attribute o m apos) [] kws pos) X.env = (do
      let ov ← eval o X.env
      standAt apos.atName
      let (f, first) ← holding [ov] (getMethod ov m pl)
      callWith pos f first (backTo pos (starEach [] X.env)) (backToKw pos (keywordEach kws X.env))) := by rfl) : PE X (.Call (.Attribute o m apos) [] kws pos) (tMethXK C m ks.length sp gV E ta tk) := by
  obtain ⟨f, fd, ps, g, F, hm, hb⟩ := h
  refine ⟨fun pins s σ H Q I h => ?_⟩
  refine PySem.W.methodCall_KW (pl := pl) (thn (he.run pins s σ H _ I h) fun u s1 ⟨x, H1, I1, rx, a, dx, fs, ex, ea, l, q⟩ => ?_) ht
  subst ex
  obtain rfl : u = Value.ref a := rx
  refine getmeth_ok I1 ea c hm l (PySem.W.callWith_KW0 (first := [.ref a]) (h₀ := X.base) I.ok.mod.kin hm.kp hall ?_ hpl)
  refine thn (hkw.run pos pins s1 σ H1 _ I1 q) fun ws s2 ⟨zs, H2, I2, rz, l2, q2⟩ => ⟨I2.kIn, ?_⟩
  rw [hks]
  have r1 : Vals [V.ref a] [Value.ref a] := .cons rfl .nil
  refine wpAny_call (codeAny_mono (F.run X.A X.stack s2 H2 ⟨[.ref a], ks.zip ws⟩ _ _ Q (E σ) (hr.mono hk) I2.env0 (hb.to s2 [.ref a] ws I2.kIn rfl (rz.length.symm.trans l2)) (hb.rel r1 rz) q2) fun r s' z => ?_)
  cases r with
  | error e => exact hx σ pins H2 s2 e s' I2 z
  | ok fl =>
    cases fl with
    | ret u => exact I2.after z
    | next => exact False.elim z
    | brk => exact False.elim z
    | cont => exact False.elim z
end
/-- a def that may raise -/
def CalX (P : Program) (w : World) (K : PySem.W.Frag) (mg : Str → Option Value) (base : Heap) (k : Nat) (x : Str) (sp : Sp) : Prop := ∃ f fd ps, FnOk P w K mg base (L2.CX P w) k f fd ps sp ∧ mg x = some (.ref f) ∧ PySem.W.keepIn K (.ref f) = true ∧ Binds K fd ps []
theorem mkCalX {P : Program} {w : World} {K : PySem.W.Frag} {mg : Str → Option Value} {base : Heap} {x : Str} {st : Stmt} {N ps : List Str} {k : Nat} {sp : Sp} (D : DefAt K mg x st)
    (hb : ∀ (kV doc pm : Value) (an : Option Addr) (cdv ct : Value) (us : List Value), us.length = ps.length → bindArgs (PySem.W.fnOf x x (defArgs st) (defBody st) (defScope st) .none kV doc pm an cdv ct) ⟨us, []⟩ = pure (ps.zip us))
    (S : FnScope N ps (defScope st)) (len : ∀ vs H Q E, sp vs H Q E → vs.length = ps.length)
    (hbody : ∀ (f : Addr) (cdv : Value) (A : Around) (outer : List Env) (s : Shared) (H : Hp) (vs : List V) (Q : VK) (E : XK), Room k (A.deeper (envOfC x (defScope st) s.heap.objs.size f cdv)) → sp vs H Q E →
      ∃ t, PSs (cxOf (L2.CX P w) P w K mg base N x (defScope st) f cdv A outer s H E) (defBody st) t ∧ t { nx := fun _ H' => Q .non H', rt := Q } (start N vs) H) : CalX P w K mg base (k + 1) x sp := by
  obtain ⟨f, fd, F, g⟩ := D
  exact ⟨f, fd, ps, F.okX S len (hbody f), g, F.kp, F.binds hb⟩
theorem pe_cX {X : Cx} {k j : Nat} {x : Str} {sp : Sp} {p pos : Pos} {e : Expr} {es : List Expr} {t : TA} {E : L2.St → XK} (c : CalX X.prog X.w X.K X.mg X.base k x sp) (hr : Room j X.A) (hk : k ≤ j) (hg : Gl X x) (hx : ∀ σ, PassesAt (L2.CX X.prog X.w) X σ (E σ)) (ha : PA X (e :: es) t) (hdb : (x == ("__debug__" : Str)) = false := by decide)
    (he : starEach (e :: es) X.env = (false, eval e X.env) :: starEach es X.env := by rfl) (hpl : (backTo pos (starEach es X.env)).any (·.1) = false := by rfl) : PE X (.Call (.Name x p) (e :: es) [] pos) (tCallS sp E t) := by
  obtain ⟨f, fd, ps, F, hm, kp, hb⟩ := c
  exact pe_callS F (hr.mono hk) hg hm kp hb hx ha hdb he hpl
end Gj

namespace Gj
open PySem PySem.Spec PyProof.Rows L2
open C8 (Cal pe_c pe_gc)
theorem valL_take {l : List Nat} {j c : Nat} (h : l[j]? = some c) : valL (l.take (j + 1)) = valL (l.take j) * 10 + ((c : Int) - 48) := by
  rw [take_snoc h, valL_snoc]
def spNumW : Sp := fun vs H Q _ => ∃ z : Str, vs = [.str z] ∧ z.length ≤ 1000 ∧ ∀ H', Same H H' → Q (numV z) H'
def spPairW : Sp := fun vs H Q _ => ∃ y z : Str, vs = [.str y, .str z] ∧ y.length ≤ 1000 ∧ z.length ≤ 1000 ∧ ∀ H' a, H a = none → Same H H' → H' a = some (.tup [.str y, numV z]) → Q (.ref a) H'
def spToldW : Sp := fun vs H Q _ => ∃ (p c : Addr) (W : List Str), vs = [.ref c] ∧ H p ≠ none ∧ W ≠ [] ∧ H c = some (.lst (W.map V.str)) ∧ W.length ≤ 1000 ∧ (∀ z ∈ W, z.length ≤ 1000) ∧ ∀ H' v, Same H H' → Dt p H' v (toldD W) → Q v H'
theorem dt_num {p : Addr} {H : Hp} (z : Str) : Dt p H (numV z) (numD z) := by
  unfold numV numD
  by_cases h : figs z = true ∧ lead z = false
  · rw [if_pos h, if_pos h]; exact .int _
  · rw [if_neg h, if_neg h]; exact .non
theorem wAt_get {W : List Str} {k : Nat} (h : k < W.length) : (W.map V.str)[k]? = some (.str (wAt W k)) := by
  unfold wAt
  rw [List.getElem?_map, List.getElem?_eq_getElem h, List.getD_eq_getElem?_getD, List.getElem?_eq_getElem h]
  rfl
theorem wAt_len {W : List Str} (h : ∀ z ∈ W, z.length ≤ 1000) (k : Nat) : (wAt W k).length ≤ 1000 := by
  unfold wAt
  rw [List.getD_eq_getElem?_getD]
  by_cases hk : k < W.length
  · rw [List.getElem?_eq_getElem hk]; exact h _ (List.getElem_mem hk)
  · rw [List.getElem?_eq_none (by omega)]; exact (by decide +kernel : Str.length "" ≤ 1000)
section
variable {P : Program} {w : World} {K : PySem.W.Frag} {mg : Str → Option Value} {base : Heap}
theorem sc_number_of : FnScope ["word", "number", "figure"] ["word"] (defScope (topS 26)) := ⟨rfl, rfl, rfl, by decide +kernel, rfl, by decide +kernel, by decide +kernel⟩
theorem ok_number_of (D : DefAt K mg "number_of" (topS 26)) (m : Mg mg) (gs : Gs K mg) (c_is_text_of : Cal P w K mg base 1 "is_text_of" spTextD []) : Cal P w K mg base 2 "number_of" spNumW [] := by
  have sc := sc_number_of
  refine mkCal D (fun _ _ _ _ _ _ us hl => match us, hl with | [_], _ => rfl) sc (fun vs H Q E h => ?_) (fun f cdv A outer s H vs Q E hr h => ?_)
  · obtain ⟨z, rfl, _⟩ := h
    rfl
  · obtain ⟨z, rfl, lz, q⟩ := h
    refine ⟨_, (pss_cons (ps_if (pt_not (pt_val (pe_c c_is_text_of hr (by decide) (by rfl) (pa_cons (pv 0) (pa_cons (pe_gc (by rfl) gs.FIGURES) (pa_cons (pe_callB call_len (by rfl) m.len (by decide +kernel) (pa_cons (pv 0) pa_nil)) pa_nil))))))
  (pss_one (ps_ret pe_non))
  pss_nil)
  (pss_cons (ps_if (PW.pt (pw_and (pt_val (pe_bm PySem.F.plainAttrs_str PySem.F.slot_str_startswith PySem.F.type_str_startswith mt_startswith (pv 0) (pa_cons pe_str pa_nil))) (pw_and1 (pt_cmpR op_ne (pv 0) pe_str (nomark _)))))
  (pss_one (ps_ret pe_non))
  pss_nil)
  (pss_cons (ps_set (i := 1) sc.nd rfl (.inl rfl) pe_int)
  (pss_cons (ps_for PassesOwn.never rfl (pi_str (pv 0)) (pg_name (i := 2) sc.nd rfl (.inl rfl))
  (pss_one (ps_set (i := 1) sc.nd rfl (.inl rfl) (pe_op op_add (pe_op op_mul (pv 1) pe_int) (pe_bm PySem.F.plainAttrs_str PySem.F.slot_str_index PySem.F.type_str_index mt_sindex (pe_gc (by rfl) gs.FIGURES) (pa_cons (pv 2) pa_nil))))))
  (pss_one (ps_ret (pv 1))))))), ?_⟩
    refine ifS (SayT.not (a := figs z) (Say.tB fun Q q => ?_)) (fun e H1 s1 => ?_) (fun e H1 s1 => ?_)
    · refine ⟨_, rfl, _, rfl, _, _, rfl, ⟨Nat.le_of_lt (small1000 (by omega)), rfl⟩, f, _, .str z, _, _, rfl, .str _ lz, fun H1 s1 => q _ s1⟩
    · have e : figs z = false := by simpa using e
      have w := q _ s1
      unfold numV at w
      rw [if_neg (fun h => by rw [e] at h; cases h.1)] at w
      exact w
    have e : figs z = true := by simpa using e
    refine ifS (SayT.and (a := Txt.startswith z "0") (b := !decide (V.str z = V.str "0")) (Say.tB fun Q q => ?_) fun _ H2 s2 => Say.tTest fun Q q => ?_) (fun e2 H2 s2 => ?_) (fun e2 H2 s2 => ?_)
    · exact ⟨_, rfl, rfl, _, _, rfl, rfl, q _ (Same.refl _)⟩
    · exact ⟨_, rfl, rfl, q _ (Same.refl _)⟩
    · rw [dec_str2] at e2
      have e2 : lead z = true := e2
      have w := q _ (s1.trans s2)
      unfold numV at w
      rw [if_neg (fun h => by rw [e2] at h; cases h.2)] at w
      exact w
    rw [dec_str2] at e2
    have e2 : lead z = false := e2
    have fg := (figs_iff.mp e).2
    refine ⟨_, rfl, _, rfl, ?_⟩
    refine for_it walk_str (fun j σ H' => ∃ y2, σ = [some (.str z), some (.int (valL ((TL.tl z).take j))), y2] ∧ Same H H') ⟨_, rfl, s1.trans s2⟩ (fun _ _ _ _ _ => trivial) (fun j x σ H3 H4 hj hp hy => ?_) (fun σ H3 hp => ?_)
    · obtain ⟨rfl, c, ec, rfl⟩ := hy
      obtain ⟨y2, rfl, s3⟩ := hp
      have ec2 : (TL.tl z)[j]? = some c := by rw [← ec]; exact Array.getElem?_toList
      have hc := fg c (List.mem_of_getElem? ec2)
      obtain ⟨k, rfl⟩ : ∃ k, c = 48 + k := ⟨c - 48, by omega⟩
      refine ⟨_, rfl, _, _, rfl, rfl, .inr ⟨by decide, by decide⟩, rfl, _, rfl, _, _, k, [], rfl, rfl, fig_at k (by omega), _, _, rfl, rfl, some (.str ⟨#[48 + k]⟩), ?_, s3⟩
      rw [valL_take ec2]
      have : ((48 + k : Nat) : Int) - 48 = (k : Nat) := by omega
      rw [this]
      rfl
    · obtain ⟨y2, rfl, s3⟩ := hp
      rw [show (TL.tl z).take z.cps.size = TL.tl z from List.take_of_length_le (Nat.le_refl _)]
      have w := q _ s3
      unfold numV at w
      rw [if_pos ⟨e, e2⟩] at w
      exact ⟨_, rfl, w⟩
theorem sc_pair_of : FnScope ["name", "word"] ["name", "word"] (defScope (topS 27)) := ⟨rfl, rfl, rfl, by decide +kernel, rfl, by decide +kernel, by decide +kernel⟩
theorem ok_pair_of (D : DefAt K mg "pair_of" (topS 27)) (c_number_of : Cal P w K mg base 2 "number_of" spNumW []) : Cal P w K mg base 3 "pair_of" spPairW [] := by
  have sc := sc_pair_of
  refine mkCal D (fun _ _ _ _ _ _ us hl => match us, hl with | [_, _], _ => rfl) sc (fun vs H Q E h => ?_) (fun f cdv A outer s H vs Q E hr h => ?_)
  · obtain ⟨y, z, rfl, _⟩ := h
    rfl
  · obtain ⟨y, z, rfl, ly, lz, q⟩ := h
    refine ⟨_, (pss_one (ps_ret (pe_tup (pa_cons (pv 0) (pa_cons (pe_c c_number_of hr (by decide) (by rfl) (pa_cons (pv 1) pa_nil)) pa_nil))))), ?_⟩
    exact ⟨_, rfl, _, rfl, z, rfl, lz, fun H1 s1 => ⟨(by show 2 ≤ sizeLine; decide), fun a na => q _ a (new_of s1 na) (s1.trans (same_new na)) upd_same⟩⟩
theorem sc_told_by : FnScope ["words", "kind", "many"] ["words"] (defScope (topS 28)) := ⟨rfl, rfl, rfl, by decide +kernel, rfl, by decide +kernel, by decide +kernel⟩
theorem ok_told_by (D : DefAt K mg "told_by" (topS 28)) (m : Mg mg) (c_number_of : Cal P w K mg base 2 "number_of" spNumW []) (c_pair_of : Cal P w K mg base 3 "pair_of" spPairW []) : Cal P w K mg base 4 "told_by" spToldW [] := by
  have sc := sc_told_by
  refine mkCal D (fun _ _ _ _ _ _ us hl => match us, hl with | [_], _ => rfl) sc (fun vs H Q E h => ?_) (fun f cdv A outer s H vs Q E hr h => ?_)
  · obtain ⟨p, c, W, rfl, _⟩ := h
    rfl
  · obtain ⟨p, c, W, rfl, hp, ne, ec, lW, wl, q⟩ := h
    refine ⟨_, (pss_cons (ps_par (by rfl) (i := 1) (j := 2) sc.nd rfl rfl (by decide) rfl rfl (pa_cons (pe_ix ix_list (pv 0) pe_int (fun _ _ => rfl)) (pa_cons (pe_callB call_len (by rfl) m.len (by decide +kernel) (pa_cons (pv 0) pa_nil)) pa_nil)) (by rfl))
  (pss_cons (ps_if (PW.pt (pw_and (pt_cmpR op_eq (pv 1) pe_str (nomark _)) (pw_and1 (pt_cmpR op_eq (pv 2) pe_int (nomark _)))))
  (pss_one (ps_ret (pe_tup (pa_cons (pv 1) (pa_cons (pe_ix ix_list (pv 0) pe_int (fun _ _ => rfl)) (pa_cons (pe_ix ix_list (pv 0) pe_int (fun _ _ => rfl)) (pa_cons (pe_ix ix_list (pv 0) pe_int (fun _ _ => rfl)) (pa_cons (pe_c c_pair_of hr (by decide) (by rfl) (pa_cons (pe_ix ix_list (pv 0) pe_int (fun _ _ => rfl)) (pa_cons (pe_ix ix_list (pv 0) pe_int (fun _ _ => rfl)) pa_nil))) pa_nil))))))))
  pss_nil)
  (pss_cons (ps_if (PW.pt (pw_and (pt_cmpR op_eq (pv 1) pe_str (nomark _)) (pw_and1 (pt_cmpR op_eq (pv 2) pe_int (nomark _)))))
  (pss_one (ps_ret (pe_tup (pa_cons (pv 1) (pa_cons (pe_ix ix_list (pv 0) pe_int (fun _ _ => rfl)) (pa_cons (pe_ix ix_list (pv 0) pe_int (fun _ _ => rfl)) (pa_cons (pe_c c_pair_of hr (by decide) (by rfl) (pa_cons (pe_ix ix_list (pv 0) pe_int (fun _ _ => rfl)) (pa_cons (pe_ix ix_list (pv 0) pe_int (fun _ _ => rfl)) pa_nil))) (pa_cons (pe_c c_pair_of hr (by decide) (by rfl) (pa_cons (pe_ix ix_list (pv 0) pe_int (fun _ _ => rfl)) (pa_cons (pe_ix ix_list (pv 0) pe_int (fun _ _ => rfl)) pa_nil))) pa_nil))))))))
  pss_nil)
  (pss_cons (ps_if (PW.pt (pw_and (pt_cmpR op_eq (pv 1) pe_str (nomark _)) (pw_and1 (pt_cmpR op_ge (pv 2) pe_int (nomark _)))))
  (pss_one (ps_ret (pe_tup (pa_cons (pv 1) (pa_cons (pe_ix ix_list (pv 0) pe_int (fun _ _ => rfl)) (pa_cons (pe_c c_number_of hr (by decide) (by rfl) (pa_cons (pe_ix ix_list (pv 0) pe_int (fun _ _ => rfl)) pa_nil)) (pa_cons (pe_callTy call_tuple_of (by rfl) m.tuple (by decide +kernel) (pa_cons (pe_slice sl_list (pv 0) (po_some pe_int) po_none) pa_nil)) pa_nil)))))))
  pss_nil)
  (pss_one (ps_ret (pe_callTy call_tuple_of (by rfl) m.tuple (by decide +kernel) (pa_cons (pv 0) pa_nil)))))))), ?_⟩
    have pos : 0 < W.length := List.length_pos_iff.mpr ne
    have sm : Same H H := Same.refl H
    have lc : ∀ k, (wAt W k).length ≤ 1000 := wAt_len wl
    have lm : (W.map V.str).length = W.length := List.length_map _
    refine ⟨_, rfl, c, _, _, _, rfl, rfl, SqL.of ec, atI_nat (j := 0) (wAt_get (by omega)), _, rfl, _, _, rfl, .inl ⟨_, SqL.of ec, rfl⟩, _, _, rfl, ?_⟩
    rw [lm]
    unfold toldD at q
    refine ifS (SayT.of (sayKind rfl rfl) (b := decide (wAt W 0 = "echo" ∧ W.length = 6)) (by rw [← Bool.decide_and]; exact decide_eq_decide.mpr (and_congr_right fun _ => by omega))) (fun e H1 s1 => ?_) (fun e H1 s1 => ?_)
    · obtain ⟨e1, e2⟩ := of_decide_eq_true e
      rw [if_pos ⟨e1, e2⟩] at q
      have ec := s1 _ _ ec
      have sm := sm.trans s1
      refine ⟨_, rfl, _, rfl, c, _, _, _, rfl, rfl, SqL.of ec, atI_nat (j := 1) (wAt_get (by omega)), _, rfl, c, _, _, _, rfl, rfl, SqL.of ec, atI_nat (j := 2) (wAt_get (by omega)), _, rfl, c, _, _, _, rfl, rfl, SqL.of ec, atI_nat (j := 3) (wAt_get (by omega)), _, rfl, c, _, _, _, rfl, rfl, SqL.of ec, atI_nat (j := 4) (wAt_get (by omega)), _, rfl, c, _, _, _, rfl, rfl, SqL.of ec, atI_nat (j := 5) (wAt_get (by omega)), _, _, rfl, lc 4, lc 5, fun H2 d nd s2 ed => ?_⟩
      refine ⟨(by show 5 ≤ sizeLine; decide), fun e ne => ?_⟩
      have sm2 := sm.trans s2
      have s3 := same_new (o := .tup [.str (wAt W 0), .str (wAt W 1), .str (wAt W 2), .str (wAt W 3), .ref d]) ne
      refine q _ _ (sm2.trans s3) (.tup (ne_p hp sm2 ne) (by show 5 ≤ 1000; decide) upd_same ?_)
      exact .cons (.str _ (lc 0)) (.cons (.str _ (lc 1)) (.cons (.str _ (lc 2)) (.cons (.str _ (lc 3)) (.cons (.tup (ne_p hp sm nd) (by show 2 ≤ 1000; decide) (s3 _ _ ed) (.cons (.str _ (lc 4)) (.cons (dt_num _) .nil))) .nil))))
    rw [if_neg (of_decide_eq_false e)] at q
    have ec := s1 _ _ ec
    have sm := sm.trans s1
    refine ifS (SayT.of (sayKind rfl rfl) (b := decide (wAt W 0 = "answer" ∧ W.length = 7)) (by rw [← Bool.decide_and]; exact decide_eq_decide.mpr (and_congr_right fun _ => by omega))) (fun e H1 s1 => ?_) (fun e H1 s1 => ?_)
    · obtain ⟨e1, e2⟩ := of_decide_eq_true e
      rw [if_pos ⟨e1, e2⟩] at q
      have ec := s1 _ _ ec
      have sm := sm.trans s1
      refine ⟨_, rfl, _, rfl, c, _, _, _, rfl, rfl, SqL.of ec, atI_nat (j := 1) (wAt_get (by omega)), _, rfl, c, _, _, _, rfl, rfl, SqL.of ec, atI_nat (j := 2) (wAt_get (by omega)), _, rfl, c, _, _, _, rfl, rfl, SqL.of ec, atI_nat (j := 3) (wAt_get (by omega)), _, rfl, c, _, _, _, rfl, rfl, SqL.of ec, atI_nat (j := 4) (wAt_get (by omega)), _, _, rfl, lc 3, lc 4, fun H2 d nd s2 ed => ?_⟩
      have ec := s2 _ _ ec
      have sm2 := sm.trans s2
      refine ⟨_, rfl, c, _, _, _, rfl, rfl, SqL.of ec, atI_nat (j := 5) (wAt_get (by omega)), _, rfl, c, _, _, _, rfl, rfl, SqL.of ec, atI_nat (j := 6) (wAt_get (by omega)), _, _, rfl, lc 5, lc 6, fun H3 d2 nd2 s3 ed2 => ?_⟩
      refine ⟨(by show 5 ≤ sizeLine; decide), fun e ne => ?_⟩
      have sm3 := sm2.trans s3
      have s4 := same_new (o := .tup [.str (wAt W 0), .str (wAt W 1), .str (wAt W 2), .ref d, .ref d2]) ne
      refine q _ _ (sm3.trans s4) (.tup (ne_p hp sm3 ne) (by show 5 ≤ 1000; decide) upd_same ?_)
      exact .cons (.str _ (lc 0)) (.cons (.str _ (lc 1)) (.cons (.str _ (lc 2)) (.cons (.tup (ne_p hp sm nd) (by show 2 ≤ 1000; decide) (s4 _ _ (s3 _ _ ed)) (.cons (.str _ (lc 3)) (.cons (dt_num _) .nil))) (.cons (.tup (ne_p hp sm2 nd2) (by show 2 ≤ 1000; decide) (s4 _ _ ed2) (.cons (.str _ (lc 5)) (.cons (dt_num _) .nil))) .nil))))
    rw [if_neg (of_decide_eq_false e)] at q
    have ec := s1 _ _ ec
    have sm := sm.trans s1
    refine ifS (SayT.of (sayKindG rfl rfl) (b := decide (wAt W 0 = "goer" ∧ 3 ≤ W.length)) (by rw [← Bool.decide_and]; exact decide_eq_decide.mpr (and_congr_right fun _ => by omega))) (fun e H1 s1 => ?_) (fun e H1 s1 => ?_)
    · obtain ⟨e1, e2⟩ := of_decide_eq_true e
      rw [if_pos ⟨e1, e2⟩] at q
      have ec := s1 _ _ ec
      have sm := sm.trans s1
      refine ⟨_, rfl, _, rfl, c, _, _, _, rfl, rfl, SqL.of ec, atI_nat (j := 1) (wAt_get (by omega)), _, rfl, c, _, _, _, rfl, rfl, SqL.of ec, atI_nat (j := 2) (wAt_get (by omega)), _, rfl, lc 2, fun H2 s2 => ?_⟩
      have ec := s2 _ _ ec
      have sm2 := sm.trans s2
      refine ⟨_, rfl, 3, rfl, c, _, rfl, SqL.of ec, fun b nb => ?_⟩
      have e3 : cutV (W.map V.str) (some 3) none = (W.drop 3).map V.str := by rw [List.map_drop]; exact cut_from _ 3
      have s3 := same_new (o := .lst (cutV (W.map V.str) (some 3) none)) nb
      refine ⟨b, _, rfl, .inl ⟨SqL.of upd_same, fun d nd => ?_⟩⟩
      have s4 := same_new (o := .tup (cutV (W.map V.str) (some 3) none)) nd
      refine ⟨(by show 4 ≤ sizeLine; decide), fun e ne => ?_⟩
      have sm3 := (sm2.trans s3).trans s4
      have s5 := same_new (o := .tup [.str (wAt W 0), .str (wAt W 1), numV (wAt W 2), .ref d]) ne
      refine q _ _ (sm3.trans s5) (.tup (ne_p hp sm3 ne) (by show 4 ≤ 1000; decide) upd_same ?_)
      refine .cons (.str _ (lc 0)) (.cons (.str _ (lc 1)) (.cons (dt_num _) (.cons (.tup (ne_p hp (sm2.trans s3) nd) ?_ (s5 _ _ upd_same) ?_) .nil)))
      · rw [e3, List.length_map, List.length_drop]; omega
      · rw [e3]
        exact DtAll.strs fun z hz => wl z (List.mem_of_mem_drop hz)
    rw [if_neg (of_decide_eq_false e)] at q
    have ec := s1 _ _ ec
    have sm := sm.trans s1
    refine ⟨_, rfl, c, _, rfl, .inl ⟨SqL.of ec, fun a na => ?_⟩⟩
    exact q _ _ (sm.trans (same_new na)) (.tup (ne_p hp sm na) (by rw [lm]; exact lW) upd_same (DtAll.strs wl))
end
abbrev veT : List Value := [.type "ValueError", .type "Exception", .type "BaseException", .type "object"]
structure Nx16 (K : PySem.W.Frag) (mg : Str → Option Value) : Prop where
  g : mg "NoThing" = some (.ref (He.ga K "NoThing"))
  x : PySem.W.excIn K (He.ga K "NoThing") veT "ValueError.__new__" = true
  k : PySem.W.keepIn K (.ref (He.ga K "NoThing")) = true
  b : PySem.W.subIn K (.ref (He.ga K "NoThing")) (.type "BaseException") = some true
  t : PySem.W.typeIn K (.ref (He.ga K "NoThing")) = some (.type "type")
/-- the thing of a text -/
def thingZ (d : PyData) : Option PyData := match d with
  | .str z => dueD (Txt.split z " ")
  | _ => none
def spThingX (CN : Addr) : Sp := fun vs H Q E => ∃ (p : Addr) (v : V) (d : PyData), vs = [v] ∧ Dt p H v d ∧ H p ≠ none ∧ (∀ z, d = .str z → z.length ≤ 900) ∧ (∀ e, thingZ d = some e → ∀ H' v, Same H H' → Dt p H' v e → Q v H') ∧ (thingZ d = none → ∀ H', Same H H' → E (.ref CN) none H')
section
variable {P : Program} {w : World} {K : PySem.W.Frag} {mg : Str → Option Value} {base : Heap}
theorem scx_thing_of : FnScope ["text", "thing"] ["text"] (defScope (topS 29)) := ⟨rfl, rfl, rfl, by decide +kernel, rfl, by decide +kernel, by decide +kernel⟩
theorem okX_thing_of (D : DefAt K mg "thing_of" (topS 29)) (m : Mg mg) (nx : Nx16 K mg) (c_told_by : Cal P w K mg base 4 "told_by" spToldW []) (c_is_thing : Cal P w K mg base 6 "is_thing" (spPred mThing) []) : CalX P w K mg base 7 "thing_of" (spThingX (He.ga K "NoThing")) := by
  have sc := scx_thing_of
  refine mkCalX D (fun _ _ _ _ _ _ us hl => match us, hl with | [_], _ => rfl) sc (fun vs H Q E h => ?_) (fun f cdv A outer s H vs Q E hr h => ?_)
  · obtain ⟨p, v, d, rfl, _⟩ := h
    rfl
  · obtain ⟨p, v, d, rfl, hd, hp, hz, q, x⟩ := h
    refine ⟨_, (pss_cons (ps_if (pt_not (pt_val (pe_callB (call_isD (T := "str") (.inl rfl)) (by rfl) m.isinstance (by decide +kernel) (pa_cons (pv 0) (pa_cons (pe_bltn (v := .ty "str") (by rfl) m.str (by decide +kernel) rfl) pa_nil)))))
  (pss_one (ps_raise rfl (takes_of rfl rfl rfl rfl) (pmk_own PySem.F.excBase_ValueError nx.x nx.g nx.k (raises_own nx.b nx.t) (by rfl))))
  pss_nil)
  (pss_cons (ps_set (i := 1) sc.nd rfl (.inl rfl) (pe_c c_told_by hr (by decide) (by rfl) (pa_cons (pe_split (pv 0) pe_str) pa_nil)))
  (pss_cons (ps_if (pt_not (pt_val (pe_c c_is_thing hr (by decide) (by rfl) (pa_cons (pv 1) pa_nil))))
  (pss_one (ps_raise rfl (takes_of rfl rfl rfl rfl) (pmk_own PySem.F.excBase_ValueError nx.x nx.g nx.k (raises_own nx.b nx.t) (by rfl))))
  pss_nil)
  (pss_one (ps_ret (pv 1)))))), ?_⟩
    refine ifS (SayT.not (a := isa d "str") ?_) (fun e H1 s1 => ?_) (fun e H1 s1 => ?_)
    · exact Say.tB (say_isa (T := "str") (p := p) (giv_var rfl) hd)
    · have e : isa d "str" = false := by simpa using e
      refine x ?_ _ s1
      cases d with
      | str z => exact absurd e (by dsimp only [isa, kind]; decide +kernel)
      | _ => rfl
    have e : isa d "str" = true := by simpa using e
    cases hd with
    | str z _ =>
      have lz := hz z rfl
      have tz := tot_split z
      refine ⟨_, rfl, ⟨_, rfl⟩, _, _, rfl, rfl, rfl, (by rw [sizeLine_eq]; omega), fun c nc => ?_⟩
      have pos := split_pos z
      have ne : Txt.split z " " ≠ [] := List.ne_nil_of_length_pos pos
      have q : ∀ e, dueD (Txt.split z " ") = some e → ∀ H' v, Same H H' → Dt p H' v e → _ := q
      have x : dueD (Txt.split z " ") = none → _ := x
      rw [due_told ne] at q x
      generalize Txt.split z " " = W at tz pos ne q x
      have lW : W.length ≤ tot W := Nat.le_add_left _ _
      refine ⟨p, c, W, rfl, fun e => ?_, ne, upd_same, by omega, fun y hy => by have := tot_mem hy; omega, fun H2 v s2 hv => ?_⟩
      · cases e0 : H p with
        | none => exact hp e0
        | some o => rw [(s1.trans (same_new nc)) _ _ e0] at e; cases e
      have sm := (s1.trans (same_new nc)).trans s2
      refine gNameE ?_
      dsimp only
      refine ifS (SayT.not (a := mThing (toldD W)) ?_) (fun e H3 s3 => ?_) (fun e H3 s3 => ?_)
      · exact Say.tB (say_call (giv_var rfl) hv)
      · have e : mThing (toldD W) = false := by simpa using e
        rw [e] at x
        exact x rfl _ (sm.trans s3)
      · have e : mThing (toldD W) = true := by simpa using e
        rw [e] at q
        exact ⟨_, rfl, q _ rfl _ _ (sm.trans s3) (hv.same s3)⟩
    | _ => exact absurd e (by dsimp only [isa, kind]; decide +kernel)
end
end Gj

namespace Gj
open PySem PySem.Spec PyProof.Rows L2
open C8 (Cal pe_c pe_gc)
/-! ### data that are so -/
def LaP (S : PyData → Prop) (te : TE) (p : Addr) (σ : L2.St) (H : Hp) : Prop := ∀ Q : VK, (∀ (H' : Hp) (v : V) (d : PyData), Drawn p H H' → Dt p H' v d → S d → Q v H') → te σ H Q
def LaPs (S : List PyData → Prop) (ta : TA) (p : Addr) (σ : L2.St) (H : Hp) : Prop := ∀ Q : List V → Hp → Prop, (∀ (H' : Hp) (vs : List V) (ds : List PyData), Drawn p H H' → DtAll p H' vs ds → S ds → Q vs H') → ta σ H Q
def LaPL (S : List PyData → Prop) (te : TE) (p : Addr) (σ : L2.St) (H : Hp) : Prop := ∀ Q : VK, (∀ (H' : Hp) (c : Addr) (xs : List V) (ds : List PyData), Drawn p H H' → c ≠ p → xs.length ≤ 1000 → H' c = some (.lst xs) → DtAll p H' xs ds → S ds → Q (.ref c) H') → te σ H Q
/-- n of them, each so -/
def AllN (S : PyData → Prop) (n : Nat) (ds : List PyData) : Prop := ds.length = n ∧ ∀ d ∈ ds, S d
section
variable {p : Addr} {σ : L2.St} {H : Hp} {te tb : TE} {ta : TA} {n : Nat} {v : V} {d : PyData} {K : PySem.W.Frag} {S : PyData → Prop} {T U : List PyData → Prop}
theorem LaP.of (h : Giv te σ H v) (hp : Pot H p) (hd : Dt p H v d) (s : S d) : LaP S te p σ H := fun Q q => h _ (q H v d (Drawn.refl hp) hd s)
theorem LaP.mono {S2 : PyData → Prop} (h : LaP S te p σ H) (m : ∀ d, S d → S2 d) : LaP S2 te p σ H := fun Q q => h _ fun H' v d r hd s => q H' v d r hd (m d s)
theorem AllN.nil : AllN S 0 [] := ⟨rfl, fun _ h => absurd h List.not_mem_nil⟩
theorem AllN.cons {ds : List PyData} (h : S d) (t : AllN S n ds) : AllN S (n + 1) (d :: ds) := ⟨by rw [List.length_cons, t.1], fun x hx => by
  rcases List.mem_cons.mp hx with rfl | hx
  · exact h
  · exact t.2 x hx⟩
theorem LaPs.nil (hp : Pot H p) : LaPs (AllN S 0) tNil p σ H := fun Q q => q H [] [] (Drawn.refl hp) .nil .nil
theorem LaPs.cons (h : LaP S te p σ H) (ht : ∀ H', Drawn p H H' → LaPs (AllN S n) ta p σ H') : LaPs (AllN S (n + 1)) (tCons te ta) p σ H := fun Q q => h _ fun H1 v d r1 h1 s1 => ht H1 r1 _ fun H2 vs ds r2 h2 s2 => q H2 _ _ (r1.trans r2) (.cons (h1.keep r2.keep) h2) (.cons s1 s2)
theorem LaPs.tup {S2 : PyData → Prop} (h : LaPs T ta p σ H) (m : ∀ ds, T ds → ds.length ≤ 1000 ∧ S2 (.tuple ds)) : LaP S2 (tTup ta) p σ H := fun Q q => h _ fun H1 vs ds r h1 s => ⟨by have := h1.length; have := (m ds s).1; exact Nat.le_of_lt (small1000 (by omega)), fun a na => q _ _ _ (r.new na) (.tup (r.pot.ne na) (by have := h1.length; have := (m ds s).1; omega) upd_same (h1.keep (Keep.new na))) (m ds s).2⟩
theorem LaPs.lst {S2 : PyData → Prop} (h : LaPs T ta p σ H) (m : ∀ ds, T ds → ds.length ≤ 1000 ∧ S2 (.list ds)) : LaP S2 (tLst ta) p σ H := fun Q q => h _ fun H1 vs ds r h1 s => ⟨by have := h1.length; have := (m ds s).1; exact Nat.le_of_lt (small1000 (by omega)), fun a na => q _ _ _ (r.new na) (.lst (r.pot.ne na) (by have := h1.length; have := (m ds s).1; omega) upd_same (h1.keep (Keep.new na))) (m ds s).2⟩
theorem LaPs.lstL (h : LaPs T ta p σ H) (m : ∀ ds, T ds → ds.length ≤ 1000) : LaPL T (tLst ta) p σ H := fun Q q => h _ fun H1 vs ds r h1 s => ⟨by have := h1.length; have := m ds s; exact Nat.le_of_lt (small1000 (by omega)), fun a na => q _ a vs ds (r.new na) (r.pot.ne na) (by have := h1.length; have := m ds s; omega) upd_same (h1.keep (Keep.new na)) s⟩
theorem LaPL.var {c : Addr} {xs : List V} {ds : List PyData} (h : Giv te σ H (.ref c)) (hp : Pot H p) (hc : c ≠ p) (hl : xs.length ≤ 1000) (e : H c = some (.lst xs)) (hd : DtAll p H xs ds) (s : T ds) : LaPL T te p σ H := fun Q q => h _ (q H c xs ds (Drawn.refl hp) hc hl e hd s)
theorem LaPL.lay {S2 : PyData → Prop} (h : LaPL T te p σ H) (m : ∀ ds, T ds → S2 (.list ds)) : LaP S2 te p σ H := fun Q q => h _ fun H1 c xs ds r nc hl ec hd s => q _ _ _ r (.lst nc hl ec hd) (m ds s)
theorem LaPL.mono {T2 : List PyData → Prop} (h : LaPL T te p σ H) (m : ∀ ds, T ds → T2 ds) : LaPL T2 te p σ H := fun Q q => h _ fun H1 c xs ds r nc hl ec hd s => q _ _ _ _ r nc hl ec hd (m ds s)
theorem LaPL.cat {T2 : List PyData → Prop} (h : LaPL T te p σ H) (h2 : ∀ H', Drawn p H H' → LaPL T2 tb p σ H') (m : ∀ ds es, T ds → T2 es → (ds ++ es).length ≤ 1000 ∧ U (ds ++ es)) : LaPL U (tOp rCat te tb) p σ H := fun Q q => h _ fun H1 a xs ds r1 na l1 ea ha s1 => h2 H1 r1 _ fun H2 b ys es r2 nb l2 eb hb s2 => by
  have ea2 := r2.keep _ _ na ea
  have hab := (ha.keep r2.keep).append hb
  have l := hab.length
  have mm := m ds es s1 s2
  exact ⟨a, b, xs, ys, rfl, rfl, ea2, eb, by rw [← List.length_append, l]; exact Nat.le_of_lt (small1000 mm.1), fun c nc => q _ c _ _ ((r1.trans r2).new nc) (r2.pot.ne nc) (by rw [l]; exact mm.1) upd_same (hab.keep (Keep.new nc)) mm.2⟩
/-- x[a number] -/
theorem LaPL.pick {S2 : PyData → Prop} (h : LaPL T te p σ H) (hi : ∀ (H' : Hp) (c : Addr) (xs : List V) (ds : List PyData), Drawn p H H' → H' c = some (.lst xs) → DtAll p H' xs ds → T ds → LayI tb p σ H' xs.length) (m : ∀ ds, T ds → ∀ d ∈ ds, S2 d) : LaP S2 (tOp (rIxL K) te tb) p σ H := fun Q q => h _ fun H1 a vs ds r na hl ea h1 s => by
  refine hi _ a vs ds r ea h1 s _ fun H2 i r2 i0 i1 => ?_
  have e2 : H2 a = some (.lst vs) := r2.keep _ _ na ea
  have hh := h1.keep r2.keep
  obtain ⟨k, rfl⟩ := Int.eq_ofNat_of_zero_le i0
  have hk : vs[k]? = some (vs[k]'(by omega)) := List.getElem?_eq_getElem _
  obtain ⟨d, ed, hd⟩ := hh.get hk
  exact ⟨a, vs, k, _, rfl, rfl, SqL.of e2, atI_nat hk, q _ _ d (r.trans r2) hd (m ds s d (List.mem_of_getElem? ed))⟩
theorem LaP.pickV {c : Addr} {xs : List V} {ds : List PyData} {S2 : PyData → Prop} (h : Giv te σ H (.ref c)) (nc : c ≠ p) (e : H c = some (.lst xs)) (hd : DtAll p H xs ds) (hi : LayI tb p σ H xs.length) (m : ∀ d ∈ ds, S2 d) : LaP S2 (tOp (rIxL K) te tb) p σ H := fun Q q => h _ (hi _ fun H2 i r2 i0 i1 => by
  have e2 : H2 c = some (.lst xs) := r2.keep _ _ nc e
  have hh := hd.keep r2.keep
  obtain ⟨k, rfl⟩ := Int.eq_ofNat_of_zero_le i0
  have hk : xs[k]? = some (xs[k]'(by omega)) := List.getElem?_eq_getElem _
  obtain ⟨d, ed, hd⟩ := hh.get hk
  exact ⟨c, xs, k, _, rfl, rfl, SqL.of e2, atI_nat hk, q _ _ d r2 hd (m d (List.mem_of_getElem? ed))⟩)
theorem LaP.run {Q : VK} (h : LaP S te p σ H) (q : ∀ (H' : Hp) (v : V) (d : PyData), Drawn p H H' → Dt p H' v d → S d → Q v H') : te σ H Q := h Q q
theorem LaPL.run {Q : VK} (h : LaPL T te p σ H) (q : ∀ (H' : Hp) (c : Addr) (xs : List V) (ds : List PyData), Drawn p H H' → c ≠ p → xs.length ≤ 1000 → H' c = some (.lst xs) → DtAll p H' xs ds → T ds → Q (.ref c) H') : te σ H Q := h Q q
theorem retPd {D : Ends} (h : LaP S te p σ H) (q : ∀ (H' : Hp) (v : V) (d : PyData), Drawn p H H' → Dt p H' v d → S d → D.rt v H') : tRet te D σ H := h _ q
theorem setPL {D : Ends} {u : TS} {i : Nat} (h : LaPL T te p σ H) (q : ∀ (H' : Hp) (c : Addr) (xs : List V) (ds : List PyData), Drawn p H H' → c ≠ p → xs.length ≤ 1000 → H' c = some (.lst xs) → DtAll p H' xs ds → T ds → u D (σ.set i (some (.ref c))) H') : tSeq (tAsg te (gName i)) u D σ H := h _ q
end
def rEqE (K : PySem.W.Frag) : R2 := fun x y H Q => ∃ (a b : Addr) (xs : List V), x = .ref a ∧ y = .ref b ∧ SqL K H a xs ∧ SqL K H b [] ∧ Q (.bl xs.isEmpty) H
theorem op_eqE {X : Cx} (hu : X.A.units + 64 < cLine) : OpR X (compareOp .Eq) (rEqE X.K) := by
  intro pins s σ H x y v u Q I rx ry h
  obtain ⟨a, b, xs, rfl, rfl, h1, h2, q⟩ := h
  cases rx
  cases ry
  have hu0 : X.A.units < cLine := by omega
  obtain ⟨its, r1, p1, _⟩ := I.list h1
  obtain ⟨ks, r2, p2, _⟩ := I.list h2
  cases r2
  cases xs with
  | nil =>
    cases r1
    exact SeqAt.RcAt.lists (e := fun _ => true) p1.isList p2.isList rfl hu0 (fun j h1 h2 => absurd h1 (Nat.not_lt_zero _)) X.prog X.w _ _ ⟨.bl _, H, I, rfl, q⟩
  | cons z l =>
    cases r1
    exact SeqAt.RcAt.lists_lengths p1.isList p2.isList (by simp) hu0 X.prog X.w _ _ ⟨.bl _, H, I, rfl, q⟩
section
variable {σ : L2.St} {H : Hp} {te tp : TE} {ta : TA} {K : PySem.W.Frag} {c p : Addr} {xs : List V} {S : PyData → Prop}
theorem LaP.dnew (hp : Pot H p) (s : S (.dict [])) : LaP S tDNewK p σ H := fun Q q a na => q _ _ (.dict []) ((Drawn.refl hp).new na) (.dic (hp.ne na) upd_same) s
theorem say_neL (h : Giv te σ H (.ref c)) (ec : H c = some (.lst xs)) : SayT (tTest (tOp (rNeE K) te (tLst tNil))) σ H (!xs.isEmpty) := Say.tTest fun Q q => h _ ⟨(by show 0 ≤ sizeLine; decide), fun a na => ⟨c, a, xs, rfl, rfl, .inl ⟨SqL.of (same_new na _ _ ec), SqL.of upd_same⟩, q _ (same_new na)⟩⟩
theorem say_eqL (h : Giv te σ H (.ref c)) (ec : H c = some (.lst xs)) : SayT (tTest (tOp (rEqE K) te (tLst tNil))) σ H xs.isEmpty := Say.tTest fun Q q => h _ ⟨(by show 0 ≤ sizeLine; decide), fun a na => ⟨c, a, xs, rfl, rfl, SqL.of (same_new na _ _ ec), SqL.of upd_same, q _ (same_new na)⟩⟩
theorem say_gt0 (hv : Giv te σ H (.ref c)) (e : H c = some (.tup xs)) : Say (tOp (rI0 fun i j => .bl (decide (i > j))) (tCB (rLenX K) (tCons te tNil)) (tC (.int 0))) σ H (!xs.isEmpty) := fun Q q => hv _ ⟨.ref c, xs.length, rfl, .inr ⟨xs, SqT.of e, rfl⟩, _, _, rfl, rfl, by
  have : decide (((xs.length : Nat) : Int) > 0) = !xs.isEmpty := by
    cases xs with
    | nil => rfl
    | cons x l => exact decide_eq_true (by rw [List.length_cons]; omega)
  show Q (V.bl (decide (((xs.length : Nat) : Int) > 0))) H
  rw [this]
  exact q H (Same.refl H)⟩
end
/-! ### more combinations -/
section
variable {p : Addr} {σ : L2.St} {H : Hp} {te tb tn tp tc tw : TE} {ta : TA} {n : Nat} {v : V} {d : PyData} {K : PySem.W.Frag} {S : PyData → Prop} {T U : List PyData → Prop} {c w : Addr} {xs ys : List V} {ds es : List PyData} {E : XK}
theorem LaP.ifE {t : TT} {b : Bool} (h : SayT t σ H b) (hp : Pot H p) (h1 : b = true → ∀ H', Drawn p H H' → Same H H' → LaP S te p σ H') (h2 : b = false → ∀ H', Drawn p H H' → Same H H' → LaP S tb p σ H') : LaP S (tIf t te tb) p σ H := fun Q q => h _ fun H1 s1 => by
  have r1 : Drawn p H H1 := ⟨Same.keep s1, hp.same s1⟩
  cases b with
  | true => exact iteT (h1 rfl H1 r1 s1 _ fun H' v d r hd s => q H' v d (r1.trans r) hd s)
  | false => exact iteF (h2 rfl H1 r1 s1 _ fun H' v d r hd s => q H' v d (r1.trans r) hd s)
theorem LaP.tupOf (h : Giv te σ H (.ref c)) (hp : Pot H p) (hl : xs.length ≤ 1000) (e : H c = some (.lst xs)) (hd : DtAll p H xs ds) (s : S (.tuple ds)) : LaP S (tCB (rTupOf K) (tCons te tNil)) p σ H := fun Q q => h _ ⟨c, xs, rfl, .inl ⟨SqL.of e, fun a na => q _ _ (.tuple ds) ((Drawn.refl hp).new na) (.tup (hp.ne na) hl upd_same (hd.keep (Keep.new na))) s⟩⟩
theorem LaP.lstOf (h : Giv te σ H (.ref c)) (hp : Pot H p) (hl : xs.length ≤ 1000) (e : H c = some (.tup xs)) (hd : DtAll p H xs ds) (s : S (.list ds)) : LaP S (tCB (rLstOf K) (tCons te tNil)) p σ H := fun Q q => h _ ⟨c, xs, rfl, .inr (SqT.of e), fun a na => q _ _ (.list ds) ((Drawn.refl hp).new na) (.lst (hp.ne na) hl upd_same (hd.keep (Keep.new na))) s⟩
theorem LaPL.toI {i : Int} (h : Giv te σ H (.ref c)) (nc : c ≠ p) (hl : xs.length ≤ 1000) (e : H c = some (.lst xs)) (hd : DtAll p H xs ds) (hi : LayI tn p σ H i) : LaPL (fun es => ∃ k : Nat, (k : Int) < i ∧ es = ds.take k) (tSl (rSlL K) te tNoPart (tPart tn)) p σ H := fun Q q => h _ (hi _ fun H2 j r2 j0 j1 => by
  obtain ⟨k, rfl⟩ := Int.eq_ofNat_of_zero_le j0
  refine ⟨_, rfl, c, xs, rfl, SqL.of (r2.keep _ _ nc e), fun a na => ?_⟩
  rw [cut_to]
  exact q _ a _ _ (r2.new na) (r2.pot.ne na) (by rw [List.length_take]; omega) upd_same (((hd.keep r2.keep).take k).keep (Keep.new na)) ⟨k, j1, rfl⟩)
theorem LaPL.toG {k : Nat} (h : Giv te σ H (.ref c)) (hp : Pot H p) (hl : xs.length ≤ 1000) (e : H c = some (.lst xs)) (hd : DtAll p H xs ds) (hi : Giv tn σ H (.int (k : Nat))) : LaPL (fun es => es = ds.take k) (tSl (rSlL K) te tNoPart (tPart tn)) p σ H := fun Q q => h _ (hi _ (by
  refine ⟨_, rfl, c, xs, rfl, SqL.of e, fun a na => ?_⟩
  rw [cut_to]
  exact q _ a _ _ ((Drawn.refl hp).new na) (hp.ne na) (by rw [List.length_take]; omega) upd_same ((hd.take k).keep (Keep.new na)) rfl))
theorem LaPL.fromG {k : Nat} (h : Giv te σ H (.ref c)) (hp : Pot H p) (hl : xs.length ≤ 1000) (e : H c = some (.lst xs)) (hd : DtAll p H xs ds) (hi : Giv tn σ H (.int (k : Nat))) : LaPL (fun es => es = ds.drop k) (tSl (rSlL K) te (tPart tn) tNoPart) p σ H := fun Q q => h _ (hi _ (by
  refine ⟨_, rfl, c, xs, rfl, SqL.of e, fun a na => ?_⟩
  rw [cut_from]
  exact q _ a _ _ ((Drawn.refl hp).new na) (hp.ne na) (by rw [List.length_drop]; omega) upd_same ((hd.drop k).keep (Keep.new na)) rfl))
theorem giv_addN {i j : Nat} (h1 : Giv te σ H (.int (i : Nat))) (h2 : Giv tb σ H (.int (j : Nat))) : Giv (tOp (rI0 fun i j => .int (i + j)) te tb) σ H (.int ((i + j : Nat) : Nat)) := giv_add h1 h2
theorem giv_less {n : Nat} (h : Giv te σ H (.int (n : Nat))) : Giv (tOp (rI0 fun i j => .int (i - j)) (tC (.int 7)) (tCB (fun xs H Q => ∃ i j, xs = [V.int i, V.int j] ∧ Q (.int (if j < i then j else i)) H) (tCons (tC (.int 7)) (tCons te tNil)))) σ H (.int ((7 - min 7 n : Nat) : Nat)) := fun Q q => h _ ⟨7, (n : Nat), rfl, _, _, rfl, rfl, by
  have : (7 : Int) - (if ((n : Nat) : Int) < 7 then ((n : Nat) : Int) else 7) = ((7 - min 7 n : Nat) : Nat) := by
    split <;> omega
  show Q (V.int ((7 : Int) - (if ((n : Nat) : Int) < 7 then ((n : Nat) : Int) else 7))) H
  rw [this]
  exact q⟩
end
end Gj

/-! own layer: for x, y in zip(a, z), a list and a text -/
namespace Gj
open PySem PySem.Spec PyProof.Rows L2
def ItS2 (K : PySem.W.Frag) (a : Addr) (z : Str) : It :=
  ⟨fun i H => ∃ (xs : List V) (x : V) (c : Nat), (SqL K H a xs ∧ xs[i]? = some x) ∧ z.cps[i]? = some c,
   fun i H v H' => ∃ T x c, v = .ref T ∧ H T = none ∧ H' = upd H T (.tup [x, .str ⟨#[c]⟩]) ∧ (∀ l, SqL K H a l → l[i]? = some x) ∧ z.cps[i]? = some c,
   fun i H => ∃ xs : List V, (SqL K H a xs ∧ xs.length = i) ∧ z.cps.size = i⟩
structure Zt (a : Addr) (z : Str) (t : Tok) (o TI TO i1 i2 : Addr) (i : Nat) (h : Heap) : Prop where
  hz : IsZip h o TI TO .none
  ti : IsTupOf2 h TI (.ref i1) (.ref i2)
  to : ∃ u1 u2, IsTupOf2 h TO u1 u2
  j1 : h.IsListIter i1 a i
  j2 : h.IsStrIter i2 (strIterType z) z t i
theorem in5 {x o TI TO i1 i2 : Addr} (h : x ∈ [o, TI, TO, i1, i2]) : x = o ∨ x = TI ∨ x = TO ∨ x = i1 ∨ x = i2 := by simpa using h
theorem apartL {h : Heap} {it l : Addr} {i : Nat} {m : Array Value} (h1 : h.IsListIter it l i) (h2 : h.IsList l m) : l ≠ it := by
  rintro rfl
  obtain ⟨o, e, c, _⟩ := h1
  obtain ⟨o', e', c', _⟩ := h2
  rw [e] at e'
  cases e'
  exact absurd (Value.type.inj (c.symm.trans c')) (by decide)
theorem turnS {P : Program} {w : World} {K : PySem.W.Frag} {elts : List Expr} {kk : Nat} {tpos : Pos} {a o TI TO i1 i2 : Addr} {z : Str} {t : Tok} (D : ZipSep2 o TI TO i1 i2 [i1, a] [i2]) :
    Turn P w K (.Tuple elts kk tpos) (ItS2 K a z) [o, TI, TO, i1, i2] o (Zt a z t o TI TO i1 i2) where
  mem := List.mem_cons_self ..
  obj := fun i h st x hx => by
    obtain ⟨hz, ti, ⟨_, _, to⟩, ⟨o1, e1, _, d1⟩, ⟨o2, e2, _, d2⟩⟩ := st
    rcases in5 hx with rfl | rfl | rfl | rfl | rfl
    · exact ⟨_, hz, fun v => nofun⟩
    · exact ⟨_, ti, fun v => nofun⟩
    · exact ⟨_, to, fun v => nofun⟩
    · exact ⟨o1, e1, fun v q => by rw [d1] at q; cases q⟩
    · exact ⟨o2, e2, fun v q => by rw [d2] at q; cases q⟩
  keep := fun i h h' st k => by
    obtain ⟨hz, ti, ⟨u1, u2, to⟩, j1, ⟨o2, e2, r2⟩⟩ := st
    exact ⟨k o (by simp) _ hz, k TI (by simp) _ ti, ⟨u1, u2, k TO (by simp) _ to⟩, j1.at (k i1 (by simp)), ⟨o2, k i2 (by simp) _ e2, r2⟩⟩
  item := by
    intro X hP hw hK hc i pins s σ H E I hf st hg
    subst hP hw hK
    obtain ⟨hz, ti, ⟨u1, u2, to⟩, j1, j2⟩ := st
    obtain ⟨xs, x, c, ⟨qx, gx⟩, gc⟩ := hg
    obtain ⟨m1, r1, p1, _⟩ := I.list qx
    obtain ⟨v1, t1, w1⟩ := r1.get gx
    have hd : X.A.in1.handled = none := I.ok.hd hc
    have ne1 := apartL j1 p1.isList
    have big : o < s.heap.objs.size := Heap.lt_size hz
    have lt1 : i < m1.toArray.size := by
      have := (List.getElem?_eq_some_iff.mp t1).1
      simpa using this
    have lt2 : i < z.cps.size := (Array.getElem?_eq_some_iff.mp gc).1
    refine wpAny_pyNext_zipD2_item D (Draws.list hd i1 a ne1 m1.toArray) (Draws.text hd i2 z t) hz ti to ⟨j1, p1.isList⟩ j2 lt1 lt2 fun k1 k2 h' tk g1 g2 hz' to' d1 d2 hT hs hk => ?_
    obtain rfl : v1 = k1 := Option.some.inj (t1.symm.trans (by simpa using g1))
    obtain ⟨c2, u, ec2, rfl⟩ := g2
    obtain rfl : c = c2 := Option.some.inj (gc.symm.trans ec2)
    refine ⟨_, rfl, wpAny_letOwnedTupleGo_zip (s := { s with heap := h', toks := tk }) hz' fun h'' z'' sb => ?_⟩
    have hT2 := (sb.2 _ (Nat.ne_of_gt big)).trans hT
    have all : ∀ q ob, q ∉ [o, TI, TO, i1, i2] → s.heap.get? q = some ob → h''.get? q = some ob := fun q ob nq e =>
      (sb.2 q (fun t => nq (by simp [t]))).trans (hk q ob (fun t => nq (by simp [t])) (fun t => nq (by simp [t])) (fun t => nq (by simp [t])) (fun t => nq (by simp [t])) e)
    have I1 := I.turnedNew (t' := tk) (h' := h'') (ch := [o, TI, TO, i1, i2]) (ob := .tup [x, .str ⟨#[c]⟩]) (T := s.heap.objs.size) all hf (Nat.le_refl _) ⟨(by show 2 ≤ sizeLine; decide), [v1, .str ⟨#[c]⟩ u], .cons w1 (.cons ⟨u, rfl⟩ .nil), ⟨_, hT2, rfl, _, rfl⟩⟩
    refine ⟨.ref s.heap.objs.size, _, I1, rfl, ⟨_, x, c, rfl, I.hok.fresh (Nat.le_refl _), rfl, fun l hl => (I.list_inj hl qx) ▸ gx, gc⟩, ?_, fun q hq => ?_⟩
    · obtain ⟨o2, e2, r2⟩ := d2
      refine ⟨z'', ?_, ⟨_, _, (sb.2 _ D.TOz).trans to'⟩, d1.1.at fun ob q => (sb.2 _ (fun w => D.zf1 (by rw [← w]; simp))).trans q, ⟨o2, (sb.2 _ (fun w => D.zf2 (by rw [← w]; simp))).trans e2, r2⟩⟩
      exact (sb.2 _ D.TIz).trans (hk _ _ D.TIz D.TITO D.TIi1 D.TIi2 ti)
    · have hlt : q < s.heap.objs.size := by
        rcases in5 hq with rfl | rfl | rfl | rfl | rfl
        · exact big
        · exact Heap.lt_size ti
        · exact Heap.lt_size to
        · obtain ⟨_, e, _⟩ := j1; exact Heap.lt_size e
        · obtain ⟨_, e, _⟩ := j2; exact Heap.lt_size e
      rw [upd_ne (Nat.ne_of_lt hlt)]
      exact (hf q hq).1
  done := by
    intro X hP hw hK hc i pins s σ H E I hf st hg
    subst hP hw hK
    obtain ⟨hz, ti, ⟨u1, u2, to⟩, j1, j2⟩ := st
    obtain ⟨xs, ⟨qx, gx⟩, gz⟩ := hg
    obtain ⟨m1, r1, p1, _⟩ := I.list qx
    have hd : X.A.in1.handled = none := I.ok.hd hc
    have ne1 := apartL j1 p1.isList
    have l1 : i = m1.toArray.size := by
      have := r1.length
      simp
      omega
    exact wpAny_pyNext_zipD2_end D (Draws.list hd i1 a ne1 m1.toArray) (Draws.text hd i2 z t) hz ti to ⟨j1, p1.isList⟩ j2 (Nat.le_of_eq l1) (Nat.le_of_eq gz.symm) (.inl l1) fun h' tk hk => ⟨rfl, I.turnedL (t' := tk) (ch := [o, TI, TO, i1, i2]) (fun q ob nq e =>
      hk q ob (fun t => nq (by simp [t])) (fun t => nq (by simp [t])) (fun t => nq (by simp [t])) (fun t => nq (by simp [t])) e) hf⟩
  self := fun A i s Q E st h => wpAny_pyIter_zip st.hz h
def iZipS (K : PySem.W.Frag) (ta : TA) : TI := fun σ H R => ta σ H fun vs H1 => ∃ a z xs, vs = [.ref a, .str z] ∧ SqL K H1 a xs ∧ R (ItS2 K a z) H1
theorem pi_zipS {X : Cx} {e e2 : Expr} {ta : TA} {p pos tpos : Pos} {elts : List Expr} {kk : Nat} (hg : Gl X "zip") (hm : X.mg "zip" = none) (ha : PA X [e, e2] ta)
    (hs : starEach [e, e2] X.env = (false, eval e X.env) :: starEach [e2] X.env := by rfl) (hpl : (backTo pos (starEach [e2] X.env)).any (·.1) = false := by rfl) :
    PI X (.Tuple elts kk tpos) (.Call (.Name "zip" p) [e, e2] [] pos) (iZipS X.K ta) := by
  refine ⟨fun pins s σ H R I h => ?_⟩
  refine Call_ (ld_blt I hg hm PyProof.Rows.boot_zip (PyProof.Rows.callWith_type1 (thn (ha.run pos pins s σ H _ I h) fun us t ⟨vs, H1, I1, rr, a, z, xs, ev, qx, q⟩ => ?_) hs hpl))
  subst ev
  rcases rr with _ | ⟨e1, rr⟩
  rcases rr with _ | ⟨e2, rr⟩
  rcases rr with _ | _
  · cases e1
    obtain ⟨tz, rfl⟩ := e2
    obtain ⟨m1, _, p1, _⟩ := I1.list qx
    refine zip_begins2 (begins_list a m1.toArray) (begins_text z tz) p1.isList trivial fun h' hz ti to g1 g2 hs hk => wpAny_pyIter_zip hz ?_
    have I2 := I1.kept (h' := h') (t' := t.toks) hk
    have low : ∀ b ∈ [a], b < t.heap.objs.size := fun b hb => by
      rw [List.mem_singleton.mp hb]
      exact p1.lt
    refine ⟨t.heap.objs.size + 4, [t.heap.objs.size + 4, t.heap.objs.size + 2, t.heap.objs.size + 3, t.heap.objs.size, t.heap.objs.size + 1], _, _, H1, rfl, I2, turnS (zip_sep2 low (fun b hb => absurd hb List.not_mem_nil)), ⟨hz, ti, ⟨_, _, to⟩, ⟨_, g1, rfl, rfl⟩, ⟨_, g2, rfl, rfl⟩⟩, fun q hq => ?_, q⟩
    have le : t.heap.objs.size ≤ q := by
      rcases in5 hq with z | z | z | z | z
      · rw [z]; exact Nat.le_add_right _ 4
      · rw [z]; exact Nat.le_add_right _ 2
      · rw [z]; exact Nat.le_add_right _ 3
      · rw [z]; exact Nat.le_refl _
      · rw [z]; exact Nat.le_add_right _ 1
    exact I1.fpOk le (I1.hok.fresh le)
/-- the loop over a list and a text of one length -/
theorem for_zipS {K : PySem.W.Frag} {a : Addr} {xs : List V} {z : Str} {g : TG} {tb : TS} {D : Ends} {σ : L2.St} {H : Hp} (l1 : z.cps.size = xs.length) (Pv : Nat → L2.St → Hp → Prop) (h0 : Pv 0 σ H) (hq : ∀ i σ H, Pv i σ H → SqL K H a xs)
    (hs : ∀ (i : Nat) (x : V) (c : Nat) (T : Addr) (σ : L2.St) (H : Hp), xs[i]? = some x → z.cps[i]? = some c → Pv i σ H → H T = none → g (.ref T) σ (upd H T (.tup [x, .str ⟨#[c]⟩])) fun σ2 H2 => tb { D with nx := Pv (i + 1), ct := Pv (i + 1), bk := D.nx } σ2 H2) (hd : ∀ σ H, Pv xs.length σ H → D.nx σ H) :
    ∃ W : Nat → Nat → L2.St → Hp → Prop, (∃ m, W 0 m σ H) ∧ ∀ i m σ H, W i m σ H →
      ((ItS2 K a z).stop i H ∧ D.nx σ H) ∨ ((ItS2 K a z).go i H ∧ ∃ N : L2.St → Hp → Prop, (∀ σ' H', N σ' H' → ∃ m', m' < m ∧ W (i + 1) m' σ' H') ∧ ∀ v H', (ItS2 K a z).yld i H v H' → g v σ H' fun σ2 H2 => tb { D with nx := N, ct := N, bk := D.nx } σ2 H2) := by
  refine ⟨fun i m σ H => i + m = xs.length ∧ Pv i σ H, ⟨xs.length, Nat.zero_add _, h0⟩, ?_⟩
  rintro i m σ H ⟨im, p⟩
  have qx := hq i σ H p
  cases m with
  | zero =>
    obtain rfl : i = xs.length := im
    exact .inl ⟨⟨xs, ⟨qx, rfl⟩, l1⟩, hd σ H p⟩
  | succ n =>
    have lx : i < xs.length := by omega
    have gx := List.getElem?_eq_getElem lx
    have gz := Array.getElem?_eq_getElem (show i < z.cps.size by omega)
    refine .inr ⟨⟨xs, _, _, ⟨qx, gx⟩, gz⟩, Pv (i + 1), fun σ' H' p' => ⟨n, Nat.lt_succ_self n, by omega, p'⟩, ?_⟩
    rintro v H' ⟨T, x, c, rfl, nT, rfl, f1, f2⟩
    exact hs i x c T σ H (f1 _ qx) f2 p nT
end Gj

namespace Gj
open PySem PySem.Spec PyProof.Rows L2
open C8 (Cal pe_c pe_gc)
def spIsB (f : PyData → Bool) : Sp := fun vs H Q _ => ∃ z : Str, vs = [.str z] ∧ z.length ≤ 1000 ∧ ∀ H', Same H H' → Q (.bl (f (.str z))) H'
/-- figures, if at all, are few -/
def NumS (z : Str) : Prop := figs z = true → z.length ≤ 30
def spIsNum : Sp := fun vs H Q _ => ∃ (z : Str) (n : Int), vs = [.str z, .int n] ∧ z.length ≤ 1000 ∧ NumS z ∧ ∀ H', Same H H' → Q (.bl (isNumB z n)) H'
theorem digits_val : ∀ (n : Nat) (l : List Nat), l.length = n → (∀ c ∈ l, 48 ≤ c ∧ c ≤ 57) → ((PySem.NumText.digitsVal l : Nat) : Int) = valL l := by
  intro n
  induction n with
  | zero =>
    intro l hl _
    rw [List.eq_nil_of_length_eq_zero hl]
    rfl
  | succ n ih =>
    intro l hl h
    rcases snoc_or l with rfl | ⟨m, c, rfl⟩
    · cases hl
    · rw [List.length_append, List.length_singleton] at hl
      have h1 := ih m (by omega) fun x hx => h x (List.mem_append_left _ hx)
      have h2 := h c (List.mem_append_right _ List.mem_cons_self)
      rw [valL_snoc, PySem.NumText.digitsVal_snoc, ← h1]
      omega
theorem intZ {z : Str} (h : figs z = true) (hl : z.length ≤ 640) : PySem.intText? z = some (valZ z) := by
  obtain ⟨h1, h2⟩ := figs_iff.mp h
  have ne : z.cps.toList ≠ [] := fun e => h1 (by show (TL.tl z).length = 0; exact congrArg List.length e)
  rw [PySem.intText_digits h2 ne (by omega)]
  exact congrArg some (digits_val _ _ rfl h2)
theorem valZ_nat {z : Str} (h : figs z = true) : valZ z = ((valZ z).toNat : Int) := by
  obtain ⟨_, h2⟩ := figs_iff.mp h
  have := (valL_bound _ _ rfl h2).1
  unfold valZ
  omega
theorem valZ_log {z : Str} (h : figs z = true) (hl : z.length ≤ 40) : (valZ z).natAbs.log2 < 1920 := by
  obtain ⟨_, h2⟩ := figs_iff.mp h
  obtain ⟨b0, b1⟩ := valL_bound _ _ rfl h2
  have b2 : valL (TL.tl z) < 10 ^ 40 := Int.lt_of_lt_of_le b1 (by
    have : (10 : Nat) ^ (TL.tl z).length ≤ 10 ^ 40 := Nat.pow_le_pow_right (by decide) hl
    exact_mod_cast this)
  have b3 : (valZ z).natAbs < 10 ^ 40 := by unfold valZ; omega
  have b4 : (valZ z).natAbs < 2 ^ 140 := Nat.lt_trans b3 (by decide)
  rcases Nat.eq_zero_or_pos (valZ z).natAbs with e | e
  · rw [e]; decide
  · exact Nat.lt_trans ((Nat.log2_lt (by omega)).mpr b4) (by decide)
theorem str_nil {z : Str} : z = "" ↔ z.length = 0 := by
  constructor
  · rintro rfl; rfl
  · intro h
    obtain ⟨a⟩ := z
    obtain rfl : a = #[] := Array.eq_empty_of_size_eq_zero h
    rfl
theorem figs_parts {z : Str} : figs z = (!decide (z = "") && (z.cps.toList.map fun c => decide (c ∈ sFigures.cps.toList)).all id) := by
  show isTxt z sFigures _ = _
  unfold isTxt
  rw [decide_eq_true (show ((z.length : Nat) : Int) ≤ (z.length : Nat) by omega), Bool.and_true]
  congr 1
  by_cases e : z = ""
  · rw [decide_eq_true e]
    subst e
    decide
  · have : z.length ≠ 0 := fun h => e (str_nil.mpr h)
    rw [decide_eq_false e, decide_eq_true (by omega)]
    rfl
section
variable {K : PySem.W.Frag} {σ : L2.St} {H : Hp} {te : TE} {z : Str}
abbrev rIntS : List V → Hp → VK → Prop := fun xs H Q => ∃ a n, xs = [.str a] ∧ PySem.intText? a = some n ∧ a.length ≤ 640 ∧ Q (.int n) H
abbrev rStrI : List V → Hp → VK → Prop := fun xs H Q => ∃ i, xs = [.int i] ∧ i.natAbs.log2 < 1920 ∧ Q (.str (toString i : String)) H
theorem giv_intS (h : Giv te σ H (.str z)) (hf : figs z = true) (hl : z.length ≤ 40) : Giv (tCB rIntS (tCons te tNil)) σ H (.int (valZ z)) := fun Q q => h _ ⟨z, valZ z, rfl, intZ hf (by omega), by omega, q⟩
theorem giv_strI {i : Int} (h : Giv te σ H (.int i)) (h0 : i = (i.toNat : Int)) (hl : i.natAbs.log2 < 1920) : Giv (tCB rStrI (tCons te tNil)) σ H (.str (num i.toNat)) := fun Q q => h _ ⟨i, rfl, hl, by
  unfold num at q
  rw [← h0] at q
  exact q⟩
end
section
variable {P : Program} {w : World} {K : PySem.W.Frag} {mg : Str → Option Value} {base : Heap}
theorem sc__law_is_name : FnScope ["_law_word_here", "_law_sign"] ["_law_word_here"] (defScope (topS 38)) := ⟨rfl, rfl, rfl, by decide +kernel, rfl, by decide +kernel, by decide +kernel⟩
theorem ok__law_is_name (D : DefAt K mg "_law_is_name" (topS 38)) (m : Mg mg) : Cal P w K mg base 1 "_law_is_name" (spIsB mName) [] := by
  have sc := sc__law_is_name
  refine mkCal D (fun _ _ _ _ _ _ us hl => match us, hl with | [_], _ => rfl) sc (fun vs H Q E h => ?_) (fun f cdv A outer s H vs Q E hr h => ?_)
  · obtain ⟨z, rfl, _⟩ := h
    rfl
  · obtain ⟨z, rfl, lz, q⟩ := h
    refine ⟨_, (pss_one (ps_ret (pe_and (pe_chain op_le op_le pe_int (pe_callB call_len (by rfl) m.len (by decide +kernel) (pa_cons (pv 0) pa_nil)) pe_int) (pe_one (pe_callB (cr_all rfl) (by rfl) m.all (by decide +kernel) (pa_cons (pe_lc (own := [("_law_sign", 1)]) (g := gName 1) (tt := tYes) rfl sc.nd (pi_str (pv 0)) (blkOk_by (N := ["_law_word_here", "_law_sign"]) (sc := defScope (topS 38)) (by decide +kernel)) (fun _ _ _ _ _ => (pg_name (i := 1) sc.nd rfl (.inl rfl))) (fun _ _ _ _ _ => pts_nil) (fun _ _ _ _ _ => (pe_cmpR op_in_sign (pv 1) pe_str rfl))) pa_nil)))))), ?_⟩
    refine retB ?_ fun H1 s1 => q H1 s1
    exact Say.and (say_chain (giv_var rfl) giv_c lz) fun e2 H2 s2 => say_all lz (fun _ => rfl) (fun _ => rfl) (fun _ _ => giv_c) (giv_var rfl)
theorem sc__law_is_word : FnScope ["_law_word_here", "_law_sign"] ["_law_word_here"] (defScope (topS 39)) := ⟨rfl, rfl, rfl, by decide +kernel, rfl, by decide +kernel, by decide +kernel⟩
theorem ok__law_is_word (D : DefAt K mg "_law_is_word" (topS 39)) (m : Mg mg) : Cal P w K mg base 1 "_law_is_word" (spIsB mWord) [] := by
  have sc := sc__law_is_word
  refine mkCal D (fun _ _ _ _ _ _ us hl => match us, hl with | [_], _ => rfl) sc (fun vs H Q E h => ?_) (fun f cdv A outer s H vs Q E hr h => ?_)
  · obtain ⟨z, rfl, _⟩ := h
    rfl
  · obtain ⟨z, rfl, lz, q⟩ := h
    refine ⟨_, (pss_one (ps_ret (pe_and (pe_chain op_le op_le pe_int (pe_callB call_len (by rfl) m.len (by decide +kernel) (pa_cons (pv 0) pa_nil)) pe_int) (pe_one (pe_callB (cr_all rfl) (by rfl) m.all (by decide +kernel) (pa_cons (pe_lc (own := [("_law_sign", 1)]) (g := gName 1) (tt := tYes) rfl sc.nd (pi_str (pv 0)) (blkOk_by (N := ["_law_word_here", "_law_sign"]) (sc := defScope (topS 39)) (by decide +kernel)) (fun _ _ _ _ _ => (pg_name (i := 1) sc.nd rfl (.inl rfl))) (fun _ _ _ _ _ => pts_nil) (fun _ _ _ _ _ => (pe_cmpR op_in_sign (pv 1) pe_str rfl))) pa_nil)))))), ?_⟩
    refine retB ?_ fun H1 s1 => q H1 s1
    exact Say.and (say_chain (giv_var rfl) giv_c lz) fun e2 H2 s2 => say_all lz (fun _ => rfl) (fun _ => rfl) (fun _ _ => giv_c) (giv_var rfl)
theorem sc__law_is_number : FnScope ["_law_word_here", "_law_least", "_law_sign"] ["_law_word_here", "_law_least"] (defScope (topS 40)) := ⟨rfl, rfl, rfl, by decide +kernel, rfl, by decide +kernel, by decide +kernel⟩
theorem ok__law_is_number (D : DefAt K mg "_law_is_number" (topS 40)) (m : Mg mg) : Cal P w K mg base 1 "_law_is_number" spIsNum [] := by
  have sc := sc__law_is_number
  refine mkCal D (fun _ _ _ _ _ _ us hl => match us, hl with | [_, _], _ => rfl) sc (fun vs H Q E h => ?_) (fun f cdv A outer s H vs Q E hr h => ?_)
  · obtain ⟨z, n, rfl, _⟩ := h
    rfl
  · obtain ⟨z, n, rfl, lz, hn, q⟩ := h
    refine ⟨_, (pss_cons (ps_if (PW.pt (pw_or (pt_cmpR op_eq (pv 0) pe_str (nomark _)) (pw_or1 (pt_not (pt_val (pe_callB (cr_all rfl) (by rfl) m.all (by decide +kernel) (pa_cons (pe_lc (own := [("_law_sign", 2)]) (g := gName 2) (tt := tYes) rfl sc.nd (pi_str (pv 0)) (blkOk_by (N := ["_law_word_here", "_law_least", "_law_sign"]) (sc := defScope (topS 40)) (by decide +kernel)) (fun _ _ _ _ _ => (pg_name (i := 2) sc.nd rfl (.inl rfl))) (fun _ _ _ _ _ => pts_nil) (fun _ _ _ _ _ => (pe_cmpR op_in_sign (pv 2) pe_str rfl))) pa_nil)))))))
  (pss_one (ps_ret pe_bl))
  pss_nil)
  (pss_one (ps_ret (pe_and (pe_cmpR op_eq (pe_callTy call_str_int (by rfl) m.str (by decide +kernel) (pa_cons (pe_callTy call_int_str (by rfl) m.int (by decide +kernel) (pa_cons (pv 0) pa_nil)) pa_nil)) (pv 0) (nomark _)) (pe_one (pe_cmpR op_ge (pe_callTy call_int_str (by rfl) m.int (by decide +kernel) (pa_cons (pv 0) pa_nil)) (pv 1) (nomark _))))))), ?_⟩
    refine ifS (SayT.or (a := decide (z = "")) (b := !(z.cps.toList.map fun c => decide (c ∈ sFigures.cps.toList)).all id) ?_ ?_) (fun e H1 s1 => ?_) (fun e H1 s1 => ?_)
    · exact Say.tTest (say_eqS (giv_var rfl) giv_c)
    · exact fun _ H2 s2 => SayT.not (Say.tB (say_all lz (fun _ => rfl) (fun _ => rfl) (fun _ _ => giv_c) (giv_var rfl)))
    · refine retB say_bl fun H2 s2 => ?_
      have e2 : figs z = false := by
        rw [figs_parts]
        generalize (z.cps.toList.map fun c => decide (c ∈ sFigures.cps.toList)).all id = a at e ⊢
        generalize decide (z = "") = b at e ⊢
        revert e
        cases a <;> cases b <;> decide
      have w := q H2 (s1.trans s2)
      rw [isNumB_eq, e2] at w
      exact w
    · have e2 : figs z = true := by
        rw [figs_parts]
        generalize (z.cps.toList.map fun c => decide (c ∈ sFigures.cps.toList)).all id = a at e ⊢
        generalize decide (z = "") = b at e ⊢
        revert e
        cases a <;> cases b <;> decide
      have hl := Nat.le_trans (hn e2) (show 30 ≤ 40 by decide)
      have gi : ∀ H2, Giv (tCB rIntS (tCons (tVar 0) tNil)) _ H2 (.int (valZ z)) := fun H2 => giv_intS (σ := [some (.str z), some (.int n), none]) (H := H2) (giv_var rfl) e2 hl
      refine retB (b := decide (num (valZ z).toNat = z) && decide (valZ z ≥ n)) ?_ fun H2 s2 => ?_
      · exact Say.and (say_eqS (giv_strI (gi _) (valZ_nat e2) (valZ_log e2 hl)) (giv_var rfl)) fun _ H2 s2 => say_ge (gi _) (giv_var rfl)
      · have w := q H2 (s1.trans s2)
        rw [isNumB_eq, e2, ← canonZ e2] at w
        exact w
end
end Gj

namespace Gj
open PySem PySem.Spec PyProof.Rows L2
open C8 (Cal pe_c pe_gc)
def spAre : Sp := fun vs H Q _ => ∃ (c : Addr) (W : List Str) (S : Str), vs = [.ref c, .str S] ∧ H c = some (.lst (W.map V.str)) ∧ W.length ≤ 1000 ∧ S.length ≤ 1000 ∧ (∀ z ∈ W, z.length ≤ 1000 ∧ NumS z) ∧ ∀ H', Same H H' → Q (.bl (areB W (TL.tl S))) H'
theorem okS_eq (w : Str) (c : Nat) : okS w c = (!(decide (c ∈ ("012" : Str).cps.toList) && !isNumB w ((c : Int) - 48)) && (!((decide (c = 110) && !mName (.str w)) || (decide (c = 119) && !mWord (.str w))) && !(decide (c = 115) && !decide (w ∈ sorts)))) := by
  have e : ("012" : Str).cps.toList = [48, 49, 50] := by decide +kernel
  rw [e]
  unfold okS
  by_cases h : c = 48 ∨ c = 49 ∨ c = 50
  · have h2 : c ∈ [48, 49, 50] := by simpa using h
    rw [if_pos h, decide_eq_true h2, decide_eq_false (show ¬ c = 110 by omega), decide_eq_false (show ¬ c = 119 by omega), decide_eq_false (show ¬ c = 115 by omega)]
    cases isNumB w ((c : Int) - 48) <;> rfl
  · have h2 : ¬ c ∈ [48, 49, 50] := by simpa using h
    rw [if_neg h, decide_eq_false h2, Bool.false_and, Bool.not_false, Bool.true_and]
    by_cases h3 : c = 110
    · rw [if_pos h3, decide_eq_true h3, decide_eq_false (show ¬ c = 119 by omega), decide_eq_false (show ¬ c = 115 by omega)]
      cases mName (.str w) <;> rfl
    · rw [if_neg h3, decide_eq_false h3, Bool.false_and, Bool.false_or]
      by_cases h4 : c = 119
      · rw [if_pos h4, decide_eq_true h4, decide_eq_false (show ¬ c = 115 by omega)]
        cases mWord (.str w) <;> rfl
      · rw [if_neg h4, decide_eq_false h4, Bool.false_and, Bool.not_false, Bool.true_and]
        by_cases h5 : c = 115
        · rw [if_pos h5, decide_eq_true h5]
          cases decide (w ∈ sorts) <;> rfl
        · rw [if_neg h5, decide_eq_false h5]
          rfl
theorem one_eq {c d : Nat} : decide (V.str ⟨#[c]⟩ = V.str ⟨#[d]⟩) = decide (c = d) := by
  by_cases h : c = d
  · rw [h, decide_eq_true rfl, decide_eq_true rfl]
  · rw [decide_eq_false h, decide_eq_false fun e => h (by
      have e2 : (⟨#[c]⟩ : Str) = ⟨#[d]⟩ := V.str.inj e
      have e3 := congrArg (fun s : Str => s.cps.toList) e2
      exact (List.cons.inj e3).1)]
theorem int_one {c : Nat} (h : 48 ≤ c ∧ c ≤ 57) : PySem.intText? ⟨#[c]⟩ = some ((c : Int) - 48) := by
  have e := intZ (z := ⟨#[c]⟩) (figs_iff.mpr ⟨Nat.one_ne_zero, fun x m => by rw [List.mem_singleton.mp (show x ∈ [c] from m)]; exact h⟩) (by show 1 ≤ 640; decide)
  rw [e]
  show some ((0 : Int) * 10 + ((c : Int) - 48)) = _
  rw [Int.zero_mul, Int.zero_add]
theorem areB_stop {W : List Str} {l : List Nat} {k : Nat} {w : Str} {c : Nat} (h1 : W[k]? = some w) (h2 : l[k]? = some c) (h : okS w c = false) : areB W l = false := by
  unfold areB
  refine Bool.and_eq_false_iff.mpr (.inr (Bool.eq_false_iff.mpr fun e => ?_))
  have m : (w, c) ∈ W.zip l := List.mem_of_getElem? (i := k) (List.getElem?_zip_eq_some.mpr ⟨h1, h2⟩)
  have := List.all_eq_true.mp e _ m
  rw [h] at this
  cases this
theorem areB_end {W : List Str} {l : List Nat} (hl : W.length = l.length) (h : ∀ (k : Nat) (w : Str) (c : Nat), W[k]? = some w → l[k]? = some c → okS w c = true) : areB W l = true := by
  unfold areB
  rw [decide_eq_true hl, Bool.true_and, List.all_eq_true]
  rintro ⟨w, c⟩ m
  obtain ⟨k, hk⟩ := List.mem_iff_getElem?.mp m
  obtain ⟨h1, h2⟩ := List.getElem?_zip_eq_some.mp hk
  exact h k w c h1 h2
section
variable {σ : L2.St} {H : Hp} {te tb : TE} {a b c : Bool} {D : Ends} {u t : TS} {tc : TT} {K : PySem.W.Frag}
theorem ifL (h : SayT tc σ H c) (h1 : c = true → ∀ H', Same H H' → t D σ H') (h2 : c = false → ∀ H', Same H H' → D.nx σ H') : tIfS tc t tNext D σ H := h _ fun H1 s1 => by
  cases c with
  | true => exact iteT (h1 rfl H1 s1)
  | false => exact iteF (h2 rfl H1 s1)
theorem say_isB {f : PyData → Bool} {E : XK} {z : Str} (h : Giv te σ H (.str z)) (hl : z.length ≤ 1000) : Say (tCall (spIsB f) [] E (tCons te tNil)) σ H (f (.str z)) := fun Q q => h _ ⟨z, rfl, hl, q⟩
theorem say_isNum {E : XK} {z : Str} {n : Int} (h : Giv te σ H (.str z)) (h2 : Giv tb σ H (.int n)) (hl : z.length ≤ 1000) (hn : NumS z) : Say (tCall spIsNum [] E (tCons te (tCons tb tNil))) σ H (isNumB z n) := fun Q q => h _ (h2 _ ⟨z, n, rfl, hl, hn, q⟩)
theorem say_are {E : XK} {c : Addr} {W : List Str} {S : Str} (h : Giv te σ H (.ref c)) (h2 : Giv tb σ H (.str S)) (ec : H c = some (.lst (W.map V.str))) (lW : W.length ≤ 1000) (lS : S.length ≤ 1000) (hw : ∀ z ∈ W, z.length ≤ 1000 ∧ NumS z) : Say (tCall spAre [] E (tCons te (tCons tb tNil))) σ H (areB W (TL.tl S)) := fun Q q => h _ (h2 _ ⟨c, W, S, rfl, ec, lW, lS, hw, q⟩)
theorem giv_int1 {c : Nat} (h : Giv te σ H (.str ⟨#[c]⟩)) (hc : 48 ≤ c ∧ c ≤ 57) : Giv (tCB rIntS (tCons te tNil)) σ H (.int ((c : Int) - 48)) := fun Q q => h _ ⟨_, _, rfl, int_one hc, by show 1 ≤ 640; decide, q⟩
theorem say_one {c d : Nat} (h : Giv te σ H (.str ⟨#[c]⟩)) (h2 : Giv tb σ H (.str ⟨#[d]⟩)) : Say (tOp rEq te tb) σ H (decide (c = d)) := fun Q q => h _ (h2 _ ⟨rfl, by rw [one_eq]; exact q H (Same.refl H)⟩)
theorem say_sign {c : Nat} {z : Str} (h : Giv te σ H (.str ⟨#[c]⟩)) (h2 : Giv tb σ H (.str z)) : Say (tOp rInX te tb) σ H (decide (c ∈ z.cps.toList)) := fun Q q => h _ (h2 _ ⟨c, z, rfl, rfl, q H (Same.refl H)⟩)
theorem say_notSorts {z : Str} (h : Giv te σ H (.str z)) : Say (tOp (rIn K true) te (tLst (tCons (tC (.str "came")) (tCons (tC (.str "short")) (tCons (tC (.str "ask")) (tCons (tC (.str "row")) tNil)))))) σ H (!decide (z ∈ sorts)) := fun Q q => h _ ⟨(by show 4 ≤ sizeLine; decide), fun a na => ⟨a, sorts.map V.str, rfl, .inl (SqL.of upd_same), rfl, flat_strs _, by
  rw [if_pos rfl, inV_strs]
  exact q _ (same_new na)⟩⟩
end
section
variable {P : Program} {w : World} {K : PySem.W.Frag} {mg : Str → Option Value} {base : Heap}
theorem sc__law_are : FnScope ["_law_words", "_law_sorts", "_law_word_here", "_law_sort"] ["_law_words", "_law_sorts"] (defScope (topS 41)) := ⟨rfl, rfl, rfl, by decide +kernel, rfl, by decide +kernel, by decide +kernel⟩
theorem ok__law_are (D : DefAt K mg "_law_are" (topS 41)) (m : Mg mg) (c__law_is_name : Cal P w K mg base 1 "_law_is_name" (spIsB mName) []) (c__law_is_word : Cal P w K mg base 1 "_law_is_word" (spIsB mWord) []) (c__law_is_number : Cal P w K mg base 1 "_law_is_number" spIsNum []) : Cal P w K mg base 2 "_law_are" spAre [] := by
  have sc := sc__law_are
  refine mkCal D (fun _ _ _ _ _ _ us hl => match us, hl with | [_, _], _ => rfl) sc (fun vs H Q E h => ?_) (fun f cdv A outer s H vs Q E hr h => ?_)
  · obtain ⟨c, W, S, rfl, _⟩ := h
    rfl
  · obtain ⟨c, W, S, rfl, ec, lW, lS, hw, q⟩ := h
    refine ⟨_, (pss_cons (ps_if (pt_cmpR op_ne (pe_callB call_len (by rfl) m.len (by decide +kernel) (pa_cons (pv 0) pa_nil)) (pe_callB call_len (by rfl) m.len (by decide +kernel) (pa_cons (pv 1) pa_nil)) (nomark _))
  (pss_one (ps_ret pe_bl))
  pss_nil)
  (pss_cons (ps_for PassesOwn.never rfl (pi_zipS (by rfl) m.zip (pa_cons (pv 0) (pa_cons (pv 1) pa_nil))) (pg_tup (by rfl) (pgs_cons (pg_name (i := 2) sc.nd rfl (.inl rfl)) (pgs_cons (pg_name (i := 3) sc.nd rfl (.inl rfl)) pgs_nil)))
  (pss_cons (ps_if (PW.pt (pw_and (pt_cmpR op_in_sign (pv 3) pe_str rfl) (pw_and1 (pt_not (pt_val (pe_c c__law_is_number hr (by decide) (by rfl) (pa_cons (pv 2) (pa_cons (pe_callTy call_int_str (by rfl) m.int (by decide +kernel) (pa_cons (pv 3) pa_nil)) pa_nil))))))))
  (pss_one (ps_ret pe_bl))
  pss_nil)
  (pss_cons (ps_if (PW.pt (pw_or (PW.pt (pw_and (pt_cmpR op_eq (pv 3) pe_str (nomark _)) (pw_and1 (pt_not (pt_val (pe_c c__law_is_name hr (by decide) (by rfl) (pa_cons (pv 2) pa_nil))))))) (pw_or1 (PW.pt (pw_and (pt_cmpR op_eq (pv 3) pe_str (nomark _)) (pw_and1 (pt_not (pt_val (pe_c c__law_is_word hr (by decide) (by rfl) (pa_cons (pv 2) pa_nil))))))))))
  (pss_one (ps_ret pe_bl))
  pss_nil)
  (pss_one (ps_if (PW.pt (pw_and (pt_cmpR op_eq (pv 3) pe_str (nomark _)) (pw_and1 (pt_cmpR op_notIn_seq (pv 2) (pe_lst (pa_cons pe_str (pa_cons pe_str (pa_cons pe_str (pa_cons pe_str pa_nil))))) rfl))))
  (pss_one (ps_ret pe_bl))
  pss_nil)))))
  (pss_one (ps_ret pe_bl)))), ?_⟩
    have ec0 := ec
    have sl : S.cps.size = (TL.tl S).length := rfl
    refine ifS (Say.tTest (say_neI (i := (W.length : Nat)) (j := (S.length : Nat)) (fun Q q => giv_lenL (giv_var rfl) ec Q (by rw [List.length_map]; exact q)) (fun Q q => ⟨_, rfl, .str S, S.length, rfl, ⟨Nat.le_of_lt (small1000 lS), rfl⟩, q⟩))) (fun e H1 s1 => ?_) (fun e H1 s1 => ?_)
    · refine retB say_bl fun H2 s2 => ?_
      have ne : W.length ≠ (TL.tl S).length := fun h => by
        rw [decide_eq_true (show ((W.length : Nat) : Int) = (S.length : Nat) from congrArg _ h)] at e
        cases e
      have w := q H2 (s1.trans s2)
      rw [areB_len ne] at w
      exact w
    have eq : W.length = (TL.tl S).length := by
      have e : ((W.length : Nat) : Int) = (S.length : Nat) := of_decide_eq_true (by simpa using e)
      exact Int.ofNat.inj e
    have ec := s1 _ _ ec
    refine ⟨_, rfl, _, rfl, c, S, _, rfl, SqL.of ec, ?_⟩
    refine for_zipS (xs := W.map V.str) (by rw [List.length_map, eq]; exact sl) (fun k σ H' => ∃ y2 y3, σ = [some (.ref c), some (.str S), y2, y3] ∧ Same H H' ∧ ∀ j, j < k → ∀ (w : Str) (d : Nat), W[j]? = some w → (TL.tl S)[j]? = some d → okS w d = true) ⟨_, _, rfl, s1, fun j h => absurd h (Nat.not_lt_zero j)⟩ (fun i σ G hp => ?_) (fun i x d T σ G gx gz hp nT => ?_) (fun σ G hp => ?_)
    · obtain ⟨_, _, _, sm, _⟩ := hp
      exact SqL.of (sm _ _ ec0)
    · obtain ⟨y2, y3, rfl, sm, al⟩ := hp
      rw [List.getElem?_map] at gx
      cases gw : W[i]? with
      | none => rw [gw] at gx; cases gx
      | some w =>
      rw [gw] at gx
      cases gx
      have gd : (TL.tl S)[i]? = some d := by rw [← gz]; exact Array.getElem?_toList
      obtain ⟨lw, nw⟩ := hw w (List.mem_of_getElem? gw)
      have s2 := sm.trans (same_new (o := .tup [.str w, .str ⟨#[d]⟩]) nT)
      refine ⟨T, _, rfl, SqT.of upd_same, rfl, _, _, rfl, _, _, rfl, rfl, ?_⟩
      have eo := okS_eq w d
      have bad : okS w d = false → areB W (TL.tl S) = false := fun h => areB_stop gw gd h
      refine ifS (SayT.and (a := decide (d ∈ ("012" : Str).cps.toList)) (b := !isNumB w ((d : Int) - 48)) ?_ ?_) (fun e1 H3 s3 => ?_) (fun e1 H3 s3 => ?_)
      · exact Say.tTest (say_sign (giv_var rfl) giv_c)
      · intro h H4 s4
        have hd : d ∈ [48, 49, 50] := of_decide_eq_true h
        have hd : d = 48 ∨ d = 49 ∨ d = 50 := by simpa using hd
        exact SayT.not (Say.tB (say_isNum (giv_var rfl) (giv_int1 (giv_var rfl) (by omega)) lw nw))
      · refine retB say_bl fun H4 s4 => ?_
        rw [e1] at eo
        have w := q H4 ((s2.trans s3).trans s4)
        rw [bad eo] at w
        exact w
      refine ifS (SayT.or (a := decide (d = 110) && !mName (.str w)) (b := decide (d = 119) && !mWord (.str w)) ?_ ?_) (fun e2 H4 s4 => ?_) (fun e2 H4 s4 => ?_)
      · refine SayT.and (a := decide (d = 110)) (b := !mName (.str w)) ?_ ?_
        · exact Say.tTest (say_one (giv_var rfl) giv_c)
        · exact fun _ H4 s4 => SayT.not (Say.tB (say_isB (giv_var rfl) lw))
      · intro _ H4 s4
        refine SayT.and (a := decide (d = 119)) (b := !mWord (.str w)) ?_ ?_
        · exact Say.tTest (say_one (giv_var rfl) giv_c)
        · exact fun _ H4 s4 => SayT.not (Say.tB (say_isB (giv_var rfl) lw))
      · refine retB say_bl fun H5 s5 => ?_
        rw [e1, e2] at eo
        have w := q H5 (((s2.trans s3).trans s4).trans s5)
        rw [bad (eo.trans (by rfl))] at w
        exact w
      refine ifL (SayT.and (a := decide (d = 115)) (b := !decide (w ∈ sorts)) ?_ ?_) (fun e3 H5 s5 => ?_) (fun e3 H5 s5 => ?_)
      · exact Say.tTest (say_one (giv_var rfl) giv_c)
      · exact fun _ H4 s4 => Say.tTest (say_notSorts (giv_var rfl))
      · refine retB say_bl fun H6 s6 => ?_
        rw [e1, e2, e3] at eo
        have w := q H6 ((((s2.trans s3).trans s4).trans s5).trans s6)
        rw [bad (eo.trans (by rfl))] at w
        exact w
      · rw [e1, e2, e3] at eo
        refine ⟨_, _, rfl, (((s2.trans s3).trans s4).trans s5), fun j hj w2 d2 h1 h2 => ?_⟩
        rcases Nat.lt_or_ge j i with lt | ge
        · exact al j lt w2 d2 h1 h2
        · obtain rfl : j = i := by omega
          rw [gw] at h1
          rw [gd] at h2
          cases h1
          cases h2
          exact eo.trans (by rfl)
    · obtain ⟨y2, y3, rfl, sm, al⟩ := hp
      dsimp only
      refine retB say_bl fun H2 s2 => ?_
      have w := q H2 (sm.trans s2)
      rw [areB_end eq fun k w c h1 h2 => al k (by
        have := (List.getElem?_eq_some_iff.mp h1).1
        rw [List.length_map]
        exact this) w c h1 h2] at w
      exact w
end
end Gj

namespace Gj
open PySem PySem.Spec PyProof.Rows L2
open C8 (Cal pe_c pe_gc)

def spAmong : Sp := fun vs H Q _ => ∃ (p c : Addr) (xs : List V) (ds : List PyData), vs = [.ref p, .ref c] ∧ Pot H p ∧ c ≠ p ∧ H c = some (.lst xs) ∧ DtAll p H xs ds ∧ 0 < xs.length ∧ xs.length ≤ 1000 ∧ ∀ (H' : Hp) (v : V) (d : PyData), Drawn p H H' → Dt p H' v d → d ∈ ds → Q v H'
def spIsN : Sp := fun vs H Q _ => ∃ z : Str, vs = [.str z] ∧ z.length ≤ 1000 ∧ ∀ H', Same H H' → Q (.bl (mName (.str z))) H'
def spChanged : Sp := fun vs H Q _ => ∃ (p : Addr) (z : Str) (n : Nat), vs = [.ref p, .str z] ∧ Pot H p ∧ z.length ≤ n ∧ n ≤ 450 ∧ ∀ (H' : Hp) (y : Str), Drawn p H H' → y.length ≤ 2 * n + 12 → Q (.str y) H'
def TxN (n : Nat) (d : PyData) : Prop := ∃ z, d = .str z ∧ z.length ≤ n
theorem Drawn.smw {p : Addr} {H H' : Hp} (h : Pot H p) (s : Same H H') : Drawn p H H' := ⟨Same.keep s, h.same s⟩
theorem Drawn.putw {p c : Addr} {H G : Hp} {o : HO} (r : Drawn p H G) (nc : H c = none) (ncp : c ≠ p) : Drawn p H (upd G c o) := ⟨fun b x nb e => by rw [upd_ne (ne_of_none e nc)]; exact r.keep b x nb e, by
  obtain ⟨a, b, e, h⟩ := r.pot
  exact ⟨a, b, by rw [upd_ne ncp.symm]; exact e, h⟩⟩
theorem asgW {te : TE} {g : TG} {D : Ends} {u : TS} {σ : L2.St} {H : Hp} (h : te σ H fun v H' => g v σ H' fun σ2 H2 => u D σ2 H2) : tSeq (tAsg te g) u D σ H := h
theorem parW {i j : Nat} {ta : TA} {D : Ends} {u : TS} {σ : L2.St} {H : Hp} (h : ta σ H fun vs H1 => ∃ v w, vs = [v, w] ∧ u D ((σ.set i (some v)).set j (some w)) H1) : tSeq (tPar i j ta) u D σ H := h
section
variable {p : Addr} {σ : L2.St} {H : Hp} {tp tb tx te : TE} {E : XK} {T : List PyData → Prop} {S : PyData → Prop}
theorem LaP.among (h0 : Giv tp σ H (.ref p)) (h : LaPL T tb p σ H) (m : ∀ ds, T ds → 0 < ds.length ∧ ∀ d ∈ ds, S d) : LaP S (tCall spAmong [] E (tCons tp (tCons tb tNil))) p σ H := fun Q q => h0 _ (h _ fun H1 c xs ds r nc hl ec hd s => ⟨p, c, xs, ds, rfl, r.pot, nc, ec, hd, by have := (m ds s).1; have := hd.length; omega, hl, fun H2 v d r2 hv md => q H2 v d (r.trans r2) hv ((m ds s).2 d md)⟩)
theorem giv_ixW {K : PySem.W.Frag} {ti : TE} {c : Addr} {xs : List V} {v : V} {k : Nat} (h : Giv te σ H (.ref c)) (h2 : Giv ti σ H (.int (k : Nat))) (e : H c = some (.lst xs)) (g : xs[k]? = some v) : Giv (tOp (rIxL K) te ti) σ H v := fun Q q => h _ (h2 _ ⟨c, xs, _, v, rfl, rfl, SqL.of e, atI_nat g, q⟩)
def TxA (n : Nat) (ds : List PyData) : Prop := ∃ A : List Str, ds = A.map PyData.str ∧ tot A ≤ n
theorem TxA.cat {n k : Nat} {ds es : List PyData} (h : TxA n ds) (g : TxA k es) (hl : n + k ≤ 1000) : (ds ++ es).length ≤ 1000 ∧ TxA (n + k) (ds ++ es) := by
  obtain ⟨A, rfl, ha⟩ := h
  obtain ⟨B, rfl, hb⟩ := g
  have e := tot_append A B
  have : (A ++ B).length ≤ tot (A ++ B) := Nat.le_add_left _ _
  rw [← List.map_append]
  exact ⟨by rw [List.length_map]; omega, A ++ B, rfl, by omega⟩
theorem LaPL.toT {K : PySem.W.Frag} {tn : TE} {c : Addr} {W : List Str} {k : Nat} (h : Giv te σ H (.ref c)) (hp : Pot H p) (hl : W.length ≤ 1000) (e : H c = some (.lst (W.map V.str))) (hd : DtAll p H (W.map V.str) (W.map PyData.str)) (hi : Giv tn σ H (.int (k : Nat))) : LaPL (TxA (tot (W.take k))) (tSl (rSlL K) te tNoPart (tPart tn)) p σ H :=
  LaPL.mono (LaPL.toG (k := k) h hp (by rw [List.length_map]; exact hl) e hd hi) fun ds e => ⟨W.take k, by rw [e, List.map_take], Nat.le_refl _⟩
theorem LaPL.fromT {K : PySem.W.Frag} {tn : TE} {c : Addr} {W : List Str} {k : Nat} (h : Giv te σ H (.ref c)) (hp : Pot H p) (hl : W.length ≤ 1000) (e : H c = some (.lst (W.map V.str))) (hd : DtAll p H (W.map V.str) (W.map PyData.str)) (hi : Giv tn σ H (.int (k : Nat))) : LaPL (TxA (tot (W.drop k))) (tSl (rSlL K) te (tPart tn) tNoPart) p σ H :=
  LaPL.mono (LaPL.fromG (k := k) h hp (by rw [List.length_map]; exact hl) e hd hi) fun ds e => ⟨W.drop k, by rw [e, List.map_drop], Nat.le_refl _⟩
theorem LaPL.oneT {y : Str} (h : Giv te σ H (.str y)) (hp : Pot H p) (hl : y.length ≤ 1000) : LaPL (TxA (tot [y])) (tLst (tCons te tNil)) p σ H :=
  LaPL.mono (LaPs.lstL (T := AllN (fun d => d = .str y) 1) (LaPs.cons (LaP.of h hp (.str y hl) rfl) fun G3 r6 => LaPs.nil r6.pot) fun ds h => by rw [h.1]; decide) fun ds h => ⟨[y], by
    obtain ⟨h1, h2⟩ := h
    match ds, h1 with
    | [d], _ => rw [h2 d List.mem_cons_self]; rfl, Nat.le_refl _⟩
theorem LaPL.catT {n k : Nat} (h : LaPL (TxA n) te p σ H) (h2 : ∀ H', Drawn p H H' → LaPL (TxA k) tb p σ H') (hl : n + k ≤ 1000) : LaPL (TxA (n + k)) (tOp rCat te tb) p σ H := LaPL.cat h h2 fun ds es a b => a.cat b hl
theorem LaPL.upT {n k : Nat} (h : LaPL (TxA n) te p σ H) (hl : n ≤ k) : LaPL (TxA k) te p σ H := LaPL.mono h fun ds ⟨A, e, t⟩ => ⟨A, e, Nat.le_trans t hl⟩
theorem LaP.strCat {ta : TE} {a b : Str} (h1 : Giv ta σ H (.str a)) (h2 : Giv tb σ H (.str b)) (hp : Pot H p) (hl : a.length + b.length ≤ 1000) (hs : S (.str (a ++ b))) : LaP S (tOp (fun x y H Q => ∃ i j, x = V.str i ∧ y = .str j ∧ i.length + j.length ≤ sizeLine ∧ Q (.str (i ++ j)) H) ta tb) p σ H :=
  fun Q q => h1 _ (h2 _ ⟨_, _, rfl, rfl, Nat.le_of_lt (small1000 hl), q H _ _ (Drawn.refl hp) (.str _ (by rw [Str.length_append]; exact hl)) hs⟩)
theorem txn_lit9 {n : Nat} {z : Str} (hp : Pot H p) (hn : n ≤ 900) (h : decide (z.length ≤ 11) = true) : LaP (TxN (11 + n)) (tC (.str z)) p σ H := LaP.of giv_c hp (.str z (by have := of_decide_eq_true h; omega)) ⟨z, rfl, by have := of_decide_eq_true h; omega⟩
theorem giv_lenS {K : PySem.W.Frag} {z : Str} (h : Giv te σ H (.str z)) (hl : z.length ≤ 1000) : Giv (tCB (rLenX K) (tCons te tNil)) σ H (.int (z.length : Nat)) := fun Q q => h _ ⟨.str z, z.length, rfl, ⟨Nat.le_of_lt (small1000 hl), rfl⟩, q⟩
theorem slice_len_to {z : Str} {k : Nat} : (Txt.slice z none (some (k : Int))).length = min k z.length := by
  have e : z = SX.S z.cps.toList := (SX.S_tl z).symm
  have h := SX.slice_to (a := z.cps.toList) (i := (k : Int)) (by omega)
  rw [← e] at h
  rw [h, SX.S_len, List.length_take, Int.toNat_natCast]
  rfl
theorem slice_len_from {z : Str} {k : Nat} : (Txt.slice z (some (k : Int)) none).length = z.length - k := by
  have e : z = SX.S z.cps.toList := (SX.S_tl z).symm
  have h := SX.slice_from (a := z.cps.toList) (i := (k : Int)) (by omega)
  rw [← e] at h
  rw [h, SX.S_len, List.length_drop, Int.toNat_natCast]
  rfl
theorem txn_lit {n : Nat} {z : Str} (hp : Pot H p) (h : decide (z.length ≤ n) = true) (hn : n ≤ 1000) : LaP (TxN n) (tC (.str z)) p σ H := LaP.of giv_c hp (.str z (Nat.le_trans (of_decide_eq_true h) hn)) ⟨z, rfl, of_decide_eq_true h⟩
end
theorem retE {te : TE} {D : Ends} {σ : L2.St} {H : Hp} (h : te σ H D.rt) : tRet te D σ H := h
def spDue : Sp := fun vs H Q _ => ∃ (p : Addr) (z : Str), vs = [.str z] ∧ z.length ≤ 900 ∧ (∀ y ∈ Txt.split z " ", NumS y) ∧ H p ≠ none ∧ (∀ e, dueD (Txt.split z " ") = some e → ∀ H' v, Same H H' → Dt p H' v e → Q v H') ∧ (dueD (Txt.split z " ") = none → ∀ H', Same H H' → Q .non H')
theorem areB_at {R : List Str} {l : List Nat} {k c : Nat} {w : Str} (h : areB R l = true) (h1 : R[k]? = some w) (h2 : l[k]? = some c) : okS w c = true := by
  unfold areB at h
  rw [Bool.and_eq_true, List.all_eq_true] at h
  exact h.2 (w, c) (List.mem_of_getElem? (i := k) (List.getElem?_zip_eq_some.mpr ⟨h1, h2⟩))
theorem isNumB_figs {z : Str} {n : Int} (h : isNumB z n = true) : figs z = true := by
  rw [isNumB_eq, Bool.and_eq_true] at h
  exact h.1
theorem areB_figs {R : List Str} {l : List Nat} {k c : Nat} {w : Str} (h : areB R l = true) (h1 : R[k]? = some w) (h2 : l[k]? = some c) (hc : c = 48 ∨ c = 49 ∨ c = 50) : figs w = true := by
  have e := areB_at h h1 h2
  unfold okS at e
  rw [if_pos hc] at e
  exact isNumB_figs e
theorem rAt {W : List Str} {k : Nat} (h : k + 1 < W.length) : (W.drop 1)[k]? = some (wAt W (k + 1)) := by
  unfold wAt
  rw [List.getElem?_drop, Nat.add_comm 1 k, List.getElem?_eq_getElem h, List.getD_eq_getElem?_getD, List.getElem?_eq_getElem h]
  rfl
theorem rAtV {W : List Str} {k : Nat} (h : k + 1 < W.length) : ((W.drop 1).map V.str)[k]? = some (.str (wAt W (k + 1))) := by rw [List.getElem?_map, rAt h]; rfl
theorem tl_nnw : TL.tl "nnw" = nnw := by decide +kernel
theorem tl_nnsn0 : TL.tl "nnsn0" = nnsn0 := by decide +kernel
theorem tl_nsn0n1 : TL.tl "nsn0n1" = nsn0n1 := by decide +kernel
theorem tl_n2 : TL.tl "n2" = n2 := by decide +kernel
theorem mul_n (n : Nat) : TL.tl (Txt.mul "n" (n : Int)) = List.replicate n 110 := mul_one_list 110 n
theorem mulOk_n {n : Nat} (h : n ≤ 1000) : MulOk "n" (n : Int) := by
  have e : ("n" : Str).length = 1 := by decide +kernel
  refine ⟨by rw [decide_eq_false (by omega), decide_eq_false (by omega)]; rfl, fun h1 h2 => ?_, fun h1 h2 => ?_⟩
  · rw [e]
    intro h3
    have : (1 : Int) ≤ (2 ^ 63 - 1) / (n : Int) := by
      refine (Int.le_ediv_iff_mul_le (by omega)).mpr ?_
      omega
    have h3 : (1 : Int) > (2 ^ 63 - 1) / (n : Int) := h3
    omega
  · rw [e]
    have : 1 * (n : Int).toNat ≤ sizeLine := Nat.le_of_lt (small1000 (by omega))
    exact decide_eq_false (by omega)
/-- [x not in xs[:k] for k, x in enumerate(xs)], of a list -/
theorem say_newsL {σ : L2.St} {H : Hp} {K : PySem.W.Frag} {te ts : TE} {i j : Nat} {vs : List Nat} {c : Addr} {zs : List Str} (hl : zs.length ≤ 1000) (hv : Giv te σ H (.ref c)) (ec : H c = some (.lst (zs.map V.str)))
    (hw : ∀ x y, wipe (((wipe σ vs).set i (some x)).set j (some y)) vs = wipe σ vs) (hi : ∀ x y, (((wipe σ vs).set i (some x)).set j (some y))[i]? = some (some x)) (hj : ∀ x y, (((wipe σ vs).set i (some x)).set j (some y))[j]? = some (some y)) (hs : ∀ x y H, Giv ts (((wipe σ vs).set i (some x)).set j (some y)) H (.ref c)) :
    Say (tCB (rAll K) (tCons (tLc (iEnum K (tCons te tNil)) (gTup K 2 (gCons (gName i) (gCons (gName j) gNil))) tYes (tOp (rIn K true) (tVar j) (tSl (rSlL K) ts tNoPart (tPart (tVar i)))) vs) tNil)) σ H ((List.range zs.length).all (newAt zs)) := fun Q q => hv _ ⟨c, _, rfl, SqL.of ec, fun D hD => by
  refine lc_it (walk_enum (xs := zs.map V.str)) (Pv := fun k H' => Same H H' ∧ H' D = some (.lst (((List.range k).map (newAt zs)).map V.bl))) ⟨same_new hD, upd_same⟩ (fun k H1 _ hp => SqL.of (hp.1 _ _ ec)) (fun k x H1 H2 hk hp hy => ?_) (fun H1 hp => ?_)
  · obtain ⟨sm, eD⟩ := hp
    obtain ⟨T, x0, y, rfl, nT, rfl, ex, ey⟩ := hy
    have ex : V.int (k : Nat) = x0 := Option.some.inj ex
    subst ex
    rw [List.length_map] at hk
    have ey : (zs.map V.str)[k]? = some y := ey
    rw [List.getElem?_map, List.getElem?_eq_getElem hk] at ey
    have ey : V.str zs[k] = y := Option.some.inj ey
    subst ey
    have s2 : Same H1 (upd H1 T (.tup [.int (k : Nat), .str zs[k]])) := same_new nT
    refine ⟨T, _, rfl, SqT.of upd_same, rfl, _, _, rfl, _, _, rfl, rfl, hw _ _, _, hj _ _, hs _ _ _ _ ⟨_, hi _ _, (k : Int), rfl, c, _, rfl, SqL.of (s2 _ _ (sm _ _ ec)), fun a na => ?_⟩⟩
    refine ⟨a, _, rfl, .inl (SqL.of upd_same), rfl, ?_, _, (same_new na) _ _ (s2 _ _ eD), ?_, fun b o e => ?_, ?_⟩
    · rw [cut_to, ← List.map_take]
      exact flat_strs _
    · rw [List.length_map, List.length_map, List.length_range]
      exact small1000 (by omega)
    · rw [upd_ne (ne_of_none e hD)]
      exact (same_new na) _ _ (s2 _ _ (sm b o e))
    · rw [upd_same, cut_to, ← List.map_take, if_pos rfl, inV_strs, List.range_succ, List.map_append, List.map_append]
      show _ = some (HO.lst (_ ++ [V.bl (!decide (zs.getD k Str.empty ∈ zs.take k))]))
      rw [List.getD_eq_getElem?_getD, List.getElem?_eq_getElem hk]
      rfl
  · obtain ⟨sm, eD⟩ := hp
    rw [List.length_map] at eD
    refine ⟨D, _, rfl, SqL.of eD, ?_⟩
    rw [List.all_map]
    exact q H1 sm⟩
section
variable {P : Program} {w : World} {K : PySem.W.Frag} {mg : Str → Option Value} {base : Heap}
theorem sc__law_due : FnScope ["_law_text", "_law_words", "_law_first", "_law_rest", "_law_names_here", "_law_k", "_law_name_here"] ["_law_text"] (defScope (topS 42)) := ⟨rfl, rfl, rfl, by decide +kernel, rfl, by decide +kernel, by decide +kernel⟩
theorem ok__law_due (D : DefAt K mg "_law_due" (topS 42)) (m : Mg mg) (c__law_are : Cal P w K mg base 2 "_law_are" spAre []) : Cal P w K mg base 3 "_law_due" spDue [] := by
  have sc := sc__law_due
  refine mkCal D (fun _ _ _ _ _ _ us hl => match us, hl with | [_], _ => rfl) sc (fun vs H Q E h => ?_) (fun f cdv A outer s H vs Q E hr h => ?_)
  · obtain ⟨p, z, rfl, _⟩ := h
    rfl
  · obtain ⟨p, z, rfl, lz, hn, hp, q, x⟩ := h
    refine ⟨_, (pss_cons (ps_set (i := 1) sc.nd rfl (.inl rfl) (pe_split (pv 0) pe_str))
  (pss_cons (ps_par (by rfl) (i := 2) (j := 3) sc.nd rfl rfl (by decide) rfl rfl (pa_cons (pe_ix ix_list (pv 1) pe_int (fun _ _ => rfl)) (pa_cons (pe_slice sl_list (pv 1) (po_some pe_int) po_none) pa_nil)) (by rfl))
  (pss_cons (ps_if (PW.pt (pw_and (pt_cmpR op_eq (pv 2) pe_str (nomark _)) (pw_and1 (pt_val (pe_c c__law_are hr (by decide) (by rfl) (pa_cons (pv 3) (pa_cons pe_str pa_nil)))))))
  (pss_one (ps_ret (pe_tup (pa_cons pe_str (pa_cons (pe_ix ix_list (pv 3) pe_int (fun _ _ => rfl)) (pa_cons (pe_ix ix_list (pv 3) pe_int (fun _ _ => rfl)) (pa_cons (pe_ix ix_list (pv 3) pe_int (fun _ _ => rfl)) pa_nil)))))))
  pss_nil)
  (pss_cons (ps_if (PW.pt (pw_and (pt_cmpR op_eq (pv 2) pe_str (nomark _)) (pw_and1 (pt_val (pe_c c__law_are hr (by decide) (by rfl) (pa_cons (pv 3) (pa_cons pe_str pa_nil)))))))
  (pss_one (ps_ret (pe_tup (pa_cons pe_str (pa_cons (pe_ix ix_list (pv 3) pe_int (fun _ _ => rfl)) (pa_cons (pe_ix ix_list (pv 3) pe_int (fun _ _ => rfl)) (pa_cons (pe_ix ix_list (pv 3) pe_int (fun _ _ => rfl)) (pa_cons (pe_tup (pa_cons (pe_ix ix_list (pv 3) pe_int (fun _ _ => rfl)) (pa_cons (pe_callTy call_int_str (by rfl) m.int (by decide +kernel) (pa_cons (pe_ix ix_list (pv 3) pe_int (fun _ _ => rfl)) pa_nil)) pa_nil))) pa_nil))))))))
  pss_nil)
  (pss_cons (ps_if (PW.pt (pw_and (pt_cmpR op_eq (pv 2) pe_str (nomark _)) (pw_and1 (pt_val (pe_c c__law_are hr (by decide) (by rfl) (pa_cons (pv 3) (pa_cons pe_str pa_nil)))))))
  (pss_one (ps_ret (pe_tup (pa_cons pe_str (pa_cons (pe_ix ix_list (pv 3) pe_int (fun _ _ => rfl)) (pa_cons (pe_ix ix_list (pv 3) pe_int (fun _ _ => rfl)) (pa_cons (pe_tup (pa_cons (pe_ix ix_list (pv 3) pe_int (fun _ _ => rfl)) (pa_cons (pe_callTy call_int_str (by rfl) m.int (by decide +kernel) (pa_cons (pe_ix ix_list (pv 3) pe_int (fun _ _ => rfl)) pa_nil)) pa_nil))) (pa_cons (pe_tup (pa_cons (pe_ix ix_list (pv 3) pe_int (fun _ _ => rfl)) (pa_cons (pe_callTy call_int_str (by rfl) m.int (by decide +kernel) (pa_cons (pe_ix ix_list (pv 3) pe_int (fun _ _ => rfl)) pa_nil)) pa_nil))) pa_nil))))))))
  pss_nil)
  (pss_cons (ps_set (i := 4) sc.nd rfl (.inr rfl) (pe_slice sl_list (pv 3) (po_some pe_int) po_none))
  (pss_cons (ps_if (PW.pt (pw_and (pt_cmpR op_eq (pv 2) pe_str (nomark _)) (pw_and (pt_val (pe_c c__law_are hr (by decide) (by rfl) (pa_cons (pe_slice sl_list (pv 3) po_none (po_some pe_int)) (pa_cons pe_str pa_nil)))) (pw_and1 (pt_val (pe_c c__law_are hr (by decide) (by rfl) (pa_cons (pv 4) (pa_cons (pe_op op_mul_str pe_str (pe_callB call_len (by rfl) m.len (by decide +kernel) (pa_cons (pv 4) pa_nil))) pa_nil))))))))
  (pss_one (ps_if (pt_val (pe_callB (cr_all rfl) (by rfl) m.all (by decide +kernel) (pa_cons (pe_lc (own := [("_law_k", 5), ("_law_name_here", 6)]) (g := gTup K 2 (gCons (gName 5) (gCons (gName 6) gNil))) (tt := tYes) (te := tOp (rIn K true) (tVar 6) (tSl (rSlL K) (tVar 4) tNoPart (tPart (tVar 5)))) rfl sc.nd (pi_enum (by rfl) m.enumerate (pa_cons (pv 4) pa_nil)) (blkOk_by (N := ["_law_text", "_law_words", "_law_first", "_law_rest", "_law_names_here", "_law_k", "_law_name_here"]) (sc := defScope (topS 42)) (by decide +kernel)) (fun _ _ _ _ _ => (pg_tup (by rfl) (pgs_cons (pg_name (i := 5) sc.nd rfl (.inl rfl)) (pgs_cons (pg_name (i := 6) sc.nd rfl (.inl rfl)) pgs_nil)))) (fun _ _ _ _ _ => pts_nil) (fun _ _ _ _ _ => (pe_cmpR op_notIn_seq (pv 6) (pe_slice sl_list (pv 4) po_none (po_some (pv 5))) rfl))) pa_nil)))
  (pss_one (ps_ret (pe_tup (pa_cons pe_str (pa_cons (pe_ix ix_list (pv 3) pe_int (fun _ _ => rfl)) (pa_cons (pe_callTy call_int_str (by rfl) m.int (by decide +kernel) (pa_cons (pe_ix ix_list (pv 3) pe_int (fun _ _ => rfl)) pa_nil)) (pa_cons (pe_callTy call_tuple_of (by rfl) m.tuple (by decide +kernel) (pa_cons (pv 4) pa_nil)) pa_nil)))))))
  pss_nil))
  pss_nil)
  (pss_one (ps_ret pe_non))))))))), ?_⟩
    have tz := tot_split z
    have pos := split_pos z
    refine setE ?_
    refine ⟨_, rfl, ⟨_, rfl⟩, _, _, rfl, rfl, rfl, (by rw [sizeLine_eq]; omega), fun c nc => ?_⟩
    have sm : Same H (upd H c (.lst ((Txt.split z " ").map V.str))) := same_new nc
    have ec : (upd H c (.lst ((Txt.split z " ").map V.str))) c = some (.lst ((Txt.split z " ").map V.str)) := upd_same
    generalize upd H c (.lst ((Txt.split z " ").map V.str)) = H1 at sm ec
    have q : ∀ e, dueD (Txt.split z " ") = some e → ∀ H' v, Same H H' → Dt p H' v e → _ := q
    have x : dueD (Txt.split z " ") = none → _ := x
    generalize Txt.split z " " = W at tz pos hn q x ec
    have lW : W.length ≤ tot W := Nat.le_add_left _ _
    have wl : ∀ y ∈ W, y.length ≤ 1000 := fun y m => by have := tot_mem m; omega
    have lc : ∀ k, (wAt W k).length ≤ 1000 := wAt_len wl
    have wm : ∀ k, k < W.length → wAt W k ∈ W := fun k hk => by
      unfold wAt
      rw [List.getD_eq_getElem?_getD, List.getElem?_eq_getElem hk]
      exact List.getElem_mem hk
    refine parW ?_
    refine ⟨_, rfl, c, _, _, _, rfl, rfl, SqL.of ec, atI_nat (j := 0) (wAt_get pos), _, rfl, 1, rfl, c, _, rfl, SqL.of ec, fun r nr => ?_⟩
    have e3 : cutV (W.map V.str) (some 1) none = (W.drop 1).map V.str := by rw [List.map_drop]; exact cut_from _ 1
    rw [e3]
    have sm := sm.trans (same_new (o := .lst ((W.drop 1).map V.str)) nr)
    have er : (upd H1 r (.lst ((W.drop 1).map V.str))) r = some (.lst ((W.drop 1).map V.str)) := upd_same
    generalize upd H1 r (.lst ((W.drop 1).map V.str)) = H2 at sm er
    clear ec
    have hR : ∀ y ∈ W.drop 1, y.length ≤ 1000 ∧ NumS y := fun y m => ⟨wl y (List.mem_of_mem_drop m), hn y (List.mem_of_mem_drop m)⟩
    have lR : (W.drop 1).length = W.length - 1 := List.length_drop
    refine ⟨_, _, rfl, ?_⟩
    (try dsimp only)
    unfold dueD at q x
    refine ifS (SayT.and (a := decide (wAt W 0 = "letter")) (b := areB (W.drop 1) nnw) ?_ ?_) (fun e G s => ?_) (fun e G s => ?_)
    · exact Say.tTest (say_eqS (giv_var rfl) giv_c)
    · exact fun _ G s => Say.tB (Say.of (say_are (giv_var rfl) giv_c (s _ _ er) (by omega) (by decide) hR) (by rw [tl_nnw]))
    · obtain ⟨e1, e2⟩ := Bool.and_eq_true_iff.mp e
      rw [if_pos ⟨of_decide_eq_true e1, e2⟩] at q
      have er := s _ _ er
      have sm := sm.trans s
      have l3 : (W.drop 1).length = 3 := areB_true e2
      refine retE ?_
      refine ⟨_, rfl, r, _, _, _, rfl, rfl, SqL.of er, atI_nat (j := 0) (rAtV (by omega)), _, rfl, r, _, _, _, rfl, rfl, SqL.of er, atI_nat (j := 1) (rAtV (by omega)), _, rfl, r, _, _, _, rfl, rfl, SqL.of er, atI_nat (j := 2) (rAtV (by omega)), (by show 4 ≤ sizeLine; decide), fun a na => ?_⟩
      exact q _ rfl _ _ (sm.trans (same_new na)) (.tup (ne_p hp sm na) (by show 4 ≤ 1000; decide) upd_same (.cons (.str _ (by decide)) (.cons (.str _ (lc 1)) (.cons (.str _ (lc 2)) (.cons (.str _ (lc 3)) .nil)))))
    have ne1 : ¬ (wAt W 0 = "letter" ∧ areB (W.drop 1) nnw = true) := fun w => by rw [decide_eq_true w.1, w.2] at e; cases e
    rw [if_neg ne1] at q x
    have er := s _ _ er
    have sm := sm.trans s
    clear s e ne1
    refine ifS (SayT.and (a := decide (wAt W 0 = "echo")) (b := areB (W.drop 1) nnsn0) ?_ ?_) (fun e G s => ?_) (fun e G s => ?_)
    · exact Say.tTest (say_eqS (giv_var rfl) giv_c)
    · exact fun _ G s => Say.tB (Say.of (say_are (giv_var rfl) giv_c (s _ _ er) (by omega) (by decide) hR) (by rw [tl_nnsn0]))
    · obtain ⟨e1, e2⟩ := Bool.and_eq_true_iff.mp e
      rw [if_pos ⟨of_decide_eq_true e1, e2⟩] at q
      have er := s _ _ er
      have sm := sm.trans s
      have l3 : (W.drop 1).length = 5 := areB_true e2
      have f1 : figs (wAt W 5) = true := areB_figs (k := 4) (c := 48) e2 (rAt (by omega)) rfl (.inl rfl)
      refine retE ?_
      refine ⟨_, rfl, r, _, _, _, rfl, rfl, SqL.of er, atI_nat (j := 0) (rAtV (by omega)), _, rfl, r, _, _, _, rfl, rfl, SqL.of er, atI_nat (j := 1) (rAtV (by omega)), _, rfl, r, _, _, _, rfl, rfl, SqL.of er, atI_nat (j := 2) (rAtV (by omega)), _, rfl, r, _, _, _, rfl, rfl, SqL.of er, atI_nat (j := 3) (rAtV (by omega)), _, rfl, r, _, _, _, rfl, rfl, SqL.of er, atI_nat (j := 4) (rAtV (by omega)), _, _, rfl, intZ f1 (Nat.le_trans (hn _ (wm 5 (by omega)) f1) (by decide)), (Nat.le_trans (hn _ (wm 5 (by omega)) f1) (by decide)), (by show 2 ≤ sizeLine; decide), fun d nd => ?_⟩
      refine ⟨(by show 5 ≤ sizeLine; decide), fun a na => ?_⟩
      have s1 := same_new (o := .tup [.str (wAt W 4), .int (valZ (wAt W 5))]) nd
      have s2 := same_new (o := .tup [.str "echo", .str (wAt W 1), .str (wAt W 2), .str (wAt W 3), .ref d]) na
      refine q _ rfl _ _ ((sm.trans s1).trans s2) (.tup (ne_p hp (sm.trans s1) na) (by show 5 ≤ 1000; decide) upd_same ?_)
      exact .cons (.str _ (by decide)) (.cons (.str _ (lc 1)) (.cons (.str _ (lc 2)) (.cons (.str _ (lc 3)) (.cons (.tup (ne_p hp sm nd) (by show 2 ≤ 1000; decide) (s2 _ _ upd_same) (.cons (.str _ (lc 4)) (.cons (.int _) .nil))) .nil))))
    have ne1 : ¬ (wAt W 0 = "echo" ∧ areB (W.drop 1) nnsn0 = true) := fun w => by rw [decide_eq_true w.1, w.2] at e; cases e
    rw [if_neg ne1] at q x
    have er := s _ _ er
    have sm := sm.trans s
    clear s e ne1
    refine ifS (SayT.and (a := decide (wAt W 0 = "answer")) (b := areB (W.drop 1) nsn0n1) ?_ ?_) (fun e G s => ?_) (fun e G s => ?_)
    · exact Say.tTest (say_eqS (giv_var rfl) giv_c)
    · exact fun _ G s => Say.tB (Say.of (say_are (giv_var rfl) giv_c (s _ _ er) (by omega) (by decide) hR) (by rw [tl_nsn0n1]))
    · obtain ⟨e1, e2⟩ := Bool.and_eq_true_iff.mp e
      rw [if_pos ⟨of_decide_eq_true e1, e2⟩] at q
      have er := s _ _ er
      have sm := sm.trans s
      have l3 : (W.drop 1).length = 6 := areB_true e2
      have f1 : figs (wAt W 4) = true := areB_figs (k := 3) (c := 48) e2 (rAt (by omega)) rfl (.inl rfl)
      have f2 : figs (wAt W 6) = true := areB_figs (k := 5) (c := 49) e2 (rAt (by omega)) rfl (.inr (.inl rfl))
      refine retE ?_
      refine ⟨_, rfl, r, _, _, _, rfl, rfl, SqL.of er, atI_nat (j := 0) (rAtV (by omega)), _, rfl, r, _, _, _, rfl, rfl, SqL.of er, atI_nat (j := 1) (rAtV (by omega)), _, rfl, r, _, _, _, rfl, rfl, SqL.of er, atI_nat (j := 2) (rAtV (by omega)), _, rfl, r, _, _, _, rfl, rfl, SqL.of er, atI_nat (j := 3) (rAtV (by omega)), _, _, rfl, intZ f1 (Nat.le_trans (hn _ (wm 4 (by omega)) f1) (by decide)), (Nat.le_trans (hn _ (wm 4 (by omega)) f1) (by decide)), (by show 2 ≤ sizeLine; decide), fun d nd => ?_⟩
      have s1 := same_new (o := .tup [.str (wAt W 3), .int (valZ (wAt W 4))]) nd
      have er := s1 _ _ er
      refine ⟨_, rfl, r, _, _, _, rfl, rfl, SqL.of er, atI_nat (j := 4) (rAtV (by omega)), _, rfl, r, _, _, _, rfl, rfl, SqL.of er, atI_nat (j := 5) (rAtV (by omega)), _, _, rfl, intZ f2 (Nat.le_trans (hn _ (wm 6 (by omega)) f2) (by decide)), (Nat.le_trans (hn _ (wm 6 (by omega)) f2) (by decide)), (by show 2 ≤ sizeLine; decide), fun d2 nd2 => ?_⟩
      have s2 := same_new (o := .tup [.str (wAt W 5), .int (valZ (wAt W 6))]) nd2
      refine ⟨(by show 5 ≤ sizeLine; decide), fun a na => ?_⟩
      have s3 := same_new (o := .tup [.str "answer", .str (wAt W 1), .str (wAt W 2), .ref d, .ref d2]) na
      refine q _ rfl _ _ (((sm.trans s1).trans s2).trans s3) (.tup (ne_p hp ((sm.trans s1).trans s2) na) (by show 5 ≤ 1000; decide) upd_same ?_)
      exact .cons (.str _ (by decide)) (.cons (.str _ (lc 1)) (.cons (.str _ (lc 2)) (.cons (.tup (ne_p hp sm nd) (by show 2 ≤ 1000; decide) (s3 _ _ (s2 _ _ upd_same)) (.cons (.str _ (lc 3)) (.cons (.int _) .nil))) (.cons (.tup (ne_p hp (sm.trans s1) nd2) (by show 2 ≤ 1000; decide) (s3 _ _ upd_same) (.cons (.str _ (lc 5)) (.cons (.int _) .nil))) .nil))))
    have ne1 : ¬ (wAt W 0 = "answer" ∧ areB (W.drop 1) nsn0n1 = true) := fun w => by rw [decide_eq_true w.1, w.2] at e; cases e
    rw [if_neg ne1] at q x
    have er := s _ _ er
    have sm := sm.trans s
    clear s e ne1
    refine setE ?_
    refine ⟨_, rfl, 2, rfl, r, _, rfl, SqL.of er, fun n nn => ?_⟩
    have e4 : cutV ((W.drop 1).map V.str) (some 2) none = ((W.drop 1).drop 2).map V.str := (cut_from _ 2).trans List.map_drop.symm
    rw [e4]
    generalize eN : (W.drop 1).drop 2 = N at q x
    have s1 := same_new (o := .lst (N.map V.str)) nn
    have er := s1 _ _ er
    have en : (upd G n (.lst (N.map V.str))) n = some (.lst (N.map V.str)) := upd_same
    have sm := sm.trans s1
    generalize upd G n (.lst (N.map V.str)) = G2 at er en sm
    clear s1
    have hN : ∀ y ∈ N, y.length ≤ 1000 ∧ NumS y := fun y m => hR y (List.mem_of_mem_drop (by rw [eN]; exact m))
    have lN : N.length ≤ 1000 := by rw [← eN, List.length_drop, List.length_drop]; omega
    refine ifS (SayT.and (a := decide (wAt W 0 = "goer")) (b := areB ((W.drop 1).take 2) n2 && areB N (List.replicate N.length 110)) ?_ ?_) (fun e G3 s => ?_) (fun e G3 s => ?_)
    · exact Say.tTest (say_eqS (giv_var rfl) giv_c)
    · intro _ G3 s3
      refine SayT.and (a := areB ((W.drop 1).take 2) n2) (b := areB N (List.replicate N.length 110)) ?_ ?_
      · refine Say.tB fun Q q => ?_
        refine ⟨_, rfl, 2, rfl, r, _, rfl, SqL.of (s3 _ _ er), fun b nb => ?_⟩
        refine ⟨b, (W.drop 1).take 2, "n2", rfl, by rw [upd_same, show (some (2 : Int)) = some ((2 : Nat) : Int) from rfl, cut_to, List.map_take], by rw [List.length_take]; omega, by decide, fun y m => hR y (List.mem_of_mem_take m), fun H' s' => ?_⟩
        rw [tl_n2]
        exact q H' ((same_new nb).trans s')
      · intro _ G4 s4
        have en := s4 _ _ (s3 _ _ en)
        refine Say.tB fun Q q => ?_
        refine ⟨_, rfl, _, rfl, .ref n, (N.map V.str).length, rfl, .inl ⟨_, SqL.of en, rfl⟩, _, _, rfl, rfl, ?_⟩
        rw [List.length_map]
        refine ⟨mulOk_n lN, n, N, _, rfl, en, lN, ?_, hN, fun H' s' => ?_⟩
        · show (TL.tl (Txt.mul "n" (N.length : Int))).length ≤ 1000
          rw [mul_n, List.length_replicate]
          exact lN
        · rw [mul_n]
          exact q H' s'
    · obtain ⟨e1, e2⟩ := Bool.and_eq_true_iff.mp e
      obtain ⟨e2, e3⟩ := Bool.and_eq_true_iff.mp e2
      have er := s _ _ er
      have en := s _ _ en
      have sm := sm.trans s
      have l2 : ((W.drop 1).take 2).length = 2 := areB_true e2
      rw [List.length_take] at l2
      refine ifL (c := (List.range N.length).all (newAt N)) ?_ (fun e4 G4 s4 => ?_) (fun e4 G4 s4 => ?_)
      · exact Say.tB (say_newsL lN (giv_var rfl) en (fun _ _ => rfl) (fun _ _ => rfl) (fun _ _ => rfl) (fun _ _ _ => giv_var rfl))
      · have hs : shutB N = true := by unfold shutB; rw [e3, e4]; rfl
        rw [if_pos ⟨of_decide_eq_true e1, e2, hs⟩] at q
        have er := s4 _ _ er
        have en := s4 _ _ en
        have sm := sm.trans s4
        have f1 : figs (wAt W 2) = true := areB_figs (k := 1) (c := 50) e2 (by rw [List.getElem?_take_of_lt (by decide)]; exact rAt (by omega)) rfl (.inr (.inr rfl))
        refine retE ?_
        refine ⟨_, rfl, r, _, _, _, rfl, rfl, SqL.of er, atI_nat (j := 0) (rAtV (by omega)), _, rfl, r, _, _, _, rfl, rfl, SqL.of er, atI_nat (j := 1) (rAtV (by omega)), _, _, rfl, intZ f1 (Nat.le_trans (hn _ (wm 2 (by omega)) f1) (by decide)), (Nat.le_trans (hn _ (wm 2 (by omega)) f1) (by decide)), _, rfl, n, _, rfl, .inl ⟨SqL.of en, fun d nd => ?_⟩⟩
        have s1 := same_new (o := .tup (N.map V.str)) nd
        refine ⟨(by show 4 ≤ sizeLine; decide), fun a na => ?_⟩
        have s2 := same_new (o := .tup [.str "goer", .str (wAt W 1), .int (valZ (wAt W 2)), .ref d]) na
        refine q _ rfl _ _ ((sm.trans s1).trans s2) (.tup (ne_p hp (sm.trans s1) na) (by show 4 ≤ 1000; decide) upd_same ?_)
        exact .cons (.str _ (by decide)) (.cons (.str _ (lc 1)) (.cons (.int _) (.cons (.tup (ne_p hp sm nd) (by rw [List.length_map]; exact lN) (s2 _ _ upd_same) (DtAll.strs fun y m => (hN y m).1)) .nil)))
      · have ns : ¬ (wAt W 0 = "goer" ∧ areB ((W.drop 1).take 2) n2 = true ∧ shutB N = true) := fun w => by
          have := w.2.2
          unfold shutB at this
          rw [e3, e4] at this
          cases this
        rw [if_neg ns] at x
        exact x rfl _ (sm.trans s4)
    · have ns : ¬ (wAt W 0 = "goer" ∧ areB ((W.drop 1).take 2) n2 = true ∧ shutB N = true) := fun w => by
        have w3 := w.2.2
        unfold shutB at w3
        rw [Bool.and_eq_true] at w3
        rw [decide_eq_true w.1, w.2.1, w3.1] at e
        cases e
      rw [if_neg ns] at x
      exact x rfl _ (sm.trans s)
end
end Gj

namespace Gj
open PySem PySem.Spec PyProof.Rows L2
open C8 (Cal pe_c pe_gc)
theorem dt_str {p : Addr} {H : Hp} {v : V} {z : Str} (h : Dt p H v (.str z)) : v = .str z := by
  cases h
  rfl
theorem dt_strs {p : Addr} {H : Hp} : ∀ {A : List Str} {xs : List V}, DtAll p H xs (A.map PyData.str) → xs = A.map V.str
  | [], _, h => by
    cases h
    rfl
  | z :: A, xs, h => by
    cases h with
    | cons a b =>
      rw [dt_str a, dt_strs b]
      rfl
def spChW : Sp := fun vs H Q _ => ∃ (p c : Addr) (W : List Str) (n : Nat), vs = [.ref p, .ref c] ∧ Pot H p ∧ c ≠ p ∧ H c = some (.lst (W.map V.str)) ∧ 0 < W.length ∧ tot W ≤ n ∧ n ≤ 400 ∧ ∀ (H' : Hp) (c' : Addr) (A : List Str), Drawn p H H' → H' c' = some (.lst (A.map V.str)) → tot A ≤ 2 * n + 31 → Q (.ref c') H'
def spChg : Sp := fun vs H Q _ => ∃ (p : Addr) (z : Str) (n : Nat), vs = [.ref p, .str z] ∧ Pot H p ∧ z.length ≤ n ∧ n ≤ 390 ∧ ∀ (H' : Hp) (y : Str), Drawn p H H' → y.length ≤ 2 * n + 33 → Q (.str y) H'
theorem cut_mid (xs : List V) (a b : Nat) : cutV xs (some (a : Int)) (some (b : Int)) = (xs.drop a).take (b - a) := by
  unfold cutV
  rw [HT.sIx_nat, HT.sIx_nat]
  by_cases h : a ≤ xs.length
  · rw [Nat.min_eq_left h]
    by_cases h2 : b ≤ xs.length
    · rw [Nat.min_eq_left h2]
    · rw [Nat.min_eq_right (by omega), List.take_of_length_le (by rw [List.length_drop]; exact Nat.le_refl _), List.take_of_length_le (by rw [List.length_drop]; omega)]
  · rw [show min a xs.length = xs.length from Nat.min_eq_right (by omega), List.drop_eq_nil_of_le (as := xs) (i := xs.length) (Nat.le_refl _), List.drop_eq_nil_of_le (as := xs) (i := a) (by omega), List.take_nil, List.take_nil]
section
variable {p : Addr} {σ : L2.St} {H : Hp} {tp tb tx te ta : TE} {E : XK}
theorem LaPL.midT {K : PySem.W.Frag} {c : Addr} {W : List Str} {a b : Nat} (h : Giv te σ H (.ref c)) (hp : Pot H p) (hl : W.length ≤ 1000) (e : H c = some (.lst (W.map V.str))) (hd : DtAll p H (W.map V.str) (W.map PyData.str)) (ha : Giv ta σ H (.int (a : Nat))) (hb : Giv tb σ H (.int (b : Nat))) : LaPL (TxA (tot ((W.drop a).take (b - a)))) (tSl (rSlL K) te (tPart ta) (tPart tb)) p σ H := fun Q q => h _ (ha _ (by
  refine ⟨_, rfl, hb _ ⟨_, rfl, c, _, rfl, SqL.of e, fun d nd => ?_⟩⟩
  rw [cut_mid]
  refine q _ d _ (((W.drop a).take (b - a)).map PyData.str) ((Drawn.refl hp).new nd) (hp.ne nd) (by rw [List.length_take, List.length_drop, List.length_map]; omega) upd_same ?_ ⟨_, rfl, Nat.le_refl _⟩
  rw [List.map_take, List.map_drop]
  exact ((hd.drop a).take _).keep (Keep.new nd)))
theorem txn_litB {n : Nat} {z : Str} (hp : Pot H p) (hn : n ≤ 900) (h : decide (z.length ≤ 30) = true) : LaP (TxN (30 + n)) (tC (.str z)) p σ H := LaP.of giv_c hp (.str z (by have := of_decide_eq_true h; omega)) ⟨z, rfl, by have := of_decide_eq_true h; omega⟩
theorem TxN.str {n : Nat} {z : Str} (h : z.length ≤ n) : TxN n (.str z) := ⟨z, rfl, h⟩
theorem AllN.app {S : PyData → Prop} {n k : Nat} {ds es : List PyData} (h : AllN S n ds) (g : AllN S k es) : AllN S (n + k) (ds ++ es) := ⟨by rw [List.length_append, h.1, g.1], fun d m => (List.mem_append.mp m).elim (h.2 d) (g.2 d)⟩
theorem mul9 : (Txt.mul "9" 30).length = 30 := by decide +kernel
theorem mul9_ok : MulOk "9" 30 := ⟨by decide, by decide, by decide⟩
abbrev rMulS : R2 := fun x y H Q => ∃ z n, x = .str z ∧ y = .int n ∧ MulOk z n ∧ Q (.str (Txt.mul z n)) H
theorem giv_mul9 : Giv (tOp rMulS (tC (.str "9")) (tC (.int 30))) σ H (.str (Txt.mul "9" 30)) := fun Q q => ⟨"9", 30, rfl, rfl, mul9_ok, q⟩
theorem giv_lastL {K : PySem.W.Frag} {c : Addr} {xs : List V} {v : V} (h : Giv te σ H (.ref c)) (e : H c = some (.lst xs)) (g : atI xs (-1) = some v) : Giv (tOp (rIxL K) te (tUn (rU fun i => .int (-i)) (tC (.int 1)))) σ H v := fun Q q => h _ ⟨1, rfl, c, xs, -1, v, rfl, rfl, SqL.of e, g, q⟩
end
theorem last_of {W : List Str} (h : 0 < W.length) : ∃ z, z ∈ W ∧ atI (W.map V.str) (-1) = some (.str z) := by
  rcases List.eq_nil_or_concat W with rfl | ⟨ini, z, e⟩
  · exact absurd h (by decide)
  · rw [List.concat_eq_append] at e
    subst e
    exact ⟨z, List.mem_append_right _ List.mem_cons_self, by rw [List.map_append]; exact atI_last _ _⟩
section
variable {P : Program} {w : World} {K : PySem.W.Frag} {mg : Str → Option Value} {base : Heap}
theorem sc__law_changed_words : FnScope ["_law_pot_here", "_law_words", "_law_at", "_law_way", "_law_menu", "_law_word_here", "_law_turned"] ["_law_pot_here", "_law_words"] (defScope (topS 43)) := ⟨rfl, rfl, rfl, by decide +kernel, rfl, by decide +kernel, by decide +kernel⟩
theorem ok__law_changed_words (D : DefAt K mg "_law_changed_words" (topS 43)) (m : Mg mg) (c__law_digit : Cal P w K mg base 1 "_law_digit" spDigit []) : Cal P w K mg base 2 "_law_changed_words" spChW [] := by
  have sc := sc__law_changed_words
  refine mkCal D (fun _ _ _ _ _ _ us hl => match us, hl with | [_, _], _ => rfl) sc (fun vs H Q E h => ?_) (fun f cdv A outer s H vs Q E hr h => ?_)
  · obtain ⟨p, c, W, n, rfl, _⟩ := h
    rfl
  · obtain ⟨p, c, W, n, rfl, hp, nc, ec, pos, tW, ln, q⟩ := h
    refine ⟨_, (pss_cons (ps_set (i := 2) sc.nd rfl (.inl rfl) (pe_c c__law_digit hr (by decide) (by rfl) (pa_cons (pv 0) (pa_cons (pe_callB call_len (by rfl) m.len (by decide +kernel) (pa_cons (pv 1) pa_nil)) pa_nil))))
  (pss_cons (ps_set (i := 3) sc.nd rfl (.inl rfl) (pe_c c__law_digit hr (by decide) (by rfl) (pa_cons (pv 0) (pa_cons pe_int pa_nil))))
  (pss_cons (ps_set (i := 4) sc.nd rfl (.inl rfl) (pe_lst (pa_cons pe_str (pa_cons pe_str (pa_cons pe_str (pa_cons pe_str (pa_cons pe_str (pa_cons pe_str (pa_cons pe_str (pa_cons pe_str (pa_cons pe_str (pa_cons pe_str (pa_cons pe_str (pa_cons pe_str (pa_cons pe_str (pa_cons pe_str (pa_cons pe_str pa_nil)))))))))))))))))
  (pss_cons (ps_set (i := 4) sc.nd rfl (.inl rfl) (pe_op op_cat (pv 4) (pe_lst (pa_cons pe_str (pa_cons pe_str (pa_cons pe_str (pa_cons pe_str (pa_cons pe_str (pa_cons pe_str (pa_cons pe_str (pa_cons (pe_op op_mul_str pe_str pe_int) pa_nil)))))))))))
  (pss_cons (ps_set (i := 4) sc.nd rfl (.inl rfl) (pe_op op_cat (pv 4) (pe_lst (pa_cons (pe_ix ix_list (pv 1) pe_int (fun _ _ => rfl)) (pa_cons (pe_ix ix_list (pv 1) (pe_un un_neg pe_int) (fun _ _ => rfl)) pa_nil)))))
  (pss_cons (ps_set (i := 5) sc.nd rfl (.inl rfl) (pe_ix ix_list (pv 4) (pe_c c__law_digit hr (by decide) (by rfl) (pa_cons (pv 0) (pa_cons (pe_callB call_len (by rfl) m.len (by decide +kernel) (pa_cons (pv 4) pa_nil)) pa_nil))) (fun _ _ => rfl)))
  (pss_cons (ps_if (PW.pt (pw_and (pt_cmpR op_eq (pv 3) pe_int (nomark _)) (pw_and1 (pt_cmpR op_gt (pe_callB call_len (by rfl) m.len (by decide +kernel) (pa_cons (pv 1) pa_nil)) pe_int (nomark _)))))
  (pss_one (ps_ret (pe_op op_cat (pe_slice sl_list (pv 1) po_none (po_some (pv 2))) (pe_slice sl_list (pv 1) (po_some (pe_op op_add (pv 2) pe_int)) po_none))))
  pss_nil)
  (pss_cons (ps_if (pt_cmpR op_eq (pv 3) pe_int (nomark _))
  (pss_one (ps_ret (pe_op op_cat (pe_op op_cat (pe_slice sl_list (pv 1) po_none (po_some (pv 2))) (pe_lst (pa_cons (pv 5) pa_nil))) (pe_slice sl_list (pv 1) (po_some (pv 2)) po_none))))
  pss_nil)
  (pss_cons (ps_if (pt_cmpR op_eq (pv 3) pe_int (nomark _))
  (pss_one (ps_ret (pe_op op_cat (pe_op op_cat (pe_slice sl_list (pv 1) po_none (po_some (pv 2))) (pe_lst (pa_cons (pe_ix ix_list (pv 1) (pv 2) (fun _ _ => rfl)) pa_nil))) (pe_slice sl_list (pv 1) (po_some (pv 2)) po_none))))
  pss_nil)
  (pss_cons (ps_if (pt_cmpR op_eq (pv 3) pe_int (nomark _))
  (pss_cons (ps_set (i := 6) sc.nd rfl (.inl rfl) (pe_op op_cat (pe_slice sl_list (pv 1) (po_some (pe_op op_add (pv 2) pe_int)) (po_some (pe_op op_add (pv 2) pe_int))) (pe_lst (pa_cons (pe_ix ix_list (pv 1) (pv 2) (fun _ _ => rfl)) pa_nil))))
  (pss_one (ps_ret (pe_op op_cat (pe_op op_cat (pe_slice sl_list (pv 1) po_none (po_some (pv 2))) (pv 6)) (pe_slice sl_list (pv 1) (po_some (pe_op op_add (pv 2) pe_int)) po_none)))))
  pss_nil)
  (pss_one (ps_ret (pe_op op_cat (pe_op op_cat (pe_slice sl_list (pv 1) po_none (po_some (pv 2))) (pe_lst (pa_cons (pv 5) pa_nil))) (pe_slice sl_list (pv 1) (po_some (pe_op op_add (pv 2) pe_int)) po_none)))))))))))))), ?_⟩
    have lW : W.length ≤ tot W := Nat.le_add_left _ _
    refine setE ?_
    refine LayI.digit (n := (W.map V.str).length) (giv_var rfl) hp (giv_lenL (giv_var rfl) ec) (by rw [List.length_map]; omega) (Nat.lt_of_le_of_lt (Nat.log2_le_self _) (by rw [List.length_map]; omega)) _ fun H1 i r1 i0 i1 => ?_
    rw [List.length_map] at i1
    obtain ⟨i, rfl⟩ := Int.eq_ofNat_of_zero_le i0
    have i1 : i < W.length := by omega
    refine setE ?_
    refine LayI.digit (giv_var rfl) r1.pot giv_c (by decide) (by decide) _ fun H2 way r2 w0 w1 => ?_
    have r := r1.trans r2
    have ec := r.keep _ _ nc ec
    clear r1 r2
    refine setE ?_
    refine LaPL.run (T := AllN (TxN (30 + n)) 15) (LaPs.lstL (LaPs.cons (S := TxN (30 + n)) (txn_litB r.pot (by omega) (by decide +kernel)) fun _ g0 => LaPs.cons (S := TxN (30 + n)) (txn_litB g0.pot (by omega) (by decide +kernel)) fun _ g1 => LaPs.cons (S := TxN (30 + n)) (txn_litB g1.pot (by omega) (by decide +kernel)) fun _ g2 => LaPs.cons (S := TxN (30 + n)) (txn_litB g2.pot (by omega) (by decide +kernel)) fun _ g3 => LaPs.cons (S := TxN (30 + n)) (txn_litB g3.pot (by omega) (by decide +kernel)) fun _ g4 => LaPs.cons (S := TxN (30 + n)) (txn_litB g4.pot (by omega) (by decide +kernel)) fun _ g5 => LaPs.cons (S := TxN (30 + n)) (txn_litB g5.pot (by omega) (by decide +kernel)) fun _ g6 => LaPs.cons (S := TxN (30 + n)) (txn_litB g6.pot (by omega) (by decide +kernel)) fun _ g7 => LaPs.cons (S := TxN (30 + n)) (txn_litB g7.pot (by omega) (by decide +kernel)) fun _ g8 => LaPs.cons (S := TxN (30 + n)) (txn_litB g8.pot (by omega) (by decide +kernel)) fun _ g9 => LaPs.cons (S := TxN (30 + n)) (txn_litB g9.pot (by omega) (by decide +kernel)) fun _ g10 => LaPs.cons (S := TxN (30 + n)) (txn_litB g10.pot (by omega) (by decide +kernel)) fun _ g11 => LaPs.cons (S := TxN (30 + n)) (txn_litB g11.pot (by omega) (by decide +kernel)) fun _ g12 => LaPs.cons (S := TxN (30 + n)) (txn_litB g12.pot (by omega) (by decide +kernel)) fun _ g13 => LaPs.cons (S := TxN (30 + n)) (txn_litB g13.pot (by omega) (by decide +kernel)) fun _ g14 => LaPs.nil g14.pot) fun ds h => by rw [h.1]; decide) fun H3 c1 xs1 ds1 r3 nc1 l1 ec1 hd1 hS1 => ?_
    have ec := r3.keep _ _ nc ec
    have r := r.trans r3
    clear r3
    refine setE ?_
    refine LaPL.run (T := AllN (TxN (30 + n)) 23) (LaPL.cat (T := AllN (TxN (30 + n)) 15) (T2 := AllN (TxN (30 + n)) 8) (LaPL.var (giv_var rfl) r.pot nc1 l1 ec1 hd1 hS1) (fun G s => LaPs.lstL (LaPs.cons (S := TxN (30 + n)) (txn_litB s.pot (by omega) (by decide +kernel)) fun _ g0 => LaPs.cons (S := TxN (30 + n)) (txn_litB g0.pot (by omega) (by decide +kernel)) fun _ g1 => LaPs.cons (S := TxN (30 + n)) (txn_litB g1.pot (by omega) (by decide +kernel)) fun _ g2 => LaPs.cons (S := TxN (30 + n)) (txn_litB g2.pot (by omega) (by decide +kernel)) fun _ g3 => LaPs.cons (S := TxN (30 + n)) (txn_litB g3.pot (by omega) (by decide +kernel)) fun _ g4 => LaPs.cons (S := TxN (30 + n)) (txn_litB g4.pot (by omega) (by decide +kernel)) fun _ g5 => LaPs.cons (S := TxN (30 + n)) (txn_litB g5.pot (by omega) (by decide +kernel)) fun _ g6 => LaPs.cons (S := TxN (30 + n)) (LaP.of giv_mul9 g6.pot (.str _ (by rw [mul9]; decide)) (TxN.str (by rw [mul9]; omega))) fun _ g7 => LaPs.nil g7.pot) fun ds h => by rw [h.1]; decide) fun ds es a b => ⟨by rw [List.length_append, a.1, b.1]; decide, AllN.app a b⟩) fun H4 c2 xs2 ds2 r4 nc2 l2 ec2 hd2 hS2 => ?_
    have ec := r4.keep _ _ nc ec
    have r := r.trans r4
    clear r4 hd1 hS1 ec1 l1 nc1
    obtain ⟨x0, g0⟩ : ∃ x0, W[0]? = some x0 := ⟨_, List.getElem?_eq_getElem pos⟩
    have l0 := tot_mem (List.mem_of_getElem? g0)
    have g0V : (W.map V.str)[0]? = some (.str x0) := by rw [List.getElem?_map, g0]; rfl
    obtain ⟨xl, ml, gl⟩ := last_of pos
    have ll := tot_mem ml
    refine setE ?_
    refine LaPL.run (T := AllN (TxN (30 + n)) 25) (LaPL.cat (T := AllN (TxN (30 + n)) 23) (T2 := AllN (TxN (30 + n)) 2) (LaPL.var (giv_var rfl) r.pot nc2 l2 ec2 hd2 hS2) (fun G s => LaPs.lstL (LaPs.cons (S := TxN (30 + n)) (LaP.of (giv_ixW (k := 0) (giv_var rfl) giv_c (s.keep _ _ nc ec) g0V) s.pot (.str _ (by omega)) (TxN.str (by omega))) fun _ g0 => LaPs.cons (S := TxN (30 + n)) (LaP.of (giv_lastL (giv_var rfl) (g0.keep _ _ nc (s.keep _ _ nc ec)) gl) g0.pot (.str _ (by omega)) (TxN.str (by omega))) fun _ g1 => LaPs.nil g1.pot) fun ds h => by rw [h.1]; decide) fun ds es a b => ⟨by rw [List.length_append, a.1, b.1]; decide, AllN.app a b⟩) fun H5 c3 xs3 ds3 r5 nc3 l3 ec3 hd3 hS3 => ?_
    have ec := r5.keep _ _ nc ec
    have r := r.trans r5
    clear r5 hd2 hS2 ec2 l2 nc2
    have l25 : xs3.length = 25 := by rw [hd3.length, hS3.1]
    refine setE ?_
    refine LaP.run (LaP.pickV (giv_var rfl) nc3 ec3 hd3 (LayI.digit (giv_var rfl) r.pot (giv_lenL (giv_var rfl) ec3) (by omega) (by rw [l25]; decide)) (fun d m => hS3.2 d m)) fun H6 v d r6 hv hS => ?_
    obtain ⟨u, rfl, lu⟩ := hS
    obtain rfl := dt_str hv
    have ec := r6.keep _ _ nc ec
    have r := r.trans r6
    clear r6 hv
    have hT : DtAll p H6 (W.map V.str) (W.map PyData.str) := DtAll.strs fun y m => by have := tot_mem m; omega
    obtain ⟨x, gx⟩ : ∃ x, W[i]? = some x := ⟨_, List.getElem?_eq_getElem i1⟩
    have lx := tot_mem (List.mem_of_getElem? gx)
    have gxV : (W.map V.str)[i]? = some (.str x) := by rw [List.getElem?_map, gx]; rfl
    have t1 := tot_cut W i
    have t2 := tot_drop1 W i
    have t3 : tot ((W.drop (i + 1)).take 1) + tot (W.drop (i + 2)) = tot (W.drop (i + 1)) := by
      have h := tot_cut (W.drop (i + 1)) 1
      rw [List.drop_drop] at h
      exact h
    have t4 : tot (W.drop i) = x.length + 1 + tot (W.drop (i + 1)) := by
      rw [← tot_cons]
      refine congrArg tot ?_
      rw [List.drop_eq_getElem_cons i1]
      have : W[i] = x := by rw [List.getElem?_eq_getElem i1] at gx; exact Option.some.inj gx
      rw [this]
    have tu := tot_cons u []
    have tx := tot_cons x []
    rw [tot_nil] at tu tx
    refine ifS (SayT.and (a := decide (way = 0)) (b := decide (((W.map V.str).length : Int) > 1)) ?_ ?_) (fun _ G s => ?_) (fun _ G s => ?_)
    · exact Say.tTest (say_eqI (giv_var rfl) giv_c)
    · exact fun _ G s => Say.tTest fun Q q => giv_lenL (giv_var rfl) (s _ _ ec) _ ⟨_, _, rfl, rfl, q _ (Same.refl _)⟩
    · have ec := s _ _ ec
      have hT := hT.same s
      have r := r.trans (Drawn.smw r.pot s)
      refine retE ?_
      suffices hL : LaPL (TxA (2 * n + 31)) _ p _ _ from LaPL.run hL fun G2 c2 xs ds r5 nc2 hl2 ec2 hd2 ⟨A, e, tA⟩ => by
        subst e
        obtain rfl := dt_strs hd2
        exact q G2 c2 A (r.trans r5) ec2 tA
      refine LaPL.upT (n := tot (W.take i) + tot (W.drop (i + 1))) ?_ (by omega)
      refine LaPL.catT (LaPL.toT (giv_var rfl) r.pot (by omega) ec hT (giv_var rfl)) (fun G2 r5 => ?_) (by omega)
      exact LaPL.fromT (k := i + 1) (giv_var rfl) r5.pot (by omega) (r5.keep _ _ nc ec) (hT.keep r5.keep) (giv_addN (j := 1) (giv_var rfl) giv_c)
    have ec := s _ _ ec
    have hT := hT.same s
    have r := r.trans (Drawn.smw r.pot s)
    clear s
    refine ifS (Say.tTest (say_eqI (giv_var rfl) giv_c)) (fun _ G s => ?_) (fun _ G s => ?_)
    · have ec := s _ _ ec
      have hT := hT.same s
      have r := r.trans (Drawn.smw r.pot s)
      refine retE ?_
      suffices hL : LaPL (TxA (2 * n + 31)) _ p _ _ from LaPL.run hL fun G2 c2 xs ds r5 nc2 hl2 ec2 hd2 ⟨A, e, tA⟩ => by
        subst e
        obtain rfl := dt_strs hd2
        exact q G2 c2 A (r.trans r5) ec2 tA
      refine LaPL.upT (n := tot (W.take i) + tot [u] + tot (W.drop i)) ?_ (by omega)
      refine LaPL.catT ?_ (fun G2 r5 => ?_) (by omega)
      · refine LaPL.catT (LaPL.toT (giv_var rfl) r.pot (by omega) ec hT (giv_var rfl)) (fun G2 r5 => ?_) (by omega)
        exact LaPL.oneT (giv_var rfl) r5.pot (by omega)
      · exact LaPL.fromT (giv_var rfl) r5.pot (by omega) (r5.keep _ _ nc ec) (hT.keep r5.keep) (giv_var rfl)
    have ec := s _ _ ec
    have hT := hT.same s
    have r := r.trans (Drawn.smw r.pot s)
    clear s
    refine ifS (Say.tTest (say_eqI (giv_var rfl) giv_c)) (fun _ G s => ?_) (fun _ G s => ?_)
    · have ec := s _ _ ec
      have hT := hT.same s
      have r := r.trans (Drawn.smw r.pot s)
      refine retE ?_
      suffices hL : LaPL (TxA (2 * n + 31)) _ p _ _ from LaPL.run hL fun G2 c2 xs ds r5 nc2 hl2 ec2 hd2 ⟨A, e, tA⟩ => by
        subst e
        obtain rfl := dt_strs hd2
        exact q G2 c2 A (r.trans r5) ec2 tA
      refine LaPL.upT (n := tot (W.take i) + tot [x] + tot (W.drop i)) ?_ (by omega)
      refine LaPL.catT ?_ (fun G2 r5 => ?_) (by omega)
      · refine LaPL.catT (LaPL.toT (giv_var rfl) r.pot (by omega) ec hT (giv_var rfl)) (fun G2 r5 => ?_) (by omega)
        exact LaPL.oneT (giv_ixW (k := i) (giv_var rfl) (giv_var rfl) (r5.keep _ _ nc ec) gxV) r5.pot (by omega)
      · exact LaPL.fromT (giv_var rfl) r5.pot (by omega) (r5.keep _ _ nc ec) (hT.keep r5.keep) (giv_var rfl)
    have ec := s _ _ ec
    have hT := hT.same s
    have r := r.trans (Drawn.smw r.pot s)
    clear s
    refine ifS (Say.tTest (say_eqI (giv_var rfl) giv_c)) (fun _ G s => ?_) (fun _ G s => ?_)
    · have ec := s _ _ ec
      have hT := hT.same s
      have r := r.trans (Drawn.smw r.pot s)
      clear s
      refine setE ?_
      refine LaPL.run (p := p) (T := TxA (tot ((W.drop (i + 1)).take (i + 2 - (i + 1))) + tot [x])) ?_ fun H7 c7 xs7 ds7 r7 nc7 l7 ec7 hd7 hS7 => ?_
      · refine LaPL.catT (LaPL.midT (giv_var rfl) r.pot (by omega) ec hT (giv_addN (j := 1) (giv_var rfl) giv_c) (giv_addN (j := 2) (giv_var rfl) giv_c)) (fun G2 r5 => ?_) (by rw [show i + 2 - (i + 1) = 1 by omega]; omega)
        exact LaPL.oneT (giv_ixW (k := i) (giv_var rfl) (giv_var rfl) (r5.keep _ _ nc ec) gxV) r5.pot (by omega)
      have ec := r7.keep _ _ nc ec
      have hT := hT.keep r7.keep
      have r := r.trans r7
      rw [show i + 2 - (i + 1) = 1 by omega] at hS7
      refine retE ?_
      suffices hL : LaPL (TxA (2 * n + 31)) _ p _ _ from LaPL.run hL fun G2 c2 xs ds r5 nc2 hl2 ec2 hd2 ⟨A, e, tA⟩ => by
        subst e
        obtain rfl := dt_strs hd2
        exact q G2 c2 A (r.trans r5) ec2 tA
      refine LaPL.upT (n := tot (W.take i) + (tot ((W.drop (i + 1)).take 1) + tot [x]) + tot (W.drop (i + 2))) ?_ (by omega)
      refine LaPL.catT ?_ (fun G2 r5 => ?_) (by omega)
      · refine LaPL.catT (LaPL.toT (giv_var rfl) r.pot (by omega) ec hT (giv_var rfl)) (fun G2 r5 => ?_) (by omega)
        exact LaPL.var (giv_var rfl) r5.pot nc7 l7 (r5.keep _ _ nc7 ec7) (hd7.keep r5.keep) hS7
      · exact LaPL.fromT (k := i + 2) (giv_var rfl) r5.pot (by omega) (r5.keep _ _ nc ec) (hT.keep r5.keep) (giv_addN (j := 2) (giv_var rfl) giv_c)
    have ec := s _ _ ec
    have hT := hT.same s
    have r := r.trans (Drawn.smw r.pot s)
    clear s
    refine retE ?_
    suffices hL : LaPL (TxA (2 * n + 31)) _ p _ _ from LaPL.run hL fun G2 c2 xs ds r5 nc2 hl2 ec2 hd2 ⟨A, e, tA⟩ => by
      subst e
      obtain rfl := dt_strs hd2
      exact q G2 c2 A (r.trans r5) ec2 tA
    refine LaPL.upT (n := tot (W.take i) + tot [u] + tot (W.drop (i + 1))) ?_ (by omega)
    refine LaPL.catT ?_ (fun G2 r5 => ?_) (by omega)
    · refine LaPL.catT (LaPL.toT (giv_var rfl) r.pot (by omega) ec hT (giv_var rfl)) (fun G2 r5 => ?_) (by omega)
      exact LaPL.oneT (giv_var rfl) r5.pot (by omega)
    · exact LaPL.fromT (k := i + 1) (giv_var rfl) r5.pot (by omega) (r5.keep _ _ nc ec) (hT.keep r5.keep) (giv_addN (j := 1) (giv_var rfl) giv_c)
end
end Gj

namespace Gj
open PySem PySem.Spec PyProof.Rows L2
open C8 (Cal pe_c pe_gc)
section
variable {P : Program} {w : World} {K : PySem.W.Frag} {mg : Str → Option Value} {base : Heap}
theorem sc__law_changed : FnScope ["_law_pot_here", "_law_text", "_law_way", "_law_at", "_law_sign"] ["_law_pot_here", "_law_text"] (defScope (topS 44)) := ⟨rfl, rfl, rfl, by decide +kernel, rfl, by decide +kernel, by decide +kernel⟩
theorem ok__law_changed (D : DefAt K mg "_law_changed" (topS 44)) (m : Mg mg) (c__law_digit : Cal P w K mg base 1 "_law_digit" spDigit []) (c__law_changed_words : Cal P w K mg base 2 "_law_changed_words" spChW []) : Cal P w K mg base 3 "_law_changed" spChg [] := by
  have sc := sc__law_changed
  refine mkCal D (fun _ _ _ _ _ _ us hl => match us, hl with | [_, _], _ => rfl) sc (fun vs H Q E h => ?_) (fun f cdv A outer s H vs Q E hr h => ?_)
  · obtain ⟨p, z, n, rfl, _⟩ := h
    rfl
  · obtain ⟨p, z, n, rfl, hp, lz, ln, q⟩ := h
    refine ⟨_, (pss_cons (ps_set (i := 2) sc.nd rfl (.inl rfl) (pe_c c__law_digit hr (by decide) (by rfl) (pa_cons (pv 0) (pa_cons pe_int pa_nil))))
  (pss_cons (ps_set (i := 3) sc.nd rfl (.inl rfl) (pe_c c__law_digit hr (by decide) (by rfl) (pa_cons (pv 0) (pa_cons (pe_op op_add (pe_callB call_len (by rfl) m.len (by decide +kernel) (pa_cons (pv 1) pa_nil)) pe_int) pa_nil))))
  (pss_cons (ps_set (i := 4) sc.nd rfl (.inl rfl) (pe_ix ix_str pe_str (pe_c c__law_digit hr (by decide) (by rfl) (pa_cons (pv 0) (pa_cons pe_int pa_nil))) (fun _ _ => rfl)))
  (pss_cons (ps_if (pt_cmpR op_eq (pv 2) pe_int (nomark _))
  (pss_one (ps_ret (pe_op op_add_str (pe_op op_add_str (pe_slice C8.sl_txt (pv 1) po_none (po_some (pv 3))) (pv 4)) (pe_slice C8.sl_txt (pv 1) (po_some (pv 3)) po_none))))
  pss_nil)
  (pss_cons (ps_if (pt_cmpR op_eq (pv 2) pe_int (nomark _))
  (pss_one (ps_ret (pe_op op_add_str (pe_slice C8.sl_txt (pv 1) po_none (po_some (pv 3))) (pe_slice C8.sl_txt (pv 1) (po_some (pe_op op_add (pv 3) pe_int)) po_none))))
  pss_nil)
  (pss_one (ps_ret (pe_join pe_str (pe_c c__law_changed_words hr (by decide) (by rfl) (pa_cons (pv 0) (pa_cons (pe_split (pv 1) pe_str) pa_nil))))))))))), ?_⟩
    have sz : sizeLine = 16777216 := sizeLine_eq
    refine setE ?_
    refine LayI.digit (giv_var rfl) hp giv_c (by decide) (by decide) _ fun H1 way r1 w0 w1 => ?_
    refine setE ?_
    refine LayI.digit (n := z.length + 1) (giv_var rfl) r1.pot (giv_addN (i := z.length) (j := 1) (giv_lenS (giv_var rfl) (by omega)) giv_c) (by omega) (Nat.lt_of_le_of_lt (Nat.log2_le_self _) (by omega)) _ fun H2 k r2 k0 k1 => ?_
    obtain ⟨k, rfl⟩ := Int.eq_ofNat_of_zero_le k0
    have r := r1.trans r2
    refine setE ?_
    refine LayI.digit (n := 9) (giv_var rfl) r.pot giv_c (by decide) (by decide) _ fun H3 o r3 o0 o1 => ?_
    obtain ⟨o, rfl⟩ := Int.eq_ofNat_of_zero_le o0
    have o2 : o < (" \n0aA-_\"!" : Str).cps.toList.length := by
      have e : (" \n0aA-_\"!" : Str).cps.toList.length = 9 := by decide +kernel
      omega
    have one : ∀ ch : Nat, Str.length ⟨#[ch]⟩ = 1 := fun _ => rfl
    refine ⟨_, _, _, rfl, rfl, (by show 9 ≤ sizeLine; decide), atI_nat (List.getElem?_eq_getElem o2), ?_⟩
    have r := r.trans r3
    clear r1 r2 r3
    have l1 := slice_len_to (z := z) (k := k)
    refine ifS (Say.tTest (say_eqI (giv_var rfl) giv_c)) (fun _ G s => ?_) (fun _ G s => ?_)
    · have r := r.trans (Drawn.smw r.pot s)
      have l2 := slice_len_from (z := z) (k := k)
      refine retE ?_
      refine ⟨_, rfl, _, rfl, _, rfl, z, rfl, by omega, ?_⟩
      refine ⟨_, rfl, _, _, rfl, rfl, (by rw [l1, one]; omega), ?_⟩
      refine ⟨_, rfl, _, rfl, _, rfl, z, rfl, by omega, _, _, rfl, rfl, (by rw [Str.length_append, l1, l2, one]; omega), ?_⟩
      exact q _ _ r (by rw [Str.length_append, Str.length_append, l1, l2, one]; omega)
    have r := r.trans (Drawn.smw r.pot s)
    clear s
    refine ifS (Say.tTest (say_eqI (giv_var rfl) giv_c)) (fun _ G s => ?_) (fun _ G s => ?_)
    · have r := r.trans (Drawn.smw r.pot s)
      have l2 : (Txt.slice z (some ((k : Int) + 1)) none).length = z.length - (k + 1) := slice_len_from (z := z) (k := k + 1)
      refine retE ?_
      refine ⟨_, rfl, _, rfl, _, rfl, z, rfl, by omega, ?_⟩
      refine ⟨_, rfl, _, rfl, _, _, rfl, rfl, _, rfl, z, rfl, by omega, _, _, rfl, rfl, (by rw [l1, l2]; omega), ?_⟩
      exact q _ _ r (by rw [Str.length_append, l1, l2]; omega)
    have r := r.trans (Drawn.smw r.pot s)
    clear s
    have tz := tot_split z
    have pos := split_pos z
    refine retE ⟨⟨_, rfl⟩, ?_⟩
    refine ⟨_, rfl, _, rfl, ⟨z, rfl⟩, z, " ", rfl, rfl, rfl, by omega, fun c nc => ?_⟩
    have r1 := r.trans (Drawn.smw r.pot (same_new (o := .lst ((Txt.split z " ").map V.str)) nc))
    refine ⟨p, c, Txt.split z " ", n + 1, rfl, r1.pot, r.pot.ne nc, upd_same, pos, by omega, by omega, fun G2 c2 A r5 e2 tA => ?_⟩
    exact ⟨" ", c2, A, rfl, rfl, .inl (SqL.of e2), join_fits (by omega), q G2 _ (r1.trans r5) (by have := join_tot A; omega)⟩
end
end Gj

namespace Gj
open PySem PySem.Spec PyProof.Rows L2
open C8 (Cal pe_c pe_gc)
theorem paired_snoc {α β : Type} {R : α → β → Prop} : ∀ {xs : List α} {zs : List β} {y : α} {z : β}, Paired R xs zs → R y z → Paired R (xs ++ [y]) (zs ++ [z])
  | _, _, _, _, .nil, h => .cons h .nil
  | _, _, _, _, .cons a b, h => .cons a (paired_snoc b h)
section
variable {K : PySem.W.Frag} {σ : L2.St} {H : Hp} {tt : TT} {tv : TE} {i : Nat} {c D : Addr} {W : List Str} {vs : List Nat} {Qd : Hp → Prop} {f : Str → Bool} {R : Hp → V → Str → Prop}
/-- [.. for x in texts if f x]: what is made of each stays where tuples stay -/
theorem lc_strF (stab : ∀ H H' x z, Ts H H' → R H x z → R H' x z) (ec : H c = some (.lst (W.map V.str))) (hD : H D = none) (hl : W.length ≤ 1000) (hw : ∀ v, wipe ((wipe σ vs).set i (some v)) vs = wipe σ vs)
    (ht : ∀ (z : Str) (H' : Hp), z ∈ W → Same H H' → ∀ Q : Bool → Hp → Prop, Q (f z) H' → tt ((wipe σ vs).set i (some (.str z))) H' Q)
    (hx : ∀ (z : Str) (H' : Hp), z ∈ W → f z = true → Same H H' → ∀ Q : VK, (∀ x H2, Same H' H2 → R H2 x z → Q x H2) → tv ((wipe σ vs).set i (some (.str z))) H' Q)
    (q : ∀ H' ys, Same H H' → H' D = some (.lst ys) → Paired (R H') ys (W.filter f) → Qd H') :
    ∃ Wd : Nat → Nat → Hp → Prop, (∃ m, Wd 0 m (upd H D (.lst []))) ∧ ∀ i' m G, Wd i' m G →
      ((Itl K c).stop i' G ∧ Qd G) ∨ ((Itl K c).go i' G ∧ ∃ Nx : Hp → Prop, (∀ H', Nx H' → ∃ m', m' < m ∧ Wd (i' + 1) m' H') ∧ ∀ x H', (Itl K c).yld i' G x H' → gName i x (wipe σ vs) H' fun σ2 H2 => wipe σ2 vs = wipe σ vs ∧ tt σ2 H2 fun b H3 =>
        if b = true then tv σ2 H3 fun y H4 => ∃ acc, H4 D = some (.lst acc) ∧ acc.length < sizeLine ∧ Nx (upd H4 D (.lst (acc ++ [y]))) else Nx H3) := by
  refine lc_list (K := K) (a := c) (xs := W.map V.str) (fun j H' => Same H H' ∧ ∃ ys, H' D = some (.lst ys) ∧ Paired (R H') ys ((W.take j).filter f)) ⟨same_new hD, [], upd_same, .nil⟩ (fun j H' _ hp => SqL.of (hp.1 _ _ ec)) (fun j x H1 hx1 hp => ?_) (fun H1 hp => ?_)
  · obtain ⟨sm, ys, eD, hy⟩ := hp
    rw [List.getElem?_map] at hx1
    cases ez : W[j]? with
    | none => rw [ez] at hx1; cases hx1
    | some z =>
    rw [ez] at hx1
    cases hx1
    have mz := List.mem_of_getElem? ez
    refine ⟨hw _, ht z H1 mz sm _ ?_⟩
    have tk := take_snoc ez
    cases ef : f z with
    | false =>
      rw [if_neg (by decide)]
      refine ⟨sm, ys, eD, ?_⟩
      rw [tk, List.filter_append, List.filter_cons_of_neg (by rw [ef]; decide), List.filter_nil, List.append_nil]
      exact hy
    | true =>
      rw [if_pos rfl]
      refine hx z H1 mz ef sm _ fun y H3 s3 hr => ⟨ys, s3 _ _ eD, ?_, fun b o h => ?_, _, upd_same, ?_⟩
      · rw [hy.length]
        have h1 : ((W.take j).filter f).length ≤ (W.take j).length := List.length_filter_le _ _
        rw [List.length_take] at h1
        exact small1000 (by omega)
      · rw [upd_ne (ne_of_none h hD)]
        exact s3 _ _ (sm _ _ h)
      · have ts2 : Ts H3 (upd H3 D (.lst (ys ++ [y]))) := fun b zs e => by
          rw [upd_ne (fun z => by rw [z, s3 _ _ eD] at e; cases e)]
          exact e
        have ts1 : Ts H1 (upd H3 D (.lst (ys ++ [y]))) := fun b zs e => ts2 _ _ (s3 _ _ e)
        rw [tk, List.filter_append, List.filter_cons_of_pos ef, List.filter_nil]
        exact paired_snoc (L2.Paired.mapP hy fun a b => stab _ _ a b ts1) (stab _ _ _ _ ts2 hr)
  · obtain ⟨sm, ys, eD, hy⟩ := hp
    rw [List.take_of_length_le (by rw [List.length_map]; exact Nat.le_refl _)] at hy
    exact q H1 ys sm eD hy
end
def isS (_ : Hp) (x : V) (z : Str) : Prop := x = .str z
theorem isS_eq {H : Hp} : ∀ {ys : List V} {zs : List Str}, Paired (isS H) ys zs → ys = zs.map V.str
  | _, _, .nil => rfl
  | _, _, .cons a b => by rw [isS_eq b, a]; rfl
def allF (y : Str) : Bool := (y.cps.toList.map fun c => decide (c ∈ sFigures.cps.toList)).all id
def farB (z : Str) : Bool := ((Txt.split z " ").filter fun y => decide ((y.length : Int) > 30)).any allF
def spFar : Sp := fun vs H Q _ => ∃ z : Str, vs = [.str z] ∧ z.length ≤ 900 ∧ ∀ H', Same H H' → Q (.bl (farB z)) H'
theorem far_num {z : Str} (h : farB z = false) : ∀ y ∈ Txt.split z " ", NumS y := fun y m hf => by
  refine Nat.not_lt.mp fun lt => ?_
  have e : farB z = true := by
    unfold farB
    refine List.any_eq_true.mpr ⟨y, List.mem_filter.mpr ⟨m, decide_eq_true (by omega)⟩, ?_⟩
    rw [figs_parts, Bool.and_eq_true] at hf
    exact hf.2
  rw [h] at e
  cases e
def scopeOf16 : Expr → Scope
  | .Call _ [.ListComp _ _ sc _] _ _ => sc
  | _ => default
def retOf16 : Stmt → Expr
  | .Return (some e) _ => e
  | _ => .Constant .none 0 ⟨0, 0, 0, 0⟩
def compS16 : Scope := scopeOf16 (retOf16 ((defBody (topS 45)).getD 1 (.Pass ⟨0, 0, 0, 0⟩)))
def isBl (_ : Hp) (x : V) (z : Str) : Prop := x = .bl (allF z)
theorem isBl_eq {H : Hp} : ∀ {ys : List V} {zs : List Str}, Paired (isBl H) ys zs → ys = (zs.map allF).map V.bl
  | _, _, .nil => rfl
  | _, _, .cons a b => by rw [isBl_eq b, a]; rfl
section
variable {P : Program} {w : World} {K : PySem.W.Frag} {mg : Str → Option Value} {base : Heap}
theorem sc__law_is_far : FnScope ["_law_text", "_law_some", "_law_word_here", "_law_sign"] ["_law_text"] (defScope (topS 45)) := ⟨rfl, rfl, rfl, by decide +kernel, rfl, by decide +kernel, by decide +kernel⟩
theorem ok__law_is_far (D : DefAt K mg "_law_is_far" (topS 45)) (m : Mg mg) : Cal P w K mg base 1 "_law_is_far" spFar [] := by
  have sc := sc__law_is_far
  refine mkCal D (fun _ _ _ _ _ _ us hl => match us, hl with | [_], _ => rfl) sc (fun vs H Q E h => ?_) (fun f cdv A outer s H vs Q E hr h => ?_)
  · obtain ⟨z, rfl, _⟩ := h
    rfl
  · obtain ⟨z, rfl, lz, q⟩ := h
    refine ⟨_, (pss_cons (ps_setLc (i := 1) (own := [("_law_word_here", 2)]) (g := gName 2) (tt := tTest (tOp (rI0 fun i j => .bl (decide (j < i))) (tCB (rLenX K) (tCons (tVar 2) tNil)) (tC (.int 30)))) rfl sc.nd rfl rfl (sw_true rfl rfl rfl (by decide +kernel)) (pi_list (pe_split (pv 0) pe_str)) (blkOk_by (N := ["_law_text", "_law_some", "_law_word_here", "_law_sign"]) (sc := defScope (topS 45)) (by decide +kernel)) (fun _ _ _ _ _ => (pg_name (i := 2) sc.nd rfl (.inl rfl))) (fun _ _ _ _ _ => (pts_one (pt_cmpR op_gt (pe_callB call_len (by rfl) m.len (by decide +kernel) (pa_cons (pv 2) pa_nil)) pe_int (nomark _)))) (fun _ _ _ _ _ => (pv 2)))
  (pss_one (ps_ret (pe_callB (cr_any rfl) (by rfl) m.any (by decide +kernel) (pa_cons (pe_lc (own := [("_law_word_here", 2)]) (g := gName 2) (tt := tYes) (te := tCB (rAll K) (tCons (tLc (iStr (tVar 2)) (gName 3) tYes (tOp rInX (tVar 3) (tC (.str "0123456789"))) [3]) tNil)) rfl sc.nd (pi_list (pv 1)) (blkOk_by (N := ["_law_text", "_law_some", "_law_word_here", "_law_sign"]) (sc := defScope (topS 45)) (by decide +kernel)) (fun _ _ _ _ _ => (pg_name (i := 2) sc.nd rfl (.inl rfl))) (fun _ _ _ _ _ => pts_nil) (fun _ _ _ _ _ => (pe_callB (cr_all rfl) (by rfl) m.all (by decide +kernel) (pa_cons (pe_lc (own := [("_law_sign", 3)]) (g := gName 3) (tt := tYes) (te := tOp rInX (tVar 3) (tC (.str "0123456789"))) rfl sc.nd (pi_str (pv 2)) (blkOk_by (N := ["_law_text", "_law_some", "_law_word_here", "_law_sign"]) (sc := compS16) (by decide +kernel)) (fun _ _ _ _ _ => (pg_name (i := 3) sc.nd rfl (.inl rfl))) (fun _ _ _ _ _ => pts_nil) (fun _ _ _ _ _ => (pe_cmpR op_in_sign (pv 3) pe_str rfl))) pa_nil)))) pa_nil))))), ?_⟩
    have tz := tot_split z
    refine setE ?_
    refine ⟨_, rfl, ⟨_, rfl⟩, _, _, rfl, rfl, rfl, (by rw [sizeLine_eq]; omega), fun c nc => ?_⟩
    have sm : Same H (upd H c (.lst ((Txt.split z " ").map V.str))) := same_new nc
    have ec : (upd H c (.lst ((Txt.split z " ").map V.str))) c = some (.lst ((Txt.split z " ").map V.str)) := upd_same
    generalize upd H c (.lst ((Txt.split z " ").map V.str)) = H1 at sm ec
    unfold farB at q
    generalize Txt.split z " " = W at tz q ec
    have lW : W.length ≤ tot W := Nat.le_add_left _ _
    have wl : ∀ y ∈ W, y.length ≤ 1000 := fun y m => by have := tot_mem m; omega
    refine ⟨c, rfl, ⟨_, SqL.of ec⟩, fun D1 n1 => ?_⟩
    refine lc_strF (K := K) (R := isS) (f := fun y => decide ((y.length : Int) > 30)) (W := W) (fun _ _ _ _ _ h => h) ec n1 (by omega) ?_ (fun y G my s3 Q' q' => ?_) (fun y G my fy s3 Q' q' => ?_) fun G1 ys s3 e1 hy => ?_
    · exact fun _ => rfl
    · exact ⟨_, rfl, .str y, y.length, rfl, ⟨Nat.le_of_lt (small1000 (wl y my)), rfl⟩, _, _, rfl, rfl, _, rfl, q'⟩
    · exact ⟨_, rfl, q' _ _ (Same.refl _) rfl⟩
    obtain rfl := isS_eq hy
    clear hy
    have sm := sm.trans s3
    have mW : ∀ y ∈ W.filter (fun y => decide ((y.length : Int) > 30)), y.length ≤ 1000 := fun y m => wl y (List.mem_filter.mp m).1
    have lF : (W.filter fun y => decide ((y.length : Int) > 30)).length ≤ W.length := List.length_filter_le _ _
    generalize (W.filter fun y => decide ((y.length : Int) > 30)) = F at q e1 mW lF
    refine retE ?_
    refine ⟨_, rfl, D1, rfl, ⟨_, SqL.of e1⟩, fun D2 n2 => ?_⟩
    refine lc_strF (K := K) (R := isBl) (f := fun _ => true) (W := F) (fun _ _ _ _ _ h => h) e1 n2 (by omega) ?_ (fun y G my s3 Q' q' => ?_) (fun y G my fy s3 Q' q' => ?_) fun G2 ys s4 e2 hy => ?_
    · exact fun _ => rfl
    · exact q'
    · exact say_all (mW y my) (fun _ => rfl) (fun _ => rfl) (fun _ _ => giv_c) (giv_var rfl) _ fun H2 s2 => q' _ _ s2 rfl
    have hy : Paired (isBl G2) ys F := by
      have e : F.filter (fun _ => true) = F := List.filter_eq_self.mpr fun _ _ => rfl
      rw [e] at hy
      exact hy
    obtain rfl := isBl_eq hy
    refine ⟨D2, _, rfl, SqL.of e2, ?_⟩
    rw [List.any_map]
    exact q _ (sm.trans s4)
end
end Gj

set_option maxHeartbeats 2000000
/-! own layer: isinstance of a caught exception that has no fields -/
namespace Gj
open PySem PySem.Spec PyProof.Rows L2
open C8 (Cal pe_c pe_gc)
def rIsN (K : PySem.W.Frag) (cls : Value) (d : Option Addr) (a : Addr) : List V → Hp → VK → Prop := fun xs H Q => ∃ (D : Addr) (c : V) (cv : Value) (b : Bool), xs = [.ref a, c] ∧ cls = .ref D ∧ d = none ∧ ExcC K D ∧ ClsV c cv ∧ PySem.W.kitOne K (.ref D) cv = some b ∧ Q (.bl b) H
theorem call_isN {X : Cx} {a : Addr} {cls : Value} {d : Option Addr} {oe : Obj} {pn : List (Addr × Obj)} (hz : Zc cls d oe) (hf : ∃ vs, oe.data = .fields vs) : CallR (X.suite a ((a, oe) :: pn)) (.builtin "isinstance") (rIsN X.K cls d a) := by
  intro pins s σ H xs us Q I r h
  obtain ⟨D, c, cv, b, rfl, rfl, rfl, T, hcv, e, q⟩ := h
  obtain ⟨u1, u2, rfl, r1, r2⟩ := vals2 r
  cases r1
  have ec := hcv.eq r2
  subst ec
  obtain ⟨got, _⟩ := I.pin (a, oe) (List.mem_append.mpr (.inl List.mem_cons_self))
  obtain ⟨vs, hv⟩ := hf
  have J : PySem.W.InstAt s.heap a oe D none := ⟨got, hz.1, by unfold PySem.W.notCls; rw [hv] <;> rfl, by rw [hz.2]; trivial⟩
  exact PySem.W.kia_one (kit_exn T) I.kIn J e (fun z => nomatch z) fun tk => ⟨.bl b, H, I.tok tk, rfl, q⟩
def rIsNT (K : PySem.W.Frag) (cls : Value) (d : Option Addr) (a : Addr) : List V → Hp → VK → Prop := fun xs H Q => ∃ (D tp : Addr) (cs : List V) (us : List Value) (b : Bool), xs = [.ref a, .ref tp] ∧ cls = .ref D ∧ d = none ∧ ExcC K D ∧ H tp = some (.tup cs) ∧ Paired ClsV cs us ∧ PySem.W.kitAny K (.ref D) us = some b ∧ Q (.bl b) H
theorem call_isNT {X : Cx} {a : Addr} {cls : Value} {d : Option Addr} {oe : Obj} {pn : List (Addr × Obj)} (hz : Zc cls d oe) (hf : ∃ vs, oe.data = .fields vs) : CallR (X.suite a ((a, oe) :: pn)) (.builtin "isinstance") (rIsNT X.K cls d a) := by
  intro pins s σ H xs us Q I r h
  obtain ⟨D, tp, cs, ws, b, rfl, rfl, rfl, T, hT, k, e, q⟩ := h
  obtain ⟨u1, u2, rfl, r1, r2⟩ := vals2 r
  cases r1
  cases (show u2 = Value.ref tp from r2)
  obtain ⟨got, _⟩ := I.pin (a, oe) (List.mem_append.mpr (.inl List.mem_cons_self))
  obtain ⟨vs, hv⟩ := hf
  have J : PySem.W.InstAt s.heap a oe D none := ⟨got, hz.1, by unfold PySem.W.notCls; rw [hv] <;> rfl, by rw [hz.2]; trivial⟩
  obtain ⟨_, its, rv, o, h1, h2, n, h3⟩ := (show ObjOk X.prog X.w H s.heap tp (.tup cs) from I.hok tp _ hT)
  have e3 := ClsV.all k rv
  subst e3
  obtain ⟨oc, od2, dt, sl⟩ := o
  simp only at h2 h3
  subst h2 h3
  exact PySem.W.kia_tup (kit_exn T) I.kIn J h1 e (fun z => nomatch z) fun tk => ⟨.bl b, H, I.tok tk, rfl, q⟩
section
variable {σ : L2.St} {H : Hp} {te tc tb : TE} {b : Bool} {K : PySem.W.Frag} {a D : Addr} {c c1 c2 : V} {cv v1 v2 : Value}
theorem say_isN (hv : Giv te σ H (.ref a)) (hc : Giv tc σ H c) (hcv : ClsV c cv) (T : ExcC K D) (e : PySem.W.kitOne K (.ref D) cv = some b) : Say (tCB (rIsN K (.ref D) none a) (tCons te (tCons tc tNil))) σ H b := fun Q q => hv _ (hc _ ⟨D, c, cv, b, rfl, rfl, rfl, T, hcv, e, q H (Same.refl H)⟩)
theorem say_isNT (hv : Giv te σ H (.ref a)) (h1 : Giv tc σ H c1) (h2 : Giv tb σ H c2) (k1 : ClsV c1 v1) (k2 : ClsV c2 v2) (T : ExcC K D) (e : PySem.W.kitAny K (.ref D) [v1, v2] = some b) : Say (tCB (rIsNT K (.ref D) none a) (tCons te (tCons (tTup (tCons tc (tCons tb tNil))) tNil))) σ H b := fun Q q => hv _ (h1 _ (h2 _ ⟨(by show 2 ≤ sizeLine; decide), fun tp ntp => ⟨D, tp, _, _, b, rfl, rfl, rfl, T, upd_same, .cons k1 (.cons k2 .nil), e, q _ (same_new ntp)⟩⟩))
end
end Gj

namespace Gj
open PySem PySem.Spec PyProof.Rows L2
open C8 (Cal pe_c pe_gc)
structure Fx16 (K : PySem.W.Frag) (mg : Str → Option Value) : Prop where
  gW : mg "WalkError" = some (.ref (He.ga K "WalkError"))
  gR : mg "NoRow" = some (.ref (He.ga K "NoRow"))
  gO : mg "NoWord" = some (.ref (He.ga K "NoWord"))
  exc : ExcC K (He.ga K "NoThing")
  exm : PySem.W.exmOne K (.ref (He.ga K "NoThing")) (.ref (He.ga K "NoThing")) = some true
  k1 : PySem.W.kitOne K (.ref (He.ga K "NoThing")) (.ref (He.ga K "WalkError")) = some true
  k2 : PySem.W.kitOne K (.ref (He.ga K "NoThing")) (.type "ValueError") = some true
  k3 : PySem.W.kitAny K (.ref (He.ga K "NoThing")) [.ref (He.ga K "NoRow"), .ref (He.ga K "NoWord")] = some false
def spTold16 : Sp := fun vs H Q _ => ∃ (p : Addr) (v : V) (d : PyData), vs = [v] ∧ Dt p H v d ∧ H p ≠ none ∧ (∀ z, d = .str z → z.length ≤ 900) ∧ (∀ e, thingZ d = some e → ∀ H' t, Same H H' → Dt p H' t (.tuple [.str "thing", e]) → Q t H') ∧ (thingZ d = none → ∀ H' t, Same H H' → Dt p H' t (.tuple [.str "refused", .bool true]) → Q t H')
section
variable {P : Program} {w : World} {K : PySem.W.Frag} {mg : Str → Option Value} {base : Heap}
theorem sc__law_told : FnScope ["_law_text", "_law_told_here", "e", "_law_good"] ["_law_text"] (defScope (topS 46)) := ⟨rfl, rfl, rfl, by decide +kernel, rfl, by decide +kernel, by decide +kernel⟩
theorem ok__law_told (D : DefAt K mg "_law_told" (topS 46)) (m : Mg mg) (n_x : Nx16 K mg) (fx : Fx16 K mg) (x_thing_of : CalX P w K mg base 7 "thing_of" (spThingX (He.ga K "NoThing"))) : Cal P w K mg base 8 "_law_told" spTold16 [] := by
  have sc := sc__law_told
  refine mkCal D (fun _ _ _ _ _ _ us hl => match us, hl with | [_], _ => rfl) sc (fun vs H Q E h => ?_) (fun f cdv A outer s H vs Q E hr h => ?_)
  · obtain ⟨p, v, d, rfl, _⟩ := h
    rfl
  · obtain ⟨p, v, d, rfl, hd, hp, hz, q0, q1⟩ := h
    refine ⟨_, (pss_cons (ps_set (i := 1) sc.nd rfl (.inl rfl) pe_non)
  (C8.pss_cut (by refine ps_try_as (i := 2) (tb := fun W => tAsg (tTup (tCons (tC (.str "thing")) (tCons (tCallS (spThingX (He.ga K "NoThing")) (WE W) (tCons (tVar 0) tNil)) tNil))) (gName 1)) rfl rfl sc.nd rfl rfl ⟨by rfl, by decide, .inl n_x.g⟩ takes0 (fun W pn xe tk po => ?_) (fun a oe cls d pn hz hf => (pss_cons (ps_set (i := 3) sc.nd rfl (.inl rfl) (pe_and (pe_callB (call_isN hz hf) (by rfl) m.isinstance (by decide +kernel) (pa_cons (pv 2) (pa_cons (pe_glob (v := .ref (He.ga K "WalkError")) (by rfl) fx.gW rfl) pa_nil))) (pe_one (pe_callB (call_isN hz hf) (by rfl) m.isinstance (by decide +kernel) (pa_cons (pv 2) (pa_cons (pe_bltn (v := .ty "ValueError") (by rfl) m.ValueError (by decide +kernel) rfl) pa_nil))))))   (pss_cons (ps_set (i := 3) sc.nd rfl (.inl rfl) (pe_and (pv 3) (pe_one (pe_not (pe_callB (call_isNT hz hf) (by rfl) m.isinstance (by decide +kernel) (pa_cons (pv 2) (pa_cons (pe_tup (pa_cons (pe_glob (v := .ref (He.ga K "NoRow")) (by rfl) fx.gR rfl) (pa_cons (pe_glob (v := .ref (He.ga K "NoWord")) (by rfl) fx.gO rfl) pa_nil))) pa_nil)))))))   (pss_one (ps_set (i := 1) sc.nd rfl (.inl rfl) (pe_tup (pa_cons pe_str (pa_cons (pv 3) pa_nil)))))))); (exact (pss_one (ps_set (i := 1) sc.nd rfl (.inl rfl) (pe_tup (pa_cons pe_str (pa_cons (pe_cX x_thing_of hr (by decide) (by rfl) (fun σ => passAt tk σ) (pa_cons (pv 0) pa_nil)) pa_nil)))))))
  (pss_one (ps_ret (pv 1))))), ?_⟩
    refine setE ?_
    (try dsimp only)
    refine ⟨fun σ' H' => ∃ y2 y3 t, σ' = [some v, some t, y2, y3] ∧ Q t H', ?_, fun σ' H' h => ?_⟩
    · skip
      refine ⟨_, rfl, p, v, d, rfl, hd, hp, hz, fun e he H1 u s1 hu => ?_, fun hn H1 s1 => ?_⟩
      · refine ⟨(by show 2 ≤ sizeLine; decide), fun t nt => ?_⟩
        have st := same_new (o := .tup [.str "thing", u]) nt
        exact ⟨_, _, .ref t, rfl, q0 e he _ _ (s1.trans st) (.tup (ne_p hp s1 nt) (by show 2 ≤ 1000; decide) upd_same (.cons (.str _ (by decide)) (.cons (hu.same st) .nil)))⟩
      · refine ⟨true, fx.exm, fun _ ea na => ?_, fun w => absurd w (by decide)⟩
        refine setB (b := true && true) (Say.and (say_isN (giv_var rfl) giv_c (.own _) fx.exc fx.k1) fun _ G1 t1 => say_isN (giv_var rfl) giv_c (.ty _) fx.exc fx.k2) fun G t0 => ?_
        refine setB (b := true && !false) (Say.and (say_var rfl) fun _ G1 t1 => Say.not (say_isNT (giv_var rfl) giv_c giv_c (.own _) (.own _) fx.exc fx.k3)) fun G2 t2 => ?_
        refine ⟨_, rfl, (by show 2 ≤ sizeLine; decide), fun t nt => ?_⟩
        have sm := (s1.trans t0).trans t2
        exact ⟨_, _, .ref t, rfl, q1 hn _ _ (sm.trans (same_new nt)) (.tup (ne_p hp sm nt) (by show 2 ≤ 1000; decide) upd_same (.cons (.str _ (by decide)) (.cons (.bl _) .nil)))⟩
    · obtain ⟨y2, y3, t, rfl, h⟩ := h
      exact ⟨_, rfl, h⟩
end
end Gj

/-! own layer: repr of any thing, a dict of one pair, too -/
namespace Gj
open PySem PySem.Spec PyProof.Rows L2
/-- a thing whose repr is told in one piece -/
structure ShowA (d : PyData) : Prop where
  show1 : d.showable = true
  top : d.hasDict = true → d = .dict [] ∨ ∃ k i, d = .dict [(.str k, .int i)]
  deep : d.depth ≤ 8
  size : d.shown.length ≤ sizeLine
theorem dt_reads {X : Cx} {pins : List (Addr × Obj)} {σ : L2.St} {H : Hp} {s : Shared} {p a : Addr} {d : PyData} (I : Inv X pins σ H s) (hd : Dt p H (.ref a) d) (hs : d.hasDict = true → d = .dict [] ∨ ∃ k i, d = .dict [(.str k, .int i)]) : ∃ as, Reads s.heap (.ref a) d as ∧ (d.hasDict = true → sysModules ∉ as) := by
  cases hd with
  | @lst a xs ds n z e h =>
    have nd : (PyData.list ds).hasDict = false := by
      cases c : (PyData.list ds).hasDict with
      | false => rfl
      | true => rcases hs c with h | ⟨_, _, h⟩ <;> cases h
    obtain ⟨as, rd⟩ := Dp.reads I _ _ _ (Dt.dp (K := X.K) (.lst n z e h) nd) rfl
    exact ⟨as, rd, fun c => by rw [nd] at c; cases c⟩
  | @tup a xs ds n z e h =>
    have nd : (PyData.tuple ds).hasDict = false := by
      cases c : (PyData.tuple ds).hasDict with
      | false => rfl
      | true => rcases hs c with h | ⟨_, _, h⟩ <;> cases h
    obtain ⟨as, rd⟩ := Dp.reads I _ _ _ (Dt.dp (K := X.K) (.tup n z e h) nd) rfl
    exact ⟨as, rd, fun c => by rw [nd] at c; cases c⟩
  | dic n e =>
    obtain ⟨_, hsy, vs, kv, o, es, ep, h1, h2, h3, _, h4, _⟩ := (show ObjOk X.prog X.w H s.heap a (.dK []) from I.hok a _ e)
    cases kv
    have e0 : es.toList = [] := by
      generalize es.toList = l at h4
      cases h4
      rfl
    refine ⟨_, .dict (kvs := []) h1 h2.1 h3 (by rw [e0]; exact .nil) (by rw [e0]; exact .nil), fun _ m => ?_⟩
    have m : sysModules = a := by simpa using m
    rw [← m] at hsy
    simp at hsy
  | @dic1 a k i n z e =>
    obtain ⟨_, hsy, vs, kv, o, es, ep, h1, h2, h3, _, h4, _⟩ := (show ObjOk X.prog X.w H s.heap a (.dK [(.inr k, .int i)]) from I.hok a _ e)
    cases kv with
    | @cons p q l1 l2 r1 r2 =>
    cases r2
    obtain ⟨q1, q2⟩ := q
    obtain ⟨r1, r3⟩ := r1
    obtain rfl : Sum.inr k = q1 := r1
    obtain ⟨t, rfl⟩ : ∃ t, q2 = .int i t := r3
    obtain ⟨en, e0, e1, e2⟩ : ∃ en : DictEntry, es.toList = [en] ∧ (∃ t, en.key = .str k t) ∧ en.val = .int i t := by
      generalize es.toList = l at h4
      cases h4 with
      | cons hk hv hr =>
        rename_i en es2
        cases hr
        rcases keyIs_shape (k := .inr k) (v := en.key) hk with ⟨j, u, x, y⟩ | ⟨y, u, x, z⟩
        · cases x
        · cases x
          exact ⟨en, rfl, ⟨u, z⟩, hv⟩
    obtain ⟨t1, e1⟩ := e1
    refine ⟨_, .dict (kvs := [(.str k, .int i)]) h1 h2.1 h3 (as := [] ++ []) (bs := [] ++ []) (by rw [e0]; show ReadsAll _ [en.key] [.str k] _; rw [e1]; exact .cons (.str _ _) .nil) (by rw [e0]; show ReadsAll _ [en.val] [.int i] _; rw [e2]; exact .cons (.int _ _) .nil), fun _ m => ?_⟩
    have m : sysModules = a := by simpa using m
    rw [← m] at hsy
    simp at hsy
def rReprT : List V → Hp → VK → Prop := fun xs H Q => ∃ (p : Addr) (v : V) (d : PyData), xs = [v] ∧ Dt p H v d ∧ ShowA d ∧ Q (.str d.shown) H
theorem call_reprT {X : Cx} (hg : X.A.guards = some []) (hu : X.A.units + 64 < cLine) : CallR X (.builtin "repr") rReprT := by
  intro pins s σ H xs us Q I r h
  obtain ⟨p, v, d, rfl, hd, hs, q⟩ := h
  obtain ⟨u, rfl, e⟩ := vals1 r
  have ref : ∀ a, v = .ref a → wpAny (model X.prog X.w) X.A (call (.builtin "repr") [u]) (EP X pins σ Q) X.xe s := fun a ea => by
    subst ea
    cases e
    obtain ⟨as, rd, ns⟩ := dt_reads I hd hs.top
    exact repr_of_reads' rd hs.show1 ns hg (by have := hs.deep; omega) (fun _ _ e => e) (fun h' u tk k => ⟨.str _, H, I.kept k, ⟨_, rfl⟩, q⟩) hs.size
  cases hd with
  | non => cases e; exact PySem.P.repr_of_none ⟨.str _, H, I.tok _, ⟨_, rfl⟩, q⟩
  | bl b => cases e; exact PySem.P.repr_of_bool (by cases b <;> exact ⟨.str _, H, I.tok _, ⟨_, rfl⟩, q⟩)
  | int i =>
    obtain ⟨t, rfl⟩ := e
    have hl : i.natAbs.log2 < 1920 := by
      have := hs.show1
      simp only [PyData.showable] at this
      exact of_decide_eq_true this
    exact PySem.P.repr_of_int hl ⟨.str _, H, I.tok _, ⟨_, rfl⟩, q⟩
  | str x z =>
    obtain ⟨t, rfl⟩ := e
    exact PySem.P.repr_of_str ⟨.str _, H, I.tok _, ⟨_, rfl⟩, q⟩ hs.size
  | lst => exact ref _ rfl
  | tup => exact ref _ rfl
  | dic => exact ref _ rfl
  | dic1 => exact ref _ rfl
end Gj

/-! own layer: repr of a tuple of any things, dicts within, too -/
namespace Gj
open PySem PySem.Spec PyProof.Rows L2
section
variable {X : Cx} {pins : List (Addr × Obj)} {σ : L2.St} {H : Hp} {s : Shared} {p : Addr}
mutual
theorem dt_repr (I : Inv X pins σ H s) : ∀ {v : V} {d : PyData} {u : Value}, Dt p H v d → RelV v u → d.showable = true → d.shown.length ≤ sizeLine → (∃ as, Reads s.heap u d as) ∧ ∃ bs, ReadAtMost s.heap d.depth bs ∧ ReprK X.prog X.w bs s.heap d.depth u d.shown
  | _, _, _, .non, r, hs, hz => by
    cases r
    exact ⟨⟨_, .none⟩, ReprK.of_reads .none hs (fun z => by cases z) hz⟩
  | _, _, _, .bl b, r, hs, hz => by
    cases r
    exact ⟨⟨_, .bool b⟩, ReprK.of_reads (.bool b) hs (fun z => by cases z) hz⟩
  | _, _, _, .int i, r, hs, hz => by
    obtain ⟨t, rfl⟩ := r
    exact ⟨⟨_, .int i t⟩, ReprK.of_reads (.int i t) hs (fun z => by cases z) hz⟩
  | _, _, _, .str x _, r, hs, hz => by
    obtain ⟨t, rfl⟩ := r
    exact ⟨⟨_, .str x t⟩, ReprK.of_reads (.str x t) hs (fun z => by cases z) hz⟩
  | _, _, _, .dic n e, r, hs, hz => by
    cases r
    obtain ⟨as, rd, ns⟩ := dt_reads I (Dt.dic (p := p) n e) fun _ => .inl rfl
    exact ⟨⟨_, rd⟩, ReprK.of_reads rd hs ns hz⟩
  | _, _, _, .dic1 (k := k) (i := i) n z e, r, hs, hz => by
    cases r
    obtain ⟨as, rd, ns⟩ := dt_reads I (Dt.dic1 (p := p) n z e) fun _ => .inr ⟨_, _, rfl⟩
    exact ⟨⟨_, rd⟩, ReprK.of_reads rd hs ns hz⟩
  | _, _, _, .lst (a := a) (ds := ds) n z e h, r, hs, hz => by
    cases r
    have hz' : (listText (PyData.shownAll ds)).length ≤ sizeLine := by simpa only [PyData.shown] using hz
    obtain ⟨its, rv, ⟨o, m, h1, h2, _, h3⟩, _⟩ := I.list (SqL.of e)
    obtain ⟨⟨as, h4⟩, bs, hb, hk⟩ := dt_reprA I h rv (by simpa [PyData.showable] using hs) (fun t ht => Nat.le_trans (listText_mem_le ht) hz')
    have r : Reads s.heap (.ref a) (.list ds) _ := .list h1 h2 h3 h4
    have hna : a ∉ bs := not_mem_of_deeper r (by simp only [PyData.depth]; omega) hb
    refine ⟨⟨_, r⟩, a :: bs, ReadAtMost.cons r (by simp only [PyData.depth]; omega) hb, ?_⟩
    simp only [PyData.depth, PyData.shown]
    cases its with
    | nil =>
      cases h4
      simp only [PyData.shownAll, listText_nil]
      exact ReprK.listEmpty h1 h2 h3
    | cons x l => exact ReprK.list h1 h2 h3 hna (by simpa using hk.length_eq) (fun i y e => hk.item i y (by simpa using e))
  | _, _, _, .tup (a := a) (ds := ds) n z e h, r, hs, hz => by
    cases r
    have hz' : (tupleText (PyData.shownAll ds)).length ≤ sizeLine := by simpa only [PyData.shown] using hz
    obtain ⟨its, rv, ⟨o, h1, h2, m, h3⟩, _⟩ := I.tuple (SqT.of e)
    obtain ⟨⟨as, h4⟩, bs, hb, hk⟩ := dt_reprA I h rv (by simpa [PyData.showable] using hs) (fun t ht => Nat.le_trans (tupleText_mem_le ht) hz')
    have r : Reads s.heap (.ref a) (.tuple ds) _ := .tuple h1 h2 h3 h4
    have hna : a ∉ bs := not_mem_of_deeper r (by simp only [PyData.depth]; omega) hb
    refine ⟨⟨_, r⟩, a :: bs, ReadAtMost.cons r (by simp only [PyData.depth]; omega) hb, ?_⟩
    simp only [PyData.depth, PyData.shown]
    exact ReprK.tuple h1 h2 h3 hna hk
theorem dt_reprA (I : Inv X pins σ H s) : ∀ {vs : List V} {ds : List PyData} {us : List Value}, DtAll p H vs ds → Vals vs us → PyData.showableAll ds = true → (∀ t ∈ PyData.shownAll ds, t.length ≤ sizeLine) →
    (∃ as, ReadsAll s.heap us ds as) ∧ ∃ bs, ReadAtMost s.heap (PyData.depthAll ds) bs ∧ ReprAllK X.prog X.w bs s.heap (PyData.depthAll ds) us (PyData.shownAll ds)
  | _, _, _, .nil, r, _, _ => by
    cases r
    exact ⟨⟨_, .nil⟩, [], (fun _ h => nomatch h), by simp only [PyData.shownAll]; exact .nil⟩
  | _, _, _, .cons (d := d) (ds := ds) h hl, r, hs, hz => by
    cases r with
    | cons r1 r2 =>
    have hs' : d.showable = true ∧ PyData.showableAll ds = true := by simpa [PyData.showableAll] using hs
    obtain ⟨⟨as1, q1⟩, b1, hb1, k1⟩ := dt_repr I h r1 hs'.1 (hz _ (by simp only [PyData.shownAll]; exact List.mem_cons_self ..))
    obtain ⟨⟨as2, q2⟩, b2, hb2, k2⟩ := dt_reprA I hl r2 hs'.2 (fun t ht => hz t (by simp only [PyData.shownAll]; exact List.mem_cons_of_mem _ ht))
    refine ⟨⟨_, .cons q1 q2⟩, b1 ++ b2, ?_, ?_⟩
    · intro b hm
      simp only [PyData.depthAll]
      rcases List.mem_append.mp hm with hm | hm
      · obtain ⟨d', as', r', hd'⟩ := hb1 b hm
        exact ⟨d', as', r', Nat.le_trans hd' (Nat.le_max_left _ _)⟩
      · obtain ⟨d', as', r', hd'⟩ := hb2 b hm
        exact ⟨d', as', r', Nat.le_trans hd' (Nat.le_max_right _ _)⟩
    · simp only [PyData.depthAll, PyData.shownAll]
      exact .cons ((k1.more fun b hb => List.mem_append_left _ hb).level_le (Nat.le_max_left _ _)) (k2.more_le (fun b hb => List.mem_append_right _ hb) (Nat.le_max_right _ _))
end
end
def rReprZ : List V → Hp → VK → Prop := fun xs H Q => ∃ (p a : Addr) (vs : List V) (ds : List PyData), xs = [.ref a] ∧ H a = some (.tup vs) ∧ DtAll p H vs ds ∧ ShowsT (.tuple ds) ∧ Q (.str (PyData.tuple ds).shown) H
theorem call_reprZ {X : Cx} (hg : X.A.guards = some []) (hu : X.A.units + 64 < cLine) : CallR X (.builtin "repr") rReprZ := by
  intro pins s σ H xs us Q I r h
  obtain ⟨p, a, vs, ds, rfl, ea, hd, hs, q⟩ := h
  obtain ⟨u, rfl, e⟩ := vals1 r
  cases e
  have hz' : (tupleText (PyData.shownAll ds)).length ≤ sizeLine := by simpa only [PyData.shown] using hs.size
  obtain ⟨its, rv, ⟨o, h1, h2, m, h3⟩, _⟩ := I.tuple (SqT.of ea)
  obtain ⟨⟨as, h4⟩, bs, hb, hk⟩ := dt_reprA I hd rv (by simpa [PyData.showable] using hs.show1) (fun t ht => Nat.le_trans (tupleText_mem_le ht) hz')
  have hna : a ∉ bs := not_mem_of_deeper (.tuple h1 h2 h3 h4) (by simp only [PyData.depth]; omega) hb
  have dp := hs.deep
  have S : ShowsBy X.prog X.w s.heap a (.tuple ds) "tuple" "tuple.__repr__" := by
    refine ⟨F.slot_tuple_repr, F.slot_tuple_str, F.slot_tuple_format, fun s k => ⟨o, k _ _ h1, h2⟩, fun A E s Q hg hu k hQ => ?_⟩
    simp only [PyData.depth] at hu
    simp only [PyData.shown] at hQ
    exact call_tuple_reprK h1 h2 h3 hna hk hg (fun b _ => Clear.nil b) hu k hQ hz'
  exact call_repr_slot (by omega) (S.typeIs s (fun _ _ e => e)) S.slotRepr (S.call X.A.in1 X.xe s _ hg (by show X.A.units + 1 + _ < cLine; omega) (fun _ _ e => e) fun h' u tk k => ⟨_, _, rfl, ⟨.str _, H, I.kept k, ⟨_, rfl⟩, q⟩⟩)
end Gj

/-! own layer: repr of any datum -/
namespace Gj
open PySem PySem.Spec PyProof.Rows L2
def rReprAny : List V → Hp → VK → Prop := fun xs H Q => ∃ (p : Addr) (v : V) (d : PyData), xs = [v] ∧ Dt p H v d ∧ ShowsT d ∧ Q (.str d.shown) H
theorem call_reprAny {X : Cx} (hg : X.A.guards = some []) (hu : X.A.units + 64 < cLine) : CallR X (.builtin "repr") rReprAny := by
  intro pins s σ H xs us Q I r h
  obtain ⟨p, v, d, rfl, hd, hs, q⟩ := h
  have flat : (d.hasDict = true → d = .dict [] ∨ ∃ k i, d = .dict [(.str k, .int i)]) → wpAny (model X.prog X.w) X.A (call (.builtin "repr") us) (EP X pins σ Q) X.xe s := fun nod => call_reprT hg hu pins s σ H _ us Q I r ⟨p, v, d, rfl, hd, ⟨hs.show1, nod, hs.deep, hs.size⟩, q⟩
  cases hd with
  | non => exact flat (fun z => by cases z)
  | bl b => exact flat (fun z => by cases z)
  | int i => exact flat (fun z => by cases z)
  | str x h => exact flat (fun z => by cases z)
  | tup n l e h => exact call_reprZ hg hu pins s σ H _ us Q I r ⟨p, _, _, _, rfl, e, h, hs, q⟩
  | dic n e => exact flat fun _ => .inl rfl
  | dic1 n z e => exact flat fun _ => .inr ⟨_, _, rfl⟩
  | @lst a vs ds n l ea h =>
    cases hne : vs with
    | nil =>
      subst hne
      cases h
      exact flat (fun z => absurd z (by decide +kernel))
    | cons v0 vs0 =>
    obtain ⟨u, rfl, rel⟩ := vals1 r
    cases rel
    have hz' : (listText (PyData.shownAll ds)).length ≤ sizeLine := by simpa only [PyData.shown] using hs.size
    obtain ⟨its, rv, ⟨o, m, h1, h2, _, h3⟩, _⟩ := I.list (SqL.of ea)
    obtain ⟨⟨as, h4⟩, bs, hb, hk⟩ := dt_reprA I h rv (by simpa [PyData.showable] using hs.show1) (fun t ht => Nat.le_trans (listText_mem_le ht) hz')
    have hna : a ∉ bs := not_mem_of_deeper (.list h1 h2 h3 h4) (by simp only [PyData.depth]; omega) hb
    have dp := hs.deep
    subst hne
    cases rv with
    | cons r1 r2 =>
    have S : ShowsBy X.prog X.w s.heap a (.list ds) "list" "list.__repr__" := by
      refine ⟨F.slot_list_repr.toG, F.slot_list_str, F.slot_list_format, fun s k => ⟨o, k _ _ h1, h2⟩, fun A E s Q hg hu k hQ => ?_⟩
      simp only [PyData.depth] at hu
      simp only [PyData.shown] at hQ
      exact call_list_reprK h1 h2 h3 hna (by simpa using hk.length_eq) (fun i y e => hk.item i y (by simpa using e)) hg (fun b _ => Clear.nil b) hu k hQ hz'
    exact call_repr_slot (by omega) (S.typeIs s (fun _ _ e => e)) S.slotRepr (S.call X.A.in1 X.xe s _ hg (by show X.A.units + 1 + _ < cLine; omega) (fun _ _ e => e) fun h' u tk k => ⟨_, _, rfl, ⟨.str _, H, I.kept k, ⟨_, rfl⟩, q⟩⟩)
end Gj

namespace Gj
open PySem PySem.Spec PyProof.Rows L2
open C8 (Cal pe_c pe_gc)
/-- of that depth at most, that long at most -/
def Z (D B : Nat) (d : PyData) : Prop := d.showable = true ∧ d.depth ≤ D ∧ d.shown.length ≤ B
theorem Z.mono {D B D2 B2 : Nat} {d : PyData} (h : Z D B d) (h1 : D ≤ D2) (h2 : B ≤ B2) : Z D2 B2 d := ⟨h.1, Nat.le_trans h.2.1 h1, Nat.le_trans h.2.2 h2⟩
/-- a text of few plain signs -/
def Pl (n : Nat) (z : Str) : Prop := z.length ≤ n ∧ ∀ c ∈ z.cps.toList, c < 128
theorem Z.str {z : Str} (h : Pl 18 z) : Z 1 200 (.str z) := by
  refine ⟨by simp [PyData.showable], by simp [PyData.depth], ?_⟩
  have := str_small (z := z) (B := 18) (fun c hc => Nat.lt_of_lt_of_le (h.2 c hc) (by decide)) h.1
  omega
theorem pl_lit {z : Str} (h : (decide (z.length ≤ 18) && z.cps.toList.all fun c => decide (c < 128)) = true) : Pl 18 z := by
  rw [Bool.and_eq_true] at h
  exact ⟨of_decide_eq_true h.1, fun c hc => of_decide_eq_true (List.all_eq_true.mp h.2 c hc)⟩
theorem zshowA {ds : List PyData} (h : ∀ d ∈ ds, d.showable = true) : PyData.showableAll ds = true := by
  induction ds with
  | nil => rfl
  | cons d l ih => simp [PyData.showableAll, h d List.mem_cons_self, ih fun x hx => h x (List.mem_cons_of_mem _ hx)]
theorem zdepthA {D : Nat} {ds : List PyData} (h : ∀ d ∈ ds, d.depth ≤ D) : PyData.depthAll ds ≤ D := by
  induction ds with
  | nil => simp [PyData.depthAll]
  | cons d l ih =>
    simp only [PyData.depthAll]
    exact Nat.max_le.mpr ⟨h d List.mem_cons_self, ih fun x hx => h x (List.mem_cons_of_mem _ hx)⟩
theorem Z.tuple {D B n : Nat} {ds : List PyData} (h : ∀ d ∈ ds, Z D B d) (hn : ds.length ≤ n) : Z (D + 1) (n * (B + 2) + 3) (.tuple ds) := by
  refine ⟨by simpa [PyData.showable] using zshowA fun d hd => (h d hd).1, ?_, Nat.le_trans (tup_small fun d hd => (h d hd).2.2) ?_⟩
  · simp only [PyData.depth]
    have := zdepthA (D := D) fun d hd => (h d hd).2.1
    omega
  · have := Nat.mul_le_mul_right (B + 2) hn
    omega
theorem txt_pl {z signs : Str} {most : Int} (h : mTxt signs most (.str z) = true) (hm : most ≤ 18) (hs : (signs.cps.toList.all fun c => decide (c < 128)) = true) : Pl 18 z := by
  have h : isTxt z signs most = true := h
  unfold isTxt at h
  rw [Bool.and_eq_true, Bool.and_eq_true, List.all_eq_true] at h
  refine ⟨by have := of_decide_eq_true h.1.2; omega, fun c hc => ?_⟩
  have hc2 : c ∈ signs.cps.toList := of_decide_eq_true (h.2 _ (List.mem_map.mpr ⟨c, hc, rfl⟩))
  exact of_decide_eq_true (List.all_eq_true.mp hs c hc2)
theorem sorts_pl {s : Str} (h : s ∈ sorts) : Pl 18 s := by
  have k : ∀ s ∈ sorts, (decide (s.length ≤ 18) && s.cps.toList.all fun c => decide (c < 128)) = true := by decide +kernel
  exact pl_lit (k s h)
theorem Z.up {d : PyData} (h : Z 1 200 d) : Z 1 400 d := h.mono (by decide) (by decide)
theorem z_int {w : Str} (h : figs w = true) (hl : w.length ≤ 30) : Z 1 400 (.int (valZ w)) := by
  have e := valZ_nat h
  have hb : (valZ w).toNat < 10 ^ 31 := by
    obtain ⟨_, h2⟩ := figs_iff.mp h
    obtain ⟨b0, b1⟩ := valL_bound _ _ rfl h2
    have b2 : valL (TL.tl w) < 10 ^ 30 := Int.lt_of_lt_of_le b1 (by
      have : (10 : Nat) ^ (TL.tl w).length ≤ 10 ^ 30 := Nat.pow_le_pow_right (by decide) hl
      exact_mod_cast this)
    unfold valZ at e ⊢
    omega
  refine ⟨?_, by simp [PyData.depth], ?_⟩
  · have := valZ_log h (Nat.le_trans hl (by decide))
    simp only [PyData.showable]
    exact decide_eq_true this
  · rw [e]
    exact int_small hb
theorem lit_z (z : Str) (h : (decide (z.length ≤ 18) && z.cps.toList.all fun c => decide (c < 128)) = true) : Z 1 400 (.str z) := (Z.str (pl_lit h)).up
theorem dueD_z {W : List Str} {e : PyData} (h : dueD W = some e) (hn : ∀ y ∈ W, NumS y) (lW : W.length ≤ 1000) : Z 3 1700000 e ∧ ∃ ds, e = .tuple ds := by
  have wm : ∀ k, k < W.length → wAt W k ∈ W := fun k hk => by
    unfold wAt
    rw [List.getD_eq_getElem?_getD, List.getElem?_eq_getElem hk]
    exact List.getElem_mem hk
  have lR : (W.drop 1).length = W.length - 1 := List.length_drop
  have nm0 : ∀ w, okS w 110 = true → Z 1 400 (.str w) := fun w e => (Z.str (txt_pl (show mName (.str w) = true from e) (by decide) (by decide +kernel))).up
  have wd0 : ∀ w, okS w 119 = true → Z 1 400 (.str w) := fun w e => (Z.str (txt_pl (show mWord (.str w) = true from e) (by decide) (by decide +kernel))).up
  have so0 : ∀ w, okS w 115 = true → Z 1 400 (.str w) := fun w e => (Z.str (sorts_pl (of_decide_eq_true (show decide (w ∈ sorts) = true from e)))).up
  have nu : ∀ k, k < W.length → figs (wAt W k) = true → Z 1 400 (.int (valZ (wAt W k))) := fun k hk hf => z_int hf (hn _ (wm k hk) hf)
  have two : ∀ a b, Z 1 400 a → Z 1 400 b → Z 2 403000 (.tuple [a, b]) := fun a b ha hb => (Z.tuple (D := 1) (B := 400) (n := 2) (ds := [a, b]) (fun d m => by
    simp only [List.mem_cons, List.not_mem_nil, or_false] at m
    rcases m with rfl | rfl
    · exact ha
    · exact hb) (Nat.le_refl _)).mono (by decide) (by decide)
  have up : ∀ {d}, Z 1 400 d → Z 2 403000 d := fun h => h.mono (by decide) (by decide)
  have fin : ∀ ds : List PyData, (∀ d ∈ ds, Z 2 403000 d) → ds.length ≤ 4 → Z 3 1700000 (.tuple ds) ∧ ∃ es, PyData.tuple ds = .tuple es := fun ds h l => ⟨(Z.tuple h l).mono (by decide) (by decide), ds, rfl⟩
  have fin6 : ∀ ds : List PyData, (∀ d ∈ ds, Z 2 1000 d) → ds.length ≤ 6 → Z 3 1700000 (.tuple ds) ∧ ∃ es, PyData.tuple ds = .tuple es := fun ds h l => ⟨(Z.tuple h l).mono (by decide) (by decide), ds, rfl⟩
  have two6 : ∀ a b, Z 1 400 a → Z 1 400 b → Z 2 1000 (.tuple [a, b]) := fun a b ha hb => (Z.tuple (D := 1) (B := 400) (n := 2) (ds := [a, b]) (fun d m => by
    simp only [List.mem_cons, List.not_mem_nil, or_false] at m
    rcases m with rfl | rfl
    · exact ha
    · exact hb) (Nat.le_refl _)).mono (by decide) (by decide)
  have up6 : ∀ {d}, Z 1 400 d → Z 2 1000 d := fun h => h.mono (by decide) (by decide)
  unfold dueD at h
  by_cases c1 : wAt W 0 = "letter" ∧ areB (W.drop 1) nnw = true
  · rw [if_pos c1] at h
    cases h
    obtain ⟨_, c⟩ := c1
    have l : (W.drop 1).length = 3 := areB_true c
    refine fin6 _ (fun d m => ?_) (by simp only [List.length_cons, List.length_nil]; omega)
    simp only [List.mem_cons, List.not_mem_nil, or_false] at m
    rcases m with rfl | rfl | rfl | rfl
    · exact up6 (lit_z _ (by decide +kernel))
    · exact up6 (nm0 _ (areB_at c (rAt (k := 0) (by omega)) rfl))
    · exact up6 (nm0 _ (areB_at c (rAt (k := 1) (by omega)) rfl))
    · exact up6 (wd0 _ (areB_at c (rAt (k := 2) (by omega)) rfl))
  rw [if_neg c1] at h
  by_cases c2 : wAt W 0 = "echo" ∧ areB (W.drop 1) nnsn0 = true
  · rw [if_pos c2] at h
    cases h
    obtain ⟨_, c⟩ := c2
    have l : (W.drop 1).length = 5 := areB_true c
    refine fin6 _ (fun d m => ?_) (by simp only [List.length_cons, List.length_nil]; omega)
    simp only [List.mem_cons, List.not_mem_nil, or_false] at m
    rcases m with rfl | rfl | rfl | rfl | rfl
    · exact up6 (lit_z _ (by decide +kernel))
    · exact up6 (nm0 _ (areB_at c (rAt (k := 0) (by omega)) rfl))
    · exact up6 (nm0 _ (areB_at c (rAt (k := 1) (by omega)) rfl))
    · exact up6 (so0 _ (areB_at c (rAt (k := 2) (by omega)) rfl))
    · exact two6 _ _ (nm0 _ (areB_at c (rAt (k := 3) (by omega)) rfl)) (nu 5 (by omega) (areB_figs (k := 4) (c := 48) c (rAt (by omega)) rfl (.inl rfl)))
  rw [if_neg c2] at h
  by_cases c3 : wAt W 0 = "answer" ∧ areB (W.drop 1) nsn0n1 = true
  · rw [if_pos c3] at h
    cases h
    obtain ⟨_, c⟩ := c3
    have l : (W.drop 1).length = 6 := areB_true c
    refine fin6 _ (fun d m => ?_) (by simp only [List.length_cons, List.length_nil]; omega)
    simp only [List.mem_cons, List.not_mem_nil, or_false] at m
    rcases m with rfl | rfl | rfl | rfl | rfl
    · exact up6 (lit_z _ (by decide +kernel))
    · exact up6 (nm0 _ (areB_at c (rAt (k := 0) (by omega)) rfl))
    · exact up6 (so0 _ (areB_at c (rAt (k := 1) (by omega)) rfl))
    · exact two6 _ _ (nm0 _ (areB_at c (rAt (k := 2) (by omega)) rfl)) (nu 4 (by omega) (areB_figs (k := 3) (c := 48) c (rAt (by omega)) rfl (.inl rfl)))
    · exact two6 _ _ (nm0 _ (areB_at c (rAt (k := 4) (by omega)) rfl)) (nu 6 (by omega) (areB_figs (k := 5) (c := 49) c (rAt (by omega)) rfl (.inr (.inl rfl))))
  rw [if_neg c3] at h
  by_cases c4 : wAt W 0 = "goer" ∧ areB ((W.drop 1).take 2) n2 = true ∧ shutB ((W.drop 1).drop 2) = true
  · rw [if_pos c4] at h
    cases h
    obtain ⟨_, c, cs⟩ := c4
    have l2 : ((W.drop 1).take 2).length = 2 := areB_true c
    rw [List.length_take] at l2
    have lN : ((W.drop 1).drop 2).length ≤ 1000 := by rw [List.length_drop]; omega
    generalize (W.drop 1).drop 2 = N at cs lN
    unfold shutB at cs
    have cN := (Bool.and_eq_true_iff.mp cs).1
    refine fin _ (fun d m => ?_) (by simp only [List.length_cons, List.length_nil]; omega)
    simp only [List.mem_cons, List.not_mem_nil, or_false] at m
    rcases m with rfl | rfl | rfl | rfl
    · exact up (lit_z _ (by decide +kernel))
    · exact up (nm0 _ (areB_at c (k := 0) (by rw [List.getElem?_take_of_lt (by decide)]; exact rAt (by omega)) rfl))
    · exact up (nu 2 (by omega) (areB_figs (k := 1) (c := 50) c (by rw [List.getElem?_take_of_lt (by decide)]; exact rAt (by omega)) rfl (.inr (.inr rfl))))
    · refine (Z.tuple (D := 1) (B := 400) (n := 1000) (fun d m => ?_) (by rw [List.length_map]; exact lN)).mono (by decide) (by decide)
      obtain ⟨y, my, rfl⟩ := List.mem_map.mp m
      obtain ⟨k, hk⟩ := List.mem_iff_getElem?.mp my
      have kl := (List.getElem?_eq_some_iff.mp hk).1
      exact nm0 _ (areB_at cN hk (by rw [List.getElem?_replicate, if_pos kl]))
  rw [if_neg c4] at h
  cases h
theorem shows_of {D B : Nat} {d : PyData} (h : Z D B d) (h1 : D ≤ 8) (h2 : B ≤ 16000000) : ShowsT d := by
  have sz : sizeLine = 16777216 := sizeLine_eq
  exact ⟨h.1, Nat.le_trans h.2.1 h1, by have := h.2.2; omega⟩
theorem refused_shows : ShowsT (.tuple [.str "refused", .bool true]) := ⟨by decide +kernel, by decide +kernel, by
  rw [sizeLine_eq]
  decide +kernel⟩
theorem thing_shows {W : List Str} {e : PyData} (h : dueD W = some e) (hn : ∀ y ∈ W, NumS y) (lW : W.length ≤ 1000) : ShowsT (.tuple [.str "thing", e]) := by
  refine shows_of (D := 4) (B := 2 * (1700000 + 2) + 3) (Z.tuple (D := 3) (B := 1700000) (n := 2) (fun d m => ?_) (Nat.le_refl _)) (by decide) (by decide)
  simp only [List.mem_cons, List.not_mem_nil, or_false] at m
  rcases m with rfl | rfl
  · exact (lit_z _ (by decide +kernel)).mono (by decide) (by decide)
  · exact (dueD_z h hn lW).1
def spRight16 : Sp := fun vs H Q _ => ∃ (p : Addr) (z : Str), vs = [.str z] ∧ z.length ≤ 900 ∧ (∀ y ∈ Txt.split z " ", NumS y) ∧ H p ≠ none ∧ ∀ H', Same H H' → Q (.bl true) H'
section
variable {σ : L2.St} {H : Hp} {p : Addr} {D : PyData} {v2 : V} {tr tw : TE} {Dd : Ends}
theorem repr_neT (h1 : ∀ Q : VK, (∀ G' v, Same H G' → Dt p G' v D → Q v G') → tr σ H Q) (h2 : ∀ G, Giv tw σ G v2) (hd : Dt p H v2 D) (sh : ShowsT D) : Say (tOp rNe (tCB rReprAny (tCons tr tNil)) (tCB rReprAny (tCons tw tNil))) σ H false := fun Q q => h1 _ fun G v s hv => ⟨p, v, D, rfl, hv, sh, h2 _ _ ⟨p, v2, D, rfl, hd.same s, sh, rfl, by
  rw [decide_eq_true rfl]
  exact q _ s⟩⟩
theorem repr_eqT (h1 : ∀ Q : VK, (∀ G' v, Same H G' → Dt p G' v D → Q v G') → tr σ H Q) (h2 : ∀ G, Giv tw σ G v2) (hd : Dt p H v2 D) (sh : ShowsT D) : Say (tOp rEq (tCB rReprAny (tCons tr tNil)) (tCB rReprAny (tCons tw tNil))) σ H true := fun Q q => h1 _ fun G v s hv => ⟨p, v, D, rfl, hv, sh, h2 _ _ ⟨p, v2, D, rfl, hd.same s, sh, rfl, by
  rw [decide_eq_true rfl]
  exact q _ s⟩⟩
theorem right_tail (h1 : ∀ G, Same H G → ∀ Q : VK, (∀ G' v, Same G G' → Dt p G' v D → Q v G') → tr σ G Q) (h2 : ∀ G, Giv tw σ G v2) (hd : Dt p H v2 D) (sh : ShowsT D) (q : ∀ H', Same H H' → Dd.rt (.bl true) H') :
    tSeq (tIfS (tTest (tOp rNe (tCB rReprAny (tCons tr tNil)) (tCB rReprAny (tCons tw tNil)))) (tRet (tC (.bl false))) tNext) (tRet (tOp rEq (tCB rReprAny (tCons tr tNil)) (tCB rReprAny (tCons tw tNil)))) Dd σ H :=
  ifNo (Say.tTest (repr_neT (h1 H (Same.refl H)) h2 hd sh)) fun H1 s1 => retB (repr_eqT (h1 H1 s1) h2 (hd.same s1) sh) fun H2 s2 => q _ (s1.trans s2)
end
section
variable {P : Program} {w : World} {K : PySem.W.Frag} {mg : Str → Option Value} {base : Heap}
theorem sc__law_right : FnScope ["_law_text", "_law_due_here", "_law_wanted"] ["_law_text"] (defScope (topS 47)) := ⟨rfl, rfl, rfl, by decide +kernel, rfl, by decide +kernel, by decide +kernel⟩
theorem ok__law_right (D : DefAt K mg "_law_right" (topS 47)) (m : Mg mg) (c__law_due : Cal P w K mg base 3 "_law_due" spDue []) (c__law_told : Cal P w K mg base 8 "_law_told" spTold16 []) : CalG P w K mg base 9 "_law_right" spRight16 := by
  have sc := sc__law_right
  refine mkCalG D (fun _ _ _ _ _ _ us hl => match us, hl with | [_], _ => rfl) sc (fun vs H Q E h => ?_) (fun f cdv A outer s H vs Q E hg hr h => ?_)
  · obtain ⟨p, z, rfl, _⟩ := h
    rfl
  · obtain ⟨p, z, rfl, lz, hn, hp, q⟩ := h
    refine ⟨_, (pss_cons (ps_set (i := 1) sc.nd rfl (.inl rfl) (pe_c c__law_due hr (by decide) (by rfl) (pa_cons (pv 0) pa_nil)))
  (pss_cons (ps_set (i := 2) sc.nd rfl (.inl rfl) (pe_ifExp (pt_cmpR op_isN (pv 1) pe_non (nomark _)) (pe_tup (pa_cons pe_str (pa_cons pe_bl pa_nil))) (pe_tup (pa_cons pe_str (pa_cons (pv 1) pa_nil)))))
  (pss_cons (ps_if (pt_cmpR op_ne (pe_callB (call_reprAny hg hr.units) (by rfl) m.repr (by decide +kernel) (pa_cons (pe_c c__law_told hr (by decide) (by rfl) (pa_cons (pv 0) pa_nil)) pa_nil)) (pe_callB (call_reprAny hg hr.units) (by rfl) m.repr (by decide +kernel) (pa_cons (pv 2) pa_nil)) (nomark _))
  (pss_one (ps_ret pe_bl))
  pss_nil)
  (pss_one (ps_ret (pe_cmpR op_eq (pe_callB (call_reprAny hg hr.units) (by rfl) m.repr (by decide +kernel) (pa_cons (pe_c c__law_told hr (by decide) (by rfl) (pa_cons (pv 0) pa_nil)) pa_nil)) (pe_callB (call_reprAny hg hr.units) (by rfl) m.repr (by decide +kernel) (pa_cons (pv 2) pa_nil)) (nomark _))))))), ?_⟩
    have tz := tot_split z
    have lW : (Txt.split z " ").length ≤ tot (Txt.split z " ") := Nat.le_add_left _ _
    have np : ∀ {G}, Same H G → G p ≠ none := fun {G} s e => by
      cases e0 : H p with
      | none => exact hp e0
      | some o => rw [s _ _ e0] at e; cases e
    refine setE ?_
    refine ⟨_, rfl, p, z, rfl, lz, hn, hp, fun e he H1 v s1 hv => ?_, fun hx H1 s1 => ?_⟩
    · obtain ⟨ds, rfl⟩ := (dueD_z he hn (by omega)).2
      have hv0 := hv
      obtain ⟨c, xs, rfl, -⟩ : ∃ c xs, v = .ref c ∧ H1 c = some (.tup xs) := by
        cases hv0 with
        | tup n z e h => exact ⟨_, _, rfl, e⟩
      refine setE ?_
      refine ⟨_, rfl, rfl, _, rfl, ite2 (fun w => by cases (of_decide_eq_true w)) (fun _ => ?_)⟩
      refine ⟨_, rfl, (by show 2 ≤ sizeLine; decide), fun t nt => ?_⟩
      have st := same_new (o := .tup [.str "thing", .ref c]) nt
      have sm := s1.trans st
      (try dsimp only)
      refine right_tail (p := p) (D := .tuple [.str "thing", .tuple ds]) (v2 := .ref t) (fun G s Q q => ?_) (fun G => giv_var rfl) ?_ (thing_shows he hn (by omega)) fun H' s' => q _ (sm.trans s')
      · refine ⟨_, rfl, p, .str z, .str z, rfl, .str z (by omega), np (sm.trans s), fun y ey => by cases ey; exact lz, fun e2 he2 H' t2 s2 ht => ?_, fun hn2 => ?_⟩
        · have he2 : dueD (Txt.split z " ") = some e2 := he2
          rw [he] at he2
          cases he2
          exact q _ _ s2 ht
        · have hn2 : dueD (Txt.split z " ") = none := hn2
          rw [he] at hn2
          cases hn2
      · exact .tup (ne_p hp s1 nt) (by show 2 ≤ 1000; decide) upd_same (.cons (.str _ (by decide)) (.cons (hv.same st) .nil))
    · refine setE ?_
      refine ⟨_, rfl, rfl, _, rfl, ite2 (fun _ => ?_) (fun w => absurd rfl w)⟩
      refine ⟨(by show 2 ≤ sizeLine; decide), fun t nt => ?_⟩
      have st := same_new (o := .tup [.str "refused", .bl true]) nt
      have sm := s1.trans st
      (try dsimp only)
      refine right_tail (p := p) (D := .tuple [.str "refused", .bool true]) (v2 := .ref t) (fun G s Q q => ?_) (fun G => giv_var rfl) ?_ refused_shows fun H' s' => q _ (sm.trans s')
      · refine ⟨_, rfl, p, .str z, .str z, rfl, .str z (by omega), np (sm.trans s), fun y ey => by cases ey; exact lz, fun e2 he2 => ?_, fun hn2 H' t2 s2 ht => q _ _ s2 ht⟩
        have he2 : dueD (Txt.split z " ") = some e2 := he2
        rw [hx] at he2
        cases he2
      · exact .tup (ne_p hp s1 nt) (by show 2 ≤ 1000; decide) upd_same (.cons (.str _ (by decide)) (.cons (.bl _) .nil))
end
end Gj

namespace Gj
open PySem PySem.Spec PyProof.Rows L2
open C8 (Cal pe_c pe_gc)
section
variable {P : Program} {w : World} {K : PySem.W.Frag} {mg : Str → Option Value} {base : Heap}
theorem sc__law_name : FnScope ["_law_pot_here", "_law_used", "_law_letters", "_law_size", "_law_name_here", "_law_k", "_law_letter"] ["_law_pot_here", "_law_used"] (defScope (topS 33)) := ⟨rfl, rfl, rfl, by decide +kernel, rfl, by decide +kernel, by decide +kernel⟩
theorem ok__law_name (D : DefAt K mg "_law_name" (topS 33)) (m : Mg mg) (c__law_digit : Cal P w K mg base 1 "_law_digit" spDigit []) : Cal P w K mg base 2 "_law_name" spName [] := by
  have sc := sc__law_name
  refine mkCal D (fun _ _ _ _ _ _ us hl => match us, hl with | [_, _], _ => rfl) sc (fun vs H Q E h => ?_) (fun f cdv A outer s H vs Q E hr h => ?_)
  · obtain ⟨p, u, us, rfl, _⟩ := h
    rfl
  · obtain ⟨p, u, us, rfl, hp, nu, eu, hus, hl, q⟩ := h
    refine ⟨_, (pss_cons (ps_set (i := 2) sc.nd rfl (.inr rfl) pe_str)
  (pss_cons (ps_set (i := 3) sc.nd rfl (.inl rfl) (pe_op op_add pe_int (pe_c c__law_digit hr (by decide) (by rfl) (pa_cons (pv 0) (pa_cons (pe_ix ix_list (pe_lst (pa_cons pe_int (pa_cons pe_int (pa_cons pe_int pa_nil)))) (pe_c c__law_digit hr (by decide) (by rfl) (pa_cons (pv 0) (pa_cons pe_int pa_nil))) (fun _ _ => rfl)) pa_nil)))))
  (pss_cons (ps_set (i := 4) sc.nd rfl (.inl rfl) (pe_join pe_str (pe_lc (own := [("_law_k", 5)]) (g := gName 5) (tt := tYes) rfl sc.nd (pi_range1 (by rfl) m.range (pa_cons (pv 3) pa_nil)) (blkOk_by (N := ["_law_pot_here", "_law_used", "_law_letters", "_law_size", "_law_name_here", "_law_k", "_law_letter"]) (sc := defScope (topS 33)) (by decide +kernel)) (fun _ _ _ _ _ => (pg_name (i := 5) sc.nd rfl (.inl rfl))) (fun _ _ _ _ _ => pts_nil) (fun _ _ _ _ _ => (pe_ix ix_str (pv 2) (pe_c c__law_digit hr (by decide) (by rfl) (pa_cons (pv 0) (pa_cons pe_int pa_nil))) (fun _ _ => rfl))))))
  (C8.pss_cut (ps_if (PW.pt (pw_and (pt_cmpR (op_neE hr.units) (pv 1) (pe_lst pa_nil) (nomark _)) (pw_and1 (pt_cmpR op_eq (pe_c c__law_digit hr (by decide) (by rfl) (pa_cons (pv 0) (pa_cons pe_int pa_nil))) pe_int (nomark _)))))
  (pss_one (ps_set (i := 4) sc.nd rfl (.inl rfl) (pe_slice C8.sl_txt (pe_op op_add_str (pe_ix ix_list (pv 1) (pe_un un_neg pe_int) (fun _ _ => rfl)) (pv 4)) po_none (po_some pe_int))))
  pss_nil)
  (pss_cons (ps_if (pt_cmpR op_in_seq (pv 4) (pv 1) rfl)
  (pss_one (ps_set (i := 4) sc.nd rfl (.inl rfl) (pe_ix ix_list (pe_lc (own := [("_law_letter", 6)]) (g := gName 6) (tt := tTest (tOp (rIn K true) (tVar 6) (tVar 1))) rfl sc.nd (pi_str (pv 2)) (blkOk_by (N := ["_law_pot_here", "_law_used", "_law_letters", "_law_size", "_law_name_here", "_law_k", "_law_letter"]) (sc := defScope (topS 33)) (by decide +kernel)) (fun _ _ _ _ _ => (pg_name (i := 6) sc.nd rfl (.inl rfl))) (fun _ _ _ _ _ => (pts_one (pt_cmpR op_notIn_seq (pv 6) (pv 1) rfl))) (fun _ _ _ _ _ => (pv 6))) pe_int (fun _ _ => rfl))))
  pss_nil)
  (pss_one (ps_ret (pv 4)))))))), ?_⟩
    refine ⟨_, rfl, (by show 3 ≤ sizeLine; decide), fun L hL => ?_⟩
    refine ⟨_, rfl, p, _, rfl, hp.new hL, by decide, by decide, fun e H1 e0 e1 r1 => ?_⟩
    obtain ⟨x, hxm, hx⟩ := at_some (xs := [V.int 1, .int 3, .int 8]) e0 e1
    obtain ⟨n, rfl, hn⟩ : ∃ n : Int, x = .int n ∧ (n = 1 ∨ n = 3 ∨ n = 8) := by
      simp only [List.mem_cons, List.not_mem_nil, or_false] at hxm
      rcases hxm with h | h | h
      · exact ⟨1, h, .inl rfl⟩
      · exact ⟨3, h, .inr (.inl rfl)⟩
      · exact ⟨8, h, .inr (.inr rfl)⟩
    have dr1 : Drawn p H H1 := ⟨(Keep.new hL).trans r1.keep, r1.pot⟩
    refine ⟨L, _, _, _, rfl, rfl, SqL.of (r1.keep _ _ (hp.ne hL) upd_same), hx, ?_⟩
    refine ⟨p, n, rfl, r1.pot, by omega, by rcases hn with h | h | h <;> subst h <;> decide, fun d H2 d0 d1 r2 => ?_⟩
    have dr2 := dr1.trans r2
    refine ⟨_, _, rfl, rfl, ?_⟩
    refine ⟨⟨_, rfl⟩, _, rfl, 1 + d, rfl, by omega, by omega, fun D hD => ?_⟩
    refine lc_range (Signs (fun c => c ∈ ltrs) p D H2) (Signs.start r2.pot hD) (fun i H4 hi hs => ?_) (fun H4 hs => ?_)
    · refine ⟨rfl, _, rfl, _, rfl, p, _, rfl, hs.pot, by decide, by decide, fun k H5 k0 k1 r5 => ?_⟩
      obtain ⟨c, hc, hx⟩ := at_some (xs := ltrs) k0 k1
      exact ⟨_, _, _, rfl, rfl, by decide, hx, hs.next hi (by omega) hD r5 hc⟩
    · obtain ⟨cs, ys, hcl, hcs, dr, eD, hz, ej⟩ := hs.join (by omega)
      refine ⟨_, D, ys, rfl, rfl, .inl (SqL.of eD), hz, ?_⟩
      rw [ej]
      have dr4 := dr2.trans dr
      have nm : NameS (SX.S cs) := ⟨cs, rfl, by omega, by omega, hcs⟩
      have eu4 : H4 u = some (.lst (us.map V.str)) := dr4.keep _ _ nu eu
      refine ⟨fun σ' H' => ∃ (z : Str) (s3 s5 s6 : Option V), σ' = [some (.ref p), some (.ref u), some (.str "abcdefghijklmnopqrstuvwxyz"), s3, some (.str z), s5, s6] ∧ NameS z ∧ Drawn p H H' ∧ H' u = some (.lst (us.map V.str)), ?_, ?_⟩
      rotate_left
      · rintro σ' H' ⟨z, s3, s5, s6, rfl, nz, dz, euz⟩
        refine ⟨_, rfl, _, rfl, u, us.map V.str, rfl, .inl (SqL.of euz), rfl, flat_strs us, _, rfl, ite2 (fun c => ?_) (fun c => ?_)⟩
        · refine ⟨_, rfl, _, rfl, fun D2 hD2 => ?_⟩
          have nD2 : D2 ≠ p := dz.pot.ne hD2
          refine lc_it walk_str (Pv := fun i H'' => Drawn p H H'' ∧ H'' u = some (.lst (us.map V.str)) ∧ H'' D2 = some (.lst (((ltrs.take i).filter fun c => decide (SX.S [c] ∉ us)).map fun c => V.str (SX.S [c])))) ⟨dz.new hD2, by rw [upd_ne (ne_of_none euz hD2)]; exact euz, upd_same⟩ (fun _ _ _ _ => trivial) (fun i x H1 H2 hi hp2 hy => ?_) (fun H1 hp2 => ?_)
          · obtain ⟨rfl, ch, ec, rfl⟩ := hy
            obtain ⟨d1, e1, e2⟩ := hp2
            have ec2 : ltrs[i]? = some ch := by rw [Array.getElem?_toList]; exact ec
            refine ⟨rfl, _, rfl, _, rfl, u, us.map V.str, rfl, .inl (SqL.of e1), rfl, flat_strs us, _, rfl, ?_⟩
            have ev : (if true = true then !inV (.str ⟨#[ch]⟩) (us.map V.str) else inV (.str ⟨#[ch]⟩) (us.map V.str)) = decide (SX.S [ch] ∉ us) := by
              rw [if_pos rfl, show (⟨#[ch]⟩ : Str) = SX.S [ch] from rfl, inV_strs]
              by_cases h : SX.S [ch] ∈ us
              · rw [decide_eq_true h, decide_eq_false (fun n => n h)]; rfl
              · rw [decide_eq_false h, decide_eq_true h]; rfl
            rw [ev]
            refine ite2 (fun c => ?_) (fun c => ?_)
            · refine ⟨_, rfl, _, e2, ?_, ⟨fun b o nb eb => ?_, ?_⟩, ?_, ?_⟩
              · rw [List.length_map]
                have l1 := List.length_filter_le (fun c => decide (SX.S [c] ∉ us)) (ltrs.take i)
                have l2 : (ltrs.take i).length ≤ 26 := by
                  rw [List.length_take]
                  exact Nat.le_trans (Nat.min_le_right _ _) (by decide +kernel)
                exact small1000 (by omega)
              · rw [upd_ne (ne_of_none (dz.keep _ _ nb eb) hD2)]
                exact d1.keep _ _ nb eb
              · obtain ⟨x1, x2, e3, z3⟩ := d1.pot
                exact ⟨x1, x2, by rw [upd_ne nD2.symm]; exact e3, z3⟩
              · rw [upd_ne (ne_of_none euz hD2)]; exact e1
              · rw [upd_same, take_snoc ec2, List.filter_append, List.map_append]
                have : [ch].filter (fun c => decide (SX.S [c] ∉ us)) = [ch] := by
                  rw [List.filter_cons, if_pos c]; rfl
                rw [this]; rfl
            · refine ⟨d1, e1, ?_⟩
              rw [e2, take_snoc ec2, List.filter_append]
              have : [ch].filter (fun c => decide (SX.S [c] ∉ us)) = [] := by
                rw [List.filter_cons, if_neg c]; rfl
              rw [this, List.append_nil]
          · obtain ⟨d1, e1, e2⟩ := hp2
            rw [show ltrs.take (PySem.Str.ofString "abcdefghijklmnopqrstuvwxyz").cps.size = ltrs from List.take_of_length_le (Nat.le_refl _)] at e2
            obtain ⟨c0, hc0, hn0⟩ := fresh_letter hl
            obtain ⟨c1, l1, e3⟩ : ∃ c1 l1, ltrs.filter (fun c => decide (SX.S [c] ∉ us)) = c1 :: l1 := by
              cases h : ltrs.filter (fun c => decide (SX.S [c] ∉ us)) with
              | nil =>
                have : c0 ∈ ltrs.filter (fun c => decide (SX.S [c] ∉ us)) := List.mem_filter.mpr ⟨hc0, decide_eq_true hn0⟩
                rw [h] at this; cases this
              | cons c1 l1 => exact ⟨c1, l1, rfl⟩
            have m1 : c1 ∈ ltrs.filter (fun c => decide (SX.S [c] ∉ us)) := by rw [e3]; exact List.mem_cons_self
            have m2 := List.mem_filter.mp m1
            rw [e3] at e2
            refine ⟨D2, _, 0, _, rfl, rfl, SqL.of e2, atI_nat (j := 0) rfl, ?_⟩
            exact ⟨_, rfl, q _ _ (name_one m2.1) (of_decide_eq_true m2.2) d1⟩
        · have c : z ∉ us := fun h => c (by rw [if_neg (by decide), inV_strs, decide_eq_true h])
          exact ⟨_, rfl, q _ _ nz c dz⟩
      refine ⟨_, rfl, (by show 0 ≤ sizeLine; decide), fun E0' hE => ?_⟩
      have eu5 : (upd H4 E0' (.lst [])) u = some (.lst (us.map V.str)) := by rw [upd_ne (ne_of_none eu4 hE)]; exact eu4
      have dr5 : Drawn p H (upd H4 E0' (.lst [])) := dr4.new hE
      refine ⟨u, E0', us.map V.str, rfl, rfl, .inl ⟨SqL.of eu5, SqL.of upd_same⟩, _, rfl, ite2 (fun c => ?_) (fun c => ?_)⟩
      · refine ⟨_, rfl, p, _, rfl, dr5.pot, by decide, by decide, fun g H6 g0 g1 r6 => ?_⟩
        have dr6 := dr5.trans r6
        have eu6 : H6 u = some (.lst (us.map V.str)) := dr6.keep _ _ nu eu
        refine ⟨rfl, _, rfl, ite2 (fun c2 => ?_) (fun c2 => ?_)⟩
        · obtain ⟨ini, z, e⟩ : ∃ ini z, us = ini ++ [z] := by
            cases us with
            | nil => exact absurd c (by simp)
            | cons y l => exact ⟨(y :: l).dropLast, (y :: l).getLast (by simp), (List.dropLast_concat_getLast _).symm⟩
          have gl : atI (us.map V.str) (-1) = some (.str z) := by
            rw [e, List.map_append]
            exact atI_last _ _
          obtain ⟨zs, rfl, hz1, hz2, hz3⟩ := (hus z (by rw [e]; exact List.mem_append_right _ List.mem_cons_self)).ex
          refine ⟨_, rfl, 1, rfl, u, _, -1, _, rfl, rfl, SqL.of eu6, gl, _, rfl, _, _, rfl, rfl, ?_, 8, rfl, _, rfl, ?_, ?_⟩
          · rw [SX.S_len, SX.S_len]
            exact Nat.le_of_lt (small1000 (by omega))
          · rw [SX.S_cat, SX.S_len, List.length_append]
            exact Nat.le_of_lt (small1000 (by omega))
          · rw [SX.S_cat, SX.slice_to (by decide)]
            have nm2 : NameS (SX.S ((zs ++ cs).take (8 : Int).toNat)) := ⟨_, rfl, by rw [List.length_take, List.length_append]; show 1 ≤ min 8 _; omega, by rw [List.length_take]; exact Nat.min_le_left _ _, fun c hc => by
              rcases List.mem_append.mp (List.mem_of_mem_take hc) with h | h
              · exact hz3 c h
              · exact hcs c h⟩
            exact ⟨_, _, _, _, rfl, nm2, dr6, eu6⟩
        · exact ⟨_, _, _, _, rfl, nm, dr6, eu6⟩
      · exact ⟨_, _, _, _, rfl, nm, dr5, eu5⟩
theorem sc__law_names : FnScope ["_law_pot_here", "_law_many", "_law_used", "_law_found", "_law_k"] ["_law_pot_here", "_law_many", "_law_used"] (defScope (topS 34)) := ⟨rfl, rfl, rfl, by decide +kernel, rfl, by decide +kernel, by decide +kernel⟩
theorem ok__law_names (D : DefAt K mg "_law_names" (topS 34)) (m : Mg mg) (c__law_name : Cal P w K mg base 2 "_law_name" spName []) : Cal P w K mg base 3 "_law_names" spNames [] := by
  have sc := sc__law_names
  refine mkCal D (fun _ _ _ _ _ _ us hl => match us, hl with | [_, _, _], _ => rfl) sc (fun vs H Q E h => ?_) (fun f cdv A outer s H vs Q E hr h => ?_)
  · obtain ⟨p, u, us, n, rfl, _⟩ := h
    rfl
  · obtain ⟨p, u, us, n, rfl, hp, nu, eu, hus, hl, q⟩ := h
    refine ⟨_, (pss_cons (ps_set (i := 3) sc.nd rfl (.inl rfl) (pe_lst pa_nil))
  (pss_cons (ps_for PassesOwn.never rfl (pi_range1 (by rfl) m.range (pa_cons (pv 1) pa_nil)) (pg_name (i := 4) sc.nd rfl (.inl rfl))
  (pss_one (ps_expr (pe_bm PySem.F.plainAttrs_list PySem.F.slot_list_append PySem.F.type_list_append mt_append (pv 3) (pa_cons (pe_c c__law_name hr (by decide) (by rfl) (pa_cons (pv 0) (pa_cons (pe_op op_cat (pv 2) (pv 3)) pa_nil))) pa_nil)))))
  (pss_one (ps_ret (pv 3))))), ?_⟩
    refine ⟨(by show 0 ≤ sizeLine; decide), fun F hF => ?_⟩
    have nF : F ≠ p := hp.ne hF
    refine ⟨_, rfl, (n : Int), rfl, by omega, by omega, ?_⟩
    refine for_range (n := n) (fun i σ H' => ∃ (zs : List Str) (y4 : Option V), σ = [some (.ref p), some (.int (n : Nat)), some (.ref u), some (.ref F), y4] ∧ zs.length = i ∧ (∀ z ∈ zs, NameS z) ∧ zs.Nodup ∧ (∀ z ∈ zs, z ∉ us) ∧ Drawn p H H' ∧ H' F = some (.lst (zs.map V.str)))
      ⟨[], _, rfl, rfl, (fun _ h => by cases h), List.nodup_nil, (fun _ h => by cases h), ⟨Keep.new hF, hp.new hF⟩, upd_same⟩ (fun i σ H1 hi hi2 => ?_) (fun σ H1 hi2 => ?_)
    · obtain ⟨zs, y4, rfl, hz, hzn, hnd, hdis, dr, eF⟩ := hi2
      have eu1 : H1 u = some (.lst (us.map V.str)) := dr.keep _ _ nu eu
      refine ⟨_, rfl, .inl ⟨rfl, _, SqL.of eF⟩, _, rfl, _, rfl, _, rfl, u, F, _, _, rfl, rfl, eu1, eF, ?_, fun g hg => ?_⟩
      · rw [List.length_map, List.length_map]
        exact Nat.le_of_lt (small1000 (by omega))
      · have eg : (upd H1 g (.lst (us.map V.str ++ zs.map V.str))) g = some (.lst ((us ++ zs).map V.str)) := by rw [upd_same, List.map_append]
        refine ⟨p, g, us ++ zs, rfl, dr.pot.new hg, dr.pot.ne hg, eg, ?_, by rw [List.length_append]; omega, fun z H2 hzN hzU r2 => ?_⟩
        · intro z h
          rcases List.mem_append.mp h with h | h
          · exact hus z h
          · exact hzn z h
        · have dr2 : Drawn p H H2 := (dr.new hg).trans r2
          have eF2 : H2 F = some (.lst (zs.map V.str)) := r2.keep _ _ nF (by rw [upd_ne (ne_of_none eF hg)]; exact eF)
          refine ⟨F, _, _, rfl, rfl, eF2, ?_, zs ++ [z], _, rfl, ?_, ?_, ?_, ?_, ⟨fun b o nb eb => ?_, ?_⟩, ?_⟩
          · rw [List.length_map]
            exact small1000 (by omega)
          · rw [List.length_append, hz]; rfl
          · intro x h
            rcases List.mem_append.mp h with h | h
            · exact hzn x h
            · rw [List.mem_singleton.mp h]; exact hzN
          · refine List.nodup_append.mpr ⟨hnd, List.nodup_cons.mpr ⟨List.not_mem_nil, List.nodup_nil⟩, fun a ha b hb e => ?_⟩
            rw [List.mem_singleton.mp hb] at e
            exact hzU (List.mem_append_right _ (e ▸ ha))
          · intro x h
            rcases List.mem_append.mp h with h | h
            · exact hdis x h
            · rw [List.mem_singleton.mp h]; exact fun k => hzU (List.mem_append_left _ k)
          · rw [upd_ne (ne_of_none eb hF)]
            exact dr2.keep _ _ nb eb
          · obtain ⟨x1, x2, e3, z3⟩ := dr2.pot
            exact ⟨x1, x2, by rw [upd_ne nF.symm]; exact e3, z3⟩
          · rw [upd_same, List.map_append]; rfl
    · obtain ⟨zs, y4, rfl, hz, hzn, hnd, hdis, dr, eF⟩ := hi2
      exact ⟨_, rfl, q F zs H1 hF nF hz hzn hnd hdis dr eF⟩
theorem sc__law_word : FnScope ["_law_pot_here", "_law_signs", "_law_k"] ["_law_pot_here"] (defScope (topS 35)) := ⟨rfl, rfl, rfl, by decide +kernel, rfl, by decide +kernel, by decide +kernel⟩
theorem ok__law_word (D : DefAt K mg "_law_word" (topS 35)) (m : Mg mg) (c__law_digit : Cal P w K mg base 1 "_law_digit" spDigit []) : Cal P w K mg base 2 "_law_word" spWord [] := by
  have sc := sc__law_word
  refine mkCal D (fun _ _ _ _ _ _ us hl => match us, hl with | [_], _ => rfl) sc (fun vs H Q E h => ?_) (fun f cdv A outer s H vs Q E hr h => ?_)
  · obtain ⟨p, rfl, _⟩ := h
    rfl
  · obtain ⟨p, rfl, hp, q⟩ := h
    refine ⟨_, (pss_cons (ps_set (i := 1) sc.nd rfl (.inr rfl) pe_str)
  (pss_one (ps_ret (pe_join pe_str (pe_lc (own := [("_law_k", 2)]) (g := gName 2) (tt := tYes) rfl sc.nd (pi_range1 (by rfl) m.range (pa_cons (pe_op op_add pe_int (pe_c c__law_digit hr (by decide) (by rfl) (pa_cons (pv 0) (pa_cons (pe_ix ix_list (pe_lst (pa_cons pe_int (pa_cons pe_int (pa_cons pe_int pa_nil)))) (pe_c c__law_digit hr (by decide) (by rfl) (pa_cons (pv 0) (pa_cons pe_int pa_nil))) (fun _ _ => rfl)) pa_nil)))) pa_nil)) (blkOk_by (N := ["_law_pot_here", "_law_signs", "_law_k"]) (sc := defScope (topS 35)) (by decide +kernel)) (fun _ _ _ _ _ => (pg_name (i := 2) sc.nd rfl (.inl rfl))) (fun _ _ _ _ _ => pts_nil) (fun _ _ _ _ _ => (pe_ix ix_str (pv 1) (pe_c c__law_digit hr (by decide) (by rfl) (pa_cons (pv 0) (pa_cons pe_int pa_nil))) (fun _ _ => rfl)))))))), ?_⟩
    refine ⟨⟨_, rfl⟩, _, rfl, (by show 3 ≤ sizeLine; decide), fun L hL => ?_⟩
    refine ⟨_, rfl, p, _, rfl, hp.new hL, by decide, by decide, fun e H1 e0 e1 r1 => ?_⟩
    obtain ⟨x, hxm, hx⟩ := at_some (xs := [V.int 1, .int 4, .int 12]) e0 e1
    obtain ⟨n, rfl, hn⟩ : ∃ n : Int, x = .int n ∧ (n = 1 ∨ n = 4 ∨ n = 12) := by
      simp only [List.mem_cons, List.not_mem_nil, or_false] at hxm
      rcases hxm with h | h | h
      · exact ⟨1, h, .inl rfl⟩
      · exact ⟨4, h, .inr (.inl rfl)⟩
      · exact ⟨12, h, .inr (.inr rfl)⟩
    have dr1 : Drawn p H H1 := ⟨(Keep.new hL).trans r1.keep, r1.pot⟩
    refine ⟨L, _, _, _, rfl, rfl, SqL.of (r1.keep _ _ (hp.ne hL) upd_same), hx, ?_⟩
    refine ⟨p, n, rfl, r1.pot, by omega, by rcases hn with h | h | h <;> subst h <;> decide, fun d H2 d0 d1 r2 => ?_⟩
    have dr2 := dr1.trans r2
    refine ⟨_, _, rfl, rfl, 1 + d, rfl, by omega, by omega, fun D hD => ?_⟩
    refine lc_range (Signs (fun c => c ∈ wrds) p D H2) (Signs.start r2.pot hD) (fun i H4 hi hs => ?_) (fun H4 hs => ?_)
    · refine ⟨rfl, _, rfl, _, rfl, p, _, rfl, hs.pot, by decide, by decide, fun k H5 k0 k1 r5 => ?_⟩
      obtain ⟨c, hc, hx⟩ := at_some (xs := wrds) k0 k1
      exact ⟨_, _, _, rfl, rfl, by decide, hx, hs.next hi (by omega) hD r5 hc⟩
    · obtain ⟨cs, ys, hcl, hcs, dr, eD, hz, ej⟩ := hs.join (by omega)
      refine ⟨_, D, ys, rfl, rfl, .inl (SqL.of eD), hz, ?_⟩
      rw [ej]
      exact q _ _ ⟨cs, rfl, by omega, by omega, hcs⟩ (dr2.trans dr)
theorem sc__law_whole : FnScope ["_law_pot_here", "_law_least"] ["_law_pot_here", "_law_least"] (defScope (topS 36)) := ⟨rfl, rfl, rfl, by decide +kernel, rfl, by decide +kernel, by decide +kernel⟩
theorem ok__law_whole (D : DefAt K mg "_law_whole" (topS 36)) (c__law_digit : Cal P w K mg base 1 "_law_digit" spDigit []) : Cal P w K mg base 2 "_law_whole" spWhole [] := by
  have sc := sc__law_whole
  refine mkCal D (fun _ _ _ _ _ _ us hl => match us, hl with | [_, _], _ => rfl) sc (fun vs H Q E h => ?_) (fun f cdv A outer s H vs Q E hr h => ?_)
  · obtain ⟨p, n, rfl, _⟩ := h
    rfl
  · obtain ⟨p, n, rfl, hp, q⟩ := h
    refine ⟨_, (pss_one (ps_ret (pe_op op_add (pv 1) (pe_ix ix_list (pe_lst (pa_cons pe_int (pa_cons (pe_c c__law_digit hr (by decide) (by rfl) (pa_cons (pv 0) (pa_cons pe_int pa_nil))) (pa_cons (pe_c c__law_digit hr (by decide) (by rfl) (pa_cons (pv 0) (pa_cons (pe_op op_sub (pe_op op_pow pe_int pe_int) pe_int) pa_nil))) pa_nil)))) (pe_c c__law_digit hr (by decide) (by rfl) (pa_cons (pv 0) (pa_cons pe_int pa_nil))) (fun _ _ => rfl))))), ?_⟩
    refine ⟨_, rfl, _, rfl, p, _, rfl, hp, by decide, by decide, fun a H1 a0 a1 r1 => ?_⟩
    refine ⟨_, rfl, _, _, rfl, rfl, ⟨by decide, by decide, by decide⟩, _, _, rfl, rfl, p, _, rfl, r1.pot, by decide, by decide, fun b H2 b0 b1 r2 => ?_⟩
    have b1 : b < 10 ^ 30 - 9 := b1
    refine ⟨(by show 3 ≤ sizeLine; decide), fun L hL => ?_⟩
    refine ⟨_, rfl, p, _, rfl, r2.pot.new hL, by decide, by decide, fun e H3 e0 e1 r3 => ?_⟩
    obtain ⟨x, hxm, hx⟩ := at_some (xs := [V.int 0, .int a, .int b]) e0 e1
    obtain ⟨i, rfl, i0, i1⟩ : ∃ i : Int, x = .int i ∧ 0 ≤ i ∧ i < 10 ^ 30 := by
      simp only [List.mem_cons, List.not_mem_nil, or_false] at hxm
      rcases hxm with h | h | h
      · exact ⟨0, h, by decide, by decide⟩
      · exact ⟨a, h, a0, by omega⟩
      · exact ⟨b, h, b0, by omega⟩
    have dr : Drawn p H H3 := ((r1.trans r2).new hL).trans r3
    exact ⟨L, _, _, _, rfl, rfl, SqL.of (r3.keep _ _ (r2.pot.ne hL) upd_same), hx, _, _, rfl, rfl, q _ _ (by omega) (by omega) dr⟩
end
end Gj

/-! own layer: expressions that lay data of a kind -/
namespace Gj
open PySem PySem.Spec PyProof.Rows L2
open C8 (Cal pe_c pe_gc)
/-- it lays a datum that is P -/
def LayP (te : TE) (p : Addr) (σ : L2.St) (H : Hp) (P : PyData → Prop) : Prop := ∀ Q : VK, (∀ (H' : Hp) (v : V) (d : PyData), Drawn p H H' → Dt p H' v d → P d → Q v H') → te σ H Q
def Fits : List (PyData → Prop) → List PyData → Prop
  | [], [] => True
  | P :: Ps, d :: ds => P d ∧ Fits Ps ds
  | _, _ => False
theorem Fits.len : ∀ {Ps : List (PyData → Prop)} {ds : List PyData}, Fits Ps ds → ds.length = Ps.length
  | [], [], _ => rfl
  | P :: Ps, d :: ds, h => by rw [List.length_cons, List.length_cons, Fits.len h.2]
  | [], _ :: _, h => h.elim
  | _ :: _, [], h => h.elim
theorem Fits.all {P : PyData → Prop} : ∀ {Ps : List (PyData → Prop)} {ds : List PyData}, Fits Ps ds → (∀ R ∈ Ps, ∀ d, R d → P d) → ∀ d ∈ ds, P d
  | [], [], _, _, d, hd => by cases hd
  | R :: Ps, e :: ds, h, hP, d, hd => by
    rcases List.mem_cons.mp hd with rfl | hd
    · exact hP R List.mem_cons_self _ h.1
    · exact Fits.all h.2 (fun S hS => hP S (List.mem_cons_of_mem _ hS)) d hd
  | [], _ :: _, h, _, _, _ => h.elim
  | _ :: _, [], h, _, _, _ => h.elim
def LaysP (ta : TA) (p : Addr) (σ : L2.St) (H : Hp) (Ps : List (PyData → Prop)) : Prop := ∀ Q : List V → Hp → Prop, (∀ (H' : Hp) (vs : List V) (ds : List PyData), Drawn p H H' → DtAll p H' vs ds → Fits Ps ds → Q vs H') → ta σ H Q
/-! kinds -/
def isNm (d : PyData) : Prop := ∃ z, NameS z ∧ d = .str z
def isWd (d : PyData) : Prop := ∃ z, WordS z ∧ d = .str z
def isSo (d : PyData) : Prop := ∃ z, z ∈ sorts ∧ d = .str z
def isNo (k : Nat) (d : PyData) : Prop := ∃ n : Nat, k ≤ n ∧ NumOk n ∧ d = .int (n : Int)
def isSh (d : PyData) : Prop := ∃ zs : List Str, (∀ z ∈ zs, NameS z) ∧ zs.Nodup ∧ zs.length ≤ 9 ∧ d = .tuple (zs.map .str)
def isTu (Ps : List (PyData → Prop)) (d : PyData) : Prop := ∃ ds, Fits Ps ds ∧ d = .tuple ds
section
variable {p : Addr} {σ : L2.St} {H : Hp} {te tb tp tn : TE} {ta : TA} {n : Nat} {v : V} {d : PyData} {K : PySem.W.Frag} {E : XK} {P P2 : PyData → Prop} {Ps : List (PyData → Prop)} {z : Str}
theorem LayP.mono (h : LayP te p σ H P) (i : ∀ d, P d → P2 d) : LayP te p σ H P2 := fun Q q => h _ fun H' v d r hd hp => q H' v d r hd (i d hp)
theorem LayP.of (h : Giv te σ H v) (hp : Pot H p) (hd : Dt p H v d) (hP : P d) : LayP te p σ H P := fun Q q => h _ (q H v d (Drawn.refl hp) hd hP)
theorem LayP.str (hp : Pot H p) (hz : z.length ≤ 1000) (hP : P (.str z)) : LayP (tC (.str z)) p σ H P := LayP.of giv_c hp (.str z hz) hP
theorem LayP.int {i : Int} (hp : Pot H p) (hP : P (.int i)) : LayP (tC (.int i)) p σ H P := LayP.of giv_c hp (.int i) hP
theorem LayP.nameV (h : Giv te σ H (.str z)) (hp : Pot H p) (hz : NameS z) : LayP te p σ H isNm := LayP.of h hp (.str z hz.small) ⟨z, hz, rfl⟩
theorem LayP.word (hp : Giv tp σ H (.ref p)) (hq : Pot H p) : LayP (tCall spWord [] E (tCons tp tNil)) p σ H isWd := fun Q q => hp _ ⟨p, rfl, hq, fun z H' hz r => q H' _ (.str z) r (.str z hz.small) ⟨z, hz, rfl⟩⟩
theorem LayP.name (hp : Giv tp σ H (.ref p)) (hq : Pot H p) : LayP (tCall spName [] E (tCons tp (tCons (tLst tNil) tNil))) p σ H isNm := fun Q q => hp _ ⟨(by show 0 ≤ sizeLine; decide), fun u nu => ⟨p, u, [], rfl, hq.new nu, hq.ne nu, upd_same, (fun _ h => absurd h List.not_mem_nil), by decide, fun z H' hz _ r => q H' _ (.str z) (((Drawn.refl hq).new nu).trans r) (.str z hz.small) ⟨z, hz, rfl⟩⟩⟩
theorem LayP.whole {k : Nat} (hk : k ≤ 9) (hp : Giv tp σ H (.ref p)) (hq : Pot H p) (hn : Giv tn σ H (.int (k : Nat))) : LayP (tCall spWhole [] E (tCons tp (tCons tn tNil))) p σ H (isNo k) := fun Q q => hp _ (hn _ ⟨p, k, rfl, hq, fun j H' j0 j1 r => by
  obtain ⟨m, rfl⟩ := Int.eq_ofNat_of_zero_le (show 0 ≤ j by omega)
  have e : (10 : Int) ^ 30 = ((10 ^ 30 : Nat) : Int) := by norm_cast
  rw [e] at j1
  have e2 : (10 : Nat) ^ 31 = 10 ^ 30 * 10 := Nat.pow_succ 10 30
  have e3 : 9 < (10 : Nat) ^ 30 := by decide
  exact q H' _ (.int m) r (.int m) ⟨m, by omega, by unfold NumOk; omega, rfl⟩⟩)
theorem LayP.shut (hp : Giv tp σ H (.ref p)) (hi : LayI tn p σ H 10) : LayP (tCB (rTupOf K) (tCons (tCall spNames [] E (tCons tp (tCons tn (tCons (tLst tNil) tNil)))) tNil)) p σ H isSh := fun Q q => hp _ (hi _ fun H1 i r1 i0 i1 => ⟨(by show 0 ≤ sizeLine; decide), by
  obtain ⟨k, rfl⟩ := Int.eq_ofNat_of_zero_le i0
  refine names_new (Q := fun x H2 => rTupOf K [x] H2 Q) (E := E) (n := k) r1.pot (by omega) fun H2 c zs r2 nc ec hl hz nd => ?_
  refine ⟨c, _, rfl, .inl ⟨SqL.of ec, fun a na => q _ _ (.tuple (zs.map PyData.str)) ((r1.trans r2).new na) (.tup (r2.pot.ne na) ?_ upd_same (DtAll.names hz)) ⟨zs, hz, nd, by omega, rfl⟩⟩⟩
  rw [List.length_map]
  omega⟩)
theorem LaysP.nil (hp : Pot H p) : LaysP tNil p σ H [] := fun Q q => q H [] [] (Drawn.refl hp) .nil trivial
theorem LaysP.cons (h : LayP te p σ H P) (ht : ∀ H', Drawn p H H' → LaysP ta p σ H' Ps) : LaysP (tCons te ta) p σ H (P :: Ps) := fun Q q => h _ fun H1 v d r1 h1 p1 => ht H1 r1 _ fun H2 vs ds r2 h2 f2 => q H2 _ _ (r1.trans r2) (.cons (h1.keep r2.keep) h2) ⟨p1, f2⟩
theorem LaysP.tup (h : LaysP ta p σ H Ps) (hn : Ps.length ≤ 1000) : LayP (tTup ta) p σ H (isTu Ps) := fun Q q => h _ fun H1 vs ds r h1 f => by
  have l1 := h1.length
  have l2 := f.len
  exact ⟨Nat.le_of_lt (small1000 (by omega)), fun a na => q _ _ (.tuple ds) (r.new na) (.tup (r.pot.ne na) (by omega) upd_same (h1.keep (Keep.new na))) ⟨ds, f, rfl⟩⟩
/-- [..][a number] -/
theorem LaysP.pick (h : LaysP ta p σ H Ps) (hn : Ps.length ≤ 1000) (hP : ∀ R ∈ Ps, ∀ d, R d → P d) (hi : ∀ H', Drawn p H H' → LayI tb p σ H' Ps.length) : LayP (tOp (rIxL K) (tLst ta) tb) p σ H P := fun Q q => h _ fun H1 vs ds r h1 f => by
  have l1 := h1.length
  have l2 := f.len
  refine ⟨Nat.le_of_lt (small1000 (by omega)), fun a na => ?_⟩
  refine hi _ (r.new na) _ fun H2 i r2 i0 i1 => ?_
  have e2 : H2 a = some (.lst vs) := r2.keep _ _ (r.pot.ne na) upd_same
  have hh := (h1.keep (Keep.new na (o := .lst vs))).keep r2.keep
  obtain ⟨k, rfl⟩ := Int.eq_ofNat_of_zero_le i0
  have hk : vs[k]? = some (vs[k]'(by omega)) := List.getElem?_eq_getElem _
  obtain ⟨d, hd1, hd⟩ := hh.get hk
  exact ⟨a, vs, k, _, rfl, rfl, SqL.of e2, atI_nat hk, q _ _ d ((r.new na).trans r2) hd (f.all hP d (List.mem_of_getElem? hd1))⟩
variable {D : Ends} {u : TS} {i : Nat}
theorem setP (h : LayP te p σ H P) (q : ∀ (H' : Hp) (v : V) (d : PyData), Drawn p H H' → Dt p H' v d → P d → u D (σ.set i (some v)) H') : tSeq (tAsg te (gName i)) u D σ H := h _ q
theorem retP (h : LayP te p σ H P) (q : ∀ (H' : Hp) (v : V) (d : PyData), Drawn p H H' → Dt p H' v d → P d → D.rt v H') : tRet te D σ H := h _ q
end
def isThing (d : PyData) : Prop := ∃ t : Th, t.Good ∧ d = t.data
theorem thing_letter {d : PyData} (h : isTu [(· = .str "letter"), isNm, isNm, isWd] d) : isThing d := by
  obtain ⟨ds, f, rfl⟩ := h
  match ds, f with
  | [_, _, _, _], ⟨rfl, ⟨a, ha, rfl⟩, ⟨b, hb, rfl⟩, ⟨w, hw, rfl⟩, _⟩ => exact ⟨.letter a b w, ⟨ha, hb, hw⟩, rfl⟩
theorem thing_echo {d : PyData} (h : isTu [(· = .str "echo"), isNm, isNm, isSo, isTu [isNm, isNo 0]] d) : isThing d := by
  obtain ⟨ds, f, rfl⟩ := h
  match ds, f with
  | [_, _, _, _, _], ⟨rfl, ⟨a, ha, rfl⟩, ⟨b, hb, rfl⟩, ⟨w, hw, rfl⟩, ⟨es, g, rfl⟩, _⟩ =>
    match es, g with
    | [_, _], ⟨⟨m, hm, rfl⟩, ⟨n, _, hn, rfl⟩, _⟩ => exact ⟨.echo a b w m n, ⟨ha, hb, hw, hm, hn⟩, rfl⟩
theorem thing_answer {d : PyData} (h : isTu [(· = .str "answer"), isNm, isSo, isTu [isNm, isNo 0], isTu [isNm, isNo 1]] d) : isThing d := by
  obtain ⟨ds, f, rfl⟩ := h
  match ds, f with
  | [_, _, _, _, _], ⟨rfl, ⟨a, ha, rfl⟩, ⟨w, hw, rfl⟩, ⟨es, g, rfl⟩, ⟨es2, g2, rfl⟩, _⟩ =>
    match es, g, es2, g2 with
    | [_, _], ⟨⟨m, hm, rfl⟩, ⟨n, _, hn, rfl⟩, _⟩, [_, _], ⟨⟨m2, hm2, rfl⟩, ⟨n2, h1, hn2, rfl⟩, _⟩ => exact ⟨.answer a w m n m2 n2, ⟨ha, hw, hm, hn, hm2, h1, hn2⟩, rfl⟩
theorem thing_goer {d : PyData} (h : isTu [(· = .str "goer"), isNm, isNo 2, isSh] d) : isThing d := by
  obtain ⟨ds, f, rfl⟩ := h
  match ds, f with
  | [_, _, _, _], ⟨rfl, ⟨a, ha, rfl⟩, ⟨n, h2, hn, rfl⟩, ⟨zs, h3, h4, h5, rfl⟩, _⟩ => exact ⟨.goer a n zs, ⟨ha, h2, hn, h3, h4, h5⟩, rfl⟩
end Gj

namespace Gj
open PySem PySem.Spec PyProof.Rows L2
open C8 (Cal pe_c pe_gc)
def spThing : Sp := fun vs H Q _ => ∃ p, vs = [.ref p] ∧ Pot H p ∧ ∀ (H' : Hp) (v : V) (t : Th), Drawn p H H' → Dt p H' v t.data → t.Good → Q v H'
section
variable {P : Program} {w : World} {K : PySem.W.Frag} {mg : Str → Option Value} {base : Heap}
theorem sc__law_thing : FnScope ["_law_pot_here", "_law_one", "_law_other", "_law_sort", "_law_way", "_law_news"] ["_law_pot_here"] (defScope (topS 37)) := ⟨rfl, rfl, rfl, by decide +kernel, rfl, by decide +kernel, by decide +kernel⟩
theorem ok__law_thing (D : DefAt K mg "_law_thing" (topS 37)) (m : Mg mg) (c__law_digit : Cal P w K mg base 1 "_law_digit" spDigit []) (c__law_name : Cal P w K mg base 2 "_law_name" spName []) (c__law_names : Cal P w K mg base 3 "_law_names" spNames []) (c__law_word : Cal P w K mg base 2 "_law_word" spWord []) (c__law_whole : Cal P w K mg base 2 "_law_whole" spWhole []) : Cal P w K mg base 4 "_law_thing" spThing [] := by
  have sc := sc__law_thing
  refine mkCal D (fun _ _ _ _ _ _ us hl => match us, hl with | [_], _ => rfl) sc (fun vs H Q E h => ?_) (fun f cdv A outer s H vs Q E hr h => ?_)
  · obtain ⟨p, rfl, _⟩ := h
    rfl
  · obtain ⟨p, rfl, hp, q⟩ := h
    refine ⟨_, (pss_cons (ps_asg (pe_c c__law_names hr (by decide) (by rfl) (pa_cons (pv 0) (pa_cons pe_int (pa_cons (pe_lst pa_nil) pa_nil)))) (pg_unl (by rfl) (pgs_cons (pg_name (i := 1) sc.nd rfl (.inl rfl)) (pgs_cons (pg_name (i := 2) sc.nd rfl (.inl rfl)) pgs_nil))))
  (pss_cons (ps_set (i := 3) sc.nd rfl (.inl rfl) (pe_ix ix_list (pe_lst (pa_cons pe_str (pa_cons pe_str (pa_cons pe_str (pa_cons pe_str pa_nil))))) (pe_c c__law_digit hr (by decide) (by rfl) (pa_cons (pv 0) (pa_cons pe_int pa_nil))) (fun _ _ => rfl)))
  (pss_cons (ps_set (i := 4) sc.nd rfl (.inl rfl) (pe_c c__law_digit hr (by decide) (by rfl) (pa_cons (pv 0) (pa_cons pe_int pa_nil))))
  (pss_cons (ps_if (pt_cmpR op_eq (pv 4) pe_int (nomark _))
  (pss_one (ps_ret (pe_tup (pa_cons pe_str (pa_cons (pv 1) (pa_cons (pe_ix ix_list (pe_lst (pa_cons (pv 2) (pa_cons (pv 1) pa_nil))) (pe_c c__law_digit hr (by decide) (by rfl) (pa_cons (pv 0) (pa_cons pe_int pa_nil))) (fun _ _ => rfl)) (pa_cons (pe_c c__law_word hr (by decide) (by rfl) (pa_cons (pv 0) pa_nil)) pa_nil)))))))
  pss_nil)
  (pss_cons (ps_if (pt_cmpR op_eq (pv 4) pe_int (nomark _))
  (pss_one (ps_ret (pe_tup (pa_cons pe_str (pa_cons (pv 1) (pa_cons (pe_ix ix_list (pe_lst (pa_cons (pv 2) (pa_cons (pv 1) pa_nil))) (pe_c c__law_digit hr (by decide) (by rfl) (pa_cons (pv 0) (pa_cons pe_int pa_nil))) (fun _ _ => rfl)) (pa_cons (pv 3) (pa_cons (pe_tup (pa_cons (pe_c c__law_name hr (by decide) (by rfl) (pa_cons (pv 0) (pa_cons (pe_lst pa_nil) pa_nil))) (pa_cons (pe_c c__law_whole hr (by decide) (by rfl) (pa_cons (pv 0) (pa_cons pe_int pa_nil))) pa_nil))) pa_nil))))))))
  pss_nil)
  (pss_cons (ps_if (pt_cmpR op_eq (pv 4) pe_int (nomark _))
  (pss_cons (ps_set (i := 5) sc.nd rfl (.inl rfl) (pe_tup (pa_cons (pe_ix ix_list (pe_lst (pa_cons (pv 2) (pa_cons (pv 1) pa_nil))) (pe_c c__law_digit hr (by decide) (by rfl) (pa_cons (pv 0) (pa_cons pe_int pa_nil))) (fun _ _ => rfl)) (pa_cons (pe_c c__law_whole hr (by decide) (by rfl) (pa_cons (pv 0) (pa_cons pe_int pa_nil))) pa_nil))))
  (pss_one (ps_ret (pe_tup (pa_cons pe_str (pa_cons (pv 1) (pa_cons (pv 3) (pa_cons (pe_tup (pa_cons (pe_c c__law_name hr (by decide) (by rfl) (pa_cons (pv 0) (pa_cons (pe_lst pa_nil) pa_nil))) (pa_cons (pe_c c__law_whole hr (by decide) (by rfl) (pa_cons (pv 0) (pa_cons pe_int pa_nil))) pa_nil))) (pa_cons (pv 5) pa_nil)))))))))
  pss_nil)
  (pss_one (ps_ret (pe_tup (pa_cons pe_str (pa_cons (pv 1) (pa_cons (pe_c c__law_whole hr (by decide) (by rfl) (pa_cons (pv 0) (pa_cons pe_int pa_nil))) (pa_cons (pe_callTy call_tuple_of (by rfl) m.tuple (by decide +kernel) (pa_cons (pe_c c__law_names hr (by decide) (by rfl) (pa_cons (pv 0) (pa_cons (pe_c c__law_digit hr (by decide) (by rfl) (pa_cons (pv 0) (pa_cons pe_int pa_nil))) (pa_cons (pe_lst pa_nil) pa_nil)))) pa_nil)) pa_nil))))))))))))), ?_⟩
    refine ⟨_, rfl, (by show 0 ≤ sizeLine; decide), fun u nu => ⟨p, u, [], 2, rfl, hp.new nu, hp.ne nu, upd_same, (fun _ h => absurd h List.not_mem_nil), by decide, fun b zs H1 nc nb hl hz nd _ rr eb => ?_⟩⟩
    have r1 := ((Drawn.refl hp).new nu (o := .lst [])).trans rr
    match zs, hl, hz with
    | [z1, z2], _, hz =>
    have h1 := hz z1 (by simp)
    have h2 := hz z2 (by simp)
    refine ⟨b, _, rfl, SqL.of eb, rfl, _, _, rfl, _, _, rfl, rfl, ?_⟩
    have r0 := Drawn.refl r1.pot
    dsimp only
    refine setP (p := p) (P := isSo) ?_ fun H2 v d r2 hs hso => ?_
    · exact (LaysP.pick (K := K) (P := isSo) (LaysP.cons (LayP.str (P := isSo) r0.pot (by decide) ⟨_, by decide +kernel, rfl⟩) fun _ r_2 => (LaysP.cons (LayP.str (P := isSo) (r0.trans r_2).pot (by decide) ⟨_, by decide +kernel, rfl⟩) fun _ r_3 => (LaysP.cons (LayP.str (P := isSo) ((r0.trans r_2).trans r_3).pot (by decide) ⟨_, by decide +kernel, rfl⟩) fun _ r_4 => (LaysP.cons (LayP.str (P := isSo) (((r0.trans r_2).trans r_3).trans r_4).pot (by decide) ⟨_, by decide +kernel, rfl⟩) fun _ r_5 => (LaysP.nil ((((r0.trans r_2).trans r_3).trans r_4).trans r_5).pot))))) (by decide) (by simp) fun _ r_1 => (LayI.digit (giv_var rfl) (r0.trans r_1).pot giv_c (by decide) (by decide +kernel)))
    refine setI (p := p) (n := 4) ?_ fun H3 i r23 i0 i1 => ?_
    · exact (LayI.digit (giv_var rfl) r2.pot giv_c (by decide) (by decide +kernel))
    have hs := hs.keep r23.keep
    have R3 := (r1.trans r2).trans r23
    refine ifS (isI (giv_var rfl)) (fun _ Hx sx => ?_) (fun _ Hx sx => ?_)
    · have r3 : Drawn p H3 Hx := (Drawn.refl r23.pot).same sx
      refine retP (p := p) (P := isTu [(· = .str "letter"), isNm, isNm, isWd]) ?_ fun H5 v d r5 hv hP => ?_
      · exact (LaysP.tup (LaysP.cons (LayP.str (Drawn.refl r3.pot).pot (by decide) rfl) fun _ r_6 => (LaysP.cons (LayP.nameV (giv_var rfl) ((Drawn.refl r3.pot).trans r_6).pot h1) fun _ r_7 => (LaysP.cons (LaysP.pick (K := K) (P := isNm) (LaysP.cons (LayP.nameV (giv_var rfl) (((Drawn.refl r3.pot).trans r_6).trans r_7).pot h2) fun _ r_10 => (LaysP.cons (LayP.nameV (giv_var rfl) ((((Drawn.refl r3.pot).trans r_6).trans r_7).trans r_10).pot h1) fun _ r_11 => (LaysP.nil (((((Drawn.refl r3.pot).trans r_6).trans r_7).trans r_10).trans r_11).pot))) (by decide) (by simp) fun _ r_9 => (LayI.digit (giv_var rfl) ((((Drawn.refl r3.pot).trans r_6).trans r_7).trans r_9).pot giv_c (by decide) (by decide +kernel))) fun _ r_8 => (LaysP.cons (LayP.word (giv_var rfl) ((((Drawn.refl r3.pot).trans r_6).trans r_7).trans r_8).pot) fun _ r_12 => (LaysP.nil (((((Drawn.refl r3.pot).trans r_6).trans r_7).trans r_8).trans r_12).pot))))) (by decide))
      obtain ⟨t, tg, rfl⟩ := thing_letter hP
      exact q H5 v t ((R3.trans r3).trans r5) hv tg
    have r3 : Drawn p H3 Hx := (Drawn.refl r23.pot).same sx
    refine ifS (isI (giv_var rfl)) (fun _ Hy sy => ?_) (fun _ Hy sy => ?_)
    · have r3 := r3.same sy
      have hs := hs.keep r3.keep
      refine retP (p := p) (P := isTu [(· = .str "echo"), isNm, isNm, isSo, isTu [isNm, isNo 0]]) ?_ fun H5 v d r5 hv hP => ?_
      · exact (LaysP.tup (LaysP.cons (LayP.str (Drawn.refl r3.pot).pot (by decide) rfl) fun _ r_13 => (LaysP.cons (LayP.nameV (giv_var rfl) ((Drawn.refl r3.pot).trans r_13).pot h1) fun _ r_14 => (LaysP.cons (LaysP.pick (K := K) (P := isNm) (LaysP.cons (LayP.nameV (giv_var rfl) (((Drawn.refl r3.pot).trans r_13).trans r_14).pot h2) fun _ r_17 => (LaysP.cons (LayP.nameV (giv_var rfl) ((((Drawn.refl r3.pot).trans r_13).trans r_14).trans r_17).pot h1) fun _ r_18 => (LaysP.nil (((((Drawn.refl r3.pot).trans r_13).trans r_14).trans r_17).trans r_18).pot))) (by decide) (by simp) fun _ r_16 => (LayI.digit (giv_var rfl) ((((Drawn.refl r3.pot).trans r_13).trans r_14).trans r_16).pot giv_c (by decide) (by decide +kernel))) fun _ r_15 => (LaysP.cons (LayP.of (giv_var rfl) ((((Drawn.refl r3.pot).trans r_13).trans r_14).trans r_15).pot (hs.keep ((((Drawn.refl r3.pot).trans r_13).trans r_14).trans r_15).keep) hso) fun _ r_19 => (LaysP.cons (LaysP.tup (LaysP.cons (LayP.name (giv_var rfl) (((((Drawn.refl r3.pot).trans r_13).trans r_14).trans r_15).trans r_19).pot) fun _ r_21 => (LaysP.cons (LayP.whole (k := 0) (by decide) (giv_var rfl) ((((((Drawn.refl r3.pot).trans r_13).trans r_14).trans r_15).trans r_19).trans r_21).pot giv_c) fun _ r_22 => (LaysP.nil (((((((Drawn.refl r3.pot).trans r_13).trans r_14).trans r_15).trans r_19).trans r_21).trans r_22).pot))) (by decide)) fun _ r_20 => (LaysP.nil ((((((Drawn.refl r3.pot).trans r_13).trans r_14).trans r_15).trans r_19).trans r_20).pot)))))) (by decide))
      obtain ⟨t, tg, rfl⟩ := thing_echo hP
      exact q H5 v t ((R3.trans r3).trans r5) hv tg
    have r3 := r3.same sy
    refine ifS (isI (giv_var rfl)) (fun _ Hz sz => ?_) (fun _ Hz sz => ?_)
    · have r3 := r3.same sz
      have hs := hs.keep r3.keep
      refine setP (p := p) (P := isTu [isNm, isNo 1]) ?_ fun H4 nv nd2 r4 hnv hpn => ?_
      · exact (LaysP.tup (LaysP.cons (LaysP.pick (K := K) (P := isNm) (LaysP.cons (LayP.nameV (giv_var rfl) (Drawn.refl r3.pot).pot h2) fun _ r_25 => (LaysP.cons (LayP.nameV (giv_var rfl) ((Drawn.refl r3.pot).trans r_25).pot h1) fun _ r_26 => (LaysP.nil (((Drawn.refl r3.pot).trans r_25).trans r_26).pot))) (by decide) (by simp) fun _ r_24 => (LayI.digit (giv_var rfl) ((Drawn.refl r3.pot).trans r_24).pot giv_c (by decide) (by decide +kernel))) fun _ r_23 => (LaysP.cons (LayP.whole (k := 1) (by decide) (giv_var rfl) ((Drawn.refl r3.pot).trans r_23).pot giv_c) fun _ r_27 => (LaysP.nil (((Drawn.refl r3.pot).trans r_23).trans r_27).pot))) (by decide))
      have hs := hs.keep r4.keep
      refine retP (p := p) (P := isTu [(· = .str "answer"), isNm, isSo, isTu [isNm, isNo 0], isTu [isNm, isNo 1]]) ?_ fun H5 v d r5 hv hP => ?_
      · exact (LaysP.tup (LaysP.cons (LayP.str (Drawn.refl r4.pot).pot (by decide) rfl) fun _ r_28 => (LaysP.cons (LayP.nameV (giv_var rfl) ((Drawn.refl r4.pot).trans r_28).pot h1) fun _ r_29 => (LaysP.cons (LayP.of (giv_var rfl) (((Drawn.refl r4.pot).trans r_28).trans r_29).pot (hs.keep (((Drawn.refl r4.pot).trans r_28).trans r_29).keep) hso) fun _ r_30 => (LaysP.cons (LaysP.tup (LaysP.cons (LayP.name (giv_var rfl) ((((Drawn.refl r4.pot).trans r_28).trans r_29).trans r_30).pot) fun _ r_32 => (LaysP.cons (LayP.whole (k := 0) (by decide) (giv_var rfl) (((((Drawn.refl r4.pot).trans r_28).trans r_29).trans r_30).trans r_32).pot giv_c) fun _ r_33 => (LaysP.nil ((((((Drawn.refl r4.pot).trans r_28).trans r_29).trans r_30).trans r_32).trans r_33).pot))) (by decide)) fun _ r_31 => (LaysP.cons (LayP.of (giv_var rfl) (((((Drawn.refl r4.pot).trans r_28).trans r_29).trans r_30).trans r_31).pot (hnv.keep (((((Drawn.refl r4.pot).trans r_28).trans r_29).trans r_30).trans r_31).keep) hpn) fun _ r_34 => (LaysP.nil ((((((Drawn.refl r4.pot).trans r_28).trans r_29).trans r_30).trans r_31).trans r_34).pot)))))) (by decide))
      obtain ⟨t, tg, rfl⟩ := thing_answer hP
      exact q H5 v t (((R3.trans r3).trans r4).trans r5) hv tg
    · have r3 := r3.same sz
      refine retP (p := p) (P := isTu [(· = .str "goer"), isNm, isNo 2, isSh]) ?_ fun H5 v d r5 hv hP => ?_
      · exact (LaysP.tup (LaysP.cons (LayP.str (Drawn.refl r3.pot).pot (by decide) rfl) fun _ r_35 => (LaysP.cons (LayP.nameV (giv_var rfl) ((Drawn.refl r3.pot).trans r_35).pot h1) fun _ r_36 => (LaysP.cons (LayP.whole (k := 2) (by decide) (giv_var rfl) (((Drawn.refl r3.pot).trans r_35).trans r_36).pot giv_c) fun _ r_37 => (LaysP.cons (LayP.shut (K := K) (giv_var rfl) (LayI.digit (giv_var rfl) ((((Drawn.refl r3.pot).trans r_35).trans r_36).trans r_37).pot giv_c (by decide) (by decide +kernel))) fun _ r_38 => (LaysP.nil (((((Drawn.refl r3.pot).trans r_35).trans r_36).trans r_37).trans r_38).pot))))) (by decide))
      obtain ⟨t, tg, rfl⟩ := thing_goer hP
      exact q H5 v t ((R3.trans r3).trans r5) hv tg
end
end Gj

namespace Gj
open PySem PySem.Spec PyProof.Rows L2
open C8 (Cal pe_c pe_gc)
def spLaw (K : PySem.W.Frag) : Sp := fun vs H Q _ => ∃ (a : Addr) (ns : List Int), vs = [.ref a] ∧ SqL K H a (ns.map V.int) ∧ ns.length ≤ 63 ∧ ∀ H', Q (.bl true) H'
def bnd : Nat → Nat
  | 0 => 130
  | n + 1 => 2 * bnd n + 33
theorem names_sum : ∀ {zs : List Str}, (∀ z ∈ zs, NameS z) → (zs.map (·.length)).sum ≤ 8 * zs.length
  | [], _ => Nat.zero_le _
  | z :: l, h => by
    have h1 := (h z List.mem_cons_self).len
    have h2 := names_sum fun y m => h y (List.mem_cons_of_mem z m)
    rw [List.map_cons, List.sum_cons, List.length_cons]
    omega
theorem Th.Good.len130 {t : Th} (h : t.Good) : t.text.length ≤ 130 := by
  have h1 := join_len " " t.words
  have e : (" " : Str).length = 1 := by decide +kernel
  rw [e] at h1
  have so : ∀ s ∈ sorts, s.length ≤ 8 := by decide +kernel
  have e1 : ("letter" : Str).length = 6 := by decide +kernel
  have e2 : ("echo" : Str).length = 4 := by decide +kernel
  have e3 : ("answer" : Str).length = 6 := by decide +kernel
  have e4 : ("goer" : Str).length = 4 := by decide +kernel
  refine Nat.le_trans (show t.text.length ≤ _ from h1) ?_
  cases t with
  | letter a b w =>
    obtain ⟨ha, hb, hw⟩ := h
    have := ha.len
    have := hb.len
    have hw : w.length ≤ 12 := by
      obtain ⟨cs, e, h1, h2, _⟩ := hw.ex
      rw [e, SX.S_len]
      exact h2
    simp only [Th.words, List.map_cons, List.map_nil, List.sum_cons, List.sum_nil, List.length_cons, List.length_nil, e1]
    omega
  | echo a b s m n =>
    obtain ⟨ha, hb, hs, hm, hn⟩ := h
    have := ha.len
    have := hb.len
    have := so s hs
    have := hm.len
    have := num_len hn
    simp only [Th.words, List.map_cons, List.map_nil, List.sum_cons, List.sum_nil, List.length_cons, List.length_nil, e2]
    omega
  | answer a s m n b k =>
    obtain ⟨ha, hs, hm, hn, hb, _, hk⟩ := h
    have := ha.len
    have := hb.len
    have := so s hs
    have := hm.len
    have := num_len hn
    have := num_len hk
    simp only [Th.words, List.map_cons, List.map_nil, List.sum_cons, List.sum_nil, List.length_cons, List.length_nil, e3]
    omega
  | goer a n zs =>
    obtain ⟨ha, _, hn, hz, _, lz⟩ := h
    have := ha.len
    have := num_len hn
    have := names_sum hz
    simp only [Th.words, List.map_cons, List.map_nil, List.sum_cons, List.sum_nil, List.length_cons, List.length_nil, e4]
    omega
theorem thing_none_of {d : PyData} (h : ∀ z, d ≠ .str z) : thingZ d = none := by
  cases d with
  | str z => exact absurd rfl (h z)
  | _ => rfl
theorem Dt.tupAt {p : Addr} {H : Hp} {v : V} {ds : List PyData} (h : Dt p H v (.tuple ds)) : ∃ c xs, v = .ref c ∧ c ≠ p ∧ xs.length ≤ 1000 ∧ H c = some (.tup xs) ∧ DtAll p H xs ds := by
  cases h with
  | tup n z e h => exact ⟨_, _, rfl, n, z, e, h⟩
theorem Pot.not {p : Addr} {H : Hp} (h : Pot H p) : H p ≠ none := by
  obtain ⟨a, b, e, _⟩ := h
  rw [e]
  intro z
  cases z
def NotS (d : PyData) : Prop := ∀ z, d ≠ .str z
section
variable {P : Program} {w : World} {K : PySem.W.Frag} {mg : Str → Option Value} {base : Heap}
theorem sc_law : FnScope ["_law_script", "_law_k", "_law_pot_here", "_law_turn", "_law_text", "_law_change", "_law_odd"] ["_law_script"] (defScope (topS 48)) := ⟨rfl, rfl, rfl, by decide +kernel, rfl, by decide +kernel, by decide +kernel⟩
theorem ok_law {f : Addr} {fd : FuncData} (F : Fun K "law" "law" (topS 48) f fd) (m : Mg mg) (c__law_pot : Cal P w K mg base 1 "_law_pot" (spPot K) []) (c__law_digit : Cal P w K mg base 1 "_law_digit" spDigit []) (c__law_thing : Cal P w K mg base 4 "_law_thing" spThing []) (c_thing_text : Cal P w K mg base 1 "thing_text" spTT []) (c__law_changed : Cal P w K mg base 3 "_law_changed" spChg []) (c__law_is_far : Cal P w K mg base 1 "_law_is_far" spFar []) (c__law_told : Cal P w K mg base 8 "_law_told" spTold16 []) (g__law_right : CalG P w K mg base 9 "_law_right" spRight16) : FnG P w K mg base CX0 10 f fd ["_law_script"] (spLaw K) := by
  have sc := sc_law
  refine fnGn F sc (fun vs H Q E h => ?_) (fun cdv A outer s H vs Q E hg hr h => ?_)
  · obtain ⟨x, z, rfl, _⟩ := h
    rfl
  · obtain ⟨a, ns, rfl, hS, hlen, q⟩ := h
    refine ⟨_, (pss_cons (ps_for PassesOwn.never rfl (pi_range1 (by rfl) m.range (pa_cons (pe_callB (call_max2 rfl) (by rfl) m.max (by decide +kernel) (pa_cons pe_int (pa_cons (pe_callB (call_min2 rfl) (by rfl) m.min (by decide +kernel) (pa_cons pe_int (pa_cons (pe_callB call_len (by rfl) m.len (by decide +kernel) (pa_cons (pv 0) pa_nil)) pa_nil))) pa_nil))) pa_nil)) (pg_name (i := 1) sc.nd rfl (.inl rfl))
  (pss_cons (ps_set (i := 2) sc.nd rfl (.inl rfl) (pe_c c__law_pot hr (by decide) (by rfl) (pa_cons (pv 0) (pa_cons (pv 1) pa_nil))))
  (pss_cons (ps_for PassesOwn.never rfl (pi_range1 (by rfl) m.range (pa_cons pe_int pa_nil)) (pg_name (i := 3) sc.nd rfl (.inl rfl))
  (pss_cons (ps_set (i := 4) sc.nd rfl (.inl rfl) (pe_c c_thing_text hr (by decide) (by rfl) (pa_cons (pe_c c__law_thing hr (by decide) (by rfl) (pa_cons (pv 2) pa_nil)) pa_nil)))
  (pss_cons (ps_for PassesOwn.never rfl (pi_range1 (by rfl) m.range (pa_cons (pe_c c__law_digit hr (by decide) (by rfl) (pa_cons (pv 2) (pa_cons pe_int pa_nil))) pa_nil)) (pg_name (i := 5) sc.nd rfl (.inl rfl))
  (pss_one (ps_set (i := 4) sc.nd rfl (.inl rfl) (pe_c c__law_changed hr (by decide) (by rfl) (pa_cons (pv 2) (pa_cons (pv 4) pa_nil))))))
  (pss_one (ps_if (PW.pt (pw_and (pt_not (pt_val (pe_c c__law_is_far hr (by decide) (by rfl) (pa_cons (pv 4) pa_nil)))) (pw_and1 (pt_not (pt_val (pe_cG g__law_right hg hr (by decide) (by rfl) (pa_cons (pv 4) pa_nil)))))))
  (pss_one (ps_ret pe_bl))
  pss_nil)))))
  (pss_cons (ps_set (i := 6) sc.nd rfl (.inl rfl) (pe_ix ix_list (pe_lst (pa_cons pe_non (pa_cons pe_int (pa_cons (pe_lst (pa_cons pe_str pa_nil)) (pa_cons (pe_tup (pa_cons pe_str (pa_cons pe_str (pa_cons pe_int (pa_cons (pe_tup pa_nil) pa_nil))))) (pa_cons pe_dnewK (pa_cons pe_bl pa_nil))))))) (pe_c c__law_digit hr (by decide) (by rfl) (pa_cons (pv 2) (pa_cons pe_int pa_nil))) (fun _ _ => rfl)))
  (pss_one (ps_if (pt_cmpR (op_neD hr.units) (pe_c c__law_told hr (by decide) (by rfl) (pa_cons (pv 6) pa_nil)) (pe_tup (pa_cons pe_str (pa_cons pe_bl pa_nil))) (nomark _))
  (pss_one (ps_ret pe_bl))
  pss_nil))))))
  (pss_one (ps_ret pe_bl))), ?_⟩
    obtain ⟨N, hN, hN2⟩ : ∃ N : Int, (if (if ((ns.map V.int).length : Int) < 4 then ((ns.map V.int).length : Int) else 4) > 1 then (if ((ns.map V.int).length : Int) < 4 then ((ns.map V.int).length : Int) else 4) else 1) = N ∧ 0 ≤ N ∧ N ≤ 1000 := by
      refine ⟨_, rfl, ?_, ?_⟩ <;> split <;> (try split) <;> omega
    refine ⟨_, rfl, _, _, rfl, .inl ⟨_, hS, rfl⟩, _, _, rfl, _, _, rfl, N, by rw [← hN], by omega, by omega, ?_⟩
    refine for_range (fun i σ H' => ∃ y1 y2 y3 y4 y5 y6, σ = [some (.ref a), y1, y2, y3, y4, y5, y6] ∧ SqL K H' a (ns.map V.int)) ⟨_, _, _, _, _, _, rfl, hS⟩ (fun i σ H1 hi hp => ?_) (fun σ H1 hp => ?_)
    · obtain ⟨y1, y2, y3, y4, y5, y6, rfl, hS1⟩ := hp
      refine ⟨_, rfl, _, rfl, a, ns, _, rfl, hS1, by omega, by omega, fun p H2 np sm hp => ?_⟩
      have kp : ∀ {G G' : Hp}, Same H1 G → Drawn p G G' → Same H1 G' := fun s r b o e => r.keep _ _ (ne_of_none e np) (s b o e)
      refine ⟨2, rfl, by decide, by decide, ?_⟩
      refine for_range (fun j σ G => ∃ y3 y4 y5 y6, σ = [some (.ref a), some (.int (0 + i)), some (.ref p), y3, y4, y5, y6] ∧ Same H1 G ∧ Pot G p) ⟨_, _, _, _, rfl, sm, hp⟩ (fun j σ H3 hj hq => ?_) (fun σ H3 hq => ?_)
      · obtain ⟨z3, z4, z5, z6, rfl, sm, hp⟩ := hq
        refine setE ?_
        refine ⟨_, rfl, p, rfl, hp, fun H4 v t r4 hv tg => ?_⟩
        have sm := kp sm r4
        have hv0 := hv
        obtain ⟨c, xs, rfl, nc, lx, ec, ha⟩ := Dt.tupAt hv0
        refine ⟨p, c, xs, t, rfl, ec, ha, tg, fun H5 s5 => ?_⟩
        have hp := r4.pot.same s5
        have sm := sm.trans s5
        have l0 := tg.len130
        (try dsimp only)
        clear hv hv0 ec ha r4 s5
        refine LayI.digit (giv_var rfl) hp giv_c (by decide) (by decide) _ fun H6 n r6 n0 n1 => ?_
        obtain ⟨n, rfl⟩ := Int.eq_ofNat_of_zero_le n0
        refine ⟨(n : Int), rfl, by omega, by omega, ?_⟩
        refine for_range (fun k σ G => ∃ y5 z, σ = [some (.ref a), some (.int (0 + i)), some (.ref p), some (.int (0 + (j : Int))), some (.str z), y5, z6] ∧ Same H1 G ∧ Pot G p ∧ z.length ≤ bnd k) ⟨_, _, rfl, kp sm r6, r6.pot, l0⟩ (fun k σ G hk h => ?_) (fun σ G h => ?_)
        · obtain ⟨y5, z, rfl, sm, hp, lz⟩ := h
          refine gNameE ?_
          (try dsimp only)
          have hk2 : k = 0 ∨ k = 1 := by omega
          refine ⟨_, rfl, _, rfl, p, z, bnd k, rfl, hp, lz, ?_, fun G8 y r8 ly => ⟨_, y, rfl, kp sm r8, r8.pot, ly⟩⟩
          rcases hk2 with rfl | rfl <;> decide
        · obtain ⟨y5, z, rfl, sm, hp, lz⟩ := h
          have lz : z.length ≤ 900 := by
            have hM : n = 0 ∨ n = 1 ∨ n = 2 := by omega
            rcases hM with rfl | rfl | rfl <;> exact Nat.le_trans lz (by decide)
          (try dsimp only)
          refine ifL (c := !farB z && false) ?_ (fun e => by rw [Bool.and_false] at e; cases e) (fun _ G9 s9 => ⟨_, _, _, _, rfl, sm.trans s9, hp.same s9⟩)
          refine SayT.and (a := !farB z) (b := false) ?_ ?_
          · exact SayT.not (Say.tB (a := farB z) fun Q' q' => ⟨_, rfl, z, rfl, lz, q'⟩)
          · intro e G9 s9
            have e : farB z = false := by simpa using e
            refine SayT.of (SayT.not (Say.tB (a := true) fun Q' q' => ?_)) rfl
            exact ⟨_, rfl, p, z, rfl, lz, far_num e, (hp.same s9).not, q'⟩
      · obtain ⟨y3, y4, y5, y6, rfl, sm, hp⟩ := hq
        (try dsimp only)
        refine setE ?_
        refine LaP.run (p := p) (S := NotS) (LaPL.pick (T := AllN NotS 6) (LaPs.lstL (LaPs.cons (S := NotS) (LaP.of giv_c hp .non (fun z e => by cases e)) fun _ g0 => LaPs.cons (S := NotS) (LaP.of giv_c g0.pot (.int 7) (fun z e => by cases e)) fun _ g1 => LaPs.cons (S := NotS) (LaPs.lst (T := AllN (fun _ => True) 1) (LaPs.cons (LaP.of giv_c g1.pot (.str _ (by decide)) True.intro) fun _ h1 => LaPs.nil h1.pot) fun ds h => ⟨by rw [h.1]; decide, fun z e => by cases e⟩) fun _ g2 => LaPs.cons (S := NotS) (LaPs.tup (T := AllN (fun _ => True) 4) (LaPs.cons (LaP.of giv_c g2.pot (.str _ (by decide)) True.intro) fun _ h1 => LaPs.cons (LaP.of giv_c h1.pot (.str _ (by decide)) True.intro) fun _ h2 => LaPs.cons (LaP.of giv_c h2.pot (.int 2) True.intro) fun _ h3 => LaPs.cons (LaPs.tup (T := AllN (fun _ => True) 0) (LaPs.nil h3.pot) fun ds h => ⟨by rw [h.1]; decide, True.intro⟩) fun _ h4 => LaPs.nil h4.pot) fun ds h => ⟨by rw [h.1]; decide, fun z e => by cases e⟩) fun _ g3 => LaPs.cons (S := NotS) (LaP.dnew g3.pot (fun z e => by cases e)) fun _ g4 => LaPs.cons (S := NotS) (LaP.of giv_c g4.pot (.bl true) (fun z e => by cases e)) fun _ g5 => LaPs.nil g5.pot) fun ds h => by rw [h.1]; decide) (fun G c xs ds r ec hd hT => ?_) (fun ds h => h.2)) fun H4 v d r4 hv hd => ?_
        · have e6 : xs.length = 6 := by rw [hd.length, hT.1]
          rw [e6]
          exact LayI.digit (giv_var rfl) r.pot giv_c (by decide) (by decide)
        have sm := kp sm r4
        have hp := r4.pot
        (try dsimp only)
        refine ifL (c := false) (Say.tTest fun Q' q' => ?_) (fun e => by cases e) (fun _ G9 s9 => ⟨_, _, _, _, _, _, rfl, (sm.trans s9).seq hS1⟩)
        refine ⟨_, rfl, p, v, d, rfl, hv, hp.not, fun z e => absurd e (hd z), fun e he => (by rw [thing_none_of hd] at he; cases he), fun _ H5 t s5 ht => ?_⟩
        refine ⟨(by show 2 ≤ sizeLine; decide), fun u nu => ?_⟩
        have su := same_new (o := .tup [.str "refused", .bl true]) nu
        refine ⟨.tuple [.str "refused", .bool true], .tuple [.str "refused", .bool true], Dt.dp (ht.same su) rfl, .tup (SqT.of upd_same) (.cons (.str _) (.cons (.bl _) .nil)), by decide +kernel, by decide +kernel, ?_⟩
        rw [show PyData.eqv (.tuple [.str "refused", .bool true]) (.tuple [.str "refused", .bool true]) = true by decide +kernel]
        exact q' _ (s5.trans su)
    · obtain ⟨y1, y2, y3, y4, y5, y6, rfl, hS1⟩ := hp
      exact q _
end
end Gj

set_option maxHeartbeats 0
namespace Gj
open PySem PySem.Spec PyProof.Rows L2
open C8 (Cal pe_c pe_gc)
def dd (x : Str) (i : Nat) : He.DefD := ⟨(x, none), x, x, defArgs (topS i), defBody (topS i), defScope (topS i), [], []⟩
def ddm (C m q : Str) (st : Stmt) (kw : List (Str × V)) : He.DefD := ⟨(C, some m), m, q, defArgs st, defBody st, defScope st, [], kw.map fun z => (z.1, match z.2 with | .int i => .int i | .bl b => .bl b | .str x => .str x | _ => .non)⟩
def fn : List He.DefD := ([dd "_law_digit" 32, dd "_law_pot" 31, dd "_law_name" 33, dd "_law_names" 34, dd "_law_word" 35, dd "_law_whole" 36, dd "is_text_of" 8, dd "is_name" 9, dd "is_word" 10, dd "is_whole" 13] : List _) ++ ([dd "is_pair" 14, dd "is_sort" 15, dd "is_shut" 16, dd "begins" 17, dd "is_letter" 18, dd "is_echo" 19, dd "is_answer" 20, dd "is_goer" 21, dd "is_parcel" 22, dd "is_thing" 23] : List _) ++ ([dd "thing_text" 25, dd "number_of" 26, dd "pair_of" 27, dd "told_by" 28, dd "_law_thing" 37, dd "_law_is_name" 38, dd "_law_is_word" 39, dd "_law_is_number" 40, dd "_law_are" 41, dd "_law_due" 42] : List _) ++ ([dd "_law_changed_words" 43, dd "_law_changed" 44, dd "_law_is_far" 45, dd "_law_told" 46, dd "_law_right" 47, dd "thing_of" 29, dd "law" 48] : List _)
def fa : List He.Fa := ([.glo "_law_digit", .glo "_law_pot", .glo "_law_name", .glo "_law_names", .glo "_law_word", .glo "_law_whole", .glo "is_text_of", .glo "is_name", .glo "is_word", .glo "is_whole"] : List _) ++ ([.glo "is_pair", .glo "is_sort", .glo "is_shut", .glo "begins", .glo "is_letter", .glo "is_echo", .glo "is_answer", .glo "is_goer", .glo "is_parcel", .glo "is_thing"] : List _) ++ ([.glo "thing_text", .glo "number_of", .glo "pair_of", .glo "told_by", .glo "_law_thing", .glo "_law_is_name", .glo "_law_is_word", .glo "_law_is_number", .glo "_law_are", .glo "_law_due"] : List _) ++ ([.glo "_law_changed_words", .glo "_law_changed", .glo "_law_is_far", .glo "_law_told", .glo "_law_right", .glo "thing_of", .glo "law", .free "len", .free "isinstance", .free "str"] : List _) ++ ([.free "all", .free "any", .free "max", .free "min", .free "abs", .free "range", .free "int", .free "repr", .free "tuple", .free "bool"] : List _) ++ ([.free "set", .free "list", .free "enumerate", .free "zip", .free "dict", .free "ValueError", .str "LETTERS" sLetters, .str "FIGURES" sFigures, .glo "SORTS", .glo "WalkError"] : List _) ++ ([.glo "NoThing", .glo "NoRow", .glo "NoWord"] : List _)
def ex (K : PySem.W.Frag) : Bool := He.tupB K "SORTS" [.str "came", .str "short", .str "ask", .str "row"] && (excB K (He.ga K "NoThing") && (decide (PySem.W.exmOne K (.ref (He.ga K "NoThing")) (.ref (He.ga K "NoThing")) = some true) && (decide (PySem.W.kitOne K (.ref (He.ga K "NoThing")) (.ref (He.ga K "WalkError")) = some true) && (decide (PySem.W.kitOne K (.ref (He.ga K "NoThing")) (.type "ValueError") = some true) && (decide (PySem.W.kitAny K (.ref (He.ga K "NoThing")) [.ref (He.ga K "NoRow"), .ref (He.ga K "NoWord")] = some false) && (decide (PySem.W.excIn K (He.ga K "NoThing") veT "ValueError.__new__" = true) && (decide (PySem.W.keepIn K (.ref (He.ga K "NoThing")) = true) && (decide (PySem.W.subIn K (.ref (He.ga K "NoThing")) (.type "BaseException") = some true) && (decide (PySem.W.typeIn K (.ref (He.ga K "NoThing")) = some (.type "type")))))))))))
abbrev R : PySem.W.OpenRow := PySem.W.OpenLaw.row PySem.Challenge.rw_walkbox_k16_whole_texts_nearly_good
abbrev hk : PySem.W.Hook := He.hookX 5 fa fn [] [] ex
def ob (s : PySem.W.SharedT) : He.AlX := He.obsX 5 fa fn [] [] ex (HandSHeadRun.getT s)
theorem ob_eq (s : PySem.W.SharedT) : ob s = hk.obs s.abs := He.obsX_eq (HandSHeadRun.getT_eq s)
def names : List Str := (["__name__", "LETTERS", "FIGURES", "SORTS", "WalkError", "NoThing", "NoWord", "NoRow", "is_text_of", "is_name", "is_word", "is_whole"] : List Str) ++ (["is_pair", "is_sort", "is_shut", "begins", "is_letter", "is_echo", "is_answer", "is_goer", "is_parcel", "is_thing", "thing_text", "number_of"] : List Str) ++ (["pair_of", "told_by", "thing_of", "_law_pot", "_law_digit", "_law_name", "_law_names", "_law_word", "_law_whole", "_law_thing", "_law_is_name", "_law_is_word"] : List Str) ++ (["_law_is_number", "_law_are", "_law_due", "_law_changed_words", "_law_changed", "_law_is_far", "_law_told", "_law_right"] : List Str)
theorem run (w : World) : HandSHeadRun.RunEq R (PySem.W.view R.prog [48]) hk ob 8000 names w := by
  intro os
  kernel_rfl
theorem facts {P : Program} {w : World} {K : PySem.W.Frag} {h : Heap} {mg : Str → Option Value} {f : Addr} (X : K.In h) (G : h.Ns mainGlobals mg) (hfa : mg ("law" : Str) = some (.ref f)) (c : He.SaysX fa fn [] [] ex w h K) :
    ∃ fd : FuncData, (∀ (s : Shared) (v : Value), BindsTo s fd ⟨[v], []⟩ [("_law_script", v)]) ∧ ∀ base : Heap, K.In base → base.Ns mainGlobals mg → FnG P w K mg base CX0 10 f fd ["_law_script"] (spLaw K) := by
  obtain ⟨fd, F0⟩ := He.SaysD.defs c.t.d (d := dd "law" 48) (List.mem_of_getElem? (i := 36) rfl)
  have e := hfa.symm.trans (He.glo_ok X G (c.t.d.fact 36 (f := .glo "law") rfl))
  cases e
  have b := FunD.bindsA (ps := ["_law_script"]) F0 fun _ _ _ _ _ _ us hl => match us, hl with | [_], _ => rfl
  have m : Mg mg := ⟨He.free_ok X G (c.t.d.fact 37 rfl), He.free_ok X G (c.t.d.fact 38 rfl), He.free_ok X G (c.t.d.fact 39 rfl), He.free_ok X G (c.t.d.fact 40 rfl), He.free_ok X G (c.t.d.fact 41 rfl), He.free_ok X G (c.t.d.fact 42 rfl), He.free_ok X G (c.t.d.fact 43 rfl), He.free_ok X G (c.t.d.fact 44 rfl), He.free_ok X G (c.t.d.fact 45 rfl), He.free_ok X G (c.t.d.fact 46 rfl), He.free_ok X G (c.t.d.fact 47 rfl), He.free_ok X G (c.t.d.fact 48 rfl), He.free_ok X G (c.t.d.fact 49 rfl), He.free_ok X G (c.t.d.fact 50 rfl), He.free_ok X G (c.t.d.fact 51 rfl), He.free_ok X G (c.t.d.fact 52 rfl), He.free_ok X G (c.t.d.fact 53 rfl), He.free_ok X G (c.t.d.fact 54 rfl), He.free_ok X G (c.t.d.fact 55 rfl)⟩
  have st : ∀ {x z : Str}, (∃ t, mg x = some (.str z t)) → ∃ u, mg x = some u ∧ RelV (.str z) u := fun ⟨t, h⟩ => ⟨_, h, t, rfl⟩
  have gs : Gs K mg := ⟨st (He.str_ok X G (c.t.d.fact 56 rfl)), st (He.str_ok X G (c.t.d.fact 57 rfl)), ⟨_, He.glo_ok X G (c.t.d.fact 58 (f := .glo "SORTS") rfl), fun H => He.tupB_ok (and2 c.more).1 H⟩⟩
  have dA : ∀ (i j : Nat) (x : Str) (_ : fn[i]? = some (dd x j)) (_ : fa[i]? = some (.glo x)), DefAt K mg x (topS j) := fun i j x h1 h2 => by
    obtain ⟨fd, F⟩ := He.SaysD.defs c.t.d (List.mem_of_getElem? h1)
    exact ⟨_, fd, fun_of F, He.glo_ok X G (He.SaysD.facts c.t.d (List.mem_of_getElem? h2))⟩
  have gx_WalkError := He.glo_ok X G (c.t.d.fact 59 (f := .glo "WalkError") rfl)
  have gx_NoThing := He.glo_ok X G (c.t.d.fact 60 (f := .glo "NoThing") rfl)
  have gx_NoRow := He.glo_ok X G (c.t.d.fact 61 (f := .glo "NoRow") rfl)
  have gx_NoWord := He.glo_ok X G (c.t.d.fact 62 (f := .glo "NoWord") rfl)
  refine ⟨fd, fun s v => b s [v] rfl, fun base _ _ => ?_⟩
  obtain ⟨e1, r1⟩ := and2 c.more
  obtain ⟨e2, r2⟩ := and2 r1
  obtain ⟨e3, r3⟩ := and2 r2
  obtain ⟨e4, r4⟩ := and2 r3
  obtain ⟨e5, r5⟩ := and2 r4
  obtain ⟨e6, r6⟩ := and2 r5
  obtain ⟨e7, r7⟩ := and2 r6
  obtain ⟨e8, r8⟩ := and2 r7
  obtain ⟨e9, r9⟩ := and2 r8
  have e10 := r9
  have fx : Fx16 K mg := ⟨gx_WalkError, gx_NoRow, gx_NoWord, excB_ok e2, of_decide_eq_true e3, of_decide_eq_true e4, of_decide_eq_true e5, of_decide_eq_true e6⟩
  have n_x : Nx16 K mg := ⟨gx_NoThing, of_decide_eq_true e7, of_decide_eq_true e8, of_decide_eq_true e9, of_decide_eq_true e10⟩
  have c__law_digit := ok__law_digit (P := P) (w := w) (base := base) (dA 0 32 _ rfl rfl)
  have c__law_pot := ok__law_pot (P := P) (w := w) (base := base) (dA 1 31 _ rfl rfl) m
  have c__law_name := ok__law_name (P := P) (w := w) (base := base) (dA 2 33 _ rfl rfl) m c__law_digit
  have c__law_names := ok__law_names (P := P) (w := w) (base := base) (dA 3 34 _ rfl rfl) m c__law_name
  have c__law_word := ok__law_word (P := P) (w := w) (base := base) (dA 4 35 _ rfl rfl) m c__law_digit
  have c__law_whole := ok__law_whole (P := P) (w := w) (base := base) (dA 5 36 _ rfl rfl) c__law_digit
  have c_is_text_of := ok_is_text_of (P := P) (w := w) (base := base) (dA 6 8 _ rfl rfl) m
  have c_is_name := ok_is_name (P := P) (w := w) (base := base) (dA 7 9 _ rfl rfl) gs c_is_text_of
  have k_is_name := kw_is_name (P := P) (w := w) (base := base) (dA 7 9 _ rfl rfl) gs c_is_text_of
  have c_is_word := ok_is_word (P := P) (w := w) (base := base) (dA 8 10 _ rfl rfl) gs c_is_text_of
  have k_is_word := kw_is_word (P := P) (w := w) (base := base) (dA 8 10 _ rfl rfl) gs c_is_text_of
  have c_is_whole := ok_is_whole (P := P) (w := w) (base := base) (dA 9 13 _ rfl rfl) m
  have c_is_pair := ok_is_pair (P := P) (w := w) (base := base) (dA 10 14 _ rfl rfl) m c_is_name c_is_whole
  have c_is_sort := ok_is_sort (P := P) (w := w) (base := base) (dA 11 15 _ rfl rfl) gs c_is_name
  have c_is_shut := ok_is_shut (P := P) (w := w) (base := base) (dA 12 16 _ rfl rfl) m c_is_name
  have c_begins := ok_begins (P := P) (w := w) (base := base) (dA 13 17 _ rfl rfl) m c_is_name
  have c_is_letter := ok_is_letter (P := P) (w := w) (base := base) (dA 14 18 _ rfl rfl) c_begins c_is_name c_is_word
  have c_is_echo := ok_is_echo (P := P) (w := w) (base := base) (dA 15 19 _ rfl rfl) c_begins c_is_name c_is_sort c_is_pair
  have c_is_answer := ok_is_answer (P := P) (w := w) (base := base) (dA 16 20 _ rfl rfl) c_begins c_is_name c_is_sort c_is_pair
  have c_is_goer := ok_is_goer (P := P) (w := w) (base := base) (dA 17 21 _ rfl rfl) c_begins c_is_name c_is_whole c_is_shut
  have c_is_parcel := ok_is_parcel (P := P) (w := w) (base := base) (dA 18 22 _ rfl rfl) c_is_letter c_is_echo
  have k_is_parcel := kw_is_parcel (P := P) (w := w) (base := base) (dA 18 22 _ rfl rfl) c_is_letter c_is_echo
  have c_is_thing := ok_is_thing (P := P) (w := w) (base := base) (dA 19 23 _ rfl rfl) c_is_parcel c_is_answer c_is_goer
  have k_is_thing := kw_is_thing (P := P) (w := w) (base := base) (dA 19 23 _ rfl rfl) c_is_parcel c_is_answer c_is_goer
  have c_thing_text := ok_thing_text (P := P) (w := w) (base := base) (dA 20 25 _ rfl rfl) m
  have k_thing_text := kw_thing_text (P := P) (w := w) (base := base) (dA 20 25 _ rfl rfl) m
  have c_number_of := ok_number_of (P := P) (w := w) (base := base) (dA 21 26 _ rfl rfl) m gs c_is_text_of
  have c_pair_of := ok_pair_of (P := P) (w := w) (base := base) (dA 22 27 _ rfl rfl) c_number_of
  have c_told_by := ok_told_by (P := P) (w := w) (base := base) (dA 23 28 _ rfl rfl) m c_number_of c_pair_of
  have x_thing_of := okX_thing_of (P := P) (w := w) (mg := mg) (base := base) (dA 35 29 _ rfl rfl) m n_x c_told_by c_is_thing
  have c__law_thing := ok__law_thing (P := P) (w := w) (base := base) (dA 24 37 _ rfl rfl) m c__law_digit c__law_name c__law_names c__law_word c__law_whole
  have c__law_is_name := ok__law_is_name (P := P) (w := w) (base := base) (dA 25 38 _ rfl rfl) m
  have c__law_is_word := ok__law_is_word (P := P) (w := w) (base := base) (dA 26 39 _ rfl rfl) m
  have c__law_is_number := ok__law_is_number (P := P) (w := w) (base := base) (dA 27 40 _ rfl rfl) m
  have c__law_are := ok__law_are (P := P) (w := w) (base := base) (dA 28 41 _ rfl rfl) m c__law_is_name c__law_is_word c__law_is_number
  have c__law_due := ok__law_due (P := P) (w := w) (base := base) (dA 29 42 _ rfl rfl) m c__law_are
  have c__law_changed_words := ok__law_changed_words (P := P) (w := w) (base := base) (dA 30 43 _ rfl rfl) m c__law_digit
  have c__law_changed := ok__law_changed (P := P) (w := w) (base := base) (dA 31 44 _ rfl rfl) m c__law_digit c__law_changed_words
  have c__law_is_far := ok__law_is_far (P := P) (w := w) (base := base) (dA 32 45 _ rfl rfl) m
  have c__law_told := ok__law_told (P := P) (w := w) (base := base) (dA 33 46 _ rfl rfl) m n_x fx x_thing_of
  have g__law_right := ok__law_right (P := P) (w := w) (base := base) (dA 34 47 _ rfl rfl) m c__law_due c__law_told
  exact ok_law (fun_of F0) m c__law_pot c__law_digit c__law_thing c_thing_text c__law_changed c__law_is_far c__law_told g__law_right
end Gj
open PySem PySem.W PySem.Calls PyProof.Rows
theorem PySem.Challenge.cw_walkbox_k16_whole_texts_nearly_good_holds : PySem.Challenge.rw_walkbox_k16_whole_texts_nearly_good.Holds := by
  w_on; o_law
  refine HandSHeadRun.head_any (r := OpenLaw.row PySem.Challenge.rw_walkbox_k16_whole_texts_nearly_good) (q := view (OpenLaw.row PySem.Challenge.rw_walkbox_k16_whole_texts_nearly_good).prog [48]) (H := Gj.hk) (ob := Gj.ob) (M := 8000) (loose := Gj.names) (d := HandSHeadRun.topDef (OpenLaw.row PySem.Challenge.rw_walkbox_k16_whole_texts_nearly_good).prog 48) (kwd := []) Gj.ob_eq
    (by kernel_rfl) (fun s => by kernel_rfl) Gj.run (by kernel_rfl) (by kernel_rfl) (by kernel_rfl) (by rfl) (by first | assumption | decide +kernel) (by decide +kernel) ⟨rfl, rfl, rfl, rfl, rfl, by decide +kernel⟩ ?hw ?hc
  case hw => w_witness2
  case hc =>
    refine Gj.walkG (l := PySem.Challenge.rw_walkbox_k16_whole_texts_nearly_good) (n := 63) (k := 10) (x := "_law_script") rfl (by decide) (by kernel_rfl) ⟨rfl, by decide, by decide⟩ ?F
    intro w mg fa h Y G hmg0
    obtain ⟨K, KX, c⟩ := Y
    have hmg : mg ("law" : PySem.Str) = some (.ref fa) := by
      have e : (HandSHeadRun.topDef (OpenLaw.row PySem.Challenge.rw_walkbox_k16_whole_texts_nearly_good).prog 48).name = ("law" : PySem.Str) := by kernel_rfl
      rw [← e]
      exact hmg0
    obtain ⟨fd, hb, hF⟩ := Gj.facts (P := (PySem.Challenge.rw_walkbox_k16_whole_texts_nearly_good).prog) (w := w) KX G hmg c
    exact ⟨K, fd, Gj.spLaw K, KX, hb, fun H a ns hl _ hS => ⟨a, ns, rfl, hS, hl, fun _ => rfl⟩, hF⟩
