import PyProof.Rows.All
import Wide.All
import OpenK.AllK
import Wide.FinOn
import HandS.ForMost
import HandS.Walk
import HandS.Wide
import HandS.IsInst
import HandS.Codes
import HandS.RaiseMore
import PyProof.NeKinds
import HandS.TupAny
import HandS.Deep
import HandS.Strs
import KE.GoesMore
import HandS.Iter
import HandS.NoneIn
import HandS.Defaults
import HandS.Head0
import HandS.Head1
import HandS.Head2
import HandS.HeadEnd
import HandS.HeadHook1
import HandS.HeadHook2
import HandS.HeadHook3
import HandS.HeadHook4
import KE.KStateDown
import Lean
import PySem.Challenge.RW_walkbox_k14_things
set_option Elab.async false
set_option linter.all false
set_option maxRecDepth 100000
/-! own layer: defs by name, a pot of digits, two further rules -/
namespace Gj
open PySem PySem.Spec PyProof.Rows L2
open C8 (Cal pe_c pe_gc)
/-- the def st stands at the module's name x -/
def DefAt (K : PySem.W.Frag) (mg : Str → Option Value) (x : Str) (st : Stmt) : Prop := ∃ f fd, Fun K x x st f fd ∧ mg x = some (.ref f)
section
variable {P : Program} {w : World} {K : PySem.W.Frag} {mg : Str → Option Value} {base : Heap}
theorem mkCal {x : Str} {st : Stmt} {N ps : List Str} {k : Nat} {sp : Sp} (D : DefAt K mg x st)
    (hb : ∀ (kV doc pm : Value) (an : Option Addr) (cdv ct : Value) (us : List Value), us.length = ps.length → bindArgs (PySem.W.fnOf x x (defArgs st) (defBody st) (defScope st) .none kV doc pm an cdv ct) ⟨us, []⟩ = pure (ps.zip us))
    (S : FnScope N ps (defScope st)) (len : ∀ vs H Q E, sp vs H Q E → vs.length = ps.length)
    (hbody : ∀ (f : Addr) (cdv : Value) (A : Around) (outer : List Env) (s : Shared) (H : Hp) (vs : List V) (Q : VK) (E : XK), Room k (A.deeper (envOfC x (defScope st) s.heap.objs.size f cdv)) → sp vs H Q E →
      ∃ t, PSs (cxOf CX0 P w K mg base N x (defScope st) f cdv A outer s H E).nox (defBody st) t ∧ t { nx := fun _ H' => Q .non H', rt := Q } (start N vs) H) : C8.Cal P w K mg base (k + 1) x sp [] := by
  obtain ⟨f, fd, F, g⟩ := D
  exact ⟨f, fd, ps, [], F.ok S len (hbody f), g, F.kp, F.binds hb, .nil⟩
end
/-! ### two rules -/
section
variable {X : Cx}
theorem call_repr_bool : CallR X (.builtin "repr") (fun xs H Q => ∃ b, xs = [.bl b] ∧ Q (.str (if b then "True" else "False")) H) := by
  intro pins s σ H xs us Q I r h
  obtain ⟨b, rfl, q⟩ := h
  obtain ⟨u, rfl, rfl⟩ := vals1 r
  exact PySem.P.repr_of_bool ⟨.str _, H, I.tok _, ⟨_, rfl⟩, q⟩
theorem op_mul_str : OpR X (binaryOp .Mult) (fun x y H Q => ∃ z n, x = .str z ∧ y = .int n ∧ MulOk z n ∧ Q (.str (Txt.mul z n)) H) := by
  intro pins s σ H x y v u Q I rx ry h
  obtain ⟨z, n, rfl, rfl, hz, q⟩ := h
  obtain ⟨t, rfl⟩ := rx
  obtain ⟨t', rfl⟩ := ry
  exact PySem.SB.mul hz fun t' k => ⟨.str _, H, I.tok _, ⟨_, rfl⟩, q⟩
end
/-! ### heaps but for one place -/
def Keep (p : Addr) (H H' : Hp) : Prop := ∀ b o, b ≠ p → H b = some o → H' b = some o
theorem Keep.refl {p : Addr} {H : Hp} : Keep p H H := fun _ _ _ h => h
theorem Keep.trans {p : Addr} {H H1 H2 : Hp} (a : Keep p H H1) (b : Keep p H1 H2) : Keep p H H2 := fun c o n h => b c o n (a c o n h)
theorem Keep.here {p : Addr} {H : Hp} {o : HO} : Keep p H (upd H p o) := fun b x n e => by rw [upd_ne n]; exact e
theorem Same.keep {p : Addr} {H H' : Hp} (a : Same H H') : Keep p H H' := fun b o _ h => a b o h
theorem same_new {H : Hp} {p : Addr} {o : HO} (h : H p = none) : Same H (upd H p o) := fun b x e => by rw [upd_ne (ne_of_none e h)]; exact e
theorem Keep.new {p q : Addr} {H : Hp} {o : HO} (h : H q = none) : Keep p H (upd H q o) := Same.keep (same_new h)
/-! ### a pot of digits -/
def Pot (H : Hp) (p : Addr) : Prop := ∃ a b : Int, H p = some (.lst [.int a, .int b]) ∧ 0 ≤ a ∧ 0 ≤ b ∧ b < 4294967296
theorem Pot.new {H : Hp} {p q : Addr} {o : HO} (h : Pot H p) (n : H q = none) : Pot (upd H q o) p := by
  obtain ⟨a, b, e, r⟩ := h
  exact ⟨a, b, by rw [upd_ne (ne_of_none e n)]; exact e, r⟩
theorem Pot.ne {H : Hp} {p q : Addr} (h : Pot H p) (n : H q = none) : q ≠ p := by
  obtain ⟨a, b, e, r⟩ := h
  exact (ne_of_none e n).symm
theorem Pot.put {H : Hp} {p : Addr} {a b : Int} (h0 : 0 ≤ a) (h1 : 0 ≤ b) (h2 : b < 4294967296) : Pot (upd H p (.lst [.int a, .int b])) p := ⟨a, b, upd_same, h0, h1, h2⟩
/-- what a def that draws of a pot leaves: the pot, and all else as it was -/
structure Drawn (p : Addr) (H H' : Hp) : Prop where
  keep : Keep p H H'
  pot : Pot H' p
theorem Drawn.trans {p : Addr} {H H1 H2 : Hp} (a : Drawn p H H1) (b : Drawn p H1 H2) : Drawn p H H2 := ⟨a.keep.trans b.keep, b.pot⟩
theorem Drawn.new {p q : Addr} {H H' : Hp} {o : HO} (a : Drawn p H H') (h : H' q = none) : Drawn p H (upd H' q o) := ⟨a.keep.trans (Keep.new h), a.pot.new h⟩
def spDigit : Sp := fun vs H Q _ => ∃ (p : Addr) (n : Int), vs = [.ref p, .int n] ∧ Pot H p ∧ 0 < n ∧ n.natAbs.log2 < 9000 ∧ ∀ (d : Int) (H' : Hp), 0 ≤ d → d < n → Drawn p H H' → Q (.int d) H'
def spPot (K : PySem.W.Frag) : Sp := fun vs H Q _ => ∃ (a : Addr) (ns : List Int) (k : Int), vs = [.ref a, .int k] ∧ SqL K H a (ns.map V.int) ∧ 0 ≤ k ∧ k ≤ 1000000 ∧ ∀ (p : Addr) (H' : Hp), H p = none → Same H H' → Pot H' p → Q (.ref p) H'
end Gj

namespace Gj
open PySem PySem.Spec PyProof.Rows L2
open C8 (Cal pe_c pe_gc)
theorem at_some {α : Type} {xs : List α} {d : Int} (h0 : 0 ≤ d) (h1 : d < xs.length) : ∃ x, x ∈ xs ∧ atI xs d = some x := by
  have h : d.toNat < xs.length := by omega
  exact ⟨xs[d.toNat], List.getElem_mem h, at_of' h0 h⟩
where
  at_of' {α : Type} {xs : List α} {d : Int} (h0 : 0 ≤ d) (h : d.toNat < xs.length) : atI xs d = some xs[d.toNat] := by
    have e : d = (d.toNat : Int) := by omega
    have g : xs[d.toNat]? = some xs[d.toNat] := List.getElem?_eq_getElem h
    have := atI_nat g
    rw [← e] at this
    exact this
theorem take_snoc {α : Type} {l : List α} {i : Nat} {x : α} (h : l[i]? = some x) : l.take (i + 1) = l.take i ++ [x] := by
  rw [List.take_add_one, h]
  rfl
theorem Keep.same {p : Addr} {H H' : Hp} (h : Keep p H H') (n : H p = none) : Same H H' := fun b o e => h b o (ne_of_none e n) e
theorem Pot.same {H H' : Hp} {p : Addr} (h : Pot H p) (s : Same H H') : Pot H' p := by
  obtain ⟨a, b, e, r⟩ := h
  exact ⟨a, b, s _ _ e, r⟩
theorem Drawn.same {p : Addr} {H H' H2 : Hp} (a : Drawn p H H') (s : Same H' H2) : Drawn p H H2 := ⟨a.keep.trans (Same.keep s), a.pot.same s⟩
/-! ### a comprehension that draws signs, joined -/
theorem joinL_ones : ∀ l : List Nat, TL.joinL [] (l.map fun c => [c]) = l
  | [] => rfl
  | [_] => rfl
  | a :: b :: r => by
    show [a] ++ ([] ++ TL.joinL [] ((b :: r).map fun c => [c])) = a :: b :: r
    rw [joinL_ones (b :: r)]
    rfl
theorem join_signs (cs : List Nat) : Txt.join "" (cs.map fun c => SX.S [c]) = SX.S cs := by
  have e1 : (cs.map fun c => SX.S [c]) = (cs.map fun c => [c]).map SX.S := by rw [List.map_map]; rfl
  rw [e1, show ("" : Str) = SX.S [] from rfl, SX.join_S, joinL_ones]
/-- i signs of the kind G are drawn into the list at D -/
def Signs (G : Nat → Prop) (p D : Addr) (H : Hp) (i : Nat) (H' : Hp) : Prop := ∃ cs : List Nat, cs.length = i ∧ (∀ c ∈ cs, G c) ∧ Drawn p H H' ∧ D ≠ p ∧ H' D = some (.lst (cs.map fun c => V.str (SX.S [c])))
theorem Signs.start {G : Nat → Prop} {p D : Addr} {H : Hp} (hp : Pot H p) (hD : H D = none) : Signs G p D H 0 (upd H D (.lst [])) := ⟨[], rfl, (fun _ h => by cases h), ⟨Keep.new hD, hp.new hD⟩, hp.ne hD, upd_same⟩
theorem Signs.pot {G : Nat → Prop} {p D : Addr} {H H' : Hp} {i : Nat} (h : Signs G p D H i H') : Pot H' p := by
  obtain ⟨_, _, _, d, _⟩ := h
  exact d.pot
theorem Signs.next {G : Nat → Prop} {p D : Addr} {H H1 H2 : Hp} {i n : Nat} {c : Nat} (hi : i < n) (hn : n ≤ 1000) (hs : Signs G p D H i H1) (hD : H D = none) (r : Drawn p H1 H2) (hc : G c) :
    ∃ acc, H2 D = some (.lst acc) ∧ acc.length < sizeLine ∧ Signs G p D H (i + 1) (upd H2 D (.lst (acc ++ [.str ⟨#[c]⟩]))) := by
  obtain ⟨cs, hl, hg, dr, ne, e⟩ := hs
  refine ⟨_, r.keep _ _ ne e, ?_, cs ++ [c], ?_, ?_, ⟨fun b o nb eb => ?_, ?_⟩, ne, ?_⟩
  · rw [List.length_map]
    exact small1000 (by omega)
  · rw [List.length_append, hl]
    rfl
  · intro x hx
    rcases List.mem_append.mp hx with h | h
    · exact hg x h
    · rw [List.mem_singleton.mp h]
      exact hc
  · rw [upd_ne (ne_of_none eb hD)]
    exact r.keep _ _ nb (dr.keep _ _ nb eb)
  · obtain ⟨a, b, e2, z⟩ := r.pot
    exact ⟨a, b, by rw [upd_ne ne.symm]; exact e2, z⟩
  · rw [upd_same, List.map_append]
    rfl
theorem Signs.join {G : Nat → Prop} {p D : Addr} {H H1 : Hp} {n : Nat} (hn : n ≤ 1000) (hs : Signs G p D H n H1) :
    ∃ (cs : List Nat) (ys : List Str), cs.length = n ∧ (∀ c ∈ cs, G c) ∧ Drawn p H H1 ∧ H1 D = some (.lst (ys.map V.str)) ∧ (ys.map (·.length)).sum + ys.length * (PySem.Str.ofString "").length ≤ 16777216 ∧ Txt.join "" ys = SX.S cs := by
  obtain ⟨cs, hl, hg, dr, ne, e⟩ := hs
  have e2 : ((cs.map fun c => SX.S [c]).map (·.length)).sum = cs.length := by
    clear e dr hl hg
    induction cs with
    | nil => rfl
    | cons x l ih =>
      rw [List.map_cons, List.map_cons, List.sum_cons, ih, List.length_cons]
      show 1 + l.length = l.length + 1
      omega
  refine ⟨cs, cs.map fun c => SX.S [c], hl, hg, dr, ?_, ?_, join_signs cs⟩
  · rw [e, List.map_map]
    rfl
  · rw [e2]
    have : (PySem.Str.ofString "").length = 0 := rfl
    rw [this]
    omega
end Gj

/-! own layer: names by a pot -/
namespace Gj
open PySem PySem.Spec PyProof.Rows L2
open C8 (Cal pe_c pe_gc)
section
variable {X : Cx}
/-- xs != [], t != () -/
def rNeE (K : PySem.W.Frag) : R2 := fun x y H Q => ∃ (a b : Addr) (xs : List V), x = .ref a ∧ y = .ref b ∧ ((SqL K H a xs ∧ SqL K H b []) ∨ (SqT K H a xs ∧ SqT K H b [])) ∧ Q (.bl (!xs.isEmpty)) H
theorem op_neE (hu : X.A.units + 64 < cLine) : OpR X (compareOp .NotEq) (rNeE X.K) := by
  intro pins s σ H x y v u Q I rx ry h
  obtain ⟨a, b, xs, rfl, rfl, hq, q⟩ := h
  cases rx
  cases ry
  have hu0 : X.A.units < cLine := by omega
  rcases hq with ⟨h1, h2⟩ | ⟨h1, h2⟩
  · obtain ⟨its, r1, p1, _⟩ := I.list h1
    obtain ⟨ks, r2, p2, _⟩ := I.list h2
    cases r2
    cases xs with
    | nil =>
      cases r1
      exact SeqAt.RcNeAt.lists (e := fun _ => true) p1.isList p2.isList rfl hu0 (fun j h1 h2 => absurd h1 (Nat.not_lt_zero _)) X.prog X.w _ _ ⟨.bl _, H, I, rfl, q⟩
    | cons z l =>
      cases r1
      exact SeqAt.RcNeAt.lists_lengths p1.isList p2.isList (by simp) hu0 X.prog X.w _ _ ⟨.bl _, H, I, rfl, q⟩
  · obtain ⟨its, r1, p1, _⟩ := I.tuple h1
    obtain ⟨ks, r2, p2, _⟩ := I.tuple h2
    cases r2
    have := SeqAt.RcNeAt.tuples (A := X.A) (e := fun _ => true) p1 p2 hu0 (fun j h1 h2 => absurd h2 (Nat.not_lt_zero _)) X.prog X.w X.xe (EP X pins σ Q)
    refine this ⟨.bl _, H, I, ?_, q⟩
    cases xs with
    | nil =>
      cases r1
      rfl
    | cons z l =>
      cases r1
      simp
      rfl
end
/-! ### names -/
abbrev ltrs : List Nat := (PySem.Str.ofString "abcdefghijklmnopqrstuvwxyz").cps.toList
structure NameS (z : Str) : Prop where
  ex : ∃ cs : List Nat, z = SX.S cs ∧ 1 ≤ cs.length ∧ cs.length ≤ 8 ∧ ∀ c ∈ cs, c ∈ ltrs
theorem NameS.len {z : Str} (h : NameS z) : z.length ≤ 8 := by
  obtain ⟨cs, rfl, h1, h2, _⟩ := h.ex
  rw [SX.S_len]
  exact h2
theorem NameS.small {z : Str} (h : NameS z) : z.length ≤ 1000 := Nat.le_trans h.len (by decide)
theorem name_one {c : Nat} (h : c ∈ ltrs) : NameS (SX.S [c]) := ⟨[c], rfl, Nat.le_refl _, (by show 1 ≤ 8; decide), fun x hx => by rw [List.mem_singleton.mp hx]; exact h⟩
/-- a list without doubles within another one -/
theorem nodup_le {α : Type} [DecidableEq α] : ∀ (l D : List α), l.Nodup → (∀ x ∈ l, x ∈ D) → l.length ≤ D.length
  | [], _, _, _ => Nat.zero_le _
  | x :: l, D, hn, hs => by
    obtain ⟨h1, h2⟩ := List.nodup_cons.mp hn
    have hx : x ∈ D := hs x List.mem_cons_self
    have ih := nodup_le l (D.erase x) h2 fun y hy => (List.mem_erase_of_ne (fun e : y = x => h1 (e ▸ hy))).mpr (hs y (List.mem_cons_of_mem _ hy))
    have e := List.length_erase_of_mem hx
    have hp := List.length_pos_of_mem hx
    rw [List.length_cons]
    omega
theorem fresh_letter {us : List Str} (h : us.length ≤ 25) : ∃ c ∈ ltrs, SX.S [c] ∉ us := by
  rcases Classical.em (∃ c ∈ ltrs, SX.S [c] ∉ us) with q | q
  · exact q
  · exfalso
    have sub : ∀ z ∈ ltrs.map (fun c => SX.S [c]), z ∈ us := fun z hz => by
      obtain ⟨c, hc, rfl⟩ := List.mem_map.mp hz
      rcases Classical.em (SX.S [c] ∈ us) with k | k
      · exact k
      · exact absurd ⟨c, hc, k⟩ q
    have nd : (ltrs.map fun c => SX.S [c]).Nodup := by decide +kernel
    have := nodup_le _ us nd sub
    rw [List.length_map] at this
    have e : ltrs.length = 26 := by decide +kernel
    omega
def spName : Sp := fun vs H Q _ => ∃ (p u : Addr) (us : List Str), vs = [.ref p, .ref u] ∧ Pot H p ∧ u ≠ p ∧ H u = some (.lst (us.map V.str)) ∧ (∀ z ∈ us, NameS z) ∧ us.length ≤ 25 ∧ ∀ (z : Str) (H' : Hp), NameS z → z ∉ us → Drawn p H H' → Q (.str z) H'
def spNames : Sp := fun vs H Q _ => ∃ (p u : Addr) (us : List Str) (n : Nat), vs = [.ref p, .int (n : Nat), .ref u] ∧ Pot H p ∧ u ≠ p ∧ H u = some (.lst (us.map V.str)) ∧ (∀ z ∈ us, NameS z) ∧ us.length + n ≤ 25 ∧
  ∀ (q : Addr) (zs : List Str) (H' : Hp), H q = none → q ≠ p → zs.length = n → (∀ z ∈ zs, NameS z) → zs.Nodup → (∀ z ∈ zs, z ∉ us) → Drawn p H H' → H' q = some (.lst (zs.map V.str)) → Q (.ref q) H'
/-! ### words -/
abbrev wrds : List Nat := (PySem.Str.ofString "abcdefghijklmnopqrstuvwxyz0123456789").cps.toList
structure WordS (z : Str) : Prop where
  ex : ∃ cs : List Nat, z = SX.S cs ∧ 1 ≤ cs.length ∧ cs.length ≤ 12 ∧ ∀ c ∈ cs, c ∈ wrds
theorem WordS.small {z : Str} (h : WordS z) : z.length ≤ 1000 := by
  obtain ⟨cs, rfl, h1, h2, _⟩ := h.ex
  rw [SX.S_len]
  omega
def spWord : Sp := fun vs H Q _ => ∃ (p : Addr), vs = [.ref p] ∧ Pot H p ∧ ∀ (z : Str) (H' : Hp), WordS z → Drawn p H H' → Q (.str z) H'
def spWhole : Sp := fun vs H Q _ => ∃ (p : Addr) (n : Int), vs = [.ref p, .int n] ∧ Pot H p ∧ ∀ (i : Int) (H' : Hp), n ≤ i → i < n + 10 ^ 30 → Drawn p H H' → Q (.int i) H'
theorem inV_strs {z : Str} {us : List Str} : inV (.str z) (us.map V.str) = decide (z ∈ us) := by
  induction us with
  | nil => rfl
  | cons y l ih =>
    show (eqV (.str y) (.str z) || inV (.str z) (l.map V.str)) = _
    rw [ih]
    show ((y == z) || decide (z ∈ l)) = decide (z ∈ y :: l)
    by_cases e : z = y
    · subst e
      rw [beq_self_eq_true, decide_eq_true (List.mem_cons_self)]
      rfl
    · rw [beq_eq_false_iff_ne.mpr fun h => e h.symm]
      by_cases h : z ∈ l
      · rw [decide_eq_true h, decide_eq_true (List.mem_cons_of_mem _ h)]
        rfl
      · rw [decide_eq_false h, decide_eq_false fun q => (List.mem_cons.mp q).elim e h]
        rfl
theorem flat_strs (us : List Str) : (us.map V.str).all flatV = true := by
  induction us with
  | nil => rfl
  | cons y l ih => exact ih
end Gj

/-! own layer: data in the heap (lists, tuples, empty dicts), beside a pot at p -/
namespace Gj
open PySem PySem.Spec PyProof.Rows L2
open C8 (Cal pe_c pe_gc)
section
open PySem.SeqAt AutoSeq1 MeetsSeq
/-! ### a dict and a text are unlike -/
theorem dict_no_str (l : Addr) (o : Obj) (hc : o.cls = .type "dict") (b : Str) (u : Tok) : Meets (Builtin.«dict.__eq__» ⟨[.ref l, .str b u], []⟩) (fun _ R s => s.heap.get? l = some o ∧ R (.ok (.ret .notImplemented)) s) :=
  .of_wp fun prog w A R s h => by
    obtain ⟨hp, g, d, tk, os⟩ := s
    obtain ⟨hl, h⟩ := h
    have f1 := F.sub_str_dict
    wp_walk using wpAny_loadPart' hl
    exact ⟨_, rfl, h⟩
theorem str_no_dict (l : Addr) (c : Value) (dd : Option Addr) (es : Array DictEntry) (n : Nat) (sl : Array (Option Value)) (b : Str) (u : Tok) : Meets (Builtin.«str.__eq__» ⟨[.str b u, .ref l], []⟩) (fun _ R s => s.heap.get? l = some ⟨c, dd, .dict es n, sl⟩ ∧ R (.ok (.ret .notImplemented)) s) :=
  .of_wp fun prog w A R s h => by
    obtain ⟨hp, g, d, tk, os⟩ := s
    obtain ⟨hl, h⟩ := h
    wp_walk using wpAny_loadPart' hl, wpAny_load hl
    exact ⟨_, rfl, h⟩
variable {A : Around} {s : Shared}
theorem rc_dict_str {l : Addr} {dd : Option Addr} {es : Array DictEntry} {n : Nat} {sl : Array (Option Value)} (b : Str) (u : Tok) (ho : s.heap.get? l = some ⟨.type "dict", dd, .dict es n, sl⟩) (hu : A.units < cLine) : RcAt A s (.ref l) (.str b u) false := fun prog w E Q h =>
  rc_eq_decline_or (k := false) ⟨_, ho, rfl⟩ (typeIs_str s b u) (by decide) F.sub_str_dict F.slot_dict_eq F.slot_str_eq_refl
    (fun _ hq => call_meets F.slot_dict_eq ⟨_, ho, rfl⟩ F.entry_dict_eq (F.args_dict_eq_2 _ _) (dict_no_str l _ rfl b u) ⟨ho, hq⟩)
    (fun _ hq => call_meets F.slot_str_eq_refl (typeIs_str s b u) F.entry_str_eq (F.args_str_eq_2 _ _) (str_no_dict l _ _ _ _ _ b u) ⟨ho, hq⟩)
    (fun _ hq => wpAny_of_eq (rfl : isSame (.ref l) (.str b u) = pure false) hq) (.inr hu) h
theorem rc_str_dict {l : Addr} {dd : Option Addr} {es : Array DictEntry} {n : Nat} {sl : Array (Option Value)} (b : Str) (u : Tok) (ho : s.heap.get? l = some ⟨.type "dict", dd, .dict es n, sl⟩) (hu : A.units < cLine) : RcAt A s (.str b u) (.ref l) false := fun prog w E Q h =>
  rc_eq_decline_or (k := false) (typeIs_str s b u) ⟨_, ho, rfl⟩ (by decide) F.sub_dict_str F.slot_str_eq F.slot_dict_eq_refl
    (fun _ hq => call_meets F.slot_str_eq (typeIs_str s b u) F.entry_str_eq (F.args_str_eq_2 _ _) (str_no_dict l _ _ _ _ _ b u) ⟨ho, hq⟩)
    (fun _ hq => call_meets F.slot_dict_eq_refl ⟨_, ho, rfl⟩ F.entry_dict_eq (F.args_dict_eq_2 _ _) (dict_no_str l _ rfl b u) ⟨ho, hq⟩)
    (fun _ hq => wpAny_of_eq (rfl : isSame (.str b u) (.ref l) = pure false) hq) (.inr hu) h
theorem eq_str_dict {l : Addr} {dd : Option Addr} {es : Array DictEntry} {n : Nat} {sl : Array (Option Value)} (b : Str) (u : Tok) (ho : s.heap.get? l = some ⟨.type "dict", dd, .dict es n, sl⟩) (hu : A.units < cLine) : EqAt A s (.str b u) (.ref l) false := fun prog w E Q h => by
  unfold eqBool
  exact wpAny_holding (wpAny_ite_split (fun hab => absurd (eq_of_beq hab) nofun) fun _ => wpAny_bind (rc_str_dict b u ho hu prog w E _ (wpAny_truthy_bool h)))
end
/-! ### data, away from the pot at p -/
mutual
inductive Dt (p : Addr) (H : Hp) : V → PyData → Prop
  | non : Dt p H .non .none
  | bl (b : Bool) : Dt p H (.bl b) (.bool b)
  | int (i : Int) : Dt p H (.int i) (.int i)
  | str (x : Str) : x.length ≤ 1000 → Dt p H (.str x) (.str x)
  | lst {a : Addr} {xs : List V} {ds : List PyData} : a ≠ p → xs.length ≤ 1000 → H a = some (.lst xs) → DtAll p H xs ds → Dt p H (.ref a) (.list ds)
  | tup {a : Addr} {xs : List V} {ds : List PyData} : a ≠ p → xs.length ≤ 1000 → H a = some (.tup xs) → DtAll p H xs ds → Dt p H (.ref a) (.tuple ds)
  | dic {a : Addr} : a ≠ p → H a = some (.dK []) → Dt p H (.ref a) (.dict [])
inductive DtAll (p : Addr) (H : Hp) : List V → List PyData → Prop
  | nil : DtAll p H [] []
  | cons {v : V} {vs : List V} {d : PyData} {ds : List PyData} : Dt p H v d → DtAll p H vs ds → DtAll p H (v :: vs) (d :: ds)
end
section
variable {p : Addr} {H H' : Hp}
mutual
theorem Dt.keep (k : Keep p H H') : ∀ {v : V} {d : PyData}, Dt p H v d → Dt p H' v d
  | _, _, .non => .non
  | _, _, .bl b => .bl b
  | _, _, .int i => .int i
  | _, _, .str x z => .str x z
  | _, _, .lst n z e h => .lst n z (k _ _ n e) (DtAll.keep k h)
  | _, _, .tup n z e h => .tup n z (k _ _ n e) (DtAll.keep k h)
  | _, _, .dic n e => .dic n (k _ _ n e)
theorem DtAll.keep (k : Keep p H H') : ∀ {vs : List V} {ds : List PyData}, DtAll p H vs ds → DtAll p H' vs ds
  | _, _, .nil => .nil
  | _, _, .cons a b => .cons (Dt.keep k a) (DtAll.keep k b)
end
theorem Dt.same {v : V} {d : PyData} (h : Dt p H v d) (s : Same H H') : Dt p H' v d := h.keep (Same.keep s)
theorem DtAll.same {v : List V} {d : List PyData} (h : DtAll p H v d) (s : Same H H') : DtAll p H' v d := h.keep (Same.keep s)
theorem DtAll.length : ∀ {vs : List V} {ds : List PyData}, DtAll p H vs ds → vs.length = ds.length
  | _, _, .nil => rfl
  | _, _, .cons _ b => by rw [List.length_cons, List.length_cons, DtAll.length b]
theorem DtAll.get : ∀ {vs : List V} {ds : List PyData} {i : Nat} {v : V}, DtAll p H vs ds → vs[i]? = some v → ∃ d, ds[i]? = some d ∧ Dt p H v d
  | _, _, i, v, .nil, e => by simp at e
  | _, _, 0, v, .cons a b, e => by
    have e : _ = v := Option.some.inj e
    subst e
    exact ⟨_, rfl, a⟩
  | _, _, i + 1, v, .cons a b, e => DtAll.get b (i := i) e
theorem DtAll.append : ∀ {vs ws : List V} {ds es : List PyData}, DtAll p H vs ds → DtAll p H ws es → DtAll p H (vs ++ ws) (ds ++ es)
  | _, _, _, _, .nil, h => h
  | _, _, _, _, .cons a b, h => .cons a (DtAll.append b h)
theorem DtAll.take : ∀ {vs : List V} {ds : List PyData} (n : Nat), DtAll p H vs ds → DtAll p H (vs.take n) (ds.take n)
  | _, _, 0, _ => .nil
  | _, _, n + 1, .nil => .nil
  | _, _, n + 1, .cons a b => .cons a (DtAll.take n b)
theorem DtAll.drop : ∀ {vs : List V} {ds : List PyData} (n : Nat), DtAll p H vs ds → DtAll p H (vs.drop n) (ds.drop n)
  | _, _, 0, h => h
  | _, _, n + 1, .nil => .nil
  | _, _, n + 1, .cons a b => DtAll.drop n b
theorem DtAll.strs : ∀ {zs : List Str}, (∀ z ∈ zs, z.length ≤ 1000) → DtAll p H (zs.map V.str) (zs.map PyData.str)
  | [], _ => .nil
  | z :: l, h => .cons (.str z (h z List.mem_cons_self)) (DtAll.strs fun y hy => h y (List.mem_cons_of_mem _ hy))
/-- the name of its type -/
def kind : PyData → String
  | .none => "NoneType"
  | .bool _ => "bool"
  | .int _ => "int"
  | .str _ => "str"
  | .list _ => "list"
  | .tuple _ => "tuple"
  | .dict _ => "dict"
theorem Dt.ty {K : PySem.W.Frag} {v : V} {d : PyData} (h : Dt p H v d) : TyX K H v (.type (kind d)) := by
  cases h with
  | non => exact .base .non
  | bl b => exact .base (.bl b)
  | int i => exact .base (.int i)
  | str x z => exact .base (.str x)
  | lst n z e h => exact .base (.lst e)
  | tup n z e h => exact .base (.tup e)
  | dic n e => exact .base (.dK e)
end
/-- isinstance(x, T) -/
def isa (d : PyData) (T : String) : Bool := (kitB (kind d) T).getD false
theorem kit_isa {K : PySem.W.Frag} {d : PyData} {T : String} (h : T = "str" ∨ T = "tuple" ∨ T = "int" ∨ T = "bool" ∨ T = "list") : PySem.W.kitOne K (.type (kind d)) (.type T) = some (isa d T) := by
  refine kit_ty ?_
  unfold isa
  rcases h with rfl | rfl | rfl | rfl | rfl <;> cases d <;> (dsimp only [kind]; decide +kernel)
def rIsD (K : PySem.W.Frag) (T : String) : List V → Hp → VK → Prop := fun xs H Q => ∃ (p : Addr) (x : V) (d : PyData), xs = [x, .ty T] ∧ Dt p H x d ∧ Q (.bl (isa d T)) H
section
variable {X : Cx}
theorem call_isD {T : String} (h : T = "str" ∨ T = "tuple" ∨ T = "int" ∨ T = "bool" ∨ T = "list") : CallR X (.builtin "isinstance") (rIsD X.K T) := by
  intro pins s σ H xs us Q I r hh
  obtain ⟨p, x, d, rfl, hd, q⟩ := hh
  exact call_isi pins s σ H _ us Q I r ⟨x, .ty T, _, _, isa d T, rfl, .ty T, hd.ty, kit_isa h, q⟩
/-- the text that it is -/
def isT (d : PyData) (z : Str) : Bool := match d with
  | .str y => y == z
  | _ => false
theorem dic_at {pins : List (Addr × Obj)} {σ : L2.St} {H : Hp} {s : Shared} {a : Addr} (I : Inv X pins σ H s) (e : H a = some (.dK [])) : ∃ (o : Obj) (es : Array DictEntry) (ep : Nat), s.heap.get? a = some o ∧ o.cls = .type "dict" ∧ o.data = .dict es ep := by
  obtain ⟨_, _, vs, _, o, es, ep, h1, h2, h3, _⟩ := (show ObjOk X.prog X.w H s.heap a (.dK []) from I.hok a _ e)
  exact ⟨o, es, ep, h1, h2.1, h3⟩
/-- x == z, z a text -/
theorem rc_txt {pins : List (Addr × Obj)} {σ : L2.St} {H : Hp} {s : Shared} {A : Around} {p : Addr} {x : V} {d : PyData} {v : Value} {z : Str} {t : Tok} (I : Inv X pins σ H s) (hd : Dt p H x d) (r : RelV x v) (hu : A.units < cLine) : SeqAt.RcAt A s v (.str z t) (isT d z) := by
  cases hd with
  | non => cases r; exact SeqAt.RcAt.none_str _ _
  | bl b => cases r; exact SeqAt.RcAt.bool_str _ _ _
  | int i => obtain ⟨t', rfl⟩ := r; exact SeqAt.RcAt.int_str _ _ _ _
  | str y z0 => obtain ⟨t', rfl⟩ := r; exact SeqAt.RcAt.str_str _ _ _ _
  | lst n z0 e h =>
    cases r
    obtain ⟨its, _, pl, _⟩ := I.list (SqL.of e)
    exact SeqAt.RcAt.list_str _ _ pl.isList hu
  | tup n z0 e h =>
    cases r
    obtain ⟨its, _, pl, _⟩ := I.tuple (SqT.of e)
    exact SeqAt.RcAt.tuple_str _ _ pl hu
  | @dic a n e =>
    cases r
    obtain ⟨o, es, ep, h1, h2, h3⟩ := dic_at I e
    obtain ⟨oc, od, dt, sl⟩ := o
    cases h2
    cases h3
    exact rc_dict_str _ _ h1 hu
/-- z == x, z a text -/
theorem eq_txt {pins : List (Addr × Obj)} {σ : L2.St} {H : Hp} {s : Shared} {A : Around} {p : Addr} {x : V} {d : PyData} {v : Value} {z : Str} {t : Tok} (I : Inv X pins σ H s) (hd : Dt p H x d) (r : RelV x v) (hu : A.units < cLine) : SeqAt.EqAt A s (.str z t) v (isT d z) := by
  cases hd with
  | non => cases r; exact SeqAt.EqAt.str_none _ _
  | bl b => cases r; exact SeqAt.EqAt.str_bool _ _ _
  | int i => obtain ⟨t', rfl⟩ := r; exact SeqAt.EqAt.str_int _ _ _ _
  | str y z0 =>
    obtain ⟨t', rfl⟩ := r
    have e : isT (.str y) z = (z == y) := by
      show (y == z) = (z == y)
      exact Bool.eq_iff_iff.mpr ⟨fun h => by rw [eq_of_beq h]; exact beq_self_eq_true _, fun h => by rw [eq_of_beq h]; exact beq_self_eq_true _⟩
    rw [e]
    exact SeqAt.EqAt.str_str _ _ _ _
  | lst n z0 e h =>
    cases r
    obtain ⟨its, _, pl, _⟩ := I.list (SqL.of e)
    exact SeqAt.EqAt.str_list _ _ pl.isList hu
  | tup n z0 e h =>
    cases r
    obtain ⟨its, _, pl, _⟩ := I.tuple (SqT.of e)
    exact SeqAt.EqAt.str_tuple _ _ pl hu
  | @dic a n e =>
    cases r
    obtain ⟨o, es, ep, h1, h2, h3⟩ := dic_at I e
    obtain ⟨oc, od, dt, sl⟩ := o
    cases h2
    cases h3
    exact eq_str_dict _ _ h1 hu
def rEqT : R2 := fun x y H Q => ∃ p d z, y = .str z ∧ Dt p H x d ∧ Q (.bl (isT d z)) H
theorem op_eqT (hu : X.A.units + 64 < cLine) : OpR X (compareOp .Eq) rEqT := by
  intro pins s σ H x y v u Q I rx ry h
  obtain ⟨p, d, z, rfl, hd, q⟩ := h
  obtain ⟨t, rfl⟩ := ry
  exact rc_txt I hd rx (by omega) X.prog X.w _ _ ⟨.bl _, H, I, rfl, q⟩
/-- x in [texts] -/
def rInT (K : PySem.W.Frag) : R2 := fun x y H Q => ∃ (p a : Addr) (d : PyData) (zs : List Str), y = .ref a ∧ SqL K H a (zs.map V.str) ∧ Dt p H x d ∧ Q (.bl (zs.any fun z => isT d z)) H
def isTv (d : PyData) : Value → Bool
  | .str z _ => isT d z
  | _ => false
theorem any_isTv (d : PyData) : ∀ {zs : List Str} {us : List Value}, Vals (zs.map V.str) us → us.any (isTv d) = zs.any fun z => isT d z
  | [], _, .nil => rfl
  | z :: zs, _, .cons r t => by
    obtain ⟨k, rfl⟩ := r
    rw [List.any_cons, List.any_cons, any_isTv d t]
    rfl
theorem mem_strs : ∀ {zs : List Str} {us : List Value}, Vals (zs.map V.str) us → ∀ u ∈ us, ∃ z t, u = .str z t
  | [], _, .nil, u, hu => by cases hu
  | z :: zs, _, .cons r t, u, hu => by
    rcases List.mem_cons.mp hu with e | hu
    · obtain ⟨k, rfl⟩ := r
      exact ⟨z, k, e⟩
    · exact mem_strs t u hu
theorem op_inT (hu : X.A.units + 64 < cLine) : OpR X (compareOp .In) (rInT X.K) := by
  intro pins s σ H x y v u Q I rx ry h
  obtain ⟨p, a, d, zs, rfl, hs, hd, q⟩ := h
  cases ry
  obtain ⟨its, rv, pl, _⟩ := I.list hs
  refine SeqAt.in_listAt (isTv d) pl.isList (fun z hz => ?_) ⟨.bl _, H, I, rfl, ?_⟩
  · obtain ⟨w, t, rfl⟩ := mem_strs rv z (by simpa using hz)
    exact eq_txt I hd rx (by show X.A.units + 1 < cLine; omega)
  · rw [show its.toArray.any (isTv d) = its.any (isTv d) by simp, any_isTv d rv]
    exact q
end
end Gj

/-! own layer: len(set(t)), t a tuple of texts -/
namespace Gj
open PySem PySem.Spec PyProof.Rows L2
open C8 (Cal pe_c pe_gc)
/-- how many unlike ones -/
def distinct : List Str → Nat
  | [] => 0
  | x :: l => if l.any (· == x) then distinct l else distinct l + 1
theorem distinct_le : ∀ l : List Str, distinct l ≤ l.length
  | [] => Nat.le_refl _
  | x :: l => by
    have := distinct_le l
    unfold distinct
    rw [List.length_cons]
    split <;> omega
theorem any_iff {l : List Str} {x : Str} : l.any (· == x) = true ↔ x ∈ l := by simp
theorem distinct_nodup : ∀ l : List Str, (distinct l = l.length) ↔ l.Nodup
  | [] => by simp [distinct]
  | x :: l => by
    have h1 := distinct_le l
    have ih := distinct_nodup l
    unfold distinct
    rw [List.length_cons, List.nodup_cons]
    by_cases h : l.any (· == x) = true
    · rw [if_pos h]
      exact ⟨fun e => by omega, fun e => absurd (any_iff.mp h) e.1⟩
    · rw [if_neg h]
      exact ⟨fun e => ⟨fun m => h (any_iff.mpr m), ih.mp (by omega)⟩, fun e => by rw [ih.mpr e.2]⟩
def taken (xs : List Str) (i : Nat) : List Str := (xs.take i).reverse
theorem taken_succ {xs : List Str} {i : Nat} {x : Str} (h : xs[i]? = some x) : taken xs (i + 1) = x :: taken xs i := by
  unfold taken
  rw [List.take_add_one, h, List.reverse_append]
  rfl
section
variable {prog : Program} {w : World} {A : Around} {R : Result → Shared → Prop} {I : Addr} {fp wr : List Addr} {G : Array GenState → Array GenState → Prop} {n : Nat} {P : Nat → Value → Prop} {Sx : Nat → Shared → Prop}
theorem loop_strs (W : WalksS prog w A.in1 I fp wr G n P Sx) (S : Addr) (hSf : S ∉ fp) (xs : List Str) (hsz : xs.length = n) (hn : n ≤ 1000) (hval : ∀ i v, P i v → ∃ t, v = .str (xs.getD i Str.empty) t) :
    ∀ (k i : Nat) (s : Shared), n - i = k → i ≤ n → Sx i s → s.heap.SetOf (PySem.strKind prog w) S (fun y => (taken xs i).any (· == y)) (distinct (taken xs i)) →
      (∀ s', Moved (S :: wr) G s s' → s'.heap.SetOf (PySem.strKind prog w) S (fun y => (taken xs n).any (· == y)) (distinct (taken xs n)) → R (.ok (.ret .none)) s') →
      codeAny (model prog w) A (.builtin "set.update.loop" ⟨[.ref S, .ref I], []⟩) R s
  | 0, i, s, hk, hi, hst, hS, hR => by
    have e : i = n := by omega
    subst e
    refine codeAny_builtin PyProof.Rows.F.entry_set_update_loop (by
      rw [Around.under_plainId PyProof.Rows.F.plain_set_update_loop _]
      exact wpAny_bind (W.done s _ _ hst fun s' hm => wpAny_pure (hR s' (hm.mono fun b hb => List.mem_cons_of_mem _ hb) (by
        obtain ⟨o, es, ep, t, ho, rest⟩ := hS
        exact ⟨o, es, ep, t, hm.heap S _ (fun h => hSf (W.sub _ h)) ho, rest⟩))))
  | k + 1, i, s, hk, hi, hst, hS, hR => by
    have hlt : i < n := by omega
    have hx : xs[i]? = some (xs.getD i Str.empty) := by rw [List.getD_eq_getElem?_getD, List.getElem?_eq_getElem (by omega)]; rfl
    refine codeAny_builtin PyProof.Rows.F.entry_set_update_loop ?_
    rw [Around.under_plainId PyProof.Rows.F.plain_set_update_loop _]
    refine wpAny_bind (m := pyNext (.ref I)) (W.item i s _ _ hlt hst fun v s' hP hst' hm => ?_)
    obtain ⟨t, rfl⟩ := hval i v hP
    have hS' : s'.heap.SetOf (PySem.strKind prog w) S (fun y => (taken xs i).any (· == y)) (distinct (taken xs i)) := by
      obtain ⟨o, es, ep, tb, ho, rest⟩ := hS
      exact ⟨o, es, ep, tb, hm.heap S _ (fun h => hSf (W.sub _ h)) ho, rest⟩
    have dl := distinct_le (taken xs i)
    have tl : (taken xs i).length ≤ 1000 := by
      unfold taken
      rw [List.length_reverse, List.length_take]
      omega
    refine wpAny_bind (m := holding [Value.str (xs.getD i Str.empty) t] (setAdd S (.str (xs.getD i Str.empty) t))) (wpAny_holding ?_)
    unfold setAdd
    refine wpAny_holding (wpAny_bind ((PySem.strKind prog w).pyHash (k := xs.getD i Str.empty) (strKind_is _ _ _ _) (wpAny_setAddHashed_of (knd := PySem.strKind prog w) (s := { s' with toks := s'.toks + 1 }) (strKind_is _ _ _ _) rfl hS' (by unfold scanBound; omega) fun h' hsb hS2 => ?_)))
    have hSi : h'.SetOf (PySem.strKind prog w) S (fun y => (taken xs (i + 1)).any (· == y)) (distinct (taken xs (i + 1))) := by
      rw [taken_succ hx]
      refine SetOf_congr hS2 (fun y => ?_) ?_
      · show ((taken xs i).any (· == y) || decide (y = xs.getD i Str.empty)) = ((xs.getD i Str.empty) == y || (taken xs i).any (· == y))
        rw [Bool.or_comm]
        congr 1
        by_cases e : y = xs.getD i Str.empty
        · rw [← e, decide_eq_true rfl, beq_self_eq_true]
        · rw [decide_eq_false e]
          exact (beq_eq_false_iff_ne.mpr fun z => e z.symm).symm
      · rfl
    refine wpAny_pure ⟨plainId_quiet PyProof.Rows.F.plain_set_update_loop _, loop_strs W S hSf xs hsz hn hval k (i + 1) _ (by omega) hlt (W.frame _ s' _ _ hst' (Nat.le_succ _) fun b hb o e => ?_) hSi fun s'' hm'' hS'' => hR s'' (Moved.trans W.gtrans ((hm.mono fun b hb => List.mem_cons_of_mem _ hb).then_heap (Nat.le_succ _) fun b o hb e => ?_) hm'') hS''⟩
    · exact (hsb.2 b fun h : b = S => hSf (h ▸ hb)).trans e
    · exact (hsb.2 b fun h : b = S => hb (h ▸ List.mem_cons_self)).trans e
end
section
variable {prog : Program} {w : World} {A : Around} {E : Value → Shared → Prop} {s : Shared}
/-- a new set, empty -/
abbrev set0 (led : Bool) : Obj := { cls := .type "set", dict := none, data := .set #[] 0 (.fresh 0 0 led) }
set_option maxHeartbeats 3200000 in
theorem call_set_tup {l : Addr} {items : Array Value} {xs : List Str} {Q : Value → Shared → Prop} (hh : A.handled = none) (hl : s.heap.IsTuple l items) (hi : PyProof.Rows.StrsAre items.toList xs) (hn : xs.length ≤ 1000)
    (h : ∀ (h' : Heap) (tk : Nat), h'.SetOf (PySem.strKind prog w) s.heap.objs.size (fun y => (taken xs xs.length).any (· == y)) (distinct (taken xs xs.length)) → (∀ b o, s.heap.get? b = some o → h'.get? b = some o) → Q (.ref s.heap.objs.size) { s with heap := h', toks := tk }) :
    wpAny (model prog w) A (call (.type "set") [.ref l]) Q E s := by
  obtain ⟨c, tl, hmro⟩ := PySem.F.called_set.mro
  have g1 := PySem.F.called_set.made; have g2 := PySem.F.called_set.sub; have g3 := PySem.F.called_set.notType; have g4 := PySem.F.called_set.canCreate; have g5 := PySem.F.typeCall_set_1 (.ref l)
  refine wpAny_call (codeAny_of_tree (show wpAny _ _ (callAny (.type "set") _) _ _ _ from wpAny_pure ⟨Code.quiet_builtin _ (by decide +kernel), codeAny_builtin PySem.F.entry_type_call ?_⟩))
  rw [Around.under_plain (weight_type_call_type "set" [.ref l] []) rfl]
  repeat (any_goals (first | assumption | wp_step))
  refine codeAny_mono (code_set_new_1 (.ref l) (E := E) (Q₁ := fun obj s₁ => ∃ led : Bool, obj = .ref s.heap.objs.size ∧ s₁ = { s with heap := s.heap.push (set0 led) }) fun led => ⟨led, rfl, rfl⟩) fun r s₁ hr => ?_
  cases r with
  | error e => exact hr
  | ok fl =>
    cases fl with
    | next => exact hr.elim
    | brk => exact hr.elim
    | cont => exact hr.elim
    | ret obj =>
      obtain ⟨led, rfl, rfl⟩ := hr
      have got : (s.heap.push (set0 led)).get? s.heap.objs.size = some (set0 led) := Heap.get?_push_size _ rfl
      have ty : Shared.TypeIs { s with heap := s.heap.push (set0 led) } (.ref s.heap.objs.size) "set" := ⟨_, got, rfl⟩
      have i1 := PySem.F.called_set.init.lookup; have i2 := PySem.F.called_set.init.bind (.ref s.heap.objs.size)
      repeat (any_goals (first | assumption | wp_step))
      refine codeAny_mono (codeAny_call_builtin (R := wants (fun r s₂ => r = .none ∧ ∃ h' tk, s₂ = { s with heap := h', toks := tk } ∧ h'.SetOf (PySem.strKind prog w) s.heap.objs.size (fun y => (taken xs xs.length).any (· == y)) (distinct (taken xs xs.length)) ∧ (∀ b o, s.heap.get? b = some o → h'.get? b = some o)) E) PySem.F.called_set.init.plain PySem.F.entry_set_init (check_set_init_1 ty ?_)) fun r₂ s₂ hr₂ => ?_
      · obtain ⟨⟨oc, od, dt, sl⟩, ho, hc, nl, hd⟩ := hl
        cases hc; cases hd
        have ho2 : (s.heap.push (set0 led)).get? l = some ⟨.type "tuple", od, .seq items nl, sl⟩ := Heap.get?_push_of_some _ ho
        have k1 := PySem.F.sub_tuple_set; have k2 := PySem.F.sub_tuple_frozenset
        have k3 : (Value.type "tuple" == Value.type "dict") = false := by decide
        have isT : (s.heap.push (set0 led)).IsTuple l items := ⟨_, ho2, rfl, nl, rfl⟩
        unfold Builtin.«set.__init__» noKeywords Builtin.Frozenset.updateFrom
        generalize hPI : pyIter = PI
        wp_walk
        subst hPI
        refine wpAny_pyIter_tuple isT (wpAny_bind (wpAny_runValue ?_))
        have lt : l < s.heap.objs.size := Heap.lt_size ho
        have ps : (s.heap.push (set0 led)).objs.size = s.heap.objs.size + 1 := Heap.size_push _ _
        have h3 : A.in1.in1.in1.handled = none := by simp [hh]
        have len : xs.length = items.size := by rw [← StrsAre.len_eq hi, Array.length_toList]
        refine loop_strs ((Walks.tuple h3 _ l (by rw [ps]; exact Nat.ne_of_lt (Nat.lt_succ_of_lt lt)) items).toS) s.heap.objs.size (by rw [ps]; simp only [List.mem_cons, List.not_mem_nil, or_false, not_or]; exact ⟨Nat.ne_of_lt (Nat.lt_succ_self _), Nat.ne_of_gt lt⟩) xs len (by omega) (fun i v hv => SS.strs_at hi i v (by rw [Array.getElem?_toList]; exact hv)) (items.size - 0) 0 _ (by omega) (Nat.zero_le _)
          ⟨⟨_, Heap.get?_push_size _ rfl, rfl, rfl⟩, isT.push _⟩ ?z0 ?z1
        case z0 => exact PyProof.Rows.SetOf_congr ((PyProof.Rows.setObjOf_fresh (knd := PySem.strKind prog w) led).setOf (Heap.get?_push_of_some _ got) (by unfold scanBound; omega)) (fun _ => rfl) rfl
        case z1 =>
          intro s' hm hS'
          obtain ⟨h', g', d', tk', os'⟩ := s'
          obtain rfl : g' = s.gens := hm.gens
          obtain rfl : d' = s.drawn := hm.drawn
          obtain rfl : os' = s.os := hm.os
          rw [← len] at hS'
          have hb : ∀ {b : Addr} {o : Obj}, s.heap.get? b = some o → b < s.heap.objs.size := fun e => Heap.lt_size e
          refine wpAny_pure ?_
          show wpAny _ _ (ret Value.none) _ _ _
          exact wpAny_pure ⟨rfl, h', tk', rfl, hS', fun b o e => hm.heap b o (by rw [ps]; simp only [List.mem_cons, List.not_mem_nil, or_false, not_or]; exact ⟨Nat.ne_of_lt (hb e), Nat.ne_of_lt (Nat.lt_succ_of_lt (hb e))⟩) (Heap.get?_push_of_some _ (Heap.get?_push_of_some _ e))⟩
      · cases r₂ with
        | error e => exact hr₂
        | ok fl₂ =>
          cases fl₂ with
          | next => exact hr₂.elim
          | brk => exact hr₂.elim
          | cont => exact hr₂.elim
          | ret r =>
            obtain ⟨rfl, h', tk, rfl, hS', hk'⟩ := hr₂
            repeat (any_goals (first | assumption | wp_step))
            exact h _ _ hS' hk'
end
end Gj

namespace Gj
open PySem PySem.Spec PyProof.Rows L2
open C8 (Cal pe_c pe_gc)
/-- the set of these texts at a -/
def StrSet (P : Program) (w : World) (a : Addr) (xs : List Str) : HO := .ext fun h => h.SetOf (PySem.strKind P w) a (fun y => (taken xs xs.length).any (· == y)) (distinct (taken xs xs.length))
theorem strSet_ok {P : Program} {w : World} {H : Hp} {h : Heap} {a : Addr} {xs : List Str} (hS : h.SetOf (PySem.strKind P w) a (fun y => (taken xs xs.length).any (· == y)) (distinct (taken xs xs.length))) : ObjOk P w H h a (StrSet P w a xs) := by
  obtain ⟨o, es, ep, t, ho, rest⟩ := hS
  exact ⟨⟨o, es, ep, t, ho, rest⟩, ⟨o, ho⟩, fun h1 h2 z k => by
    obtain ⟨o, es, ep, t, ho, rest⟩ := z
    exact ⟨o, es, ep, t, k _ ho, rest⟩⟩
theorem strs_of : ∀ {ys : List Str} {us : List Value}, Vals (ys.map V.str) us → PyProof.Rows.StrsAre us ys
  | [], _, .nil => .nil
  | y :: ys, _, .cons r t => by
    obtain ⟨k, rfl⟩ := r
    exact .cons y k (strs_of t)
section
variable {X : Cx}
/-- set(t) -/
def rSetS (P : Program) (w : World) (K : PySem.W.Frag) : List V → Hp → VK → Prop := fun vs H Q => ∃ (l : Addr) (xs : List Str), vs = [.ref l] ∧ SqT K H l (xs.map V.str) ∧ xs.length ≤ 1000 ∧ ∀ a, H a = none → Q (.ref a) (upd H a (StrSet P w a xs))
theorem call_setS (hc : X.calm = true) : CallR X (.type "set") (rSetS X.prog X.w X.K) := by
  intro pins s σ H xs us Q I r h
  obtain ⟨l, ys, rfl, hq, hn, q⟩ := h
  obtain ⟨u, rfl, rfl⟩ := vals1 r
  obtain ⟨its, rv, pl, _⟩ := I.tuple hq
  have nf : H s.heap.objs.size = none := I.hok.fresh (Nat.le_refl _)
  exact call_set_tup (I.ok.hd hc) pl (by simpa using strs_of rv) hn fun h' tk hS hk => ⟨.ref _, _, I.laid (t' := tk) hk (Nat.le_refl _) (strSet_ok hS), rfl, q _ nf⟩
/-- len(s) -/
def rLenS (P : Program) (w : World) : List V → Hp → VK → Prop := fun vs H Q => ∃ (a : Addr) (xs : List Str), vs = [.ref a] ∧ H a = some (StrSet P w a xs) ∧ xs.length ≤ 1000 ∧ Q (.int (distinct (taken xs xs.length))) H
theorem call_lenS : CallR X (.builtin "len") (rLenS X.prog X.w) := by
  intro pins s σ H xs us Q I r h
  obtain ⟨a, ys, rfl, ea, hl, q⟩ := h
  obtain ⟨u, rfl, rfl⟩ := vals1 r
  obtain ⟨⟨o, es, ep, t, ho, hex, hd, _, _, _, hf, hn⟩, _, _⟩ := I.hok a _ ea
  have small := distinct_le (taken ys ys.length)
  refine call_len_set ho hex hd hf ?_ ⟨.int _, H, I.tok _, ⟨_, by rw [hn]⟩, q⟩
  have e : (taken ys ys.length).length = ys.length := by simp [taken]
  rw [hn]
  omega
end
end Gj

/-! own layer: tests of data -/
namespace Gj
open PySem PySem.Spec PyProof.Rows L2
open C8 (Cal pe_c pe_gc)
/-- a def that tells a truth of one datum -/
def spPred (f : PyData → Bool) : Sp := fun vs H Q _ => ∃ (p : Addr) (v : V) (d : PyData), vs = [v] ∧ Dt p H v d ∧ ∀ H', Same H H' → Q (.bl (f d)) H'
/-- .. and a number -/
def spPredN (f : PyData → Int → Bool) : Sp := fun vs H Q _ => ∃ (p : Addr) (v : V) (d : PyData) (n : Int), vs = [v, .int n] ∧ Dt p H v d ∧ ∀ H', Same H H' → Q (.bl (f d n)) H'
/-- an expression that tells b, whatever it lays -/
def Say (t : TE) (σ : L2.St) (H : Hp) (b : Bool) : Prop := ∀ Q : VK, (∀ H', Same H H' → Q (.bl b) H') → t σ H Q
/-- an expression that is v -/
def Giv (t : TE) (σ : L2.St) (H : Hp) (v : V) : Prop := ∀ Q : VK, Q v H → t σ H Q
section
variable {σ : L2.St} {H : Hp} {ta tb te : TE} {a b : Bool} {K : PySem.W.Frag} {p : Addr} {v : V} {d : PyData} {i : Nat}
theorem Say.and (ha : Say ta σ H a) (hb : a = true → ∀ H', Same H H' → Say tb σ H' b) : Say (tAndV ta tb) σ H (a && b) := fun Q q => ha _ fun H1 s1 => ⟨a, rfl, by
  cases a with
  | true => exact iteT (hb rfl H1 s1 Q fun H2 s2 => q H2 (s1.trans s2))
  | false => exact iteF (q H1 s1)⟩
theorem Say.or (ha : Say ta σ H a) (hb : a = false → ∀ H', Same H H' → Say tb σ H' b) : Say (tOrV ta tb) σ H (a || b) := fun Q q => ha _ fun H1 s1 => ⟨a, rfl, by
  cases a with
  | true => exact iteT (q H1 s1)
  | false => exact iteF (hb rfl H1 s1 Q fun H2 s2 => q H2 (s1.trans s2))⟩
theorem Say.not (ha : Say ta σ H a) : Say (tNotV ta) σ H (!a) := fun Q q => ha _ fun H1 s1 => ⟨a, rfl, q H1 s1⟩
theorem Say.of (h : Say ta σ H a) (e : a = b) : Say ta σ H b := e ▸ h
theorem giv_var (h : σ[i]? = some (some v)) : Giv (tVar i) σ H v := fun Q q => ⟨v, h, q⟩
theorem giv_c {v : V} : Giv (tC v) σ H v := fun Q q => q
theorem giv_ixT {x : V} {xs : List V} {c : Addr} {k : Nat} (h : Giv te σ H (.ref c)) (e : H c = some (.tup xs)) (g : xs[k]? = some x) : Giv (tOp (rIxT K) te (tC (.int (k : Nat)))) σ H x := fun Q q => h _ ⟨c, xs, _, x, rfl, rfl, SqT.of e, atI_nat g, q⟩
theorem say_isa {T : String} (hv : Giv te σ H v) (hd : Dt p H v d) : Say (tCB (rIsD K T) (tCons te (tCons (tC (.ty T)) tNil))) σ H (isa d T) := fun Q q => hv _ ⟨p, v, d, rfl, hd, q H (Same.refl H)⟩
theorem say_call {f : PyData → Bool} {E : XK} (hv : Giv te σ H v) (hd : Dt p H v d) : Say (tCall (spPred f) [] E (tCons te tNil)) σ H (f d) := fun Q q => hv _ ⟨p, v, d, rfl, hd, q⟩
theorem say_callN {f : PyData → Int → Bool} {n : Int} {tn : TE} {E : XK} (hv : Giv te σ H v) (hn : Giv tn σ H (.int n)) (hd : Dt p H v d) : Say (tCall (spPredN f) [] E (tCons te (tCons tn tNil))) σ H (f d n) := fun Q q => hv _ (hn _ ⟨p, v, d, n, rfl, hd, q⟩)
theorem say_eqT {z : Str} {tz : TE} (hv : Giv te σ H v) (hz : Giv tz σ H (.str z)) (hd : Dt p H v d) : Say (tOp rEqT te tz) σ H (isT d z) := fun Q q => hv _ (hz _ ⟨p, d, z, rfl, hd, q H (Same.refl H)⟩)
theorem say_lenEq {n : Int} {c : Addr} {xs : List V} {tn : TE} {X : Cx} (hv : Giv te σ H (.ref c)) (hn : Giv tn σ H (.int n)) (e : H c = some (.tup xs)) :
    Say (tOp rEq (tCB (fun ys H Q => ∃ x m, ys = [x] ∧ LenV X.K x H m ∧ Q (.int m) H) (tCons te tNil)) tn) σ H (decide ((xs.length : Int) = n)) := fun Q q => hv _ ⟨.ref c, xs.length, rfl, .inr ⟨xs, SqT.of e, rfl⟩, hn _ ⟨rfl, by
      have e2 : decide (V.int (xs.length : Int) = V.int n) = decide ((xs.length : Int) = n) := by
        by_cases h : (xs.length : Int) = n
        · rw [decide_eq_true h, h, decide_eq_true rfl]
        · rw [decide_eq_false h, decide_eq_false fun z => h (V.int.inj z)]
      rw [e2]
      exact q H (Same.refl H)⟩⟩
end
end Gj

namespace Gj
open PySem PySem.Spec PyProof.Rows L2
open C8 (Cal pe_c pe_gc)
/-- whether its length and signs are so -/
def isTxt (z signs : Str) (most : Int) : Bool := (decide (1 ≤ (z.length : Int)) && decide ((z.length : Int) ≤ most)) && (z.cps.toList.map fun c => decide (c ∈ signs.cps.toList)).all id
def mTxt (signs : Str) (most : Int) : PyData → Bool
  | .str z => isTxt z signs most
  | _ => false
abbrev rLenX (K : PySem.W.Frag) : List V → Hp → VK → Prop := fun ys H Q => ∃ x m, ys = [x] ∧ LenV K x H m ∧ Q (.int m) H
abbrev rLeX : R2 := rI0 fun i j => .bl (decide (i ≤ j))
abbrev rInX : R2 := fun x y H Q => ∃ (c : Nat) (z : Str), x = .str ⟨#[c]⟩ ∧ y = .str z ∧ Q (.bl (decide (c ∈ z.cps.toList))) H
section
variable {σ : L2.St} {H : Hp} {ta tb te ts tm : TE} {a b : Bool} {K : PySem.W.Frag} {p : Addr} {v : V} {d : PyData} {i : Nat} {z signs : Str} {most : Int}
theorem say_chain (hv : Giv te σ H (.str z)) (hm : Giv tm σ H (.int most)) (hz : z.length ≤ 1000) : Say (tChain rLeX rLeX (tC (.int 1)) (tCB (rLenX K) (tCons te tNil)) tm) σ H (decide (1 ≤ (z.length : Int)) && decide ((z.length : Int) ≤ most)) := fun Q q =>
  hv _ ⟨_, _, rfl, ⟨Nat.le_of_lt (small1000 hz), rfl⟩, _, _, rfl, rfl, _, rfl, by
    by_cases h : 1 ≤ (z.length : Int)
    · rw [decide_eq_true h]
      refine iteT (hm _ ⟨_, _, rfl, rfl, ?_⟩)
      have := q H (Same.refl H)
      rw [decide_eq_true h, Bool.true_and] at this
      exact this
    · rw [decide_eq_false h]
      have := q H (Same.refl H)
      rw [decide_eq_false h, Bool.false_and] at this
      exact iteF this⟩
theorem say_all (hz : z.length ≤ 1000) (hw : ∀ v, wipe ((wipe σ [i]).set i (some v)) [i] = wipe σ [i]) (hi : ∀ v, ((wipe σ [i]).set i (some v))[i]? = some (some v)) (hs : ∀ v H, Giv ts ((wipe σ [i]).set i (some v)) H (.str signs)) (hv : Giv te σ H (.str z)) :
    Say (tCB (rAll K) (tCons (tLc (iStr te) (gName i) tYes (tOp rInX (tVar i) ts) [i]) tNil)) σ H ((z.cps.toList.map fun c => decide (c ∈ signs.cps.toList)).all id) := fun Q q => hv _ ⟨z, rfl, fun D hD => by
  refine lc_it walk_str (Pv := fun j H' => Same H H' ∧ H' D = some (.lst (((z.cps.toList.take j).map fun c => decide (c ∈ signs.cps.toList)).map V.bl))) ⟨same_new hD, upd_same⟩ (fun _ _ _ _ => trivial) (fun j x H1 H2 hj hp hy => ?_) (fun H1 hp => ?_)
  · obtain ⟨rfl, ch, ec, rfl⟩ := hy
    obtain ⟨sm, eD⟩ := hp
    refine ⟨hw _, _, hi _, hs _ _ _ ⟨ch, signs, rfl, rfl, _, eD, ?_, fun b o e => ?_, ?_⟩⟩
    · rw [List.length_map, List.length_map, List.length_take]
      have : z.cps.toList.length = z.length := rfl
      exact small1000 (by omega)
    · rw [upd_ne (ne_of_none e hD)]
      exact sm b o e
    · have ec2 : z.cps.toList[j]? = some ch := by rw [Array.getElem?_toList]; exact ec
      rw [upd_same, take_snoc ec2, List.map_append, List.map_append]
      rfl
  · obtain ⟨sm, eD⟩ := hp
    rw [show z.cps.toList.take z.cps.size = z.cps.toList from List.take_of_length_le (Nat.le_refl _)] at eD
    exact ⟨D, _, rfl, SqL.of eD, q H1 sm⟩⟩
theorem say_allT {f : PyData → Bool} {E : XK} {c : Addr} {xs : List V} {ds : List PyData} (hl : xs.length ≤ 1000) (hw : ∀ v, wipe ((wipe σ [i]).set i (some v)) [i] = wipe σ [i]) (hi : ∀ v, ((wipe σ [i]).set i (some v))[i]? = some (some v)) (hv : Giv te σ H (.ref c)) (ec : H c = some (.tup xs)) (hd : DtAll p H xs ds) :
    Say (tCB (rAll K) (tCons (tLc (iTup K te) (gName i) tYes (tCall (spPred f) [] E (tCons (tVar i) tNil)) [i]) tNil)) σ H (ds.all f) := fun Q q => hv _ ⟨c, rfl, ⟨xs, SqT.of ec⟩, fun D hD => by
  refine lc_tup (K := K) (a := c) (xs := xs) (Pv := fun j H' => Same H H' ∧ H' D = some (.lst (((ds.take j).map f).map V.bl))) ⟨same_new hD, upd_same⟩ (fun j H' _ hp => SqT.of (hp.1 _ _ ec)) (fun j x H1 hx hp => ?_) (fun H1 hp => ?_)
  · obtain ⟨sm, eD⟩ := hp
    obtain ⟨d, hd1, hd2⟩ := hd.get hx
    refine ⟨hw _, _, hi _, p, x, d, rfl, hd2.same sm, fun H2 s2 => ⟨_, s2 _ _ eD, ?_, fun b o e => ?_, ?_⟩⟩
    · rw [List.length_map, List.length_map, List.length_take, ← hd.length]
      exact small1000 (by omega)
    · rw [upd_ne (ne_of_none e hD)]
      exact s2 _ _ (sm b o e)
    · rw [upd_same, take_snoc hd1, List.map_append, List.map_append]
      rfl
  · obtain ⟨sm, eD⟩ := hp
    rw [show ds.take xs.length = ds from List.take_of_length_le (by rw [hd.length]; exact Nat.le_refl _)] at eD
    refine ⟨D, _, rfl, SqL.of eD, ?_⟩
    rw [List.all_map]
    exact q H1 sm⟩
end
/-! ### names and words are so -/
theorem txt_of {cs : List Nat} {signs : Str} {most : Nat} (h1 : 1 ≤ cs.length) (h2 : cs.length ≤ most) (h : ∀ c ∈ cs, c ∈ signs.cps.toList) : isTxt (SX.S cs) signs (most : Int) = true := by
  have e : ((SX.S cs).length : Int) = (cs.length : Int) := by rw [SX.S_len]
  unfold isTxt
  rw [e, decide_eq_true (show (1 : Int) ≤ (cs.length : Int) by omega), decide_eq_true (show (cs.length : Int) ≤ (most : Int) by omega)]
  show (cs.map fun c => decide (c ∈ signs.cps.toList)).all id = true
  rw [List.all_map]
  exact List.all_eq_true.mpr fun c hc => decide_eq_true (h c hc)
end Gj

/-! own layer: enumerate over a tuple -/
namespace Gj
open PySem PySem.Spec PyProof.Rows L2
open Sem (wp)
open AutoSeq1 (wpAny_loadPart')
theorem enumT_new (c : Addr) (xs : Array Value) (m : Nat) (dd : Option Addr) (ss : Array (Option Value)) :
    Meets (Builtin.«enumerate.__new__» ⟨[.type "enumerate", .ref c], []⟩) (fun _ R z => z.heap.get? c = some { cls := .type "tuple", dict := dd, data := .seq xs m, slots := ss } ∧
      R (.ok (.ret (.ref (z.heap.push { cls := .type "tuple_iterator", data := .fields #[.ref c, .int 0 0] }).objs.size)))
        { z with heap := (z.heap.push { cls := .type "tuple_iterator", data := .fields #[.ref c, .int 0 0] }).push { cls := .type "enumerate", data := .fields #[.none, .bool false, .ref z.heap.objs.size, rawInt 0, .none, .none] } }) :=
  .of_wp fun prog w A R z hh => by
    obtain ⟨hp, gg, dp, tk, os⟩ := z
    obtain ⟨hc, hh⟩ := hh
    have sb := sub_enumerate
    have hT : Heap.IsTuple (Shared.heap ⟨hp, gg, dp, tk, os⟩) c xs := ⟨_, hc, rfl, m, rfl⟩
    wp_walk using wpAny_loadPart' hc
    refine wpAny_stack_any fun _ => wpAny_pure ?_
    split
    · rename_i y _ _ _ _ _
      cases (y == Value.type "enumerate")
      · wp_walk using wpAny_loadPart' hc, wpAny_pyIter_tuple hT
        exact ⟨_, rfl, hh⟩
      · wp_walk using wpAny_loadPart' hc, wpAny_pyIter_tuple hT
        exact ⟨_, rfl, hh⟩
    · wp_walk using wpAny_loadPart' hc, wpAny_pyIter_tuple hT
      exact ⟨_, rfl, hh⟩
theorem enumT_call {prog : Program} {w : World} {A : Around} {E : Value → Shared → Prop} {s : Shared} {c : Addr} {xs : Array Value} {Q : Value → Shared → Prop} (hT : s.heap.IsTuple c xs)
    (k : ∀ h2, IsEnum h2 (s.heap.objs.size + 1) s.heap.objs.size 0 .none → h2.IsTupleIter s.heap.objs.size c 0 → (∀ b o, s.heap.get? b = some o → h2.get? b = some o) → Q (.ref (s.heap.objs.size + 1)) { s with heap := h2 }) :
    wpAny (model prog w) A (call (.type "enumerate") [.ref c]) Q E s := by
  obtain ⟨⟨cl, dd, dt, ss⟩, hc, hcl, m, hdt⟩ := hT
  obtain rfl : cl = .type "tuple" := hcl
  obtain rfl : dt = .seq xs m := hdt
  refine callType_new F.called_enumerate (by decide) (F.typeCall_enumerate_1 _) (F.newCall_enumerate_1 _) (fun ob => F.args_object_init_2 ob _) F.entry_enumerate_new
    (enumT_new c xs m dd ss) ⟨hc, ?_⟩
  have z1 : (s.heap.push { cls := .type "tuple_iterator", data := .fields #[.ref c, .int 0 0] }).objs.size = s.heap.objs.size + 1 := Heap.size_push ..
  show _ ∧ _
  rw [z1]
  have en : IsEnum ((s.heap.push { cls := .type "tuple_iterator", data := .fields #[.ref c, .int 0 0] }).push
      { cls := .type "enumerate", data := .fields #[.none, .bool false, .ref s.heap.objs.size, rawInt 0, .none, .none] }) (s.heap.objs.size + 1) s.heap.objs.size 0 .none := by
    have g := Heap.get?_push_size (s.heap.push { cls := .type "tuple_iterator", data := .fields #[.ref c, .int 0 0] })
      (o := { cls := .type "enumerate", data := .fields #[.none, .bool false, .ref s.heap.objs.size, rawInt 0, .none, .none] }) rfl
    rw [z1] at g
    exact g
  exact ⟨⟨_, en, rfl⟩, k _ en ⟨_, Heap.get?_push_of_some _ (Heap.get?_push_size _ rfl), rfl, rfl⟩ fun b o x => Heap.get?_push_of_some _ (Heap.get?_push_of_some _ x)⟩
/-- the tuple at a, each part in a new pair -/
def ItT (K : PySem.W.Frag) (a : Addr) : It :=
  ⟨fun i H => ∃ (xs : List V) (x : V), SqT K H a xs ∧ xs[i]? = some x, fun i H v H' => ∃ T x, v = .ref T ∧ H T = none ∧ H' = upd H T (.tup [.int (i : Nat), x]) ∧ ∀ xs, SqT K H a xs → xs[i]? = some x, fun i H => ∃ xs : List V, SqT K H a xs ∧ xs.length = i⟩
theorem turn_enumT {P : Program} {w : World} {K : PySem.W.Frag} {elts : List Expr} {kk : Nat} {tpos : Pos} (a e it : Addr) (hai : a ≠ it) (hae : e ≠ a) :
    Turn P w K (.Tuple elts kk tpos) (ItT K a) [e, it] e (fun i h => (∃ old, IsEnum h e it ((i : Nat) : Int) old) ∧ h.IsTupleIter it a i ∧ e ≠ it) where
  mem := by simp
  obj := fun i h st b hb => by
    obtain ⟨⟨old, he⟩, ⟨ot, go, kc, kd⟩, _⟩ := st
    have e2 : b = e ∨ b = it := by simpa using hb
    rcases e2 with rfl | rfl
    · exact ⟨_, he, fun v q => nomatch q⟩
    · exact ⟨ot, go, fun v q => by rw [kd] at q; cases q⟩
  keep := fun i h h' st k => let ⟨⟨old, he⟩, hi, hne⟩ := st; ⟨⟨old, k e (by simp) _ he⟩, hi.at fun ot q => k it (by simp) ot q, hne⟩
  item := by
    intro X hP hw hK hc i pins s σ H E I hf st hg
    subst hP hw hK
    obtain ⟨⟨old, he⟩, hit, hne⟩ := st
    obtain ⟨xs, x, hq, hx⟩ := hg
    obtain ⟨us, rv, pt, _⟩ := I.tuple hq
    obtain ⟨u, hu, ru⟩ := rv.get hx
    have lu : i < us.toArray.size := by
      have := (List.getElem?_eq_some_iff.mp hu).1
      simpa using this
    have el : e < s.heap.objs.size := Heap.lt_size he
    have il : it < s.heap.objs.size := by obtain ⟨_, q, _⟩ := hit; exact Heap.lt_size q
    refine wpAny_pyNext_enum_itemD (Draws.tuple (A := X.A.in1) (I.ok.hd hc) it a hai us.toArray) he ⟨hit, pt⟩ lu hne (by simp [hne, hae]) fun x2 h' tk px ho st' hT hsz hk => ?_
    have ex : x2 = u := by
      have : us[i]? = some x2 := by simpa using px
      rw [hu] at this
      exact (Option.some.inj this).symm
    subst ex
    refine ⟨_, rfl, wpAny_letOwnedTupleGo_enum (s := { s with heap := h', toks := tk + 1 }) ho fun h'' he' sb => ?_⟩
    have hT2 : h''.get? s.heap.objs.size = some { cls := .type "tuple", data := .seq #[.int i tk, x2] } := (sb.2 _ (Nat.ne_of_gt el)).trans hT
    have nw : ObjOk X.prog X.w (upd H s.heap.objs.size (.tup [.int (i : Nat), x])) h'' s.heap.objs.size (.tup [.int (i : Nat), x]) :=
      ⟨by show 2 ≤ sizeLine; decide, [.int i tk, x2], .cons ⟨_, rfl⟩ (.cons ru .nil), ⟨_, hT2, rfl, _, rfl⟩⟩
    have I1 : Inv X pins σ (upd H s.heap.objs.size (.tup [.int (i : Nat), x])) { s with heap := h'', toks := tk + 1 } :=
      I.turnedNew (ch := [e, it]) (fun b ob hb q => (sb.2 b (fun z => hb (by simp [z]))).trans (hk b ob (fun z => hb (by simp [z])) (fun z => hb (by simp [z])) q)) hf (Nat.le_refl _) nw
    refine ⟨.ref s.heap.objs.size, _, I1, rfl, ⟨_, x, rfl, I.hok.fresh (Nat.le_refl _), rfl, fun ys hy => by rw [I.tuple_inj hy hq]; exact hx⟩, ⟨⟨x2, ?_⟩, st'.1.at fun ot q => (sb.2 it (Ne.symm hne)).trans q, hne⟩, fun b hb => ?_⟩
    · have e1 : ((i + 1 : Nat) : Int) = (i : Int) + 1 := by omega
      rw [e1]
      exact he'
    · have e2 : b = e ∨ b = it := by simpa using hb
      have lb : b < s.heap.objs.size := by rcases e2 with rfl | rfl <;> assumption
      rw [upd_ne (Nat.ne_of_lt lb)]
      exact (hf b hb).1
  done := by
    intro X hP hw hK hc i pins s σ H E I hf st hg
    subst hP hw hK
    obtain ⟨⟨old, he⟩, hit, hne⟩ := st
    obtain ⟨xs, hq, hx⟩ := hg
    obtain ⟨us, rv, pt, _⟩ := I.tuple hq
    obtain ⟨f0, f1, f2, f3, f4, f5⟩ := hf it (by simp)
    have hl := rv.length
    have ei : i = us.toArray.size := by simp; omega
    rw [ei] at hit
    exact wpAny_pyNext_enum_endD (Draws.tuple (A := X.A.in1) (I.ok.hd hc) it a hai us.toArray) he ⟨hit, pt⟩ fun h' eb => ⟨rfl, I.turned (t' := s.toks) (fun b ot hb q => eb b ot hb q) f0 f1 f3 f4 f5⟩
  self := fun A i s Q E st h => let ⟨⟨_, he⟩, _⟩ := st; wpAny_pyIter_enum he h
def iEnumT (K : PySem.W.Frag) (ta : TA) : TI := fun σ H R => ta σ H fun vs H1 => ∃ a xs, vs = [.ref a] ∧ SqT K H1 a xs ∧ R (ItT K a) H1
theorem pi_enumT {X : Cx} {e : Expr} {ta : TA} {p pos tpos : Pos} {elts : List Expr} {kk : Nat} (hg : Gl X "enumerate") (hm : X.mg "enumerate" = none) (ha : PA X [e] ta) (hs : starEach [e] X.env = [(false, eval e X.env)] := by rfl) :
    PI X (.Tuple elts kk tpos) (.Call (.Name "enumerate" p) [e] [] pos) (iEnumT X.K ta) := by
  refine ⟨fun pins s σ H R I h => ?_⟩
  refine Call_ (ld_blt I hg hm boot_enumerate (PyProof.Rows.callWith_type1 (thn (ha.run pos pins s σ H _ I h) fun us s1 ⟨vs, H1, I1, r1, q1⟩ => ?_) hs rfl))
  obtain ⟨a, xs, rfl, hq, q⟩ := q1
  cases r1 with
  | cons r rr =>
    cases rr
    cases r
    obtain ⟨its, rv, pt, _⟩ := I1.tuple hq
    have la : a < s1.heap.objs.size := by obtain ⟨o, g, _⟩ := pt; exact Heap.lt_size g
    refine enumT_call pt fun h2 he hit hk => wpAny_pyIter_enum he ?_
    have I2 : Inv X pins σ H1 { s1 with heap := h2 } := I1.kept (t' := s1.toks) hk
    refine ⟨s1.heap.objs.size + 1, [s1.heap.objs.size + 1, s1.heap.objs.size], _, _, H1, rfl, I2, turn_enumT a (s1.heap.objs.size + 1) s1.heap.objs.size (Nat.ne_of_lt la) (Nat.ne_of_gt (Nat.lt_succ_of_lt la)), ⟨⟨.none, he⟩, hit, Nat.succ_ne_self _⟩, fun b hb => ?_, q⟩
    have e2 : b = s1.heap.objs.size + 1 ∨ b = s1.heap.objs.size := by simpa using hb
    have hle : s1.heap.objs.size ≤ b := by
      rcases e2 with z | z <;> rw [z]
      · exact Nat.le_add_right _ _
      · exact Nat.le_refl _
    exact I1.fpOk hle (I1.hok.fresh hle)
end Gj

/-! own layer: tests as statements have them; blocks that return a truth -/
namespace Gj
open PySem PySem.Spec PyProof.Rows L2
open C8 (Cal pe_c pe_gc)
def SayT (t : TT) (σ : L2.St) (H : Hp) (b : Bool) : Prop := ∀ Q : Bool → Hp → Prop, (∀ H', Same H H' → Q b H') → t σ H Q
/-- a block that returns the truth b -/
def Rets (t : TS) (σ : L2.St) (H : Hp) (b : Bool) : Prop := ∀ D : Ends, (∀ H', Same H H' → D.rt (.bl b) H') → t D σ H
section
variable {σ : L2.St} {H : Hp} {ta tb te : TE} {t1 t2 tc : TT} {u1 u2 : TS} {a b c : Bool} {K : PySem.W.Frag} {p : Addr} {v : V} {d : PyData}
theorem Say.tB (h : Say ta σ H a) : SayT (tB ta) σ H a := fun Q q => h _ fun H1 s1 => ⟨a, rfl, q H1 s1⟩
theorem Say.tTest (h : Say ta σ H a) : SayT (tTest ta) σ H a := fun Q q => h _ fun H1 s1 => ⟨a, rfl, q H1 s1⟩
theorem SayT.not (h : SayT t1 σ H a) : SayT (tNot t1) σ H (!a) := fun Q q => h _ q
theorem SayT.of (h : SayT t1 σ H a) (e : a = b) : SayT t1 σ H b := e ▸ h
theorem SayT.or (ha : SayT t1 σ H a) (hb : a = false → ∀ H', Same H H' → SayT t2 σ H' b) : SayT (tOr t1 t2) σ H (a || b) := fun Q q => ha _ fun H1 s1 => by
  cases a with
  | true => exact iteT (q H1 s1)
  | false => exact iteF (hb rfl H1 s1 Q fun H2 s2 => q H2 (s1.trans s2))
theorem SayT.and (ha : SayT t1 σ H a) (hb : a = true → ∀ H', Same H H' → SayT t2 σ H' b) : SayT (tAnd t1 t2) σ H (a && b) := fun Q q => ha _ fun H1 s1 => by
  cases a with
  | true => exact iteT (hb rfl H1 s1 Q fun H2 s2 => q H2 (s1.trans s2))
  | false => exact iteF (q H1 s1)
theorem Rets.ret (h : Say te σ H b) : Rets (tRet te) σ H b := fun D q => h _ q
theorem Rets.of (h : Rets u1 σ H a) (e : a = b) : Rets u1 σ H b := e ▸ h
/-- if c: return a; the rest -/
theorem Rets.iff (hc : SayT tc σ H c) (h1 : c = true → ∀ H', Same H H' → Rets u1 σ H' a) (h2 : c = false → ∀ H', Same H H' → Rets u2 σ H' b) : Rets (tSeq (tIfS tc u1 tNext) u2) σ H (bif c then a else b) := fun D q => hc _ fun H1 s1 => by
  cases c with
  | true => exact iteT (h1 rfl H1 s1 _ fun H2 s2 => q H2 (s1.trans s2))
  | false => exact iteF (h2 rfl H1 s1 D fun H2 s2 => q H2 (s1.trans s2))
theorem say_bl : Say (tC (.bl b)) σ H b := fun Q q => q H (Same.refl H)
theorem say_len {c : Addr} {xs : List V} (hv : Giv te σ H (.ref c)) (e : H c = some (.tup xs)) : Giv (tCB (rLenX K) (tCons te tNil)) σ H (.int (xs.length : Nat)) := fun Q q => hv _ ⟨.ref c, xs.length, rfl, .inr ⟨xs, SqT.of e, rfl⟩, q⟩
theorem say_lt {i j : Int} (h1 : Giv ta σ H (.int i)) (h2 : Giv tb σ H (.int j)) : Say (tOp (rI0 fun i j => .bl (decide (i < j))) ta tb) σ H (decide (i < j)) := fun Q q => h1 _ (h2 _ ⟨i, j, rfl, rfl, q H (Same.refl H)⟩)
theorem dec_int2 {i j : Int} : decide (V.int i = V.int j) = decide (i = j) := by
  by_cases h : i = j
  · rw [h, decide_eq_true rfl, decide_eq_true rfl]
  · rw [decide_eq_false h, decide_eq_false fun z => h (V.int.inj z)]
theorem say_eqI {i j : Int} (h1 : Giv ta σ H (.int i)) (h2 : Giv tb σ H (.int j)) : Say (tOp rEq ta tb) σ H (decide (i = j)) := fun Q q => h1 _ (h2 _ ⟨rfl, by rw [dec_int2]; exact q H (Same.refl H)⟩)
theorem say_neI {i j : Int} (h1 : Giv ta σ H (.int i)) (h2 : Giv tb σ H (.int j)) : Say (tOp rNe ta tb) σ H (!decide (i = j)) := fun Q q => h1 _ (h2 _ ⟨rfl, by rw [dec_int2]; exact q H (Same.refl H)⟩)
end
theorem walk_enumT {K : PySem.W.Frag} {a : Addr} {xs : List V} : Walk (ItT K a) xs.length (fun H => SqT K H a xs) (fun i H v H' => ∃ T x, v = .ref T ∧ H T = none ∧ H' = upd H T (.tup [.int (i : Nat), x]) ∧ xs[i]? = some x) :=
  ⟨fun i _ hi q => ⟨xs, xs[i], q, by simp [hi]⟩, fun _ q => ⟨xs, q, rfl⟩, fun _ _ _ _ _ q ⟨T, x, h1, h2, h3, h4⟩ => ⟨T, x, h1, h2, h3, h4 xs q⟩⟩
/-- whether the k-th is none of those ahead of it -/
def newAt (zs : List Str) (k : Nat) : Bool := !decide (zs.getD k Str.empty ∈ zs.take k)
theorem cut_to (xs : List V) (k : Nat) : cutV xs none (some (k : Int)) = xs.take k := by
  unfold cutV
  rw [HT.sIx_none, HT.sIx_nat, List.drop_zero, Nat.sub_zero]
  by_cases h : k ≤ xs.length
  · rw [Nat.min_eq_left h]
  · rw [Nat.min_eq_right (by omega), List.take_of_length_le (Nat.le_refl _), List.take_of_length_le (by omega)]
theorem say_news {σ : L2.St} {H : Hp} {K : PySem.W.Frag} {te ts : TE} {i j : Nat} {vs : List Nat} {c : Addr} {zs : List Str} (hl : zs.length ≤ 1000) (hv : Giv te σ H (.ref c)) (ec : H c = some (.tup (zs.map V.str)))
    (hw : ∀ x y, wipe (((wipe σ vs).set i (some x)).set j (some y)) vs = wipe σ vs) (hi : ∀ x y, (((wipe σ vs).set i (some x)).set j (some y))[i]? = some (some x)) (hj : ∀ x y, (((wipe σ vs).set i (some x)).set j (some y))[j]? = some (some y)) (hs : ∀ x y H, Giv ts (((wipe σ vs).set i (some x)).set j (some y)) H (.ref c)) :
    Say (tCB (rAll K) (tCons (tLc (iEnumT K (tCons te tNil)) (gTup K 2 (gCons (gName i) (gCons (gName j) gNil))) tYes (tOp (rIn K true) (tVar j) (tSl (rSlA K) ts tNoPart (tPart (tVar i)))) vs) tNil)) σ H ((List.range zs.length).all (newAt zs)) := fun Q q => hv _ ⟨c, _, rfl, SqT.of ec, fun D hD => by
  refine lc_it (walk_enumT (xs := zs.map V.str)) (Pv := fun k H' => Same H H' ∧ H' D = some (.lst (((List.range k).map (newAt zs)).map V.bl))) ⟨same_new hD, upd_same⟩ (fun k H1 _ hp => SqT.of (hp.1 _ _ ec)) (fun k x H1 H2 hk hp hy => ?_) (fun H1 hp => ?_)
  · obtain ⟨sm, eD⟩ := hp
    obtain ⟨T, y, rfl, nT, rfl, ey⟩ := hy
    rw [List.length_map] at hk
    rw [List.getElem?_map, List.getElem?_eq_getElem hk] at ey
    have ey : V.str zs[k] = y := Option.some.inj ey
    subst ey
    have s2 : Same H1 (upd H1 T (.tup [.int (k : Nat), .str zs[k]])) := same_new nT
    refine ⟨T, _, rfl, SqT.of upd_same, rfl, _, _, rfl, _, _, rfl, rfl, hw _ _, _, hj _ _, hs _ _ _ _ ⟨_, hi _ _, (k : Int), rfl, c, _, rfl, SqT.of (s2 _ _ (sm _ _ ec)), fun hwh => ?_, fun hwh a na => ?_⟩⟩
    · have e2 := hwh.2
      rw [HT.sIx_nat, List.length_map, Nat.min_eq_left (Nat.le_of_lt hk)] at e2
      omega
    · refine ⟨a, _, rfl, .inr (SqT.of upd_same), rfl, ?_, _, (same_new na) _ _ (s2 _ _ eD), ?_, fun b o e => ?_, ?_⟩
      · rw [cut_to, ← List.map_take]
        exact flat_strs _
      · rw [List.length_map, List.length_map, List.length_range]
        exact small1000 (by omega)
      · rw [upd_ne (ne_of_none e hD)]
        exact (same_new na) _ _ (s2 _ _ (sm b o e))
      · rw [upd_same, cut_to, ← List.map_take, if_pos rfl, inV_strs, List.range_succ, List.map_append, List.map_append]
        show _ = some (HO.lst (_ ++ [V.bl (!decide (zs.getD k Str.empty ∈ zs.take k))]))
        rw [List.getD_eq_getElem?_getD, List.getElem?_eq_getElem hk]
        rfl
  · obtain ⟨sm, eD⟩ := hp
    rw [List.length_map] at eD
    refine ⟨D, _, rfl, SqL.of eD, ?_⟩
    rw [List.all_map]
    exact q H1 sm⟩
theorem news_nodup (zs : List Str) : ((List.range zs.length).all (newAt zs) = true) ↔ zs.Nodup := by
  rw [List.all_eq_true]
  constructor
  · intro h
    rw [List.nodup_iff_pairwise_ne, List.pairwise_iff_getElem]
    intro i j hi hj hij e
    have := h j (List.mem_range.mpr hj)
    unfold newAt at this
    rw [List.getD_eq_getElem?_getD, List.getElem?_eq_getElem hj] at this
    have h2 : zs[j] ∉ zs.take j := by simpa using this
    exact h2 (by rw [← e]; exact List.mem_take_iff_getElem.mpr ⟨i, by omega, rfl⟩)
  · intro h k hk
    have hk := List.mem_range.mp hk
    unfold newAt
    rw [List.getD_eq_getElem?_getD, List.getElem?_eq_getElem hk]
    have h2 : zs[k] ∉ zs.take k := by
      intro hm
      obtain ⟨i, hi, e⟩ := List.mem_take_iff_getElem.mp hm
      rw [List.nodup_iff_pairwise_ne, List.pairwise_iff_getElem] at h
      exact h i k (by omega) hk (by omega) e
    simpa using h2
end Gj

/-! own layer: expressions that lay data, drawing from the pot at p -/
namespace Gj
open PySem PySem.Spec PyProof.Rows L2
open C8 (Cal pe_c pe_gc)
theorem Drawn.refl {p : Addr} {H : Hp} (h : Pot H p) : Drawn p H H := ⟨Keep.refl, h⟩
/-- it is a datum -/
def Lay (te : TE) (p : Addr) (σ : L2.St) (H : Hp) : Prop := ∀ Q : VK, (∀ (H' : Hp) (v : V) (d : PyData), Drawn p H H' → Dt p H' v d → Q v H') → te σ H Q
/-- they are n data -/
def Lays (ta : TA) (p : Addr) (σ : L2.St) (H : Hp) (n : Nat) : Prop := ∀ Q : List V → Hp → Prop, (∀ (H' : Hp) (vs : List V) (ds : List PyData), Drawn p H H' → DtAll p H' vs ds → vs.length = n → Q vs H') → ta σ H Q
/-- it is a tuple of data -/
def LayT (te : TE) (p : Addr) (σ : L2.St) (H : Hp) (lo hi : Nat) : Prop := ∀ Q : VK, (∀ (H' : Hp) (c : Addr) (xs : List V) (ds : List PyData), Drawn p H H' → c ≠ p → H' c = some (.tup xs) → DtAll p H' xs ds → lo ≤ xs.length → xs.length ≤ hi → Q (.ref c) H') → te σ H Q
/-- it is a number from 0 up to n -/
def LayI (te : TE) (p : Addr) (σ : L2.St) (H : Hp) (n : Int) : Prop := ∀ Q : VK, (∀ (H' : Hp) (i : Int), Drawn p H H' → 0 ≤ i → i < n → Q (.int i) H') → te σ H Q
def GivO (to : TO) (σ : L2.St) (H : Hp) (o : Option Int) : Prop := ∀ Q : Option Int → Hp → Prop, Q o H → to σ H Q
section
variable {p : Addr} {σ : L2.St} {H : Hp} {te tb : TE} {ta : TA} {n m lo hi lo2 hi2 : Nat} {v : V} {d : PyData} {K : PySem.W.Frag}
theorem Lay.of (h : Giv te σ H v) (hp : Pot H p) (hd : Dt p H v d) : Lay te p σ H := fun Q q => h _ (q H v d (Drawn.refl hp) hd)
theorem LayT.lay (h : LayT te p σ H lo hi) (hh : hi ≤ 1000) : Lay te p σ H := fun Q q => h _ fun H1 c xs ds r n e a l1 l2 => q H1 _ _ r (.tup n (by omega) e a)
theorem Lays.nil (hp : Pot H p) : Lays tNil p σ H 0 := fun Q q => q H [] [] (Drawn.refl hp) .nil rfl
theorem Lays.cons (h : Lay te p σ H) (ht : ∀ H', Drawn p H H' → Lays ta p σ H' n) : Lays (tCons te ta) p σ H (n + 1) := fun Q q => h _ fun H1 v d r1 h1 => ht H1 r1 _ fun H2 vs ds r2 h2 e => q H2 _ _ (r1.trans r2) (.cons (h1.keep r2.keep) h2) (by rw [List.length_cons, e])
theorem Lays.tup (h : Lays ta p σ H n) (hn : n ≤ 1000) : LayT (tTup ta) p σ H n n := fun Q q => h _ fun H1 vs ds r h1 e => ⟨Nat.le_of_lt (small1000 (by omega)), fun a na => q _ a vs ds (r.new na) (r.pot.ne na) upd_same (h1.keep (Keep.new na)) (by omega) (by omega)⟩
theorem Lays.lst (h : Lays ta p σ H n) (hn : n ≤ 1000) : Lay (tLst ta) p σ H := fun Q q => h _ fun H1 vs ds r h1 e => ⟨Nat.le_of_lt (small1000 (by omega)), fun a na => q _ _ (.list ds) (r.new na) (.lst (r.pot.ne na) (by omega) upd_same (h1.keep (Keep.new na)))⟩
theorem Lay.dnew (hp : Pot H p) : Lay tDNewK p σ H := fun Q q a na => q _ _ (.dict []) ((Drawn.refl hp).new na) (.dic (hp.ne na) upd_same)
/-- [..][a number] -/
theorem Lays.pick (h : Lays ta p σ H n) (hn : n ≤ 1000) (hi : ∀ H', Drawn p H H' → LayI tb p σ H' n) : Lay (tOp (rIxL K) (tLst ta) tb) p σ H := fun Q q => h _ fun H1 vs ds r h1 e => ⟨Nat.le_of_lt (small1000 (by omega)), fun a na => by
  refine hi _ (r.new na) _ fun H2 i r2 i0 i1 => ?_
  have e2 : H2 a = some (.lst vs) := r2.keep _ _ (r.pot.ne na) upd_same
  have hh := (h1.keep (Keep.new na (o := .lst vs))).keep r2.keep
  obtain ⟨k, rfl⟩ := Int.eq_ofNat_of_zero_le i0
  have hk : vs[k]? = some (vs[k]'(by omega)) := List.getElem?_eq_getElem _
  obtain ⟨d, _, hd⟩ := hh.get hk
  exact ⟨a, vs, k, _, rfl, rfl, SqL.of e2, atI_nat hk, q _ _ d ((r.new na).trans r2) hd⟩⟩
theorem LayI.digit {E : XK} {tp tn : TE} {n : Int} (hp : Giv tp σ H (.ref p)) (hq : Pot H p) (hn : Giv tn σ H (.int n)) (h0 : 0 < n) (h1 : n.natAbs.log2 < 9000) : LayI (tCall spDigit [] E (tCons tp (tCons tn tNil))) p σ H n := fun Q q => hp _ (hn _ ⟨p, n, rfl, hq, h0, h1, fun i H' i0 i1 r => q H' i r i0 i1⟩)
theorem GivO.none : GivO tNoPart σ H none := fun Q q => q
theorem GivO.some {i : Int} (h : Giv te σ H (.int i)) : GivO (tPart te) σ H (some i) := fun Q q => h _ ⟨i, rfl, q⟩
theorem DtAll.cut {xs : List V} {ds : List PyData} (h : DtAll p H xs ds) (a b : Option Int) : DtAll p H (cutV xs a b) ((ds.drop (HT.sIx xs.length 0 a)).take (HT.sIx xs.length xs.length b - HT.sIx xs.length 0 a)) := (h.drop _).take _
theorem LayT.cut {c : Addr} {xs : List V} {ds : List PyData} {tl th : TO} {a b : Option Int} (h : Giv te σ H (.ref c)) (hp : Pot H p) (hc : c ≠ p) (e : H c = some (.tup xs)) (hd : DtAll p H xs ds) (hl : GivO tl σ H a) (hh : GivO th σ H b) (hb : (cutV xs a b).length ≤ hi) : LayT (tSl (rSlA K) te tl th) p σ H 0 hi := fun Q q =>
  h _ (hl _ (hh _ ⟨c, xs, rfl, SqT.of e, fun w => q H c xs ds (Drawn.refl hp) hc e hd (Nat.zero_le _) (by
    unfold cutV at hb
    rw [w.1, w.2, List.drop_zero, Nat.sub_zero, List.take_of_length_le (Nat.le_refl _)] at hb
    exact hb), fun _ z nz => q _ z _ _ ((Drawn.refl hp).new nz) (hp.ne nz) upd_same ((hd.cut a b).keep (Keep.new nz)) (Nat.zero_le _) hb⟩))
theorem cut_from (xs : List V) (k : Nat) : cutV xs (some (k : Int)) none = xs.drop k := by
  unfold cutV
  rw [HT.sIx_none, HT.sIx_nat]
  by_cases h : k ≤ xs.length
  · rw [Nat.min_eq_left h, List.take_of_length_le (by rw [List.length_drop]; exact Nat.le_refl _)]
  · rw [Nat.min_eq_right (by omega), Nat.sub_self, List.take_zero, List.drop_eq_nil_of_le (by omega)]
theorem LayT.cat (h : LayT te p σ H lo hi) (h2 : ∀ H', Drawn p H H' → LayT tb p σ H' lo2 hi2) (hn : hi + hi2 ≤ 1000) : LayT (tOp (rCatA K) te tb) p σ H 0 (hi + hi2) := fun Q q => h _ fun H1 a xs ds r1 na ea ha l1 l2 => h2 H1 r1 _ fun H2 b ys es r2 nb eb hb l3 l4 => by
  have ea2 := r2.keep _ _ na ea
  have ha2 := ha.keep r2.keep
  refine ⟨a, b, xs, ys, rfl, rfl, SqT.of ea2, SqT.of eb, Nat.le_of_lt (small1000 (by omega)), fun _ => ?_, fun _ _ => ?_, fun _ _ c nc => ?_⟩
  · exact q H2 b ys es (r1.trans r2) nb eb hb (Nat.zero_le _) (by omega)
  · exact q H2 a xs ds (r1.trans r2) na ea2 ha2 (Nat.zero_le _) (by omega)
  · exact q _ c _ _ ((r1.trans r2).new nc) (r2.pot.ne nc) upd_same ((ha2.append hb).keep (Keep.new nc)) (Nat.zero_le _) (by rw [List.length_append]; omega)
end
end Gj

namespace Gj
open PySem PySem.Spec PyProof.Rows L2
open C8 (Cal pe_c pe_gc)
/-- it is a list of n data -/
def LayL (te : TE) (p : Addr) (σ : L2.St) (H : Hp) (n : Nat) : Prop := ∀ Q : VK, (∀ (H' : Hp) (c : Addr) (xs : List V) (ds : List PyData), Drawn p H H' → c ≠ p → H' c = some (.lst xs) → DtAll p H' xs ds → xs.length = n → Q (.ref c) H') → te σ H Q
section
variable {p : Addr} {σ : L2.St} {H : Hp} {te tb tp tn : TE} {ta : TA} {n m : Nat} {v : V} {d : PyData} {K : PySem.W.Frag} {E : XK}
theorem Lay.run {Q : VK} (h : Lay te p σ H) (q : ∀ (H' : Hp) (v : V) (d : PyData), Drawn p H H' → Dt p H' v d → Q v H') : te σ H Q := h Q q
theorem LayI.run {n : Int} {Q : VK} (h : LayI te p σ H n) (q : ∀ (H' : Hp) (i : Int), Drawn p H H' → 0 ≤ i → i < n → Q (.int i) H') : te σ H Q := h Q q
theorem LayT.run {lo hi : Nat} {Q : VK} (h : LayT te p σ H lo hi) (q : ∀ (H' : Hp) (c : Addr) (xs : List V) (ds : List PyData), Drawn p H H' → c ≠ p → H' c = some (.tup xs) → DtAll p H' xs ds → lo ≤ xs.length → xs.length ≤ hi → Q (.ref c) H') : te σ H Q := h Q q
theorem LayL.run {n : Nat} {Q : VK} (h : LayL te p σ H n) (q : ∀ (H' : Hp) (c : Addr) (xs : List V) (ds : List PyData), Drawn p H H' → c ≠ p → H' c = some (.lst xs) → DtAll p H' xs ds → xs.length = n → Q (.ref c) H') : te σ H Q := h Q q
theorem Lays.lstL (h : Lays ta p σ H n) (hn : n ≤ 1000) : LayL (tLst ta) p σ H n := fun Q q => h _ fun H1 vs ds r h1 e => ⟨Nat.le_of_lt (small1000 (by omega)), fun a na => q _ a vs ds (r.new na) (r.pot.ne na) upd_same (h1.keep (Keep.new na)) e⟩
theorem LayL.var {c : Addr} {xs : List V} {ds : List PyData} (h : Giv te σ H (.ref c)) (hp : Pot H p) (hc : c ≠ p) (e : H c = some (.lst xs)) (hd : DtAll p H xs ds) (hl : xs.length = n) : LayL te p σ H n := fun Q q => h _ (q H c xs ds (Drawn.refl hp) hc e hd hl)
theorem LayL.cat (h : LayL te p σ H n) (h2 : ∀ H', Drawn p H H' → LayL tb p σ H' m) (hn : n + m ≤ 1000) : LayL (tOp rCat te tb) p σ H (n + m) := fun Q q => h _ fun H1 a xs ds r1 na ea ha l1 => h2 H1 r1 _ fun H2 b ys es r2 nb eb hb l2 => by
  have ea2 := r2.keep _ _ na ea
  have ha2 := ha.keep r2.keep
  exact ⟨a, b, xs, ys, rfl, rfl, ea2, eb, Nat.le_of_lt (small1000 (by omega)), fun c nc => q _ c _ _ ((r1.trans r2).new nc) (r2.pot.ne nc) upd_same ((ha2.append hb).keep (Keep.new nc)) (by rw [List.length_append]; omega)⟩
/-- x[a number] -/
theorem LayL.pick (h : LayL te p σ H n) (hi : ∀ H' c (xs : List V), Drawn p H H' → H' c = some (.lst xs) → xs.length = n → LayI tb p σ H' n) : Lay (tOp (rIxL K) te tb) p σ H := fun Q q => h _ fun H1 a vs ds r na ea h1 e => by
  refine hi _ a vs r ea e _ fun H2 i r2 i0 i1 => ?_
  have e2 : H2 a = some (.lst vs) := r2.keep _ _ na ea
  have hh := h1.keep r2.keep
  obtain ⟨k, rfl⟩ := Int.eq_ofNat_of_zero_le i0
  have hk : vs[k]? = some (vs[k]'(by omega)) := List.getElem?_eq_getElem _
  obtain ⟨d, _, hd⟩ := hh.get hk
  exact ⟨a, vs, k, _, rfl, rfl, SqL.of e2, atI_nat hk, q _ _ d (r.trans r2) hd⟩
theorem Lay.word (hp : Giv tp σ H (.ref p)) (hq : Pot H p) : Lay (tCall spWord [] E (tCons tp tNil)) p σ H := fun Q q => hp _ ⟨p, rfl, hq, fun z H' hz r => q H' _ (.str z) r (.str z hz.small)⟩
theorem Lay.whole {i : Int} (hp : Giv tp σ H (.ref p)) (hq : Pot H p) (hn : Giv tn σ H (.int i)) : Lay (tCall spWhole [] E (tCons tp (tCons tn tNil))) p σ H := fun Q q => hp _ (hn _ ⟨p, i, rfl, hq, fun j H' _ _ r => q H' _ (.int j) r (.int j)⟩)
theorem Lay.name (hp : Giv tp σ H (.ref p)) (hq : Pot H p) : Lay (tCall spName [] E (tCons tp (tCons (tLst tNil) tNil))) p σ H := fun Q q => hp _ ⟨(by show 0 ≤ sizeLine; decide), fun u nu => ⟨p, u, [], rfl, hq.new nu, hq.ne nu, upd_same, (fun _ h => absurd h List.not_mem_nil), by decide, fun z H' hz _ r => q H' _ (.str z) (((Drawn.refl hq).new nu).trans r) (.str z hz.small)⟩⟩
/-- names of the pot, into a new list -/
theorem names_new {Q : VK} {E : XK} {n : Nat} (hq : Pot H p) (hn : n ≤ 25) (q : ∀ (H' : Hp) (c : Addr) (zs : List Str), Drawn p H H' → c ≠ p → H' c = some (.lst (zs.map V.str)) → zs.length = n → (∀ z ∈ zs, NameS z) → zs.Nodup → Q (.ref c) H') : ∀ u, H u = none → spNames [.ref p, .int (n : Nat), .ref u] (upd H u (.lst [])) Q E := fun u nu =>
  ⟨p, u, [], n, rfl, hq.new nu, hq.ne nu, upd_same, (fun _ h => absurd h List.not_mem_nil), by simpa using hn, fun c zs H' nc np hl hz nd _ r e => q H' c zs (((Drawn.refl hq).new nu).trans r) np e hl hz nd⟩
theorem DtAll.names {zs : List Str} (h : ∀ z ∈ zs, NameS z) : DtAll p H (zs.map V.str) (zs.map PyData.str) := DtAll.strs fun z hz => (h z hz).small
abbrev rTupOf (K : PySem.W.Frag) : List V → Hp → VK → Prop := fun xs H Q => ∃ p ys, xs = [.ref p] ∧ ((SqL K H p ys ∧ ∀ l, H l = none → Q (.ref l) (upd H l (.tup ys))) ∨ (SqT K H p ys ∧ Q (.ref p) H))
theorem Lay.shut (hp : Giv tp σ H (.ref p)) (hi : LayI tn p σ H 10) : Lay (tCB (rTupOf K) (tCons (tCall spNames [] E (tCons tp (tCons tn (tCons (tLst tNil) tNil)))) tNil)) p σ H := fun Q q => hp _ (hi _ fun H1 i r1 i0 i1 => ⟨(by show 0 ≤ sizeLine; decide), by
  obtain ⟨k, rfl⟩ := Int.eq_ofNat_of_zero_le i0
  refine names_new (Q := fun x H2 => rTupOf K [x] H2 Q) (E := E) (n := k) r1.pot (by omega) fun H2 c zs r2 nc ec hl hz nd => ?_
  refine ⟨c, _, rfl, .inl ⟨SqL.of ec, fun a na => q _ _ (.tuple (zs.map PyData.str)) ((r1.trans r2).new na) (.tup (r2.pot.ne na) ?_ upd_same (DtAll.names hz))⟩⟩
  rw [List.length_map]
  omega⟩)
abbrev rLstOf (K : PySem.W.Frag) : List V → Hp → VK → Prop := fun xs H Q => ∃ p ys, xs = [.ref p] ∧ (SqL K H p ys ∨ SqT K H p ys) ∧ ∀ l, H l = none → Q (.ref l) (upd H l (.lst ys))
theorem Lay.list {c : Addr} {xs : List V} {ds : List PyData} (h : Giv te σ H (.ref c)) (hp : Pot H p) (hl : xs.length ≤ 1000) (e : H c = some (.tup xs)) (hd : DtAll p H xs ds) : Lay (tCB (rLstOf K) (tCons te tNil)) p σ H := fun Q q => h _ ⟨c, xs, rfl, .inr (SqT.of e), fun a na => q _ _ (.list ds) ((Drawn.refl hp).new na) (.lst (hp.ne na) hl upd_same (hd.keep (Keep.new na)))⟩
theorem giv_lenL {c : Addr} {xs : List V} (hv : Giv te σ H (.ref c)) (e : H c = some (.lst xs)) : Giv (tCB (rLenX K) (tCons te tNil)) σ H (.int (xs.length : Nat)) := fun Q q => hv _ ⟨.ref c, xs.length, rfl, .inl ⟨xs, SqL.of e, rfl⟩, q⟩
theorem giv_add {ta : TE} {i j : Int} (h1 : Giv ta σ H (.int i)) (h2 : Giv tb σ H (.int j)) : Giv (tOp (rI0 fun i j => .int (i + j)) ta tb) σ H (.int (i + j)) := fun Q q => h1 _ (h2 _ ⟨i, j, rfl, rfl, q⟩)
theorem giv_ixV {ti : TE} {c : Addr} {xs : List V} {ds : List PyData} {k : Nat} (h : Giv te σ H (.ref c)) (h2 : Giv ti σ H (.int (k : Nat))) (e : H c = some (.tup xs)) (hd : DtAll p H xs ds) (hk : k < xs.length) : ∃ x d, Giv (tOp (rIxT K) te ti) σ H x ∧ Dt p H x d ∧ xs[k]? = some x ∧ ds[k]? = some d := by
  have hx : xs[k]? = some xs[k] := List.getElem?_eq_getElem hk
  obtain ⟨d, h3, h4⟩ := hd.get hx
  exact ⟨_, d, fun Q q => h _ (h2 _ ⟨c, xs, _, _, rfl, rfl, SqT.of e, atI_nat hx, q⟩), h4, hx, h3⟩
theorem giv_last {c : Addr} {xs : List V} (h : Giv te σ H (.ref c)) (e : H c = some (.tup xs)) (hk : 0 < xs.length) : Giv (tOp (rIxT K) te (tUn (rU fun i => .int (-i)) (tC (.int 1)))) σ H (xs.getD (xs.length - 1) .non) := by
  refine fun Q q => h _ ⟨1, rfl, c, xs, _, _, rfl, rfl, SqT.of e, ?_, q⟩
  show (ixN xs.length (-1)).bind (fun j => xs[j]?) = _
  have : ixN xs.length (-1) = some (xs.length - 1) := by
    unfold ixN
    rw [if_neg (by omega), if_pos (by omega)]
    congr 1
    omega
  rw [this, List.getD_eq_getElem?_getD]
  show xs[xs.length - 1]? = _
  rw [List.getElem?_eq_getElem (by omega)]
  rfl
theorem DtAll.getD {xs : List V} {ds : List PyData} (hd : DtAll p H xs ds) (k : Nat) (hk : k < xs.length) : Dt p H (xs.getD k .non) (ds.getD k .none) := by
  have hx : xs[k]? = some xs[k] := List.getElem?_eq_getElem hk
  obtain ⟨d, h3, h4⟩ := hd.get hx
  rw [List.getD_eq_getElem?_getD, List.getD_eq_getElem?_getD, hx, h3]
  exact h4
theorem LayI.digitN {tn : TE} {n : Nat} (hp : Giv tp σ H (.ref p)) (hq : Pot H p) (hn : Giv tn σ H (.int (n : Nat))) (h0 : 0 < n) (h1 : n ≤ 1000) : LayI (tCall spDigit [] E (tCons tp (tCons tn tNil))) p σ H n := LayI.digit hp hq hn (by omega) (Nat.lt_of_le_of_lt (Nat.log2_le_self _) (by show n < 9000; omega))
def filled : PyData → Bool
  | .tuple ds => !ds.isEmpty
  | _ => false
theorem say_neE {x : V} {d : PyData} (h : Giv te σ H x) (hd : Dt p H x d) (e : isa d "tuple" = true) : Say (tOp (rNeE K) te (tTup tNil)) σ H (filled d) := fun Q q => h _ ⟨(by show 0 ≤ sizeLine; decide), fun a na => by
  cases hd with
  | @tup c xs ds nc hl ec ha =>
    refine ⟨c, a, xs, rfl, rfl, .inr ⟨SqT.of (same_new na _ _ ec), SqT.of upd_same⟩, ?_⟩
    have := q _ (same_new (o := .tup []) na)
    have e2 : filled (.tuple ds) = !xs.isEmpty := by
      cases ha <;> rfl
    rw [e2] at this
    exact this
  | _ => exact absurd e (by dsimp only [isa, kind]; decide +kernel)⟩
/-! ### statements -/
variable {D : Ends} {u t : TS} {i : Nat} {tc : TT} {c : Bool}
theorem setD (h : Lay te p σ H) (q : ∀ (H' : Hp) (v : V) (d : PyData), Drawn p H H' → Dt p H' v d → u D (σ.set i (some v)) H') : tSeq (tAsg te (gName i)) u D σ H := h _ q
theorem setI {n : Int} (h : LayI te p σ H n) (q : ∀ (H' : Hp) (k : Int), Drawn p H H' → 0 ≤ k → k < n → u D (σ.set i (some (.int k))) H') : tSeq (tAsg te (gName i)) u D σ H := h _ q
theorem setT {lo hi : Nat} (h : LayT te p σ H lo hi) (q : ∀ (H' : Hp) (c : Addr) (xs : List V) (ds : List PyData), Drawn p H H' → c ≠ p → H' c = some (.tup xs) → DtAll p H' xs ds → lo ≤ xs.length → xs.length ≤ hi → u D (σ.set i (some (.ref c))) H') : tSeq (tAsg te (gName i)) u D σ H := h _ q
theorem setL {n : Nat} (h : LayL te p σ H n) (q : ∀ (H' : Hp) (c : Addr) (xs : List V) (ds : List PyData), Drawn p H H' → c ≠ p → H' c = some (.lst xs) → DtAll p H' xs ds → xs.length = n → u D (σ.set i (some (.ref c))) H') : tSeq (tAsg te (gName i)) u D σ H := h _ q
theorem setV (h : Giv te σ H v) (q : u D (σ.set i (some v)) H) : tSeq (tAsg te (gName i)) u D σ H := h _ q
theorem retD (h : Lay te p σ H) (q : ∀ (H' : Hp) (v : V) (d : PyData), Drawn p H H' → Dt p H' v d → D.rt v H') : tRet te D σ H := h _ q
theorem retT {lo hi : Nat} (h : LayT te p σ H lo hi) (q : ∀ (H' : Hp) (c : Addr) (xs : List V) (ds : List PyData), Drawn p H H' → c ≠ p → H' c = some (.tup xs) → DtAll p H' xs ds → lo ≤ xs.length → xs.length ≤ hi → D.rt (.ref c) H') : tRet te D σ H := h _ q
theorem ifS (h : SayT tc σ H c) (h1 : c = true → ∀ H', Same H H' → t { D with nx := u D } σ H') (h2 : c = false → ∀ H', Same H H' → u D σ H') : tSeq (tIfS tc t tNext) u D σ H := h _ fun H1 s1 => by
  cases c with
  | true => exact iteT (h1 rfl H1 s1)
  | false => exact iteF (h2 rfl H1 s1)
theorem isI {ta : TE} {k n : Int} (h1 : Giv ta σ H (.int k)) : SayT (tTest (tOp rEq ta (tC (.int n)))) σ H (decide (k = n)) := Say.tTest (say_eqI h1 giv_c)
end
end Gj

namespace Gj
open PySem PySem.Spec PyProof.Rows L2
open C8 (Cal pe_c pe_gc)
def topS (i : Nat) : Stmt := PySem.Challenge.pw_walkbox_k14_things.main.body.getD i (.Pass ⟨0, 0, 0, 0⟩)
structure Mg (mg : Str → Option Value) : Prop where
  len : mg "len" = none
  isinstance : mg "isinstance" = none
  str : mg "str" = none
  all : mg "all" = none
  max : mg "max" = none
  min : mg "min" = none
  abs : mg "abs" = none
  range : mg "range" = none
  int : mg "int" = none
  repr : mg "repr" = none
  tuple : mg "tuple" = none
  bool : mg "bool" = none
  set : mg "set" = none
  list : mg "list" = none
  enumerate : mg "enumerate" = none
section
variable {P : Program} {w : World} {K : PySem.W.Frag} {mg : Str → Option Value} {base : Heap}
theorem sc__law_digit : FnScope ["_law_pot_here", "_law_many", "_law_digit_here"] ["_law_pot_here", "_law_many"] (defScope (topS 22)) := ⟨rfl, rfl, rfl, by decide +kernel, rfl, by decide +kernel, by decide +kernel⟩
theorem ok__law_digit (D : DefAt K mg "_law_digit" (topS 22)) : Cal P w K mg base 1 "_law_digit" spDigit [] := by
  have sc := sc__law_digit
  refine mkCal D (fun _ _ _ _ _ _ us hl => match us, hl with | [_, _], _ => rfl) sc (fun vs H Q E h => ?_) (fun f cdv A outer s H vs Q E hr h => ?_)
  · obtain ⟨p, n, rfl, _⟩ := h
    rfl
  · obtain ⟨p, n, rfl, ⟨a, b, ep, ha, hb, hb2⟩, hn, hn2, q⟩ := h
    refine ⟨_, (pss_cons (ps_if (pt_cmpR op_gt (pe_ix ix_list (pv 0) pe_int (fun _ _ => rfl)) pe_int (nomark _))
  (pss_cons (ps_set (i := 2) sc.nd rfl (.inl rfl) (pe_op op_mod (pe_ix ix_list (pv 0) pe_int (fun _ _ => rfl)) (pv 1)))
  (pss_cons (ps_asg (pe_op op_fdivW (pe_ix ix_list (pv 0) pe_int (fun _ _ => rfl)) (pv 1)) (pg_sub (pv 0) pe_int set_list))
  (pss_one (ps_ret (pv 2)))))
  pss_nil)
  (pss_cons (ps_asg (pe_op op_mod (pe_op op_add (pe_op op_mul (pe_ix ix_list (pv 0) pe_int (fun _ _ => rfl)) pe_int) pe_int) pe_int) (pg_sub (pv 0) pe_int set_list))
  (pss_one (ps_ret (pe_op op_mod (pe_op op_fdivW (pe_op op_mod (pe_op op_mul (pe_ix ix_list (pv 0) pe_int (fun _ _ => rfl)) (pe_ix ix_list (pv 0) pe_int (fun _ _ => rfl))) pe_int) pe_int) (pv 1)))))), ?_⟩
    have g0 : ∀ {x y : V}, atI [x, y] 0 = some x := fun {x y} => rfl
    have g1 : ∀ {x y : V}, atI [x, y] 1 = some y := fun {x y} => rfl
    refine ⟨_, rfl, p, _, 0, _, rfl, rfl, SqL.of ep, g0, _, _, rfl, rfl, _, rfl, ite2 (fun c => ?_) (fun c => ?_)⟩
    · have c : 0 < a := of_decide_eq_true c
      refine ⟨_, rfl, p, _, 0, _, rfl, rfl, SqL.of ep, g0, _, rfl, _, _, rfl, rfl, hn, ?_⟩
      refine ⟨_, rfl, p, _, 0, _, rfl, rfl, SqL.of ep, g0, _, rfl, _, _, rfl, rfl, ⟨hn, hn2⟩, ?_⟩
      refine ⟨_, rfl, p, _, 0, 0, rfl, rfl, ep, rfl, _, rfl, ?_⟩
      exact q _ _ (Int.emod_nonneg _ (by omega)) (Int.emod_lt_of_pos _ hn) ⟨Keep.here, Pot.put (Int.ediv_nonneg ha (by omega)) hb hb2⟩
    · refine ⟨_, rfl, p, _, 1, _, rfl, rfl, SqL.of ep, g1, _, _, rfl, rfl, .inl ⟨by omega, by omega⟩, _, _, rfl, rfl, _, _, rfl, rfl, (by decide : (0 : Int) < 2147483647), ?_⟩
      have h1 : 0 ≤ (b * 39373 + 20011) % 2147483647 := Int.emod_nonneg _ (by decide)
      have h2 : (b * 39373 + 20011) % 2147483647 < 2147483647 := Int.emod_lt_of_pos _ (by decide)
      refine ⟨_, rfl, p, _, 1, 1, rfl, rfl, ep, rfl, ?_⟩
      refine ⟨_, rfl, p, _, 1, _, rfl, rfl, SqL.of upd_same, g1, _, rfl, p, _, 1, _, rfl, rfl, SqL.of upd_same, g1, _, _, rfl, rfl, .inl ⟨by omega, by omega⟩, _, _, rfl, rfl, (by decide : (0 : Int) < 2147483563), _, _, rfl, rfl, ⟨by decide, by decide⟩, _, rfl, _, _, rfl, rfl, hn, ?_⟩
      exact q _ _ (Int.emod_nonneg _ (by omega)) (Int.emod_lt_of_pos _ hn) ⟨Keep.here, Pot.put ha h1 (by omega)⟩
theorem sc__law_pot : FnScope ["_law_script", "_law_k", "_law_cell"] ["_law_script", "_law_k"] (defScope (topS 21)) := ⟨rfl, rfl, rfl, by decide +kernel, rfl, by decide +kernel, by decide +kernel⟩
theorem ok__law_pot (D : DefAt K mg "_law_pot" (topS 21)) (m : Mg mg) : Cal P w K mg base 1 "_law_pot" (spPot K) [] := by
  have sc := sc__law_pot
  refine mkCal D (fun _ _ _ _ _ _ us hl => match us, hl with | [_, _], _ => rfl) sc (fun vs H Q E h => ?_) (fun f cdv A outer s H vs Q E hr h => ?_)
  · obtain ⟨a, ns, k, rfl, _⟩ := h
    rfl
  · obtain ⟨a, ns, k, rfl, hS, hk, hk2, q⟩ := h
    refine ⟨_, (pss_cons (ps_set (i := 2) sc.nd rfl (.inl rfl) (pe_ifExp (pt_cmpR op_lt (pv 1) (pe_callB call_len (by rfl) m.len (by decide +kernel) (pa_cons (pv 0) pa_nil)) (nomark _)) (pe_ix ix_list (pv 0) (pv 1) (fun _ _ => rfl)) pe_int))
  (pss_one (ps_ret (pe_lst (pa_cons (pe_callB (call_max2 rfl) (by rfl) m.max (by decide +kernel) (pa_cons pe_int (pa_cons (pe_op op_sub (pe_callB call_abs (by rfl) m.abs (by decide +kernel) (pa_cons (pv 2) pa_nil)) (pe_op op_pow pe_int pe_int)) pa_nil))) (pa_cons (pe_op op_add (pe_op op_add (pe_op op_mod (pe_callB call_abs (by rfl) m.abs (by decide +kernel) (pa_cons (pv 2) pa_nil)) pe_int) (pe_op op_mul pe_int (pv 1))) pe_int) pa_nil)))))), ?_⟩
    have c18 : CPow 10 18 := ⟨by decide, by decide, by decide⟩
    refine ⟨_, rfl, _, rfl, _, _, rfl, .inl ⟨_, hS, rfl⟩, _, _, rfl, rfl, _, rfl, ite2 (fun c => ?_) (fun c => ?_)⟩
    · have c : k < ((ns.map V.int).length : Int) := of_decide_eq_true c
      have hi : k.toNat < ns.length := by rw [List.length_map] at c; omega
      have g : atI (ns.map V.int) k = some (.int ns[k.toNat]) := at_of (j := k.toNat) (by omega) (by rw [List.getElem?_map, List.getElem?_eq_getElem hi]; rfl)
      refine ⟨_, rfl, _, rfl, a, _, k, _, rfl, rfl, hS, g, ?_⟩
      refine ⟨_, rfl, _, rfl, _, _, rfl, rfl, c18, _, _, rfl, rfl, _, _, rfl, _, rfl, _, rfl, _, _, rfl, rfl, (by decide : (0 : Int) < 2147483587), _, rfl, _, _, rfl, rfl, .inl ⟨by decide, by decide⟩, _, _, rfl, rfl, _, _, rfl, rfl, (by show 2 ≤ sizeLine; decide), fun p hp => q p _ hp (same_new hp) ⟨_, _, upd_same, ?_, ?_, ?_⟩⟩
      · split <;> omega
      · have := Int.emod_nonneg (if ns[k.toNat] < 0 then -ns[k.toNat] else ns[k.toNat]) (show (2147483587 : Int) ≠ 0 by decide)
        omega
      · have := Int.emod_lt_of_pos (if ns[k.toNat] < 0 then -ns[k.toNat] else ns[k.toNat]) (show (0 : Int) < 2147483587 by decide)
        omega
    · refine ⟨_, rfl, _, rfl, _, _, rfl, rfl, c18, _, _, rfl, rfl, _, _, rfl, _, rfl, _, rfl, _, _, rfl, rfl, (by decide : (0 : Int) < 2147483587), _, rfl, _, _, rfl, rfl, .inl ⟨by decide, by decide⟩, _, _, rfl, rfl, _, _, rfl, rfl, (by show 2 ≤ sizeLine; decide), fun p hp => q p _ hp (same_new hp) ⟨_, _, upd_same, ?_, ?_, ?_⟩⟩
      · split <;> omega
      · have : (if (0 : Int) < 0 then -0 else 0) % 2147483587 = (0 : Int) := by decide
        omega
      · have : (if (0 : Int) < 0 then -0 else 0) % 2147483587 = (0 : Int) := by decide
        omega
end
end Gj

namespace Gj
open PySem PySem.Spec PyProof.Rows L2
open C8 (Cal pe_c pe_gc)
section
variable {P : Program} {w : World} {K : PySem.W.Frag} {mg : Str → Option Value} {base : Heap}
theorem sc__law_name : FnScope ["_law_pot_here", "_law_used", "_law_letters", "_law_size", "_law_name_here", "_law_k", "_law_letter"] ["_law_pot_here", "_law_used"] (defScope (topS 23)) := ⟨rfl, rfl, rfl, by decide +kernel, rfl, by decide +kernel, by decide +kernel⟩
theorem ok__law_name (D : DefAt K mg "_law_name" (topS 23)) (m : Mg mg) (c__law_digit : Cal P w K mg base 1 "_law_digit" spDigit []) : Cal P w K mg base 2 "_law_name" spName [] := by
  have sc := sc__law_name
  refine mkCal D (fun _ _ _ _ _ _ us hl => match us, hl with | [_, _], _ => rfl) sc (fun vs H Q E h => ?_) (fun f cdv A outer s H vs Q E hr h => ?_)
  · obtain ⟨p, u, us, rfl, _⟩ := h
    rfl
  · obtain ⟨p, u, us, rfl, hp, nu, eu, hus, hl, q⟩ := h
    refine ⟨_, (pss_cons (ps_set (i := 2) sc.nd rfl (.inr rfl) pe_str)
  (pss_cons (ps_set (i := 3) sc.nd rfl (.inl rfl) (pe_op op_add pe_int (pe_c c__law_digit hr (by decide) (by rfl) (pa_cons (pv 0) (pa_cons (pe_ix ix_list (pe_lst (pa_cons pe_int (pa_cons pe_int (pa_cons pe_int pa_nil)))) (pe_c c__law_digit hr (by decide) (by rfl) (pa_cons (pv 0) (pa_cons pe_int pa_nil))) (fun _ _ => rfl)) pa_nil)))))
  (pss_cons (ps_set (i := 4) sc.nd rfl (.inl rfl) (pe_join pe_str (pe_lc (own := [("_law_k", 5)]) (g := gName 5) (tt := tYes) rfl sc.nd (pi_range1 (by rfl) m.range (pa_cons (pv 3) pa_nil)) (blkOk_by (N := ["_law_pot_here", "_law_used", "_law_letters", "_law_size", "_law_name_here", "_law_k", "_law_letter"]) (sc := defScope (topS 23)) (by decide +kernel)) (fun _ _ _ _ _ => (pg_name (i := 5) sc.nd rfl (.inl rfl))) (fun _ _ _ _ _ => pts_nil) (fun _ _ _ _ _ => (pe_ix ix_str (pv 2) (pe_c c__law_digit hr (by decide) (by rfl) (pa_cons (pv 0) (pa_cons pe_int pa_nil))) (fun _ _ => rfl))))))
  (C8.pss_cut (ps_if (PW.pt (pw_and (pt_cmpR (op_neE hr.units) (pv 1) (pe_lst pa_nil) (nomark _)) (pw_and1 (pt_cmpR op_eq (pe_c c__law_digit hr (by decide) (by rfl) (pa_cons (pv 0) (pa_cons pe_int pa_nil))) pe_int (nomark _)))))
  (pss_one (ps_set (i := 4) sc.nd rfl (.inl rfl) (pe_slice C8.sl_txt (pe_op op_add_str (pe_ix ix_list (pv 1) (pe_un un_neg pe_int) (fun _ _ => rfl)) (pv 4)) po_none (po_some pe_int))))
  pss_nil)
  (pss_cons (ps_if (pt_cmpR op_in_seq (pv 4) (pv 1) rfl)
  (pss_one (ps_set (i := 4) sc.nd rfl (.inl rfl) (pe_ix ix_list (pe_lc (own := [("_law_letter", 6)]) (g := gName 6) (tt := tTest (tOp (rIn K true) (tVar 6) (tVar 1))) rfl sc.nd (pi_str (pv 2)) (blkOk_by (N := ["_law_pot_here", "_law_used", "_law_letters", "_law_size", "_law_name_here", "_law_k", "_law_letter"]) (sc := defScope (topS 23)) (by decide +kernel)) (fun _ _ _ _ _ => (pg_name (i := 6) sc.nd rfl (.inl rfl))) (fun _ _ _ _ _ => (pts_one (pt_cmpR op_notIn_seq (pv 6) (pv 1) rfl))) (fun _ _ _ _ _ => (pv 6))) pe_int (fun _ _ => rfl))))
  pss_nil)
  (pss_one (ps_ret (pv 4)))))))), ?_⟩
    refine ⟨_, rfl, (by show 3 ≤ sizeLine; decide), fun L hL => ?_⟩
    refine ⟨_, rfl, p, _, rfl, hp.new hL, by decide, by decide, fun e H1 e0 e1 r1 => ?_⟩
    obtain ⟨x, hxm, hx⟩ := at_some (xs := [V.int 1, .int 3, .int 8]) e0 e1
    obtain ⟨n, rfl, hn⟩ : ∃ n : Int, x = .int n ∧ (n = 1 ∨ n = 3 ∨ n = 8) := by
      simp only [List.mem_cons, List.not_mem_nil, or_false] at hxm
      rcases hxm with h | h | h
      · exact ⟨1, h, .inl rfl⟩
      · exact ⟨3, h, .inr (.inl rfl)⟩
      · exact ⟨8, h, .inr (.inr rfl)⟩
    have dr1 : Drawn p H H1 := ⟨(Keep.new hL).trans r1.keep, r1.pot⟩
    refine ⟨L, _, _, _, rfl, rfl, SqL.of (r1.keep _ _ (hp.ne hL) upd_same), hx, ?_⟩
    refine ⟨p, n, rfl, r1.pot, by omega, by rcases hn with h | h | h <;> subst h <;> decide, fun d H2 d0 d1 r2 => ?_⟩
    have dr2 := dr1.trans r2
    refine ⟨_, _, rfl, rfl, ?_⟩
    refine ⟨⟨_, rfl⟩, _, rfl, 1 + d, rfl, by omega, by omega, fun D hD => ?_⟩
    refine lc_range (Signs (fun c => c ∈ ltrs) p D H2) (Signs.start r2.pot hD) (fun i H4 hi hs => ?_) (fun H4 hs => ?_)
    · refine ⟨rfl, _, rfl, _, rfl, p, _, rfl, hs.pot, by decide, by decide, fun k H5 k0 k1 r5 => ?_⟩
      obtain ⟨c, hc, hx⟩ := at_some (xs := ltrs) k0 k1
      exact ⟨_, _, _, rfl, rfl, by decide, hx, hs.next hi (by omega) hD r5 hc⟩
    · obtain ⟨cs, ys, hcl, hcs, dr, eD, hz, ej⟩ := hs.join (by omega)
      refine ⟨_, D, ys, rfl, rfl, .inl (SqL.of eD), hz, ?_⟩
      rw [ej]
      have dr4 := dr2.trans dr
      have nm : NameS (SX.S cs) := ⟨cs, rfl, by omega, by omega, hcs⟩
      have eu4 : H4 u = some (.lst (us.map V.str)) := dr4.keep _ _ nu eu
      refine ⟨fun σ' H' => ∃ (z : Str) (s3 s5 s6 : Option V), σ' = [some (.ref p), some (.ref u), some (.str "abcdefghijklmnopqrstuvwxyz"), s3, some (.str z), s5, s6] ∧ NameS z ∧ Drawn p H H' ∧ H' u = some (.lst (us.map V.str)), ?_, ?_⟩
      rotate_left
      · rintro σ' H' ⟨z, s3, s5, s6, rfl, nz, dz, euz⟩
        refine ⟨_, rfl, _, rfl, u, us.map V.str, rfl, .inl (SqL.of euz), rfl, flat_strs us, _, rfl, ite2 (fun c => ?_) (fun c => ?_)⟩
        · refine ⟨_, rfl, _, rfl, fun D2 hD2 => ?_⟩
          have nD2 : D2 ≠ p := dz.pot.ne hD2
          refine lc_it walk_str (Pv := fun i H'' => Drawn p H H'' ∧ H'' u = some (.lst (us.map V.str)) ∧ H'' D2 = some (.lst (((ltrs.take i).filter fun c => decide (SX.S [c] ∉ us)).map fun c => V.str (SX.S [c])))) ⟨dz.new hD2, by rw [upd_ne (ne_of_none euz hD2)]; exact euz, upd_same⟩ (fun _ _ _ _ => trivial) (fun i x H1 H2 hi hp2 hy => ?_) (fun H1 hp2 => ?_)
          · obtain ⟨rfl, ch, ec, rfl⟩ := hy
            obtain ⟨d1, e1, e2⟩ := hp2
            have ec2 : ltrs[i]? = some ch := by rw [Array.getElem?_toList]; exact ec
            refine ⟨rfl, _, rfl, _, rfl, u, us.map V.str, rfl, .inl (SqL.of e1), rfl, flat_strs us, _, rfl, ?_⟩
            have ev : (if true = true then !inV (.str ⟨#[ch]⟩) (us.map V.str) else inV (.str ⟨#[ch]⟩) (us.map V.str)) = decide (SX.S [ch] ∉ us) := by
              rw [if_pos rfl, show (⟨#[ch]⟩ : Str) = SX.S [ch] from rfl, inV_strs]
              by_cases h : SX.S [ch] ∈ us
              · rw [decide_eq_true h, decide_eq_false (fun n => n h)]; rfl
              · rw [decide_eq_false h, decide_eq_true h]; rfl
            rw [ev]
            refine ite2 (fun c => ?_) (fun c => ?_)
            · refine ⟨_, rfl, _, e2, ?_, ⟨fun b o nb eb => ?_, ?_⟩, ?_, ?_⟩
              · rw [List.length_map]
                have l1 := List.length_filter_le (fun c => decide (SX.S [c] ∉ us)) (ltrs.take i)
                have l2 : (ltrs.take i).length ≤ 26 := by
                  rw [List.length_take]
                  exact Nat.le_trans (Nat.min_le_right _ _) (by decide +kernel)
                exact small1000 (by omega)
              · rw [upd_ne (ne_of_none (dz.keep _ _ nb eb) hD2)]
                exact d1.keep _ _ nb eb
              · obtain ⟨x1, x2, e3, z3⟩ := d1.pot
                exact ⟨x1, x2, by rw [upd_ne nD2.symm]; exact e3, z3⟩
              · rw [upd_ne (ne_of_none euz hD2)]; exact e1
              · rw [upd_same, take_snoc ec2, List.filter_append, List.map_append]
                have : [ch].filter (fun c => decide (SX.S [c] ∉ us)) = [ch] := by
                  rw [List.filter_cons, if_pos c]; rfl
                rw [this]; rfl
            · refine ⟨d1, e1, ?_⟩
              rw [e2, take_snoc ec2, List.filter_append]
              have : [ch].filter (fun c => decide (SX.S [c] ∉ us)) = [] := by
                rw [List.filter_cons, if_neg c]; rfl
              rw [this, List.append_nil]
          · obtain ⟨d1, e1, e2⟩ := hp2
            rw [show ltrs.take (PySem.Str.ofString "abcdefghijklmnopqrstuvwxyz").cps.size = ltrs from List.take_of_length_le (Nat.le_refl _)] at e2
            obtain ⟨c0, hc0, hn0⟩ := fresh_letter hl
            obtain ⟨c1, l1, e3⟩ : ∃ c1 l1, ltrs.filter (fun c => decide (SX.S [c] ∉ us)) = c1 :: l1 := by
              cases h : ltrs.filter (fun c => decide (SX.S [c] ∉ us)) with
              | nil =>
                have : c0 ∈ ltrs.filter (fun c => decide (SX.S [c] ∉ us)) := List.mem_filter.mpr ⟨hc0, decide_eq_true hn0⟩
                rw [h] at this; cases this
              | cons c1 l1 => exact ⟨c1, l1, rfl⟩
            have m1 : c1 ∈ ltrs.filter (fun c => decide (SX.S [c] ∉ us)) := by rw [e3]; exact List.mem_cons_self
            have m2 := List.mem_filter.mp m1
            rw [e3] at e2
            refine ⟨D2, _, 0, _, rfl, rfl, SqL.of e2, atI_nat (j := 0) rfl, ?_⟩
            exact ⟨_, rfl, q _ _ (name_one m2.1) (of_decide_eq_true m2.2) d1⟩
        · have c : z ∉ us := fun h => c (by rw [if_neg (by decide), inV_strs, decide_eq_true h])
          exact ⟨_, rfl, q _ _ nz c dz⟩
      refine ⟨_, rfl, (by show 0 ≤ sizeLine; decide), fun E0' hE => ?_⟩
      have eu5 : (upd H4 E0' (.lst [])) u = some (.lst (us.map V.str)) := by rw [upd_ne (ne_of_none eu4 hE)]; exact eu4
      have dr5 : Drawn p H (upd H4 E0' (.lst [])) := dr4.new hE
      refine ⟨u, E0', us.map V.str, rfl, rfl, .inl ⟨SqL.of eu5, SqL.of upd_same⟩, _, rfl, ite2 (fun c => ?_) (fun c => ?_)⟩
      · refine ⟨_, rfl, p, _, rfl, dr5.pot, by decide, by decide, fun g H6 g0 g1 r6 => ?_⟩
        have dr6 := dr5.trans r6
        have eu6 : H6 u = some (.lst (us.map V.str)) := dr6.keep _ _ nu eu
        refine ⟨rfl, _, rfl, ite2 (fun c2 => ?_) (fun c2 => ?_)⟩
        · obtain ⟨ini, z, e⟩ : ∃ ini z, us = ini ++ [z] := by
            cases us with
            | nil => exact absurd c (by simp)
            | cons y l => exact ⟨(y :: l).dropLast, (y :: l).getLast (by simp), (List.dropLast_concat_getLast _).symm⟩
          have gl : atI (us.map V.str) (-1) = some (.str z) := by
            rw [e, List.map_append]
            exact atI_last _ _
          obtain ⟨zs, rfl, hz1, hz2, hz3⟩ := (hus z (by rw [e]; exact List.mem_append_right _ List.mem_cons_self)).ex
          refine ⟨_, rfl, 1, rfl, u, _, -1, _, rfl, rfl, SqL.of eu6, gl, _, rfl, _, _, rfl, rfl, ?_, 8, rfl, _, rfl, ?_, ?_⟩
          · rw [SX.S_len, SX.S_len]
            exact Nat.le_of_lt (small1000 (by omega))
          · rw [SX.S_cat, SX.S_len, List.length_append]
            exact Nat.le_of_lt (small1000 (by omega))
          · rw [SX.S_cat, SX.slice_to (by decide)]
            have nm2 : NameS (SX.S ((zs ++ cs).take (8 : Int).toNat)) := ⟨_, rfl, by rw [List.length_take, List.length_append]; show 1 ≤ min 8 _; omega, by rw [List.length_take]; exact Nat.min_le_left _ _, fun c hc => by
              rcases List.mem_append.mp (List.mem_of_mem_take hc) with h | h
              · exact hz3 c h
              · exact hcs c h⟩
            exact ⟨_, _, _, _, rfl, nm2, dr6, eu6⟩
        · exact ⟨_, _, _, _, rfl, nm, dr6, eu6⟩
      · exact ⟨_, _, _, _, rfl, nm, dr5, eu5⟩
theorem sc__law_names : FnScope ["_law_pot_here", "_law_many", "_law_used", "_law_found", "_law_k"] ["_law_pot_here", "_law_many", "_law_used"] (defScope (topS 24)) := ⟨rfl, rfl, rfl, by decide +kernel, rfl, by decide +kernel, by decide +kernel⟩
theorem ok__law_names (D : DefAt K mg "_law_names" (topS 24)) (m : Mg mg) (c__law_name : Cal P w K mg base 2 "_law_name" spName []) : Cal P w K mg base 3 "_law_names" spNames [] := by
  have sc := sc__law_names
  refine mkCal D (fun _ _ _ _ _ _ us hl => match us, hl with | [_, _, _], _ => rfl) sc (fun vs H Q E h => ?_) (fun f cdv A outer s H vs Q E hr h => ?_)
  · obtain ⟨p, u, us, n, rfl, _⟩ := h
    rfl
  · obtain ⟨p, u, us, n, rfl, hp, nu, eu, hus, hl, q⟩ := h
    refine ⟨_, (pss_cons (ps_set (i := 3) sc.nd rfl (.inl rfl) (pe_lst pa_nil))
  (pss_cons (ps_for PassesOwn.never rfl (pi_range1 (by rfl) m.range (pa_cons (pv 1) pa_nil)) (pg_name (i := 4) sc.nd rfl (.inl rfl))
  (pss_one (ps_expr (pe_bm PySem.F.plainAttrs_list PySem.F.slot_list_append PySem.F.type_list_append mt_append (pv 3) (pa_cons (pe_c c__law_name hr (by decide) (by rfl) (pa_cons (pv 0) (pa_cons (pe_op op_cat (pv 2) (pv 3)) pa_nil))) pa_nil)))))
  (pss_one (ps_ret (pv 3))))), ?_⟩
    refine ⟨(by show 0 ≤ sizeLine; decide), fun F hF => ?_⟩
    have nF : F ≠ p := hp.ne hF
    refine ⟨_, rfl, (n : Int), rfl, by omega, by omega, ?_⟩
    refine for_range (n := n) (fun i σ H' => ∃ (zs : List Str) (y4 : Option V), σ = [some (.ref p), some (.int (n : Nat)), some (.ref u), some (.ref F), y4] ∧ zs.length = i ∧ (∀ z ∈ zs, NameS z) ∧ zs.Nodup ∧ (∀ z ∈ zs, z ∉ us) ∧ Drawn p H H' ∧ H' F = some (.lst (zs.map V.str)))
      ⟨[], _, rfl, rfl, (fun _ h => by cases h), List.nodup_nil, (fun _ h => by cases h), ⟨Keep.new hF, hp.new hF⟩, upd_same⟩ (fun i σ H1 hi hi2 => ?_) (fun σ H1 hi2 => ?_)
    · obtain ⟨zs, y4, rfl, hz, hzn, hnd, hdis, dr, eF⟩ := hi2
      have eu1 : H1 u = some (.lst (us.map V.str)) := dr.keep _ _ nu eu
      refine ⟨_, rfl, .inl ⟨rfl, _, SqL.of eF⟩, _, rfl, _, rfl, _, rfl, u, F, _, _, rfl, rfl, eu1, eF, ?_, fun g hg => ?_⟩
      · rw [List.length_map, List.length_map]
        exact Nat.le_of_lt (small1000 (by omega))
      · have eg : (upd H1 g (.lst (us.map V.str ++ zs.map V.str))) g = some (.lst ((us ++ zs).map V.str)) := by rw [upd_same, List.map_append]
        refine ⟨p, g, us ++ zs, rfl, dr.pot.new hg, dr.pot.ne hg, eg, ?_, by rw [List.length_append]; omega, fun z H2 hzN hzU r2 => ?_⟩
        · intro z h
          rcases List.mem_append.mp h with h | h
          · exact hus z h
          · exact hzn z h
        · have dr2 : Drawn p H H2 := (dr.new hg).trans r2
          have eF2 : H2 F = some (.lst (zs.map V.str)) := r2.keep _ _ nF (by rw [upd_ne (ne_of_none eF hg)]; exact eF)
          refine ⟨F, _, _, rfl, rfl, eF2, ?_, zs ++ [z], _, rfl, ?_, ?_, ?_, ?_, ⟨fun b o nb eb => ?_, ?_⟩, ?_⟩
          · rw [List.length_map]
            exact small1000 (by omega)
          · rw [List.length_append, hz]; rfl
          · intro x h
            rcases List.mem_append.mp h with h | h
            · exact hzn x h
            · rw [List.mem_singleton.mp h]; exact hzN
          · refine List.nodup_append.mpr ⟨hnd, List.nodup_cons.mpr ⟨List.not_mem_nil, List.nodup_nil⟩, fun a ha b hb e => ?_⟩
            rw [List.mem_singleton.mp hb] at e
            exact hzU (List.mem_append_right _ (e ▸ ha))
          · intro x h
            rcases List.mem_append.mp h with h | h
            · exact hdis x h
            · rw [List.mem_singleton.mp h]; exact fun k => hzU (List.mem_append_left _ k)
          · rw [upd_ne (ne_of_none eb hF)]
            exact dr2.keep _ _ nb eb
          · obtain ⟨x1, x2, e3, z3⟩ := dr2.pot
            exact ⟨x1, x2, by rw [upd_ne nF.symm]; exact e3, z3⟩
          · rw [upd_same, List.map_append]; rfl
    · obtain ⟨zs, y4, rfl, hz, hzn, hnd, hdis, dr, eF⟩ := hi2
      exact ⟨_, rfl, q F zs H1 hF nF hz hzn hnd hdis dr eF⟩
theorem sc__law_word : FnScope ["_law_pot_here", "_law_signs", "_law_k"] ["_law_pot_here"] (defScope (topS 26)) := ⟨rfl, rfl, rfl, by decide +kernel, rfl, by decide +kernel, by decide +kernel⟩
theorem ok__law_word (D : DefAt K mg "_law_word" (topS 26)) (m : Mg mg) (c__law_digit : Cal P w K mg base 1 "_law_digit" spDigit []) : Cal P w K mg base 2 "_law_word" spWord [] := by
  have sc := sc__law_word
  refine mkCal D (fun _ _ _ _ _ _ us hl => match us, hl with | [_], _ => rfl) sc (fun vs H Q E h => ?_) (fun f cdv A outer s H vs Q E hr h => ?_)
  · obtain ⟨p, rfl, _⟩ := h
    rfl
  · obtain ⟨p, rfl, hp, q⟩ := h
    refine ⟨_, (pss_cons (ps_set (i := 1) sc.nd rfl (.inr rfl) pe_str)
  (pss_one (ps_ret (pe_join pe_str (pe_lc (own := [("_law_k", 2)]) (g := gName 2) (tt := tYes) rfl sc.nd (pi_range1 (by rfl) m.range (pa_cons (pe_op op_add pe_int (pe_c c__law_digit hr (by decide) (by rfl) (pa_cons (pv 0) (pa_cons (pe_ix ix_list (pe_lst (pa_cons pe_int (pa_cons pe_int (pa_cons pe_int pa_nil)))) (pe_c c__law_digit hr (by decide) (by rfl) (pa_cons (pv 0) (pa_cons pe_int pa_nil))) (fun _ _ => rfl)) pa_nil)))) pa_nil)) (blkOk_by (N := ["_law_pot_here", "_law_signs", "_law_k"]) (sc := defScope (topS 26)) (by decide +kernel)) (fun _ _ _ _ _ => (pg_name (i := 2) sc.nd rfl (.inl rfl))) (fun _ _ _ _ _ => pts_nil) (fun _ _ _ _ _ => (pe_ix ix_str (pv 1) (pe_c c__law_digit hr (by decide) (by rfl) (pa_cons (pv 0) (pa_cons pe_int pa_nil))) (fun _ _ => rfl)))))))), ?_⟩
    refine ⟨⟨_, rfl⟩, _, rfl, (by show 3 ≤ sizeLine; decide), fun L hL => ?_⟩
    refine ⟨_, rfl, p, _, rfl, hp.new hL, by decide, by decide, fun e H1 e0 e1 r1 => ?_⟩
    obtain ⟨x, hxm, hx⟩ := at_some (xs := [V.int 1, .int 4, .int 12]) e0 e1
    obtain ⟨n, rfl, hn⟩ : ∃ n : Int, x = .int n ∧ (n = 1 ∨ n = 4 ∨ n = 12) := by
      simp only [List.mem_cons, List.not_mem_nil, or_false] at hxm
      rcases hxm with h | h | h
      · exact ⟨1, h, .inl rfl⟩
      · exact ⟨4, h, .inr (.inl rfl)⟩
      · exact ⟨12, h, .inr (.inr rfl)⟩
    have dr1 : Drawn p H H1 := ⟨(Keep.new hL).trans r1.keep, r1.pot⟩
    refine ⟨L, _, _, _, rfl, rfl, SqL.of (r1.keep _ _ (hp.ne hL) upd_same), hx, ?_⟩
    refine ⟨p, n, rfl, r1.pot, by omega, by rcases hn with h | h | h <;> subst h <;> decide, fun d H2 d0 d1 r2 => ?_⟩
    have dr2 := dr1.trans r2
    refine ⟨_, _, rfl, rfl, 1 + d, rfl, by omega, by omega, fun D hD => ?_⟩
    refine lc_range (Signs (fun c => c ∈ wrds) p D H2) (Signs.start r2.pot hD) (fun i H4 hi hs => ?_) (fun H4 hs => ?_)
    · refine ⟨rfl, _, rfl, _, rfl, p, _, rfl, hs.pot, by decide, by decide, fun k H5 k0 k1 r5 => ?_⟩
      obtain ⟨c, hc, hx⟩ := at_some (xs := wrds) k0 k1
      exact ⟨_, _, _, rfl, rfl, by decide, hx, hs.next hi (by omega) hD r5 hc⟩
    · obtain ⟨cs, ys, hcl, hcs, dr, eD, hz, ej⟩ := hs.join (by omega)
      refine ⟨_, D, ys, rfl, rfl, .inl (SqL.of eD), hz, ?_⟩
      rw [ej]
      exact q _ _ ⟨cs, rfl, by omega, by omega, hcs⟩ (dr2.trans dr)
theorem sc__law_whole : FnScope ["_law_pot_here", "_law_least"] ["_law_pot_here", "_law_least"] (defScope (topS 27)) := ⟨rfl, rfl, rfl, by decide +kernel, rfl, by decide +kernel, by decide +kernel⟩
theorem ok__law_whole (D : DefAt K mg "_law_whole" (topS 27)) (c__law_digit : Cal P w K mg base 1 "_law_digit" spDigit []) : Cal P w K mg base 2 "_law_whole" spWhole [] := by
  have sc := sc__law_whole
  refine mkCal D (fun _ _ _ _ _ _ us hl => match us, hl with | [_, _], _ => rfl) sc (fun vs H Q E h => ?_) (fun f cdv A outer s H vs Q E hr h => ?_)
  · obtain ⟨p, n, rfl, _⟩ := h
    rfl
  · obtain ⟨p, n, rfl, hp, q⟩ := h
    refine ⟨_, (pss_one (ps_ret (pe_op op_add (pv 1) (pe_ix ix_list (pe_lst (pa_cons pe_int (pa_cons (pe_c c__law_digit hr (by decide) (by rfl) (pa_cons (pv 0) (pa_cons pe_int pa_nil))) (pa_cons (pe_c c__law_digit hr (by decide) (by rfl) (pa_cons (pv 0) (pa_cons (pe_op op_sub (pe_op op_pow pe_int pe_int) pe_int) pa_nil))) pa_nil)))) (pe_c c__law_digit hr (by decide) (by rfl) (pa_cons (pv 0) (pa_cons pe_int pa_nil))) (fun _ _ => rfl))))), ?_⟩
    refine ⟨_, rfl, _, rfl, p, _, rfl, hp, by decide, by decide, fun a H1 a0 a1 r1 => ?_⟩
    refine ⟨_, rfl, _, _, rfl, rfl, ⟨by decide, by decide, by decide⟩, _, _, rfl, rfl, p, _, rfl, r1.pot, by decide, by decide, fun b H2 b0 b1 r2 => ?_⟩
    have b1 : b < 10 ^ 30 - 9 := b1
    refine ⟨(by show 3 ≤ sizeLine; decide), fun L hL => ?_⟩
    refine ⟨_, rfl, p, _, rfl, r2.pot.new hL, by decide, by decide, fun e H3 e0 e1 r3 => ?_⟩
    obtain ⟨x, hxm, hx⟩ := at_some (xs := [V.int 0, .int a, .int b]) e0 e1
    obtain ⟨i, rfl, i0, i1⟩ : ∃ i : Int, x = .int i ∧ 0 ≤ i ∧ i < 10 ^ 30 := by
      simp only [List.mem_cons, List.not_mem_nil, or_false] at hxm
      rcases hxm with h | h | h
      · exact ⟨0, h, by decide, by decide⟩
      · exact ⟨a, h, a0, by omega⟩
      · exact ⟨b, h, b0, by omega⟩
    have dr : Drawn p H H3 := ((r1.trans r2).new hL).trans r3
    exact ⟨L, _, _, _, rfl, rfl, SqL.of (r3.keep _ _ (r2.pot.ne hL) upd_same), hx, _, _, rfl, rfl, q _ _ (by omega) (by omega) dr⟩
end
end Gj

namespace Gj
open PySem PySem.Spec PyProof.Rows L2
open C8 (Cal pe_c pe_gc)
abbrev sLetters : Str := "abcdefghijklmnopqrstuvwxyz"
abbrev sFigures : Str := "0123456789"
structure Gs (K : PySem.W.Frag) (mg : Str → Option Value) : Prop where
  LETTERS : ∃ u, mg "LETTERS" = some u ∧ RelV (.str sLetters) u
  FIGURES : ∃ u, mg "FIGURES" = some u ∧ RelV (.str sFigures) u
  SORTS : ∃ a, mg "SORTS" = some (.ref a) ∧ ∀ H, SqT K H a [.str "came", .str "short", .str "ask", .str "row"]
/-! ### the mirror -/
def mName : PyData → Bool := mTxt sLetters 8
def mWord : PyData → Bool := mTxt (sLetters ++ sFigures) 12
def mWhole (d : PyData) (n : Int) : Bool := match d with
  | .int i => decide (n ≤ i)
  | _ => false
def atD (d : PyData) (k : Nat) (f : PyData → Bool) : Bool := match d with
  | .tuple ds => (ds[k]?.map f).getD false
  | _ => false
def lenD (d : PyData) (n : Int) : Bool := match d with
  | .tuple ds => decide ((ds.length : Int) = n)
  | _ => false
def mPair (d : PyData) (n : Int) : Bool := lenD d 2 && (atD d 0 mName && atD d 1 fun e => mWhole e n)
def sorts : List Str := ["came", "short", "ask", "row"]
def mSort (d : PyData) : Bool := mName d && sorts.any fun z => isT d z
def strsOf (ds : List PyData) : List Str := ds.filterMap fun d => match d with
  | .str z => some z
  | _ => none
def mShut (d : PyData) : Bool := match d with
  | .tuple ds => ds.all mName && decide (distinct (taken (strsOf ds) (strsOf ds).length) = (strsOf ds).length)
  | _ => false
def mBegins (d : PyData) (k : Str) (n : Int) : Bool := lenD d n && (atD d 0 mName && atD d 0 fun e => isT e k)
def mLetter (d : PyData) : Bool := mBegins d "letter" 4 && (atD d 1 mName && (atD d 2 mName && atD d 3 mWord))
def mEcho (d : PyData) : Bool := mBegins d "echo" 5 && (atD d 1 mName && (atD d 2 mName && (atD d 3 mSort && atD d 4 fun e => mPair e 0)))
def mAnswer (d : PyData) : Bool := mBegins d "answer" 5 && (atD d 1 mName && (atD d 2 mSort && ((atD d 3 fun e => mPair e 0) && atD d 4 fun e => mPair e 1)))
def mGoer (d : PyData) : Bool := mBegins d "goer" 4 && (atD d 1 mName && ((atD d 2 fun e => mWhole e 2) && atD d 3 mShut))
def mParcel (d : PyData) : Bool := mLetter d || mEcho d
def mThing (d : PyData) : Bool := mParcel d || (mAnswer d || mGoer d)
def spTextD : Sp := fun vs H Q _ => ∃ (p : Addr) (v : V) (d : PyData) (signs : Str) (most : Int), vs = [v, .str signs, .int most] ∧ Dt p H v d ∧ ∀ H', Same H H' → Q (.bl (mTxt signs most d)) H'
def spBegins : Sp := fun vs H Q _ => ∃ (p : Addr) (v : V) (d : PyData) (k : Str) (n : Int), vs = [v, .str k, .int n] ∧ Dt p H v d ∧ 1 ≤ n ∧ ∀ H', Same H H' → Q (.bl (mBegins d k n)) H'
/-- a datum that is a tuple -/
theorem tup_of {p : Addr} {H : Hp} {v : V} {d : PyData} (h : Dt p H v d) (e : isa d "tuple" = true) : ∃ c xs ds, v = .ref c ∧ d = .tuple ds ∧ H c = some (.tup xs) ∧ xs.length ≤ 1000 ∧ DtAll p H xs ds := by
  cases h with
  | tup n z e2 h => exact ⟨_, _, _, rfl, rfl, e2, z, h⟩
  | _ => exact absurd e (by dsimp only [isa, kind]; decide +kernel)
theorem tup_len {p : Addr} {H : Hp} {v : V} {d : PyData} {n : Int} (h : Dt p H v d) (e : lenD d n = true) : ∃ c xs ds, v = .ref c ∧ d = .tuple ds ∧ (ds.length : Int) = n ∧ H c = some (.tup xs) ∧ xs.length ≤ 1000 ∧ DtAll p H xs ds := by
  cases h with
  | tup n z e2 h => exact ⟨_, _, _, rfl, rfl, of_decide_eq_true e, e2, z, h⟩
  | _ => exact absurd e (by simp [lenD])
section
variable {σ : L2.St} {H : Hp} {te : TE} {K : PySem.W.Frag} {p c : Addr} {xs : List V} {ds : List PyData} {E : XK}
theorem giv_at {k : Nat} (h : Giv te σ H (.ref c)) (e : H c = some (.tup xs)) (hd : DtAll p H xs ds) (hk : k < ds.length) : ∃ x d, Giv (tOp (rIxT K) te (tC (.int (k : Nat)))) σ H x ∧ Dt p H x d ∧ ds[k]? = some d := by
  have hx : xs[k]? = some (xs[k]'(by rw [hd.length]; exact hk)) := List.getElem?_eq_getElem _
  obtain ⟨d, h1, h2⟩ := hd.get hx
  exact ⟨_, d, giv_ixT h e hx, h2, h1⟩
theorem say_callAt {k : Nat} {f : PyData → Bool} (h : Giv te σ H (.ref c)) (e : H c = some (.tup xs)) (hd : DtAll p H xs ds) (hk : k < ds.length) : Say (tCall (spPred f) [] E (tCons (tOp (rIxT K) te (tC (.int (k : Nat)))) tNil)) σ H (atD (.tuple ds) k f) := by
  obtain ⟨x, d, g, hx, ek⟩ := giv_at (K := K) h e hd hk
  have : atD (.tuple ds) k f = f d := by
    show ((ds[k]?.map f).getD false) = f d
    rw [ek]
    rfl
  rw [this]
  exact say_call g hx
theorem say_callNAt {k : Nat} {n : Int} {f : PyData → Int → Bool} {tn : TE} (h : Giv te σ H (.ref c)) (hn : Giv tn σ H (.int n)) (e : H c = some (.tup xs)) (hd : DtAll p H xs ds) (hk : k < ds.length) : Say (tCall (spPredN f) [] E (tCons (tOp (rIxT K) te (tC (.int (k : Nat)))) (tCons tn tNil))) σ H (atD (.tuple ds) k fun e => f e n) := by
  obtain ⟨x, d, g, hx, ek⟩ := giv_at (K := K) h e hd hk
  have : (atD (.tuple ds) k fun e => f e n) = f d n := by
    show ((ds[k]?.map fun e => f e n).getD false) = f d n
    rw [ek]
    rfl
  rw [this]
  exact say_callN g hn hx
end
theorem strs_all {p : Addr} {H : Hp} : ∀ {xs : List V} {ds : List PyData}, DtAll p H xs ds → ds.all mName = true → xs = (strsOf ds).map V.str ∧ ds = (strsOf ds).map PyData.str
  | _, _, .nil, _ => ⟨rfl, rfl⟩
  | _, _, .cons (d := d) (ds := ds) a b, h => by
    rw [List.all_cons, Bool.and_eq_true] at h
    obtain ⟨h1, h2⟩ := strs_all b h.2
    cases a with
    | str z hz => exact ⟨congrArg (fun t => V.str z :: t) h1, congrArg (fun t => PyData.str z :: t) h2⟩
    | _ => exact absurd h.1 (by simp [mName, mTxt])
section
variable {P : Program} {w : World} {K : PySem.W.Frag} {mg : Str → Option Value} {base : Heap}
theorem sc_is_text_of : FnScope ["thing", "signs", "most", "sign"] ["thing", "signs", "most"] (defScope (topS 3)) := ⟨rfl, rfl, rfl, by decide +kernel, rfl, by decide +kernel, by decide +kernel⟩
theorem ok_is_text_of (D : DefAt K mg "is_text_of" (topS 3)) (m : Mg mg) : Cal P w K mg base 1 "is_text_of" spTextD [] := by
  have sc := sc_is_text_of
  refine mkCal D (fun _ _ _ _ _ _ us hl => match us, hl with | [_, _, _], _ => rfl) sc (fun vs H Q E h => ?_) (fun f cdv A outer s H vs Q E hr h => ?_)
  · obtain ⟨p, v, d, z, mo, rfl, _⟩ := h
    rfl
  · obtain ⟨p, v, d, signs, most, rfl, hd, q⟩ := h
    refine ⟨_, (pss_one (ps_ret (pe_and (pe_callB (call_isD (T := "str") (.inl rfl)) (by rfl) m.isinstance (by decide +kernel) (pa_cons (pv 0) (pa_cons (pe_bltn (v := .ty "str") (by rfl) m.str (by decide +kernel) rfl) pa_nil))) (pe_and (pe_chain op_le op_le pe_int (pe_callB call_len (by rfl) m.len (by decide +kernel) (pa_cons (pv 0) pa_nil)) (pv 2)) (pe_one (pe_callB (cr_all rfl) (by rfl) m.all (by decide +kernel) (pa_cons (pe_lc (own := [("sign", 3)]) (g := gName 3) (tt := tYes) rfl sc.nd (pi_str (pv 0)) (blkOk_by (N := ["thing", "signs", "most", "sign"]) (sc := defScope (topS 3)) (by decide +kernel)) (fun _ _ _ _ _ => (pg_name (i := 3) sc.nd rfl (.inl rfl))) (fun _ _ _ _ _ => pts_nil) (fun _ _ _ _ _ => (pe_cmpR op_in_sign (pv 3) (pv 1) rfl))) pa_nil))))))), ?_⟩
    refine (Say.of (Say.and (b := mTxt signs most d) (say_isa (giv_var rfl) hd) fun e H1 s1 => ?_) ?_) _ q
    · cases hd with
      | str z hz => exact Say.and (say_chain (giv_var rfl) (giv_var rfl) hz) fun e2 H2 s2 => say_all hz (fun _ => rfl) (fun _ => rfl) (fun _ _ => giv_var rfl) (giv_var rfl)
      | _ => exact absurd e (by dsimp only [isa, kind]; decide +kernel)
    · cases d with
      | str z =>
        show (isa (.str z) "str" && _) = _
        rw [show isa (.str z) "str" = true by dsimp only [isa, kind]; decide +kernel, Bool.true_and]
      | _ => exact Bool.and_false _
theorem sc_is_name : FnScope ["thing"] ["thing"] (defScope (topS 4)) := ⟨rfl, rfl, rfl, by decide +kernel, rfl, by decide +kernel, by decide +kernel⟩
theorem ok_is_name (D : DefAt K mg "is_name" (topS 4)) (gs : Gs K mg) (c_is_text_of : Cal P w K mg base 1 "is_text_of" spTextD []) : Cal P w K mg base 2 "is_name" (spPred mName) [] := by
  have sc := sc_is_name
  refine mkCal D (fun _ _ _ _ _ _ us hl => match us, hl with | [_], _ => rfl) sc (fun vs H Q E h => ?_) (fun f cdv A outer s H vs Q E hr h => ?_)
  · obtain ⟨p, v, d, rfl, _⟩ := h
    rfl
  · obtain ⟨p, v, d, rfl, hd, q⟩ := h
    refine ⟨_, (pss_one (ps_ret (pe_c c_is_text_of hr (by decide) (by rfl) (pa_cons (pv 0) (pa_cons (pe_gc (by rfl) gs.LETTERS) (pa_cons pe_int pa_nil)))))), ?_⟩
    exact ⟨_, rfl, p, v, d, _, _, rfl, hd, q⟩
theorem sc_is_word : FnScope ["thing"] ["thing"] (defScope (topS 5)) := ⟨rfl, rfl, rfl, by decide +kernel, rfl, by decide +kernel, by decide +kernel⟩
theorem ok_is_word (D : DefAt K mg "is_word" (topS 5)) (gs : Gs K mg) (c_is_text_of : Cal P w K mg base 1 "is_text_of" spTextD []) : Cal P w K mg base 2 "is_word" (spPred mWord) [] := by
  have sc := sc_is_word
  refine mkCal D (fun _ _ _ _ _ _ us hl => match us, hl with | [_], _ => rfl) sc (fun vs H Q E h => ?_) (fun f cdv A outer s H vs Q E hr h => ?_)
  · obtain ⟨p, v, d, rfl, _⟩ := h
    rfl
  · obtain ⟨p, v, d, rfl, hd, q⟩ := h
    refine ⟨_, (pss_one (ps_ret (pe_c c_is_text_of hr (by decide) (by rfl) (pa_cons (pv 0) (pa_cons (pe_op op_add_str (pe_gc (by rfl) gs.LETTERS) (pe_gc (by rfl) gs.FIGURES)) (pa_cons pe_int pa_nil)))))), ?_⟩
    exact ⟨_, rfl, _, _, rfl, rfl, by decide, p, v, d, _, _, rfl, hd, q⟩
theorem sc_is_whole : FnScope ["thing", "least"] ["thing", "least"] (defScope (topS 8)) := ⟨rfl, rfl, rfl, by decide +kernel, rfl, by decide +kernel, by decide +kernel⟩
theorem ok_is_whole (D : DefAt K mg "is_whole" (topS 8)) (m : Mg mg) : Cal P w K mg base 1 "is_whole" (spPredN mWhole) [] := by
  have sc := sc_is_whole
  refine mkCal D (fun _ _ _ _ _ _ us hl => match us, hl with | [_, _], _ => rfl) sc (fun vs H Q E h => ?_) (fun f cdv A outer s H vs Q E hr h => ?_)
  · obtain ⟨p, v, d, n, rfl, _⟩ := h
    rfl
  · obtain ⟨p, v, d, n, rfl, hd, q⟩ := h
    refine ⟨_, (pss_one (ps_ret (pe_and (pe_callB (call_isD (T := "int") (.inr (.inr (.inl rfl)))) (by rfl) m.isinstance (by decide +kernel) (pa_cons (pv 0) (pa_cons (pe_bltn (v := .ty "int") (by rfl) m.int (by decide +kernel) rfl) pa_nil))) (pe_and (pe_not (pe_callB (call_isD (T := "bool") (.inr (.inr (.inr (.inl rfl))))) (by rfl) m.isinstance (by decide +kernel) (pa_cons (pv 0) (pa_cons (pe_bltn (v := .ty "bool") (by rfl) m.bool (by decide +kernel) rfl) pa_nil)))) (pe_one (pe_cmpR op_ge (pv 0) (pv 1) (nomark _))))))), ?_⟩
    refine (Say.of (Say.and (b := !(isa d "bool") && mWhole d n) (say_isa (giv_var rfl) hd) fun e H1 s1 => Say.and (Say.not (say_isa (giv_var rfl) (hd.same s1))) fun e2 H2 s2 => ?_) ?_) _ q
    · cases hd with
      | int i => exact fun Q q => ⟨_, rfl, _, rfl, _, _, rfl, rfl, q _ (Same.refl _)⟩
      | bl b => exact absurd e2 (by dsimp only [isa, kind]; decide +kernel)
      | _ => exact absurd e (by dsimp only [isa, kind]; decide +kernel)
    · cases d with
      | int i =>
        rw [show isa (.int i) "int" = true by dsimp only [isa, kind]; decide +kernel, show isa (.int i) "bool" = false by dsimp only [isa, kind]; decide +kernel]
        rfl
      | _ => show (isa _ "int" && (!(isa _ "bool") && false)) = false; rw [Bool.and_false, Bool.and_false]
theorem sc_is_pair : FnScope ["thing", "least"] ["thing", "least"] (defScope (topS 9)) := ⟨rfl, rfl, rfl, by decide +kernel, rfl, by decide +kernel, by decide +kernel⟩
theorem ok_is_pair (D : DefAt K mg "is_pair" (topS 9)) (m : Mg mg) (c_is_name : Cal P w K mg base 2 "is_name" (spPred mName) []) (c_is_whole : Cal P w K mg base 1 "is_whole" (spPredN mWhole) []) : Cal P w K mg base 3 "is_pair" (spPredN mPair) [] := by
  have sc := sc_is_pair
  refine mkCal D (fun _ _ _ _ _ _ us hl => match us, hl with | [_, _], _ => rfl) sc (fun vs H Q E h => ?_) (fun f cdv A outer s H vs Q E hr h => ?_)
  · obtain ⟨p, v, d, n, rfl, _⟩ := h
    rfl
  · obtain ⟨p, v, d, n, rfl, hd, q⟩ := h
    refine ⟨_, (pss_one (ps_ret (pe_and (pe_callB (call_isD (T := "tuple") (.inr (.inl rfl))) (by rfl) m.isinstance (by decide +kernel) (pa_cons (pv 0) (pa_cons (pe_bltn (v := .ty "tuple") (by rfl) m.tuple (by decide +kernel) rfl) pa_nil))) (pe_and (pe_cmpR op_eq (pe_callB call_len (by rfl) m.len (by decide +kernel) (pa_cons (pv 0) pa_nil)) pe_int (nomark _)) (pe_and (pe_c c_is_name hr (by decide) (by rfl) (pa_cons (pe_ix ix_tup (pv 0) pe_int (fun _ _ => rfl)) pa_nil)) (pe_one (pe_c c_is_whole hr (by decide) (by rfl) (pa_cons (pe_ix ix_tup (pv 0) pe_int (fun _ _ => rfl)) (pa_cons (pv 1) pa_nil))))))))), ?_⟩
    refine (Say.of (Say.and (b := mPair d n) (say_isa (giv_var rfl) hd) fun e H1 s1 => ?_) ?_) _ q
    · obtain ⟨c, xs, ds, rfl, rfl, ec, hl, ha⟩ := tup_of (hd.same s1) e
      refine Say.and (Say.of (say_lenEq (X := (cxOf CX0 P w K mg base [] "" (defScope (topS 0)) f cdv A outer s H E)) (giv_var rfl) giv_c ec) (by rw [ha.length]; rfl)) fun e2 H2 s2 => ?_
      have l2 : (ds.length : Int) = 2 := of_decide_eq_true e2
      exact Say.and (say_callAt (k := 0) (giv_var rfl) (s2 _ _ ec) (ha.same s2) (by omega)) fun e3 H3 s3 => say_callNAt (k := 1) (giv_var rfl) (giv_var rfl) ((s2.trans s3) _ _ ec) (ha.same (s2.trans s3)) (by omega)
    · cases d with
      | tuple ds => rw [show isa (.tuple ds) "tuple" = true by dsimp only [isa, kind]; decide +kernel, Bool.true_and]
      | _ => exact Bool.and_false _
theorem sc_is_sort : FnScope ["thing"] ["thing"] (defScope (topS 10)) := ⟨rfl, rfl, rfl, by decide +kernel, rfl, by decide +kernel, by decide +kernel⟩
theorem ok_is_sort (D : DefAt K mg "is_sort" (topS 10)) (gs : Gs K mg) (c_is_name : Cal P w K mg base 2 "is_name" (spPred mName) []) : Cal P w K mg base 3 "is_sort" (spPred mSort) [] := by
  have sc := sc_is_sort
  refine mkCal D (fun _ _ _ _ _ _ us hl => match us, hl with | [_], _ => rfl) sc (fun vs H Q E h => ?_) (fun f cdv A outer s H vs Q E hr h => ?_)
  · obtain ⟨p, v, d, rfl, _⟩ := h
    rfl
  · obtain ⟨p, v, d, rfl, hd, q⟩ := h
    obtain ⟨aS, gS, hS⟩ := gs.SORTS
    refine ⟨_, (pss_one (ps_ret (pe_and (pe_c c_is_name hr (by decide) (by rfl) (pa_cons (pv 0) pa_nil)) (pe_one (pe_cmpR op_in_seq (pv 0) (pe_glob (v := .ref aS) (by rfl) gS rfl) rfl))))), ?_⟩
    refine Say.and (say_call (giv_var rfl) hd) (fun e H1 s1 => ?_) _ q
    cases hd with
    | str z hz =>
      intro Q q
      refine ⟨_, rfl, aS, _, rfl, .inr (hS _), rfl, rfl, ?_⟩
      have ev : inV (.str z) [.str "came", .str "short", .str "ask", .str "row"] = sorts.any fun y => isT (.str z) y := by
        show (("came" : Str) == z || (("short" : Str) == z || (("ask" : Str) == z || (("row" : Str) == z || false)))) = (z == ("came" : Str) || (z == ("short" : Str) || (z == ("ask" : Str) || (z == ("row" : Str) || false))))
        rw [BEq.comm (a := ("came" : Str)), BEq.comm (a := ("short" : Str)), BEq.comm (a := ("ask" : Str)), BEq.comm (a := ("row" : Str))]
      rw [if_neg (by decide), ev]
      exact q _ (Same.refl _)
    | _ => exact absurd e (by simp [mName, mTxt])
end
end Gj

namespace Gj
open PySem PySem.Spec PyProof.Rows L2
open C8 (Cal pe_c pe_gc)
section
variable {P : Program} {w : World} {K : PySem.W.Frag} {mg : Str → Option Value} {base : Heap}
theorem sc_is_shut : FnScope ["thing", "name"] ["thing"] (defScope (topS 11)) := ⟨rfl, rfl, rfl, by decide +kernel, rfl, by decide +kernel, by decide +kernel⟩
theorem ok_is_shut (D : DefAt K mg "is_shut" (topS 11)) (m : Mg mg) (c_is_name : Cal P w K mg base 2 "is_name" (spPred mName) []) : Cal P w K mg base 3 "is_shut" (spPred mShut) [] := by
  have sc := sc_is_shut
  refine mkCal D (fun _ _ _ _ _ _ us hl => match us, hl with | [_], _ => rfl) sc (fun vs H Q E h => ?_) (fun f cdv A outer s H vs Q E hr h => ?_)
  · obtain ⟨p, v, d, rfl, _⟩ := h
    rfl
  · obtain ⟨p, v, d, rfl, hd, q⟩ := h
    refine ⟨_, (pss_one (ps_ret (pe_and (pe_callB (call_isD (T := "tuple") (.inr (.inl rfl))) (by rfl) m.isinstance (by decide +kernel) (pa_cons (pv 0) (pa_cons (pe_bltn (v := .ty "tuple") (by rfl) m.tuple (by decide +kernel) rfl) pa_nil))) (pe_and (pe_callB (cr_all rfl) (by rfl) m.all (by decide +kernel) (pa_cons (pe_lc (own := [("name", 1)]) (g := gName 1) (tt := tYes) rfl sc.nd (pi_tup (pv 0)) (blkOk_by (N := ["thing", "name"]) (sc := defScope (topS 11)) (by decide +kernel)) (fun _ _ _ _ _ => (pg_name (i := 1) sc.nd rfl (.inl rfl))) (fun _ _ _ _ _ => pts_nil) (fun _ _ _ _ _ => (pe_c c_is_name hr (by decide) (by rfl) (pa_cons (pv 1) pa_nil)))) pa_nil)) (pe_one (pe_cmpR op_eq (pe_callB call_lenS (by rfl) m.len (by decide +kernel) (pa_cons (pe_callTy (call_setS rfl) (by rfl) m.set (by decide +kernel) (pa_cons (pv 0) pa_nil)) pa_nil)) (pe_callB call_len (by rfl) m.len (by decide +kernel) (pa_cons (pv 0) pa_nil)) (nomark _))))))), ?_⟩
    refine (Say.of (Say.and (b := mShut d) (say_isa (giv_var rfl) hd) fun e H1 s1 => ?_) ?_) _ q
    · obtain ⟨c, xs, ds, rfl, rfl, ec, hl, ha⟩ := tup_of (hd.same s1) e
      refine Say.and (say_allT hl (fun _ => rfl) (fun _ => rfl) (giv_var rfl) ec ha) fun e2 H2 s2 => ?_
      obtain ⟨ex, ed⟩ := strs_all ha e2
      have ec2 := s2 _ _ ec
      rw [ex] at ec2 hl
      rw [List.length_map] at hl
      intro Q q
      refine ⟨_, rfl, c, strsOf ds, rfl, SqT.of ec2, hl, fun a na => ?_⟩
      refine ⟨a, strsOf ds, rfl, upd_same, hl, _, rfl, _, _, rfl, .inr ⟨_, SqT.of (by rw [upd_ne (ne_of_none ec2 na)]; exact ec2), rfl⟩, rfl, ?_⟩
      rw [List.length_map]
      have ev : decide (V.int (distinct (taken (strsOf ds) (strsOf ds).length) : Nat) = V.int ((strsOf ds).length : Nat)) = decide (distinct (taken (strsOf ds) (strsOf ds).length) = (strsOf ds).length) := by
        by_cases h : distinct (taken (strsOf ds) (strsOf ds).length) = (strsOf ds).length
        · rw [decide_eq_true h, h, decide_eq_true rfl]
        · rw [decide_eq_false h, decide_eq_false fun z => h (by have := V.int.inj z; omega)]
      rw [ev]
      exact q _ (same_new na)
    · cases d with
      | tuple ds => rw [show isa (.tuple ds) "tuple" = true by dsimp only [isa, kind]; decide +kernel, Bool.true_and]
      | _ => exact Bool.and_false _
theorem sc_begins : FnScope ["thing", "kind", "many"] ["thing", "kind", "many"] (defScope (topS 12)) := ⟨rfl, rfl, rfl, by decide +kernel, rfl, by decide +kernel, by decide +kernel⟩
theorem ok_begins (D : DefAt K mg "begins" (topS 12)) (m : Mg mg) (c_is_name : Cal P w K mg base 2 "is_name" (spPred mName) []) : Cal P w K mg base 3 "begins" spBegins [] := by
  have sc := sc_begins
  refine mkCal D (fun _ _ _ _ _ _ us hl => match us, hl with | [_, _, _], _ => rfl) sc (fun vs H Q E h => ?_) (fun f cdv A outer s H vs Q E hr h => ?_)
  · obtain ⟨p, v, d, kd, n, rfl, _⟩ := h
    rfl
  · obtain ⟨p, v, d, kd, n, rfl, hd, hn, q⟩ := h
    refine ⟨_, (pss_one (ps_ret (pe_and (pe_callB (call_isD (T := "tuple") (.inr (.inl rfl))) (by rfl) m.isinstance (by decide +kernel) (pa_cons (pv 0) (pa_cons (pe_bltn (v := .ty "tuple") (by rfl) m.tuple (by decide +kernel) rfl) pa_nil))) (pe_and (pe_cmpR op_eq (pe_callB call_len (by rfl) m.len (by decide +kernel) (pa_cons (pv 0) pa_nil)) (pv 2) (nomark _)) (pe_and (pe_c c_is_name hr (by decide) (by rfl) (pa_cons (pe_ix ix_tup (pv 0) pe_int (fun _ _ => rfl)) pa_nil)) (pe_one (pe_cmpR (op_eqT hr.units) (pe_ix ix_tup (pv 0) pe_int (fun _ _ => rfl)) (pv 1) (nomark _)))))))), ?_⟩
    refine (Say.of (Say.and (b := mBegins d kd n) (say_isa (giv_var rfl) hd) fun e H1 s1 => ?_) ?_) _ q
    · obtain ⟨c, xs, ds, rfl, rfl, ec, hl, ha⟩ := tup_of (hd.same s1) e
      refine Say.and (Say.of (say_lenEq (X := (cxOf CX0 P w K mg base [] "" (defScope (topS 0)) f cdv A outer s H E)) (giv_var rfl) (giv_var rfl) ec) (by rw [ha.length]; rfl)) fun e2 H2 s2 => ?_
      have l2 : (ds.length : Int) = n := of_decide_eq_true e2
      refine Say.and (say_callAt (k := 0) (giv_var rfl) (s2 _ _ ec) (ha.same s2) (by omega)) fun e3 H3 s3 => ?_
      obtain ⟨x, d0, g, hx, ek⟩ := giv_at (K := K) (k := 0) (te := tVar 0) (σ := [some (.ref c), some (.str kd), some (.int n)]) (H := H3) (giv_var rfl) ((s2.trans s3) _ _ ec) (ha.same (s2.trans s3)) (by omega)
      refine Say.of (say_eqT g (giv_var rfl) hx) ?_
      show _ = ((ds[0]?.map fun e => isT e kd).getD false)
      rw [ek]; rfl
    · cases d with
      | tuple ds => rw [show isa (.tuple ds) "tuple" = true by dsimp only [isa, kind]; decide +kernel, Bool.true_and]
      | _ => exact Bool.and_false _
theorem sc_is_letter : FnScope ["thing"] ["thing"] (defScope (topS 13)) := ⟨rfl, rfl, rfl, by decide +kernel, rfl, by decide +kernel, by decide +kernel⟩
theorem ok_is_letter (D : DefAt K mg "is_letter" (topS 13)) (c_begins : Cal P w K mg base 3 "begins" spBegins []) (c_is_name : Cal P w K mg base 2 "is_name" (spPred mName) []) (c_is_word : Cal P w K mg base 2 "is_word" (spPred mWord) []) : Cal P w K mg base 4 "is_letter" (spPred mLetter) [] := by
  have sc := sc_is_letter
  refine mkCal D (fun _ _ _ _ _ _ us hl => match us, hl with | [_], _ => rfl) sc (fun vs H Q E h => ?_) (fun f cdv A outer s H vs Q E hr h => ?_)
  · obtain ⟨p, v, d, rfl, _⟩ := h
    rfl
  · obtain ⟨p, v, d, rfl, hd, q⟩ := h
    refine ⟨_, (pss_one (ps_ret (pe_and (pe_c c_begins hr (by decide) (by rfl) (pa_cons (pv 0) (pa_cons pe_str (pa_cons pe_int pa_nil)))) (pe_and (pe_c c_is_name hr (by decide) (by rfl) (pa_cons (pe_ix ix_tup (pv 0) pe_int (fun _ _ => rfl)) pa_nil)) (pe_and (pe_c c_is_name hr (by decide) (by rfl) (pa_cons (pe_ix ix_tup (pv 0) pe_int (fun _ _ => rfl)) pa_nil)) (pe_one (pe_c c_is_word hr (by decide) (by rfl) (pa_cons (pe_ix ix_tup (pv 0) pe_int (fun _ _ => rfl)) pa_nil)))))))), ?_⟩
    refine Say.and (fun Q q => ⟨_, rfl, p, v, d, _, _, rfl, hd, by decide, q⟩) (fun e H1 s1 => ?_) _ q
    have e1 : lenD d 4 = true := (Bool.and_eq_true_iff.mp e).1
    obtain ⟨c, xs, ds, rfl, rfl, l2, ec, hl, ha⟩ := tup_len (hd.same s1) e1
    exact (Say.and (say_callAt (k := 1) (giv_var rfl) ec ha (by omega)) fun _ _ t0 => (Say.and (say_callAt (k := 2) (giv_var rfl) (t0 _ _ ec) (ha.same t0) (by omega)) fun _ _ t1 => (say_callAt (k := 3) (giv_var rfl) ((t0.trans t1) _ _ ec) (ha.same (t0.trans t1)) (by omega))))
theorem sc_is_echo : FnScope ["thing"] ["thing"] (defScope (topS 14)) := ⟨rfl, rfl, rfl, by decide +kernel, rfl, by decide +kernel, by decide +kernel⟩
theorem ok_is_echo (D : DefAt K mg "is_echo" (topS 14)) (c_begins : Cal P w K mg base 3 "begins" spBegins []) (c_is_name : Cal P w K mg base 2 "is_name" (spPred mName) []) (c_is_sort : Cal P w K mg base 3 "is_sort" (spPred mSort) []) (c_is_pair : Cal P w K mg base 3 "is_pair" (spPredN mPair) []) : Cal P w K mg base 4 "is_echo" (spPred mEcho) [] := by
  have sc := sc_is_echo
  refine mkCal D (fun _ _ _ _ _ _ us hl => match us, hl with | [_], _ => rfl) sc (fun vs H Q E h => ?_) (fun f cdv A outer s H vs Q E hr h => ?_)
  · obtain ⟨p, v, d, rfl, _⟩ := h
    rfl
  · obtain ⟨p, v, d, rfl, hd, q⟩ := h
    refine ⟨_, (pss_one (ps_ret (pe_and (pe_c c_begins hr (by decide) (by rfl) (pa_cons (pv 0) (pa_cons pe_str (pa_cons pe_int pa_nil)))) (pe_and (pe_c c_is_name hr (by decide) (by rfl) (pa_cons (pe_ix ix_tup (pv 0) pe_int (fun _ _ => rfl)) pa_nil)) (pe_and (pe_c c_is_name hr (by decide) (by rfl) (pa_cons (pe_ix ix_tup (pv 0) pe_int (fun _ _ => rfl)) pa_nil)) (pe_and (pe_c c_is_sort hr (by decide) (by rfl) (pa_cons (pe_ix ix_tup (pv 0) pe_int (fun _ _ => rfl)) pa_nil)) (pe_one (pe_c c_is_pair hr (by decide) (by rfl) (pa_cons (pe_ix ix_tup (pv 0) pe_int (fun _ _ => rfl)) (pa_cons pe_int pa_nil)))))))))), ?_⟩
    refine Say.and (fun Q q => ⟨_, rfl, p, v, d, _, _, rfl, hd, by decide, q⟩) (fun e H1 s1 => ?_) _ q
    have e1 : lenD d 5 = true := (Bool.and_eq_true_iff.mp e).1
    obtain ⟨c, xs, ds, rfl, rfl, l2, ec, hl, ha⟩ := tup_len (hd.same s1) e1
    exact (Say.and (say_callAt (k := 1) (giv_var rfl) ec ha (by omega)) fun _ _ t0 => (Say.and (say_callAt (k := 2) (giv_var rfl) (t0 _ _ ec) (ha.same t0) (by omega)) fun _ _ t1 => (Say.and (say_callAt (k := 3) (giv_var rfl) ((t0.trans t1) _ _ ec) (ha.same (t0.trans t1)) (by omega)) fun _ _ t2 => (say_callNAt (k := 4) (giv_var rfl) giv_c (((t0.trans t1).trans t2) _ _ ec) (ha.same ((t0.trans t1).trans t2)) (by omega)))))
theorem sc_is_answer : FnScope ["thing"] ["thing"] (defScope (topS 15)) := ⟨rfl, rfl, rfl, by decide +kernel, rfl, by decide +kernel, by decide +kernel⟩
theorem ok_is_answer (D : DefAt K mg "is_answer" (topS 15)) (c_begins : Cal P w K mg base 3 "begins" spBegins []) (c_is_name : Cal P w K mg base 2 "is_name" (spPred mName) []) (c_is_sort : Cal P w K mg base 3 "is_sort" (spPred mSort) []) (c_is_pair : Cal P w K mg base 3 "is_pair" (spPredN mPair) []) : Cal P w K mg base 4 "is_answer" (spPred mAnswer) [] := by
  have sc := sc_is_answer
  refine mkCal D (fun _ _ _ _ _ _ us hl => match us, hl with | [_], _ => rfl) sc (fun vs H Q E h => ?_) (fun f cdv A outer s H vs Q E hr h => ?_)
  · obtain ⟨p, v, d, rfl, _⟩ := h
    rfl
  · obtain ⟨p, v, d, rfl, hd, q⟩ := h
    refine ⟨_, (pss_one (ps_ret (pe_and (pe_c c_begins hr (by decide) (by rfl) (pa_cons (pv 0) (pa_cons pe_str (pa_cons pe_int pa_nil)))) (pe_and (pe_c c_is_name hr (by decide) (by rfl) (pa_cons (pe_ix ix_tup (pv 0) pe_int (fun _ _ => rfl)) pa_nil)) (pe_and (pe_c c_is_sort hr (by decide) (by rfl) (pa_cons (pe_ix ix_tup (pv 0) pe_int (fun _ _ => rfl)) pa_nil)) (pe_and (pe_c c_is_pair hr (by decide) (by rfl) (pa_cons (pe_ix ix_tup (pv 0) pe_int (fun _ _ => rfl)) (pa_cons pe_int pa_nil))) (pe_one (pe_c c_is_pair hr (by decide) (by rfl) (pa_cons (pe_ix ix_tup (pv 0) pe_int (fun _ _ => rfl)) (pa_cons pe_int pa_nil)))))))))), ?_⟩
    refine Say.and (fun Q q => ⟨_, rfl, p, v, d, _, _, rfl, hd, by decide, q⟩) (fun e H1 s1 => ?_) _ q
    have e1 : lenD d 5 = true := (Bool.and_eq_true_iff.mp e).1
    obtain ⟨c, xs, ds, rfl, rfl, l2, ec, hl, ha⟩ := tup_len (hd.same s1) e1
    exact (Say.and (say_callAt (k := 1) (giv_var rfl) ec ha (by omega)) fun _ _ t0 => (Say.and (say_callAt (k := 2) (giv_var rfl) (t0 _ _ ec) (ha.same t0) (by omega)) fun _ _ t1 => (Say.and (say_callNAt (k := 3) (giv_var rfl) giv_c ((t0.trans t1) _ _ ec) (ha.same (t0.trans t1)) (by omega)) fun _ _ t2 => (say_callNAt (k := 4) (giv_var rfl) giv_c (((t0.trans t1).trans t2) _ _ ec) (ha.same ((t0.trans t1).trans t2)) (by omega)))))
theorem sc_is_goer : FnScope ["thing"] ["thing"] (defScope (topS 16)) := ⟨rfl, rfl, rfl, by decide +kernel, rfl, by decide +kernel, by decide +kernel⟩
theorem ok_is_goer (D : DefAt K mg "is_goer" (topS 16)) (c_begins : Cal P w K mg base 3 "begins" spBegins []) (c_is_name : Cal P w K mg base 2 "is_name" (spPred mName) []) (c_is_whole : Cal P w K mg base 1 "is_whole" (spPredN mWhole) []) (c_is_shut : Cal P w K mg base 3 "is_shut" (spPred mShut) []) : Cal P w K mg base 4 "is_goer" (spPred mGoer) [] := by
  have sc := sc_is_goer
  refine mkCal D (fun _ _ _ _ _ _ us hl => match us, hl with | [_], _ => rfl) sc (fun vs H Q E h => ?_) (fun f cdv A outer s H vs Q E hr h => ?_)
  · obtain ⟨p, v, d, rfl, _⟩ := h
    rfl
  · obtain ⟨p, v, d, rfl, hd, q⟩ := h
    refine ⟨_, (pss_one (ps_ret (pe_and (pe_c c_begins hr (by decide) (by rfl) (pa_cons (pv 0) (pa_cons pe_str (pa_cons pe_int pa_nil)))) (pe_and (pe_c c_is_name hr (by decide) (by rfl) (pa_cons (pe_ix ix_tup (pv 0) pe_int (fun _ _ => rfl)) pa_nil)) (pe_and (pe_c c_is_whole hr (by decide) (by rfl) (pa_cons (pe_ix ix_tup (pv 0) pe_int (fun _ _ => rfl)) (pa_cons pe_int pa_nil))) (pe_one (pe_c c_is_shut hr (by decide) (by rfl) (pa_cons (pe_ix ix_tup (pv 0) pe_int (fun _ _ => rfl)) pa_nil)))))))), ?_⟩
    refine Say.and (fun Q q => ⟨_, rfl, p, v, d, _, _, rfl, hd, by decide, q⟩) (fun e H1 s1 => ?_) _ q
    have e1 : lenD d 4 = true := (Bool.and_eq_true_iff.mp e).1
    obtain ⟨c, xs, ds, rfl, rfl, l2, ec, hl, ha⟩ := tup_len (hd.same s1) e1
    exact (Say.and (say_callAt (k := 1) (giv_var rfl) ec ha (by omega)) fun _ _ t0 => (Say.and (say_callNAt (k := 2) (giv_var rfl) giv_c (t0 _ _ ec) (ha.same t0) (by omega)) fun _ _ t1 => (say_callAt (k := 3) (giv_var rfl) ((t0.trans t1) _ _ ec) (ha.same (t0.trans t1)) (by omega))))
theorem sc_is_parcel : FnScope ["thing"] ["thing"] (defScope (topS 17)) := ⟨rfl, rfl, rfl, by decide +kernel, rfl, by decide +kernel, by decide +kernel⟩
theorem ok_is_parcel (D : DefAt K mg "is_parcel" (topS 17)) (c_is_letter : Cal P w K mg base 4 "is_letter" (spPred mLetter) []) (c_is_echo : Cal P w K mg base 4 "is_echo" (spPred mEcho) []) : Cal P w K mg base 5 "is_parcel" (spPred mParcel) [] := by
  have sc := sc_is_parcel
  refine mkCal D (fun _ _ _ _ _ _ us hl => match us, hl with | [_], _ => rfl) sc (fun vs H Q E h => ?_) (fun f cdv A outer s H vs Q E hr h => ?_)
  · obtain ⟨p, v, d, rfl, _⟩ := h
    rfl
  · obtain ⟨p, v, d, rfl, hd, q⟩ := h
    refine ⟨_, (pss_one (ps_ret (pe_or (pe_c c_is_letter hr (by decide) (by rfl) (pa_cons (pv 0) pa_nil)) (pe_one (pe_c c_is_echo hr (by decide) (by rfl) (pa_cons (pv 0) pa_nil)))))), ?_⟩
    exact Say.or (say_call (giv_var rfl) hd) (fun e H1 s1 => say_call (giv_var rfl) (hd.same s1)) _ q
theorem sc_is_thing : FnScope ["thing"] ["thing"] (defScope (topS 18)) := ⟨rfl, rfl, rfl, by decide +kernel, rfl, by decide +kernel, by decide +kernel⟩
theorem ok_is_thing (D : DefAt K mg "is_thing" (topS 18)) (c_is_parcel : Cal P w K mg base 5 "is_parcel" (spPred mParcel) []) (c_is_answer : Cal P w K mg base 4 "is_answer" (spPred mAnswer) []) (c_is_goer : Cal P w K mg base 4 "is_goer" (spPred mGoer) []) : Cal P w K mg base 6 "is_thing" (spPred mThing) [] := by
  have sc := sc_is_thing
  refine mkCal D (fun _ _ _ _ _ _ us hl => match us, hl with | [_], _ => rfl) sc (fun vs H Q E h => ?_) (fun f cdv A outer s H vs Q E hr h => ?_)
  · obtain ⟨p, v, d, rfl, _⟩ := h
    rfl
  · obtain ⟨p, v, d, rfl, hd, q⟩ := h
    refine ⟨_, (pss_one (ps_ret (pe_or (pe_c c_is_parcel hr (by decide) (by rfl) (pa_cons (pv 0) pa_nil)) (pe_or (pe_c c_is_answer hr (by decide) (by rfl) (pa_cons (pv 0) pa_nil)) (pe_one (pe_c c_is_goer hr (by decide) (by rfl) (pa_cons (pv 0) pa_nil))))))), ?_⟩
    exact Say.or (say_call (giv_var rfl) hd) (fun e H1 s1 => Say.or (say_call (giv_var rfl) (hd.same s1)) fun e2 H2 s2 => say_call (giv_var rfl) (hd.same (s1.trans s2))) _ q
end
end Gj

namespace Gj
open PySem PySem.Spec PyProof.Rows L2
open C8 (Cal pe_c pe_gc)
theorem isa_str_no {d : PyData} (e : isa d "str" = false) (signs : Str) (most : Int) : mTxt signs most d = false := by
  cases d with
  | str z => exact absurd e (by dsimp only [isa, kind]; decide +kernel)
  | _ => rfl
theorem isa_tup {ds : List PyData} : isa (.tuple ds) "tuple" = true := by dsimp only [isa, kind]; decide +kernel
theorem isa_str {z : Str} : isa (.str z) "str" = true := by dsimp only [isa, kind]; decide +kernel
theorem isa_tup_no {d : PyData} {α : Type} (e : isa d "tuple" = false) (f : List PyData → α) (x : α) : (match d with | .tuple ds => f ds | _ => x) = x := by
  cases d with
  | tuple z => exact absurd e (by rw [isa_tup]; decide)
  | _ => rfl
theorem isT_iff {d : PyData} {z : Str} (h : isT d z = true) : d = .str z := by
  cases d with
  | str y => rw [eq_of_beq (show (y == z) = true from h)]
  | _ => exact absurd h (by simp [isT])
def lSort (d : PyData) : Bool := sorts.any fun z => isT d z
theorem lSort_eq (d : PyData) : lSort d = mSort d := by
  cases d with
  | str z =>
    show lSort (.str z) = (mName (.str z) && lSort (.str z))
    cases h : lSort (.str z) with
    | false => rw [Bool.and_false]
    | true =>
      rw [Bool.and_true]
      obtain ⟨y, hy, e⟩ := List.any_eq_true.mp h
      have ez : z = y := PyData.str.inj (isT_iff e)
      rw [ez]
      have hs : ∀ y ∈ sorts, true = mName (.str y) := by decide +kernel
      exact hs y hy
  | _ => rfl
def lShut (d : PyData) : Bool := match d with
  | .tuple ds => ds.all mName && (List.range (strsOf ds).length).all (newAt (strsOf ds))
  | _ => false
theorem lShut_eq (d : PyData) : lShut d = mShut d := by
  cases d with
  | tuple ds =>
    show (_ && _) = (_ && _)
    congr 1
    have e1 : taken (strsOf ds) (strsOf ds).length = (strsOf ds).reverse := by unfold taken; rw [List.take_of_length_le (Nat.le_refl _)]
    rw [Bool.eq_iff_iff, news_nodup, decide_eq_true_iff, e1]
    have h := distinct_nodup (strsOf ds).reverse
    rw [List.length_reverse] at h
    rw [h]
    exact (List.reverse_perm (strsOf ds)).nodup_iff.symm
  | _ => rfl
def lIs (d : PyData) : Bool := match d with
  | .tuple (e0 :: e1 :: r) => mName e1 && (bif isT e0 "letter" then lenD d 4 && (atD d 2 mName && atD d 3 mWord) else bif isT e0 "echo" then lenD d 5 && (atD d 2 mName && (atD d 3 mSort && atD d 4 fun e => mPair e 0)) else
      bif isT e0 "answer" then lenD d 5 && (atD d 2 mSort && ((atD d 3 fun e => mPair e 0) && atD d 4 fun e => mPair e 1)) else isT e0 "goer" && (lenD d 4 && ((atD d 2 fun e => mWhole e 2) && atD d 3 mShut)))
  | _ => false
theorem lIs_eq (d : PyData) : lIs d = mThing d := by
  cases d with
  | tuple ds =>
    match ds with
    | [] => rfl
    | [e] => rfl
    | e0 :: e1 :: r =>
      have n1 : mName (.str "letter") = true := by decide +kernel
      have n2 : mName (.str "echo") = true := by decide +kernel
      have n3 : mName (.str "answer") = true := by decide +kernel
      have n4 : mName (.str "goer") = true := by decide +kernel
      have a0 : ∀ f, atD (.tuple (e0 :: e1 :: r)) 0 f = f e0 := fun f => rfl
      have a1 : ∀ f, atD (.tuple (e0 :: e1 :: r)) 1 f = f e1 := fun f => rfl
      unfold lIs mThing mParcel mLetter mEcho mAnswer mGoer mBegins
      simp only [a0, a1]
      generalize lenD (.tuple (e0 :: e1 :: r)) 4 = l4
      generalize lenD (.tuple (e0 :: e1 :: r)) 5 = l5
      generalize atD (.tuple (e0 :: e1 :: r)) 2 mName = b1
      generalize atD (.tuple (e0 :: e1 :: r)) 3 mWord = b2
      generalize atD (.tuple (e0 :: e1 :: r)) 3 mSort = b3
      generalize (atD (.tuple (e0 :: e1 :: r)) 4 fun e => mPair e 0) = b4
      generalize atD (.tuple (e0 :: e1 :: r)) 2 mSort = b5
      generalize (atD (.tuple (e0 :: e1 :: r)) 3 fun e => mPair e 0) = b6
      generalize (atD (.tuple (e0 :: e1 :: r)) 4 fun e => mPair e 1) = b7
      generalize (atD (.tuple (e0 :: e1 :: r)) 2 fun e => mWhole e 2) = b8
      generalize atD (.tuple (e0 :: e1 :: r)) 3 mShut = b9
      generalize mName e1 = b0
      by_cases h1 : isT e0 "letter" = true
      · rw [isT_iff h1, n1, show isT (.str "letter") "letter" = true by decide +kernel, show isT (.str "letter") "echo" = false by decide +kernel, show isT (.str "letter") "answer" = false by decide +kernel, show isT (.str "letter") "goer" = false by decide +kernel]
        simp only [cond_true, Bool.and_true, Bool.and_false, Bool.false_and, Bool.or_false]
        cases b0 <;> cases l4 <;> rfl
      by_cases h2 : isT e0 "echo" = true
      · rw [isT_iff h2, n2, show isT (.str "echo") "letter" = false by decide +kernel, show isT (.str "echo") "echo" = true by decide +kernel, show isT (.str "echo") "answer" = false by decide +kernel, show isT (.str "echo") "goer" = false by decide +kernel]
        simp only [cond_true, cond_false, Bool.and_true, Bool.and_false, Bool.false_and, Bool.or_false, Bool.false_or]
        cases b0 <;> cases l5 <;> rfl
      by_cases h3 : isT e0 "answer" = true
      · rw [isT_iff h3, n3, show isT (.str "answer") "letter" = false by decide +kernel, show isT (.str "answer") "echo" = false by decide +kernel, show isT (.str "answer") "answer" = true by decide +kernel, show isT (.str "answer") "goer" = false by decide +kernel]
        simp only [cond_true, cond_false, Bool.and_true, Bool.and_false, Bool.false_and, Bool.or_false, Bool.false_or]
        cases b0 <;> cases l5 <;> rfl
      by_cases h4 : isT e0 "goer" = true
      · rw [isT_iff h4, n4, show isT (.str "goer") "letter" = false by decide +kernel, show isT (.str "goer") "echo" = false by decide +kernel, show isT (.str "goer") "answer" = false by decide +kernel, show isT (.str "goer") "goer" = true by decide +kernel]
        simp only [cond_true, cond_false, Bool.and_true, Bool.true_and, Bool.and_false, Bool.false_and, Bool.or_false, Bool.false_or]
        cases b0 <;> cases l4 <;> rfl
      · rw [Bool.eq_false_iff.mpr h1, Bool.eq_false_iff.mpr h2, Bool.eq_false_iff.mpr h3, Bool.eq_false_iff.mpr h4]
        simp only [cond_false, Bool.and_false, Bool.false_and, Bool.or_false]
  | _ => rfl
def spWalker : Sp := fun vs H Q _ => ∃ (p c : Addr) (xs : List V) (ds : List PyData), vs = [.ref c] ∧ H c = some (.tup xs) ∧ DtAll p H xs ds ∧ 3 ≤ xs.length ∧ ∀ H', Same H H' → Q (xs.getD (if isT (ds.getD 0 .none) "letter" = true then 2 else 1) .non) H'
section
variable {P : Program} {w : World} {K : PySem.W.Frag} {mg : Str → Option Value} {base : Heap}
theorem sc_walker_of : FnScope ["thing"] ["thing"] (defScope (topS 19)) := ⟨rfl, rfl, rfl, by decide +kernel, rfl, by decide +kernel, by decide +kernel⟩
theorem ok_walker_of (D : DefAt K mg "walker_of" (topS 19)) : Cal P w K mg base 1 "walker_of" spWalker [] := by
  have sc := sc_walker_of
  refine mkCal D (fun _ _ _ _ _ _ us hl => match us, hl with | [_], _ => rfl) sc (fun vs H Q E h => ?_) (fun f cdv A outer s H vs Q E hr h => ?_)
  · obtain ⟨p, c, xs, ds, rfl, _⟩ := h
    rfl
  · obtain ⟨p, c, xs, ds, rfl, ec, hd, hl, q⟩ := h
    refine ⟨_, (pss_cons (ps_if (pt_cmpR (op_eqT hr.units) (pe_ix ix_tup (pv 0) pe_int (fun _ _ => rfl)) pe_str (nomark _))
  (pss_one (ps_ret (pe_ix ix_tup (pv 0) pe_int (fun _ _ => rfl))))
  pss_nil)
  (pss_one (ps_ret (pe_ix ix_tup (pv 0) pe_int (fun _ _ => rfl))))), ?_⟩
    have hl2 : 3 ≤ ds.length := by rw [← hd.length]; exact hl
    obtain ⟨x, d0, g, hx, ek⟩ := giv_at (K := K) (k := 0) (te := tVar 0) (σ := [some (.ref c)]) (H := H) (giv_var rfl) ec hd (by omega)
    have e0 : ds.getD 0 .none = d0 := by rw [List.getD_eq_getElem?_getD, ek]; rfl
    rw [e0] at q
    refine Say.tTest (say_eqT g giv_c hx) _ fun H1 s1 => ite2 (fun h1 => ?_) (fun h1 => ?_)
    · rw [if_pos h1] at q
      have g2 : xs[2]? = some (xs.getD 2 .non) := by rw [List.getD_eq_getElem?_getD, List.getElem?_eq_getElem (by omega)]; rfl
      exact giv_ixT (k := 2) (giv_var rfl) (s1 _ _ ec) g2 _ (q _ s1)
    · rw [if_neg h1] at q
      have g2 : xs[1]? = some (xs.getD 1 .non) := by rw [List.getD_eq_getElem?_getD, List.getElem?_eq_getElem (by omega)]; rfl
      exact giv_ixT (k := 1) (giv_var rfl) (s1 _ _ ec) g2 _ (q _ s1)
theorem sc__law_is_name : FnScope ["_law_thing_here", "_law_sign"] ["_law_thing_here"] (defScope (topS 29)) := ⟨rfl, rfl, rfl, by decide +kernel, rfl, by decide +kernel, by decide +kernel⟩
theorem ok__law_is_name (D : DefAt K mg "_law_is_name" (topS 29)) (m : Mg mg) : Cal P w K mg base 1 "_law_is_name" (spPred mName) [] := by
  have sc := sc__law_is_name
  refine mkCal D (fun _ _ _ _ _ _ us hl => match us, hl with | [_], _ => rfl) sc (fun vs H Q E h => ?_) (fun f cdv A outer s H vs Q E hr h => ?_)
  · obtain ⟨p, v, d, rfl, _⟩ := h
    rfl
  · obtain ⟨p, v, d, rfl, hd, q⟩ := h
    refine ⟨_, (pss_cons (ps_if (PW.pt (pw_or (pt_not (pt_val (pe_callB (call_isD (T := "str") (.inl rfl)) (by rfl) m.isinstance (by decide +kernel) (pa_cons (pv 0) (pa_cons (pe_bltn (v := .ty "str") (by rfl) m.str (by decide +kernel) rfl) pa_nil))))) (pw_or1 (pt_not (pt_chain op_le op_le pe_int (pe_callB call_len (by rfl) m.len (by decide +kernel) (pa_cons (pv 0) pa_nil)) pe_int)))))
  (pss_one (ps_ret pe_bl))
  pss_nil)
  (pss_one (ps_ret (pe_callB (cr_all rfl) (by rfl) m.all (by decide +kernel) (pa_cons (pe_lc (own := [("_law_sign", 1)]) (g := gName 1) (tt := tYes) rfl sc.nd (pi_str (pv 0)) (blkOk_by (N := ["_law_thing_here", "_law_sign"]) (sc := defScope (topS 29)) (by decide +kernel)) (fun _ _ _ _ _ => (pg_name (i := 1) sc.nd rfl (.inl rfl))) (fun _ _ _ _ _ => pts_nil) (fun _ _ _ _ _ => (pe_cmpR op_in_sign (pv 1) pe_str rfl))) pa_nil))))), ?_⟩
    cases e : isa d "str" with
    | true =>
      cases hd with
      | str z hz =>
        refine (Rets.of (Rets.iff (SayT.or (SayT.not (Say.tB (say_isa (p := p) (giv_var rfl) (.str z hz)))) fun e H1 s1 => SayT.not (Say.tTest (say_chain (giv_var rfl) giv_c hz))) (fun e H1 s1 => Rets.ret say_bl) (fun e H1 s1 => Rets.ret (say_all hz (fun _ => rfl) (fun _ => rfl) (fun _ _ => giv_c) (giv_var rfl)))) ?_) _ q
        rw [isa_str]
        show _ = ((decide (1 ≤ (z.length : Int)) && decide ((z.length : Int) ≤ 8)) && (z.cps.toList.map fun c => decide (c ∈ (sLetters : Str).cps.toList)).all id)
        cases decide (1 ≤ (z.length : Int)) && decide ((z.length : Int) ≤ 8) <;> rfl
      | _ => exact absurd e (by dsimp only [isa, kind]; decide +kernel)
    | false =>
      refine (Rets.of (Rets.iff (a := false) (b := false) (SayT.or (b := false) (SayT.not (Say.tB (Say.of (say_isa (giv_var rfl) hd) e))) fun z => absurd z (by decide)) (fun _ H1 s1 => Rets.ret say_bl) fun z => absurd z (by decide)) ?_) _ q
      exact (isa_str_no e _ _).symm
theorem sc__law_is_number : FnScope ["_law_thing_here", "_law_least"] ["_law_thing_here", "_law_least"] (defScope (topS 30)) := ⟨rfl, rfl, rfl, by decide +kernel, rfl, by decide +kernel, by decide +kernel⟩
theorem ok__law_is_number (D : DefAt K mg "_law_is_number" (topS 30)) (m : Mg mg) : Cal P w K mg base 1 "_law_is_number" (spPredN mWhole) [] := by
  have sc := sc__law_is_number
  refine mkCal D (fun _ _ _ _ _ _ us hl => match us, hl with | [_, _], _ => rfl) sc (fun vs H Q E h => ?_) (fun f cdv A outer s H vs Q E hr h => ?_)
  · obtain ⟨p, v, d, n, rfl, _⟩ := h
    rfl
  · obtain ⟨p, v, d, n, rfl, hd, q⟩ := h
    refine ⟨_, (pss_one (ps_ret (pe_and (pe_callB (call_isD (T := "int") (.inr (.inr (.inl rfl)))) (by rfl) m.isinstance (by decide +kernel) (pa_cons (pv 0) (pa_cons (pe_bltn (v := .ty "int") (by rfl) m.int (by decide +kernel) rfl) pa_nil))) (pe_and (pe_not (pe_callB (call_isD (T := "bool") (.inr (.inr (.inr (.inl rfl))))) (by rfl) m.isinstance (by decide +kernel) (pa_cons (pv 0) (pa_cons (pe_bltn (v := .ty "bool") (by rfl) m.bool (by decide +kernel) rfl) pa_nil)))) (pe_one (pe_cmpR op_ge (pv 0) (pv 1) (nomark _))))))), ?_⟩
    refine (Say.of (Say.and (b := !(isa d "bool") && mWhole d n) (say_isa (giv_var rfl) hd) fun e H1 s1 => Say.and (Say.not (say_isa (giv_var rfl) (hd.same s1))) fun e2 H2 s2 => ?_) ?_) _ q
    · cases hd with
      | int i => exact fun Q q => ⟨_, rfl, _, rfl, _, _, rfl, rfl, q _ (Same.refl _)⟩
      | bl b => exact absurd e2 (by dsimp only [isa, kind]; decide +kernel)
      | _ => exact absurd e (by dsimp only [isa, kind]; decide +kernel)
    · cases d with
      | int i =>
        rw [show isa (.int i) "int" = true by dsimp only [isa, kind]; decide +kernel, show isa (.int i) "bool" = false by dsimp only [isa, kind]; decide +kernel]
        rfl
      | _ => show (isa _ "int" && (!(isa _ "bool") && false)) = false; rw [Bool.and_false, Bool.and_false]
theorem sc__law_is_word : FnScope ["_law_thing_here", "_law_sign"] ["_law_thing_here"] (defScope (topS 33)) := ⟨rfl, rfl, rfl, by decide +kernel, rfl, by decide +kernel, by decide +kernel⟩
theorem ok__law_is_word (D : DefAt K mg "_law_is_word" (topS 33)) (m : Mg mg) : Cal P w K mg base 1 "_law_is_word" (spPred mWord) [] := by
  have sc := sc__law_is_word
  refine mkCal D (fun _ _ _ _ _ _ us hl => match us, hl with | [_], _ => rfl) sc (fun vs H Q E h => ?_) (fun f cdv A outer s H vs Q E hr h => ?_)
  · obtain ⟨p, v, d, rfl, _⟩ := h
    rfl
  · obtain ⟨p, v, d, rfl, hd, q⟩ := h
    refine ⟨_, (pss_cons (ps_if (PW.pt (pw_or (pt_not (pt_val (pe_callB (call_isD (T := "str") (.inl rfl)) (by rfl) m.isinstance (by decide +kernel) (pa_cons (pv 0) (pa_cons (pe_bltn (v := .ty "str") (by rfl) m.str (by decide +kernel) rfl) pa_nil))))) (pw_or1 (pt_not (pt_chain op_le op_le pe_int (pe_callB call_len (by rfl) m.len (by decide +kernel) (pa_cons (pv 0) pa_nil)) pe_int)))))
  (pss_one (ps_ret pe_bl))
  pss_nil)
  (pss_one (ps_ret (pe_callB (cr_all rfl) (by rfl) m.all (by decide +kernel) (pa_cons (pe_lc (own := [("_law_sign", 1)]) (g := gName 1) (tt := tYes) rfl sc.nd (pi_str (pv 0)) (blkOk_by (N := ["_law_thing_here", "_law_sign"]) (sc := defScope (topS 33)) (by decide +kernel)) (fun _ _ _ _ _ => (pg_name (i := 1) sc.nd rfl (.inl rfl))) (fun _ _ _ _ _ => pts_nil) (fun _ _ _ _ _ => (pe_cmpR op_in_sign (pv 1) pe_str rfl))) pa_nil))))), ?_⟩
    cases e : isa d "str" with
    | true =>
      cases hd with
      | str z hz =>
        refine (Rets.of (Rets.iff (SayT.or (SayT.not (Say.tB (say_isa (p := p) (giv_var rfl) (.str z hz)))) fun e H1 s1 => SayT.not (Say.tTest (say_chain (giv_var rfl) giv_c hz))) (fun e H1 s1 => Rets.ret say_bl) (fun e H1 s1 => Rets.ret (say_all hz (fun _ => rfl) (fun _ => rfl) (fun _ _ => giv_c) (giv_var rfl)))) ?_) _ q
        rw [isa_str]
        show _ = ((decide (1 ≤ (z.length : Int)) && decide ((z.length : Int) ≤ 12)) && (z.cps.toList.map fun c => decide (c ∈ (sLetters ++ sFigures : Str).cps.toList)).all id)
        cases decide (1 ≤ (z.length : Int)) && decide ((z.length : Int) ≤ 12) <;> rfl
      | _ => exact absurd e (by dsimp only [isa, kind]; decide +kernel)
    | false =>
      refine (Rets.of (Rets.iff (a := false) (b := false) (SayT.or (b := false) (SayT.not (Say.tB (Say.of (say_isa (giv_var rfl) hd) e))) fun z => absurd z (by decide)) (fun _ H1 s1 => Rets.ret say_bl) fun z => absurd z (by decide)) ?_) _ q
      exact (isa_str_no e _ _).symm
theorem sc__law_is_pair : FnScope ["_law_thing_here", "_law_least"] ["_law_thing_here", "_law_least"] (defScope (topS 31)) := ⟨rfl, rfl, rfl, by decide +kernel, rfl, by decide +kernel, by decide +kernel⟩
theorem ok__law_is_pair (D : DefAt K mg "_law_is_pair" (topS 31)) (m : Mg mg) (c__law_is_name : Cal P w K mg base 1 "_law_is_name" (spPred mName) []) (c__law_is_number : Cal P w K mg base 1 "_law_is_number" (spPredN mWhole) []) : Cal P w K mg base 2 "_law_is_pair" (spPredN mPair) [] := by
  have sc := sc__law_is_pair
  refine mkCal D (fun _ _ _ _ _ _ us hl => match us, hl with | [_, _], _ => rfl) sc (fun vs H Q E h => ?_) (fun f cdv A outer s H vs Q E hr h => ?_)
  · obtain ⟨p, v, d, n, rfl, _⟩ := h
    rfl
  · obtain ⟨p, v, d, n, rfl, hd, q⟩ := h
    refine ⟨_, (pss_cons (ps_if (PW.pt (pw_or (pt_not (pt_val (pe_callB (call_isD (T := "tuple") (.inr (.inl rfl))) (by rfl) m.isinstance (by decide +kernel) (pa_cons (pv 0) (pa_cons (pe_bltn (v := .ty "tuple") (by rfl) m.tuple (by decide +kernel) rfl) pa_nil))))) (pw_or1 (pt_cmpR op_ne (pe_callB call_len (by rfl) m.len (by decide +kernel) (pa_cons (pv 0) pa_nil)) pe_int (nomark _)))))
  (pss_one (ps_ret pe_bl))
  pss_nil)
  (pss_one (ps_ret (pe_and (pe_c c__law_is_name hr (by decide) (by rfl) (pa_cons (pe_ix ix_tup (pv 0) pe_int (fun _ _ => rfl)) pa_nil)) (pe_one (pe_c c__law_is_number hr (by decide) (by rfl) (pa_cons (pe_ix ix_tup (pv 0) pe_int (fun _ _ => rfl)) (pa_cons (pv 1) pa_nil)))))))), ?_⟩
    cases e : isa d "tuple" with
    | true =>
      obtain ⟨c, xs, ds, rfl, rfl, ec, hl, ha⟩ := tup_of hd e
      refine (Rets.of (Rets.iff (c := (!true || !decide ((xs.length : Int) = 2))) (b := (atD (.tuple ds) 0 mName && atD (.tuple ds) 1 fun e => mWhole e n)) (SayT.or (SayT.not (Say.tB (Say.of (say_isa (giv_var rfl) hd) e))) fun e H1 s1 => Say.tTest (say_neI (say_len (giv_var rfl) (s1 _ _ ec)) giv_c)) (fun e H1 s1 => Rets.ret say_bl) (fun e H1 s1 => Rets.ret ?_)) (b := mPair (.tuple ds) n) ?_) _ q
      · have l2 : (ds.length : Int) = 2 := by
          have := ha.length
          have e3 : (!decide ((xs.length : Int) = 2)) = false := e
          rw [Bool.not_eq_false', decide_eq_true_iff] at e3
          omega
        exact Say.and (say_callAt (k := 0) (giv_var rfl) (s1 _ _ ec) (ha.same s1) (by omega)) fun e3 H3 s3 => say_callNAt (k := 1) (giv_var rfl) (giv_var rfl) ((s1.trans s3) _ _ ec) (ha.same (s1.trans s3)) (by omega)
      · rw [ha.length]
        show _ = (decide ((ds.length : Int) = 2) && _)
        cases decide ((ds.length : Int) = 2) <;> rfl
    | false =>
      refine (Rets.of (Rets.iff (a := false) (b := false) (SayT.or (b := false) (SayT.not (Say.tB (Say.of (say_isa (giv_var rfl) hd) e))) fun z => absurd z (by decide)) (fun _ H1 s1 => Rets.ret say_bl) fun z => absurd z (by decide)) ?_) _ q
      cases d with
      | tuple ds => exact absurd e (by rw [isa_tup]; decide)
      | _ => rfl
theorem sc__law_is_sort : FnScope ["_law_thing_here"] ["_law_thing_here"] (defScope (topS 32)) := ⟨rfl, rfl, rfl, by decide +kernel, rfl, by decide +kernel, by decide +kernel⟩
theorem ok__law_is_sort (D : DefAt K mg "_law_is_sort" (topS 32)) : Cal P w K mg base 1 "_law_is_sort" (spPred mSort) [] := by
  have sc := sc__law_is_sort
  refine mkCal D (fun _ _ _ _ _ _ us hl => match us, hl with | [_], _ => rfl) sc (fun vs H Q E h => ?_) (fun f cdv A outer s H vs Q E hr h => ?_)
  · obtain ⟨p, v, d, rfl, _⟩ := h
    rfl
  · obtain ⟨p, v, d, rfl, hd, q⟩ := h
    refine ⟨_, (pss_one (ps_ret (pe_cmpR (op_inT hr.units) (pv 0) (pe_lst (pa_cons pe_str (pa_cons pe_str (pa_cons pe_str (pa_cons pe_str pa_nil))))) rfl))), ?_⟩
    refine ⟨_, rfl, (by show 4 ≤ sizeLine; decide), fun a na => ⟨p, a, d, sorts, rfl, SqL.of upd_same, hd.same (same_new na), ?_⟩⟩
    rw [show (sorts.any fun z => isT d z) = mSort d from lSort_eq d]
    exact q _ (same_new na)
theorem sc__law_is_shut : FnScope ["_law_thing_here", "_law_name_here", "_law_k"] ["_law_thing_here"] (defScope (topS 34)) := ⟨rfl, rfl, rfl, by decide +kernel, rfl, by decide +kernel, by decide +kernel⟩
theorem ok__law_is_shut (D : DefAt K mg "_law_is_shut" (topS 34)) (m : Mg mg) (c__law_is_name : Cal P w K mg base 1 "_law_is_name" (spPred mName) []) : Cal P w K mg base 2 "_law_is_shut" (spPred mShut) [] := by
  have sc := sc__law_is_shut
  refine mkCal D (fun _ _ _ _ _ _ us hl => match us, hl with | [_], _ => rfl) sc (fun vs H Q E h => ?_) (fun f cdv A outer s H vs Q E hr h => ?_)
  · obtain ⟨p, v, d, rfl, _⟩ := h
    rfl
  · obtain ⟨p, v, d, rfl, hd, q⟩ := h
    refine ⟨_, (pss_cons (ps_if (PW.pt (pw_or (pt_not (pt_val (pe_callB (call_isD (T := "tuple") (.inr (.inl rfl))) (by rfl) m.isinstance (by decide +kernel) (pa_cons (pv 0) (pa_cons (pe_bltn (v := .ty "tuple") (by rfl) m.tuple (by decide +kernel) rfl) pa_nil))))) (pw_or1 (pt_not (pt_val (pe_callB (cr_all rfl) (by rfl) m.all (by decide +kernel) (pa_cons (pe_lc (own := [("_law_name_here", 1)]) (g := gName 1) (tt := tYes) rfl sc.nd (pi_tup (pv 0)) (blkOk_by (N := ["_law_thing_here", "_law_name_here", "_law_k"]) (sc := defScope (topS 34)) (by decide +kernel)) (fun _ _ _ _ _ => (pg_name (i := 1) sc.nd rfl (.inl rfl))) (fun _ _ _ _ _ => pts_nil) (fun _ _ _ _ _ => (pe_c c__law_is_name hr (by decide) (by rfl) (pa_cons (pv 1) pa_nil)))) pa_nil)))))))
  (pss_one (ps_ret pe_bl))
  pss_nil)
  (pss_one (ps_ret (pe_callB (cr_all rfl) (by rfl) m.all (by decide +kernel) (pa_cons (pe_lc (own := [("_law_name_here", 1), ("_law_k", 2)]) (g := gTup K 2 (gCons (gName 2) (gCons (gName 1) gNil))) (tt := tYes) (te := tOp (rIn K true) (tVar 1) (L2.tSl (rSlA K) (tVar 0) tNoPart (tPart (tVar 2)))) rfl sc.nd (pi_enumT (by rfl) m.enumerate (pa_cons (pv 0) pa_nil)) (blkOk_by (N := ["_law_thing_here", "_law_name_here", "_law_k"]) (sc := defScope (topS 34)) (by decide +kernel)) (fun _ _ _ _ _ => (pg_tup (by rfl) (pgs_cons (pg_name (i := 2) sc.nd rfl (.inl rfl)) (pgs_cons (pg_name (i := 1) sc.nd rfl (.inl rfl)) pgs_nil)))) (fun _ _ _ _ _ => pts_nil) (fun _ _ _ _ _ => (pe_cmpR op_notIn_seq (pv 1) (pe_slice sl_tupA (pv 0) po_none (po_some (pv 2))) rfl))) pa_nil))))), ?_⟩
    cases e : isa d "tuple" with
    | true =>
      obtain ⟨c, xs, ds, rfl, rfl, ec, hl, ha⟩ := tup_of hd e
      refine (Rets.of (Rets.iff (c := (!true || !ds.all mName)) (b := (List.range (strsOf ds).length).all (newAt (strsOf ds))) (SayT.or (SayT.not (Say.tB (Say.of (say_isa (giv_var rfl) hd) e))) fun e H1 s1 => SayT.not (Say.tB (say_allT hl (fun _ => rfl) (fun _ => rfl) (giv_var rfl) (s1 _ _ ec) (ha.same s1)))) (fun e H1 s1 => Rets.ret say_bl) (fun e H1 s1 => Rets.ret ?_)) (b := mShut (.tuple ds)) ?_) _ q
      · have e3 : (!ds.all mName) = false := e
        rw [Bool.not_eq_false'] at e3
        obtain ⟨ex, ed⟩ := strs_all ha e3
        have ec2 := s1 _ _ ec
        rw [ex] at ec2 hl
        rw [List.length_map] at hl
        exact say_news hl (giv_var rfl) ec2 (fun _ _ => rfl) (fun _ _ => rfl) (fun _ _ => rfl) (fun _ _ _ => giv_var rfl)
      · rw [← lShut_eq]
        show _ = (ds.all mName && (List.range (strsOf ds).length).all (newAt (strsOf ds)))
        cases ds.all mName <;> rfl
    | false =>
      refine (Rets.of (Rets.iff (a := false) (b := false) (SayT.or (b := false) (SayT.not (Say.tB (Say.of (say_isa (giv_var rfl) hd) e))) fun z => absurd z (by decide)) (fun _ H1 s1 => Rets.ret say_bl) fun z => absurd z (by decide)) ?_) _ q
      cases d with
      | tuple ds => exact absurd e (by rw [isa_tup]; decide)
      | _ => rfl
end
end Gj

namespace Gj
open PySem PySem.Spec PyProof.Rows L2
open C8 (Cal pe_c pe_gc)
section
variable {P : Program} {w : World} {K : PySem.W.Frag} {mg : Str → Option Value} {base : Heap}
theorem sc__law_is : FnScope ["_law_thing_here"] ["_law_thing_here"] (defScope (topS 35)) := ⟨rfl, rfl, rfl, by decide +kernel, rfl, by decide +kernel, by decide +kernel⟩
theorem ok__law_is (D : DefAt K mg "_law_is" (topS 35)) (m : Mg mg) (c__law_is_name : Cal P w K mg base 1 "_law_is_name" (spPred mName) []) (c__law_is_word : Cal P w K mg base 1 "_law_is_word" (spPred mWord) []) (c__law_is_number : Cal P w K mg base 1 "_law_is_number" (spPredN mWhole) []) (c__law_is_pair : Cal P w K mg base 2 "_law_is_pair" (spPredN mPair) []) (c__law_is_sort : Cal P w K mg base 1 "_law_is_sort" (spPred mSort) []) (c__law_is_shut : Cal P w K mg base 2 "_law_is_shut" (spPred mShut) []) : Cal P w K mg base 3 "_law_is" (spPred mThing) [] := by
  have sc := sc__law_is
  refine mkCal D (fun _ _ _ _ _ _ us hl => match us, hl with | [_], _ => rfl) sc (fun vs H Q E h => ?_) (fun f cdv A outer s H vs Q E hr h => ?_)
  · obtain ⟨p, v, d, rfl, _⟩ := h
    rfl
  · obtain ⟨p, v, d, rfl, hd, q⟩ := h
    refine ⟨_, (pss_cons (ps_if (PW.pt (pw_or (pt_not (pt_val (pe_callB (call_isD (T := "tuple") (.inr (.inl rfl))) (by rfl) m.isinstance (by decide +kernel) (pa_cons (pv 0) (pa_cons (pe_bltn (v := .ty "tuple") (by rfl) m.tuple (by decide +kernel) rfl) pa_nil))))) (pw_or (pt_cmpR op_lt (pe_callB call_len (by rfl) m.len (by decide +kernel) (pa_cons (pv 0) pa_nil)) pe_int (nomark _)) (pw_or1 (pt_not (pt_val (pe_c c__law_is_name hr (by decide) (by rfl) (pa_cons (pe_ix ix_tup (pv 0) pe_int (fun _ _ => rfl)) pa_nil))))))))
  (pss_one (ps_ret pe_bl))
  pss_nil)
  (pss_cons (ps_if (pt_cmpR (op_eqT hr.units) (pe_ix ix_tup (pv 0) pe_int (fun _ _ => rfl)) pe_str (nomark _))
  (pss_one (ps_ret (pe_and (pe_cmpR op_eq (pe_callB call_len (by rfl) m.len (by decide +kernel) (pa_cons (pv 0) pa_nil)) pe_int (nomark _)) (pe_and (pe_c c__law_is_name hr (by decide) (by rfl) (pa_cons (pe_ix ix_tup (pv 0) pe_int (fun _ _ => rfl)) pa_nil)) (pe_one (pe_c c__law_is_word hr (by decide) (by rfl) (pa_cons (pe_ix ix_tup (pv 0) pe_int (fun _ _ => rfl)) pa_nil)))))))
  pss_nil)
  (pss_cons (ps_if (pt_cmpR (op_eqT hr.units) (pe_ix ix_tup (pv 0) pe_int (fun _ _ => rfl)) pe_str (nomark _))
  (pss_one (ps_ret (pe_and (pe_cmpR op_eq (pe_callB call_len (by rfl) m.len (by decide +kernel) (pa_cons (pv 0) pa_nil)) pe_int (nomark _)) (pe_and (pe_c c__law_is_name hr (by decide) (by rfl) (pa_cons (pe_ix ix_tup (pv 0) pe_int (fun _ _ => rfl)) pa_nil)) (pe_and (pe_c c__law_is_sort hr (by decide) (by rfl) (pa_cons (pe_ix ix_tup (pv 0) pe_int (fun _ _ => rfl)) pa_nil)) (pe_one (pe_c c__law_is_pair hr (by decide) (by rfl) (pa_cons (pe_ix ix_tup (pv 0) pe_int (fun _ _ => rfl)) (pa_cons pe_int pa_nil)))))))))
  pss_nil)
  (pss_cons (ps_if (pt_cmpR (op_eqT hr.units) (pe_ix ix_tup (pv 0) pe_int (fun _ _ => rfl)) pe_str (nomark _))
  (pss_one (ps_ret (pe_and (pe_cmpR op_eq (pe_callB call_len (by rfl) m.len (by decide +kernel) (pa_cons (pv 0) pa_nil)) pe_int (nomark _)) (pe_and (pe_c c__law_is_sort hr (by decide) (by rfl) (pa_cons (pe_ix ix_tup (pv 0) pe_int (fun _ _ => rfl)) pa_nil)) (pe_and (pe_c c__law_is_pair hr (by decide) (by rfl) (pa_cons (pe_ix ix_tup (pv 0) pe_int (fun _ _ => rfl)) (pa_cons pe_int pa_nil))) (pe_one (pe_c c__law_is_pair hr (by decide) (by rfl) (pa_cons (pe_ix ix_tup (pv 0) pe_int (fun _ _ => rfl)) (pa_cons pe_int pa_nil)))))))))
  pss_nil)
  (pss_one (ps_ret (pe_and (pe_cmpR (op_eqT hr.units) (pe_ix ix_tup (pv 0) pe_int (fun _ _ => rfl)) pe_str (nomark _)) (pe_and (pe_cmpR op_eq (pe_callB call_len (by rfl) m.len (by decide +kernel) (pa_cons (pv 0) pa_nil)) pe_int (nomark _)) (pe_and (pe_c c__law_is_number hr (by decide) (by rfl) (pa_cons (pe_ix ix_tup (pv 0) pe_int (fun _ _ => rfl)) (pa_cons pe_int pa_nil))) (pe_one (pe_c c__law_is_shut hr (by decide) (by rfl) (pa_cons (pe_ix ix_tup (pv 0) pe_int (fun _ _ => rfl)) pa_nil)))))))))))), ?_⟩
    rw [← lIs_eq] at q
    cases e : isa d "tuple" with
    | false =>
      refine (Rets.of (Rets.iff (a := false) (b := false) (SayT.or (b := false) (SayT.not (Say.tB (Say.of (say_isa (giv_var rfl) hd) e))) fun z => absurd z (by decide)) (fun _ H1 s1 => Rets.ret say_bl) fun z => absurd z (by decide)) ?_) _ q
      cases d with
      | tuple ds => exact absurd e (by rw [isa_tup]; decide)
      | _ => rfl
    | true =>
      obtain ⟨c, xs, ds, rfl, rfl, ec, hl, ha⟩ := tup_of hd e
      match xs, ds, ha, q with
      | [], [], ha, q =>
        exact (Rets.of (Rets.iff (a := false) (b := false) (c := true) (SayT.of (SayT.or (b := true) (SayT.not (Say.tB (Say.of (say_isa (giv_var rfl) hd) e))) fun _ H1 s1 => SayT.of (SayT.or (b := false) (Say.tTest (say_lt (j := 2) (say_len (giv_var rfl) (s1 _ _ ec)) giv_c)) fun z => absurd (show true = false from z) (by decide)) rfl) rfl) (fun _ H1 s1 => Rets.ret say_bl) fun z => absurd z (by decide)) rfl) _ q
      | [_], [_], ha, q =>
        exact (Rets.of (Rets.iff (a := false) (b := false) (c := true) (SayT.of (SayT.or (b := true) (SayT.not (Say.tB (Say.of (say_isa (giv_var rfl) hd) e))) fun _ H1 s1 => SayT.of (SayT.or (b := false) (Say.tTest (say_lt (j := 2) (say_len (giv_var rfl) (s1 _ _ ec)) giv_c)) fun z => absurd (show true = false from z) (by decide)) rfl) rfl) (fun _ H1 s1 => Rets.ret say_bl) fun z => absurd z (by decide)) rfl) _ q
      | x0 :: x1 :: xr, e0 :: e1 :: r, ha, q =>
        have hx0 : Dt p H x0 e0 := by
          cases ha with
          | cons h _ => exact h
        have big : decide ((((x0 :: x1 :: xr).length : Nat) : Int) < 2) = false := decide_eq_false (by simp only [List.length_cons]; omega)
        refine (Rets.of (Rets.iff (a := false) (c := !mName e1) (SayT.of (SayT.or (b := !mName e1) (SayT.not (Say.tB (Say.of (say_isa (giv_var rfl) hd) e))) fun _ H1 s1 => SayT.of (SayT.or (b := !mName e1) (Say.tTest (say_lt (say_len (giv_var rfl) (s1 _ _ ec)) giv_c)) fun _ H2 s2 => SayT.not (Say.tB (say_callAt (k := 1) (giv_var rfl) ((s1.trans s2) _ _ ec) (ha.same (s1.trans s2)) (by simp)))) (by rw [big]; rfl)) rfl) (fun _ H1 s1 => Rets.ret say_bl) fun _ H1 s1 =>
          Rets.iff (Say.tTest (say_eqT (giv_ixT (k := 0) (giv_var rfl) (s1 _ _ ec) rfl) giv_c (hx0.same s1))) (fun _ H2 s2 => Rets.ret <| Say.and (Say.of (say_eqI (say_len (giv_var rfl) ((s1.trans s2) _ _ ec)) giv_c) (b := lenD (.tuple (e0 :: e1 :: r)) 4) (by rw [ha.length]; rfl)) fun e9 H9 s9 => by
          have l9 : (((e0 :: e1 :: r).length : Nat) : Int) = 4 := of_decide_eq_true e9
          exact (Say.and (say_callAt (k := 2) (giv_var rfl) (((s1.trans s2).trans s9) _ _ ec) (ha.same ((s1.trans s2).trans s9)) (by omega)) fun _ _ t2 => (say_callAt (k := 3) (giv_var rfl) ((((s1.trans s2).trans s9).trans t2) _ _ ec) (ha.same (((s1.trans s2).trans s9).trans t2)) (by omega)))) fun _ H2 s2 =>
          Rets.iff (Say.tTest (say_eqT (giv_ixT (k := 0) (giv_var rfl) ((s1.trans s2) _ _ ec) rfl) giv_c (hx0.same (s1.trans s2)))) (fun _ H3 s3 => Rets.ret <| Say.and (Say.of (say_eqI (say_len (giv_var rfl) (((s1.trans s2).trans s3) _ _ ec)) giv_c) (b := lenD (.tuple (e0 :: e1 :: r)) 5) (by rw [ha.length]; rfl)) fun e9 H9 s9 => by
          have l9 : (((e0 :: e1 :: r).length : Nat) : Int) = 5 := of_decide_eq_true e9
          exact (Say.and (say_callAt (k := 2) (giv_var rfl) ((((s1.trans s2).trans s3).trans s9) _ _ ec) (ha.same (((s1.trans s2).trans s3).trans s9)) (by omega)) fun _ _ t3 => (Say.and (say_callAt (k := 3) (giv_var rfl) (((((s1.trans s2).trans s3).trans s9).trans t3) _ _ ec) (ha.same ((((s1.trans s2).trans s3).trans s9).trans t3)) (by omega)) fun _ _ t2 => (say_callNAt (k := 4) (giv_var rfl) giv_c ((((((s1.trans s2).trans s3).trans s9).trans t3).trans t2) _ _ ec) (ha.same (((((s1.trans s2).trans s3).trans s9).trans t3).trans t2)) (by omega))))) fun _ H3 s3 =>
          Rets.iff (Say.tTest (say_eqT (giv_ixT (k := 0) (giv_var rfl) (((s1.trans s2).trans s3) _ _ ec) rfl) giv_c (hx0.same ((s1.trans s2).trans s3)))) (fun _ H4 s4 => Rets.ret <| Say.and (Say.of (say_eqI (say_len (giv_var rfl) ((((s1.trans s2).trans s3).trans s4) _ _ ec)) giv_c) (b := lenD (.tuple (e0 :: e1 :: r)) 5) (by rw [ha.length]; rfl)) fun e9 H9 s9 => by
          have l9 : (((e0 :: e1 :: r).length : Nat) : Int) = 5 := of_decide_eq_true e9
          exact (Say.and (say_callAt (k := 2) (giv_var rfl) (((((s1.trans s2).trans s3).trans s4).trans s9) _ _ ec) (ha.same ((((s1.trans s2).trans s3).trans s4).trans s9)) (by omega)) fun _ _ t3 => (Say.and (say_callNAt (k := 3) (giv_var rfl) giv_c ((((((s1.trans s2).trans s3).trans s4).trans s9).trans t3) _ _ ec) (ha.same (((((s1.trans s2).trans s3).trans s4).trans s9).trans t3)) (by omega)) fun _ _ t2 => (say_callNAt (k := 4) (giv_var rfl) giv_c (((((((s1.trans s2).trans s3).trans s4).trans s9).trans t3).trans t2) _ _ ec) (ha.same ((((((s1.trans s2).trans s3).trans s4).trans s9).trans t3).trans t2)) (by omega))))) fun _ H4 s4 =>
          Rets.ret <| Say.and (say_eqT (giv_ixT (k := 0) (giv_var rfl) ((((s1.trans s2).trans s3).trans s4) _ _ ec) rfl) giv_c (hx0.same (((s1.trans s2).trans s3).trans s4))) fun _ H5 s5 => Say.and (Say.of (say_eqI (say_len (giv_var rfl) (((((s1.trans s2).trans s3).trans s4).trans s5) _ _ ec)) giv_c) (b := lenD (.tuple (e0 :: e1 :: r)) 4) (by rw [ha.length]; rfl)) fun e9 H9 s9 => by
          have l9 : (((e0 :: e1 :: r).length : Nat) : Int) = 4 := of_decide_eq_true e9
          exact (Say.and (say_callNAt (k := 2) (giv_var rfl) giv_c ((((((s1.trans s2).trans s3).trans s4).trans s5).trans s9) _ _ ec) (ha.same (((((s1.trans s2).trans s3).trans s4).trans s5).trans s9)) (by omega)) fun _ _ t2 => (say_callAt (k := 3) (giv_var rfl) (((((((s1.trans s2).trans s3).trans s4).trans s5).trans s9).trans t2) _ _ ec) (ha.same ((((((s1.trans s2).trans s3).trans s4).trans s5).trans s9).trans t2)) (by omega)))) ?_) _ q
        show _ = (mName e1 && _)
        cases mName e1 <;> rfl
end
end Gj

set_option maxHeartbeats 4000000
namespace Gj
open PySem PySem.Spec PyProof.Rows L2
open C8 (Cal pe_c pe_gc)
theorem giv_neg {σ : L2.St} {H : Hp} {i : Int} : Giv (tUn (rU fun i => .int (-i)) (tC (.int i))) σ H (.int (-i)) := fun Q q => ⟨i, rfl, q⟩
def spThing : Sp := fun vs H Q _ => ∃ p, vs = [.ref p] ∧ Pot H p ∧ ∀ (H' : Hp) (c : Addr) (xs : List V) (ds : List PyData), Drawn p H H' → c ≠ p → H' c = some (.tup xs) → DtAll p H' xs ds → 4 ≤ xs.length → xs.length ≤ 5 → Q (.ref c) H'
def spOdd : Sp := fun vs H Q _ => ∃ (p : Addr) (v : V) (d : PyData), vs = [.ref p, v] ∧ Pot H p ∧ Dt p H v d ∧ ∀ (H' : Hp) (v2 : V) (d2 : PyData), Drawn p H H' → Dt p H' v2 d2 → Q v2 H'
def spSpoilt : Sp := fun vs H Q _ => ∃ (p c : Addr) (xs : List V) (ds : List PyData), vs = [.ref p, .ref c] ∧ Pot H p ∧ c ≠ p ∧ H c = some (.tup xs) ∧ DtAll p H xs ds ∧ 4 ≤ xs.length ∧ xs.length ≤ 5 ∧ ∀ (H' : Hp) (v2 : V) (d2 : PyData), Drawn p H H' → Dt p H' v2 d2 → Q v2 H'
section
variable {P : Program} {w : World} {K : PySem.W.Frag} {mg : Str → Option Value} {base : Heap}
theorem sc__law_thing : FnScope ["_law_pot_here", "_law_one", "_law_other", "_law_sort", "_law_way", "_law_news"] ["_law_pot_here"] (defScope (topS 28)) := ⟨rfl, rfl, rfl, by decide +kernel, rfl, by decide +kernel, by decide +kernel⟩
theorem ok__law_thing (D : DefAt K mg "_law_thing" (topS 28)) (m : Mg mg) (c__law_digit : Cal P w K mg base 1 "_law_digit" spDigit []) (c__law_name : Cal P w K mg base 2 "_law_name" spName []) (c__law_names : Cal P w K mg base 3 "_law_names" spNames []) (c__law_word : Cal P w K mg base 2 "_law_word" spWord []) (c__law_whole : Cal P w K mg base 2 "_law_whole" spWhole []) : Cal P w K mg base 4 "_law_thing" spThing [] := by
  have sc := sc__law_thing
  refine mkCal D (fun _ _ _ _ _ _ us hl => match us, hl with | [_], _ => rfl) sc (fun vs H Q E h => ?_) (fun f cdv A outer s H vs Q E hr h => ?_)
  · obtain ⟨p, rfl, _⟩ := h
    rfl
  · obtain ⟨p, rfl, hp, q⟩ := h
    refine ⟨_, (pss_cons (ps_asg (pe_c c__law_names hr (by decide) (by rfl) (pa_cons (pv 0) (pa_cons pe_int (pa_cons (pe_lst pa_nil) pa_nil)))) (pg_unl (by rfl) (pgs_cons (pg_name (i := 1) sc.nd rfl (.inl rfl)) (pgs_cons (pg_name (i := 2) sc.nd rfl (.inl rfl)) pgs_nil))))
  (pss_cons (ps_set (i := 3) sc.nd rfl (.inl rfl) (pe_ix ix_list (pe_lst (pa_cons pe_str (pa_cons pe_str (pa_cons pe_str (pa_cons pe_str pa_nil))))) (pe_c c__law_digit hr (by decide) (by rfl) (pa_cons (pv 0) (pa_cons pe_int pa_nil))) (fun _ _ => rfl)))
  (pss_cons (ps_set (i := 4) sc.nd rfl (.inl rfl) (pe_c c__law_digit hr (by decide) (by rfl) (pa_cons (pv 0) (pa_cons pe_int pa_nil))))
  (pss_cons (ps_if (pt_cmpR op_eq (pv 4) pe_int (nomark _))
  (pss_one (ps_ret (pe_tup (pa_cons pe_str (pa_cons (pv 1) (pa_cons (pe_ix ix_list (pe_lst (pa_cons (pv 2) (pa_cons (pv 1) pa_nil))) (pe_c c__law_digit hr (by decide) (by rfl) (pa_cons (pv 0) (pa_cons pe_int pa_nil))) (fun _ _ => rfl)) (pa_cons (pe_c c__law_word hr (by decide) (by rfl) (pa_cons (pv 0) pa_nil)) pa_nil)))))))
  pss_nil)
  (pss_cons (ps_if (pt_cmpR op_eq (pv 4) pe_int (nomark _))
  (pss_one (ps_ret (pe_tup (pa_cons pe_str (pa_cons (pv 1) (pa_cons (pe_ix ix_list (pe_lst (pa_cons (pv 2) (pa_cons (pv 1) pa_nil))) (pe_c c__law_digit hr (by decide) (by rfl) (pa_cons (pv 0) (pa_cons pe_int pa_nil))) (fun _ _ => rfl)) (pa_cons (pv 3) (pa_cons (pe_tup (pa_cons (pe_c c__law_name hr (by decide) (by rfl) (pa_cons (pv 0) (pa_cons (pe_lst pa_nil) pa_nil))) (pa_cons (pe_c c__law_whole hr (by decide) (by rfl) (pa_cons (pv 0) (pa_cons pe_int pa_nil))) pa_nil))) pa_nil))))))))
  pss_nil)
  (pss_cons (ps_if (pt_cmpR op_eq (pv 4) pe_int (nomark _))
  (pss_cons (ps_set (i := 5) sc.nd rfl (.inl rfl) (pe_tup (pa_cons (pe_ix ix_list (pe_lst (pa_cons (pv 2) (pa_cons (pv 1) pa_nil))) (pe_c c__law_digit hr (by decide) (by rfl) (pa_cons (pv 0) (pa_cons pe_int pa_nil))) (fun _ _ => rfl)) (pa_cons (pe_c c__law_whole hr (by decide) (by rfl) (pa_cons (pv 0) (pa_cons pe_int pa_nil))) pa_nil))))
  (pss_one (ps_ret (pe_tup (pa_cons pe_str (pa_cons (pv 1) (pa_cons (pv 3) (pa_cons (pe_tup (pa_cons (pe_c c__law_name hr (by decide) (by rfl) (pa_cons (pv 0) (pa_cons (pe_lst pa_nil) pa_nil))) (pa_cons (pe_c c__law_whole hr (by decide) (by rfl) (pa_cons (pv 0) (pa_cons pe_int pa_nil))) pa_nil))) (pa_cons (pv 5) pa_nil)))))))))
  pss_nil)
  (pss_one (ps_ret (pe_tup (pa_cons pe_str (pa_cons (pv 1) (pa_cons (pe_c c__law_whole hr (by decide) (by rfl) (pa_cons (pv 0) (pa_cons pe_int pa_nil))) (pa_cons (pe_callTy call_tuple_of (by rfl) m.tuple (by decide +kernel) (pa_cons (pe_c c__law_names hr (by decide) (by rfl) (pa_cons (pv 0) (pa_cons (pe_c c__law_digit hr (by decide) (by rfl) (pa_cons (pv 0) (pa_cons pe_int pa_nil))) (pa_cons (pe_lst pa_nil) pa_nil)))) pa_nil)) pa_nil))))))))))))), ?_⟩
    refine ⟨_, rfl, (by show 0 ≤ sizeLine; decide), fun u nu => ⟨p, u, [], 2, rfl, hp.new nu, hp.ne nu, upd_same, (fun _ h => absurd h List.not_mem_nil), by decide, fun b zs H1 nc nb hl hz nd _ rr eb => ?_⟩⟩
    have r1 := ((Drawn.refl hp).new nu (o := .lst [])).trans rr
    match zs, hl, hz with
    | [z1, z2], _, hz =>
    have h1 := hz z1 (by simp)
    have h2 := hz z2 (by simp)
    refine ⟨b, _, rfl, SqL.of eb, rfl, _, _, rfl, _, _, rfl, rfl, ?_⟩
    have r0 := Drawn.refl r1.pot
    dsimp only
    refine setD (p := p) ?_ fun H2 v d r2 hs => ?_
    · exact (Lays.pick (K := K) (Lays.cons (Lay.of giv_c r0.pot (.str _ (by decide +kernel))) fun _ b2_4 => (Lays.cons (Lay.of giv_c (r0.trans b2_4).pot (.str _ (by decide +kernel))) fun _ b2_3 => (Lays.cons (Lay.of giv_c ((r0.trans b2_4).trans b2_3).pot (.str _ (by decide +kernel))) fun _ b2_2 => (Lays.cons (Lay.of giv_c (((r0.trans b2_4).trans b2_3).trans b2_2).pot (.str _ (by decide +kernel))) fun _ b2_1 => (Lays.nil ((((r0.trans b2_4).trans b2_3).trans b2_2).trans b2_1).pot))))) (by decide) fun _ b1_ => (LayI.digit (giv_var rfl) (r0.trans b1_).pot giv_c (by decide) (by decide +kernel)))
    refine setI (p := p) (n := 4) ?_ fun H3 i r23 i0 i1 => ?_
    · exact (LayI.digit (giv_var rfl) r2.pot giv_c (by decide) (by decide +kernel))
    have hs := hs.keep r23.keep
    have R3 := (r1.trans r2).trans r23
    refine ifS (isI (giv_var rfl)) (fun _ Hx sx => ?_) (fun _ Hx sx => ?_)
    · have r3 : Drawn p H3 Hx := (Drawn.refl r23.pot).same sx
      refine retT (p := p) (lo := 4) (hi := 4) ?_ fun H5 c xs ds r5 nc ec ha l1 l2 => q H5 c xs ds ((R3.trans r3).trans r5) nc ec ha (by omega) (by omega)
      exact Lays.tup (Lays.cons (Lay.of giv_c (Drawn.refl r3.pot).pot (.str _ (by decide +kernel))) fun _ a4 => (Lays.cons (Lay.of (giv_var rfl) ((Drawn.refl r3.pot).trans a4).pot (.str _ h1.small)) fun _ a3 => (Lays.cons (Lays.pick (K := K) (Lays.cons (Lay.of (giv_var rfl) (((Drawn.refl r3.pot).trans a4).trans a3).pot (.str _ h2.small)) fun _ b4_2 => (Lays.cons (Lay.of (giv_var rfl) ((((Drawn.refl r3.pot).trans a4).trans a3).trans b4_2).pot (.str _ h1.small)) fun _ b4_1 => (Lays.nil (((((Drawn.refl r3.pot).trans a4).trans a3).trans b4_2).trans b4_1).pot))) (by decide) fun _ b3_ => (LayI.digit (giv_var rfl) ((((Drawn.refl r3.pot).trans a4).trans a3).trans b3_).pot giv_c (by decide) (by decide +kernel))) fun _ a2 => (Lays.cons (Lay.word (giv_var rfl) ((((Drawn.refl r3.pot).trans a4).trans a3).trans a2).pot) fun _ a1 => (Lays.nil (((((Drawn.refl r3.pot).trans a4).trans a3).trans a2).trans a1).pot))))) (by decide)
    have r3 : Drawn p H3 Hx := (Drawn.refl r23.pot).same sx
    refine ifS (isI (giv_var rfl)) (fun _ Hy sy => ?_) (fun _ Hy sy => ?_)
    · have r3 := r3.same sy
      have hs := hs.keep r3.keep
      refine retT (p := p) (lo := 5) (hi := 5) ?_ fun H5 c xs ds r5 nc ec ha l1 l2 => q H5 c xs ds ((R3.trans r3).trans r5) nc ec ha (by omega) (by omega)
      exact Lays.tup (Lays.cons (Lay.of giv_c (Drawn.refl r3.pot).pot (.str _ (by decide +kernel))) fun _ a5 => (Lays.cons (Lay.of (giv_var rfl) ((Drawn.refl r3.pot).trans a5).pot (.str _ h1.small)) fun _ a4 => (Lays.cons (Lays.pick (K := K) (Lays.cons (Lay.of (giv_var rfl) (((Drawn.refl r3.pot).trans a5).trans a4).pot (.str _ h2.small)) fun _ b6_2 => (Lays.cons (Lay.of (giv_var rfl) ((((Drawn.refl r3.pot).trans a5).trans a4).trans b6_2).pot (.str _ h1.small)) fun _ b6_1 => (Lays.nil (((((Drawn.refl r3.pot).trans a5).trans a4).trans b6_2).trans b6_1).pot))) (by decide) fun _ b5_ => (LayI.digit (giv_var rfl) ((((Drawn.refl r3.pot).trans a5).trans a4).trans b5_).pot giv_c (by decide) (by decide +kernel))) fun _ a3 => (Lays.cons (Lay.of (giv_var rfl) ((((Drawn.refl r3.pot).trans a5).trans a4).trans a3).pot (hs.keep ((((Drawn.refl r3.pot).trans a5).trans a4).trans a3).keep)) fun _ a2 => (Lays.cons (LayT.lay (Lays.tup (Lays.cons (Lay.name (giv_var rfl) (((((Drawn.refl r3.pot).trans a5).trans a4).trans a3).trans a2).pot) fun _ b7_2 => (Lays.cons (Lay.whole (giv_var rfl) ((((((Drawn.refl r3.pot).trans a5).trans a4).trans a3).trans a2).trans b7_2).pot giv_c) fun _ b7_1 => (Lays.nil (((((((Drawn.refl r3.pot).trans a5).trans a4).trans a3).trans a2).trans b7_2).trans b7_1).pot))) (by decide)) (by decide)) fun _ a1 => (Lays.nil ((((((Drawn.refl r3.pot).trans a5).trans a4).trans a3).trans a2).trans a1).pot)))))) (by decide)
    have r3 := r3.same sy
    refine ifS (isI (giv_var rfl)) (fun _ Hz sz => ?_) (fun _ Hz sz => ?_)
    · have r3 := r3.same sz
      have hs := hs.keep r3.keep
      refine setD (p := p) ?_ fun H4 nv nd2 r4 hnv => ?_
      · exact (LayT.lay (Lays.tup (Lays.cons (Lays.pick (K := K) (Lays.cons (Lay.of (giv_var rfl) (Drawn.refl r3.pot).pot (.str _ h2.small)) fun _ b10_2 => (Lays.cons (Lay.of (giv_var rfl) ((Drawn.refl r3.pot).trans b10_2).pot (.str _ h1.small)) fun _ b10_1 => (Lays.nil (((Drawn.refl r3.pot).trans b10_2).trans b10_1).pot))) (by decide) fun _ b9_ => (LayI.digit (giv_var rfl) ((Drawn.refl r3.pot).trans b9_).pot giv_c (by decide) (by decide +kernel))) fun _ b8_2 => (Lays.cons (Lay.whole (giv_var rfl) ((Drawn.refl r3.pot).trans b8_2).pot giv_c) fun _ b8_1 => (Lays.nil (((Drawn.refl r3.pot).trans b8_2).trans b8_1).pot))) (by decide)) (by decide))
      have hs := hs.keep r4.keep
      refine retT (p := p) (lo := 5) (hi := 5) ?_ fun H5 c xs ds r5 nc ec ha l1 l2 => q H5 c xs ds (((R3.trans r3).trans r4).trans r5) nc ec ha (by omega) (by omega)
      exact Lays.tup (Lays.cons (Lay.of giv_c (Drawn.refl r4.pot).pot (.str _ (by decide +kernel))) fun _ a5 => (Lays.cons (Lay.of (giv_var rfl) ((Drawn.refl r4.pot).trans a5).pot (.str _ h1.small)) fun _ a4 => (Lays.cons (Lay.of (giv_var rfl) (((Drawn.refl r4.pot).trans a5).trans a4).pot (hs.keep (((Drawn.refl r4.pot).trans a5).trans a4).keep)) fun _ a3 => (Lays.cons (LayT.lay (Lays.tup (Lays.cons (Lay.name (giv_var rfl) ((((Drawn.refl r4.pot).trans a5).trans a4).trans a3).pot) fun _ b11_2 => (Lays.cons (Lay.whole (giv_var rfl) (((((Drawn.refl r4.pot).trans a5).trans a4).trans a3).trans b11_2).pot giv_c) fun _ b11_1 => (Lays.nil ((((((Drawn.refl r4.pot).trans a5).trans a4).trans a3).trans b11_2).trans b11_1).pot))) (by decide)) (by decide)) fun _ a2 => (Lays.cons (Lay.of (giv_var rfl) (((((Drawn.refl r4.pot).trans a5).trans a4).trans a3).trans a2).pot (hnv.keep (((((Drawn.refl r4.pot).trans a5).trans a4).trans a3).trans a2).keep)) fun _ a1 => (Lays.nil ((((((Drawn.refl r4.pot).trans a5).trans a4).trans a3).trans a2).trans a1).pot)))))) (by decide)
    · have r3 := r3.same sz
      refine retT (p := p) (lo := 4) (hi := 4) ?_ fun H5 c xs ds r5 nc ec ha l1 l2 => q H5 c xs ds ((R3.trans r3).trans r5) nc ec ha (by omega) (by omega)
      exact Lays.tup (Lays.cons (Lay.of giv_c (Drawn.refl r3.pot).pot (.str _ (by decide +kernel))) fun _ a4 => (Lays.cons (Lay.of (giv_var rfl) ((Drawn.refl r3.pot).trans a4).pot (.str _ h1.small)) fun _ a3 => (Lays.cons (Lay.whole (giv_var rfl) (((Drawn.refl r3.pot).trans a4).trans a3).pot giv_c) fun _ a2 => (Lays.cons (Lay.shut (K := K) (giv_var rfl) (LayI.digit (giv_var rfl) ((((Drawn.refl r3.pot).trans a4).trans a3).trans a2).pot giv_c (by decide) (by decide +kernel))) fun _ a1 => (Lays.nil (((((Drawn.refl r3.pot).trans a4).trans a3).trans a2).trans a1).pot))))) (by decide)
end
end Gj

set_option maxHeartbeats 4000000
namespace Gj
open PySem PySem.Spec PyProof.Rows L2
open C8 (Cal pe_c pe_gc)
section
variable {P : Program} {w : World} {K : PySem.W.Frag} {mg : Str → Option Value} {base : Heap}
theorem sc__law_odd : FnScope ["_law_pot_here", "_law_part", "_law_odd_here"] ["_law_pot_here", "_law_part"] (defScope (topS 36)) := ⟨rfl, rfl, rfl, by decide +kernel, rfl, by decide +kernel, by decide +kernel⟩
theorem ok__law_odd (D : DefAt K mg "_law_odd" (topS 36)) (m : Mg mg) (c__law_digit : Cal P w K mg base 1 "_law_digit" spDigit []) : Cal P w K mg base 2 "_law_odd" spOdd [] := by
  have sc := sc__law_odd
  refine mkCal D (fun _ _ _ _ _ _ us hl => match us, hl with | [_, _], _ => rfl) sc (fun vs H Q E h => ?_) (fun f cdv A outer s H vs Q E hr h => ?_)
  · obtain ⟨p, v, d, rfl, _⟩ := h
    rfl
  · obtain ⟨p, v, d, rfl, hp, hd, q⟩ := h
    refine ⟨_, (pss_cons (ps_set (i := 2) sc.nd rfl (.inl rfl) (pe_lst (pa_cons pe_str (pa_cons pe_str (pa_cons pe_str (pa_cons pe_str (pa_cons pe_str (pa_cons pe_str (pa_cons pe_str (pa_cons pe_str (pa_cons pe_str (pa_cons pe_non (pa_cons pe_bl (pa_cons pe_int (pa_cons pe_int (pa_cons pe_int (pa_cons (pe_un un_neg pe_int) pa_nil)))))))))))))))))
  (pss_cons (ps_set (i := 2) sc.nd rfl (.inl rfl) (pe_op op_cat (pv 2) (pe_lst (pa_cons (pe_lst (pa_cons (pv 1) pa_nil)) (pa_cons (pe_tup (pa_cons (pv 1) pa_nil)) (pa_cons (pe_tup pa_nil) (pa_cons pe_dnewK (pa_cons (pe_tup (pa_cons pe_str (pa_cons pe_int pa_nil))) (pa_cons (pe_tup (pa_cons pe_str (pa_cons pe_int pa_nil))) (pa_cons (pe_tup (pa_cons pe_str (pa_cons pe_str pa_nil))) (pa_cons (pe_tup (pa_cons pe_str (pa_cons pe_str pa_nil))) (pa_cons (pe_tup (pa_cons pe_str (pa_cons pe_bl pa_nil))) (pa_cons (pe_lst (pa_cons pe_str (pa_cons pe_int pa_nil))) pa_nil)))))))))))))
  (pss_cons (ps_set (i := 2) sc.nd rfl (.inl rfl) (pe_op op_cat (pv 2) (pe_lst (pa_cons (pe_tup (pa_cons pe_str (pa_cons pe_int (pa_cons pe_int pa_nil)))) (pa_cons (pe_tup (pa_cons pe_str pa_nil)) pa_nil)))))
  (pss_one (ps_ret (pe_ix ix_list (pv 2) (pe_c c__law_digit hr (by decide) (by rfl) (pa_cons (pv 0) (pa_cons (pe_callB call_len (by rfl) m.len (by decide +kernel) (pa_cons (pv 2) pa_nil)) pa_nil))) (fun _ _ => rfl))))))), ?_⟩
    have r0 := Drawn.refl hp
    refine setL (p := p) (n := 15) ?_ fun H1 a xs ds r1 na ea ha la => ?_
    · exact Lays.lstL (Lays.cons (Lay.of giv_c r0.pot (.str _ (by decide +kernel))) fun _ a15 => (Lays.cons (Lay.of giv_c (r0.trans a15).pot (.str _ (by decide +kernel))) fun _ a14 => (Lays.cons (Lay.of giv_c ((r0.trans a15).trans a14).pot (.str _ (by decide +kernel))) fun _ a13 => (Lays.cons (Lay.of giv_c (((r0.trans a15).trans a14).trans a13).pot (.str _ (by decide +kernel))) fun _ a12 => (Lays.cons (Lay.of giv_c ((((r0.trans a15).trans a14).trans a13).trans a12).pot (.str _ (by decide +kernel))) fun _ a11 => (Lays.cons (Lay.of giv_c (((((r0.trans a15).trans a14).trans a13).trans a12).trans a11).pot (.str _ (by decide +kernel))) fun _ a10 => (Lays.cons (Lay.of giv_c ((((((r0.trans a15).trans a14).trans a13).trans a12).trans a11).trans a10).pot (.str _ (by decide +kernel))) fun _ a9 => (Lays.cons (Lay.of giv_c (((((((r0.trans a15).trans a14).trans a13).trans a12).trans a11).trans a10).trans a9).pot (.str _ (by decide +kernel))) fun _ a8 => (Lays.cons (Lay.of giv_c ((((((((r0.trans a15).trans a14).trans a13).trans a12).trans a11).trans a10).trans a9).trans a8).pot (.str _ (by decide +kernel))) fun _ a7 => (Lays.cons (Lay.of giv_c (((((((((r0.trans a15).trans a14).trans a13).trans a12).trans a11).trans a10).trans a9).trans a8).trans a7).pot .non) fun _ a6 => (Lays.cons (Lay.of giv_c ((((((((((r0.trans a15).trans a14).trans a13).trans a12).trans a11).trans a10).trans a9).trans a8).trans a7).trans a6).pot (.bl _)) fun _ a5 => (Lays.cons (Lay.of giv_c (((((((((((r0.trans a15).trans a14).trans a13).trans a12).trans a11).trans a10).trans a9).trans a8).trans a7).trans a6).trans a5).pot (.int _)) fun _ a4 => (Lays.cons (Lay.of giv_c ((((((((((((r0.trans a15).trans a14).trans a13).trans a12).trans a11).trans a10).trans a9).trans a8).trans a7).trans a6).trans a5).trans a4).pot (.int _)) fun _ a3 => (Lays.cons (Lay.of giv_c (((((((((((((r0.trans a15).trans a14).trans a13).trans a12).trans a11).trans a10).trans a9).trans a8).trans a7).trans a6).trans a5).trans a4).trans a3).pot (.int _)) fun _ a2 => (Lays.cons (Lay.of giv_neg ((((((((((((((r0.trans a15).trans a14).trans a13).trans a12).trans a11).trans a10).trans a9).trans a8).trans a7).trans a6).trans a5).trans a4).trans a3).trans a2).pot (.int _)) fun _ a1 => (Lays.nil (((((((((((((((r0.trans a15).trans a14).trans a13).trans a12).trans a11).trans a10).trans a9).trans a8).trans a7).trans a6).trans a5).trans a4).trans a3).trans a2).trans a1).pot)))))))))))))))) (by decide)
    have hd := hd.keep r1.keep
    refine setL (p := p) (n := 15 + 10) ?_ fun H2 b ys es r2 nb eb hb lb => ?_
    · refine LayL.cat (LayL.var (giv_var rfl) r1.pot na ea ha la) (fun H' r => ?_) (by decide)
      exact Lays.lstL (Lays.cons (Lays.lst (Lays.cons (Lay.of (giv_var rfl) r.pot (hd.keep r.keep)) fun _ b1_1 => (Lays.nil (r.trans b1_1).pot)) (by decide)) fun _ a10 => (Lays.cons (LayT.lay (Lays.tup (Lays.cons (Lay.of (giv_var rfl) (r.trans a10).pot (hd.keep (r.trans a10).keep)) fun _ b2_1 => (Lays.nil ((r.trans a10).trans b2_1).pot)) (by decide)) (by decide)) fun _ a9 => (Lays.cons (LayT.lay (Lays.tup (Lays.nil ((r.trans a10).trans a9).pot) (by decide)) (by decide)) fun _ a8 => (Lays.cons (Lay.dnew (((r.trans a10).trans a9).trans a8).pot) fun _ a7 => (Lays.cons (LayT.lay (Lays.tup (Lays.cons (Lay.of giv_c ((((r.trans a10).trans a9).trans a8).trans a7).pot (.str _ (by decide +kernel))) fun _ b4_2 => (Lays.cons (Lay.of giv_c (((((r.trans a10).trans a9).trans a8).trans a7).trans b4_2).pot (.int _)) fun _ b4_1 => (Lays.nil ((((((r.trans a10).trans a9).trans a8).trans a7).trans b4_2).trans b4_1).pot))) (by decide)) (by decide)) fun _ a6 => (Lays.cons (LayT.lay (Lays.tup (Lays.cons (Lay.of giv_c (((((r.trans a10).trans a9).trans a8).trans a7).trans a6).pot (.str _ (by decide +kernel))) fun _ b5_2 => (Lays.cons (Lay.of giv_c ((((((r.trans a10).trans a9).trans a8).trans a7).trans a6).trans b5_2).pot (.int _)) fun _ b5_1 => (Lays.nil (((((((r.trans a10).trans a9).trans a8).trans a7).trans a6).trans b5_2).trans b5_1).pot))) (by decide)) (by decide)) fun _ a5 => (Lays.cons (LayT.lay (Lays.tup (Lays.cons (Lay.of giv_c ((((((r.trans a10).trans a9).trans a8).trans a7).trans a6).trans a5).pot (.str _ (by decide +kernel))) fun _ b6_2 => (Lays.cons (Lay.of giv_c (((((((r.trans a10).trans a9).trans a8).trans a7).trans a6).trans a5).trans b6_2).pot (.str _ (by decide +kernel))) fun _ b6_1 => (Lays.nil ((((((((r.trans a10).trans a9).trans a8).trans a7).trans a6).trans a5).trans b6_2).trans b6_1).pot))) (by decide)) (by decide)) fun _ a4 => (Lays.cons (LayT.lay (Lays.tup (Lays.cons (Lay.of giv_c (((((((r.trans a10).trans a9).trans a8).trans a7).trans a6).trans a5).trans a4).pot (.str _ (by decide +kernel))) fun _ b7_2 => (Lays.cons (Lay.of giv_c ((((((((r.trans a10).trans a9).trans a8).trans a7).trans a6).trans a5).trans a4).trans b7_2).pot (.str _ (by decide +kernel))) fun _ b7_1 => (Lays.nil (((((((((r.trans a10).trans a9).trans a8).trans a7).trans a6).trans a5).trans a4).trans b7_2).trans b7_1).pot))) (by decide)) (by decide)) fun _ a3 => (Lays.cons (LayT.lay (Lays.tup (Lays.cons (Lay.of giv_c ((((((((r.trans a10).trans a9).trans a8).trans a7).trans a6).trans a5).trans a4).trans a3).pot (.str _ (by decide +kernel))) fun _ b8_2 => (Lays.cons (Lay.of giv_c (((((((((r.trans a10).trans a9).trans a8).trans a7).trans a6).trans a5).trans a4).trans a3).trans b8_2).pot (.bl _)) fun _ b8_1 => (Lays.nil ((((((((((r.trans a10).trans a9).trans a8).trans a7).trans a6).trans a5).trans a4).trans a3).trans b8_2).trans b8_1).pot))) (by decide)) (by decide)) fun _ a2 => (Lays.cons (Lays.lst (Lays.cons (Lay.of giv_c (((((((((r.trans a10).trans a9).trans a8).trans a7).trans a6).trans a5).trans a4).trans a3).trans a2).pot (.str _ (by decide +kernel))) fun _ b9_2 => (Lays.cons (Lay.of giv_c ((((((((((r.trans a10).trans a9).trans a8).trans a7).trans a6).trans a5).trans a4).trans a3).trans a2).trans b9_2).pot (.int _)) fun _ b9_1 => (Lays.nil (((((((((((r.trans a10).trans a9).trans a8).trans a7).trans a6).trans a5).trans a4).trans a3).trans a2).trans b9_2).trans b9_1).pot))) (by decide)) fun _ a1 => (Lays.nil ((((((((((r.trans a10).trans a9).trans a8).trans a7).trans a6).trans a5).trans a4).trans a3).trans a2).trans a1).pot))))))))))) (by decide)
    refine setL (p := p) (n := 25 + 2) ?_ fun H3 c zs gs r3 nc ec hc lc => ?_
    · refine LayL.cat (LayL.var (giv_var rfl) r2.pot nb eb hb lb) (fun H' r => ?_) (by decide)
      exact Lays.lstL (Lays.cons (LayT.lay (Lays.tup (Lays.cons (Lay.of giv_c r.pot (.str _ (by decide +kernel))) fun _ b10_3 => (Lays.cons (Lay.of giv_c (r.trans b10_3).pot (.int _)) fun _ b10_2 => (Lays.cons (Lay.of giv_c ((r.trans b10_3).trans b10_2).pot (.int _)) fun _ b10_1 => (Lays.nil (((r.trans b10_3).trans b10_2).trans b10_1).pot)))) (by decide)) (by decide)) fun _ a2 => (Lays.cons (LayT.lay (Lays.tup (Lays.cons (Lay.of giv_c (r.trans a2).pot (.str _ (by decide +kernel))) fun _ b11_1 => (Lays.nil ((r.trans a2).trans b11_1).pot)) (by decide)) (by decide)) fun _ a1 => (Lays.nil ((r.trans a2).trans a1).pot))) (by decide)
    refine retD (p := p) ?_ fun H4 w e r4 hw => q H4 w e (((r1.trans r2).trans r3).trans r4) hw
    refine LayL.pick (K := K) (LayL.var (giv_var rfl) r3.pot nc ec hc lc) fun H' c2 ws r e2 l2 => ?_
    have el := giv_lenL (K := K) (te := tVar 2) (σ := [some (.ref p), some v, some (.ref c)]) (giv_var rfl) (r.keep _ _ nc ec)
    rw [lc] at el
    exact LayI.digit (giv_var rfl) r.pot el (by decide) (by decide +kernel)
end
end Gj

set_option maxHeartbeats 4000000
namespace Gj
open PySem PySem.Spec PyProof.Rows L2
open C8 (Cal pe_c pe_gc)
theorem Lay.odd {p : Addr} {σ : L2.St} {H : Hp} {tp tv : TE} {E : XK} {v : V} {d : PyData} (h1 : Giv tp σ H (.ref p)) (hq : Pot H p) (h2 : Giv tv σ H v) (hd : Dt p H v d) : Lay (tCall spOdd [] E (tCons tp (tCons tv tNil))) p σ H := fun Q q => h1 _ (h2 _ ⟨p, v, d, rfl, hq, hd, fun H' v2 d2 r h => q H' v2 d2 r h⟩)
section
variable {P : Program} {w : World} {K : PySem.W.Frag} {mg : Str → Option Value} {base : Heap}
theorem sc__law_spoilt : FnScope ["_law_pot_here", "_law_thing_here", "_law_at", "_law_way", "_law_within", "_law_spot", "_law_put"] ["_law_pot_here", "_law_thing_here"] (defScope (topS 37)) := ⟨rfl, rfl, rfl, by decide +kernel, rfl, by decide +kernel, by decide +kernel⟩
theorem ok__law_spoilt (D : DefAt K mg "_law_spoilt" (topS 37)) (m : Mg mg) (c__law_digit : Cal P w K mg base 1 "_law_digit" spDigit []) (c__law_odd : Cal P w K mg base 2 "_law_odd" spOdd []) : Cal P w K mg base 3 "_law_spoilt" spSpoilt [] := by
  have sc := sc__law_spoilt
  refine mkCal D (fun _ _ _ _ _ _ us hl => match us, hl with | [_, _], _ => rfl) sc (fun vs H Q E h => ?_) (fun f cdv A outer s H vs Q E hr h => ?_)
  · obtain ⟨p, c, xs, ds, rfl, _⟩ := h
    rfl
  · obtain ⟨p, c, xs, ds, rfl, hp, nc, ec, hc, l1, l2, q⟩ := h
    refine ⟨_, (pss_cons (ps_set (i := 2) sc.nd rfl (.inl rfl) (pe_c c__law_digit hr (by decide) (by rfl) (pa_cons (pv 0) (pa_cons (pe_callB call_len (by rfl) m.len (by decide +kernel) (pa_cons (pv 1) pa_nil)) pa_nil))))
  (pss_cons (ps_set (i := 3) sc.nd rfl (.inl rfl) (pe_c c__law_digit hr (by decide) (by rfl) (pa_cons (pv 0) (pa_cons pe_int pa_nil))))
  (pss_cons (ps_if (pt_cmpR op_eq (pv 3) pe_int (nomark _))
  (pss_one (ps_ret (pe_op op_catA (pe_slice sl_tupA (pv 1) po_none (po_some (pv 2))) (pe_slice sl_tupA (pv 1) (po_some (pe_op op_add (pv 2) pe_int)) po_none))))
  pss_nil)
  (pss_cons (ps_if (pt_cmpR op_eq (pv 3) pe_int (nomark _))
  (pss_one (ps_ret (pe_op op_catA (pe_op op_catA (pe_slice sl_tupA (pv 1) po_none (po_some (pv 2))) (pe_tup (pa_cons (pe_c c__law_odd hr (by decide) (by rfl) (pa_cons (pv 0) (pa_cons (pe_ix ix_tup (pv 1) (pv 2) (fun _ _ => rfl)) pa_nil))) pa_nil))) (pe_slice sl_tupA (pv 1) (po_some (pv 2)) po_none))))
  pss_nil)
  (pss_cons (ps_if (pt_cmpR op_eq (pv 3) pe_int (nomark _))
  (pss_one (ps_ret (pe_ix ix_list (pe_lst (pa_cons (pe_callTy call_list_of (by rfl) m.list (by decide +kernel) (pa_cons (pv 1) pa_nil)) (pa_cons pe_non (pa_cons pe_str (pa_cons pe_dnewK (pa_cons (pe_ix ix_tup (pv 1) pe_int (fun _ _ => rfl)) (pa_cons (pe_tup (pa_cons (pv 1) pa_nil)) pa_nil))))))) (pe_c c__law_digit hr (by decide) (by rfl) (pa_cons (pv 0) (pa_cons pe_int pa_nil))) (fun _ _ => rfl))))
  pss_nil)
  (pss_cons (ps_if (PW.pt (pw_and (pt_cmpR op_eq (pv 3) pe_int (nomark _)) (pw_and (pt_val (pe_callB (call_isD (T := "tuple") (.inr (.inl rfl))) (by rfl) m.isinstance (by decide +kernel) (pa_cons (pe_ix ix_tup (pv 1) (pe_un un_neg pe_int) (fun _ _ => rfl)) (pa_cons (pe_bltn (v := .ty "tuple") (by rfl) m.tuple (by decide +kernel) rfl) pa_nil)))) (pw_and1 (pt_cmpR (op_neE hr.units) (pe_ix ix_tup (pv 1) (pe_un un_neg pe_int) (fun _ _ => rfl)) (pe_tup pa_nil) (nomark _))))))
  (pss_cons (ps_set (i := 4) sc.nd rfl (.inl rfl) (pe_ix ix_tup (pv 1) (pe_un un_neg pe_int) (fun _ _ => rfl)))
  (pss_cons (ps_set (i := 5) sc.nd rfl (.inl rfl) (pe_c c__law_digit hr (by decide) (by rfl) (pa_cons (pv 0) (pa_cons (pe_callB call_len (by rfl) m.len (by decide +kernel) (pa_cons (pv 4) pa_nil)) pa_nil))))
  (pss_cons (ps_set (i := 6) sc.nd rfl (.inl rfl) (pe_op op_catA (pe_op op_catA (pe_slice sl_tupA (pv 4) po_none (po_some (pv 5))) (pe_tup (pa_cons (pe_c c__law_odd hr (by decide) (by rfl) (pa_cons (pv 0) (pa_cons (pe_ix ix_tup (pv 4) (pv 5) (fun _ _ => rfl)) pa_nil))) pa_nil))) (pe_slice sl_tupA (pv 4) (po_some (pe_op op_add (pv 5) pe_int)) po_none)))
  (pss_one (ps_ret (pe_op op_catA (pe_slice sl_tupA (pv 1) po_none (po_some (pe_un un_neg pe_int))) (pe_tup (pa_cons (pv 6) pa_nil))))))))
  pss_nil)
  (pss_one (ps_ret (pe_op op_catA (pe_op op_catA (pe_slice sl_tupA (pv 1) po_none (po_some (pv 2))) (pe_tup (pa_cons (pe_c c__law_odd hr (by decide) (by rfl) (pa_cons (pv 0) (pa_cons (pe_ix ix_tup (pv 1) (pv 2) (fun _ _ => rfl)) pa_nil))) pa_nil))) (pe_slice sl_tupA (pv 1) (po_some (pe_op op_add (pv 2) pe_int)) po_none)))))))))), ?_⟩
    refine setI (p := p) (n := (xs.length : Nat)) ?_ fun H1 i r1 i0 i1 => ?_
    · exact LayI.digitN (giv_var rfl) hp (say_len (giv_var rfl) ec) (by omega) (by omega)
    obtain ⟨k, rfl⟩ := Int.eq_ofNat_of_zero_le i0
    refine setI (p := p) (n := 5) ?_ fun H2 w r2 w0 w1 => ?_
    · exact (LayI.digit (giv_var rfl) r1.pot giv_c (by decide) (by decide +kernel))
    have ec := (r1.trans r2).keep _ _ nc ec
    have hc := hc.keep (r1.trans r2).keep
    have R2 := r1.trans r2
    have r2 := Drawn.refl r2.pot
    refine ifS (isI (giv_var rfl)) (fun _ Hx sx => ?_) (fun _ Hx sx => ?_)
    · have r0 := r2.same sx
      refine retD (p := p) ?_ fun H5 v d r5 hv => q H5 v d ((R2.trans r0).trans r5) hv
      exact LayT.lay (LayT.cat (K := K) (hi := k) (hi2 := xs.length - (k + 1)) (LayT.cut (K := K) (a := none) (b := some (k : Int)) (hi := k) (giv_var rfl) r0.pot nc (r0.keep _ _ nc ec) (hc.keep r0.keep) GivO.none (GivO.some (giv_var rfl)) (by rw [cut_to, List.length_take]; omega)) (fun _ rb => (LayT.cut (K := K) (a := some ((k : Int) + 1)) (b := none) (hi := xs.length - (k + 1)) (giv_var rfl) (r0.trans rb).pot nc ((r0.trans rb).keep _ _ nc ec) (hc.keep (r0.trans rb).keep) (GivO.some (giv_add (giv_var rfl) giv_c)) GivO.none (by rw [show ((k : Int) + 1) = ((k + 1 : Nat) : Int) from rfl, cut_from, List.length_drop]; omega))) (by omega)) (by omega)
    have r2 := r2.same sx
    refine ifS (isI (giv_var rfl)) (fun _ Hy sy => ?_) (fun _ Hy sy => ?_)
    · have r0 := r2.same sy
      refine retD (p := p) ?_ fun H5 v d r5 hv => q H5 v d ((R2.trans r0).trans r5) hv
      have ec := r0.keep _ _ nc ec
      have hc := hc.keep r0.keep
      have r0 := Drawn.refl r0.pot
      exact LayT.lay (LayT.cat (hi := k + 1) (LayT.cat (hi := k) (hi2 := 1) (LayT.cut (K := K) (a := none) (b := some (k : Int)) (hi := k) (giv_var rfl) r0.pot nc (r0.keep _ _ nc ec) (hc.keep r0.keep) GivO.none (GivO.some (giv_var rfl)) (by rw [cut_to, List.length_take]; omega)) (fun _ ra => by
          obtain ⟨x, d, g, hx, _, _⟩ := giv_ixV (K := K) (te := tVar 1) (ti := tVar 2) (k := k) (σ := [some (.ref p), some (.ref c), some (.int (k : Nat)), some (.int w), none, none, none]) (giv_var rfl) (giv_var rfl) (ra.keep _ _ nc ec) (hc.keep ra.keep) (by omega)
          exact Lays.tup (Lays.cons (Lay.odd (giv_var rfl) ra.pot g hx) fun _ zz => Lays.nil zz.pot) (by decide)) (by omega)) (fun _ rb => (LayT.cut (K := K) (a := some (k : Int)) (b := none) (hi := xs.length - k) (giv_var rfl) rb.pot nc (rb.keep _ _ nc ec) (hc.keep rb.keep) (GivO.some (giv_var rfl)) GivO.none (by rw [cut_from, List.length_drop]; omega))) (by omega)) (by omega)
    have r2 := r2.same sy
    refine ifS (isI (giv_var rfl)) (fun _ Hz sz => ?_) (fun _ Hz sz => ?_)
    · have r0 := r2.same sz
      refine retD (p := p) ?_ fun H5 v d r5 hv => q H5 v d ((R2.trans r0).trans r5) hv
      have ec := r0.keep _ _ nc ec
      have hc := hc.keep r0.keep
      have r0 := Drawn.refl r0.pot
      exact (Lays.pick (K := K) (Lays.cons (Lay.list (K := K) (giv_var rfl) r0.pot (by omega) (r0.keep _ _ nc ec) (hc.keep r0.keep)) fun _ b2_6 => (Lays.cons (Lay.of giv_c (r0.trans b2_6).pot .non) fun _ b2_5 => (Lays.cons (Lay.of giv_c ((r0.trans b2_6).trans b2_5).pot (.str _ (by decide +kernel))) fun _ b2_4 => (Lays.cons (Lay.dnew (((r0.trans b2_6).trans b2_5).trans b2_4).pot) fun _ b2_3 => (Lays.cons (by obtain ⟨x, d, g, hx, _⟩ := giv_at (K := K) (k := 0) (te := tVar 1) (σ := [some (.ref p), some (.ref c), some (.int (k : Nat)), some (.int w), none, none, none]) (giv_var rfl) (((((r0.trans b2_6).trans b2_5).trans b2_4).trans b2_3).keep _ _ nc ec) (hc.keep ((((r0.trans b2_6).trans b2_5).trans b2_4).trans b2_3).keep) (by have := hc.length; omega); exact Lay.of g ((((r0.trans b2_6).trans b2_5).trans b2_4).trans b2_3).pot hx) fun _ b2_2 => (Lays.cons (LayT.lay (Lays.tup (Lays.cons (Lay.of (giv_var rfl) (((((r0.trans b2_6).trans b2_5).trans b2_4).trans b2_3).trans b2_2).pot (.tup nc (by omega) ((((((r0.trans b2_6).trans b2_5).trans b2_4).trans b2_3).trans b2_2).keep _ _ nc ec) (hc.keep (((((r0.trans b2_6).trans b2_5).trans b2_4).trans b2_3).trans b2_2).keep))) fun _ b3_1 => (Lays.nil ((((((r0.trans b2_6).trans b2_5).trans b2_4).trans b2_3).trans b2_2).trans b3_1).pot)) (by decide)) (by decide)) fun _ b2_1 => (Lays.nil ((((((r0.trans b2_6).trans b2_5).trans b2_4).trans b2_3).trans b2_2).trans b2_1).pot))))))) (by decide) fun _ b1_ => (LayI.digit (giv_var rfl) (r0.trans b1_).pot giv_c (by decide) (by decide +kernel)))
    have r2 := r2.same sz
    have ec := r2.keep _ _ nc ec
    have hc := hc.keep r2.keep
    have R2 := R2.trans r2
    have r2 := Drawn.refl r2.pot
    generalize ed : ds.getD (xs.length - 1) .none = d
    generalize ex : xs.getD (xs.length - 1) .non = x
    have hx : Dt p Hz x d := ex ▸ ed ▸ hc.getD (xs.length - 1) (by omega)
    have g : ∀ (σ : L2.St) (H : Hp), σ[1]? = some (some (.ref c)) → H c = some (.tup xs) → Giv (tOp (rIxT K) (tVar 1) (tUn (rU fun i => .int (-i)) (tC (.int 1)))) σ H x := fun σ H e1 e2 => ex ▸ giv_last (giv_var e1) e2 (by omega)
    refine ifS (c := decide (w = 3) && (isa d "tuple" && filled d)) (SayT.and (isI (giv_var rfl)) fun _ Ha sa => SayT.and (Say.tB (say_isa (g _ _ rfl (sa _ _ ec)) (hx.same sa))) fun e Hb sb => Say.tTest (say_neE (g _ _ rfl ((sa.trans sb) _ _ ec)) (hx.same (sa.trans sb)) e)) (fun cc Hc sc2 => ?_) (fun _ Hc sc2 => ?_)
    · have r0 := r2.same sc2
      have ec := r0.keep _ _ nc ec
      have hc := hc.keep r0.keep
      have hx := hx.keep r0.keep
      have R2 := R2.trans r0
      have r0 := Drawn.refl r0.pot
      rw [Bool.and_eq_true, Bool.and_eq_true] at cc
      refine setV (g _ _ rfl ec) ?_
      cases hx with
      | @tup b ys es nb lb eb hb =>
        have ly : 0 < ys.length := by
          cases hb with
          | nil => exact absurd cc.2.2 (by decide)
          | cons _ _ => exact Nat.succ_pos _
        refine setI (p := p) (n := (ys.length : Nat)) ?_ fun H6 i r6 i0 i1 => ?_
        · exact LayI.digitN (giv_var rfl) r0.pot (say_len (giv_var rfl) eb) ly lb
        obtain ⟨j, rfl⟩ := Int.eq_ofNat_of_zero_le i0
        have R6 := R2.trans r6
        have ec := r6.keep _ _ nc ec
        have hc := hc.keep r6.keep
        have eb := r6.keep _ _ nb eb
        have hb := hb.keep r6.keep
        have r0 := Drawn.refl r6.pot
        refine setT (p := p) (lo := 0) (hi := j + 1 + (ys.length - (j + 1))) ?_ fun H7 e zs gs r7 ne ee he l3 l4 => ?_
        · exact (LayT.cat (hi := j + 1) (LayT.cat (hi := j) (hi2 := 1) (LayT.cut (K := K) (a := none) (b := some (j : Int)) (hi := j) (giv_var rfl) r0.pot nb (r0.keep _ _ nb eb) (hb.keep r0.keep) GivO.none (GivO.some (giv_var rfl)) (by rw [cut_to, List.length_take]; omega)) (fun _ ra => by
          obtain ⟨x, d, g, hx, _, _⟩ := giv_ixV (K := K) (te := tVar 4) (ti := tVar 5) (k := j) (σ := [some (.ref p), some (.ref c), some (.int (k : Nat)), some (.int w), some (.ref b), some (.int (j : Nat)), none]) (giv_var rfl) (giv_var rfl) (ra.keep _ _ nb eb) (hb.keep ra.keep) (by omega)
          exact Lays.tup (Lays.cons (Lay.odd (giv_var rfl) ra.pot g hx) fun _ zz => Lays.nil zz.pot) (by decide)) (by omega)) (fun _ rb => (LayT.cut (K := K) (a := some ((j : Int) + 1)) (b := none) (hi := ys.length - (j + 1)) (giv_var rfl) rb.pot nb (rb.keep _ _ nb eb) (hb.keep rb.keep) (GivO.some (giv_add (giv_var rfl) giv_c)) GivO.none (by rw [show ((j : Int) + 1) = ((j + 1 : Nat) : Int) from rfl, cut_from, List.length_drop]; omega))) (by omega))
        refine retD (p := p) ?_ fun H8 v d r8 hv => q H8 v d ((R6.trans r7).trans r8) hv
        exact LayT.lay (LayT.cat (K := K) (hi := xs.length) (hi2 := 1) (LayT.cut (a := none) (b := some (-1)) (giv_var rfl) r7.pot nc (r7.keep _ _ nc ec) (hc.keep r7.keep) GivO.none (GivO.some giv_neg) (cutV_length _ _ _)) (fun _ r9 => Lays.tup (Lays.cons (Lay.of (giv_var rfl) r9.pot (.tup ne (by omega) (r9.keep _ _ ne ee) (he.keep r9.keep))) fun _ zz => Lays.nil zz.pot) (by decide)) (by omega)) (by omega)
      | _ => exact absurd cc.2.1 (by dsimp only [isa, kind]; decide +kernel)
    · have r0 := r2.same sc2
      refine retD (p := p) ?_ fun H5 v d r5 hv => q H5 v d ((R2.trans r0).trans r5) hv
      have ec := r0.keep _ _ nc ec
      have hc := hc.keep r0.keep
      have r0 := Drawn.refl r0.pot
      exact LayT.lay (LayT.cat (hi := k + 1) (LayT.cat (hi := k) (hi2 := 1) (LayT.cut (K := K) (a := none) (b := some (k : Int)) (hi := k) (giv_var rfl) r0.pot nc (r0.keep _ _ nc ec) (hc.keep r0.keep) GivO.none (GivO.some (giv_var rfl)) (by rw [cut_to, List.length_take]; omega)) (fun _ ra => by
          obtain ⟨x, d, g, hx, _, _⟩ := giv_ixV (K := K) (te := tVar 1) (ti := tVar 2) (k := k) (σ := [some (.ref p), some (.ref c), some (.int (k : Nat)), some (.int w), none, none, none]) (giv_var rfl) (giv_var rfl) (ra.keep _ _ nc ec) (hc.keep ra.keep) (by omega)
          exact Lays.tup (Lays.cons (Lay.odd (giv_var rfl) ra.pot g hx) fun _ zz => Lays.nil zz.pot) (by decide)) (by omega)) (fun _ rb => (LayT.cut (K := K) (a := some ((k : Int) + 1)) (b := none) (hi := xs.length - (k + 1)) (giv_var rfl) rb.pot nc (rb.keep _ _ nc ec) (hc.keep rb.keep) (GivO.some (giv_add (giv_var rfl) giv_c)) GivO.none (by rw [show ((k : Int) + 1) = ((k + 1 : Nat) : Int) from rfl, cut_from, List.length_drop]; omega))) (by omega)) (by omega)
end
end Gj

set_option maxHeartbeats 4000000
namespace Gj
open PySem PySem.Spec PyProof.Rows L2
open C8 (Cal pe_c pe_gc)
section
variable {σ : L2.St} {H : Hp} {te ta tb : TE} {a b c : Bool} {D : Ends} {u t : TS} {i : Nat} {tc : TT}
theorem setB (h : Say te σ H b) (q : ∀ H', Same H H' → u D (σ.set i (some (.bl b))) H') : tSeq (tAsg te (gName i)) u D σ H := h _ q
theorem setW {w : V} (h : ∀ Q : VK, (∀ H', Same H H' → Q w H') → te σ H Q) (q : ∀ H', Same H H' → u D (σ.set i (some w)) H') : tSeq (tAsg te (gName i)) u D σ H := h _ q
theorem say_var (h : σ[i]? = some (some (.bl b))) : Say (tVar i) σ H b := fun Q q => ⟨_, h, q H (Same.refl H)⟩
theorem retB (h : Say te σ H b) (q : ∀ H', Same H H' → D.rt (.bl b) H') : tRet te D σ H := h _ q
abbrev rReprB : List V → Hp → VK → Prop := fun xs H Q => ∃ b, xs = [.bl b] ∧ Q (.str (if b then "True" else "False")) H
theorem say_reprNe (ha : Say ta σ H a) (hb : ∀ H', Same H H' → Say tb σ H' a) : Say (tOp rNe (tCB rReprB (tCons ta tNil)) (tCB rReprB (tCons tb tNil))) σ H false := fun Q q => ha _ fun H1 s1 => ⟨a, rfl, hb H1 s1 _ fun H2 s2 => ⟨a, rfl, rfl, by
  rw [decide_eq_true rfl]
  exact q H2 (s1.trans s2)⟩⟩
/-- an if whose test is false -/
theorem ifNo (h : SayT tc σ H false) (h2 : ∀ H', Same H H' → u D σ H') : tSeq (tIfS tc t tNext) u D σ H := ifS h (fun e => absurd e (by decide)) fun _ => h2
theorem say_inL {K : PySem.W.Frag} {p : Addr} {v : V} {d : PyData} {z1 z2 : Str} (hv : Giv te σ H v) (hd : Dt p H v d) : Say (tOp (rInT K) te (tLst (tCons (tC (.str z1)) (tCons (tC (.str z2)) tNil)))) σ H ([z1, z2].any fun z => isT d z) := fun Q q => hv _ ⟨(by show 2 ≤ sizeLine; decide), fun a na => ⟨p, a, d, [z1, z2], rfl, SqL.of upd_same, hd.same (same_new na), q _ (same_new na)⟩⟩
end
def echoes : List Str := ["letter", "echo"]
theorem thing_parts {d : PyData} (h : mThing d = true) : ∃ e0 e1 e2 r, d = .tuple (e0 :: e1 :: e2 :: r) ∧ mName e1 = true ∧ (isT e0 "letter" = true → mName e2 = true) ∧ mParcel d = echoes.any fun z => isT e0 z := by
  have h0 := h
  rw [← lIs_eq] at h
  match d, h, h0 with
  | .tuple (e0 :: e1 :: e2 :: r), h, h0 =>
    have h := Bool.and_eq_true_iff.mp (show (mName e1 && _) = true from h)
    refine ⟨e0, e1, e2, r, rfl, h.1, fun e => ?_, ?_⟩
    · have h2 := h.2
      rw [e, cond_true, Bool.and_eq_true, Bool.and_eq_true] at h2
      exact h2.2.1
    · show mParcel _ = (isT e0 "letter" || (isT e0 "echo" || false))
      rw [Bool.or_false]
      have h0 := Bool.or_eq_true_iff.mp (show (mParcel _ || (_ || _)) = true from h0)
      have kb : ∀ (k : Str) (n : Int) (x : Bool), (mBegins (.tuple (e0 :: e1 :: e2 :: r)) k n && x) = true → isT e0 k = true := fun k n x hb => (Bool.and_eq_true_iff.mp (Bool.and_eq_true_iff.mp (show (_ && (_ && isT e0 k)) = true from (Bool.and_eq_true_iff.mp hb).1)).2).2
      cases hp : mParcel (.tuple (e0 :: e1 :: e2 :: r)) with
      | true =>
        rcases Bool.or_eq_true_iff.mp (show (mLetter _ || mEcho _) = true from hp) with h3 | h3
        · rw [kb _ _ _ h3]; rfl
        · rw [kb _ _ _ h3, Bool.or_true]
      | false =>
        rw [hp] at h0
        rcases h0 with h0 | h0
        · exact absurd h0 (by decide)
        · rcases Bool.or_eq_true_iff.mp h0 with h3 | h3
          · rw [isT_iff (kb _ _ _ h3)]; decide +kernel
          · rw [isT_iff (kb _ _ _ h3)]; decide +kernel
  | .tuple [e0, e1], h, h0 =>
    exfalso
    have hz : mThing (.tuple [e0, e1]) = false := rfl
    rw [hz] at h0
    exact absurd h0 (by decide)
theorem name_str {p : Addr} {H : Hp} {v : V} {d : PyData} (h : Dt p H v d) (e : mName d = true) : ∃ z, v = .str z := by
  cases h with
  | str z hz => exact ⟨z, rfl⟩
  | _ => exact absurd e (by simp [mName, mTxt])
section
variable {P : Program} {w : World} {K : PySem.W.Frag} {mg : Str → Option Value} {base : Heap}
theorem sc__law_right : FnScope ["_law_thing_here", "_law_due", "_law_goal"] ["_law_thing_here"] (defScope (topS 38)) := ⟨rfl, rfl, rfl, by decide +kernel, rfl, by decide +kernel, by decide +kernel⟩
theorem ok__law_right (D : DefAt K mg "_law_right" (topS 38)) (m : Mg mg) (c__law_is : Cal P w K mg base 3 "_law_is" (spPred mThing) []) (c_is_thing : Cal P w K mg base 6 "is_thing" (spPred mThing) []) (c_is_parcel : Cal P w K mg base 5 "is_parcel" (spPred mParcel) []) (c_walker_of : Cal P w K mg base 1 "walker_of" spWalker []) : Cal P w K mg base 7 "_law_right" (spPred fun _ => true) [] := by
  have sc := sc__law_right
  refine mkCal D (fun _ _ _ _ _ _ us hl => match us, hl with | [_], _ => rfl) sc (fun vs H Q E h => ?_) (fun f cdv A outer s H vs Q E hr h => ?_)
  · obtain ⟨p, v, d, rfl, _⟩ := h
    rfl
  · obtain ⟨p, v, d, rfl, hd, q⟩ := h
    refine ⟨_, (pss_cons (ps_set (i := 1) sc.nd rfl (.inl rfl) (pe_c c__law_is hr (by decide) (by rfl) (pa_cons (pv 0) pa_nil)))
  (pss_cons (ps_if (pt_cmpR op_ne (pe_callB call_repr_bool (by rfl) m.repr (by decide +kernel) (pa_cons (pe_c c_is_thing hr (by decide) (by rfl) (pa_cons (pv 0) pa_nil)) pa_nil)) (pe_callB call_repr_bool (by rfl) m.repr (by decide +kernel) (pa_cons (pv 1) pa_nil)) (nomark _))
  (pss_one (ps_ret pe_bl))
  pss_nil)
  (pss_cons (ps_if (pt_not (pt_val (pv 1)))
  (pss_one (ps_ret pe_bl))
  pss_nil)
  (pss_cons (ps_set (i := 2) sc.nd rfl (.inl rfl) (pe_ifExp (pt_cmpR (op_eqT hr.units) (pe_ix ix_tup (pv 0) pe_int (fun _ _ => rfl)) pe_str (nomark _)) (pe_ix ix_tup (pv 0) pe_int (fun _ _ => rfl)) (pe_ix ix_tup (pv 0) pe_int (fun _ _ => rfl))))
  (pss_cons (ps_if (pt_cmpR op_ne (pe_callB call_repr_bool (by rfl) m.repr (by decide +kernel) (pa_cons (pe_c c_is_parcel hr (by decide) (by rfl) (pa_cons (pv 0) pa_nil)) pa_nil)) (pe_callB call_repr_bool (by rfl) m.repr (by decide +kernel) (pa_cons (pe_cmpR (op_inT hr.units) (pe_ix ix_tup (pv 0) pe_int (fun _ _ => rfl)) (pe_lst (pa_cons pe_str (pa_cons pe_str pa_nil))) rfl) pa_nil)) (nomark _))
  (pss_one (ps_ret pe_bl))
  pss_nil)
  (pss_one (ps_ret (pe_cmpR op_eq (pe_c c_walker_of hr (by decide) (by rfl) (pa_cons (pv 0) pa_nil)) (pv 2) (nomark _))))))))), ?_⟩
    refine setB (say_call (giv_var rfl) hd) fun H1 s1 => ?_
    refine ifNo (Say.tTest (say_reprNe (say_call (giv_var rfl) (hd.same s1)) fun H' s' => say_var rfl)) fun H2 s2 => ?_
    have s12 := s1.trans s2
    refine ifS (SayT.not (Say.tB (say_var rfl))) (fun e H3 s3 => ?_) (fun e H3 s3 => ?_)
    · exact retB say_bl fun H4 s4 => q H4 ((s12.trans s3).trans s4)
    have s13 := s12.trans s3
    have e : mThing d = true := by
      cases he : mThing d with
      | true => rfl
      | false => rw [he] at e; exact absurd e (by decide)
    obtain ⟨e0, e1, e2, r, rfl, n1, n2, ep⟩ := thing_parts e
    cases hd with
    | @tup c xs ds nc hl ec ha =>
    match xs, ha, ec, hl with
    | x0 :: x1 :: x2 :: xr, .cons d0 (.cons d1 (.cons d2 dr)), ec, hl =>
    have hw : ∃ z : Str, (if isT e0 "letter" = true then x2 else x1) = .str z := by
      by_cases hL : isT e0 "letter" = true
      · rw [if_pos hL]; exact name_str d2 (n2 hL)
      · rw [if_neg hL]; exact name_str d1 n1
    obtain ⟨z, hz⟩ := hw
    have hdd : DtAll p H (x0 :: x1 :: x2 :: xr) (e0 :: e1 :: e2 :: r) := .cons d0 (.cons d1 (.cons d2 dr))
    refine setW (w := .str z) (fun Q qq => ?_) fun H4 s4 => ?_
    · refine Say.tTest (say_eqT (giv_ixT (k := 0) (giv_var rfl) (s13 _ _ ec) rfl) giv_c (d0.same s13)) _ fun H4 s4 => ?_
      by_cases hL : isT e0 "letter" = true
      · rw [if_pos hL] at hz ⊢
        exact giv_ixT (k := 2) (giv_var rfl) ((s13.trans s4) _ _ ec) (by rw [← hz]; rfl) _ (qq _ s4)
      · rw [if_neg hL] at hz ⊢
        exact giv_ixT (k := 1) (giv_var rfl) ((s13.trans s4) _ _ ec) (by rw [← hz]; rfl) _ (qq _ s4)
    have s14 := s13.trans s4
    refine ifNo (Say.tTest (say_reprNe (say_call (p := p) (giv_var rfl) (.tup nc hl (s14 _ _ ec) (hdd.same s14))) fun H5 s5 => Say.of (say_inL (giv_ixT (k := 0) (giv_var rfl) ((s14.trans s5) _ _ ec) rfl) (d0.same (s14.trans s5))) ep.symm)) fun H5 s5 => ?_
    have s15 := s14.trans s5
    refine ⟨_, rfl, p, c, _, _, rfl, s15 _ _ ec, hdd.same s15, by simp, fun H6 s6 => ?_⟩
    have ew : (x0 :: x1 :: x2 :: xr).getD (if isT ((e0 :: e1 :: e2 :: r).getD 0 .none) "letter" = true then 2 else 1) .non = .str z := by
      rw [← hz]
      show (x0 :: x1 :: x2 :: xr).getD (if isT e0 "letter" = true then 2 else 1) .non = _
      by_cases hL : isT e0 "letter" = true
      · rw [if_pos hL, if_pos hL]; rfl
      · rw [if_neg hL, if_neg hL]; rfl
    rw [ew]
    refine ⟨_, rfl, rfl, ?_⟩
    rw [decide_eq_true rfl]
    exact q H6 (s15.trans s6)
end
end Gj

set_option maxHeartbeats 4000000
namespace Gj
open PySem PySem.Spec PyProof.Rows L2
open C8 (Cal pe_c pe_gc)
def spLaw (K : PySem.W.Frag) : Sp := fun vs H Q _ => ∃ (a : Addr) (ns : List Int), vs = [.ref a] ∧ SqL K H a (ns.map V.int) ∧ ns.length ≤ 63 ∧ ∀ H', Q (.bl true) H'
section
variable {P : Program} {w : World} {K : PySem.W.Frag} {mg : Str → Option Value} {base : Heap}
theorem sc_law : FnScope ["_law_script", "_law_k", "_law_pot_here", "_law_turn", "_law_thing_here"] ["_law_script"] (defScope (topS 39)) := ⟨rfl, rfl, rfl, by decide +kernel, rfl, by decide +kernel, by decide +kernel⟩
theorem ok_law {f : Addr} {fd : FuncData} (F : Fun K "law" "law" (topS 39) f fd) (m : Mg mg) (c__law_pot : Cal P w K mg base 1 "_law_pot" (spPot K) []) (c__law_thing : Cal P w K mg base 4 "_law_thing" spThing []) (c__law_right : Cal P w K mg base 7 "_law_right" (spPred fun _ => true) []) (c__law_spoilt : Cal P w K mg base 3 "_law_spoilt" spSpoilt []) : FnOk P w K mg base CX0 8 f fd ["_law_script"] (spLaw K) := by
  have sc := sc_law
  refine F.ok sc (fun vs H Q E h => ?_) (fun cdv A outer s H vs Q E hr h => ?_)
  · obtain ⟨x, z, rfl, _⟩ := h
    rfl
  · obtain ⟨a, ns, rfl, hS, hlen, q⟩ := h
    refine ⟨_, (pss_cons (ps_for PassesOwn.never rfl (pi_range1 (by rfl) m.range (pa_cons (pe_callB (call_max2 rfl) (by rfl) m.max (by decide +kernel) (pa_cons pe_int (pa_cons (pe_callB (call_min2 rfl) (by rfl) m.min (by decide +kernel) (pa_cons pe_int (pa_cons (pe_callB call_len (by rfl) m.len (by decide +kernel) (pa_cons (pv 0) pa_nil)) pa_nil))) pa_nil))) pa_nil)) (pg_name (i := 1) sc.nd rfl (.inl rfl))
  (pss_cons (ps_set (i := 2) sc.nd rfl (.inl rfl) (pe_c c__law_pot hr (by decide) (by rfl) (pa_cons (pv 0) (pa_cons (pv 1) pa_nil))))
  (pss_one (ps_for PassesOwn.never rfl (pi_range1 (by rfl) m.range (pa_cons pe_int pa_nil)) (pg_name (i := 3) sc.nd rfl (.inl rfl))
  (pss_cons (ps_set (i := 4) sc.nd rfl (.inl rfl) (pe_c c__law_thing hr (by decide) (by rfl) (pa_cons (pv 2) pa_nil)))
  (pss_one (ps_if (PW.pt (pw_or (pt_not (pt_val (pe_c c__law_right hr (by decide) (by rfl) (pa_cons (pv 4) pa_nil)))) (pw_or1 (pt_not (pt_val (pe_c c__law_right hr (by decide) (by rfl) (pa_cons (pe_c c__law_spoilt hr (by decide) (by rfl) (pa_cons (pv 2) (pa_cons (pv 4) pa_nil))) pa_nil)))))))
  (pss_one (ps_ret pe_bl))
  pss_nil)))))))
  (pss_one (ps_ret pe_bl))), ?_⟩
    obtain ⟨N, hN, hN2⟩ : ∃ N : Int, (if (if ((ns.map V.int).length : Int) < 4 then ((ns.map V.int).length : Int) else 4) > 1 then (if ((ns.map V.int).length : Int) < 4 then ((ns.map V.int).length : Int) else 4) else 1) = N ∧ 0 ≤ N ∧ N ≤ 1000 := by
      refine ⟨_, rfl, ?_, ?_⟩ <;> split <;> (try split) <;> omega
    refine ⟨_, rfl, _, _, rfl, .inl ⟨_, hS, rfl⟩, _, _, rfl, _, _, rfl, N, by rw [← hN], by omega, by omega, ?_⟩
    refine for_range (fun i σ H' => ∃ y1 y2 y3 y4, σ = [some (.ref a), y1, y2, y3, y4] ∧ SqL K H' a (ns.map V.int)) ⟨_, _, _, _, rfl, hS⟩ (fun i σ H1 hi hp => ?_) (fun σ H1 hp => ?_)
    · obtain ⟨y1, y2, y3, y4, rfl, hS1⟩ := hp
      refine ⟨_, rfl, _, rfl, a, ns, _, rfl, hS1, by omega, by omega, fun p H2 np sm hp => ?_⟩
      refine ⟨2, rfl, by decide, by decide, ?_⟩
      refine for_range (fun j σ H' => ∃ y3 y4, σ = [some (.ref a), some (.int (0 + i)), some (.ref p), y3, y4] ∧ Drawn p H2 H') ⟨_, _, rfl, Keep.refl, hp⟩ (fun j σ H3 hj hq => ?_) (fun σ H3 hq => ?_)
      · obtain ⟨z3, z4, rfl, dr⟩ := hq
        refine ⟨_, rfl, p, rfl, dr.pot, fun H4 c xs ds r4 nc ec hc l1 l2 => ?_⟩
        refine ⟨_, rfl, p, _, _, rfl, .tup nc (by omega) ec hc, fun H5 s5 => ⟨true, rfl, iteF ?_⟩⟩
        refine ⟨_, rfl, _, rfl, p, c, xs, ds, rfl, r4.pot.same s5, nc, s5 _ _ ec, hc.same s5, l1, l2, fun H6 v d r6 hv => ?_⟩
        refine ⟨p, v, d, rfl, hv, fun H7 s7 => ?_⟩
        refine ⟨true, rfl, iteF ?_⟩
        exact ⟨_, _, rfl, (((dr.trans r4).same s5).trans r6).same s7⟩
      · obtain ⟨z3, z4, rfl, dr⟩ := hq
        exact ⟨_, _, _, _, rfl, ((Same.keep sm).trans dr.keep).same np |>.seq hS1⟩
    · exact q _
end
end Gj

set_option maxHeartbeats 0
namespace Gj
open PySem PySem.Spec PyProof.Rows L2
open C8 (Cal pe_c pe_gc)
theorem fun_of_funD {K : PySem.W.Frag} {x q : Str} {st : Stmt} {f : Addr} {fd : FuncData} (F : FunD K x q (defArgs st) (defBody st) (defScope st) [] [] f fd) : Fun K x q st f fd := by
  obtain ⟨oc, od, dV, kV, doc, pm, an, cdv, ct, osl, rfl, lk, hcd, hD, hK⟩ := F.ex
  rcases hD with ⟨_, rfl⟩ | ⟨e, _⟩
  · exact ⟨⟨oc, od, kV, doc, pm, an, cdv, ct, osl, rfl, lk, hcd⟩, F.kp⟩
  · exact absurd rfl e
def dd (x : Str) (i : Nat) : He.DefD := ⟨(x, none), x, x, defArgs (topS i), defBody (topS i), defScope (topS i), [], []⟩
def fn : List He.DefD := [dd "_law_digit" 22, dd "_law_pot" 21, dd "_law_name" 23, dd "_law_names" 24, dd "_law_word" 26, dd "_law_whole" 27, dd "is_text_of" 3, dd "is_name" 4, dd "is_word" 5, dd "is_whole" 8, dd "is_pair" 9, dd "is_sort" 10, dd "is_shut" 11, dd "begins" 12, dd "is_letter" 13, dd "is_echo" 14, dd "is_answer" 15, dd "is_goer" 16, dd "is_parcel" 17, dd "is_thing" 18, dd "walker_of" 19, dd "_law_is_name" 29, dd "_law_is_number" 30, dd "_law_is_word" 33, dd "_law_is_pair" 31, dd "_law_is_sort" 32, dd "_law_is_shut" 34, dd "_law_is" 35, dd "_law_thing" 28, dd "_law_odd" 36, dd "_law_spoilt" 37, dd "_law_right" 38, dd "law" 39]
def fa : List He.Fa := [.glo "_law_digit", .glo "_law_pot", .glo "_law_name", .glo "_law_names", .glo "_law_word", .glo "_law_whole", .glo "is_text_of", .glo "is_name", .glo "is_word", .glo "is_whole", .glo "is_pair", .glo "is_sort", .glo "is_shut", .glo "begins", .glo "is_letter", .glo "is_echo", .glo "is_answer", .glo "is_goer", .glo "is_parcel", .glo "is_thing", .glo "walker_of", .glo "_law_is_name", .glo "_law_is_number", .glo "_law_is_word", .glo "_law_is_pair", .glo "_law_is_sort", .glo "_law_is_shut", .glo "_law_is", .glo "_law_thing", .glo "_law_odd", .glo "_law_spoilt", .glo "_law_right", .glo "law", .free "len", .free "isinstance", .free "str", .free "all", .free "max", .free "min", .free "abs", .free "range", .free "int", .free "repr", .free "tuple", .free "bool", .free "set", .free "list", .free "enumerate", .str "LETTERS" sLetters, .str "FIGURES" sFigures, .glo "SORTS"]
def ex (K : PySem.W.Frag) : Bool := He.tupB K "SORTS" [.str "came", .str "short", .str "ask", .str "row"]
abbrev R : PySem.W.OpenRow := PySem.W.OpenLaw.row PySem.Challenge.rw_walkbox_k14_things
abbrev hk : PySem.W.Hook := He.hookX 4 fa fn [] [] ex
def ob (s : PySem.W.SharedT) : He.AlX := He.obsX 4 fa fn [] [] ex (HandSHeadRun.getT s)
theorem ob_eq (s : PySem.W.SharedT) : ob s = hk.obs s.abs := He.obsX_eq (HandSHeadRun.getT_eq s)
def names : List Str := (["LETTERS", "FIGURES", "SORTS", "is_text_of", "is_name", "is_word", "is_whole", "is_pair", "is_sort", "is_shut", "begins", "is_letter"] : List Str) ++ (["is_echo", "is_answer", "is_goer", "is_parcel", "is_thing", "walker_of", "_law_pot", "_law_digit", "_law_name", "_law_names", "_law_rows", "_law_word"] : List Str) ++ (["_law_whole", "_law_thing", "_law_is_name", "_law_is_number", "_law_is_pair", "_law_is_sort", "_law_is_word", "_law_is_shut", "_law_is", "_law_odd", "_law_spoilt", "_law_right"] : List Str)
theorem run (w : World) : HandSHeadRun.RunEq R (PySem.W.view R.prog [39]) hk ob 2000 names w := by
  intro os
  kernel_rfl
theorem facts {P : Program} {w : World} {K : PySem.W.Frag} {h : Heap} {mg : Str → Option Value} {f : Addr} (X : K.In h) (G : h.Ns mainGlobals mg) (hfa : mg ("law" : Str) = some (.ref f)) (c : He.SaysX fa fn [] [] ex w h K) :
    ∃ fd : FuncData, (∀ (s : Shared) (v : Value), BindsTo s fd ⟨[v], []⟩ [("_law_script", v)]) ∧ ∀ base : Heap, K.In base → base.Ns mainGlobals mg → FnOk P w K mg base CX0 8 f fd ["_law_script"] (spLaw K) := by
  obtain ⟨fd, F0⟩ := He.SaysD.defs c.t.d (d := dd "law" 39) (List.mem_of_getElem? (i := 32) rfl)
  have e := hfa.symm.trans (He.glo_ok X G (c.t.d.fact 32 (f := .glo "law") rfl))
  cases e
  have b := FunD.bindsA (ps := ["_law_script"]) F0 fun _ _ _ _ _ _ us hl => match us, hl with | [_], _ => rfl
  have m : Mg mg := ⟨He.free_ok X G (c.t.d.fact 33 rfl), He.free_ok X G (c.t.d.fact 34 rfl), He.free_ok X G (c.t.d.fact 35 rfl), He.free_ok X G (c.t.d.fact 36 rfl), He.free_ok X G (c.t.d.fact 37 rfl), He.free_ok X G (c.t.d.fact 38 rfl), He.free_ok X G (c.t.d.fact 39 rfl), He.free_ok X G (c.t.d.fact 40 rfl), He.free_ok X G (c.t.d.fact 41 rfl), He.free_ok X G (c.t.d.fact 42 rfl), He.free_ok X G (c.t.d.fact 43 rfl), He.free_ok X G (c.t.d.fact 44 rfl), He.free_ok X G (c.t.d.fact 45 rfl), He.free_ok X G (c.t.d.fact 46 rfl), He.free_ok X G (c.t.d.fact 47 rfl)⟩
  have st : ∀ {x z : Str}, (∃ t, mg x = some (.str z t)) → ∃ u, mg x = some u ∧ RelV (.str z) u := fun ⟨t, h⟩ => ⟨_, h, t, rfl⟩
  have gs : Gs K mg := ⟨st (He.str_ok X G (c.t.d.fact 48 rfl)), st (He.str_ok X G (c.t.d.fact 49 rfl)), ⟨_, He.glo_ok X G (c.t.d.fact 50 (f := .glo "SORTS") rfl), fun H => He.tupB_ok c.more H⟩⟩
  have dA : ∀ (i j : Nat) (x : Str) (_ : fn[i]? = some (dd x j)) (_ : fa[i]? = some (.glo x)), DefAt K mg x (topS j) := fun i j x h1 h2 => by
    obtain ⟨fd, F⟩ := He.SaysD.defs c.t.d (List.mem_of_getElem? h1)
    exact ⟨_, fd, fun_of_funD F, He.glo_ok X G (He.SaysD.facts c.t.d (List.mem_of_getElem? h2))⟩
  refine ⟨fd, fun s v => b s [v] rfl, fun base _ _ => ?_⟩
  have c__law_digit := ok__law_digit (P := P) (w := w) (base := base) (dA 0 22 _ rfl rfl)
  have c__law_pot := ok__law_pot (P := P) (w := w) (base := base) (dA 1 21 _ rfl rfl) m
  have c__law_name := ok__law_name (P := P) (w := w) (base := base) (dA 2 23 _ rfl rfl) m c__law_digit
  have c__law_names := ok__law_names (P := P) (w := w) (base := base) (dA 3 24 _ rfl rfl) m c__law_name
  have c__law_word := ok__law_word (P := P) (w := w) (base := base) (dA 4 26 _ rfl rfl) m c__law_digit
  have c__law_whole := ok__law_whole (P := P) (w := w) (base := base) (dA 5 27 _ rfl rfl) c__law_digit
  have c_is_text_of := ok_is_text_of (P := P) (w := w) (base := base) (dA 6 3 _ rfl rfl) m
  have c_is_name := ok_is_name (P := P) (w := w) (base := base) (dA 7 4 _ rfl rfl) gs c_is_text_of
  have c_is_word := ok_is_word (P := P) (w := w) (base := base) (dA 8 5 _ rfl rfl) gs c_is_text_of
  have c_is_whole := ok_is_whole (P := P) (w := w) (base := base) (dA 9 8 _ rfl rfl) m
  have c_is_pair := ok_is_pair (P := P) (w := w) (base := base) (dA 10 9 _ rfl rfl) m c_is_name c_is_whole
  have c_is_sort := ok_is_sort (P := P) (w := w) (base := base) (dA 11 10 _ rfl rfl) gs c_is_name
  have c_is_shut := ok_is_shut (P := P) (w := w) (base := base) (dA 12 11 _ rfl rfl) m c_is_name
  have c_begins := ok_begins (P := P) (w := w) (base := base) (dA 13 12 _ rfl rfl) m c_is_name
  have c_is_letter := ok_is_letter (P := P) (w := w) (base := base) (dA 14 13 _ rfl rfl) c_begins c_is_name c_is_word
  have c_is_echo := ok_is_echo (P := P) (w := w) (base := base) (dA 15 14 _ rfl rfl) c_begins c_is_name c_is_sort c_is_pair
  have c_is_answer := ok_is_answer (P := P) (w := w) (base := base) (dA 16 15 _ rfl rfl) c_begins c_is_name c_is_sort c_is_pair
  have c_is_goer := ok_is_goer (P := P) (w := w) (base := base) (dA 17 16 _ rfl rfl) c_begins c_is_name c_is_whole c_is_shut
  have c_is_parcel := ok_is_parcel (P := P) (w := w) (base := base) (dA 18 17 _ rfl rfl) c_is_letter c_is_echo
  have c_is_thing := ok_is_thing (P := P) (w := w) (base := base) (dA 19 18 _ rfl rfl) c_is_parcel c_is_answer c_is_goer
  have c_walker_of := ok_walker_of (P := P) (w := w) (base := base) (dA 20 19 _ rfl rfl)
  have c__law_is_name := ok__law_is_name (P := P) (w := w) (base := base) (dA 21 29 _ rfl rfl) m
  have c__law_is_number := ok__law_is_number (P := P) (w := w) (base := base) (dA 22 30 _ rfl rfl) m
  have c__law_is_word := ok__law_is_word (P := P) (w := w) (base := base) (dA 23 33 _ rfl rfl) m
  have c__law_is_pair := ok__law_is_pair (P := P) (w := w) (base := base) (dA 24 31 _ rfl rfl) m c__law_is_name c__law_is_number
  have c__law_is_sort := ok__law_is_sort (P := P) (w := w) (base := base) (dA 25 32 _ rfl rfl)
  have c__law_is_shut := ok__law_is_shut (P := P) (w := w) (base := base) (dA 26 34 _ rfl rfl) m c__law_is_name
  have c__law_is := ok__law_is (P := P) (w := w) (base := base) (dA 27 35 _ rfl rfl) m c__law_is_name c__law_is_word c__law_is_number c__law_is_pair c__law_is_sort c__law_is_shut
  have c__law_thing := ok__law_thing (P := P) (w := w) (base := base) (dA 28 28 _ rfl rfl) m c__law_digit c__law_name c__law_names c__law_word c__law_whole
  have c__law_odd := ok__law_odd (P := P) (w := w) (base := base) (dA 29 36 _ rfl rfl) m c__law_digit
  have c__law_spoilt := ok__law_spoilt (P := P) (w := w) (base := base) (dA 30 37 _ rfl rfl) m c__law_digit c__law_odd
  have c__law_right := ok__law_right (P := P) (w := w) (base := base) (dA 31 38 _ rfl rfl) m c__law_is c_is_thing c_is_parcel c_walker_of
  exact ok_law (fun_of_funD F0) m c__law_pot c__law_thing c__law_right c__law_spoilt
end Gj
open PySem PySem.W PySem.Calls PyProof.Rows
theorem PySem.Challenge.cw_walkbox_k14_things_holds : PySem.Challenge.rw_walkbox_k14_things.Holds := by
  w_on; o_law
  refine HandSHeadRun.head_any (r := OpenLaw.row PySem.Challenge.rw_walkbox_k14_things) (q := view (OpenLaw.row PySem.Challenge.rw_walkbox_k14_things).prog [39]) (H := Gj.hk) (ob := Gj.ob) (M := 2000) (loose := Gj.names) (d := HandSHeadRun.topDef (OpenLaw.row PySem.Challenge.rw_walkbox_k14_things).prog 39) (kwd := []) Gj.ob_eq
    (by kernel_rfl) (fun s => by kernel_rfl) Gj.run (by kernel_rfl) (by kernel_rfl) (by kernel_rfl) (by rfl) (by first | assumption | decide +kernel) (by decide +kernel) ⟨rfl, rfl, rfl, rfl, rfl, by decide +kernel⟩ ?hw ?hc
  case hw => w_witness2
  case hc =>
    refine L2.walk_ofE (l := PySem.Challenge.rw_walkbox_k14_things) (n := 63) (k := 8) (x := "_law_script") (CX := L2.CX0) rfl (by decide) (by kernel_rfl) ⟨rfl, by decide, by decide⟩ ?F (fun _ _ _ _ z => z)
    intro w mg fa h Y G hmg0
    obtain ⟨K, KX, c⟩ := Y
    have hmg : mg ("law" : PySem.Str) = some (.ref fa) := by
      have e : (HandSHeadRun.topDef (OpenLaw.row PySem.Challenge.rw_walkbox_k14_things).prog 39).name = ("law" : PySem.Str) := by kernel_rfl
      rw [← e]
      exact hmg0
    obtain ⟨fd, hb, hF⟩ := Gj.facts (P := (PySem.Challenge.rw_walkbox_k14_things).prog) (w := w) KX G hmg c
    exact ⟨K, fd, Gj.spLaw K, KX, hb, fun H a ns hl _ hS => ⟨a, ns, rfl, hS, hl, fun _ => rfl⟩, hF⟩
