import PyProof.Rows.All
import Wide.All
import OpenK.AllK
import Wide.FinOn
import HandS.ForMost
import HandS.Walk
import HandS.Wide
import HandS.IsInst
import HandS.Codes
import HandS.RaiseMore
import PyProof.NeKinds
import HandS.TupAny
import HandS.Deep
import HandS.Strs
import PyProof.ReprRoads
import HandS.HeadEnd
import HandS.Words
import HandS.Defaults
import HandS.MakeKwOnly
import HandS.TupLe
import HandS.FStrTup
import KE.GoesMore
import HandS.Iter
import HandS.Exc
import HandS.ExcInit
import HandS.ExcField
import HandS.ExcIs
import HandS.ExcValue
import HandS.ExcOwn
import HandS.WordsExc
import KE.KExcInit
import KE.KExcIs
import HandS.MakeKw
import HandS.TryOnly
import HandS.OwnEq
import HandS.SetFor
import HandS.SortInts
import HandS.More
import PyProof.ReprLen
import HandS.Evl
import HandS.Zip
import HandS.Head0
import HandS.Head1
import HandS.Head2
import HandS.HeadHook1
import HandS.HeadHook2
import HandS.HeadHook3
import HandS.HeadHook4
import KE.KStateDown
import Lean
import PySem.Challenge.RW_walkbox_k35_whole_shelves_by_numbers
set_option Elab.async false
set_option linter.all false
set_option maxRecDepth 100000
/-! own layer: defs by name, a pot of digits, two further rules -/
namespace Gj
open PySem PySem.Spec PyProof.Rows L2
open C8 (Cal pe_c pe_gc)
/-- the def st stands at the module's name x -/
def DefAt (K : PySem.W.Frag) (mg : Str → Option Value) (x : Str) (st : Stmt) : Prop := ∃ f fd, Fun K x x st f fd ∧ mg x = some (.ref f)
section
variable {P : Program} {w : World} {K : PySem.W.Frag} {mg : Str → Option Value} {base : Heap}
theorem mkCal {x : Str} {st : Stmt} {N ps : List Str} {k : Nat} {sp : Sp} (D : DefAt K mg x st)
    (hb : ∀ (kV doc pm : Value) (an : Option Addr) (cdv ct : Value) (us : List Value), us.length = ps.length → bindArgs (PySem.W.fnOf x x (defArgs st) (defBody st) (defScope st) .none kV doc pm an cdv ct) ⟨us, []⟩ = pure (ps.zip us))
    (S : FnScope N ps (defScope st)) (len : ∀ vs H Q E, sp vs H Q E → vs.length = ps.length)
    (hbody : ∀ (f : Addr) (cdv : Value) (A : Around) (outer : List Env) (s : Shared) (H : Hp) (vs : List V) (Q : VK) (E : XK), Room k (A.deeper (envOfC x (defScope st) s.heap.objs.size f cdv)) → sp vs H Q E →
      ∃ t, PSs (cxOf CX0 P w K mg base N x (defScope st) f cdv A outer s H E).nox (defBody st) t ∧ t { nx := fun _ H' => Q .non H', rt := Q } (start N vs) H) : C8.Cal P w K mg base (k + 1) x sp [] := by
  obtain ⟨f, fd, F, g⟩ := D
  exact ⟨f, fd, ps, [], F.ok S len (hbody f), g, F.kp, F.binds hb, .nil⟩
end
/-! ### two rules -/
section
variable {X : Cx}
theorem call_repr_bool : CallR X (.builtin "repr") (fun xs H Q => ∃ b, xs = [.bl b] ∧ Q (.str (if b then "True" else "False")) H) := by
  intro pins s σ H xs us Q I r h
  obtain ⟨b, rfl, q⟩ := h
  obtain ⟨u, rfl, rfl⟩ := vals1 r
  exact PySem.P.repr_of_bool ⟨.str _, H, I.tok _, ⟨_, rfl⟩, q⟩
theorem op_mul_str : OpR X (binaryOp .Mult) (fun x y H Q => ∃ z n, x = .str z ∧ y = .int n ∧ MulOk z n ∧ Q (.str (Txt.mul z n)) H) := by
  intro pins s σ H x y v u Q I rx ry h
  obtain ⟨z, n, rfl, rfl, hz, q⟩ := h
  obtain ⟨t, rfl⟩ := rx
  obtain ⟨t', rfl⟩ := ry
  exact PySem.SB.mul hz fun t' k => ⟨.str _, H, I.tok _, ⟨_, rfl⟩, q⟩
end
/-! ### heaps but for one place -/
def Keep (p : Addr) (H H' : Hp) : Prop := ∀ b o, b ≠ p → H b = some o → H' b = some o
theorem Keep.refl {p : Addr} {H : Hp} : Keep p H H := fun _ _ _ h => h
theorem Keep.trans {p : Addr} {H H1 H2 : Hp} (a : Keep p H H1) (b : Keep p H1 H2) : Keep p H H2 := fun c o n h => b c o n (a c o n h)
theorem Keep.here {p : Addr} {H : Hp} {o : HO} : Keep p H (upd H p o) := fun b x n e => by rw [upd_ne n]; exact e
theorem Same.keep {p : Addr} {H H' : Hp} (a : Same H H') : Keep p H H' := fun b o _ h => a b o h
theorem same_new {H : Hp} {p : Addr} {o : HO} (h : H p = none) : Same H (upd H p o) := fun b x e => by rw [upd_ne (ne_of_none e h)]; exact e
theorem Keep.new {p q : Addr} {H : Hp} {o : HO} (h : H q = none) : Keep p H (upd H q o) := Same.keep (same_new h)
/-! ### a pot of digits -/
def Pot (H : Hp) (p : Addr) : Prop := ∃ (a : Int) (b : Int × Int), H p = some (.lst [.int a, .int b.1, .int b.2]) ∧ 0 ≤ a ∧ 0 ≤ b.1 ∧ b.1 < 4294967296
theorem Pot.new {H : Hp} {p q : Addr} {o : HO} (h : Pot H p) (n : H q = none) : Pot (upd H q o) p := by
  obtain ⟨a, b, e, r⟩ := h
  exact ⟨a, b, by rw [upd_ne (ne_of_none e n)]; exact e, r⟩
theorem Pot.ne {H : Hp} {p q : Addr} (h : Pot H p) (n : H q = none) : q ≠ p := by
  obtain ⟨a, b, e, r⟩ := h
  exact (ne_of_none e n).symm
theorem Pot.put {H : Hp} {p : Addr} {a b c : Int} (h0 : 0 ≤ a) (h1 : 0 ≤ b) (h2 : b < 4294967296) : Pot (upd H p (.lst [.int a, .int b, .int c])) p := ⟨a, (b, c), upd_same, h0, h1, h2⟩
/-- what a def that draws of a pot leaves: the pot, and all else as it was -/
structure Drawn (p : Addr) (H H' : Hp) : Prop where
  keep : Keep p H H'
  pot : Pot H' p
theorem Drawn.trans {p : Addr} {H H1 H2 : Hp} (a : Drawn p H H1) (b : Drawn p H1 H2) : Drawn p H H2 := ⟨a.keep.trans b.keep, b.pot⟩
theorem Drawn.new {p q : Addr} {H H' : Hp} {o : HO} (a : Drawn p H H') (h : H' q = none) : Drawn p H (upd H' q o) := ⟨a.keep.trans (Keep.new h), a.pot.new h⟩
def spDigit : Sp := fun vs H Q _ => ∃ (p : Addr) (n : Int), vs = [.ref p, .int n] ∧ Pot H p ∧ 0 < n ∧ n.natAbs.log2 < 9000 ∧ ∀ (d : Int) (H' : Hp), 0 ≤ d → d < n → Drawn p H H' → Q (.int d) H'
def spPot (K : PySem.W.Frag) : Sp := fun vs H Q _ => ∃ (a : Addr) (ns : List Int) (k : Int), vs = [.ref a, .int k] ∧ SqL K H a (ns.map V.int) ∧ 0 ≤ k ∧ k ≤ 1000000 ∧ ∀ (p : Addr) (H' : Hp), H p = none → Same H H' → Pot H' p → Q (.ref p) H'
end Gj

namespace Gj
open PySem PySem.Spec PyProof.Rows L2
open C8 (Cal pe_c pe_gc)
theorem at_some {α : Type} {xs : List α} {d : Int} (h0 : 0 ≤ d) (h1 : d < xs.length) : ∃ x, x ∈ xs ∧ atI xs d = some x := by
  have h : d.toNat < xs.length := by omega
  exact ⟨xs[d.toNat], List.getElem_mem h, at_of' h0 h⟩
where
  at_of' {α : Type} {xs : List α} {d : Int} (h0 : 0 ≤ d) (h : d.toNat < xs.length) : atI xs d = some xs[d.toNat] := by
    have e : d = (d.toNat : Int) := by omega
    have g : xs[d.toNat]? = some xs[d.toNat] := List.getElem?_eq_getElem h
    have := atI_nat g
    rw [← e] at this
    exact this
theorem take_snoc {α : Type} {l : List α} {i : Nat} {x : α} (h : l[i]? = some x) : l.take (i + 1) = l.take i ++ [x] := by
  rw [List.take_add_one, h]
  rfl
theorem Keep.same {p : Addr} {H H' : Hp} (h : Keep p H H') (n : H p = none) : Same H H' := fun b o e => h b o (ne_of_none e n) e
theorem Pot.same {H H' : Hp} {p : Addr} (h : Pot H p) (s : Same H H') : Pot H' p := by
  obtain ⟨a, b, e, r⟩ := h
  exact ⟨a, b, s _ _ e, r⟩
theorem Drawn.same {p : Addr} {H H' H2 : Hp} (a : Drawn p H H') (s : Same H' H2) : Drawn p H H2 := ⟨a.keep.trans (Same.keep s), a.pot.same s⟩
/-! ### a comprehension that draws signs, joined -/
theorem joinL_ones : ∀ l : List Nat, TL.joinL [] (l.map fun c => [c]) = l
  | [] => rfl
  | [_] => rfl
  | a :: b :: r => by
    show [a] ++ ([] ++ TL.joinL [] ((b :: r).map fun c => [c])) = a :: b :: r
    rw [joinL_ones (b :: r)]
    rfl
theorem join_signs (cs : List Nat) : Txt.join "" (cs.map fun c => SX.S [c]) = SX.S cs := by
  have e1 : (cs.map fun c => SX.S [c]) = (cs.map fun c => [c]).map SX.S := by rw [List.map_map]; rfl
  rw [e1, show ("" : Str) = SX.S [] from rfl, SX.join_S, joinL_ones]
/-- i signs of the kind G are drawn into the list at D -/
def Signs (G : Nat → Prop) (p D : Addr) (H : Hp) (i : Nat) (H' : Hp) : Prop := ∃ cs : List Nat, cs.length = i ∧ (∀ c ∈ cs, G c) ∧ Drawn p H H' ∧ D ≠ p ∧ H' D = some (.lst (cs.map fun c => V.str (SX.S [c])))
theorem Signs.start {G : Nat → Prop} {p D : Addr} {H : Hp} (hp : Pot H p) (hD : H D = none) : Signs G p D H 0 (upd H D (.lst [])) := ⟨[], rfl, (fun _ h => by cases h), ⟨Keep.new hD, hp.new hD⟩, hp.ne hD, upd_same⟩
theorem Signs.pot {G : Nat → Prop} {p D : Addr} {H H' : Hp} {i : Nat} (h : Signs G p D H i H') : Pot H' p := by
  obtain ⟨_, _, _, d, _⟩ := h
  exact d.pot
theorem Signs.next {G : Nat → Prop} {p D : Addr} {H H1 H2 : Hp} {i n : Nat} {c : Nat} (hi : i < n) (hn : n ≤ 1000) (hs : Signs G p D H i H1) (hD : H D = none) (r : Drawn p H1 H2) (hc : G c) :
    ∃ acc, H2 D = some (.lst acc) ∧ acc.length < sizeLine ∧ Signs G p D H (i + 1) (upd H2 D (.lst (acc ++ [.str ⟨#[c]⟩]))) := by
  obtain ⟨cs, hl, hg, dr, ne, e⟩ := hs
  refine ⟨_, r.keep _ _ ne e, ?_, cs ++ [c], ?_, ?_, ⟨fun b o nb eb => ?_, ?_⟩, ne, ?_⟩
  · rw [List.length_map]
    exact small1000 (by omega)
  · rw [List.length_append, hl]
    rfl
  · intro x hx
    rcases List.mem_append.mp hx with h | h
    · exact hg x h
    · rw [List.mem_singleton.mp h]
      exact hc
  · rw [upd_ne (ne_of_none eb hD)]
    exact r.keep _ _ nb (dr.keep _ _ nb eb)
  · obtain ⟨a, b, e2, z⟩ := r.pot
    exact ⟨a, b, by rw [upd_ne ne.symm]; exact e2, z⟩
  · rw [upd_same, List.map_append]
    rfl
theorem Signs.join {G : Nat → Prop} {p D : Addr} {H H1 : Hp} {n : Nat} (hn : n ≤ 1000) (hs : Signs G p D H n H1) :
    ∃ (cs : List Nat) (ys : List Str), cs.length = n ∧ (∀ c ∈ cs, G c) ∧ Drawn p H H1 ∧ H1 D = some (.lst (ys.map V.str)) ∧ (ys.map (·.length)).sum + ys.length * (PySem.Str.ofString "").length ≤ 16777216 ∧ Txt.join "" ys = SX.S cs := by
  obtain ⟨cs, hl, hg, dr, ne, e⟩ := hs
  have e2 : ((cs.map fun c => SX.S [c]).map (·.length)).sum = cs.length := by
    clear e dr hl hg
    induction cs with
    | nil => rfl
    | cons x l ih =>
      rw [List.map_cons, List.map_cons, List.sum_cons, ih, List.length_cons]
      show 1 + l.length = l.length + 1
      omega
  refine ⟨cs, cs.map fun c => SX.S [c], hl, hg, dr, ?_, ?_, join_signs cs⟩
  · rw [e, List.map_map]
    rfl
  · rw [e2]
    have : (PySem.Str.ofString "").length = 0 := rfl
    rw [this]
    omega
end Gj

/-! own layer: names by a pot -/
namespace Gj
open PySem PySem.Spec PyProof.Rows L2
open C8 (Cal pe_c pe_gc)
section
variable {X : Cx}
/-- xs != [], t != () -/
def rNeE (K : PySem.W.Frag) : R2 := fun x y H Q => ∃ (a b : Addr) (xs : List V), x = .ref a ∧ y = .ref b ∧ ((SqL K H a xs ∧ SqL K H b []) ∨ (SqT K H a xs ∧ SqT K H b [])) ∧ Q (.bl (!xs.isEmpty)) H
theorem op_neE (hu : X.A.units + 64 < cLine) : OpR X (compareOp .NotEq) (rNeE X.K) := by
  intro pins s σ H x y v u Q I rx ry h
  obtain ⟨a, b, xs, rfl, rfl, hq, q⟩ := h
  cases rx
  cases ry
  have hu0 : X.A.units < cLine := by omega
  rcases hq with ⟨h1, h2⟩ | ⟨h1, h2⟩
  · obtain ⟨its, r1, p1, _⟩ := I.list h1
    obtain ⟨ks, r2, p2, _⟩ := I.list h2
    cases r2
    cases xs with
    | nil =>
      cases r1
      exact SeqAt.RcNeAt.lists (e := fun _ => true) p1.isList p2.isList rfl hu0 (fun j h1 h2 => absurd h1 (Nat.not_lt_zero _)) X.prog X.w _ _ ⟨.bl _, H, I, rfl, q⟩
    | cons z l =>
      cases r1
      exact SeqAt.RcNeAt.lists_lengths p1.isList p2.isList (by simp) hu0 X.prog X.w _ _ ⟨.bl _, H, I, rfl, q⟩
  · obtain ⟨its, r1, p1, _⟩ := I.tuple h1
    obtain ⟨ks, r2, p2, _⟩ := I.tuple h2
    cases r2
    have := SeqAt.RcNeAt.tuples (A := X.A) (e := fun _ => true) p1 p2 hu0 (fun j h1 h2 => absurd h2 (Nat.not_lt_zero _)) X.prog X.w X.xe (EP X pins σ Q)
    refine this ⟨.bl _, H, I, ?_, q⟩
    cases xs with
    | nil =>
      cases r1
      rfl
    | cons z l =>
      cases r1
      simp
      rfl
end
/-! ### names -/
abbrev ltrs : List Nat := (PySem.Str.ofString "abcdefghijklmnopqrstuvwxyz").cps.toList
structure NameS (z : Str) : Prop where
  ex : ∃ cs : List Nat, z = SX.S cs ∧ 1 ≤ cs.length ∧ cs.length ≤ 8 ∧ ∀ c ∈ cs, c ∈ ltrs
theorem NameS.len {z : Str} (h : NameS z) : z.length ≤ 8 := by
  obtain ⟨cs, rfl, h1, h2, _⟩ := h.ex
  rw [SX.S_len]
  exact h2
theorem NameS.small {z : Str} (h : NameS z) : z.length ≤ 1000 := Nat.le_trans h.len (by decide)
theorem name_one {c : Nat} (h : c ∈ ltrs) : NameS (SX.S [c]) := ⟨[c], rfl, Nat.le_refl _, (by show 1 ≤ 8; decide), fun x hx => by rw [List.mem_singleton.mp hx]; exact h⟩
/-- a list without doubles within another one -/
theorem nodup_le {α : Type} [DecidableEq α] : ∀ (l D : List α), l.Nodup → (∀ x ∈ l, x ∈ D) → l.length ≤ D.length
  | [], _, _, _ => Nat.zero_le _
  | x :: l, D, hn, hs => by
    obtain ⟨h1, h2⟩ := List.nodup_cons.mp hn
    have hx : x ∈ D := hs x List.mem_cons_self
    have ih := nodup_le l (D.erase x) h2 fun y hy => (List.mem_erase_of_ne (fun e : y = x => h1 (e ▸ hy))).mpr (hs y (List.mem_cons_of_mem _ hy))
    have e := List.length_erase_of_mem hx
    have hp := List.length_pos_of_mem hx
    rw [List.length_cons]
    omega
theorem fresh_letter {us : List Str} (h : us.length ≤ 25) : ∃ c ∈ ltrs, SX.S [c] ∉ us := by
  rcases Classical.em (∃ c ∈ ltrs, SX.S [c] ∉ us) with q | q
  · exact q
  · exfalso
    have sub : ∀ z ∈ ltrs.map (fun c => SX.S [c]), z ∈ us := fun z hz => by
      obtain ⟨c, hc, rfl⟩ := List.mem_map.mp hz
      rcases Classical.em (SX.S [c] ∈ us) with k | k
      · exact k
      · exact absurd ⟨c, hc, k⟩ q
    have nd : (ltrs.map fun c => SX.S [c]).Nodup := by decide +kernel
    have := nodup_le _ us nd sub
    rw [List.length_map] at this
    have e : ltrs.length = 26 := by decide +kernel
    omega
def spName : Sp := fun vs H Q _ => ∃ (p u : Addr) (us : List Str), vs = [.ref p, .ref u] ∧ Pot H p ∧ u ≠ p ∧ H u = some (.lst (us.map V.str)) ∧ (∀ z ∈ us, NameS z) ∧ us.length ≤ 25 ∧ ∀ (z : Str) (H' : Hp), NameS z → z ∉ us → Drawn p H H' → Q (.str z) H'
def spNames : Sp := fun vs H Q _ => ∃ (p u : Addr) (us : List Str) (n : Nat), vs = [.ref p, .int (n : Nat), .ref u] ∧ Pot H p ∧ u ≠ p ∧ H u = some (.lst (us.map V.str)) ∧ (∀ z ∈ us, NameS z) ∧ us.length + n ≤ 25 ∧
  ∀ (q : Addr) (zs : List Str) (H' : Hp), H q = none → q ≠ p → zs.length = n → (∀ z ∈ zs, NameS z) → zs.Nodup → (∀ z ∈ zs, z ∉ us) → Drawn p H H' → H' q = some (.lst (zs.map V.str)) → Q (.ref q) H'
/-! ### words -/
abbrev wrds : List Nat := (PySem.Str.ofString "abcdefghijklmnopqrstuvwxyz0123456789").cps.toList
structure WordS (z : Str) : Prop where
  ex : ∃ cs : List Nat, z = SX.S cs ∧ 1 ≤ cs.length ∧ cs.length ≤ 12 ∧ ∀ c ∈ cs, c ∈ wrds
theorem WordS.small {z : Str} (h : WordS z) : z.length ≤ 1000 := by
  obtain ⟨cs, rfl, h1, h2, _⟩ := h.ex
  rw [SX.S_len]
  omega
def spWord : Sp := fun vs H Q _ => ∃ (p : Addr), vs = [.ref p] ∧ Pot H p ∧ ∀ (z : Str) (H' : Hp), WordS z → Drawn p H H' → Q (.str z) H'
def spWhole : Sp := fun vs H Q _ => ∃ (p : Addr) (n : Int), vs = [.ref p, .int n] ∧ Pot H p ∧ ∀ (i : Int) (H' : Hp), n ≤ i → i < n + 10 ^ 30 → Drawn p H H' → Q (.int i) H'
theorem inV_strs {z : Str} {us : List Str} : inV (.str z) (us.map V.str) = decide (z ∈ us) := by
  induction us with
  | nil => rfl
  | cons y l ih =>
    show (eqV (.str y) (.str z) || inV (.str z) (l.map V.str)) = _
    rw [ih]
    show ((y == z) || decide (z ∈ l)) = decide (z ∈ y :: l)
    by_cases e : z = y
    · subst e
      rw [beq_self_eq_true, decide_eq_true (List.mem_cons_self)]
      rfl
    · rw [beq_eq_false_iff_ne.mpr fun h => e h.symm]
      by_cases h : z ∈ l
      · rw [decide_eq_true h, decide_eq_true (List.mem_cons_of_mem _ h)]
        rfl
      · rw [decide_eq_false h, decide_eq_false fun q => (List.mem_cons.mp q).elim e h]
        rfl
theorem flat_strs (us : List Str) : (us.map V.str).all flatV = true := by
  induction us with
  | nil => rfl
  | cons y l ih => exact ih
end Gj

namespace Gj
open PySem PySem.Spec PyProof.Rows L2
open C8 (Cal pe_c pe_gc)
def topS (i : Nat) : Stmt := PySem.Challenge.pw_walkbox_k35_whole_shelves_by_numbers.main.body.getD i (.Pass ⟨0, 0, 0, 0⟩)
structure Mg (mg : Str → Option Value) : Prop where
  len : mg "len" = none
  isinstance : mg "isinstance" = none
  repr : mg "repr" = none
  max : mg "max" = none
  min : mg "min" = none
  range : mg "range" = none
  list : mg "list" = none
  set : mg "set" = none
  sorted : mg "sorted" = none
  enumerate : mg "enumerate" = none
  zip : mg "zip" = none
  all : mg "all" = none
  divmod : mg "divmod" = none
def spTake : Sp := fun vs H Q _ => ∃ (p : Addr) (n : Int), vs = [.ref p, .int n] ∧ Pot H p ∧ 0 < n ∧ n < 1073741824 ∧ ∀ (d : Int) (H' : Hp), 0 ≤ d → d < n → Drawn p H H' → Q (.int d) H'
def spPick (K : PySem.W.Frag) : Sp := fun vs H Q _ => ∃ (p a : Addr) (xs : List V), vs = [.ref p, .ref a] ∧ Pot H p ∧ a ≠ p ∧ H a = some (.lst xs) ∧ 0 < xs.length ∧ xs.length ≤ 1000 ∧ ∀ (k : Nat) (x : V) (H' : Hp), xs[k]? = some x → Drawn p H H' → Q x H'
section
variable {P : Program} {w : World} {K : PySem.W.Frag} {mg : Str → Option Value} {base : Heap}
theorem sc__law_take : FnScope ["_law_pot_here", "_law_many", "_law_digit"] ["_law_pot_here", "_law_many"] (defScope (topS 5)) := ⟨rfl, rfl, rfl, by decide +kernel, rfl, by decide +kernel, by decide +kernel⟩
theorem ok__law_take (D : DefAt K mg "_law_take" (topS 5)) (m : Mg mg) : Cal P w K mg base 1 "_law_take" spTake [] := by
  have sc := sc__law_take
  refine mkCal D (fun _ _ _ _ _ _ us hl => match us, hl with | [_, _], _ => rfl) sc (fun vs H Q E h => ?_) (fun f cdv A outer s H vs Q E hr h => ?_)
  · obtain ⟨p, n, rfl, _⟩ := h
    rfl
  · obtain ⟨p, n, rfl, ⟨a, ⟨b, c⟩, ep, ha, hb, hb2⟩, hn, hn2, q⟩ := h
    refine ⟨_, (pss_cons (ps_if (pt_cmpR op_gt (pe_ix ix_list (pv 0) pe_int (fun _ _ => rfl)) pe_int (nomark _))
  (pss_cons (ps_asg (pe_callB call_divmod (by rfl) m.divmod (by decide +kernel) (pa_cons (pe_ix ix_list (pv 0) pe_int (fun _ _ => rfl)) (pa_cons (pv 1) pa_nil))) (pg_tup (by rfl) (pgs_cons (pg_sub (pv 0) pe_int set_list) (pgs_cons (pg_name (i := 2) sc.nd rfl (.inl rfl)) pgs_nil))))
  (pss_one (ps_ret (pv 2))))
  pss_nil)
  (pss_cons (ps_asg (pe_op op_add (pe_ix ix_list (pv 0) pe_int (fun _ _ => rfl)) pe_int) (pg_sub (pv 0) pe_int set_list))
  (pss_cons (ps_asg (pe_op op_mod (pe_op op_add (pe_op op_mul (pe_ix ix_list (pv 0) pe_int (fun _ _ => rfl)) pe_int) (pe_op op_mul pe_int (pe_ix ix_list (pv 0) pe_int (fun _ _ => rfl)))) pe_int) (pg_sub (pv 0) pe_int set_list))
  (pss_one (ps_ret (pe_op op_mod (pe_op op_fdivW (pe_op op_mod (pe_op op_mul (pe_ix ix_list (pv 0) pe_int (fun _ _ => rfl)) (pe_ix ix_list (pv 0) pe_int (fun _ _ => rfl))) pe_int) pe_int) (pv 1))))))), ?_⟩
    have g0 : ∀ {x y z : V}, atI [x, y, z] 0 = some x := fun {x y z} => rfl
    have g1 : ∀ {x y z : V}, atI [x, y, z] 1 = some y := fun {x y z} => rfl
    have g2 : ∀ {x y z : V}, atI [x, y, z] 2 = some z := fun {x y z} => rfl
    refine ⟨_, rfl, p, _, 0, _, rfl, rfl, SqL.of ep, g0, _, _, rfl, rfl, _, rfl, ite2 (fun ca => ?_) (fun ca => ?_)⟩
    · have ca : 0 < a := of_decide_eq_true ca
      refine ⟨_, rfl, p, _, 0, _, rfl, rfl, SqL.of ep, g0, _, rfl, _, _, rfl, ⟨hn, hn2⟩, fun t ht => ?_⟩
      have nt : t ≠ p := (ne_of_none ep ht).symm
      have ep2 : (upd H t (.tup [.int (a / n), .int (a % n)])) p = some (.lst [.int a, .int b, .int c]) := by rw [upd_ne nt.symm]; exact ep
      refine ⟨t, _, rfl, SqT.of upd_same, rfl, _, _, rfl, ?_⟩
      refine ⟨_, rfl, p, _, 0, 0, rfl, rfl, ep2, rfl, ?_⟩
      refine ⟨_, _, rfl, rfl, _, rfl, ?_⟩
      exact q _ _ (Int.emod_nonneg _ (by omega)) (Int.emod_lt_of_pos _ hn) ⟨fun b o nb e => by rw [upd_ne nb, upd_ne (ne_of_none e ht)]; exact e, Pot.put (Int.ediv_nonneg ha (by omega)) hb hb2⟩
    · refine ⟨_, rfl, p, _, 2, _, rfl, rfl, SqL.of ep, g2, _, _, rfl, rfl, ?_⟩
      refine ⟨_, rfl, p, _, 2, 2, rfl, rfl, ep, rfl, ?_⟩
      refine ⟨_, rfl, p, _, 1, _, rfl, rfl, SqL.of upd_same, g1, _, _, rfl, rfl, .inl ⟨by omega, by omega⟩, _, rfl, p, _, 2, _, rfl, rfl, SqL.of upd_same, g2, _, _, rfl, rfl, .inl ⟨by decide, by decide⟩, _, _, rfl, rfl, _, _, rfl, rfl, (by decide : (0 : Int) < 2147483629), ?_⟩
      have h1 : 0 ≤ (b * 69621 + 15487 * (c + 1)) % 2147483629 := Int.emod_nonneg _ (by decide)
      have h2 : (b * 69621 + 15487 * (c + 1)) % 2147483629 < 2147483629 := Int.emod_lt_of_pos _ (by decide)
      refine ⟨_, rfl, p, _, 1, 1, rfl, rfl, upd_same, rfl, ?_⟩
      refine ⟨_, rfl, p, _, 1, _, rfl, rfl, SqL.of upd_same, g1, _, rfl, p, _, 1, _, rfl, rfl, SqL.of upd_same, g1, _, _, rfl, rfl, .inl ⟨by omega, by omega⟩, _, _, rfl, rfl, (by decide : (0 : Int) < 2147483563), _, _, rfl, rfl, ⟨by decide, by decide⟩, _, rfl, _, _, rfl, rfl, hn, ?_⟩
      exact q _ _ (Int.emod_nonneg _ (by omega)) (Int.emod_lt_of_pos _ hn) ⟨fun b o nb e => by rw [upd_ne nb, upd_ne nb]; exact e, Pot.put ha h1 (by omega)⟩
theorem sc__law_pot : FnScope ["_law_script", "_law_k", "_law_cell"] ["_law_script", "_law_k"] (defScope (topS 4)) := ⟨rfl, rfl, rfl, by decide +kernel, rfl, by decide +kernel, by decide +kernel⟩
theorem ok__law_pot (D : DefAt K mg "_law_pot" (topS 4)) (m : Mg mg) : Cal P w K mg base 1 "_law_pot" (spPot K) [] := by
  have sc := sc__law_pot
  refine mkCal D (fun _ _ _ _ _ _ us hl => match us, hl with | [_, _], _ => rfl) sc (fun vs H Q E h => ?_) (fun f cdv A outer s H vs Q E hr h => ?_)
  · obtain ⟨a, ns, k, rfl, _⟩ := h
    rfl
  · obtain ⟨a, ns, k, rfl, hS, hk, hk2, q⟩ := h
    refine ⟨_, (pss_cons (ps_set (i := 2) sc.nd rfl (.inl rfl) (pe_ifExp (pt_cmpR op_lt (pv 1) (pe_callB call_len (by rfl) m.len (by decide +kernel) (pa_cons (pv 0) pa_nil)) (nomark _)) (pe_ix ix_list (pv 0) (pv 1) (fun _ _ => rfl)) pe_int))
  (pss_one (ps_ret (pe_lst (pa_cons (pe_callB (call_max2 rfl) (by rfl) m.max (by decide +kernel) (pa_cons pe_int (pa_cons (pe_op op_sub (pv 2) (pe_op op_pow pe_int pe_int)) pa_nil))) (pa_cons (pe_op op_mod (pe_op op_pow (pe_op op_add (pe_op op_mul (pe_op op_mod (pv 2) pe_int) pe_int) (pe_op op_mul pe_int (pe_op op_add (pv 1) pe_int))) pe_int) pe_int) (pa_cons pe_int pa_nil))))))), ?_⟩
    have c18 : CPow 10 18 := ⟨by decide, by decide, by decide⟩
    refine ⟨_, rfl, _, rfl, _, _, rfl, .inl ⟨_, hS, rfl⟩, _, _, rfl, rfl, _, rfl, ite2 (fun c => ?_) (fun c => ?_)⟩
    · have c : k < ((ns.map V.int).length : Int) := of_decide_eq_true c
      have hi : k.toNat < ns.length := by rw [List.length_map] at c; omega
      have g : atI (ns.map V.int) k = some (.int ns[k.toNat]) := at_of (j := k.toNat) (by omega) (by rw [List.getElem?_map, List.getElem?_eq_getElem hi]; rfl)
      generalize ns[k.toNat] = x at g
      have b1 := Int.emod_nonneg x (show (2147483629 : Int) ≠ 0 by decide)
      have b2 := Int.emod_lt_of_pos x (show (0 : Int) < 2147483629 by decide)
      refine ⟨_, rfl, _, rfl, a, _, k, _, rfl, rfl, hS, g, ?_⟩
      refine ⟨_, rfl, _, _, rfl, rfl, c18, _, _, rfl, rfl, _, _, rfl, _, rfl, _, _, rfl, rfl, (by decide : (0 : Int) < 2147483629), _, _, rfl, rfl, .inl ⟨by omega, by omega⟩, _, rfl, _, _, rfl, rfl, _, _, rfl, rfl, .inl ⟨by decide, by decide⟩, _, _, rfl, rfl, _, _, rfl, rfl, ⟨by decide, by decide, by omega⟩, _, _, rfl, rfl, (by decide : (0 : Int) < 2147483587), (by show 3 ≤ sizeLine; decide), fun p hp => q p _ hp (same_new hp) ⟨_, (_, _), upd_same, ?_, Int.emod_nonneg _ (by decide), by have := Int.emod_lt_of_pos ((x % 2147483629 * 48271 + 60337 * (k + 1)) ^ (3 : Int).toNat) (show (0 : Int) < 2147483587 by decide); omega⟩⟩
      split <;> omega
    · have b1 : (0 : Int) % 2147483629 = 0 := by decide
      refine ⟨_, rfl, _, _, rfl, rfl, c18, _, _, rfl, rfl, _, _, rfl, _, rfl, _, _, rfl, rfl, (by decide : (0 : Int) < 2147483629), _, _, rfl, rfl, .inl ⟨by omega, by omega⟩, _, rfl, _, _, rfl, rfl, _, _, rfl, rfl, .inl ⟨by decide, by decide⟩, _, _, rfl, rfl, _, _, rfl, rfl, ⟨by decide, by decide, by omega⟩, _, _, rfl, rfl, (by decide : (0 : Int) < 2147483587), (by show 3 ≤ sizeLine; decide), fun p hp => q p _ hp (same_new hp) ⟨_, (_, _), upd_same, ?_, Int.emod_nonneg _ (by decide), by have := Int.emod_lt_of_pos ((0 % 2147483629 * 48271 + 60337 * (k + 1)) ^ (3 : Int).toNat) (show (0 : Int) < 2147483587 by decide); omega⟩⟩
      split <;> omega
theorem sc__law_pick : FnScope ["_law_pot_here", "_law_some"] ["_law_pot_here", "_law_some"] (defScope (topS 6)) := ⟨rfl, rfl, rfl, by decide +kernel, rfl, by decide +kernel, by decide +kernel⟩
theorem ok__law_pick (D : DefAt K mg "_law_pick" (topS 6)) (m : Mg mg) (c__law_take : Cal P w K mg base 1 "_law_take" spTake []) : Cal P w K mg base 2 "_law_pick" (spPick K) [] := by
  have sc := sc__law_pick
  refine mkCal D (fun _ _ _ _ _ _ us hl => match us, hl with | [_, _], _ => rfl) sc (fun vs H Q E h => ?_) (fun f cdv A outer s H vs Q E hr h => ?_)
  · obtain ⟨p, a, xs, rfl, _⟩ := h
    rfl
  · obtain ⟨p, a, xs, rfl, hp, na, ha, h0, h1, q⟩ := h
    refine ⟨_, (pss_one (ps_ret (pe_ix ix_list (pv 1) (pe_c c__law_take hr (by decide) (by rfl) (pa_cons (pv 0) (pa_cons (pe_callB call_len (by rfl) m.len (by decide +kernel) (pa_cons (pv 1) pa_nil)) pa_nil))) (fun _ _ => rfl)))), ?_⟩
    refine ⟨_, rfl, _, rfl, _, rfl, _, _, rfl, .inl ⟨_, SqL.of ha, rfl⟩, p, _, rfl, hp, by omega, by omega, fun d H1 d0 d1 r1 => ?_⟩
    obtain ⟨k, rfl⟩ := Int.eq_ofNat_of_zero_le d0
    have hk : xs[k]? = some (xs[k]'(by omega)) := List.getElem?_eq_getElem _
    exact ⟨a, _, _, _, rfl, rfl, SqL.of (r1.keep _ _ na ha), atI_nat hk, q _ _ _ hk r1⟩
end
end Gj

namespace Gj
open PySem PySem.Spec PyProof.Rows L2
open C8 (Cal pe_c pe_gc)
section
variable {P : Program} {w : World} {K : PySem.W.Frag} {mg : Str → Option Value} {base : Heap}
theorem sc__law_name : FnScope ["_law_pot_here", "_law_taken_here", "_law_letters", "_law_many", "_law_tag", "_law_k", "_law_letter"] ["_law_pot_here", "_law_taken_here"] (defScope (topS 7)) := ⟨rfl, rfl, rfl, by decide +kernel, rfl, by decide +kernel, by decide +kernel⟩
theorem ok__law_name (D : DefAt K mg "_law_name" (topS 7)) (m : Mg mg) (c__law_take : Cal P w K mg base 1 "_law_take" spTake []) : Cal P w K mg base 2 "_law_name" spName [] := by
  have sc := sc__law_name
  refine mkCal D (fun _ _ _ _ _ _ us hl => match us, hl with | [_, _], _ => rfl) sc (fun vs H Q E h => ?_) (fun f cdv A outer s H vs Q E hr h => ?_)
  · obtain ⟨p, u, us, rfl, _⟩ := h
    rfl
  · obtain ⟨p, u, us, rfl, hp, nu, eu, hus, hl, q⟩ := h
    refine ⟨_, (pss_cons (ps_set (i := 2) sc.nd rfl (.inr rfl) pe_str)
  (pss_cons (ps_set (i := 3) sc.nd rfl (.inl rfl) (pe_ix ix_list (pe_lst (pa_cons pe_int (pa_cons pe_int (pa_cons pe_int (pa_cons pe_int pa_nil))))) (pe_c c__law_take hr (by decide) (by rfl) (pa_cons (pv 0) (pa_cons pe_int pa_nil))) (fun _ _ => rfl)))
  (pss_cons (ps_set (i := 4) sc.nd rfl (.inl rfl) (pe_join pe_str (pe_lc (own := [("_law_k", 5)]) (g := gName 5) (tt := tYes) rfl sc.nd (pi_range1 (by rfl) m.range (pa_cons (pv 3) pa_nil)) (blkOk_by (N := ["_law_pot_here", "_law_taken_here", "_law_letters", "_law_many", "_law_tag", "_law_k", "_law_letter"]) (sc := defScope (topS 7)) (by decide +kernel)) (fun _ _ _ _ _ => (pg_name (i := 5) sc.nd rfl (.inl rfl))) (fun _ _ _ _ _ => pts_nil) (fun _ _ _ _ _ => (pe_ix ix_str (pv 2) (pe_c c__law_take hr (by decide) (by rfl) (pa_cons (pv 0) (pa_cons pe_int pa_nil))) (fun _ _ => rfl))))))
  (C8.pss_cut (ps_if (PW.pt (pw_and (pt_cmpR (op_neE hr.units) (pv 1) (pe_lst pa_nil) (nomark _)) (pw_and1 (pt_cmpR op_eq (pe_c c__law_take hr (by decide) (by rfl) (pa_cons (pv 0) (pa_cons pe_int pa_nil))) pe_int (nomark _)))))
  (pss_one (ps_set (i := 4) sc.nd rfl (.inl rfl) (pe_slice C8.sl_txt (pe_op op_add_str (pe_ix ix_list (pv 1) (pe_un un_neg pe_int) (fun _ _ => rfl)) (pv 4)) po_none (po_some pe_int))))
  pss_nil)
  (pss_cons (ps_if (pt_cmpR op_in_seq (pv 4) (pv 1) rfl)
  (pss_one (ps_set (i := 4) sc.nd rfl (.inl rfl) (pe_ix ix_list (pe_lc (own := [("_law_letter", 6)]) (g := gName 6) (tt := tTest (tOp (rIn K true) (tVar 6) (tVar 1))) rfl sc.nd (pi_str (pv 2)) (blkOk_by (N := ["_law_pot_here", "_law_taken_here", "_law_letters", "_law_many", "_law_tag", "_law_k", "_law_letter"]) (sc := defScope (topS 7)) (by decide +kernel)) (fun _ _ _ _ _ => (pg_name (i := 6) sc.nd rfl (.inl rfl))) (fun _ _ _ _ _ => (pts_one (pt_cmpR op_notIn_seq (pv 6) (pv 1) rfl))) (fun _ _ _ _ _ => (pv 6))) pe_int (fun _ _ => rfl))))
  pss_nil)
  (pss_one (ps_ret (pv 4)))))))), ?_⟩
    refine ⟨(by show 4 ≤ sizeLine; decide), fun L hL => ?_⟩
    refine ⟨_, rfl, p, _, rfl, hp.new hL, by decide, by decide, fun e H1 e0 e1 r1 => ?_⟩
    obtain ⟨x, hxm, hx⟩ := at_some (xs := [V.int 1, .int 2, .int 5, .int 8]) e0 e1
    obtain ⟨n, rfl, hn⟩ : ∃ n : Int, x = .int n ∧ (n = 1 ∨ n = 2 ∨ n = 5 ∨ n = 8) := by
      simp only [List.mem_cons, List.not_mem_nil, or_false] at hxm
      rcases hxm with h | h | h | h
      · exact ⟨1, h, .inl rfl⟩
      · exact ⟨2, h, .inr (.inl rfl)⟩
      · exact ⟨5, h, .inr (.inr (.inl rfl))⟩
      · exact ⟨8, h, .inr (.inr (.inr rfl))⟩
    have dr2 : Drawn p H H1 := ⟨(Keep.new hL).trans r1.keep, r1.pot⟩
    refine ⟨L, _, _, _, rfl, rfl, SqL.of (r1.keep _ _ (hp.ne hL) upd_same), hx, ?_⟩
    refine ⟨⟨_, rfl⟩, _, rfl, n, rfl, by omega, by omega, fun D hD => ?_⟩
    refine lc_range (Signs (fun c => c ∈ ltrs) p D H1) (Signs.start r1.pot hD) (fun i H4 hi hs => ?_) (fun H4 hs => ?_)
    · refine ⟨rfl, _, rfl, _, rfl, p, _, rfl, hs.pot, by decide, by decide, fun k H5 k0 k1 r5 => ?_⟩
      obtain ⟨c, hc, hx⟩ := at_some (xs := ltrs) k0 k1
      exact ⟨_, _, _, rfl, rfl, by decide, hx, hs.next hi (by omega) hD r5 hc⟩
    · obtain ⟨cs, ys, hcl, hcs, dr, eD, hz, ej⟩ := hs.join (by omega)
      refine ⟨_, D, ys, rfl, rfl, .inl (SqL.of eD), hz, ?_⟩
      rw [ej]
      have dr4 := dr2.trans dr
      have nm : NameS (SX.S cs) := ⟨cs, rfl, by omega, by omega, hcs⟩
      have eu4 : H4 u = some (.lst (us.map V.str)) := dr4.keep _ _ nu eu
      refine ⟨fun σ' H' => ∃ (z : Str) (s3 s5 s6 : Option V), σ' = [some (.ref p), some (.ref u), some (.str "abcdefghijklmnopqrstuvwxyz"), s3, some (.str z), s5, s6] ∧ NameS z ∧ Drawn p H H' ∧ H' u = some (.lst (us.map V.str)), ?_, ?_⟩
      rotate_left
      · rintro σ' H' ⟨z, s3, s5, s6, rfl, nz, dz, euz⟩
        refine ⟨_, rfl, _, rfl, u, us.map V.str, rfl, .inl (SqL.of euz), rfl, flat_strs us, _, rfl, ite2 (fun c => ?_) (fun c => ?_)⟩
        · refine ⟨_, rfl, _, rfl, fun D2 hD2 => ?_⟩
          have nD2 : D2 ≠ p := dz.pot.ne hD2
          refine lc_it walk_str (Pv := fun i H'' => Drawn p H H'' ∧ H'' u = some (.lst (us.map V.str)) ∧ H'' D2 = some (.lst (((ltrs.take i).filter fun c => decide (SX.S [c] ∉ us)).map fun c => V.str (SX.S [c])))) ⟨dz.new hD2, by rw [upd_ne (ne_of_none euz hD2)]; exact euz, upd_same⟩ (fun _ _ _ _ => trivial) (fun i x H1 H2 hi hp2 hy => ?_) (fun H1 hp2 => ?_)
          · obtain ⟨rfl, ch, ec, rfl⟩ := hy
            obtain ⟨d1, e1, e2⟩ := hp2
            have ec2 : ltrs[i]? = some ch := by rw [Array.getElem?_toList]; exact ec
            refine ⟨rfl, _, rfl, _, rfl, u, us.map V.str, rfl, .inl (SqL.of e1), rfl, flat_strs us, _, rfl, ?_⟩
            have ev : (if true = true then !inV (.str ⟨#[ch]⟩) (us.map V.str) else inV (.str ⟨#[ch]⟩) (us.map V.str)) = decide (SX.S [ch] ∉ us) := by
              rw [if_pos rfl, show (⟨#[ch]⟩ : Str) = SX.S [ch] from rfl, inV_strs]
              by_cases h : SX.S [ch] ∈ us
              · rw [decide_eq_true h, decide_eq_false (fun n => n h)]; rfl
              · rw [decide_eq_false h, decide_eq_true h]; rfl
            rw [ev]
            refine ite2 (fun c => ?_) (fun c => ?_)
            · refine ⟨_, rfl, _, e2, ?_, ⟨fun b o nb eb => ?_, ?_⟩, ?_, ?_⟩
              · rw [List.length_map]
                have l1 := List.length_filter_le (fun c => decide (SX.S [c] ∉ us)) (ltrs.take i)
                have l2 : (ltrs.take i).length ≤ 26 := by
                  rw [List.length_take]
                  exact Nat.le_trans (Nat.min_le_right _ _) (by decide +kernel)
                exact small1000 (by omega)
              · rw [upd_ne (ne_of_none (dz.keep _ _ nb eb) hD2)]
                exact d1.keep _ _ nb eb
              · obtain ⟨x1, x2, e3, z3⟩ := d1.pot
                exact ⟨x1, x2, by rw [upd_ne nD2.symm]; exact e3, z3⟩
              · rw [upd_ne (ne_of_none euz hD2)]; exact e1
              · rw [upd_same, take_snoc ec2, List.filter_append, List.map_append]
                have : [ch].filter (fun c => decide (SX.S [c] ∉ us)) = [ch] := by
                  rw [List.filter_cons, if_pos c]; rfl
                rw [this]; rfl
            · refine ⟨d1, e1, ?_⟩
              rw [e2, take_snoc ec2, List.filter_append]
              have : [ch].filter (fun c => decide (SX.S [c] ∉ us)) = [] := by
                rw [List.filter_cons, if_neg c]; rfl
              rw [this, List.append_nil]
          · obtain ⟨d1, e1, e2⟩ := hp2
            rw [show ltrs.take (PySem.Str.ofString "abcdefghijklmnopqrstuvwxyz").cps.size = ltrs from List.take_of_length_le (Nat.le_refl _)] at e2
            obtain ⟨c0, hc0, hn0⟩ := fresh_letter hl
            obtain ⟨c1, l1, e3⟩ : ∃ c1 l1, ltrs.filter (fun c => decide (SX.S [c] ∉ us)) = c1 :: l1 := by
              cases h : ltrs.filter (fun c => decide (SX.S [c] ∉ us)) with
              | nil =>
                have : c0 ∈ ltrs.filter (fun c => decide (SX.S [c] ∉ us)) := List.mem_filter.mpr ⟨hc0, decide_eq_true hn0⟩
                rw [h] at this; cases this
              | cons c1 l1 => exact ⟨c1, l1, rfl⟩
            have m1 : c1 ∈ ltrs.filter (fun c => decide (SX.S [c] ∉ us)) := by rw [e3]; exact List.mem_cons_self
            have m2 := List.mem_filter.mp m1
            rw [e3] at e2
            refine ⟨D2, _, 0, _, rfl, rfl, SqL.of e2, atI_nat (j := 0) rfl, ?_⟩
            exact ⟨_, rfl, q _ _ (name_one m2.1) (of_decide_eq_true m2.2) d1⟩
        · have c : z ∉ us := fun h => c (by rw [if_neg (by decide), inV_strs, decide_eq_true h])
          exact ⟨_, rfl, q _ _ nz c dz⟩
      refine ⟨_, rfl, (by show 0 ≤ sizeLine; decide), fun E0' hE => ?_⟩
      have eu5 : (upd H4 E0' (.lst [])) u = some (.lst (us.map V.str)) := by rw [upd_ne (ne_of_none eu4 hE)]; exact eu4
      have dr5 : Drawn p H (upd H4 E0' (.lst [])) := dr4.new hE
      refine ⟨u, E0', us.map V.str, rfl, rfl, .inl ⟨SqL.of eu5, SqL.of upd_same⟩, _, rfl, ite2 (fun c => ?_) (fun c => ?_)⟩
      · refine ⟨_, rfl, p, _, rfl, dr5.pot, by decide, by decide, fun g H6 g0 g1 r6 => ?_⟩
        have dr6 := dr5.trans r6
        have eu6 : H6 u = some (.lst (us.map V.str)) := dr6.keep _ _ nu eu
        refine ⟨rfl, _, rfl, ite2 (fun c2 => ?_) (fun c2 => ?_)⟩
        · obtain ⟨ini, z, e⟩ : ∃ ini z, us = ini ++ [z] := by
            cases us with
            | nil => exact absurd c (by simp)
            | cons y l => exact ⟨(y :: l).dropLast, (y :: l).getLast (by simp), (List.dropLast_concat_getLast _).symm⟩
          have gl : atI (us.map V.str) (-1) = some (.str z) := by
            rw [e, List.map_append]
            exact atI_last _ _
          obtain ⟨zs, rfl, hz1, hz2, hz3⟩ := (hus z (by rw [e]; exact List.mem_append_right _ List.mem_cons_self)).ex
          refine ⟨_, rfl, 1, rfl, u, _, -1, _, rfl, rfl, SqL.of eu6, gl, _, rfl, _, _, rfl, rfl, ?_, 8, rfl, _, rfl, ?_, ?_⟩
          · rw [SX.S_len, SX.S_len]
            exact Nat.le_of_lt (small1000 (by omega))
          · rw [SX.S_cat, SX.S_len, List.length_append]
            exact Nat.le_of_lt (small1000 (by omega))
          · rw [SX.S_cat, SX.slice_to (by decide)]
            have nm2 : NameS (SX.S ((zs ++ cs).take (8 : Int).toNat)) := ⟨_, rfl, by rw [List.length_take, List.length_append]; show 1 ≤ min 8 _; omega, by rw [List.length_take]; exact Nat.min_le_left _ _, fun c hc => by
              rcases List.mem_append.mp (List.mem_of_mem_take hc) with h | h
              · exact hz3 c h
              · exact hcs c h⟩
            exact ⟨_, _, _, _, rfl, nm2, dr6, eu6⟩
        · exact ⟨_, _, _, _, rfl, nm, dr6, eu6⟩
      · exact ⟨_, _, _, _, rfl, nm, dr5, eu5⟩
theorem sc__law_names : FnScope ["_law_pot_here", "_law_many", "_law_taken_here", "_law_found", "_law_k"] ["_law_pot_here", "_law_many", "_law_taken_here"] (defScope (topS 8)) := ⟨rfl, rfl, rfl, by decide +kernel, rfl, by decide +kernel, by decide +kernel⟩
theorem ok__law_names (D : DefAt K mg "_law_names" (topS 8)) (m : Mg mg) (c__law_name : Cal P w K mg base 2 "_law_name" spName []) : Cal P w K mg base 3 "_law_names" spNames [] := by
  have sc := sc__law_names
  refine mkCal D (fun _ _ _ _ _ _ us hl => match us, hl with | [_, _, _], _ => rfl) sc (fun vs H Q E h => ?_) (fun f cdv A outer s H vs Q E hr h => ?_)
  · obtain ⟨p, u, us, n, rfl, _⟩ := h
    rfl
  · obtain ⟨p, u, us, n, rfl, hp, nu, eu, hus, hl, q⟩ := h
    refine ⟨_, (pss_cons (ps_set (i := 3) sc.nd rfl (.inl rfl) (pe_lst pa_nil))
  (pss_cons (ps_for PassesOwn.never rfl (pi_range1 (by rfl) m.range (pa_cons (pv 1) pa_nil)) (pg_name (i := 4) sc.nd rfl (.inl rfl))
  (pss_one (ps_expr (pe_bm PySem.F.plainAttrs_list PySem.F.slot_list_append PySem.F.type_list_append mt_append (pv 3) (pa_cons (pe_c c__law_name hr (by decide) (by rfl) (pa_cons (pv 0) (pa_cons (pe_op op_cat (pv 2) (pv 3)) pa_nil))) pa_nil)))))
  (pss_one (ps_ret (pv 3))))), ?_⟩
    refine ⟨(by show 0 ≤ sizeLine; decide), fun F hF => ?_⟩
    have nF : F ≠ p := hp.ne hF
    refine ⟨_, rfl, (n : Int), rfl, by omega, by omega, ?_⟩
    refine for_range (n := n) (fun i σ H' => ∃ (zs : List Str) (y4 : Option V), σ = [some (.ref p), some (.int (n : Nat)), some (.ref u), some (.ref F), y4] ∧ zs.length = i ∧ (∀ z ∈ zs, NameS z) ∧ zs.Nodup ∧ (∀ z ∈ zs, z ∉ us) ∧ Drawn p H H' ∧ H' F = some (.lst (zs.map V.str)))
      ⟨[], _, rfl, rfl, (fun _ h => by cases h), List.nodup_nil, (fun _ h => by cases h), ⟨Keep.new hF, hp.new hF⟩, upd_same⟩ (fun i σ H1 hi hi2 => ?_) (fun σ H1 hi2 => ?_)
    · obtain ⟨zs, y4, rfl, hz, hzn, hnd, hdis, dr, eF⟩ := hi2
      have eu1 : H1 u = some (.lst (us.map V.str)) := dr.keep _ _ nu eu
      refine ⟨_, rfl, .inl ⟨rfl, _, SqL.of eF⟩, _, rfl, _, rfl, _, rfl, u, F, _, _, rfl, rfl, eu1, eF, ?_, fun g hg => ?_⟩
      · rw [List.length_map, List.length_map]
        exact Nat.le_of_lt (small1000 (by omega))
      · have eg : (upd H1 g (.lst (us.map V.str ++ zs.map V.str))) g = some (.lst ((us ++ zs).map V.str)) := by rw [upd_same, List.map_append]
        refine ⟨p, g, us ++ zs, rfl, dr.pot.new hg, dr.pot.ne hg, eg, ?_, by rw [List.length_append]; omega, fun z H2 hzN hzU r2 => ?_⟩
        · intro z h
          rcases List.mem_append.mp h with h | h
          · exact hus z h
          · exact hzn z h
        · have dr2 : Drawn p H H2 := (dr.new hg).trans r2
          have eF2 : H2 F = some (.lst (zs.map V.str)) := r2.keep _ _ nF (by rw [upd_ne (ne_of_none eF hg)]; exact eF)
          refine ⟨F, _, _, rfl, rfl, eF2, ?_, zs ++ [z], _, rfl, ?_, ?_, ?_, ?_, ⟨fun b o nb eb => ?_, ?_⟩, ?_⟩
          · rw [List.length_map]
            exact small1000 (by omega)
          · rw [List.length_append, hz]; rfl
          · intro x h
            rcases List.mem_append.mp h with h | h
            · exact hzn x h
            · rw [List.mem_singleton.mp h]; exact hzN
          · refine List.nodup_append.mpr ⟨hnd, List.nodup_cons.mpr ⟨List.not_mem_nil, List.nodup_nil⟩, fun a ha b hb e => ?_⟩
            rw [List.mem_singleton.mp hb] at e
            exact hzU (List.mem_append_right _ (e ▸ ha))
          · intro x h
            rcases List.mem_append.mp h with h | h
            · exact hdis x h
            · rw [List.mem_singleton.mp h]; exact fun k => hzU (List.mem_append_left _ k)
          · rw [upd_ne (ne_of_none eb hF)]
            exact dr2.keep _ _ nb eb
          · obtain ⟨x1, x2, e3, z3⟩ := dr2.pot
            exact ⟨x1, x2, by rw [upd_ne nF.symm]; exact e3, z3⟩
          · rw [upd_same, List.map_append]; rfl
    · obtain ⟨zs, y4, rfl, hz, hzn, hnd, hdis, dr, eF⟩ := hi2
      exact ⟨_, rfl, q F zs H1 hF nF hz hzn hnd hdis dr eF⟩
end
end Gj

/-! own layer: data in the heap (lists, tuples, empty dicts), beside a pot at p -/
namespace Gj
open PySem PySem.Spec PyProof.Rows L2
open C8 (Cal pe_c pe_gc)
section
open PySem.SeqAt AutoSeq1 MeetsSeq
/-! ### a dict and a text are unlike -/
theorem dict_no_str (l : Addr) (o : Obj) (hc : o.cls = .type "dict") (b : Str) (u : Tok) : Meets (Builtin.«dict.__eq__» ⟨[.ref l, .str b u], []⟩) (fun _ R s => s.heap.get? l = some o ∧ R (.ok (.ret .notImplemented)) s) :=
  .of_wp fun prog w A R s h => by
    obtain ⟨hp, g, d, tk, os⟩ := s
    obtain ⟨hl, h⟩ := h
    have f1 := F.sub_str_dict
    wp_walk using wpAny_loadPart' hl
    exact ⟨_, rfl, h⟩
theorem str_no_dict (l : Addr) (c : Value) (dd : Option Addr) (es : Array DictEntry) (n : Nat) (sl : Array (Option Value)) (b : Str) (u : Tok) : Meets (Builtin.«str.__eq__» ⟨[.str b u, .ref l], []⟩) (fun _ R s => s.heap.get? l = some ⟨c, dd, .dict es n, sl⟩ ∧ R (.ok (.ret .notImplemented)) s) :=
  .of_wp fun prog w A R s h => by
    obtain ⟨hp, g, d, tk, os⟩ := s
    obtain ⟨hl, h⟩ := h
    wp_walk using wpAny_loadPart' hl, wpAny_load hl
    exact ⟨_, rfl, h⟩
variable {A : Around} {s : Shared}
theorem rc_dict_str {l : Addr} {dd : Option Addr} {es : Array DictEntry} {n : Nat} {sl : Array (Option Value)} (b : Str) (u : Tok) (ho : s.heap.get? l = some ⟨.type "dict", dd, .dict es n, sl⟩) (hu : A.units < cLine) : RcAt A s (.ref l) (.str b u) false := fun prog w E Q h =>
  rc_eq_decline_or (k := false) ⟨_, ho, rfl⟩ (typeIs_str s b u) (by decide) F.sub_str_dict F.slot_dict_eq F.slot_str_eq_refl
    (fun _ hq => call_meets F.slot_dict_eq ⟨_, ho, rfl⟩ F.entry_dict_eq (F.args_dict_eq_2 _ _) (dict_no_str l _ rfl b u) ⟨ho, hq⟩)
    (fun _ hq => call_meets F.slot_str_eq_refl (typeIs_str s b u) F.entry_str_eq (F.args_str_eq_2 _ _) (str_no_dict l _ _ _ _ _ b u) ⟨ho, hq⟩)
    (fun _ hq => wpAny_of_eq (rfl : isSame (.ref l) (.str b u) = pure false) hq) (.inr hu) h
theorem rc_str_dict {l : Addr} {dd : Option Addr} {es : Array DictEntry} {n : Nat} {sl : Array (Option Value)} (b : Str) (u : Tok) (ho : s.heap.get? l = some ⟨.type "dict", dd, .dict es n, sl⟩) (hu : A.units < cLine) : RcAt A s (.str b u) (.ref l) false := fun prog w E Q h =>
  rc_eq_decline_or (k := false) (typeIs_str s b u) ⟨_, ho, rfl⟩ (by decide) F.sub_dict_str F.slot_str_eq F.slot_dict_eq_refl
    (fun _ hq => call_meets F.slot_str_eq (typeIs_str s b u) F.entry_str_eq (F.args_str_eq_2 _ _) (str_no_dict l _ _ _ _ _ b u) ⟨ho, hq⟩)
    (fun _ hq => call_meets F.slot_dict_eq_refl ⟨_, ho, rfl⟩ F.entry_dict_eq (F.args_dict_eq_2 _ _) (dict_no_str l _ rfl b u) ⟨ho, hq⟩)
    (fun _ hq => wpAny_of_eq (rfl : isSame (.str b u) (.ref l) = pure false) hq) (.inr hu) h
theorem eq_str_dict {l : Addr} {dd : Option Addr} {es : Array DictEntry} {n : Nat} {sl : Array (Option Value)} (b : Str) (u : Tok) (ho : s.heap.get? l = some ⟨.type "dict", dd, .dict es n, sl⟩) (hu : A.units < cLine) : EqAt A s (.str b u) (.ref l) false := fun prog w E Q h => by
  unfold eqBool
  exact wpAny_holding (wpAny_ite_split (fun hab => absurd (eq_of_beq hab) nofun) fun _ => wpAny_bind (rc_str_dict b u ho hu prog w E _ (wpAny_truthy_bool h)))
end
/-! ### data, away from the pot at p -/
mutual
inductive Dt (p : Addr) (H : Hp) : V → PyData → Prop
  | non : Dt p H .non .none
  | bl (b : Bool) : Dt p H (.bl b) (.bool b)
  | int (i : Int) : Dt p H (.int i) (.int i)
  | str (x : Str) : x.length ≤ 1000 → Dt p H (.str x) (.str x)
  | lst {a : Addr} {xs : List V} {ds : List PyData} : a ≠ p → xs.length ≤ 1000 → H a = some (.lst xs) → DtAll p H xs ds → Dt p H (.ref a) (.list ds)
  | tup {a : Addr} {xs : List V} {ds : List PyData} : a ≠ p → xs.length ≤ 1000 → H a = some (.tup xs) → DtAll p H xs ds → Dt p H (.ref a) (.tuple ds)
  | dic {a : Addr} : a ≠ p → H a = some (.dK []) → Dt p H (.ref a) (.dict [])
inductive DtAll (p : Addr) (H : Hp) : List V → List PyData → Prop
  | nil : DtAll p H [] []
  | cons {v : V} {vs : List V} {d : PyData} {ds : List PyData} : Dt p H v d → DtAll p H vs ds → DtAll p H (v :: vs) (d :: ds)
end
section
variable {p : Addr} {H H' : Hp}
mutual
theorem Dt.keep (k : Keep p H H') : ∀ {v : V} {d : PyData}, Dt p H v d → Dt p H' v d
  | _, _, .non => .non
  | _, _, .bl b => .bl b
  | _, _, .int i => .int i
  | _, _, .str x z => .str x z
  | _, _, .lst n z e h => .lst n z (k _ _ n e) (DtAll.keep k h)
  | _, _, .tup n z e h => .tup n z (k _ _ n e) (DtAll.keep k h)
  | _, _, .dic n e => .dic n (k _ _ n e)
theorem DtAll.keep (k : Keep p H H') : ∀ {vs : List V} {ds : List PyData}, DtAll p H vs ds → DtAll p H' vs ds
  | _, _, .nil => .nil
  | _, _, .cons a b => .cons (Dt.keep k a) (DtAll.keep k b)
end
theorem Dt.same {v : V} {d : PyData} (h : Dt p H v d) (s : Same H H') : Dt p H' v d := h.keep (Same.keep s)
theorem DtAll.same {v : List V} {d : List PyData} (h : DtAll p H v d) (s : Same H H') : DtAll p H' v d := h.keep (Same.keep s)
theorem DtAll.length : ∀ {vs : List V} {ds : List PyData}, DtAll p H vs ds → vs.length = ds.length
  | _, _, .nil => rfl
  | _, _, .cons _ b => by rw [List.length_cons, List.length_cons, DtAll.length b]
theorem DtAll.get : ∀ {vs : List V} {ds : List PyData} {i : Nat} {v : V}, DtAll p H vs ds → vs[i]? = some v → ∃ d, ds[i]? = some d ∧ Dt p H v d
  | _, _, i, v, .nil, e => by simp at e
  | _, _, 0, v, .cons a b, e => by
    have e : _ = v := Option.some.inj e
    subst e
    exact ⟨_, rfl, a⟩
  | _, _, i + 1, v, .cons a b, e => DtAll.get b (i := i) e
theorem DtAll.append : ∀ {vs ws : List V} {ds es : List PyData}, DtAll p H vs ds → DtAll p H ws es → DtAll p H (vs ++ ws) (ds ++ es)
  | _, _, _, _, .nil, h => h
  | _, _, _, _, .cons a b, h => .cons a (DtAll.append b h)
theorem DtAll.take : ∀ {vs : List V} {ds : List PyData} (n : Nat), DtAll p H vs ds → DtAll p H (vs.take n) (ds.take n)
  | _, _, 0, _ => .nil
  | _, _, n + 1, .nil => .nil
  | _, _, n + 1, .cons a b => .cons a (DtAll.take n b)
theorem DtAll.drop : ∀ {vs : List V} {ds : List PyData} (n : Nat), DtAll p H vs ds → DtAll p H (vs.drop n) (ds.drop n)
  | _, _, 0, h => h
  | _, _, n + 1, .nil => .nil
  | _, _, n + 1, .cons a b => DtAll.drop n b
theorem DtAll.strs : ∀ {zs : List Str}, (∀ z ∈ zs, z.length ≤ 1000) → DtAll p H (zs.map V.str) (zs.map PyData.str)
  | [], _ => .nil
  | z :: l, h => .cons (.str z (h z List.mem_cons_self)) (DtAll.strs fun y hy => h y (List.mem_cons_of_mem _ hy))
/-- the name of its type -/
def kind : PyData → String
  | .none => "NoneType"
  | .bool _ => "bool"
  | .int _ => "int"
  | .str _ => "str"
  | .list _ => "list"
  | .tuple _ => "tuple"
  | .dict _ => "dict"
theorem Dt.ty {K : PySem.W.Frag} {v : V} {d : PyData} (h : Dt p H v d) : TyX K H v (.type (kind d)) := by
  cases h with
  | non => exact .base .non
  | bl b => exact .base (.bl b)
  | int i => exact .base (.int i)
  | str x z => exact .base (.str x)
  | lst n z e h => exact .base (.lst e)
  | tup n z e h => exact .base (.tup e)
  | dic n e => exact .base (.dK e)
end
/-- isinstance(x, T) -/
def isa (d : PyData) (T : String) : Bool := (kitB (kind d) T).getD false
theorem kit_isa {K : PySem.W.Frag} {d : PyData} {T : String} (h : T = "str" ∨ T = "tuple" ∨ T = "int" ∨ T = "bool" ∨ T = "list") : PySem.W.kitOne K (.type (kind d)) (.type T) = some (isa d T) := by
  refine kit_ty ?_
  unfold isa
  rcases h with rfl | rfl | rfl | rfl | rfl <;> cases d <;> (dsimp only [kind]; decide +kernel)
def rIsD (K : PySem.W.Frag) (T : String) : List V → Hp → VK → Prop := fun xs H Q => ∃ (p : Addr) (x : V) (d : PyData), xs = [x, .ty T] ∧ Dt p H x d ∧ Q (.bl (isa d T)) H
section
variable {X : Cx}
theorem call_isD {T : String} (h : T = "str" ∨ T = "tuple" ∨ T = "int" ∨ T = "bool" ∨ T = "list") : CallR X (.builtin "isinstance") (rIsD X.K T) := by
  intro pins s σ H xs us Q I r hh
  obtain ⟨p, x, d, rfl, hd, q⟩ := hh
  exact call_isi pins s σ H _ us Q I r ⟨x, .ty T, _, _, isa d T, rfl, .ty T, hd.ty, kit_isa h, q⟩
/-- the text that it is -/
def isT (d : PyData) (z : Str) : Bool := match d with
  | .str y => y == z
  | _ => false
theorem dic_at {pins : List (Addr × Obj)} {σ : L2.St} {H : Hp} {s : Shared} {a : Addr} (I : Inv X pins σ H s) (e : H a = some (.dK [])) : ∃ (o : Obj) (es : Array DictEntry) (ep : Nat), s.heap.get? a = some o ∧ o.cls = .type "dict" ∧ o.data = .dict es ep := by
  obtain ⟨_, _, vs, _, o, es, ep, h1, h2, h3, _⟩ := (show ObjOk X.prog X.w H s.heap a (.dK []) from I.hok a _ e)
  exact ⟨o, es, ep, h1, h2.1, h3⟩
/-- x == z, z a text -/
theorem rc_txt {pins : List (Addr × Obj)} {σ : L2.St} {H : Hp} {s : Shared} {A : Around} {p : Addr} {x : V} {d : PyData} {v : Value} {z : Str} {t : Tok} (I : Inv X pins σ H s) (hd : Dt p H x d) (r : RelV x v) (hu : A.units < cLine) : SeqAt.RcAt A s v (.str z t) (isT d z) := by
  cases hd with
  | non => cases r; exact SeqAt.RcAt.none_str _ _
  | bl b => cases r; exact SeqAt.RcAt.bool_str _ _ _
  | int i => obtain ⟨t', rfl⟩ := r; exact SeqAt.RcAt.int_str _ _ _ _
  | str y z0 => obtain ⟨t', rfl⟩ := r; exact SeqAt.RcAt.str_str _ _ _ _
  | lst n z0 e h =>
    cases r
    obtain ⟨its, _, pl, _⟩ := I.list (SqL.of e)
    exact SeqAt.RcAt.list_str _ _ pl.isList hu
  | tup n z0 e h =>
    cases r
    obtain ⟨its, _, pl, _⟩ := I.tuple (SqT.of e)
    exact SeqAt.RcAt.tuple_str _ _ pl hu
  | @dic a n e =>
    cases r
    obtain ⟨o, es, ep, h1, h2, h3⟩ := dic_at I e
    obtain ⟨oc, od, dt, sl⟩ := o
    cases h2
    cases h3
    exact rc_dict_str _ _ h1 hu
/-- z == x, z a text -/
theorem eq_txt {pins : List (Addr × Obj)} {σ : L2.St} {H : Hp} {s : Shared} {A : Around} {p : Addr} {x : V} {d : PyData} {v : Value} {z : Str} {t : Tok} (I : Inv X pins σ H s) (hd : Dt p H x d) (r : RelV x v) (hu : A.units < cLine) : SeqAt.EqAt A s (.str z t) v (isT d z) := by
  cases hd with
  | non => cases r; exact SeqAt.EqAt.str_none _ _
  | bl b => cases r; exact SeqAt.EqAt.str_bool _ _ _
  | int i => obtain ⟨t', rfl⟩ := r; exact SeqAt.EqAt.str_int _ _ _ _
  | str y z0 =>
    obtain ⟨t', rfl⟩ := r
    have e : isT (.str y) z = (z == y) := by
      show (y == z) = (z == y)
      exact Bool.eq_iff_iff.mpr ⟨fun h => by rw [eq_of_beq h]; exact beq_self_eq_true _, fun h => by rw [eq_of_beq h]; exact beq_self_eq_true _⟩
    rw [e]
    exact SeqAt.EqAt.str_str _ _ _ _
  | lst n z0 e h =>
    cases r
    obtain ⟨its, _, pl, _⟩ := I.list (SqL.of e)
    exact SeqAt.EqAt.str_list _ _ pl.isList hu
  | tup n z0 e h =>
    cases r
    obtain ⟨its, _, pl, _⟩ := I.tuple (SqT.of e)
    exact SeqAt.EqAt.str_tuple _ _ pl hu
  | @dic a n e =>
    cases r
    obtain ⟨o, es, ep, h1, h2, h3⟩ := dic_at I e
    obtain ⟨oc, od, dt, sl⟩ := o
    cases h2
    cases h3
    exact eq_str_dict _ _ h1 hu
def rEqT : R2 := fun x y H Q => ∃ p d z, y = .str z ∧ Dt p H x d ∧ Q (.bl (isT d z)) H
theorem op_eqT (hu : X.A.units + 64 < cLine) : OpR X (compareOp .Eq) rEqT := by
  intro pins s σ H x y v u Q I rx ry h
  obtain ⟨p, d, z, rfl, hd, q⟩ := h
  obtain ⟨t, rfl⟩ := ry
  exact rc_txt I hd rx (by omega) X.prog X.w _ _ ⟨.bl _, H, I, rfl, q⟩
/-- x in [texts] -/
def rInT (K : PySem.W.Frag) : R2 := fun x y H Q => ∃ (p a : Addr) (d : PyData) (zs : List Str), y = .ref a ∧ SqL K H a (zs.map V.str) ∧ Dt p H x d ∧ Q (.bl (zs.any fun z => isT d z)) H
def isTv (d : PyData) : Value → Bool
  | .str z _ => isT d z
  | _ => false
theorem any_isTv (d : PyData) : ∀ {zs : List Str} {us : List Value}, Vals (zs.map V.str) us → us.any (isTv d) = zs.any fun z => isT d z
  | [], _, .nil => rfl
  | z :: zs, _, .cons r t => by
    obtain ⟨k, rfl⟩ := r
    rw [List.any_cons, List.any_cons, any_isTv d t]
    rfl
theorem mem_strs : ∀ {zs : List Str} {us : List Value}, Vals (zs.map V.str) us → ∀ u ∈ us, ∃ z t, u = .str z t
  | [], _, .nil, u, hu => by cases hu
  | z :: zs, _, .cons r t, u, hu => by
    rcases List.mem_cons.mp hu with e | hu
    · obtain ⟨k, rfl⟩ := r
      exact ⟨z, k, e⟩
    · exact mem_strs t u hu
theorem op_inT (hu : X.A.units + 64 < cLine) : OpR X (compareOp .In) (rInT X.K) := by
  intro pins s σ H x y v u Q I rx ry h
  obtain ⟨p, a, d, zs, rfl, hs, hd, q⟩ := h
  cases ry
  obtain ⟨its, rv, pl, _⟩ := I.list hs
  refine SeqAt.in_listAt (isTv d) pl.isList (fun z hz => ?_) ⟨.bl _, H, I, rfl, ?_⟩
  · obtain ⟨w, t, rfl⟩ := mem_strs rv z (by simpa using hz)
    exact eq_txt I hd rx (by show X.A.units + 1 < cLine; omega)
  · rw [show its.toArray.any (isTv d) = its.any (isTv d) by simp, any_isTv d rv]
    exact q
end
end Gj

/-! own layer: tests of data -/
namespace Gj
open PySem PySem.Spec PyProof.Rows L2
open C8 (Cal pe_c pe_gc)
/-- a def that tells a truth of one datum -/
def spPred (f : PyData → Bool) : Sp := fun vs H Q _ => ∃ (p : Addr) (v : V) (d : PyData), vs = [v] ∧ Dt p H v d ∧ ∀ H', Same H H' → Q (.bl (f d)) H'
/-- .. and a number -/
def spPredN (f : PyData → Int → Bool) : Sp := fun vs H Q _ => ∃ (p : Addr) (v : V) (d : PyData) (n : Int), vs = [v, .int n] ∧ Dt p H v d ∧ ∀ H', Same H H' → Q (.bl (f d n)) H'
/-- an expression that tells b, whatever it lays -/
def Say (t : TE) (σ : L2.St) (H : Hp) (b : Bool) : Prop := ∀ Q : VK, (∀ H', Same H H' → Q (.bl b) H') → t σ H Q
/-- an expression that is v -/
def Giv (t : TE) (σ : L2.St) (H : Hp) (v : V) : Prop := ∀ Q : VK, Q v H → t σ H Q
section
variable {σ : L2.St} {H : Hp} {ta tb te : TE} {a b : Bool} {K : PySem.W.Frag} {p : Addr} {v : V} {d : PyData} {i : Nat}
theorem Say.and (ha : Say ta σ H a) (hb : a = true → ∀ H', Same H H' → Say tb σ H' b) : Say (tAndV ta tb) σ H (a && b) := fun Q q => ha _ fun H1 s1 => ⟨a, rfl, by
  cases a with
  | true => exact iteT (hb rfl H1 s1 Q fun H2 s2 => q H2 (s1.trans s2))
  | false => exact iteF (q H1 s1)⟩
theorem Say.or (ha : Say ta σ H a) (hb : a = false → ∀ H', Same H H' → Say tb σ H' b) : Say (tOrV ta tb) σ H (a || b) := fun Q q => ha _ fun H1 s1 => ⟨a, rfl, by
  cases a with
  | true => exact iteT (q H1 s1)
  | false => exact iteF (hb rfl H1 s1 Q fun H2 s2 => q H2 (s1.trans s2))⟩
theorem Say.not (ha : Say ta σ H a) : Say (tNotV ta) σ H (!a) := fun Q q => ha _ fun H1 s1 => ⟨a, rfl, q H1 s1⟩
theorem Say.of (h : Say ta σ H a) (e : a = b) : Say ta σ H b := e ▸ h
theorem giv_var (h : σ[i]? = some (some v)) : Giv (tVar i) σ H v := fun Q q => ⟨v, h, q⟩
theorem giv_c {v : V} : Giv (tC v) σ H v := fun Q q => q
theorem giv_ixT {x : V} {xs : List V} {c : Addr} {k : Nat} (h : Giv te σ H (.ref c)) (e : H c = some (.tup xs)) (g : xs[k]? = some x) : Giv (tOp (rIxT K) te (tC (.int (k : Nat)))) σ H x := fun Q q => h _ ⟨c, xs, _, x, rfl, rfl, SqT.of e, atI_nat g, q⟩
theorem say_isa {T : String} (hv : Giv te σ H v) (hd : Dt p H v d) : Say (tCB (rIsD K T) (tCons te (tCons (tC (.ty T)) tNil))) σ H (isa d T) := fun Q q => hv _ ⟨p, v, d, rfl, hd, q H (Same.refl H)⟩
theorem say_call {f : PyData → Bool} {E : XK} (hv : Giv te σ H v) (hd : Dt p H v d) : Say (tCall (spPred f) [] E (tCons te tNil)) σ H (f d) := fun Q q => hv _ ⟨p, v, d, rfl, hd, q⟩
theorem say_callN {f : PyData → Int → Bool} {n : Int} {tn : TE} {E : XK} (hv : Giv te σ H v) (hn : Giv tn σ H (.int n)) (hd : Dt p H v d) : Say (tCall (spPredN f) [] E (tCons te (tCons tn tNil))) σ H (f d n) := fun Q q => hv _ (hn _ ⟨p, v, d, n, rfl, hd, q⟩)
theorem say_eqT {z : Str} {tz : TE} (hv : Giv te σ H v) (hz : Giv tz σ H (.str z)) (hd : Dt p H v d) : Say (tOp rEqT te tz) σ H (isT d z) := fun Q q => hv _ (hz _ ⟨p, d, z, rfl, hd, q H (Same.refl H)⟩)
theorem say_lenEq {n : Int} {c : Addr} {xs : List V} {tn : TE} {X : Cx} (hv : Giv te σ H (.ref c)) (hn : Giv tn σ H (.int n)) (e : H c = some (.tup xs)) :
    Say (tOp rEq (tCB (fun ys H Q => ∃ x m, ys = [x] ∧ LenV X.K x H m ∧ Q (.int m) H) (tCons te tNil)) tn) σ H (decide ((xs.length : Int) = n)) := fun Q q => hv _ ⟨.ref c, xs.length, rfl, .inr ⟨xs, SqT.of e, rfl⟩, hn _ ⟨rfl, by
      have e2 : decide (V.int (xs.length : Int) = V.int n) = decide ((xs.length : Int) = n) := by
        by_cases h : (xs.length : Int) = n
        · rw [decide_eq_true h, h, decide_eq_true rfl]
        · rw [decide_eq_false h, decide_eq_false fun z => h (V.int.inj z)]
      rw [e2]
      exact q H (Same.refl H)⟩⟩
end
end Gj

namespace Gj
open PySem PySem.Spec PyProof.Rows L2
open C8 (Cal pe_c pe_gc)
/-- whether its length and signs are so -/
def isTxt (z signs : Str) (most : Int) : Bool := (decide (1 ≤ (z.length : Int)) && decide ((z.length : Int) ≤ most)) && (z.cps.toList.map fun c => decide (c ∈ signs.cps.toList)).all id
def mTxt (signs : Str) (most : Int) : PyData → Bool
  | .str z => isTxt z signs most
  | _ => false
abbrev rLenX (K : PySem.W.Frag) : List V → Hp → VK → Prop := fun ys H Q => ∃ x m, ys = [x] ∧ LenV K x H m ∧ Q (.int m) H
abbrev rLeX : R2 := rI0 fun i j => .bl (decide (i ≤ j))
abbrev rInX : R2 := fun x y H Q => ∃ (c : Nat) (z : Str), x = .str ⟨#[c]⟩ ∧ y = .str z ∧ Q (.bl (decide (c ∈ z.cps.toList))) H
section
variable {σ : L2.St} {H : Hp} {ta tb te ts tm : TE} {a b : Bool} {K : PySem.W.Frag} {p : Addr} {v : V} {d : PyData} {i : Nat} {z signs : Str} {most : Int}
theorem say_chain (hv : Giv te σ H (.str z)) (hm : Giv tm σ H (.int most)) (hz : z.length ≤ 1000) : Say (tChain rLeX rLeX (tC (.int 1)) (tCB (rLenX K) (tCons te tNil)) tm) σ H (decide (1 ≤ (z.length : Int)) && decide ((z.length : Int) ≤ most)) := fun Q q =>
  hv _ ⟨_, _, rfl, ⟨Nat.le_of_lt (small1000 hz), rfl⟩, _, _, rfl, rfl, _, rfl, by
    by_cases h : 1 ≤ (z.length : Int)
    · rw [decide_eq_true h]
      refine iteT (hm _ ⟨_, _, rfl, rfl, ?_⟩)
      have := q H (Same.refl H)
      rw [decide_eq_true h, Bool.true_and] at this
      exact this
    · rw [decide_eq_false h]
      have := q H (Same.refl H)
      rw [decide_eq_false h, Bool.false_and] at this
      exact iteF this⟩
theorem say_all (hz : z.length ≤ 1000) (hw : ∀ v, wipe ((wipe σ [i]).set i (some v)) [i] = wipe σ [i]) (hi : ∀ v, ((wipe σ [i]).set i (some v))[i]? = some (some v)) (hs : ∀ v H, Giv ts ((wipe σ [i]).set i (some v)) H (.str signs)) (hv : Giv te σ H (.str z)) :
    Say (tCB (rAll K) (tCons (tLc (iStr te) (gName i) tYes (tOp rInX (tVar i) ts) [i]) tNil)) σ H ((z.cps.toList.map fun c => decide (c ∈ signs.cps.toList)).all id) := fun Q q => hv _ ⟨z, rfl, fun D hD => by
  refine lc_it walk_str (Pv := fun j H' => Same H H' ∧ H' D = some (.lst (((z.cps.toList.take j).map fun c => decide (c ∈ signs.cps.toList)).map V.bl))) ⟨same_new hD, upd_same⟩ (fun _ _ _ _ => trivial) (fun j x H1 H2 hj hp hy => ?_) (fun H1 hp => ?_)
  · obtain ⟨rfl, ch, ec, rfl⟩ := hy
    obtain ⟨sm, eD⟩ := hp
    refine ⟨hw _, _, hi _, hs _ _ _ ⟨ch, signs, rfl, rfl, _, eD, ?_, fun b o e => ?_, ?_⟩⟩
    · rw [List.length_map, List.length_map, List.length_take]
      have : z.cps.toList.length = z.length := rfl
      exact small1000 (by omega)
    · rw [upd_ne (ne_of_none e hD)]
      exact sm b o e
    · have ec2 : z.cps.toList[j]? = some ch := by rw [Array.getElem?_toList]; exact ec
      rw [upd_same, take_snoc ec2, List.map_append, List.map_append]
      rfl
  · obtain ⟨sm, eD⟩ := hp
    rw [show z.cps.toList.take z.cps.size = z.cps.toList from List.take_of_length_le (Nat.le_refl _)] at eD
    exact ⟨D, _, rfl, SqL.of eD, q H1 sm⟩⟩
theorem say_allT {f : PyData → Bool} {E : XK} {c : Addr} {xs : List V} {ds : List PyData} (hl : xs.length ≤ 1000) (hw : ∀ v, wipe ((wipe σ [i]).set i (some v)) [i] = wipe σ [i]) (hi : ∀ v, ((wipe σ [i]).set i (some v))[i]? = some (some v)) (hv : Giv te σ H (.ref c)) (ec : H c = some (.tup xs)) (hd : DtAll p H xs ds) :
    Say (tCB (rAll K) (tCons (tLc (iTup K te) (gName i) tYes (tCall (spPred f) [] E (tCons (tVar i) tNil)) [i]) tNil)) σ H (ds.all f) := fun Q q => hv _ ⟨c, rfl, ⟨xs, SqT.of ec⟩, fun D hD => by
  refine lc_tup (K := K) (a := c) (xs := xs) (Pv := fun j H' => Same H H' ∧ H' D = some (.lst (((ds.take j).map f).map V.bl))) ⟨same_new hD, upd_same⟩ (fun j H' _ hp => SqT.of (hp.1 _ _ ec)) (fun j x H1 hx hp => ?_) (fun H1 hp => ?_)
  · obtain ⟨sm, eD⟩ := hp
    obtain ⟨d, hd1, hd2⟩ := hd.get hx
    refine ⟨hw _, _, hi _, p, x, d, rfl, hd2.same sm, fun H2 s2 => ⟨_, s2 _ _ eD, ?_, fun b o e => ?_, ?_⟩⟩
    · rw [List.length_map, List.length_map, List.length_take, ← hd.length]
      exact small1000 (by omega)
    · rw [upd_ne (ne_of_none e hD)]
      exact s2 _ _ (sm b o e)
    · rw [upd_same, take_snoc hd1, List.map_append, List.map_append]
      rfl
  · obtain ⟨sm, eD⟩ := hp
    rw [show ds.take xs.length = ds from List.take_of_length_le (by rw [hd.length]; exact Nat.le_refl _)] at eD
    refine ⟨D, _, rfl, SqL.of eD, ?_⟩
    rw [List.all_map]
    exact q H1 sm⟩
end
/-! ### names and words are so -/
theorem txt_of {cs : List Nat} {signs : Str} {most : Nat} (h1 : 1 ≤ cs.length) (h2 : cs.length ≤ most) (h : ∀ c ∈ cs, c ∈ signs.cps.toList) : isTxt (SX.S cs) signs (most : Int) = true := by
  have e : ((SX.S cs).length : Int) = (cs.length : Int) := by rw [SX.S_len]
  unfold isTxt
  rw [e, decide_eq_true (show (1 : Int) ≤ (cs.length : Int) by omega), decide_eq_true (show (cs.length : Int) ≤ (most : Int) by omega)]
  show (cs.map fun c => decide (c ∈ signs.cps.toList)).all id = true
  rw [List.all_map]
  exact List.all_eq_true.mpr fun c hc => decide_eq_true (h c hc)
end Gj

/-! own layer: len(set(t)), t a tuple of texts -/
namespace Gj
open PySem PySem.Spec PyProof.Rows L2
open C8 (Cal pe_c pe_gc)
/-- how many unlike ones -/
def distinct : List Str → Nat
  | [] => 0
  | x :: l => if l.any (· == x) then distinct l else distinct l + 1
theorem distinct_le : ∀ l : List Str, distinct l ≤ l.length
  | [] => Nat.le_refl _
  | x :: l => by
    have := distinct_le l
    unfold distinct
    rw [List.length_cons]
    split <;> omega
theorem any_iff {l : List Str} {x : Str} : l.any (· == x) = true ↔ x ∈ l := by simp
theorem distinct_nodup : ∀ l : List Str, (distinct l = l.length) ↔ l.Nodup
  | [] => by simp [distinct]
  | x :: l => by
    have h1 := distinct_le l
    have ih := distinct_nodup l
    unfold distinct
    rw [List.length_cons, List.nodup_cons]
    by_cases h : l.any (· == x) = true
    · rw [if_pos h]
      exact ⟨fun e => by omega, fun e => absurd (any_iff.mp h) e.1⟩
    · rw [if_neg h]
      exact ⟨fun e => ⟨fun m => h (any_iff.mpr m), ih.mp (by omega)⟩, fun e => by rw [ih.mpr e.2]⟩
def taken (xs : List Str) (i : Nat) : List Str := (xs.take i).reverse
theorem taken_succ {xs : List Str} {i : Nat} {x : Str} (h : xs[i]? = some x) : taken xs (i + 1) = x :: taken xs i := by
  unfold taken
  rw [List.take_add_one, h, List.reverse_append]
  rfl
section
variable {prog : Program} {w : World} {A : Around} {R : Result → Shared → Prop} {I : Addr} {fp wr : List Addr} {G : Array GenState → Array GenState → Prop} {n : Nat} {P : Nat → Value → Prop} {Sx : Nat → Shared → Prop}
theorem loop_strs (W : WalksS prog w A.in1 I fp wr G n P Sx) (S : Addr) (hSf : S ∉ fp) (xs : List Str) (hsz : xs.length = n) (hn : n ≤ 1000) (hval : ∀ i v, P i v → ∃ t, v = .str (xs.getD i Str.empty) t) :
    ∀ (k i : Nat) (s : Shared), n - i = k → i ≤ n → Sx i s → s.heap.SetOf (PySem.strKind prog w) S (fun y => (taken xs i).any (· == y)) (distinct (taken xs i)) →
      (∀ s', Moved (S :: wr) G s s' → s'.heap.SetOf (PySem.strKind prog w) S (fun y => (taken xs n).any (· == y)) (distinct (taken xs n)) → R (.ok (.ret .none)) s') →
      codeAny (model prog w) A (.builtin "set.update.loop" ⟨[.ref S, .ref I], []⟩) R s
  | 0, i, s, hk, hi, hst, hS, hR => by
    have e : i = n := by omega
    subst e
    refine codeAny_builtin PyProof.Rows.F.entry_set_update_loop (by
      rw [Around.under_plainId PyProof.Rows.F.plain_set_update_loop _]
      exact wpAny_bind (W.done s _ _ hst fun s' hm => wpAny_pure (hR s' (hm.mono fun b hb => List.mem_cons_of_mem _ hb) (by
        obtain ⟨o, es, ep, t, ho, rest⟩ := hS
        exact ⟨o, es, ep, t, hm.heap S _ (fun h => hSf (W.sub _ h)) ho, rest⟩))))
  | k + 1, i, s, hk, hi, hst, hS, hR => by
    have hlt : i < n := by omega
    have hx : xs[i]? = some (xs.getD i Str.empty) := by rw [List.getD_eq_getElem?_getD, List.getElem?_eq_getElem (by omega)]; rfl
    refine codeAny_builtin PyProof.Rows.F.entry_set_update_loop ?_
    rw [Around.under_plainId PyProof.Rows.F.plain_set_update_loop _]
    refine wpAny_bind (m := pyNext (.ref I)) (W.item i s _ _ hlt hst fun v s' hP hst' hm => ?_)
    obtain ⟨t, rfl⟩ := hval i v hP
    have hS' : s'.heap.SetOf (PySem.strKind prog w) S (fun y => (taken xs i).any (· == y)) (distinct (taken xs i)) := by
      obtain ⟨o, es, ep, tb, ho, rest⟩ := hS
      exact ⟨o, es, ep, tb, hm.heap S _ (fun h => hSf (W.sub _ h)) ho, rest⟩
    have dl := distinct_le (taken xs i)
    have tl : (taken xs i).length ≤ 1000 := by
      unfold taken
      rw [List.length_reverse, List.length_take]
      omega
    refine wpAny_bind (m := holding [Value.str (xs.getD i Str.empty) t] (setAdd S (.str (xs.getD i Str.empty) t))) (wpAny_holding ?_)
    unfold setAdd
    refine wpAny_holding (wpAny_bind ((PySem.strKind prog w).pyHash (k := xs.getD i Str.empty) (strKind_is _ _ _ _) (wpAny_setAddHashed_of (knd := PySem.strKind prog w) (s := { s' with toks := s'.toks + 1 }) (strKind_is _ _ _ _) rfl hS' (by unfold scanBound; omega) fun h' hsb hS2 => ?_)))
    have hSi : h'.SetOf (PySem.strKind prog w) S (fun y => (taken xs (i + 1)).any (· == y)) (distinct (taken xs (i + 1))) := by
      rw [taken_succ hx]
      refine SetOf_congr hS2 (fun y => ?_) ?_
      · show ((taken xs i).any (· == y) || decide (y = xs.getD i Str.empty)) = ((xs.getD i Str.empty) == y || (taken xs i).any (· == y))
        rw [Bool.or_comm]
        congr 1
        by_cases e : y = xs.getD i Str.empty
        · rw [← e, decide_eq_true rfl, beq_self_eq_true]
        · rw [decide_eq_false e]
          exact (beq_eq_false_iff_ne.mpr fun z => e z.symm).symm
      · rfl
    refine wpAny_pure ⟨plainId_quiet PyProof.Rows.F.plain_set_update_loop _, loop_strs W S hSf xs hsz hn hval k (i + 1) _ (by omega) hlt (W.frame _ s' _ _ hst' (Nat.le_succ _) fun b hb o e => ?_) hSi fun s'' hm'' hS'' => hR s'' (Moved.trans W.gtrans ((hm.mono fun b hb => List.mem_cons_of_mem _ hb).then_heap (Nat.le_succ _) fun b o hb e => ?_) hm'') hS''⟩
    · exact (hsb.2 b fun h : b = S => hSf (h ▸ hb)).trans e
    · exact (hsb.2 b fun h : b = S => hb (h ▸ List.mem_cons_self)).trans e
end
section
variable {prog : Program} {w : World} {A : Around} {E : Value → Shared → Prop} {s : Shared}
/-- a new set, empty -/
abbrev set0 (led : Bool) : Obj := { cls := .type "set", dict := none, data := .set #[] 0 (.fresh 0 0 led) }
set_option maxHeartbeats 3200000 in
theorem call_set_tup {l : Addr} {items : Array Value} {xs : List Str} {Q : Value → Shared → Prop} (hh : A.handled = none) (hl : s.heap.IsTuple l items) (hi : PyProof.Rows.StrsAre items.toList xs) (hn : xs.length ≤ 1000)
    (h : ∀ (h' : Heap) (tk : Nat), h'.SetOf (PySem.strKind prog w) s.heap.objs.size (fun y => (taken xs xs.length).any (· == y)) (distinct (taken xs xs.length)) → (∀ b o, s.heap.get? b = some o → h'.get? b = some o) → Q (.ref s.heap.objs.size) { s with heap := h', toks := tk }) :
    wpAny (model prog w) A (call (.type "set") [.ref l]) Q E s := by
  obtain ⟨c, tl, hmro⟩ := PySem.F.called_set.mro
  have g1 := PySem.F.called_set.made; have g2 := PySem.F.called_set.sub; have g3 := PySem.F.called_set.notType; have g4 := PySem.F.called_set.canCreate; have g5 := PySem.F.typeCall_set_1 (.ref l)
  refine wpAny_call (codeAny_of_tree (show wpAny _ _ (callAny (.type "set") _) _ _ _ from wpAny_pure ⟨Code.quiet_builtin _ (by decide +kernel), codeAny_builtin PySem.F.entry_type_call ?_⟩))
  rw [Around.under_plain (weight_type_call_type "set" [.ref l] []) rfl]
  repeat (any_goals (first | assumption | wp_step))
  refine codeAny_mono (code_set_new_1 (.ref l) (E := E) (Q₁ := fun obj s₁ => ∃ led : Bool, obj = .ref s.heap.objs.size ∧ s₁ = { s with heap := s.heap.push (set0 led) }) fun led => ⟨led, rfl, rfl⟩) fun r s₁ hr => ?_
  cases r with
  | error e => exact hr
  | ok fl =>
    cases fl with
    | next => exact hr.elim
    | brk => exact hr.elim
    | cont => exact hr.elim
    | ret obj =>
      obtain ⟨led, rfl, rfl⟩ := hr
      have got : (s.heap.push (set0 led)).get? s.heap.objs.size = some (set0 led) := Heap.get?_push_size _ rfl
      have ty : Shared.TypeIs { s with heap := s.heap.push (set0 led) } (.ref s.heap.objs.size) "set" := ⟨_, got, rfl⟩
      have i1 := PySem.F.called_set.init.lookup; have i2 := PySem.F.called_set.init.bind (.ref s.heap.objs.size)
      repeat (any_goals (first | assumption | wp_step))
      refine codeAny_mono (codeAny_call_builtin (R := wants (fun r s₂ => r = .none ∧ ∃ h' tk, s₂ = { s with heap := h', toks := tk } ∧ h'.SetOf (PySem.strKind prog w) s.heap.objs.size (fun y => (taken xs xs.length).any (· == y)) (distinct (taken xs xs.length)) ∧ (∀ b o, s.heap.get? b = some o → h'.get? b = some o)) E) PySem.F.called_set.init.plain PySem.F.entry_set_init (check_set_init_1 ty ?_)) fun r₂ s₂ hr₂ => ?_
      · obtain ⟨⟨oc, od, dt, sl⟩, ho, hc, nl, hd⟩ := hl
        cases hc; cases hd
        have ho2 : (s.heap.push (set0 led)).get? l = some ⟨.type "tuple", od, .seq items nl, sl⟩ := Heap.get?_push_of_some _ ho
        have k1 := PySem.F.sub_tuple_set; have k2 := PySem.F.sub_tuple_frozenset
        have k3 : (Value.type "tuple" == Value.type "dict") = false := by decide
        have isT : (s.heap.push (set0 led)).IsTuple l items := ⟨_, ho2, rfl, nl, rfl⟩
        unfold Builtin.«set.__init__» noKeywords Builtin.Frozenset.updateFrom
        generalize hPI : pyIter = PI
        wp_walk
        subst hPI
        refine wpAny_pyIter_tuple isT (wpAny_bind (wpAny_runValue ?_))
        have lt : l < s.heap.objs.size := Heap.lt_size ho
        have ps : (s.heap.push (set0 led)).objs.size = s.heap.objs.size + 1 := Heap.size_push _ _
        have h3 : A.in1.in1.in1.handled = none := by simp [hh]
        have len : xs.length = items.size := by rw [← StrsAre.len_eq hi, Array.length_toList]
        refine loop_strs ((Walks.tuple h3 _ l (by rw [ps]; exact Nat.ne_of_lt (Nat.lt_succ_of_lt lt)) items).toS) s.heap.objs.size (by rw [ps]; simp only [List.mem_cons, List.not_mem_nil, or_false, not_or]; exact ⟨Nat.ne_of_lt (Nat.lt_succ_self _), Nat.ne_of_gt lt⟩) xs len (by omega) (fun i v hv => SS.strs_at hi i v (by rw [Array.getElem?_toList]; exact hv)) (items.size - 0) 0 _ (by omega) (Nat.zero_le _)
          ⟨⟨_, Heap.get?_push_size _ rfl, rfl, rfl⟩, isT.push _⟩ ?z0 ?z1
        case z0 => exact PyProof.Rows.SetOf_congr ((PyProof.Rows.setObjOf_fresh (knd := PySem.strKind prog w) led).setOf (Heap.get?_push_of_some _ got) (by unfold scanBound; omega)) (fun _ => rfl) rfl
        case z1 =>
          intro s' hm hS'
          obtain ⟨h', g', d', tk', os'⟩ := s'
          obtain rfl : g' = s.gens := hm.gens
          obtain rfl : d' = s.drawn := hm.drawn
          obtain rfl : os' = s.os := hm.os
          rw [← len] at hS'
          have hb : ∀ {b : Addr} {o : Obj}, s.heap.get? b = some o → b < s.heap.objs.size := fun e => Heap.lt_size e
          refine wpAny_pure ?_
          show wpAny _ _ (ret Value.none) _ _ _
          exact wpAny_pure ⟨rfl, h', tk', rfl, hS', fun b o e => hm.heap b o (by rw [ps]; simp only [List.mem_cons, List.not_mem_nil, or_false, not_or]; exact ⟨Nat.ne_of_lt (hb e), Nat.ne_of_lt (Nat.lt_succ_of_lt (hb e))⟩) (Heap.get?_push_of_some _ (Heap.get?_push_of_some _ e))⟩
      · cases r₂ with
        | error e => exact hr₂
        | ok fl₂ =>
          cases fl₂ with
          | next => exact hr₂.elim
          | brk => exact hr₂.elim
          | cont => exact hr₂.elim
          | ret r =>
            obtain ⟨rfl, h', tk, rfl, hS', hk'⟩ := hr₂
            repeat (any_goals (first | assumption | wp_step))
            exact h _ _ hS' hk'
end
end Gj

namespace Gj
open PySem PySem.Spec PyProof.Rows L2
open C8 (Cal pe_c pe_gc)
/-- the set of these texts at a -/
def StrSet (P : Program) (w : World) (a : Addr) (xs : List Str) : HO := .ext fun h => h.SetOf (PySem.strKind P w) a (fun y => (taken xs xs.length).any (· == y)) (distinct (taken xs xs.length))
theorem strSet_ok {P : Program} {w : World} {H : Hp} {h : Heap} {a : Addr} {xs : List Str} (hS : h.SetOf (PySem.strKind P w) a (fun y => (taken xs xs.length).any (· == y)) (distinct (taken xs xs.length))) : ObjOk P w H h a (StrSet P w a xs) := by
  obtain ⟨o, es, ep, t, ho, rest⟩ := hS
  exact ⟨⟨o, es, ep, t, ho, rest⟩, ⟨o, ho⟩, fun h1 h2 z k => by
    obtain ⟨o, es, ep, t, ho, rest⟩ := z
    exact ⟨o, es, ep, t, k _ ho, rest⟩⟩
theorem strs_of : ∀ {ys : List Str} {us : List Value}, Vals (ys.map V.str) us → PyProof.Rows.StrsAre us ys
  | [], _, .nil => .nil
  | y :: ys, _, .cons r t => by
    obtain ⟨k, rfl⟩ := r
    exact .cons y k (strs_of t)
section
variable {X : Cx}
/-- set(t) -/
def rSetS (P : Program) (w : World) (K : PySem.W.Frag) : List V → Hp → VK → Prop := fun vs H Q => ∃ (l : Addr) (xs : List Str), vs = [.ref l] ∧ SqT K H l (xs.map V.str) ∧ xs.length ≤ 1000 ∧ ∀ a, H a = none → Q (.ref a) (upd H a (StrSet P w a xs))
theorem call_setS (hc : X.calm = true) : CallR X (.type "set") (rSetS X.prog X.w X.K) := by
  intro pins s σ H xs us Q I r h
  obtain ⟨l, ys, rfl, hq, hn, q⟩ := h
  obtain ⟨u, rfl, rfl⟩ := vals1 r
  obtain ⟨its, rv, pl, _⟩ := I.tuple hq
  have nf : H s.heap.objs.size = none := I.hok.fresh (Nat.le_refl _)
  exact call_set_tup (I.ok.hd hc) pl (by simpa using strs_of rv) hn fun h' tk hS hk => ⟨.ref _, _, I.laid (t' := tk) hk (Nat.le_refl _) (strSet_ok hS), rfl, q _ nf⟩
/-- len(s) -/
def rLenS (P : Program) (w : World) : List V → Hp → VK → Prop := fun vs H Q => ∃ (a : Addr) (xs : List Str), vs = [.ref a] ∧ H a = some (StrSet P w a xs) ∧ xs.length ≤ 1000 ∧ Q (.int (distinct (taken xs xs.length))) H
theorem call_lenS : CallR X (.builtin "len") (rLenS X.prog X.w) := by
  intro pins s σ H xs us Q I r h
  obtain ⟨a, ys, rfl, ea, hl, q⟩ := h
  obtain ⟨u, rfl, rfl⟩ := vals1 r
  obtain ⟨⟨o, es, ep, t, ho, hex, hd, _, _, _, hf, hn⟩, _, _⟩ := I.hok a _ ea
  have small := distinct_le (taken ys ys.length)
  refine call_len_set ho hex hd hf ?_ ⟨.int _, H, I.tok _, ⟨_, by rw [hn]⟩, q⟩
  have e : (taken ys ys.length).length = ys.length := by simp [taken]
  rw [hn]
  omega
end
end Gj

namespace Gj
open PySem PySem.Spec PyProof.Rows L2
open C8 (Cal pe_c pe_gc)
abbrev sLetters : Str := "abcdefghijklmnopqrstuvwxyz"
abbrev sFigures : Str := "0123456789"
structure Gs (K : PySem.W.Frag) (mg : Str → Option Value) : Prop where
  LETTERS : ∃ u, mg "LETTERS" = some u ∧ RelV (.str sLetters) u
  FIGURES : ∃ u, mg "FIGURES" = some u ∧ RelV (.str sFigures) u
  SORTS : ∃ a, mg "SORTS" = some (.ref a) ∧ ∀ H, SqT K H a [.str "came", .str "short", .str "ask", .str "row"]
/-! ### the mirror -/
def mName : PyData → Bool := mTxt sLetters 8
def mWord : PyData → Bool := mTxt (sLetters ++ sFigures) 12
def mWhole (d : PyData) (n : Int) : Bool := match d with
  | .int i => decide (n ≤ i)
  | _ => false
def atD (d : PyData) (k : Nat) (f : PyData → Bool) : Bool := match d with
  | .tuple ds => (ds[k]?.map f).getD false
  | _ => false
def lenD (d : PyData) (n : Int) : Bool := match d with
  | .tuple ds => decide ((ds.length : Int) = n)
  | _ => false
def mPair (d : PyData) (n : Int) : Bool := lenD d 2 && (atD d 0 mName && atD d 1 fun e => mWhole e n)
def sorts : List Str := ["came", "short", "ask", "row"]
def mSort (d : PyData) : Bool := mName d && sorts.any fun z => isT d z
def strsOf (ds : List PyData) : List Str := ds.filterMap fun d => match d with
  | .str z => some z
  | _ => none
def mShut (d : PyData) : Bool := match d with
  | .tuple ds => ds.all mName && decide (distinct (taken (strsOf ds) (strsOf ds).length) = (strsOf ds).length)
  | _ => false
def mBegins (d : PyData) (k : Str) (n : Int) : Bool := lenD d n && (atD d 0 mName && atD d 0 fun e => isT e k)
def mLetter (d : PyData) : Bool := mBegins d "letter" 4 && (atD d 1 mName && (atD d 2 mName && atD d 3 mWord))
def mEcho (d : PyData) : Bool := mBegins d "echo" 5 && (atD d 1 mName && (atD d 2 mName && (atD d 3 mSort && atD d 4 fun e => mPair e 0)))
def mAnswer (d : PyData) : Bool := mBegins d "answer" 5 && (atD d 1 mName && (atD d 2 mSort && ((atD d 3 fun e => mPair e 0) && atD d 4 fun e => mPair e 1)))
def mGoer (d : PyData) : Bool := mBegins d "goer" 4 && (atD d 1 mName && ((atD d 2 fun e => mWhole e 2) && atD d 3 mShut))
def mParcel (d : PyData) : Bool := mLetter d || mEcho d
def mThing (d : PyData) : Bool := mParcel d || (mAnswer d || mGoer d)
def spTextD : Sp := fun vs H Q _ => ∃ (p : Addr) (v : V) (d : PyData) (signs : Str) (most : Int), vs = [v, .str signs, .int most] ∧ Dt p H v d ∧ ∀ H', Same H H' → Q (.bl (mTxt signs most d)) H'
def spBegins : Sp := fun vs H Q _ => ∃ (p : Addr) (v : V) (d : PyData) (k : Str) (n : Int), vs = [v, .str k, .int n] ∧ Dt p H v d ∧ 1 ≤ n ∧ ∀ H', Same H H' → Q (.bl (mBegins d k n)) H'
/-- a datum that is a tuple -/
theorem tup_of {p : Addr} {H : Hp} {v : V} {d : PyData} (h : Dt p H v d) (e : isa d "tuple" = true) : ∃ c xs ds, v = .ref c ∧ d = .tuple ds ∧ H c = some (.tup xs) ∧ xs.length ≤ 1000 ∧ DtAll p H xs ds := by
  cases h with
  | tup n z e2 h => exact ⟨_, _, _, rfl, rfl, e2, z, h⟩
  | _ => exact absurd e (by dsimp only [isa, kind]; decide +kernel)
theorem tup_len {p : Addr} {H : Hp} {v : V} {d : PyData} {n : Int} (h : Dt p H v d) (e : lenD d n = true) : ∃ c xs ds, v = .ref c ∧ d = .tuple ds ∧ (ds.length : Int) = n ∧ H c = some (.tup xs) ∧ xs.length ≤ 1000 ∧ DtAll p H xs ds := by
  cases h with
  | tup n z e2 h => exact ⟨_, _, _, rfl, rfl, of_decide_eq_true e, e2, z, h⟩
  | _ => exact absurd e (by simp [lenD])
section
variable {σ : L2.St} {H : Hp} {te : TE} {K : PySem.W.Frag} {p c : Addr} {xs : List V} {ds : List PyData} {E : XK}
theorem giv_at {k : Nat} (h : Giv te σ H (.ref c)) (e : H c = some (.tup xs)) (hd : DtAll p H xs ds) (hk : k < ds.length) : ∃ x d, Giv (tOp (rIxT K) te (tC (.int (k : Nat)))) σ H x ∧ Dt p H x d ∧ ds[k]? = some d := by
  have hx : xs[k]? = some (xs[k]'(by rw [hd.length]; exact hk)) := List.getElem?_eq_getElem _
  obtain ⟨d, h1, h2⟩ := hd.get hx
  exact ⟨_, d, giv_ixT h e hx, h2, h1⟩
theorem say_callAt {k : Nat} {f : PyData → Bool} (h : Giv te σ H (.ref c)) (e : H c = some (.tup xs)) (hd : DtAll p H xs ds) (hk : k < ds.length) : Say (tCall (spPred f) [] E (tCons (tOp (rIxT K) te (tC (.int (k : Nat)))) tNil)) σ H (atD (.tuple ds) k f) := by
  obtain ⟨x, d, g, hx, ek⟩ := giv_at (K := K) h e hd hk
  have : atD (.tuple ds) k f = f d := by
    show ((ds[k]?.map f).getD false) = f d
    rw [ek]
    rfl
  rw [this]
  exact say_call g hx
theorem say_callNAt {k : Nat} {n : Int} {f : PyData → Int → Bool} {tn : TE} (h : Giv te σ H (.ref c)) (hn : Giv tn σ H (.int n)) (e : H c = some (.tup xs)) (hd : DtAll p H xs ds) (hk : k < ds.length) : Say (tCall (spPredN f) [] E (tCons (tOp (rIxT K) te (tC (.int (k : Nat)))) (tCons tn tNil))) σ H (atD (.tuple ds) k fun e => f e n) := by
  obtain ⟨x, d, g, hx, ek⟩ := giv_at (K := K) h e hd hk
  have : (atD (.tuple ds) k fun e => f e n) = f d n := by
    show ((ds[k]?.map fun e => f e n).getD false) = f d n
    rw [ek]
    rfl
  rw [this]
  exact say_callN g hn hx
end
theorem strs_all {p : Addr} {H : Hp} : ∀ {xs : List V} {ds : List PyData}, DtAll p H xs ds → ds.all mName = true → xs = (strsOf ds).map V.str ∧ ds = (strsOf ds).map PyData.str
  | _, _, .nil, _ => ⟨rfl, rfl⟩
  | _, _, .cons (d := d) (ds := ds) a b, h => by
    rw [List.all_cons, Bool.and_eq_true] at h
    obtain ⟨h1, h2⟩ := strs_all b h.2
    cases a with
    | str z hz => exact ⟨congrArg (fun t => V.str z :: t) h1, congrArg (fun t => PyData.str z :: t) h2⟩
    | _ => exact absurd h.1 (by simp [mName, mTxt])
end Gj

/-! own layer: functions called where no repr is under way -/
namespace Gj
open PySem PySem.Spec PyProof.Rows L2
open C8 (Cal pe_c pe_gc)
/-- as FnOk, but only where no repr is under way -/
structure FnG (P : Program) (w : World) (K : PySem.W.Frag) (mg : Str → Option Value) (base : Heap) (CX : CXT) (k : Nat) (f : Addr) (fd : FuncData) (ps : List Str) (sp : Sp) : Prop where
  len : ∀ vs H Q E, sp vs H Q E → vs.length = ps.length
  run : ∀ (A : Around) (outer : List Env) (s : Shared) (H : Hp) (args : Args) (us : List Value) (vs : List V) (Q : VK) (E : XK), A.guards = some [] → Room k A → Env0 P w K mg base A outer s H → BindsTo s fd args (ps.zip us) → Vals vs us → sp vs H Q E →
    codeAny (model P w) A (.call (.ref f) args) (CR CX outer P w H s Q E) s
section
variable {P : Program} {w : World} {K : PySem.W.Frag} {mg : Str → Option Value} {base : Heap}
theorem fnG {CX : CXT} {x q : Str} {st : Stmt} {f : Addr} {fd : FuncData} {N ps : List Str} {k : Nat} {sp : Sp} (F : Fun K x q st f fd) (S : FnScope N ps (defScope st)) (len : ∀ vs H Q E, sp vs H Q E → vs.length = ps.length)
    (hb : ∀ (cdv : Value) (A : Around) (outer : List Env) (s : Shared) (H : Hp) (vs : List V) (Q : VK) (E : XK), A.guards = some [] → Room k (A.deeper (envOfC q (defScope st) s.heap.objs.size f cdv)) → sp vs H Q E →
      ∃ t, PSs (cxOf CX P w K mg base N q (defScope st) f cdv A outer s H E) (defBody st) t ∧ t { nx := fun _ H' => Q .non H', rt := Q } (start N vs) H) : FnG P w K mg base CX (k + 1) f fd ps sp := by
  obtain ⟨oc, od, kV, doc, pm, an, cdv, ct, osl, rfl, lk, hcd⟩ := F.ex
  refine ⟨len, fun A outer s H args us vs Q E hg hr e0 hbi r hsp => ?_⟩
  have lv := len _ _ _ _ hsp
  have kx : K.In s.heap := e0.mod.kin.keeps fun b o z => (e0.bs b o z).1
  have nl : s.heap.NoLimit := e0.mod.nolimit.keeps fun b o z => (e0.bs b o z).1
  have kinds : ∀ y ∈ ps.zip us, (defScope st).names.lookup y.1 = some .local ∨ ((defScope st).names.lookup y.1 = some .cell ∧ ((cellsFrom (s.heap.objs.size + 1) (defScope st).names []).lookup y.1).isSome = true) := fun ⟨n, v⟩ hy =>
    (S.par n (List.of_mem_zip hy).1).imp (fun z => z) fun z => ⟨z, PySem.W.cellsFrom_some _ _ _ (.inl z)⟩
  refine codeAny_call_function hr.depth (kx _ _ lk) rfl S.co S.gen rfl (PySem.W.codeRec_of kx hcd) (hbi _ _ _ _ ?_)
  refine wpAny_newFunctionEnv_cells S.kind kinds fun env he s1 y => ?_
  cases he
  refine ⟨nl.keeps y.toInCall.keep, codeAny_func ?_⟩
  obtain ⟨t, ht, hq⟩ := hb cdv A outer s H vs Q E hg (hr.deeper _) hsp
  refine wpAny_mono (ht.run [] s1 (start N vs) H _ (inv_start S hr.hd e0 lv r y) hq) (fun fl s' z => ?_) fun e s' z => z
  cases fl with
  | ret u =>
    obtain ⟨v, σ2, H2, J, rv, q2⟩ := z
    exact ⟨v, H2, J.os, J.bare, J.base, J.hok, rv, q2⟩
  | next =>
    obtain ⟨σ2, H2, J, q2⟩ := z
    exact ⟨V.non, H2, J.os, J.bare, J.base, J.hok, rfl, q2⟩
  | brk => exact (let ⟨_, _, _, v⟩ := z; False.elim v)
  | cont => exact (let ⟨_, _, _, v⟩ := z; False.elim v)
end
/-- a def by its name, called where no repr is under way -/
structure CalG (P : Program) (w : World) (K : PySem.W.Frag) (mg : Str → Option Value) (base : Heap) (k : Nat) (x : Str) (sp : Sp) : Prop where
  ex : ∃ f fd ps, FnG P w K mg base CX0 k f fd ps sp ∧ mg x = some (.ref f) ∧ PySem.W.keepIn K (.ref f) = true ∧ Binds K fd ps []
section
variable {X : Cx} {k j : Nat} {x : Str} {sp : Sp} {p pos : Pos} {e : Expr} {es : List Expr} {t : TA}
theorem pe_cG (c : CalG X.prog X.w X.K X.mg X.base k x sp) (hg0 : X.A.guards = some []) (hr : Room j X.A) (hk : k ≤ j) (hg : Gl X x) (ha : PA X (e :: es) t)
    (hdb : (x == ("__debug__" : Str)) = false := by decide) (he : starEach (e :: es) X.env = (false, eval e X.env) :: starEach es X.env := by rfl) (hpl : (backTo pos (starEach es X.env)).any (·.1) = false := by rfl) :
    PE X (.Call (.Name x p) (e :: es) [] pos) (tCall sp [] C8.E0 t) := by
  obtain ⟨f, fd, ps, F, hm, kp, b⟩ := c.ex
  refine ⟨fun pins s σ H Q I h => ?_⟩
  refine wpAny_Call_Name_kw (ld_glob I hg hm ?_ hdb)
  refine PySem.W.callWith_K (h₀ := X.base) I.ok.mod.kin kp (thn (ha.run pos pins s σ H _ I h) fun us s1 ⟨vs, H1, I1, r, q⟩ => ⟨I1.kIn, ?_⟩) he hpl
  have r2 : Vals (vs ++ []) (us ++ []) := r.append .nil
  have hl : (us ++ []).length = ps.length := by rw [← r2.length]; exact F.len _ _ _ _ q
  refine wpAny_call (codeAny_mono (F.run X.A X.stack s1 H1 ⟨us, []⟩ (us ++ []) (vs ++ []) Q C8.E0 hg0 (hr.mono hk) I1.env0 (b s1 us I1.kIn hl) r2 q) fun r s' z => ?_)
  cases r with
  | error er => exact pass0 pins σ H1 s1 er s' I1 z
  | ok fl =>
    cases fl with
    | ret u => exact I1.after z
    | next => exact z.elim
    | brk => exact z.elim
    | cont => exact z.elim
end
/-! ### the law itself -/
section
variable {P : Program} {w : World} {K : PySem.W.Frag} {mg mb : Str → Option Value} {k : Nat} {fa a : Addr} {fd : FuncData} {x : Str} {sp : Sp} {z : Shared} {vs : List Value} {ns : List Int}
/-- .. from an abstract heap that tracks the script alone, or nothing -/
theorem lawG_at (kx : K.In z.heap) (g : z.heap.Ns mainGlobals mg) (hb : z.heap.Ns builtinsNs mb) (hbb : ∀ y : Str, y ≠ "__name__" → mb y = bootBuiltins y) (lim : z.heap.NoLimit) (hg : z.gens = #[])
    (ea : z.heap.get? a = some { cls := .type "list", data := .seq vs.toArray }) (hr : Room k callerA)
    (F : ∀ base : Heap, K.In base → base.Ns mainGlobals mg → FnG P w K mg base CX0 k fa fd [x] sp) (bind : ∀ (s : Shared) (u : Value), BindsTo s fd ⟨[u], []⟩ [(x, u)])
    (H : Hp) (only : Only H) (hp : sp [.ref a] H (fun v _ => v = .bl true) fun _ _ _ => False) (ok : HOk P w H z.heap) (al : ∀ b u, H b = some u → b = a) (nk : ∀ u, H a = some u → K.lookup a = none) :
    codeAny (model P w) callerA (.call (.ref fa) ⟨[.ref a], []⟩) (fun r s' => r = .ok (.ret (.bool true)) ∧ OldK z.heap s'.heap ∧ s'.os = z.os ∧ AllBare s'.gens) z := by
  have none_of : ∀ b, (b = a → False) → H b = none := fun b nb => by
    cases e : H b with
    | none => rfl
    | some u => exact (nb (al b u e)).elim
  have nsB : ∀ {b : Addr} {m : Str → Option Value}, z.heap.Ns b m → (hidT z.heap H).Ns b m := fun {b m} ⟨o, es, ep, e, d, r⟩ => ⟨o, es, ep, hidT_get e (none_of b fun eb => by
    subst eb
    cases ea.symm.trans e
    cases (show Data.seq vs.toArray _ = Data.dict es ep from d)), d, r⟩
  have kb : K.In (hidT z.heap H) := fun b o e => hidT_get (kx b o e) (by
    cases q : H b with
    | none => rfl
    | some u =>
      have eb := al b u q
      subst eb
      rw [nk u q] at e
      cases e)
  have e0 : Env0 P w K mg (hidT z.heap H) callerA [] z H := ⟨rfl, ⟨kb, nsB g, ⟨mb, nsB hb, hbb⟩, let ⟨c, l1, l2⟩ := lim; ⟨c, nsB l1, l2⟩⟩, fun b o e => of_hidT e, Nat.le_of_eq (hidT_size _ _), trivial, fun b hb => absurd (show b ∈ ([] : List Addr) from hb) (by simp), ok, .of_eq hg⟩
  refine codeAny_mono ((F _ kb (nsB g)).run callerA [] z H ⟨[.ref a], []⟩ [.ref a] [.ref a] _ _ rfl hr e0 (bind z (.ref a)) (.cons rfl .nil) hp) fun r s' h => ?_
  cases r with
  | error e => exact (show False from h).elim
  | ok fl =>
    cases fl with
    | next => exact h.elim
    | brk => exact h.elim
    | cont => exact h.elim
    | ret u =>
      obtain ⟨v, H2, os, bare, un, ok2, rv, rfl⟩ := h
      cases rv
      refine ⟨rfl, OldK.of_keep fun b o e => ?_, os, bare⟩
      rcases only b with q | ⟨ob, xs, q⟩
      · exact un.keep b o e q (fun m => absurd (show b ∈ ([] : List Addr) from m) (by simp)) (by simp)
      · have f1 := (ok b _ q).1
        have f2 := (ok2 b _ (un.frzs b ob _ q)).1
        cases e.symm.trans f1
        exact f2
theorem lawG (kx : K.In z.heap) (g : z.heap.Ns mainGlobals mg) (hb : z.heap.Ns builtinsNs mb) (hbb : ∀ y : Str, y ≠ "__name__" → mb y = bootBuiltins y) (lim : z.heap.NoLimit) (hg : z.gens = #[])
    (ea : z.heap.get? a = some { cls := .type "list", data := .seq vs.toArray }) (hi : IntsAre vs ns) (hl : ns.length ≤ sizeLine) (hr : Room k callerA)
    (F : ∀ base : Heap, K.In base → base.Ns mainGlobals mg → FnG P w K mg base CX0 k fa fd [x] sp) (bind : ∀ (s : Shared) (u : Value), BindsTo s fd ⟨[u], []⟩ [(x, u)])
    (hp : ∀ H : Hp, Only H → SqL K H a (ns.map V.int) → sp [.ref a] H (fun v _ => v = .bl true) fun _ _ _ => False) :
    codeAny (model P w) callerA (.call (.ref fa) ⟨[.ref a], []⟩) (fun r s' => r = .ok (.ret (.bool true)) ∧ OldK z.heap s'.heap ∧ s'.os = z.os ∧ AllBare s'.gens) z := by
  have rv := vals_ints hi
  have ln := hi.length
  cases hk : K.lookup a with
  | some o =>
    have o1 : Only (fun _ => none) := fun _ => .inl rfl
    cases ea.symm.trans (kx a o hk)
    exact lawG_at kx g hb hbb lim hg ea hr F bind (fun _ => none) o1 (hp _ o1 (.inr ⟨_, vs.toArray, _, hk, rfl, rfl, rfl, by rw [List.size_toArray, ln]; exact hl, by simpa using rv⟩)) (fun b u e => by cases e) (fun b u e => by cases e) fun u e => by cases e
  | none =>
    let H0 : Hp := fun b => if b = a then some (.frz { cls := .type "list", data := .seq vs.toArray } (.lst (ns.map V.int))) else none
    have at_ : ∀ b u, H0 b = some u → b = a ∧ u = .frz { cls := .type "list", data := .seq vs.toArray } (.lst (ns.map V.int)) := fun b u e => by
      by_cases eb : b = a
      · exact ⟨eb, (Option.some.inj ((if_pos eb).symm.trans e)).symm⟩
      · cases (if_neg eb).symm.trans e
    have o1 : Only H0 := fun b => by
      by_cases eb : b = a
      · exact .inr ⟨_, _, if_pos eb⟩
      · exact .inl (if_neg eb)
    refine lawG_at kx g hb hbb lim hg ea hr F bind H0 o1 (hp _ o1 (.inl (.inr ⟨{ cls := .type "list", data := .seq vs.toArray }, if_pos rfl⟩))) (fun b u e => ?_) (fun b u e => (at_ b u e).1) fun _ _ => hk
    obtain ⟨rfl, rfl⟩ := at_ b u e
    exact ⟨ea, by rw [List.length_map]; exact hl, vs, _, rv, ea⟩
end
theorem walkG {l : PySem.W.OpenLaw} {n k : Nat} {q : Program} {loose : List Str} {XP : (Str → Option Value) → Heap → Prop} {YP : World → Heap → Prop} {d : DefRec} {x : Str}
    (hn : l.most = some n) (hn2 : n ≤ sizeLine) (hdf : d.params.defaults = []) (hr : Room k callerA)
    (F : ∀ (w : World) (mg : Str → Option Value) (fa : Addr) (h : Heap), YP w h → h.Ns mainGlobals mg → mg d.name = some (.ref fa) →
      ∃ (K : PySem.W.Frag) (fd : FuncData) (sp : Sp), K.In h ∧ (∀ (s : Shared) (u : Value), BindsTo s fd ⟨[u], []⟩ [(x, u)]) ∧
        (∀ (H : Hp) (a : Addr) (ns : List Int), ns.length ≤ n → Only H → SqL K H a (ns.map V.int) → sp [.ref a] H (fun v _ => v = .bl true) fun _ _ _ => False) ∧ ∀ base : Heap, K.In base → base.Ns mainGlobals mg → FnG l.prog w K mg base CX0 k fa fd [x] sp) :
    PySem.W.WalkO q loose XP YP l.row.toRowW d [] (fun f vs => PySem.call f vs) := by
  refine Att.attach_call hn hdf fun w s0 s1 mg mb fa o pm cd doc a vs ns G Y ho hd hcd hmg hobj hints hlen hg => ?_
  obtain ⟨K, fd, sp, kx, hb, hsp, hF⟩ := F w mg fa _ Y G.T.g hmg
  exact lawG kx G.T.g G.T.b G.T.builtins G.T.nolimit hg hobj hints (Nat.le_trans hlen hn2) hr hF hb fun H hO hS => hsp H a ns hlen hO hS
end Gj

/-! own layer: defs by name called by place or by keywords; repr and str of data -/
namespace Gj
open PySem PySem.Spec PyProof.Rows L2
open C8 (Cal pe_c pe_gc)
/-- a def by its name, with its text -/
def CalF (P : Program) (w : World) (K : PySem.W.Frag) (mg : Str → Option Value) (base : Heap) (k : Nat) (x : Str) (st : Stmt) (ps : List Str) (sp : Sp) : Prop :=
  ∃ f fd, Fun K x x st f fd ∧ FnOk P w K mg base CX0 k f fd ps sp ∧ mg x = some (.ref f)
section
variable {P : Program} {w : World} {K : PySem.W.Frag} {mg : Str → Option Value} {base : Heap} {x : Str} {st : Stmt} {ps : List Str} {k : Nat} {sp : Sp}
theorem mkCalF {N : List Str} (D : DefAt K mg x st) (S : FnScope N ps (defScope st)) (len : ∀ vs H Q E, sp vs H Q E → vs.length = ps.length)
    (hbody : ∀ (f : Addr) (cdv : Value) (A : Around) (outer : List Env) (s : Shared) (H : Hp) (vs : List V) (Q : VK) (E : XK), Room k (A.deeper (envOfC x (defScope st) s.heap.objs.size f cdv)) → sp vs H Q E →
      ∃ t, PSs (cxOf CX0 P w K mg base N x (defScope st) f cdv A outer s H E).nox (defBody st) t ∧ t { nx := fun _ H' => Q .non H', rt := Q } (start N vs) H) : CalF P w K mg base (k + 1) x st ps sp := by
  obtain ⟨f, fd, F, g⟩ := D
  exact ⟨f, fd, F, F.ok S len (hbody f), g⟩
theorem CalF.cal (c : CalF P w K mg base k x st ps sp) (hb : ∀ (kV doc pm : Value) (an : Option Addr) (cdv ct : Value) (us : List Value), us.length = ps.length → bindArgs (PySem.W.fnOf x x (defArgs st) (defBody st) (defScope st) .none kV doc pm an cdv ct) ⟨us, []⟩ = pure (ps.zip us)) : Cal P w K mg base k x sp [] := by
  obtain ⟨f, fd, F, h, g⟩ := c
  exact ⟨f, fd, ps, [], h, g, F.kp, F.binds hb, .nil⟩
/-- .. by keywords alone, in the order ks -/
def CalK (P : Program) (w : World) (K : PySem.W.Frag) (mg : Str → Option Value) (base : Heap) (k : Nat) (x : Str) (sp : Sp) (ks : List Str) (gV : List V → List V) : Prop :=
  ∃ (f : Addr) (fd : FuncData) (ps : List Str) (g : List Value → List Value), FnOk P w K mg base CX0 k f fd ps sp ∧ mg x = some (.ref f) ∧ PySem.W.keepIn K (.ref f) = true ∧ KBn K fd ps 0 ks (fun _ ws => g ws) (fun _ zs => gV zs)
theorem CalF.kw (c : CalF P w K mg base k x st ps sp) {ks : List Str} {g : List Value → List Value} {gV : List V → List V}
    (hb : ∀ (kV doc pm : Value) (an : Option Addr) (cdv ct : Value) (ws : List Value), ws.length = ks.length → bindArgs (PySem.W.fnOf x x (defArgs st) (defBody st) (defScope st) .none kV doc pm an cdv ct) ⟨[], ks.zip ws⟩ = pure (ps.zip (g ws)))
    (hv : ∀ {zs : List V} {ws : List Value}, Vals zs ws → Vals (gV zs) (g ws)) : CalK P w K mg base k x sp ks gV := by
  obtain ⟨f, fd, F, h, e⟩ := c
  refine ⟨f, fd, ps, g, h, e, F.kp, ⟨fun s us ws kx l1 l2 => ?_, fun _ rz => hv rz⟩⟩
  obtain ⟨oc, od, kV, doc, pm, an, cdv, ct, osl, rfl, lk, hcd⟩ := F.ex
  cases us with
  | nil => exact BindsTo.of_looks fun M => PySem.W.Looks.of_pure (hb kV doc pm an cdv ct ws l2)
  | cons _ _ => cases l1
end
section
variable {X : Cx} {k j : Nat} {x : Str} {sp : Sp} {p pos : Pos} {kws : List Keyword} {ks : List Str} {gV : List V → List V} {tk : TA}
def tCallK0 (n : Nat) (sp : Sp) (gV : List V → List V) (tk : TA) : TE := fun σ H Q => tk σ H fun zs H2 => zs.length = n ∧ sp (gV zs) H2 Q C8.E0
/-- f(k = v, ..) -/
theorem pe_ck (c : CalK X.prog X.w X.K X.mg X.base k x sp ks gV) (hr : Room j X.A) (hk : k ≤ j) (hg : Gl X x) (hkw : PK X kws tk)
    (hall : (backToKw pos (keywordEach kws X.env)).all (·.1.isSome) = true := by rfl) (hks : (backToKw pos (keywordEach kws X.env)).filterMap (·.1) = ks := by rfl) (hdb : (x == ("__debug__" : Str)) = false := by decide)
    (hpl : ((backTo pos (starEach [] X.env)).any (·.1) || (backToKw pos (keywordEach kws X.env)).any (·.1.isNone)) = false := by rfl) :
    PE X (.Call (.Name x p) [] kws pos) (tCallK0 ks.length sp gV tk) := by
  obtain ⟨f, fd, ps, g, F, hm, kp, hb⟩ := c
  refine ⟨fun pins s σ H Q I h => ?_⟩
  refine wpAny_Call_Name_kw (ld_glob I hg hm ?_ hdb)
  refine PySem.W.callWith_KW0 (h₀ := X.base) I.ok.mod.kin kp hall ?_ hpl
  refine thn (hkw.run pos pins s σ H _ I h) fun ws s2 ⟨zs, H2, I2, rz, l2, q2⟩ => ⟨I2.kIn, ?_⟩
  rw [hks]
  exact run_fnN (us := []) (vs := []) F (hr.mono hk) hb pass0 I2 .nil rz rfl l2 q2
end
/-! ### repr of data -/
section
mutual
theorem Dt.dp {K : PySem.W.Frag} {p : Addr} {H : Hp} : ∀ {v : V} {d : PyData}, Dt p H v d → d.hasDict = false → Dp K H v d
  | _, _, .non, _ => .non
  | _, _, .bl b, _ => .bl b
  | _, _, .int i, _ => .int i
  | _, _, .str x _, _ => .str x
  | _, _, .lst _ _ e h, z => .lst (SqL.of e) (DtAll.dp h (by simpa only [PyData.hasDict] using z))
  | _, _, .tup _ _ e h, z => .tup (SqT.of e) (DtAll.dp h (by simpa only [PyData.hasDict] using z))
  | _, _, .dic _ _, z => absurd z (by simp [PyData.hasDict])
theorem DtAll.dp {K : PySem.W.Frag} {p : Addr} {H : Hp} : ∀ {vs : List V} {ds : List PyData}, DtAll p H vs ds → PyData.hasDictAll ds = false → DpAll K H vs ds
  | _, _, .nil, _ => .nil
  | _, _, .cons a b, z => by
    rw [PyData.hasDictAll, Bool.or_eq_false_iff] at z
    exact .cons (Dt.dp a z.1) (DtAll.dp b z.2)
end
/-- data that repr tells in one piece -/
structure Shows (d : PyData) : Prop where
  show1 : d.showable = true
  nod : d.hasDict = false
  deep : d.depth ≤ 8
  size : d.shown.length ≤ sizeLine
def rReprD (K : PySem.W.Frag) : List V → Hp → VK → Prop := fun xs H Q => ∃ a d, xs = [.ref a] ∧ Dp K H (.ref a) d ∧ Shows d ∧ Q (.str d.shown) H
theorem call_reprD {X : Cx} (hg : X.A.guards = some []) (hu : X.A.units + 64 < cLine) : CallR X (.builtin "repr") (rReprD X.K) := by
  intro pins s σ H xs us Q I r h
  obtain ⟨a, d, rfl, hd, hs, q⟩ := h
  obtain ⟨u, rfl, e⟩ := vals1 r
  cases e
  obtain ⟨as, rd⟩ := Dp.reads I d _ _ hd rfl
  exact repr_of_reads' rd hs.show1 (fun z => absurd z (by rw [hs.nod]; decide)) hg (by have := hs.deep; omega) (fun _ _ e => e) (fun h' u tk k => ⟨.str _, H, I.kept k, ⟨_, rfl⟩, q⟩) hs.size
def rStrD : List V → Hp → VK → Prop := fun xs H Q => (∃ i, xs = [.int i] ∧ i.natAbs.log2 < 1920 ∧ Q (.str (toString i)) H) ∨ ∃ z, xs = [.str z] ∧ Q (.str z) H
end
end Gj
namespace Gj
open PySem PySem.Spec PyProof.Rows L2
theorem call_strD {X : Cx} : CallR X (.type "str") rStrD := by
  intro pins s σ H xs us Q I r h
  rcases h with h | h
  · exact call_str_int pins s σ H xs us Q I r h
  · exact SkE.call_str_str pins s σ H xs us Q I r h
end Gj
namespace Gj
open PySem PySem.Spec PyProof.Rows L2
theorem fnGn {P : Program} {w : World} {K : PySem.W.Frag} {mg : Str → Option Value} {base : Heap} {CX : CXT} {x q : Str} {st : Stmt} {f : Addr} {fd : FuncData} {N ps : List Str} {k : Nat} {sp : Sp} (F : Fun K x q st f fd) (S : FnScope N ps (defScope st)) (len : ∀ vs H Q E, sp vs H Q E → vs.length = ps.length)
    (hb : ∀ (cdv : Value) (A : Around) (outer : List Env) (s : Shared) (H : Hp) (vs : List V) (Q : VK) (E : XK), A.guards = some [] → Room k (A.deeper (envOfC q (defScope st) s.heap.objs.size f cdv)) → sp vs H Q E →
      ∃ t, PSs (cxOf CX P w K mg base N q (defScope st) f cdv A outer s H E).nox (defBody st) t ∧ t { nx := fun _ H' => Q .non H', rt := Q } (start N vs) H) : FnG P w K mg base CX (k + 1) f fd ps sp :=
  fnG F S len fun cdv A outer s H vs Q E hg hr h => let ⟨t, h1, h2⟩ := hb cdv A outer s H vs Q E hg hr h; ⟨t, h1.nox, h2⟩
theorem mkCalG {P : Program} {w : World} {K : PySem.W.Frag} {mg : Str → Option Value} {base : Heap} {x : Str} {st : Stmt} {N ps : List Str} {k : Nat} {sp : Sp} (D : DefAt K mg x st)
    (hb : ∀ (kV doc pm : Value) (an : Option Addr) (cdv ct : Value) (us : List Value), us.length = ps.length → bindArgs (PySem.W.fnOf x x (defArgs st) (defBody st) (defScope st) .none kV doc pm an cdv ct) ⟨us, []⟩ = pure (ps.zip us))
    (S : FnScope N ps (defScope st)) (len : ∀ vs H Q E, sp vs H Q E → vs.length = ps.length)
    (hbody : ∀ (f : Addr) (cdv : Value) (A : Around) (outer : List Env) (s : Shared) (H : Hp) (vs : List V) (Q : VK) (E : XK), A.guards = some [] → Room k (A.deeper (envOfC x (defScope st) s.heap.objs.size f cdv)) → sp vs H Q E →
      ∃ t, PSs (cxOf CX0 P w K mg base N x (defScope st) f cdv A outer s H E).nox (defBody st) t ∧ t { nx := fun _ H' => Q .non H', rt := Q } (start N vs) H) : CalG P w K mg base (k + 1) x sp := by
  obtain ⟨f, fd, F, g⟩ := D
  exact ⟨f, fd, ps, fnGn F S len (hbody f), g, F.kp, F.binds hb⟩
end Gj

/-! own layer: things, their texts -/
namespace Gj
open PySem PySem.Spec PyProof.Rows L2
open C8 (Cal pe_c pe_gc)
def num (n : Nat) : Str := ((toString (n : Int) : String) : Str)
theorem num_S (n : Nat) : num n = SX.S (TL.numL n) := SX.num_S n
theorem num_tl (n : Nat) : (num n).cps.toList = TL.numL n := TL.tl_num n
inductive Th
  | letter (a b w : Str)
  | echo (a b s m : Str) (n : Nat)
  | answer (a s m : Str) (n : Nat) (h : Str) (k : Nat)
  | goer (a : Str) (n : Nat) (zs : List Str)
def Th.parts : Th → List PyData
  | .letter a b w => [.str "letter", .str a, .str b, .str w]
  | .echo a b s m n => [.str "echo", .str a, .str b, .str s, .tuple [.str m, .int (n : Int)]]
  | .answer a s m n h k => [.str "answer", .str a, .str s, .tuple [.str m, .int (n : Int)], .tuple [.str h, .int (k : Int)]]
  | .goer a n zs => [.str "goer", .str a, .int (n : Int), .tuple (zs.map .str)]
def Th.data (t : Th) : PyData := .tuple t.parts
def Th.words : Th → List Str
  | .letter a b w => ["letter", a, b, w]
  | .echo a b s m n => ["echo", a, b, s, m, num n]
  | .answer a s m n h k => ["answer", a, s, m, num n, h, num k]
  | .goer a n zs => "goer" :: a :: num n :: zs
def Th.text (t : Th) : Str := Txt.join " " t.words
/-- a number that a thing has -/
def NumOk (n : Nat) : Prop := n < 10 ^ 31
def Th.Good : Th → Prop
  | .letter a b w => NameS a ∧ NameS b ∧ WordS w
  | .echo a b s m n => NameS a ∧ NameS b ∧ s ∈ sorts ∧ NameS m ∧ NumOk n
  | .answer a s m n h k => NameS a ∧ s ∈ sorts ∧ NameS m ∧ NumOk n ∧ NameS h ∧ 1 ≤ k ∧ NumOk k
  | .goer a n zs => NameS a ∧ 2 ≤ n ∧ NumOk n ∧ (∀ z ∈ zs, NameS z) ∧ zs.Nodup ∧ zs.length ≤ 9
/-! ### signs -/
theorem NameS.free {z : Str} (h : NameS z) : (32 : Nat) ∉ TL.tl z := by
  obtain ⟨cs, rfl, _, _, h3⟩ := h.ex
  intro hm
  exact absurd (h3 32 hm) (by decide +kernel)
theorem WordS.free {z : Str} (h : WordS z) : (32 : Nat) ∉ TL.tl z := by
  obtain ⟨cs, rfl, _, _, h3⟩ := h.ex
  intro hm
  exact absurd (h3 32 hm) (by decide +kernel)
theorem num_free (n : Nat) : (32 : Nat) ∉ TL.tl (num n) := by
  show 32 ∉ (num n).cps.toList
  rw [num_tl]
  exact TL.numL_free (.inl (by decide))
theorem num_len {n : Nat} (h : NumOk n) : (num n).length ≤ 31 := by
  rw [num_S, SX.S_len]
  exact TL.numL_len (by decide) h
theorem sorts_name : ∀ s ∈ sorts, mName (.str s) = true ∧ s.length ≤ 8 ∧ (32 : Nat) ∉ TL.tl s := by decide +kernel
theorem kinds_name : ∀ s ∈ (["letter", "echo", "answer", "goer"] : List Str), mName (.str s) = true ∧ s.length ≤ 8 ∧ (32 : Nat) ∉ TL.tl s := by decide +kernel
theorem NameS.m {z : Str} (h : NameS z) : mName (.str z) = true := by
  obtain ⟨cs, rfl, h1, h2, h3⟩ := h.ex
  exact txt_of (most := 8) h1 h2 h3
theorem wrds_eq : wrds = (sLetters ++ sFigures : Str).cps.toList := by decide +kernel
theorem WordS.m {z : Str} (h : WordS z) : mWord (.str z) = true := by
  obtain ⟨cs, rfl, h1, h2, h3⟩ := h.ex
  exact txt_of (most := 12) h1 h2 fun c hc => wrds_eq ▸ h3 c hc
theorem whole_m {n : Nat} {i : Int} (h : i ≤ n) : mWhole (.int n) i = true := decide_eq_true h
theorem sort_m {s : Str} (h : s ∈ sorts) : mSort (.str s) = true := by
  show (mName (.str s) && sorts.any fun z => isT (.str s) z) = true
  rw [(sorts_name s h).1, Bool.true_and]
  exact List.any_eq_true.mpr ⟨s, h, beq_self_eq_true s⟩
theorem pair_m {z : Str} {n : Nat} {i : Int} (h : NameS z) (h2 : i ≤ n) : mPair (.tuple [.str z, .int (n : Int)]) i = true := by
  show (true && (mName (.str z) && mWhole (.int n) i)) = true
  rw [h.m, whole_m h2]
  rfl
theorem strsOf_map : ∀ zs : List Str, strsOf (zs.map PyData.str) = zs
  | [] => rfl
  | z :: l => congrArg (z :: ·) (strsOf_map l)
theorem shut_m {zs : List Str} (h : ∀ z ∈ zs, NameS z) (nd : zs.Nodup) : mShut (.tuple (zs.map .str)) = true := by
  show ((zs.map PyData.str).all mName && decide (distinct (taken (strsOf (zs.map PyData.str)) (strsOf (zs.map PyData.str)).length) = (strsOf (zs.map PyData.str)).length)) = true
  rw [strsOf_map]
  have e1 : (zs.map PyData.str).all mName = true := by
    rw [List.all_map]
    exact List.all_eq_true.mpr fun z hz => (h z hz).m
  have e2 : taken zs zs.length = zs.reverse := by
    unfold taken
    rw [List.take_of_length_le (Nat.le_refl _)]
  rw [e1, Bool.true_and, e2]
  refine decide_eq_true ?_
  rw [← List.length_reverse]
  exact (distinct_nodup _).mpr (List.pairwise_reverse.mpr (nd.imp Ne.symm))
theorem begins_m {k : Str} {ds : List PyData} {n : Int} (hk : mName (.str k) = true) (hl : ((ds.length : Int) + 1) = n) : mBegins (.tuple (.str k :: ds)) k n = true := by
  show (decide (((ds.length + 1 : Nat) : Int) = n) && (mName (.str k) && (k == k))) = true
  rw [hk, beq_self_eq_true, decide_eq_true (by omega)]
  rfl
theorem or_r {a b : Bool} (h : b = true) : (a || b) = true := by rw [h, Bool.or_true]
theorem or_l {a b : Bool} (h : a = true) : (a || b) = true := by rw [h, Bool.true_or]
theorem and_i {a b : Bool} (h : a = true) (h2 : b = true) : (a && b) = true := by rw [h, h2]; rfl
theorem Th.Good.thing {t : Th} (h : t.Good) : mThing t.data = true := by
  have k := kinds_name
  cases t with
  | letter a b w =>
    obtain ⟨h1, h2, h3⟩ := h
    exact or_l (or_l (and_i (begins_m (k _ (by decide +kernel)).1 rfl) (and_i h1.m (and_i h2.m h3.m))))
  | echo a b s m n =>
    obtain ⟨h1, h2, h3, h4, h5⟩ := h
    exact or_l (or_r (and_i (begins_m (k _ (by decide +kernel)).1 rfl) (and_i h1.m (and_i h2.m (and_i (sort_m h3) (pair_m h4 (by omega)))))))
  | answer a s m n h k2 =>
    obtain ⟨h1, h2, h3, h4, h5, h6, h7⟩ := h
    exact or_r (or_l (and_i (begins_m (k _ (by decide +kernel)).1 rfl) (and_i h1.m (and_i (sort_m h2) (and_i (pair_m h3 (by omega)) (pair_m h5 (by omega)))))))
  | goer a n zs =>
    obtain ⟨h1, h2, h3, h4, h5, h6⟩ := h
    exact or_r (or_r (and_i (begins_m (k _ (by decide +kernel)).1 rfl) (and_i h1.m (and_i (whole_m (by omega)) (shut_m h4 h5)))))
/-! ### words -/
theorem Th.Good.word {t : Th} (h : t.Good) : ∀ z ∈ t.words, (32 : Nat) ∉ TL.tl z ∧ z.length ≤ 31 := by
  have k := kinds_name
  have kk : ∀ s ∈ (["letter", "echo", "answer", "goer"] : List Str), (32 : Nat) ∉ TL.tl s ∧ s.length ≤ 31 := fun s hs => ⟨(k s hs).2.2, by have := (k s hs).2.1; omega⟩
  have nn : ∀ {z : Str}, NameS z → (32 : Nat) ∉ TL.tl z ∧ z.length ≤ 31 := fun h => ⟨h.free, by have := h.len; omega⟩
  have ss : ∀ {s : Str}, s ∈ sorts → (32 : Nat) ∉ TL.tl s ∧ s.length ≤ 31 := fun h => ⟨(sorts_name _ h).2.2, by have := (sorts_name _ h).2.1; omega⟩
  have mm : ∀ {n : Nat}, NumOk n → (32 : Nat) ∉ TL.tl (num n) ∧ (num n).length ≤ 31 := fun h => ⟨num_free _, num_len h⟩
  have ww : ∀ {z : Str}, WordS z → (32 : Nat) ∉ TL.tl z ∧ z.length ≤ 31 := fun h => ⟨h.free, by
    obtain ⟨cs, rfl, h1, h2, _⟩ := h.ex
    rw [SX.S_len]
    omega⟩
  cases t with
  | letter a b w =>
    obtain ⟨h1, h2, h3⟩ := h
    intro z hz
    simp only [Th.words, List.mem_cons, List.not_mem_nil, or_false] at hz
    rcases hz with rfl | rfl | rfl | rfl
    · exact kk _ (by decide +kernel)
    · exact nn h1
    · exact nn h2
    · exact ww h3
  | echo a b s m n =>
    obtain ⟨h1, h2, h3, h4, h5⟩ := h
    intro z hz
    simp only [Th.words, List.mem_cons, List.not_mem_nil, or_false] at hz
    rcases hz with rfl | rfl | rfl | rfl | rfl | rfl
    · exact kk _ (by decide +kernel)
    · exact nn h1
    · exact nn h2
    · exact ss h3
    · exact nn h4
    · exact mm h5
  | answer a s m n h k2 =>
    obtain ⟨h1, h2, h3, h4, h5, h6, h7⟩ := h
    intro z hz
    simp only [Th.words, List.mem_cons, List.not_mem_nil, or_false] at hz
    rcases hz with rfl | rfl | rfl | rfl | rfl | rfl | rfl
    · exact kk _ (by decide +kernel)
    · exact nn h1
    · exact ss h2
    · exact nn h3
    · exact mm h4
    · exact nn h5
    · exact mm h7
  | goer a n zs =>
    obtain ⟨h1, h2, h3, h4, h5, h6⟩ := h
    intro z hz
    simp only [Th.words, List.mem_cons] at hz
    rcases hz with rfl | rfl | rfl | hz
    · exact kk _ (by decide +kernel)
    · exact nn h1
    · exact mm h3
    · exact nn (h4 z hz)
theorem Th.Good.many {t : Th} (h : t.Good) : 3 ≤ t.words.length ∧ t.words.length ≤ 12 := by
  cases t with
  | letter a b w => show 3 ≤ 4 ∧ 4 ≤ 12; omega
  | echo a b s m n => show 3 ≤ 6 ∧ 6 ≤ 12; omega
  | answer a s m n h k2 => show 3 ≤ 7 ∧ 7 ≤ 12; omega
  | goer a n zs =>
    obtain ⟨h1, h2, h3, h4, h5, h6⟩ := h
    show 3 ≤ zs.length + 1 + 1 + 1 ∧ zs.length + 1 + 1 + 1 ≤ 12
    omega
theorem sum_le {B : Nat} : ∀ {l : List Str}, (∀ z ∈ l, z.length ≤ B) → (l.map (·.length)).sum ≤ l.length * B
  | [], _ => Nat.zero_le _
  | z :: l, h => by
    rw [List.map_cons, List.sum_cons, List.length_cons, Nat.succ_mul]
    have := h z List.mem_cons_self
    have := sum_le fun y hy => h y (List.mem_cons_of_mem _ hy)
    omega
theorem Th.Good.sum {t : Th} (h : t.Good) : (t.words.map (·.length)).sum ≤ 400 := by
  have h1 := sum_le (B := 31) fun z hz => (h.word z hz).2
  have h2 := h.many.2
  have h3 : t.words.length * 31 ≤ 12 * 31 := Nat.mul_le_mul_right _ h2
  omega
/-- THE READ-BACK -/
theorem Th.Good.split {t : Th} (h : t.Good) : Txt.split t.text " " = t.words :=
  TL.split_join (s := 32) (S := []) rfl (by decide +kernel) (fun e => by have := h.many.1; rw [e] at this; exact absurd this (by decide)) fun z hz => (h.word z hz).1
theorem Th.inj {t u : Th} (h : t.Good) (h2 : u.Good) (e : t.text = u.text) : t.words = u.words := by rw [← h.split, ← h2.split, e]
theorem num_inj {m n : Nat} (h : num m = num n) : m = n := TL.numL_inj (by rw [← num_tl, ← num_tl, h])
theorem words_inj {t u : Th} (e : t.words = u.words) : t = u := by
  cases t <;> cases u <;> simp only [Th.words, List.cons.injEq, and_true, true_and] at e
  case letter.letter => obtain ⟨rfl, rfl, rfl⟩ := e; rfl
  case echo.echo =>
    obtain ⟨rfl, rfl, rfl, rfl, e⟩ := e
    rw [num_inj e]
  case answer.answer =>
    obtain ⟨rfl, rfl, rfl, e1, rfl, e2⟩ := e
    rw [num_inj e1, num_inj e2]
  case goer.goer =>
    obtain ⟨rfl, e, rfl⟩ := e
    rw [num_inj e]
  all_goals exact absurd e.1 (by decide +kernel)
theorem Th.text_inj {t u : Th} (h : t.Good) (h2 : u.Good) (e : t.text = u.text) : t = u := words_inj (Th.inj h h2 e)
/-! ### repr -/
theorem str_small {z : Str} {B : Nat} (h : ∀ c ∈ z.cps.toList, c < 16 ^ 8) (hl : z.length ≤ B) : (PyData.shown (.str z)).length ≤ 10 * B + 2 := by
  have := StrLaws.reprText_len z h
  show (reprText z).length ≤ _
  omega
theorem NameS.cps {z : Str} (h : NameS z) : ∀ c ∈ z.cps.toList, c < 16 ^ 8 := by
  obtain ⟨cs, rfl, _, _, h3⟩ := h.ex
  have k : ∀ c ∈ ltrs, c < 16 ^ 8 := by decide +kernel
  exact fun c hc => k c (h3 c hc)
theorem WordS.cps {z : Str} (h : WordS z) : ∀ c ∈ z.cps.toList, c < 16 ^ 8 := by
  obtain ⟨cs, rfl, _, _, h3⟩ := h.ex
  have k : ∀ c ∈ wrds, c < 16 ^ 8 := by decide +kernel
  exact fun c hc => k c (h3 c hc)
theorem sorts_cps : ∀ s ∈ sorts, ∀ c ∈ s.cps.toList, c < 16 ^ 8 := by decide +kernel
theorem kinds_cps : ∀ s ∈ (["letter", "echo", "answer", "goer"] : List Str), ∀ c ∈ s.cps.toList, c < 16 ^ 8 := by decide +kernel
theorem piled_le {B : Nat} : ∀ {l : List Str}, (∀ z ∈ l, z.length ≤ B) → piled l ≤ l.length * (B + 2)
  | [], _ => Nat.zero_le _
  | z :: l, h => by
    have := h z List.mem_cons_self
    have := piled_le fun y hy => h y (List.mem_cons_of_mem _ hy)
    rw [List.length_cons, Nat.succ_mul]
    simp only [piled, List.map_cons, List.sum_cons] at *
    omega
theorem shownAll_map (ds : List PyData) : PyData.shownAll ds = ds.map PyData.shown := by
  induction ds with
  | nil => rfl
  | cons d l ih => rw [PyData.shownAll, ih, List.map_cons]
theorem tup_small {B : Nat} {ds : List PyData} (h : ∀ d ∈ ds, d.shown.length ≤ B) : (PyData.shown (.tuple ds)).length ≤ ds.length * (B + 2) + 2 := by
  show (tupleText (PyData.shownAll ds)).length ≤ _
  rw [shownAll_map]
  have h1 := fmt_text (ds.map PyData.shown)
  have h2 := piled_le (B := B) (l := ds.map PyData.shown) fun z hz => by
    obtain ⟨d, hd, rfl⟩ := List.mem_map.mp hz
    exact h d hd
  rw [List.length_map] at h2
  omega
theorem int_small {n : Nat} (h : NumOk n) : (PyData.shown (.int n)).length ≤ 400 := by
  have := num_len h
  show (num n).length ≤ 400
  omega
theorem int_log {n : Nat} (h : NumOk n) : (n : Int).natAbs.log2 < 1920 := by
  show n.log2 < 1920
  by_cases e : n = 0
  · subst e
    decide
  · have h2 : n < 2 ^ 1920 := Nat.lt_trans h (by decide +kernel)
    exact (Nat.log2_lt e).mpr h2
end Gj

/-! own layer: enumerate over a tuple -/
namespace Gj
open PySem PySem.Spec PyProof.Rows L2
open Sem (wp)
open AutoSeq1 (wpAny_loadPart')
theorem enumT_new (c : Addr) (xs : Array Value) (m : Nat) (dd : Option Addr) (ss : Array (Option Value)) :
    Meets (Builtin.«enumerate.__new__» ⟨[.type "enumerate", .ref c], []⟩) (fun _ R z => z.heap.get? c = some { cls := .type "tuple", dict := dd, data := .seq xs m, slots := ss } ∧
      R (.ok (.ret (.ref (z.heap.push { cls := .type "tuple_iterator", data := .fields #[.ref c, .int 0 0] }).objs.size)))
        { z with heap := (z.heap.push { cls := .type "tuple_iterator", data := .fields #[.ref c, .int 0 0] }).push { cls := .type "enumerate", data := .fields #[.none, .bool false, .ref z.heap.objs.size, rawInt 0, .none, .none] } }) :=
  .of_wp fun prog w A R z hh => by
    obtain ⟨hp, gg, dp, tk, os⟩ := z
    obtain ⟨hc, hh⟩ := hh
    have sb := sub_enumerate
    have hT : Heap.IsTuple (Shared.heap ⟨hp, gg, dp, tk, os⟩) c xs := ⟨_, hc, rfl, m, rfl⟩
    wp_walk using wpAny_loadPart' hc
    refine wpAny_stack_any fun _ => wpAny_pure ?_
    split
    · rename_i y _ _ _ _ _
      cases (y == Value.type "enumerate")
      · wp_walk using wpAny_loadPart' hc, wpAny_pyIter_tuple hT
        exact ⟨_, rfl, hh⟩
      · wp_walk using wpAny_loadPart' hc, wpAny_pyIter_tuple hT
        exact ⟨_, rfl, hh⟩
    · wp_walk using wpAny_loadPart' hc, wpAny_pyIter_tuple hT
      exact ⟨_, rfl, hh⟩
theorem enumT_call {prog : Program} {w : World} {A : Around} {E : Value → Shared → Prop} {s : Shared} {c : Addr} {xs : Array Value} {Q : Value → Shared → Prop} (hT : s.heap.IsTuple c xs)
    (k : ∀ h2, IsEnum h2 (s.heap.objs.size + 1) s.heap.objs.size 0 .none → h2.IsTupleIter s.heap.objs.size c 0 → (∀ b o, s.heap.get? b = some o → h2.get? b = some o) → Q (.ref (s.heap.objs.size + 1)) { s with heap := h2 }) :
    wpAny (model prog w) A (call (.type "enumerate") [.ref c]) Q E s := by
  obtain ⟨⟨cl, dd, dt, ss⟩, hc, hcl, m, hdt⟩ := hT
  obtain rfl : cl = .type "tuple" := hcl
  obtain rfl : dt = .seq xs m := hdt
  refine callType_new F.called_enumerate (by decide) (F.typeCall_enumerate_1 _) (F.newCall_enumerate_1 _) (fun ob => F.args_object_init_2 ob _) F.entry_enumerate_new
    (enumT_new c xs m dd ss) ⟨hc, ?_⟩
  have z1 : (s.heap.push { cls := .type "tuple_iterator", data := .fields #[.ref c, .int 0 0] }).objs.size = s.heap.objs.size + 1 := Heap.size_push ..
  show _ ∧ _
  rw [z1]
  have en : IsEnum ((s.heap.push { cls := .type "tuple_iterator", data := .fields #[.ref c, .int 0 0] }).push
      { cls := .type "enumerate", data := .fields #[.none, .bool false, .ref s.heap.objs.size, rawInt 0, .none, .none] }) (s.heap.objs.size + 1) s.heap.objs.size 0 .none := by
    have g := Heap.get?_push_size (s.heap.push { cls := .type "tuple_iterator", data := .fields #[.ref c, .int 0 0] })
      (o := { cls := .type "enumerate", data := .fields #[.none, .bool false, .ref s.heap.objs.size, rawInt 0, .none, .none] }) rfl
    rw [z1] at g
    exact g
  exact ⟨⟨_, en, rfl⟩, k _ en ⟨_, Heap.get?_push_of_some _ (Heap.get?_push_size _ rfl), rfl, rfl⟩ fun b o x => Heap.get?_push_of_some _ (Heap.get?_push_of_some _ x)⟩
/-- the tuple at a, each part in a new pair -/
def ItT (K : PySem.W.Frag) (a : Addr) : It :=
  ⟨fun i H => ∃ (xs : List V) (x : V), SqT K H a xs ∧ xs[i]? = some x, fun i H v H' => ∃ T x, v = .ref T ∧ H T = none ∧ H' = upd H T (.tup [.int (i : Nat), x]) ∧ ∀ xs, SqT K H a xs → xs[i]? = some x, fun i H => ∃ xs : List V, SqT K H a xs ∧ xs.length = i⟩
theorem turn_enumT {P : Program} {w : World} {K : PySem.W.Frag} {elts : List Expr} {kk : Nat} {tpos : Pos} (a e it : Addr) (hai : a ≠ it) (hae : e ≠ a) :
    Turn P w K (.Tuple elts kk tpos) (ItT K a) [e, it] e (fun i h => (∃ old, IsEnum h e it ((i : Nat) : Int) old) ∧ h.IsTupleIter it a i ∧ e ≠ it) where
  mem := by simp
  obj := fun i h st b hb => by
    obtain ⟨⟨old, he⟩, ⟨ot, go, kc, kd⟩, _⟩ := st
    have e2 : b = e ∨ b = it := by simpa using hb
    rcases e2 with rfl | rfl
    · exact ⟨_, he, fun v q => nomatch q⟩
    · exact ⟨ot, go, fun v q => by rw [kd] at q; cases q⟩
  keep := fun i h h' st k => let ⟨⟨old, he⟩, hi, hne⟩ := st; ⟨⟨old, k e (by simp) _ he⟩, hi.at fun ot q => k it (by simp) ot q, hne⟩
  item := by
    intro X hP hw hK hc i pins s σ H E I hf st hg
    subst hP hw hK
    obtain ⟨⟨old, he⟩, hit, hne⟩ := st
    obtain ⟨xs, x, hq, hx⟩ := hg
    obtain ⟨us, rv, pt, _⟩ := I.tuple hq
    obtain ⟨u, hu, ru⟩ := rv.get hx
    have lu : i < us.toArray.size := by
      have := (List.getElem?_eq_some_iff.mp hu).1
      simpa using this
    have el : e < s.heap.objs.size := Heap.lt_size he
    have il : it < s.heap.objs.size := by obtain ⟨_, q, _⟩ := hit; exact Heap.lt_size q
    refine wpAny_pyNext_enum_itemD (Draws.tuple (A := X.A.in1) (I.ok.hd hc) it a hai us.toArray) he ⟨hit, pt⟩ lu hne (by simp [hne, hae]) fun x2 h' tk px ho st' hT hsz hk => ?_
    have ex : x2 = u := by
      have : us[i]? = some x2 := by simpa using px
      rw [hu] at this
      exact (Option.some.inj this).symm
    subst ex
    refine ⟨_, rfl, wpAny_letOwnedTupleGo_enum (s := { s with heap := h', toks := tk + 1 }) ho fun h'' he' sb => ?_⟩
    have hT2 : h''.get? s.heap.objs.size = some { cls := .type "tuple", data := .seq #[.int i tk, x2] } := (sb.2 _ (Nat.ne_of_gt el)).trans hT
    have nw : ObjOk X.prog X.w (upd H s.heap.objs.size (.tup [.int (i : Nat), x])) h'' s.heap.objs.size (.tup [.int (i : Nat), x]) :=
      ⟨by show 2 ≤ sizeLine; decide, [.int i tk, x2], .cons ⟨_, rfl⟩ (.cons ru .nil), ⟨_, hT2, rfl, _, rfl⟩⟩
    have I1 : Inv X pins σ (upd H s.heap.objs.size (.tup [.int (i : Nat), x])) { s with heap := h'', toks := tk + 1 } :=
      I.turnedNew (ch := [e, it]) (fun b ob hb q => (sb.2 b (fun z => hb (by simp [z]))).trans (hk b ob (fun z => hb (by simp [z])) (fun z => hb (by simp [z])) q)) hf (Nat.le_refl _) nw
    refine ⟨.ref s.heap.objs.size, _, I1, rfl, ⟨_, x, rfl, I.hok.fresh (Nat.le_refl _), rfl, fun ys hy => by rw [I.tuple_inj hy hq]; exact hx⟩, ⟨⟨x2, ?_⟩, st'.1.at fun ot q => (sb.2 it (Ne.symm hne)).trans q, hne⟩, fun b hb => ?_⟩
    · have e1 : ((i + 1 : Nat) : Int) = (i : Int) + 1 := by omega
      rw [e1]
      exact he'
    · have e2 : b = e ∨ b = it := by simpa using hb
      have lb : b < s.heap.objs.size := by rcases e2 with rfl | rfl <;> assumption
      rw [upd_ne (Nat.ne_of_lt lb)]
      exact (hf b hb).1
  done := by
    intro X hP hw hK hc i pins s σ H E I hf st hg
    subst hP hw hK
    obtain ⟨⟨old, he⟩, hit, hne⟩ := st
    obtain ⟨xs, hq, hx⟩ := hg
    obtain ⟨us, rv, pt, _⟩ := I.tuple hq
    obtain ⟨f0, f1, f2, f3, f4, f5⟩ := hf it (by simp)
    have hl := rv.length
    have ei : i = us.toArray.size := by simp; omega
    rw [ei] at hit
    exact wpAny_pyNext_enum_endD (Draws.tuple (A := X.A.in1) (I.ok.hd hc) it a hai us.toArray) he ⟨hit, pt⟩ fun h' eb => ⟨rfl, I.turned (t' := s.toks) (fun b ot hb q => eb b ot hb q) f0 f1 f3 f4 f5⟩
  self := fun A i s Q E st h => let ⟨⟨_, he⟩, _⟩ := st; wpAny_pyIter_enum he h
def iEnumT (K : PySem.W.Frag) (ta : TA) : TI := fun σ H R => ta σ H fun vs H1 => ∃ a xs, vs = [.ref a] ∧ SqT K H1 a xs ∧ R (ItT K a) H1
theorem pi_enumT {X : Cx} {e : Expr} {ta : TA} {p pos tpos : Pos} {elts : List Expr} {kk : Nat} (hg : Gl X "enumerate") (hm : X.mg "enumerate" = none) (ha : PA X [e] ta) (hs : starEach [e] X.env = [(false, eval e X.env)] := by rfl) :
    PI X (.Tuple elts kk tpos) (.Call (.Name "enumerate" p) [e] [] pos) (iEnumT X.K ta) := by
  refine ⟨fun pins s σ H R I h => ?_⟩
  refine Call_ (ld_blt I hg hm boot_enumerate (PyProof.Rows.callWith_type1 (thn (ha.run pos pins s σ H _ I h) fun us s1 ⟨vs, H1, I1, r1, q1⟩ => ?_) hs rfl))
  obtain ⟨a, xs, rfl, hq, q⟩ := q1
  cases r1 with
  | cons r rr =>
    cases rr
    cases r
    obtain ⟨its, rv, pt, _⟩ := I1.tuple hq
    have la : a < s1.heap.objs.size := by obtain ⟨o, g, _⟩ := pt; exact Heap.lt_size g
    refine enumT_call pt fun h2 he hit hk => wpAny_pyIter_enum he ?_
    have I2 : Inv X pins σ H1 { s1 with heap := h2 } := I1.kept (t' := s1.toks) hk
    refine ⟨s1.heap.objs.size + 1, [s1.heap.objs.size + 1, s1.heap.objs.size], _, _, H1, rfl, I2, turn_enumT a (s1.heap.objs.size + 1) s1.heap.objs.size (Nat.ne_of_lt la) (Nat.ne_of_gt (Nat.lt_succ_of_lt la)), ⟨⟨.none, he⟩, hit, Nat.succ_ne_self _⟩, fun b hb => ?_, q⟩
    have e2 : b = s1.heap.objs.size + 1 ∨ b = s1.heap.objs.size := by simpa using hb
    have hle : s1.heap.objs.size ≤ b := by
      rcases e2 with z | z <;> rw [z]
      · exact Nat.le_add_right _ _
      · exact Nat.le_refl _
    exact I1.fpOk hle (I1.hok.fresh hle)
end Gj

/-! own layer: tests as statements have them; blocks that return a truth -/
namespace Gj
open PySem PySem.Spec PyProof.Rows L2
open C8 (Cal pe_c pe_gc)
def SayT (t : TT) (σ : L2.St) (H : Hp) (b : Bool) : Prop := ∀ Q : Bool → Hp → Prop, (∀ H', Same H H' → Q b H') → t σ H Q
/-- a block that returns the truth b -/
def Rets (t : TS) (σ : L2.St) (H : Hp) (b : Bool) : Prop := ∀ D : Ends, (∀ H', Same H H' → D.rt (.bl b) H') → t D σ H
section
variable {σ : L2.St} {H : Hp} {ta tb te : TE} {t1 t2 tc : TT} {u1 u2 : TS} {a b c : Bool} {K : PySem.W.Frag} {p : Addr} {v : V} {d : PyData}
theorem Say.tB (h : Say ta σ H a) : SayT (tB ta) σ H a := fun Q q => h _ fun H1 s1 => ⟨a, rfl, q H1 s1⟩
theorem Say.tTest (h : Say ta σ H a) : SayT (tTest ta) σ H a := fun Q q => h _ fun H1 s1 => ⟨a, rfl, q H1 s1⟩
theorem SayT.not (h : SayT t1 σ H a) : SayT (tNot t1) σ H (!a) := fun Q q => h _ q
theorem SayT.of (h : SayT t1 σ H a) (e : a = b) : SayT t1 σ H b := e ▸ h
theorem SayT.or (ha : SayT t1 σ H a) (hb : a = false → ∀ H', Same H H' → SayT t2 σ H' b) : SayT (tOr t1 t2) σ H (a || b) := fun Q q => ha _ fun H1 s1 => by
  cases a with
  | true => exact iteT (q H1 s1)
  | false => exact iteF (hb rfl H1 s1 Q fun H2 s2 => q H2 (s1.trans s2))
theorem SayT.and (ha : SayT t1 σ H a) (hb : a = true → ∀ H', Same H H' → SayT t2 σ H' b) : SayT (tAnd t1 t2) σ H (a && b) := fun Q q => ha _ fun H1 s1 => by
  cases a with
  | true => exact iteT (hb rfl H1 s1 Q fun H2 s2 => q H2 (s1.trans s2))
  | false => exact iteF (q H1 s1)
theorem Rets.ret (h : Say te σ H b) : Rets (tRet te) σ H b := fun D q => h _ q
theorem Rets.of (h : Rets u1 σ H a) (e : a = b) : Rets u1 σ H b := e ▸ h
/-- if c: return a; the rest -/
theorem Rets.iff (hc : SayT tc σ H c) (h1 : c = true → ∀ H', Same H H' → Rets u1 σ H' a) (h2 : c = false → ∀ H', Same H H' → Rets u2 σ H' b) : Rets (tSeq (tIfS tc u1 tNext) u2) σ H (bif c then a else b) := fun D q => hc _ fun H1 s1 => by
  cases c with
  | true => exact iteT (h1 rfl H1 s1 _ fun H2 s2 => q H2 (s1.trans s2))
  | false => exact iteF (h2 rfl H1 s1 D fun H2 s2 => q H2 (s1.trans s2))
theorem say_bl : Say (tC (.bl b)) σ H b := fun Q q => q H (Same.refl H)
theorem say_len {c : Addr} {xs : List V} (hv : Giv te σ H (.ref c)) (e : H c = some (.tup xs)) : Giv (tCB (rLenX K) (tCons te tNil)) σ H (.int (xs.length : Nat)) := fun Q q => hv _ ⟨.ref c, xs.length, rfl, .inr ⟨xs, SqT.of e, rfl⟩, q⟩
theorem say_lt {i j : Int} (h1 : Giv ta σ H (.int i)) (h2 : Giv tb σ H (.int j)) : Say (tOp (rI0 fun i j => .bl (decide (i < j))) ta tb) σ H (decide (i < j)) := fun Q q => h1 _ (h2 _ ⟨i, j, rfl, rfl, q H (Same.refl H)⟩)
theorem dec_int2 {i j : Int} : decide (V.int i = V.int j) = decide (i = j) := by
  by_cases h : i = j
  · rw [h, decide_eq_true rfl, decide_eq_true rfl]
  · rw [decide_eq_false h, decide_eq_false fun z => h (V.int.inj z)]
theorem say_eqI {i j : Int} (h1 : Giv ta σ H (.int i)) (h2 : Giv tb σ H (.int j)) : Say (tOp rEq ta tb) σ H (decide (i = j)) := fun Q q => h1 _ (h2 _ ⟨rfl, by rw [dec_int2]; exact q H (Same.refl H)⟩)
theorem say_neI {i j : Int} (h1 : Giv ta σ H (.int i)) (h2 : Giv tb σ H (.int j)) : Say (tOp rNe ta tb) σ H (!decide (i = j)) := fun Q q => h1 _ (h2 _ ⟨rfl, by rw [dec_int2]; exact q H (Same.refl H)⟩)
end
theorem walk_enumT {K : PySem.W.Frag} {a : Addr} {xs : List V} : Walk (ItT K a) xs.length (fun H => SqT K H a xs) (fun i H v H' => ∃ T x, v = .ref T ∧ H T = none ∧ H' = upd H T (.tup [.int (i : Nat), x]) ∧ xs[i]? = some x) :=
  ⟨fun i _ hi q => ⟨xs, xs[i], q, by simp [hi]⟩, fun _ q => ⟨xs, q, rfl⟩, fun _ _ _ _ _ q ⟨T, x, h1, h2, h3, h4⟩ => ⟨T, x, h1, h2, h3, h4 xs q⟩⟩
/-- whether the k-th is none of those ahead of it -/
def newAt (zs : List Str) (k : Nat) : Bool := !decide (zs.getD k Str.empty ∈ zs.take k)
theorem cut_to (xs : List V) (k : Nat) : cutV xs none (some (k : Int)) = xs.take k := by
  unfold cutV
  rw [HT.sIx_none, HT.sIx_nat, List.drop_zero, Nat.sub_zero]
  by_cases h : k ≤ xs.length
  · rw [Nat.min_eq_left h]
  · rw [Nat.min_eq_right (by omega), List.take_of_length_le (Nat.le_refl _), List.take_of_length_le (by omega)]
theorem say_news {σ : L2.St} {H : Hp} {K : PySem.W.Frag} {te ts : TE} {i j : Nat} {vs : List Nat} {c : Addr} {zs : List Str} (hl : zs.length ≤ 1000) (hv : Giv te σ H (.ref c)) (ec : H c = some (.tup (zs.map V.str)))
    (hw : ∀ x y, wipe (((wipe σ vs).set i (some x)).set j (some y)) vs = wipe σ vs) (hi : ∀ x y, (((wipe σ vs).set i (some x)).set j (some y))[i]? = some (some x)) (hj : ∀ x y, (((wipe σ vs).set i (some x)).set j (some y))[j]? = some (some y)) (hs : ∀ x y H, Giv ts (((wipe σ vs).set i (some x)).set j (some y)) H (.ref c)) :
    Say (tCB (rAll K) (tCons (tLc (iEnumT K (tCons te tNil)) (gTup K 2 (gCons (gName i) (gCons (gName j) gNil))) tYes (tOp (rIn K true) (tVar j) (tSl (rSlA K) ts tNoPart (tPart (tVar i)))) vs) tNil)) σ H ((List.range zs.length).all (newAt zs)) := fun Q q => hv _ ⟨c, _, rfl, SqT.of ec, fun D hD => by
  refine lc_it (walk_enumT (xs := zs.map V.str)) (Pv := fun k H' => Same H H' ∧ H' D = some (.lst (((List.range k).map (newAt zs)).map V.bl))) ⟨same_new hD, upd_same⟩ (fun k H1 _ hp => SqT.of (hp.1 _ _ ec)) (fun k x H1 H2 hk hp hy => ?_) (fun H1 hp => ?_)
  · obtain ⟨sm, eD⟩ := hp
    obtain ⟨T, y, rfl, nT, rfl, ey⟩ := hy
    rw [List.length_map] at hk
    rw [List.getElem?_map, List.getElem?_eq_getElem hk] at ey
    have ey : V.str zs[k] = y := Option.some.inj ey
    subst ey
    have s2 : Same H1 (upd H1 T (.tup [.int (k : Nat), .str zs[k]])) := same_new nT
    refine ⟨T, _, rfl, SqT.of upd_same, rfl, _, _, rfl, _, _, rfl, rfl, hw _ _, _, hj _ _, hs _ _ _ _ ⟨_, hi _ _, (k : Int), rfl, c, _, rfl, SqT.of (s2 _ _ (sm _ _ ec)), fun hwh => ?_, fun hwh a na => ?_⟩⟩
    · have e2 := hwh.2
      rw [HT.sIx_nat, List.length_map, Nat.min_eq_left (Nat.le_of_lt hk)] at e2
      omega
    · refine ⟨a, _, rfl, .inr (SqT.of upd_same), rfl, ?_, _, (same_new na) _ _ (s2 _ _ eD), ?_, fun b o e => ?_, ?_⟩
      · rw [cut_to, ← List.map_take]
        exact flat_strs _
      · rw [List.length_map, List.length_map, List.length_range]
        exact small1000 (by omega)
      · rw [upd_ne (ne_of_none e hD)]
        exact (same_new na) _ _ (s2 _ _ (sm b o e))
      · rw [upd_same, cut_to, ← List.map_take, if_pos rfl, inV_strs, List.range_succ, List.map_append, List.map_append]
        show _ = some (HO.lst (_ ++ [V.bl (!decide (zs.getD k Str.empty ∈ zs.take k))]))
        rw [List.getD_eq_getElem?_getD, List.getElem?_eq_getElem hk]
        rfl
  · obtain ⟨sm, eD⟩ := hp
    rw [List.length_map] at eD
    refine ⟨D, _, rfl, SqL.of eD, ?_⟩
    rw [List.all_map]
    exact q H1 sm⟩
theorem news_nodup (zs : List Str) : ((List.range zs.length).all (newAt zs) = true) ↔ zs.Nodup := by
  rw [List.all_eq_true]
  constructor
  · intro h
    rw [List.nodup_iff_pairwise_ne, List.pairwise_iff_getElem]
    intro i j hi hj hij e
    have := h j (List.mem_range.mpr hj)
    unfold newAt at this
    rw [List.getD_eq_getElem?_getD, List.getElem?_eq_getElem hj] at this
    have h2 : zs[j] ∉ zs.take j := by simpa using this
    exact h2 (by rw [← e]; exact List.mem_take_iff_getElem.mpr ⟨i, by omega, rfl⟩)
  · intro h k hk
    have hk := List.mem_range.mp hk
    unfold newAt
    rw [List.getD_eq_getElem?_getD, List.getElem?_eq_getElem hk]
    have h2 : zs[k] ∉ zs.take k := by
      intro hm
      obtain ⟨i, hi, e⟩ := List.mem_take_iff_getElem.mp hm
      rw [List.nodup_iff_pairwise_ne, List.pairwise_iff_getElem] at h
      exact h i k (by omega) hk (by omega) e
    simpa using h2
end Gj

/-! own layer: expressions that lay data, drawing from the pot at p -/
namespace Gj
open PySem PySem.Spec PyProof.Rows L2
open C8 (Cal pe_c pe_gc)
theorem Drawn.refl {p : Addr} {H : Hp} (h : Pot H p) : Drawn p H H := ⟨Keep.refl, h⟩
/-- it is a datum -/
def Lay (te : TE) (p : Addr) (σ : L2.St) (H : Hp) : Prop := ∀ Q : VK, (∀ (H' : Hp) (v : V) (d : PyData), Drawn p H H' → Dt p H' v d → Q v H') → te σ H Q
/-- they are n data -/
def Lays (ta : TA) (p : Addr) (σ : L2.St) (H : Hp) (n : Nat) : Prop := ∀ Q : List V → Hp → Prop, (∀ (H' : Hp) (vs : List V) (ds : List PyData), Drawn p H H' → DtAll p H' vs ds → vs.length = n → Q vs H') → ta σ H Q
/-- it is a tuple of data -/
def LayT (te : TE) (p : Addr) (σ : L2.St) (H : Hp) (lo hi : Nat) : Prop := ∀ Q : VK, (∀ (H' : Hp) (c : Addr) (xs : List V) (ds : List PyData), Drawn p H H' → c ≠ p → H' c = some (.tup xs) → DtAll p H' xs ds → lo ≤ xs.length → xs.length ≤ hi → Q (.ref c) H') → te σ H Q
/-- it is a number from 0 up to n -/
def LayI (te : TE) (p : Addr) (σ : L2.St) (H : Hp) (n : Int) : Prop := ∀ Q : VK, (∀ (H' : Hp) (i : Int), Drawn p H H' → 0 ≤ i → i < n → Q (.int i) H') → te σ H Q
def GivO (to : TO) (σ : L2.St) (H : Hp) (o : Option Int) : Prop := ∀ Q : Option Int → Hp → Prop, Q o H → to σ H Q
section
variable {p : Addr} {σ : L2.St} {H : Hp} {te tb : TE} {ta : TA} {n m lo hi lo2 hi2 : Nat} {v : V} {d : PyData} {K : PySem.W.Frag}
theorem Lay.of (h : Giv te σ H v) (hp : Pot H p) (hd : Dt p H v d) : Lay te p σ H := fun Q q => h _ (q H v d (Drawn.refl hp) hd)
theorem LayT.lay (h : LayT te p σ H lo hi) (hh : hi ≤ 1000) : Lay te p σ H := fun Q q => h _ fun H1 c xs ds r n e a l1 l2 => q H1 _ _ r (.tup n (by omega) e a)
theorem Lays.nil (hp : Pot H p) : Lays tNil p σ H 0 := fun Q q => q H [] [] (Drawn.refl hp) .nil rfl
theorem Lays.cons (h : Lay te p σ H) (ht : ∀ H', Drawn p H H' → Lays ta p σ H' n) : Lays (tCons te ta) p σ H (n + 1) := fun Q q => h _ fun H1 v d r1 h1 => ht H1 r1 _ fun H2 vs ds r2 h2 e => q H2 _ _ (r1.trans r2) (.cons (h1.keep r2.keep) h2) (by rw [List.length_cons, e])
theorem Lays.tup (h : Lays ta p σ H n) (hn : n ≤ 1000) : LayT (tTup ta) p σ H n n := fun Q q => h _ fun H1 vs ds r h1 e => ⟨Nat.le_of_lt (small1000 (by omega)), fun a na => q _ a vs ds (r.new na) (r.pot.ne na) upd_same (h1.keep (Keep.new na)) (by omega) (by omega)⟩
theorem Lays.lst (h : Lays ta p σ H n) (hn : n ≤ 1000) : Lay (tLst ta) p σ H := fun Q q => h _ fun H1 vs ds r h1 e => ⟨Nat.le_of_lt (small1000 (by omega)), fun a na => q _ _ (.list ds) (r.new na) (.lst (r.pot.ne na) (by omega) upd_same (h1.keep (Keep.new na)))⟩
theorem Lay.dnew (hp : Pot H p) : Lay tDNewK p σ H := fun Q q a na => q _ _ (.dict []) ((Drawn.refl hp).new na) (.dic (hp.ne na) upd_same)
/-- [..][a number] -/
theorem Lays.pick (h : Lays ta p σ H n) (hn : n ≤ 1000) (hi : ∀ H', Drawn p H H' → LayI tb p σ H' n) : Lay (tOp (rIxL K) (tLst ta) tb) p σ H := fun Q q => h _ fun H1 vs ds r h1 e => ⟨Nat.le_of_lt (small1000 (by omega)), fun a na => by
  refine hi _ (r.new na) _ fun H2 i r2 i0 i1 => ?_
  have e2 : H2 a = some (.lst vs) := r2.keep _ _ (r.pot.ne na) upd_same
  have hh := (h1.keep (Keep.new na (o := .lst vs))).keep r2.keep
  obtain ⟨k, rfl⟩ := Int.eq_ofNat_of_zero_le i0
  have hk : vs[k]? = some (vs[k]'(by omega)) := List.getElem?_eq_getElem _
  obtain ⟨d, _, hd⟩ := hh.get hk
  exact ⟨a, vs, k, _, rfl, rfl, SqL.of e2, atI_nat hk, q _ _ d ((r.new na).trans r2) hd⟩⟩
theorem LayI.digit {E : XK} {tp tn : TE} {n : Int} (hp : Giv tp σ H (.ref p)) (hq : Pot H p) (hn : Giv tn σ H (.int n)) (h0 : 0 < n) (h1 : n.natAbs.log2 < 9000) : LayI (tCall spDigit [] E (tCons tp (tCons tn tNil))) p σ H n := fun Q q => hp _ (hn _ ⟨p, n, rfl, hq, h0, h1, fun i H' i0 i1 r => q H' i r i0 i1⟩)
theorem GivO.none : GivO tNoPart σ H none := fun Q q => q
theorem GivO.some {i : Int} (h : Giv te σ H (.int i)) : GivO (tPart te) σ H (some i) := fun Q q => h _ ⟨i, rfl, q⟩
theorem DtAll.cut {xs : List V} {ds : List PyData} (h : DtAll p H xs ds) (a b : Option Int) : DtAll p H (cutV xs a b) ((ds.drop (HT.sIx xs.length 0 a)).take (HT.sIx xs.length xs.length b - HT.sIx xs.length 0 a)) := (h.drop _).take _
theorem LayT.cut {c : Addr} {xs : List V} {ds : List PyData} {tl th : TO} {a b : Option Int} (h : Giv te σ H (.ref c)) (hp : Pot H p) (hc : c ≠ p) (e : H c = some (.tup xs)) (hd : DtAll p H xs ds) (hl : GivO tl σ H a) (hh : GivO th σ H b) (hb : (cutV xs a b).length ≤ hi) : LayT (tSl (rSlA K) te tl th) p σ H 0 hi := fun Q q =>
  h _ (hl _ (hh _ ⟨c, xs, rfl, SqT.of e, fun w => q H c xs ds (Drawn.refl hp) hc e hd (Nat.zero_le _) (by
    unfold cutV at hb
    rw [w.1, w.2, List.drop_zero, Nat.sub_zero, List.take_of_length_le (Nat.le_refl _)] at hb
    exact hb), fun _ z nz => q _ z _ _ ((Drawn.refl hp).new nz) (hp.ne nz) upd_same ((hd.cut a b).keep (Keep.new nz)) (Nat.zero_le _) hb⟩))
theorem cut_from (xs : List V) (k : Nat) : cutV xs (some (k : Int)) none = xs.drop k := by
  unfold cutV
  rw [HT.sIx_none, HT.sIx_nat]
  by_cases h : k ≤ xs.length
  · rw [Nat.min_eq_left h, List.take_of_length_le (by rw [List.length_drop]; exact Nat.le_refl _)]
  · rw [Nat.min_eq_right (by omega), Nat.sub_self, List.take_zero, List.drop_eq_nil_of_le (by omega)]
theorem LayT.cat (h : LayT te p σ H lo hi) (h2 : ∀ H', Drawn p H H' → LayT tb p σ H' lo2 hi2) (hn : hi + hi2 ≤ 1000) : LayT (tOp (rCatA K) te tb) p σ H 0 (hi + hi2) := fun Q q => h _ fun H1 a xs ds r1 na ea ha l1 l2 => h2 H1 r1 _ fun H2 b ys es r2 nb eb hb l3 l4 => by
  have ea2 := r2.keep _ _ na ea
  have ha2 := ha.keep r2.keep
  refine ⟨a, b, xs, ys, rfl, rfl, SqT.of ea2, SqT.of eb, Nat.le_of_lt (small1000 (by omega)), fun _ => ?_, fun _ _ => ?_, fun _ _ c nc => ?_⟩
  · exact q H2 b ys es (r1.trans r2) nb eb hb (Nat.zero_le _) (by omega)
  · exact q H2 a xs ds (r1.trans r2) na ea2 ha2 (Nat.zero_le _) (by omega)
  · exact q _ c _ _ ((r1.trans r2).new nc) (r2.pot.ne nc) upd_same ((ha2.append hb).keep (Keep.new nc)) (Nat.zero_le _) (by rw [List.length_append]; omega)
end
end Gj

namespace Gj
open PySem PySem.Spec PyProof.Rows L2
open C8 (Cal pe_c pe_gc)
/-- it is a list of n data -/
def LayL (te : TE) (p : Addr) (σ : L2.St) (H : Hp) (n : Nat) : Prop := ∀ Q : VK, (∀ (H' : Hp) (c : Addr) (xs : List V) (ds : List PyData), Drawn p H H' → c ≠ p → H' c = some (.lst xs) → DtAll p H' xs ds → xs.length = n → Q (.ref c) H') → te σ H Q
section
variable {p : Addr} {σ : L2.St} {H : Hp} {te tb tp tn : TE} {ta : TA} {n m : Nat} {v : V} {d : PyData} {K : PySem.W.Frag} {E : XK}
theorem Lay.run {Q : VK} (h : Lay te p σ H) (q : ∀ (H' : Hp) (v : V) (d : PyData), Drawn p H H' → Dt p H' v d → Q v H') : te σ H Q := h Q q
theorem LayI.run {n : Int} {Q : VK} (h : LayI te p σ H n) (q : ∀ (H' : Hp) (i : Int), Drawn p H H' → 0 ≤ i → i < n → Q (.int i) H') : te σ H Q := h Q q
theorem LayT.run {lo hi : Nat} {Q : VK} (h : LayT te p σ H lo hi) (q : ∀ (H' : Hp) (c : Addr) (xs : List V) (ds : List PyData), Drawn p H H' → c ≠ p → H' c = some (.tup xs) → DtAll p H' xs ds → lo ≤ xs.length → xs.length ≤ hi → Q (.ref c) H') : te σ H Q := h Q q
theorem LayL.run {n : Nat} {Q : VK} (h : LayL te p σ H n) (q : ∀ (H' : Hp) (c : Addr) (xs : List V) (ds : List PyData), Drawn p H H' → c ≠ p → H' c = some (.lst xs) → DtAll p H' xs ds → xs.length = n → Q (.ref c) H') : te σ H Q := h Q q
theorem Lays.lstL (h : Lays ta p σ H n) (hn : n ≤ 1000) : LayL (tLst ta) p σ H n := fun Q q => h _ fun H1 vs ds r h1 e => ⟨Nat.le_of_lt (small1000 (by omega)), fun a na => q _ a vs ds (r.new na) (r.pot.ne na) upd_same (h1.keep (Keep.new na)) e⟩
theorem LayL.var {c : Addr} {xs : List V} {ds : List PyData} (h : Giv te σ H (.ref c)) (hp : Pot H p) (hc : c ≠ p) (e : H c = some (.lst xs)) (hd : DtAll p H xs ds) (hl : xs.length = n) : LayL te p σ H n := fun Q q => h _ (q H c xs ds (Drawn.refl hp) hc e hd hl)
theorem LayL.cat (h : LayL te p σ H n) (h2 : ∀ H', Drawn p H H' → LayL tb p σ H' m) (hn : n + m ≤ 1000) : LayL (tOp rCat te tb) p σ H (n + m) := fun Q q => h _ fun H1 a xs ds r1 na ea ha l1 => h2 H1 r1 _ fun H2 b ys es r2 nb eb hb l2 => by
  have ea2 := r2.keep _ _ na ea
  have ha2 := ha.keep r2.keep
  exact ⟨a, b, xs, ys, rfl, rfl, ea2, eb, Nat.le_of_lt (small1000 (by omega)), fun c nc => q _ c _ _ ((r1.trans r2).new nc) (r2.pot.ne nc) upd_same ((ha2.append hb).keep (Keep.new nc)) (by rw [List.length_append]; omega)⟩
/-- x[a number] -/
theorem LayL.pick (h : LayL te p σ H n) (hi : ∀ H' c (xs : List V), Drawn p H H' → H' c = some (.lst xs) → xs.length = n → LayI tb p σ H' n) : Lay (tOp (rIxL K) te tb) p σ H := fun Q q => h _ fun H1 a vs ds r na ea h1 e => by
  refine hi _ a vs r ea e _ fun H2 i r2 i0 i1 => ?_
  have e2 : H2 a = some (.lst vs) := r2.keep _ _ na ea
  have hh := h1.keep r2.keep
  obtain ⟨k, rfl⟩ := Int.eq_ofNat_of_zero_le i0
  have hk : vs[k]? = some (vs[k]'(by omega)) := List.getElem?_eq_getElem _
  obtain ⟨d, _, hd⟩ := hh.get hk
  exact ⟨a, vs, k, _, rfl, rfl, SqL.of e2, atI_nat hk, q _ _ d (r.trans r2) hd⟩
theorem Lay.word (hp : Giv tp σ H (.ref p)) (hq : Pot H p) : Lay (tCall spWord [] E (tCons tp tNil)) p σ H := fun Q q => hp _ ⟨p, rfl, hq, fun z H' hz r => q H' _ (.str z) r (.str z hz.small)⟩
theorem Lay.whole {i : Int} (hp : Giv tp σ H (.ref p)) (hq : Pot H p) (hn : Giv tn σ H (.int i)) : Lay (tCall spWhole [] E (tCons tp (tCons tn tNil))) p σ H := fun Q q => hp _ (hn _ ⟨p, i, rfl, hq, fun j H' _ _ r => q H' _ (.int j) r (.int j)⟩)
theorem Lay.name (hp : Giv tp σ H (.ref p)) (hq : Pot H p) : Lay (tCall spName [] E (tCons tp (tCons (tLst tNil) tNil))) p σ H := fun Q q => hp _ ⟨(by show 0 ≤ sizeLine; decide), fun u nu => ⟨p, u, [], rfl, hq.new nu, hq.ne nu, upd_same, (fun _ h => absurd h List.not_mem_nil), by decide, fun z H' hz _ r => q H' _ (.str z) (((Drawn.refl hq).new nu).trans r) (.str z hz.small)⟩⟩
/-- names of the pot, into a new list -/
theorem names_new {Q : VK} {E : XK} {n : Nat} (hq : Pot H p) (hn : n ≤ 25) (q : ∀ (H' : Hp) (c : Addr) (zs : List Str), Drawn p H H' → c ≠ p → H' c = some (.lst (zs.map V.str)) → zs.length = n → (∀ z ∈ zs, NameS z) → zs.Nodup → Q (.ref c) H') : ∀ u, H u = none → spNames [.ref p, .int (n : Nat), .ref u] (upd H u (.lst [])) Q E := fun u nu =>
  ⟨p, u, [], n, rfl, hq.new nu, hq.ne nu, upd_same, (fun _ h => absurd h List.not_mem_nil), by simpa using hn, fun c zs H' nc np hl hz nd _ r e => q H' c zs (((Drawn.refl hq).new nu).trans r) np e hl hz nd⟩
theorem DtAll.names {zs : List Str} (h : ∀ z ∈ zs, NameS z) : DtAll p H (zs.map V.str) (zs.map PyData.str) := DtAll.strs fun z hz => (h z hz).small
abbrev rTupOf (K : PySem.W.Frag) : List V → Hp → VK → Prop := fun xs H Q => ∃ p ys, xs = [.ref p] ∧ ((SqL K H p ys ∧ ∀ l, H l = none → Q (.ref l) (upd H l (.tup ys))) ∨ (SqT K H p ys ∧ Q (.ref p) H))
theorem Lay.shut (hp : Giv tp σ H (.ref p)) (hi : LayI tn p σ H 10) : Lay (tCB (rTupOf K) (tCons (tCall spNames [] E (tCons tp (tCons tn (tCons (tLst tNil) tNil)))) tNil)) p σ H := fun Q q => hp _ (hi _ fun H1 i r1 i0 i1 => ⟨(by show 0 ≤ sizeLine; decide), by
  obtain ⟨k, rfl⟩ := Int.eq_ofNat_of_zero_le i0
  refine names_new (Q := fun x H2 => rTupOf K [x] H2 Q) (E := E) (n := k) r1.pot (by omega) fun H2 c zs r2 nc ec hl hz nd => ?_
  refine ⟨c, _, rfl, .inl ⟨SqL.of ec, fun a na => q _ _ (.tuple (zs.map PyData.str)) ((r1.trans r2).new na) (.tup (r2.pot.ne na) ?_ upd_same (DtAll.names hz))⟩⟩
  rw [List.length_map]
  omega⟩)
abbrev rLstOf (K : PySem.W.Frag) : List V → Hp → VK → Prop := fun xs H Q => ∃ p ys, xs = [.ref p] ∧ (SqL K H p ys ∨ SqT K H p ys) ∧ ∀ l, H l = none → Q (.ref l) (upd H l (.lst ys))
theorem Lay.list {c : Addr} {xs : List V} {ds : List PyData} (h : Giv te σ H (.ref c)) (hp : Pot H p) (hl : xs.length ≤ 1000) (e : H c = some (.tup xs)) (hd : DtAll p H xs ds) : Lay (tCB (rLstOf K) (tCons te tNil)) p σ H := fun Q q => h _ ⟨c, xs, rfl, .inr (SqT.of e), fun a na => q _ _ (.list ds) ((Drawn.refl hp).new na) (.lst (hp.ne na) hl upd_same (hd.keep (Keep.new na)))⟩
theorem giv_lenL {c : Addr} {xs : List V} (hv : Giv te σ H (.ref c)) (e : H c = some (.lst xs)) : Giv (tCB (rLenX K) (tCons te tNil)) σ H (.int (xs.length : Nat)) := fun Q q => hv _ ⟨.ref c, xs.length, rfl, .inl ⟨xs, SqL.of e, rfl⟩, q⟩
theorem giv_add {ta : TE} {i j : Int} (h1 : Giv ta σ H (.int i)) (h2 : Giv tb σ H (.int j)) : Giv (tOp (rI0 fun i j => .int (i + j)) ta tb) σ H (.int (i + j)) := fun Q q => h1 _ (h2 _ ⟨i, j, rfl, rfl, q⟩)
theorem giv_ixV {ti : TE} {c : Addr} {xs : List V} {ds : List PyData} {k : Nat} (h : Giv te σ H (.ref c)) (h2 : Giv ti σ H (.int (k : Nat))) (e : H c = some (.tup xs)) (hd : DtAll p H xs ds) (hk : k < xs.length) : ∃ x d, Giv (tOp (rIxT K) te ti) σ H x ∧ Dt p H x d ∧ xs[k]? = some x ∧ ds[k]? = some d := by
  have hx : xs[k]? = some xs[k] := List.getElem?_eq_getElem hk
  obtain ⟨d, h3, h4⟩ := hd.get hx
  exact ⟨_, d, fun Q q => h _ (h2 _ ⟨c, xs, _, _, rfl, rfl, SqT.of e, atI_nat hx, q⟩), h4, hx, h3⟩
theorem giv_last {c : Addr} {xs : List V} (h : Giv te σ H (.ref c)) (e : H c = some (.tup xs)) (hk : 0 < xs.length) : Giv (tOp (rIxT K) te (tUn (rU fun i => .int (-i)) (tC (.int 1)))) σ H (xs.getD (xs.length - 1) .non) := by
  refine fun Q q => h _ ⟨1, rfl, c, xs, _, _, rfl, rfl, SqT.of e, ?_, q⟩
  show (ixN xs.length (-1)).bind (fun j => xs[j]?) = _
  have : ixN xs.length (-1) = some (xs.length - 1) := by
    unfold ixN
    rw [if_neg (by omega), if_pos (by omega)]
    congr 1
    omega
  rw [this, List.getD_eq_getElem?_getD]
  show xs[xs.length - 1]? = _
  rw [List.getElem?_eq_getElem (by omega)]
  rfl
theorem DtAll.getD {xs : List V} {ds : List PyData} (hd : DtAll p H xs ds) (k : Nat) (hk : k < xs.length) : Dt p H (xs.getD k .non) (ds.getD k .none) := by
  have hx : xs[k]? = some xs[k] := List.getElem?_eq_getElem hk
  obtain ⟨d, h3, h4⟩ := hd.get hx
  rw [List.getD_eq_getElem?_getD, List.getD_eq_getElem?_getD, hx, h3]
  exact h4
theorem LayI.digitN {tn : TE} {n : Nat} (hp : Giv tp σ H (.ref p)) (hq : Pot H p) (hn : Giv tn σ H (.int (n : Nat))) (h0 : 0 < n) (h1 : n ≤ 1000) : LayI (tCall spDigit [] E (tCons tp (tCons tn tNil))) p σ H n := LayI.digit hp hq hn (by omega) (Nat.lt_of_le_of_lt (Nat.log2_le_self _) (by show n < 9000; omega))
def filled : PyData → Bool
  | .tuple ds => !ds.isEmpty
  | _ => false
theorem say_neE {x : V} {d : PyData} (h : Giv te σ H x) (hd : Dt p H x d) (e : isa d "tuple" = true) : Say (tOp (rNeE K) te (tTup tNil)) σ H (filled d) := fun Q q => h _ ⟨(by show 0 ≤ sizeLine; decide), fun a na => by
  cases hd with
  | @tup c xs ds nc hl ec ha =>
    refine ⟨c, a, xs, rfl, rfl, .inr ⟨SqT.of (same_new na _ _ ec), SqT.of upd_same⟩, ?_⟩
    have := q _ (same_new (o := .tup []) na)
    have e2 : filled (.tuple ds) = !xs.isEmpty := by
      cases ha <;> rfl
    rw [e2] at this
    exact this
  | _ => exact absurd e (by dsimp only [isa, kind]; decide +kernel)⟩
/-! ### statements -/
variable {D : Ends} {u t : TS} {i : Nat} {tc : TT} {c : Bool}
theorem setD (h : Lay te p σ H) (q : ∀ (H' : Hp) (v : V) (d : PyData), Drawn p H H' → Dt p H' v d → u D (σ.set i (some v)) H') : tSeq (tAsg te (gName i)) u D σ H := h _ q
theorem setI {n : Int} (h : LayI te p σ H n) (q : ∀ (H' : Hp) (k : Int), Drawn p H H' → 0 ≤ k → k < n → u D (σ.set i (some (.int k))) H') : tSeq (tAsg te (gName i)) u D σ H := h _ q
theorem setT {lo hi : Nat} (h : LayT te p σ H lo hi) (q : ∀ (H' : Hp) (c : Addr) (xs : List V) (ds : List PyData), Drawn p H H' → c ≠ p → H' c = some (.tup xs) → DtAll p H' xs ds → lo ≤ xs.length → xs.length ≤ hi → u D (σ.set i (some (.ref c))) H') : tSeq (tAsg te (gName i)) u D σ H := h _ q
theorem setL {n : Nat} (h : LayL te p σ H n) (q : ∀ (H' : Hp) (c : Addr) (xs : List V) (ds : List PyData), Drawn p H H' → c ≠ p → H' c = some (.lst xs) → DtAll p H' xs ds → xs.length = n → u D (σ.set i (some (.ref c))) H') : tSeq (tAsg te (gName i)) u D σ H := h _ q
theorem setV (h : Giv te σ H v) (q : u D (σ.set i (some v)) H) : tSeq (tAsg te (gName i)) u D σ H := h _ q
theorem retD (h : Lay te p σ H) (q : ∀ (H' : Hp) (v : V) (d : PyData), Drawn p H H' → Dt p H' v d → D.rt v H') : tRet te D σ H := h _ q
theorem retT {lo hi : Nat} (h : LayT te p σ H lo hi) (q : ∀ (H' : Hp) (c : Addr) (xs : List V) (ds : List PyData), Drawn p H H' → c ≠ p → H' c = some (.tup xs) → DtAll p H' xs ds → lo ≤ xs.length → xs.length ≤ hi → D.rt (.ref c) H') : tRet te D σ H := h _ q
theorem ifS (h : SayT tc σ H c) (h1 : c = true → ∀ H', Same H H' → t { D with nx := u D } σ H') (h2 : c = false → ∀ H', Same H H' → u D σ H') : tSeq (tIfS tc t tNext) u D σ H := h _ fun H1 s1 => by
  cases c with
  | true => exact iteT (h1 rfl H1 s1)
  | false => exact iteF (h2 rfl H1 s1)
theorem isI {ta : TE} {k n : Int} (h1 : Giv ta σ H (.int k)) : SayT (tTest (tOp rEq ta (tC (.int n)))) σ H (decide (k = n)) := Say.tTest (say_eqI h1 giv_c)
end
end Gj

/-! own layer: the words of parts -/
namespace Gj
open PySem PySem.Spec PyProof.Rows L2
open C8 (Cal pe_c pe_gc)
theorem Th.Good.shows {t : Th} (h : t.Good) : Shows t.data := by
  have nB : ∀ {z : Str}, NameS z → (PyData.shown (.str z)).length ≤ 400 := fun h => by have := str_small h.cps h.len; omega
  have kB : ∀ s ∈ (["letter", "echo", "answer", "goer"] : List Str), (PyData.shown (.str s)).length ≤ 400 := fun s hs => by have := str_small (kinds_cps s hs) (kinds_name s hs).2.1; omega
  have sB : ∀ {s : Str}, s ∈ sorts → (PyData.shown (.str s)).length ≤ 400 := fun hs => by have := str_small (sorts_cps _ hs) (sorts_name _ hs).2.1; omega
  have wB : ∀ {z : Str}, WordS z → (PyData.shown (.str z)).length ≤ 400 := fun {z} h => by
    have h2 : z.length ≤ 12 := by
      obtain ⟨cs, e, h1, h2, _⟩ := h.ex
      rw [e, SX.S_len]
      exact h2
    have := str_small h.cps h2
    omega
  have pB : ∀ {z : Str} {n : Nat}, NameS z → NumOk n → (PyData.shown (.tuple [.str z, .int n])).length ≤ 1000 := fun {z n} hz hn => by
    have := tup_small (B := 400) (ds := [.str z, .int n]) fun d hd => by
      simp only [List.mem_cons, List.not_mem_nil, or_false] at hd
      rcases hd with rfl | rfl
      · exact nB hz
      · exact int_small hn
    have e : ([PyData.str z, .int n] : List PyData).length = 2 := rfl
    rw [e] at this
    omega
  have zB : ∀ {zs : List Str}, (∀ z ∈ zs, NameS z) → zs.length ≤ 9 → (PyData.shown (.tuple (zs.map .str))).length ≤ 4000 := fun {zs} hz hl => by
    have := tup_small (B := 400) (ds := zs.map .str) fun d hd => by
      obtain ⟨z, h1, rfl⟩ := List.mem_map.mp hd
      exact nB (hz z h1)
    rw [List.length_map] at this
    have h3 : zs.length * (400 + 2) ≤ 9 * 402 := Nat.mul_le_mul_right _ hl
    omega
  have all : (∀ d ∈ t.parts, d.shown.length ≤ 4000) ∧ t.parts.length ≤ 5 := by
    cases t with
    | letter a b w =>
      obtain ⟨h1, h2, h3⟩ := h
      refine ⟨fun d hd => ?_, by show 4 ≤ 5; omega⟩
      simp only [Th.parts, List.mem_cons, List.not_mem_nil, or_false] at hd
      rcases hd with rfl | rfl | rfl | rfl
      · exact Nat.le_trans (kB _ (by decide +kernel)) (by decide)
      · exact Nat.le_trans (nB h1) (by decide)
      · exact Nat.le_trans (nB h2) (by decide)
      · exact Nat.le_trans (wB h3) (by decide)
    | echo a b s m n =>
      obtain ⟨h1, h2, h3, h4, h5⟩ := h
      refine ⟨fun d hd => ?_, by show 5 ≤ 5; omega⟩
      simp only [Th.parts, List.mem_cons, List.not_mem_nil, or_false] at hd
      rcases hd with rfl | rfl | rfl | rfl | rfl
      · exact Nat.le_trans (kB _ (by decide +kernel)) (by decide)
      · exact Nat.le_trans (nB h1) (by decide)
      · exact Nat.le_trans (nB h2) (by decide)
      · exact Nat.le_trans (sB h3) (by decide)
      · exact Nat.le_trans (pB h4 h5) (by decide)
    | answer a s m n g k =>
      obtain ⟨h1, h2, h3, h4, h5, h6, h7⟩ := h
      refine ⟨fun d hd => ?_, by show 5 ≤ 5; omega⟩
      simp only [Th.parts, List.mem_cons, List.not_mem_nil, or_false] at hd
      rcases hd with rfl | rfl | rfl | rfl | rfl
      · exact Nat.le_trans (kB _ (by decide +kernel)) (by decide)
      · exact Nat.le_trans (nB h1) (by decide)
      · exact Nat.le_trans (sB h2) (by decide)
      · exact Nat.le_trans (pB h3 h4) (by decide)
      · exact Nat.le_trans (pB h5 h7) (by decide)
    | goer a n zs =>
      obtain ⟨h1, h2, h3, h4, h5, h6⟩ := h
      refine ⟨fun d hd => ?_, by show 4 ≤ 5; omega⟩
      simp only [Th.parts, List.mem_cons, List.not_mem_nil, or_false] at hd
      rcases hd with rfl | rfl | rfl | rfl
      · exact Nat.le_trans (kB _ (by decide +kernel)) (by decide)
      · exact Nat.le_trans (nB h1) (by decide)
      · exact Nat.le_trans (int_small h3) (by decide)
      · exact zB h4 h6
  have ssA : ∀ zs : List Str, PyData.showableAll (zs.map .str) = true ∧ PyData.hasDictAll (zs.map .str) = false ∧ PyData.depthAll (zs.map .str) ≤ 1 := fun zs => by
    induction zs with
    | nil => exact ⟨rfl, rfl, by simp [PyData.depthAll]⟩
    | cons z l ih =>
      obtain ⟨i1, i2, i3⟩ := ih
      refine ⟨?_, ?_, ?_⟩
      · rw [List.map_cons, PyData.showableAll, i1]; rfl
      · rw [List.map_cons, PyData.hasDictAll, i2]; rfl
      · rw [List.map_cons]; simp only [PyData.depthAll, PyData.depth]; omega
  refine ⟨?_, ?_, ?_, ?_⟩
  · cases t with
    | letter a b w => rfl
    | echo a b s m n => simp [Th.data, Th.parts, PyData.showable, PyData.showableAll]; exact int_log h.2.2.2.2
    | answer a s m n g k => simp [Th.data, Th.parts, PyData.showable, PyData.showableAll]; exact ⟨int_log h.2.2.2.1, int_log h.2.2.2.2.2.2⟩
    | goer a n zs => simp [Th.data, Th.parts, PyData.showable, PyData.showableAll, (ssA zs).1]; exact int_log h.2.2.1
  · cases t with
    | letter a b w => rfl
    | echo a b s m n => rfl
    | answer a s m n g k => rfl
    | goer a n zs => simp [Th.data, Th.parts, PyData.hasDict, PyData.hasDictAll, (ssA zs).2.1]
  · cases t with
    | letter a b w => simp [Th.data, Th.parts, PyData.depth, PyData.depthAll]
    | echo a b s m n => simp [Th.data, Th.parts, PyData.depth, PyData.depthAll]
    | answer a s m n g k => simp [Th.data, Th.parts, PyData.depth, PyData.depthAll]
    | goer a n zs =>
      have := (ssA zs).2.2
      simp [Th.data, Th.parts, PyData.depth, PyData.depthAll]
      omega
  · have := tup_small all.1
    have h3 : t.parts.length * (4000 + 2) ≤ 5 * 4002 := Nat.mul_le_mul_right _ all.2
    show (PyData.shown (.tuple t.parts)).length ≤ 2 ^ 24
    omega
/-! ### parts -/
inductive Leaf : PyData → Prop
  | str (z : Str) : Leaf (.str z)
  | int {n : Nat} : NumOk n → Leaf (.int n)
def wordOf : PyData → Str
  | .str z => z
  | .int i => ((toString i : String) : Str)
  | _ => ""
inductive Part : PyData → Prop
  | leaf {d : PyData} : Leaf d → Part d
  | tup {es : List PyData} : (∀ e ∈ es, Leaf e) → Part (.tuple es)
def partWords : PyData → List Str
  | .tuple es => es.map wordOf
  | d => [wordOf d]
theorem Leaf.words {d : PyData} (h : Leaf d) : partWords d = [wordOf d] := by cases h <;> rfl
theorem Leaf.isa {d : PyData} (h : Leaf d) : isa d "tuple" = false := by cases h <;> (dsimp only [Gj.isa, kind]; decide +kernel)
theorem Th.Good.part {t : Th} (h : t.Good) : ∀ d ∈ t.parts, Part d := by
  cases t with
  | letter a b w =>
    intro d hd
    simp only [Th.parts, List.mem_cons, List.not_mem_nil, or_false] at hd
    rcases hd with rfl | rfl | rfl | rfl <;> exact .leaf (.str _)
  | echo a b s m n =>
    obtain ⟨h1, h2, h3, h4, h5⟩ := h
    intro d hd
    simp only [Th.parts, List.mem_cons, List.not_mem_nil, or_false] at hd
    rcases hd with rfl | rfl | rfl | rfl | rfl
    iterate 4 exact .leaf (.str _)
    exact .tup fun e he => by
      simp only [List.mem_cons, List.not_mem_nil, or_false] at he
      rcases he with rfl | rfl
      · exact .str _
      · exact .int h5
  | answer a s m n g k =>
    obtain ⟨h1, h2, h3, h4, h5, h6, h7⟩ := h
    intro d hd
    simp only [Th.parts, List.mem_cons, List.not_mem_nil, or_false] at hd
    rcases hd with rfl | rfl | rfl | rfl | rfl
    iterate 3 exact .leaf (.str _)
    · exact .tup fun e he => by
        simp only [List.mem_cons, List.not_mem_nil, or_false] at he
        rcases he with rfl | rfl
        · exact .str _
        · exact .int h4
    · exact .tup fun e he => by
        simp only [List.mem_cons, List.not_mem_nil, or_false] at he
        rcases he with rfl | rfl
        · exact .str _
        · exact .int h7
  | goer a n zs =>
    obtain ⟨h1, h2, h3, h4, h5, h6⟩ := h
    intro d hd
    simp only [Th.parts, List.mem_cons, List.not_mem_nil, or_false] at hd
    rcases hd with rfl | rfl | rfl | rfl
    iterate 2 exact .leaf (.str _)
    · exact .leaf (.int h3)
    · exact .tup fun e he => by
        obtain ⟨z, _, rfl⟩ := List.mem_map.mp he
        exact .str _
theorem map_wordOf (zs : List Str) : (zs.map PyData.str).map wordOf = zs := by
  rw [List.map_map]
  exact List.map_id' zs
theorem parts_words (t : Th) : t.parts.flatMap partWords = t.words := by
  cases t with
  | letter a b w => rfl
  | echo a b s m n => rfl
  | answer a s m n g k => rfl
  | goer a n zs =>
    show ("goer" : Str) :: a :: num n :: ((zs.map PyData.str).map wordOf ++ []) = _
    rw [map_wordOf, List.append_nil]
    rfl
def wordsTo (t : Th) (i : Nat) : List Str := (t.parts.take i).flatMap partWords
theorem wordsTo_len {t : Th} (h : t.Good) (i : Nat) : (wordsTo t i).length ≤ 12 := by
  have e := parts_words t
  rw [← List.take_append_drop i t.parts, List.flatMap_append] at e
  have := congrArg List.length e
  rw [List.length_append] at this
  have := h.many.2
  unfold wordsTo
  omega
theorem wordsTo_all (t : Th) {n : Nat} (h : t.parts.length ≤ n) : wordsTo t n = t.words := by
  unfold wordsTo
  rw [List.take_of_length_le h, parts_words]
theorem wordsTo_succ {t : Th} {i : Nat} {d : PyData} (h : t.parts[i]? = some d) : wordsTo t (i + 1) = wordsTo t i ++ partWords d := by
  unfold wordsTo
  rw [take_snoc h, List.flatMap_append]
  simp
theorem Leaf.str1 {p : Addr} {H : Hp} {v : V} {d : PyData} {Q : VK} (hl : Leaf d) (hd : Dt p H v d) (q : Q (.str (wordOf d)) H) : rStrD [v] H Q := by
  cases hl with
  | str z =>
    cases hd
    exact .inr ⟨z, rfl, q⟩
  | int hn =>
    cases hd
    exact .inl ⟨_, rfl, int_log hn, q⟩
def spTT : Sp := fun vs H Q _ => ∃ (p c : Addr) (xs : List V) (t : Th), vs = [.ref c] ∧ H c = some (.tup xs) ∧ DtAll p H xs t.parts ∧ t.Good ∧ ∀ H', Same H H' → Q (.str t.text) H'
/-- [str(x) for x in part] -/
theorem lc_strs {K : PySem.W.Frag} {σ : L2.St} {H : Hp} {te : TE} {i : Nat} {p a : Addr} {xs : List V} {es : List PyData} {Q : VK} (hv : Giv te σ H (.ref a)) (ea : H a = some (.tup xs)) (hd : DtAll p H xs es) (hl : xs.length ≤ 1000) (lf : ∀ e ∈ es, Leaf e)
    (hw : ∀ v, wipe ((wipe σ [i]).set i (some v)) [i] = wipe σ [i]) (hi : ∀ v, ((wipe σ [i]).set i (some v))[i]? = some (some v))
    (q : ∀ (H' : Hp) (D : Addr), H D = none → Same H H' → H' D = some (.lst ((es.map wordOf).map V.str)) → Q (.ref D) H') :
    tLc (iTup K te) (gName i) tYes (tCB rStrD (tCons (tVar i) tNil)) [i] σ H Q := hv _ ⟨a, rfl, ⟨xs, SqT.of ea⟩, fun D hD => by
  refine lc_tup (K := K) (a := a) (xs := xs) (Pv := fun j H' => Same H H' ∧ H' D = some (.lst (((es.take j).map wordOf).map V.str))) ⟨same_new hD, upd_same⟩ (fun j H' _ hp => SqT.of (hp.1 _ _ ea)) (fun j x H1 hx hp => ?_) (fun H1 hp => ?_)
  · obtain ⟨sm, eD⟩ := hp
    obtain ⟨d, hd1, hd2⟩ := hd.get hx
    refine ⟨hw _, _, hi _, ?_⟩
    refine Leaf.str1 (Q := fun y H4 => ∃ acc, H4 D = some (.lst acc) ∧ acc.length < sizeLine ∧ Same H (upd H4 D (.lst (acc ++ [y]))) ∧ upd H4 D (.lst (acc ++ [y])) D = some (.lst (((es.take (j + 1)).map wordOf).map V.str))) (lf d (List.mem_of_getElem? hd1)) (hd2.same sm) ?_
    refine ⟨_, eD, ?_, fun b o e => ?_, ?_⟩
    · rw [List.length_map, List.length_map, List.length_take, ← hd.length]
      exact small1000 (by omega)
    · rw [upd_ne (ne_of_none e hD)]
      exact sm b o e
    · rw [upd_same, take_snoc hd1, List.map_append, List.map_append]
      rfl
  · obtain ⟨sm, eD⟩ := hp
    rw [show es.take xs.length = es from List.take_of_length_le (by rw [hd.length]; exact Nat.le_refl _)] at eD
    exact q H1 D hD sm eD⟩
theorem giv_str {σ : L2.St} {H : Hp} {te : TE} {p : Addr} {v : V} {d : PyData} (hv : Giv te σ H v) (hl : Leaf d) (hd : Dt p H v d) : Giv (tCB rStrD (tCons te tNil)) σ H (.str (wordOf d)) := fun Q q => hv _ (hl.str1 hd q)
theorem Th.parts_len (t : Th) : t.parts.length ≤ 5 := by
  cases t <;> (simp only [Th.parts, List.length_cons, List.length_nil]; omega)
theorem joinL_len (a : List Nat) : ∀ l : List (List Nat), (TL.joinL a l).length ≤ (l.map List.length).sum + l.length * a.length
  | [] => Nat.zero_le _
  | [x] => by show x.length ≤ _; simp
  | x :: y :: r => by
    show (x ++ (a ++ TL.joinL a (y :: r))).length ≤ _
    have := joinL_len a (y :: r)
    rw [List.length_append, List.length_append, List.map_cons, List.sum_cons, List.length_cons (a := x), Nat.succ_mul]
    omega
theorem join_len (z : Str) (l : List Str) : (Txt.join z l).length ≤ (l.map (·.length)).sum + l.length * z.length := by
  have e : (Txt.join z l).length = (TL.tl (Txt.join z l)).length := rfl
  rw [e, TL.join_eq, TL.tl_join]
  have := joinL_len (TL.tl z) (l.map TL.tl)
  rw [List.map_map, List.length_map] at this
  exact this
theorem Th.Good.len {t : Th} (h : t.Good) : t.text.length ≤ 1000 := by
  have h1 := join_len " " t.words
  have h2 := h.sum
  have h3 := h.many.2
  have e : (PySem.Str.ofString " ").length = 1 := rfl
  rw [e] at h1
  show (Txt.join " " t.words).length ≤ 1000
  omega
end Gj

/-! the mathematics of shelves: rows by numbers, those of one number in order -/
namespace Gj
open PySem
/-- a number and a parcel -/
abbrev Row : Type := Int × PyData
def keyB (n : Int) (r : Row) : Bool := decide (r.1 = n)
/-- T is K by numbers, those of one number in order -/
structure Std (T K : List Row) : Prop where
  ord : T.Pairwise fun a b => a.1 ≤ b.1
  fil : ∀ n : Int, T.filter (keyB n) = K.filter (keyB n)
theorem keyB_self (r : Row) : keyB r.1 r = true := decide_eq_true rfl
theorem keyB_ne {r : Row} {n : Int} (h : r.1 ≠ n) : keyB n r = false := decide_eq_false h
theorem fil_nil {T : List Row} (h : ∀ n : Int, T.filter (keyB n) = []) : T = [] := by
  cases T with
  | nil => rfl
  | cons x t =>
    have := h x.1
    rw [List.filter_cons, if_pos (keyB_self x)] at this
    cases this
theorem ord_unique : ∀ {T U : List Row}, (T.Pairwise fun a b => a.1 ≤ b.1) → (U.Pairwise fun a b => a.1 ≤ b.1) → (∀ n : Int, T.filter (keyB n) = U.filter (keyB n)) → T = U
  | [], U, _, _, e => (fil_nil fun n => (e n).symm).symm
  | x :: t, [], _, _, e => fil_nil e
  | x :: t, y :: u, h1, h2, e => by
    obtain ⟨a1, a2⟩ := List.pairwise_cons.mp h1
    obtain ⟨b1, b2⟩ := List.pairwise_cons.mp h2
    have mx : x ∈ y :: u := by
      have : x ∈ (y :: u).filter (keyB x.1) := by rw [← e]; exact List.mem_filter.mpr ⟨List.mem_cons_self, keyB_self x⟩
      exact (List.mem_filter.mp this).1
    have my : y ∈ x :: t := by
      have : y ∈ (x :: t).filter (keyB y.1) := by rw [e]; exact List.mem_filter.mpr ⟨List.mem_cons_self, keyB_self y⟩
      exact (List.mem_filter.mp this).1
    have l1 : y.1 ≤ x.1 := by
      rcases List.mem_cons.mp mx with h | h
      · rw [h]; exact Int.le_refl _
      · exact b1 x h
    have l2 : x.1 ≤ y.1 := by
      rcases List.mem_cons.mp my with h | h
      · rw [h]; exact Int.le_refl _
      · exact a1 y h
    have k : x.1 = y.1 := Int.le_antisymm l2 l1
    have e0 := e x.1
    rw [List.filter_cons, if_pos (keyB_self x), List.filter_cons, if_pos (by rw [k]; exact keyB_self y)] at e0
    have exy : x = y := (List.cons.inj e0).1
    subst exy
    refine congrArg (x :: ·) (ord_unique a2 b2 fun n => ?_)
    have en := e n
    rw [List.filter_cons, List.filter_cons] at en
    by_cases c : keyB n x = true
    · rw [if_pos c, if_pos c] at en
      exact (List.cons.inj en).2
    · rw [if_neg c, if_neg c] at en
      exact en
theorem Std.uniq {T U K : List Row} (h : Std T K) (g : Std U K) : T = U := ord_unique h.ord g.ord fun n => (h.fil n).trans (g.fil n).symm
theorem Std.nil : Std [] [] := ⟨.nil, fun _ => rfl⟩
/-! ### as the law tells it -/
def byNums (ns : List Int) (K : List Row) : List Row := ns.flatMap fun n => K.filter (keyB n)
theorem fil_two {K : List Row} {n m : Int} : (K.filter (keyB n)).filter (keyB m) = if n = m then K.filter (keyB m) else [] := by
  rw [List.filter_filter]
  by_cases h : n = m
  · subst h
    rw [if_pos rfl]
    exact congrFun (congrArg _ (funext fun r => Bool.and_self _)) _
  · rw [if_neg h]
    refine List.filter_eq_nil_iff.mpr fun r _ c => ?_
    obtain ⟨c1, c2⟩ := Bool.and_eq_true_iff.mp c
    exact h ((of_decide_eq_true c2).symm.trans (of_decide_eq_true c1))
theorem byNums_fil : ∀ {ns : List Int} {K : List Row} (m : Int), ns.Pairwise (· < ·) → (byNums ns K).filter (keyB m) = if m ∈ ns then K.filter (keyB m) else []
  | [], K, m, _ => by rw [if_neg (by simp)]; rfl
  | n :: ns, K, m, h => by
    obtain ⟨h1, h2⟩ := List.pairwise_cons.mp h
    show (K.filter (keyB n) ++ byNums ns K).filter (keyB m) = _
    rw [List.filter_append, fil_two, byNums_fil m h2]
    by_cases e : n = m
    · subst e
      rw [if_pos rfl, if_neg (fun c => Int.lt_irrefl _ (h1 n c)), List.append_nil, if_pos List.mem_cons_self]
    · rw [if_neg e, List.nil_append]
      by_cases c : m ∈ ns
      · rw [if_pos c, if_pos (List.mem_cons_of_mem _ c)]
      · rw [if_neg c, if_neg fun q => (List.mem_cons.mp q).elim (fun z => e z.symm) c]
theorem byNums_ord : ∀ {ns : List Int} {K : List Row}, ns.Pairwise (· < ·) → (byNums ns K).Pairwise fun a b => a.1 ≤ b.1
  | [], K, _ => .nil
  | n :: ns, K, h => by
    obtain ⟨h1, h2⟩ := List.pairwise_cons.mp h
    refine List.pairwise_append.mpr ⟨?_, byNums_ord h2, fun a ha b hb => ?_⟩
    · refine List.pairwise_iff_forall_sublist.mpr fun {a b} s => ?_
      have ma := (List.mem_filter.mp (s.subset (List.mem_cons_self))).2
      have mb := (List.mem_filter.mp (s.subset (List.mem_cons_of_mem _ List.mem_cons_self))).2
      rw [of_decide_eq_true ma, of_decide_eq_true mb]
      exact Int.le_refl _
    · have ma := of_decide_eq_true (List.mem_filter.mp ha).2
      obtain ⟨m, hm, hb⟩ := List.mem_flatMap.mp hb
      have mb := of_decide_eq_true (List.mem_filter.mp hb).2
      have := h1 m hm
      omega
theorem byNums_std {ns : List Int} {K : List Row} (h : ns.Pairwise (· < ·)) (hm : ∀ k : Int, k ∈ ns ↔ k ∈ K.map (·.1)) : Std (byNums ns K) K := by
  refine ⟨byNums_ord h, fun m => ?_⟩
  rw [byNums_fil m h]
  by_cases c : m ∈ ns
  · rw [if_pos c]
  · rw [if_neg c]
    refine (List.filter_eq_nil_iff.mpr fun r hr e => c ((hm m).mpr ?_)).symm
    rw [← of_decide_eq_true e]
    exact List.mem_map.mpr ⟨r, hr, rfl⟩
/-! ### split by a bound -/
theorem ord_split {p : Int → Bool} (hp : ∀ a b : Int, a ≤ b → p b = true → p a = true) : ∀ {T : List Row}, (T.Pairwise fun a b => a.1 ≤ b.1) → T = T.filter (fun r => p r.1) ++ T.filter fun r => !p r.1
  | [], _ => rfl
  | x :: t, h => by
    obtain ⟨h1, h2⟩ := List.pairwise_cons.mp h
    by_cases c : p x.1 = true
    · rw [List.filter_cons, if_pos c, List.filter_cons, if_neg (by rw [c]; decide), List.cons_append, ← ord_split hp h2]
    · have all : ∀ y ∈ t, p y.1 = false := fun y hy => by
        cases e : p y.1 with
        | false => rfl
        | true => exact absurd (hp _ _ (h1 y hy) e) c
      have e1 : (x :: t).filter (fun r => p r.1) = [] := List.filter_eq_nil_iff.mpr fun y hy => by
        rcases List.mem_cons.mp hy with e | e
        · rw [e]; exact c
        · rw [all y e]; decide
      have e2 : (x :: t).filter (fun r => !p r.1) = x :: t := List.filter_eq_self.mpr fun y hy => by
        rcases List.mem_cons.mp hy with e | e
        · rw [e, Bool.eq_false_iff.mpr c]; rfl
        · rw [all y e]; rfl
      rw [e1, e2]
      rfl
theorem le_down (n : Int) : ∀ a b : Int, a ≤ b → decide (b ≤ n) = true → decide (a ≤ n) = true := fun a b h1 h2 => decide_eq_true (Int.le_trans h1 (of_decide_eq_true h2))
theorem lt_down (n : Int) : ∀ a b : Int, a ≤ b → decide (b < n) = true → decide (a < n) = true := fun a b h1 h2 => decide_eq_true (Int.lt_of_le_of_lt h1 (of_decide_eq_true h2))
def ahead (n : Int) (T : List Row) : List Row := T.filter fun r => decide (r.1 ≤ n)
def below (n : Int) (T : List Row) : List Row := T.filter fun r => decide (r.1 < n)
theorem cut_at {α : Type} {T A B : List α} (h : T = A ++ B) : T.take A.length = A ∧ T.drop A.length = B := by
  subst h
  exact ⟨List.take_left .., List.drop_left ..⟩
/-- one more -/
def put1 (r : Row) (T : List Row) : List Row := T.take (ahead r.1 T).length ++ [r] ++ T.drop (ahead r.1 T).length
theorem Std.put {T K : List Row} {r : Row} (h : Std T K) : Std (put1 r T) (K ++ [r]) := by
  have sp := ord_split (le_down r.1) h.ord
  have et : T.take (ahead r.1 T).length = ahead r.1 T := (cut_at (A := ahead r.1 T) sp).1
  have ed : T.drop (ahead r.1 T).length = T.filter fun x => !decide (x.1 ≤ r.1) := (cut_at (A := ahead r.1 T) sp).2
  unfold put1
  rw [et, ed]
  have ho := h.ord
  rw [sp] at ho
  obtain ⟨o1, o2, o3⟩ := List.pairwise_append.mp ho
  have g1 : ∀ x ∈ ahead r.1 T, x.1 ≤ r.1 := fun x hx => of_decide_eq_true (List.mem_filter.mp hx).2
  have g2 : ∀ x ∈ T.filter (fun x => !decide (x.1 ≤ r.1)), r.1 < x.1 := fun x hx => by
    have := (List.mem_filter.mp hx).2
    by_cases c : x.1 ≤ r.1
    · rw [decide_eq_true c] at this; cases this
    · omega
  refine ⟨?_, fun n => ?_⟩
  · refine List.pairwise_append.mpr ⟨List.pairwise_append.mpr ⟨o1, List.pairwise_singleton _ _, fun a ha b hb => ?_⟩, o2, fun a ha b hb => ?_⟩
    · rw [List.mem_singleton.mp hb]; exact g1 a ha
    · rcases List.mem_append.mp ha with ha | ha
      · have := g1 a ha; have := g2 b hb; omega
      · rw [List.mem_singleton.mp ha]; have := g2 b hb; omega
  · rw [List.filter_append, List.filter_append, List.filter_append, ← h.fil n]
    conv => rhs; rw [sp, List.filter_append]
    show _ = (ahead r.1 T).filter (keyB n) ++ _ ++ _
    by_cases c : r.1 = n
    · have z : (T.filter fun x => !decide (x.1 ≤ r.1)).filter (keyB n) = [] := List.filter_eq_nil_iff.mpr fun x hx e => by
        have := g2 x hx
        have := of_decide_eq_true e
        omega
      rw [z, List.append_nil, List.append_nil]
    · have z : [r].filter (keyB n) = [] := by
        rw [List.filter_cons, if_neg (by rw [keyB_ne c]; decide)]; rfl
      rw [z, List.append_nil, List.append_nil]
/-- what may be taken -/
theorem Std.below_split {T K : List Row} (h : Std T K) (n : Int) : T = below n T ++ T.filter fun r => !decide (r.1 < n) := ord_split (lt_down n) h.ord
theorem ge_fil {T : List Row} (n : Int) : (T.filter fun r => !decide (r.1 < n)) = T.filter fun r => decide (r.1 ≥ n) := by
  congr 1
  funext r
  by_cases c : r.1 < n
  · rw [decide_eq_true c, decide_eq_false (show ¬ r.1 ≥ n by omega)]; rfl
  · rw [decide_eq_false c, decide_eq_true (show r.1 ≥ n by omega)]; rfl
theorem Std.take_none {T K : List Row} {n : Int} (h : Std T K) (e : (below n T).length = T.length) : (T.filter fun r => decide (r.1 ≥ n)) = [] := by
  have sp := h.below_split n
  rw [ge_fil] at sp
  have := congrArg List.length sp
  rw [List.length_append] at this
  exact List.length_eq_zero_iff.mp (by omega)
theorem Std.take_some {T K : List Row} {n : Int} (h : Std T K) (e : (below n T).length ≠ T.length) : ∃ x B, (T.filter fun r => decide (r.1 ≥ n)) = x :: B ∧ T[(below n T).length]? = some x ∧ T.eraseIdx (below n T).length = below n T ++ B ∧ x ∈ K := by
  have sp := h.below_split n
  rw [ge_fil] at sp
  cases eB : T.filter fun r => decide (r.1 ≥ n) with
  | nil =>
    rw [eB, List.append_nil] at sp
    exact absurd (congrArg List.length sp.symm) e
  | cons x B =>
    rw [eB] at sp
    refine ⟨x, B, rfl, ?_, ?_, ?_⟩
    · conv => lhs; arg 1; rw [sp]
      rw [List.getElem?_append_right (Nat.le_refl _), Nat.sub_self]
      rfl
    · conv => lhs; arg 1; rw [sp]
      rw [List.eraseIdx_append_of_length_le (Nat.le_refl _), Nat.sub_self]
      rfl
    · have : x ∈ K.filter (keyB x.1) := by
        rw [← h.fil]
        refine List.mem_filter.mpr ⟨?_, keyB_self x⟩
        rw [sp]
        exact List.mem_append_right _ List.mem_cons_self
      exact (List.mem_filter.mp this).1
/-- the first place of x -/
def firstAt (x : Row) (K : List Row) (k : Nat) : Prop := ∃ K1 K2, K = K1 ++ x :: K2 ∧ x ∉ K1 ∧ K1.length = k
theorem Std.took {T K : List Row} {n : Int} {x : Row} {B : List Row} {k : Nat} (h : Std T K) (e : (T.filter fun r => decide (r.1 ≥ n)) = x :: B) (f : firstAt x K k) : Std (below n T ++ B) (K.eraseIdx k) := by
  have sp := h.below_split n
  rw [ge_fil, e] at sp
  obtain ⟨K1, K2, rfl, hx, rfl⟩ := f
  have hn : x.1 ≥ n := of_decide_eq_true (List.mem_filter.mp (show x ∈ T.filter _ by rw [e]; exact List.mem_cons_self)).2
  have ho := h.ord
  rw [sp] at ho
  rw [List.eraseIdx_append_of_length_le (Nat.le_refl _), Nat.sub_self]
  show Std _ (K1 ++ K2)
  refine ⟨List.Pairwise.sublist (List.Sublist.append_left (List.sublist_cons_self x B) _) ho, fun m => ?_⟩
  have em := h.fil m
  rw [sp, List.filter_append, List.filter_append, List.filter_cons, List.filter_cons] at em
  rw [List.filter_append, List.filter_append]
  by_cases c : x.1 = m
  · subst c
    have z : (below n T).filter (keyB x.1) = [] := List.filter_eq_nil_iff.mpr fun y hy q => by
      have h1 := of_decide_eq_true (List.mem_filter.mp hy).2
      have h2 := of_decide_eq_true q
      omega
    rw [z, List.nil_append, if_pos (keyB_self x), if_pos (keyB_self x)] at em
    rw [z, List.nil_append]
    cases e1 : K1.filter (keyB x.1) with
    | nil =>
      rw [e1, List.nil_append] at em
      rw [List.nil_append]
      exact (List.cons.inj em).2
    | cons y l =>
      rw [e1] at em
      have : x = y := (List.cons.inj em).1
      subst this
      have : x ∈ K1.filter (keyB x.1) := by rw [e1]; exact List.mem_cons_self
      exact absurd (List.mem_filter.mp this).1 hx
  · rw [if_neg (by rw [keyB_ne c]; decide), if_neg (by rw [keyB_ne c]; decide)] at em
    exact em
theorem first_ex {x : Row} : ∀ {K : List Row}, x ∈ K → ∃ k, firstAt x K k
  | y :: K, h => by
    rcases Classical.em (x = y) with e | e
    · subst e
      exact ⟨0, [], K, rfl, List.not_mem_nil, rfl⟩
    · obtain ⟨k, K1, K2, rfl, h1, rfl⟩ := first_ex ((List.mem_cons.mp h).resolve_left e)
      exact ⟨_, y :: K1, K2, rfl, fun q => (List.mem_cons.mp q).elim e h1, rfl⟩
theorem Std.len {T K : List Row} (h : Std T K) : T.length = K.length := by
  classical
  have : T.Perm K := by
    refine List.perm_iff_count.mpr fun r => ?_
    have e := congrArg (List.count r) (h.fil r.1)
    rwa [List.count_filter (keyB_self r), List.count_filter (keyB_self r)] at e
  exact this.length_eq
theorem Std.mem {T K : List Row} (h : Std T K) {r : Row} : r ∈ T ↔ r ∈ K := by
  have e : r ∈ T.filter (keyB r.1) ↔ r ∈ K.filter (keyB r.1) := by rw [h.fil]
  rw [List.mem_filter, List.mem_filter] at e
  exact ⟨fun m => (e.mp ⟨m, keyB_self r⟩).1, fun m => (e.mpr ⟨m, keyB_self r⟩).1⟩
end Gj

/-! own layer: own exception classes over any built-in one, with fields -/
namespace Gj
open PySem PySem.Spec PyProof.Rows L2
open C8 (Cal pe_c pe_gc)
/-- what the written part says of an own exception class whose mro ends in tl -/
structure ExK (K : PySem.W.Frag) (C : Addr) (tl : List Value) (newId : String) : Prop where
  cls : ∃ nm q N bs bm sn sub ab col dd k0 k1 k2 k3 k5, K.lookup C = some (excClassObj nm q C N bs bm true sn sub ab col dd k0 k1 k2 k3 k5 newId) ∧ PySem.W.excTail tl bm = true
  sa : PySem.W.findIn K (.ref C) "__setattr__" = some (some (.builtin "object.__setattr__"))
  tyC : PySem.W.typeIn K (.ref C) = some (.type "type")
  kC : PySem.W.keepIn K (.ref C) = true
  ex : ExcC K C
theorem ExK.xf {K : PySem.W.Frag} {C : Addr} {tl : List Value} {newId : String} (T : ExK K C tl newId) : XfC K C := ⟨T.ex.hg, T.ex.hk, T.ex.hs, T.ex.hd⟩
theorem ExK.over {K : PySem.W.Frag} {C : Addr} {tl : List Value} {newId : String} (T : ExK K C tl newId) : PySem.W.excOver K C tl = true := by
  obtain ⟨nm, q, N, bs, bm, sn, sub, ab, col, dd, k0, k1, k2, k3, k5, hC, ht⟩ := T.cls
  have hc : PySem.W.clsIn K C = some { name := nm, bases := bs, mro := .ref C :: bm, ns := N, qualname := q, hasDict := true, slotNames := sn, subclasses := sub, abstract := ab, collection := col, hasDel := false } := by
    unfold PySem.W.clsIn
    rw [hC] <;> rfl
  unfold PySem.W.excOver
  rw [hc]
  show (decide (C = C) && PySem.W.excTail tl bm) = true
  rw [ht, decide_eq_true rfl]
  rfl
theorem taker_none {K : PySem.W.Frag} {C : Addr} {f : Str} (h : PySem.W.findIn K (.ref C) f = some none) : PySem.W.takerIn K C f = some none := by
  unfold PySem.W.takerIn
  rw [h] <;> rfl
section
variable {X : Cx} {pins : List (Addr × Obj)} {σ : L2.St} {H : Hp} {s : Shared} {a C dx : Addr} {f : Str} {y : V} {u : Value} {fs : List (Str × V)} {Q : Unit → Shared → Prop} {E : Value → Shared → Prop} {A : Around} {B newId : String} {tl : List Value}
theorem xost_new (SF : StoreFacts B tl "object.__setattr__" "object") (T : ExK X.K C tl newId) (I : Inv X pins σ H s) (e : H a = some (exo a C none)) (hno : PySem.W.findIn X.K (.ref C) f = some none) (ry : RelV y u)
    (h : ∀ dx s', H dx = none → dx ≠ a → Inv X pins σ (upd (upd H dx (exd dx [(f, y)])) a (exo a C (some dx))) s' → Q () s') : wpAny (model X.prog X.w) A (setAttr (.ref a) f u) Q E s := by
  obtain ⟨t1, ho⟩ := exo_at I.hok e
  obtain ⟨cd, hc, hdt⟩ := PySem.W.any_some T.ex.hd
  obtain ⟨hp, g, d, t, os⟩ := s
  refine PySem.W.set_plain I.kIn (od := none) ⟨ho, rfl, rfl, trivial⟩ T.sa (PySem.W.osa_openX (s := ⟨hp, g, d, t + 1, os⟩) SF I.kIn (od := none) ⟨ho, rfl, rfl, trivial⟩ T.over (taker_none hno) fun b => ?_)
  refine wpAny_bind (wpAny_pure (wpAny_bind (PySem.W.instanceDict_exc ho (PySem.W.looks_clsIn I.kIn hc) hdt ?_)))
  have as : a < hp.objs.size := Heap.lt_size ho
  have nh : H hp.objs.size = none := I.hok.fresh (Nat.le_refl _)
  have ne : hp.objs.size ≠ a := Nat.ne_of_gt as
  have up1 : (((hp.push (PySem.W.dictOf [] 0)).update a fun o => { o with dict := some hp.objs.size }).get? a) = some ({ cls := .ref C, dict := some hp.objs.size, data := .fields #[.ref t1, .none, .none, .none, .bool false, .none] } : Obj) := Heap.get?_update_self _ (Heap.get?_push_of_some _ ho) rfl
  have up2 : ∀ b o, b ≠ a → hp.get? b = some o → (((hp.push (PySem.W.dictOf [] 0)).update a fun o => { o with dict := some hp.objs.size }).get? b) = some o := fun b o nb q => (Heap.get?_update_ne _ _ _ _ nb).trans (Heap.get?_push_of_some _ q)
  have up3 : (((hp.push (PySem.W.dictOf [] 0)).update a fun o => { o with dict := some hp.objs.size }).get? hp.objs.size) = some (PySem.W.dictOf [] 0) := (Heap.get?_update_ne _ _ _ _ ne).trans (Heap.get?_push_size _ rfl)
  show wpAny _ _ (Builtin.ObjectAttr.storeInDict hp.objs.size (.str f t) f u) _ _ _
  refine PySem.HandSPX.store_in_new ⟨_, #[], _, up3, rfl, fun e he => absurd he (by simp), fun _ => rfl⟩ fun h' tk' hn sb => ?_
  have old : ∀ b o, b ≠ a → hp.get? b = some o → h'.get? b = some o := fun b o nb q => (sb.2 b (Nat.ne_of_lt (Heap.lt_size q))).trans (up2 b o nb q)
  have newA := (sb.2 a ne.symm).trans up1
  have na : ∀ {b : Addr}, H b = none → b ≠ a := fun {b} n z => by rw [z, e] at n; cases n
  have nd : ∀ {b : Addr} {o : Obj}, hp.get? b = some o → b ≠ hp.objs.size := fun {b o} q => Nat.ne_of_lt (Heap.lt_size q)
  refine h hp.objs.size ⟨h', g, d, tk', os⟩ nh ne (I.un (t' := tk') (h' := h') ⟨fun b o q n _ _ => old b o (na n) q, fun b o q n _ _ => ⟨o.slots, old b o (na n) q⟩, fun b o q n _ => ?_, fun b o q _ => ?_, fun b xs q => ?_, fun b o v q => ?_, fun b ps q => ⟨#[], ?_⟩⟩ fun b o q => ?_)
  · rw [upd_ne (na n), upd_ne (nd q)]; exact n
  · by_cases hb : b = a
    · rw [hb]; exact ⟨_, newA⟩
    · exact ⟨o, old b o hb q⟩
  · rw [upd_ne (at_ne e q exo_tup), upd_ne (ne_of_none q nh)]; exact q
  · rw [upd_ne (at_ne e q exo_frz), upd_ne (ne_of_none q nh)]; exact q
  · rw [upd_ne (at_ne e q exo_tbl), upd_ne (ne_of_none q nh), q]; simp
  · by_cases hb : b = a
    · rw [hb, upd_same] at q; cases q; rw [hb]; exact exo_ok newA
    · rw [upd_ne hb] at q
      by_cases hd : b = hp.objs.size
      · rw [hd, upd_same] at q; cases q; rw [hd]; exact exd_ok hn (relO_put (fs := []) ry fun g => True.intro)
      · rw [upd_ne hd] at q
        refine (I.hok b o q).stay (fun c v hc z => old c v ?_ z) (fun c hc => ?_) fun c xs hc => ?_
        · rcases hc with hc | hc
          · rw [hc]; exact hb
          · exact at_ne e hc exo_own
        · rw [upd_ne (at_ne e hc exo_own), upd_ne (ne_of_none hc nh)]; exact hc
        · rw [upd_ne (at_ne e hc exo_tup), upd_ne (ne_of_none hc nh)]; exact hc
theorem xost_old (SF : StoreFacts B tl "object.__setattr__" "object") (T : ExK X.K C tl newId) (I : Inv X pins σ H s) (e : H a = some (exo a C (some dx))) (ed : H dx = some (exd dx fs)) (hl : fs.length ≤ 900) (hno : PySem.W.findIn X.K (.ref C) f = some none) (ry : RelV y u)
    (h : ∀ s', Inv X pins σ (upd H dx (exd dx ((f, y) :: fs))) s' → Q () s') : wpAny (model X.prog X.w) A (setAttr (.ref a) f u) Q E s := by
  obtain ⟨t1, ho⟩ := exo_at I.hok e
  obtain ⟨mA, hns, rel⟩ := exd_at I.hok ed
  obtain ⟨cd, hc, hdt⟩ := PySem.W.any_some T.ex.hd
  obtain ⟨oD, _, _, hoD, _, _⟩ := hns.count (within_of rel)
  obtain ⟨hp, g, d, t, os⟩ := s
  refine PySem.W.set_plain I.kIn (od := some oD) ⟨ho, rfl, rfl, hoD⟩ T.sa (PySem.W.osa_openX (s := ⟨hp, g, d, t + 1, os⟩) SF I.kIn (od := some oD) ⟨ho, rfl, rfl, hoD⟩ T.over (taker_none hno) fun b => ?_)
  refine wpAny_bind (wpAny_pure (wpAny_bind (wpAny_bind (wpAny_loadPart ho (wpAny_bind ((PySem.W.looks_clsIn (show X.K.In hp from I.kIn) hc).here ?_))))))
  rw [hdt]
  refine wpAny_pure (a := some dx) (PySem.OEX.store_in_old hns (within_of rel) (by rw [List.length_map]; omega) fun h' tk' hn sb => ?_)
  have hd : ∃ o, h'.get? dx = some o := by
    obtain ⟨o, _, _, e', _⟩ := hn
    exact ⟨o, e'⟩
  exact h _ (I.write (t' := tk') (x := dx) (e := dx) (o := exd dx ((f, y) :: fs)) (by rw [ed]; exact True.intro) (.inl rfl) (fun b o nb q => (sb.2 b nb).trans q) hd (exd_ok hn (relO_put ry rel)))
end
/-- self.f = e within the __init__ of such a class -/
def tXst (K : PySem.W.Frag) (tl : List Value) (newId : String) (f : Str) (to te : TE) : TS := fun D σ H => te σ H fun y H1 => to σ H1 fun x H2 => ∃ a C : Addr, x = .ref a ∧ ExK K C tl newId ∧ PySem.W.findIn K (.ref C) f = some none ∧
  ((H2 a = some (exo a C none) ∧ ∀ dx, H2 dx = none → dx ≠ a → D.nx σ (upd (upd H2 dx (exd dx [(f, y)])) a (exo a C (some dx)))) ∨
    ∃ (dx : Addr) (fs : List (Str × V)), H2 a = some (exo a C (some dx)) ∧ H2 dx = some (exd dx fs) ∧ fs.length ≤ 900 ∧ D.nx σ (upd H2 dx (exd dx ((f, y) :: fs))))
section
variable {X : Cx} {o e : Expr} {es : List Expr} {to te : TE} {ta : TA} {f : Str} {p p' pos : Pos} {B newId initId : String} {tl : List Value}
theorem ps_xst (SF : StoreFacts B tl "object.__setattr__" "object") (ho : PE X o to) (he : PE X e te) (hs : swapsWith e (some (.Attribute o f p')) pos.line X.env = pure false := by rfl) : PS X (.Assign [.Attribute o f p'] e pos) (tXst X.K tl newId f to te) := by
  refine ⟨fun pins s σ H D I h => ?_⟩
  refine plainObj_wpAny_Assign_Attribute (thn (he.run pins s σ H _ I h) fun v s1 ⟨y, H1, I1, r1, q1⟩ => thn (ho.run pins s1 σ H1 _ I1 q1) fun u s2 ⟨x, H2, I2, r2, a, C, ex, T, hno, q⟩ => ?_) hs
  subst ex
  obtain rfl : u = Value.ref a := r2
  rcases q with ⟨ea, q⟩ | ⟨dx, fs, ea, ed, hl, q⟩
  · exact xost_new SF T I2 ea hno r1 fun dx s' n ne J => ⟨σ, _, J, q dx n ne⟩
  · exact xost_old SF T I2 ea ed hl hno r1 fun s' J => ⟨σ, _, J, q⟩
/-- the call of such a class, from the arguments' values -/
theorem xmake {CX : CXT} {pins : List (Addr × Obj)} {σ : L2.St} {H1 : Hp} {hp : Heap} {g : Array GenState} {dr : PySem.Drawn} {tk : Nat} {os : OsState} {C fI : Addr} {k : Nat} {fd : FuncData} {ps : List Str} {sp : Sp} {vs : List V} {us : List Value} {Q : Value → Shared → Prop}
    (FB : ExcBaseFacts B newId initId tl) (T : ExK X.K C tl newId) (iC : PySem.W.findIn X.K (.ref C) "__init__" = some (some (.ref fI))) (tI : PySem.W.typeIn X.K (.ref fI) = some (.type "function"))
    (F1 : FnOk X.prog X.w X.K X.mg X.base CX k fI fd ps sp) (hr : Room (k + 1) X.A) (hb : Binds X.K fd ps []) (hx : Passes CX X (fun _ _ _ => False)) (I1 : Inv X pins σ H1 ⟨hp, g, dr, tk, os⟩) (r1 : Vals vs us) (hz : vs.length ≤ 1000)
    (q : V → Hp → Prop) (hq : ∀ a, H1 a = none → sp (.ref a :: vs) (upd H1 a (exo a C none)) (fun v H2 => v = .non ∧ q (.ref a) H2) (fun _ _ _ => False))
    (fin : ∀ (a : Addr) (h2 : Heap) (g2 : Array GenState) (d2 : PySem.Drawn) (t2 : Nat) (hp2 : Heap) (H2 : Hp), hp.objs.size ≤ a → H1 a = none → (∀ b o, hp.get? b = some o → hp2.get? b = some o) → Un (frs X.stack) [] (upd H1 a (exo a C none)) H2 hp2 h2 → HOk X.prog X.w H2 h2 → AllBare g2 →
      Inv X pins σ (upd H1 a (exo a C none)) ⟨hp2, g, dr, tk, os⟩ → q (.ref a) H2 → Q (.ref a) ⟨h2, g2, d2, t2, os⟩) :
    wpAny (model X.prog X.w) X.A (call (.ref C) us) Q X.xe ⟨hp, g, dr, tk, os⟩ := by
  obtain ⟨nm, qn, N, bs, bm, sn, sub, ab, col, dd, k0, k1, k2, k3, k5, hC, ht⟩ := T.cls
  have sz : hp.objs.size ≤ hp.objs.size + 1 := Nat.le_succ _
  have n1 : H1 (hp.objs.size + 1) = none := I1.hok.fresh sz
  have keep : ∀ b o, hp.get? b = some o → ((hp.push (PySem.W.kdv_tup us)).push (PySem.HandSPX.excO C hp.objs.size)).get? b = some o := fun b o z => Heap.get?_push_of_some _ (Heap.get?_push_of_some _ z)
  have got : ((hp.push (PySem.W.kdv_tup us)).push (PySem.HandSPX.excO C hp.objs.size)).get? (hp.objs.size + 1) = some (PySem.HandSPX.excO C hp.objs.size) := by heap_get
  have I2 := I1.laid (t' := tk) (a := hp.objs.size + 1) (o := exo (hp.objs.size + 1) C none) (h' := (hp.push (PySem.W.kdv_tup us)).push (PySem.HandSPX.excO C hp.objs.size)) keep sz (exo_ok got)
  have rr : Vals (V.ref (hp.objs.size + 1) :: vs) (Value.ref (hp.objs.size + 1) :: us) := .cons rfl r1
  have sp1 := hq _ n1
  have len : (Value.ref (hp.objs.size + 1) :: us ++ []).length = ps.length := by
    rw [List.append_nil, ← rr.length]
    exact F1.len _ _ _ _ sp1
  have lus : us.length ≤ sizeLine := by rw [← Paired.length r1, sizeLine_eq]; omega
  have bnd := hb ⟨(hp.push (PySem.W.kdv_tup us)).push (PySem.HandSPX.excO C hp.objs.size), g, dr, tk, os⟩ (Value.ref (hp.objs.size + 1) :: us) I2.kIn len
  rw [List.append_nil] at bnd
  refine wpAny_call (PySem.HandSPX.call_own FB (fun Y => PySem.W.excTail_contains Y bm ht) (I1.kIn _ _ hC) (PySem.W.looks_findIn I1.kIn iC) (fun self => PySem.W.bind_fn I1.kIn self tI) lus
    (codeAny_mono (F1.run _ X.stack _ _ _ _ _ _ _ (hr.make C us []) (I2.env0.make C us []) bnd rr sp1) fun r s' z => ?_))
  cases r with
  | error er => exact hx pins σ _ _ er s' I2 z
  | ok fl =>
    cases fl with
    | ret u =>
      obtain ⟨v, H2, os2, bare2, un2, hok2, rv, ev, q2⟩ := z
      subst ev
      obtain ⟨h2, g2, d2, t2, os'⟩ := s'
      cases os2
      exact ⟨rv, fin _ h2 g2 d2 t2 _ H2 sz n1 keep un2 hok2 bare2 I2 q2⟩
    | next => exact False.elim z
    | brk => exact False.elim z
    | cont => exact False.elim z
end
end Gj

namespace Gj
open PySem PySem.Spec PyProof.Rows L2
open C8 (Cal pe_c pe_gc)
/-- an __init__ that stores its arguments by these names -/
def spInit (C : Addr) (fs : List Str) : Sp := fun vs H Q _ => ∃ (a : Addr) (ws : List V), vs = .ref a :: ws ∧ ws.length = fs.length ∧ H a = some (exo a C none) ∧
  ∀ (H' : Hp) (dx : Addr), H dx = none → dx ≠ a → (∀ b o, b ≠ a → H b = some o → H' b = some o) → H' a = some (exo a C (some dx)) → H' dx = some (exd dx (fs.zip ws).reverse) → Q .non H'
/-- an own exception class with these fields, by the module's name x -/
structure Exn (P : Program) (w : World) (K : PySem.W.Frag) (mg : Str → Option Value) (base : Heap) (x : Str) (C : Addr) (tl : List Value) (newId : String) (fs : List Str) : Prop where
  T : ExK K C tl newId
  g : mg x = some (.ref C)
  small : fs.length ≤ 900
  ini : ∃ (fI : Addr) (fd : FuncData) (ps : List Str), PySem.W.findIn K (.ref C) "__init__" = some (some (.ref fI)) ∧ PySem.W.typeIn K (.ref fI) = some (.type "function") ∧ FnOk P w K mg base CX0 1 fI fd ps (spInit C fs) ∧ Binds K fd ps []
/-- raise C(..): the fields' dict at d -/
def tRz (C : Addr) (fs : List Str) (ta : TA) : L2.St → Hp → XK → Prop := fun σ H Q => ta σ H fun ws H1 => ws.length = fs.length ∧ ∀ d H', H1 d = none → Same H1 H' → H' d = some (.xd (fs.zip ws).reverse) → Q (.ref C) (some d) H'
/-- C(..) as a value -/
def tXv (C : Addr) (fs : List Str) (ta : TA) : TE := fun σ H Q => ta σ H fun ws H1 => ws.length = fs.length ∧ ∀ a d H', H1 a = none → H1 d = none → d ≠ a → Same H1 H' → H' a = some (exo a C (some d)) → H' d = some (exd d (fs.zip ws).reverse) → Q (.ref a) H'
section
variable {X : Cx} {e : Expr} {es : List Expr} {ta : TA} {x : Str} {p pos : Pos} {B newId initId : String} {tl : List Value} {C : Addr} {fs : List Str}
theorem pmk_xn (FB : ExcBaseFacts B newId initId tl) (N : Exn X.prog X.w X.K X.mg X.base x C tl newId fs) (hr : Room 2 X.A) (hg : Gl X x) (ha : PA X (e :: es) ta)
    (hdb : (x == ("__debug__" : Str)) = false := by decide) (he : starEach (e :: es) X.env = (false, eval e X.env) :: starEach es X.env := by rfl) (hpl : (backTo pos (starEach es X.env)).any (·.1) = false := by rfl) :
    PMk X (.Call (.Name x p) (e :: es) [] pos) (tRz C fs ta) := by
  intro pins s σ H Q I h
  obtain ⟨fI, fd, ps, iC, tI, F1, hb⟩ := N.ini
  refine wpAny_Call_Name_kw (ld_glob I hg N.g ?_ hdb)
  refine PySem.W.callWith_K (h₀ := X.base) I.ok.mod.kin N.T.kC (thn (ha.run pos pins s σ H _ I h) fun us s1 ⟨ws, H1, I1, r1, hz, q1⟩ => ⟨I1.kIn, ?_⟩) he hpl
  obtain ⟨hp, g, dr, tk, os⟩ := s1
  have small := N.small
  refine xmake FB N.T iC tI F1 hr hb pass0 I1 r1 (by omega) (fun v H2 => ∃ a d, v = .ref a ∧ H1 a = none ∧ H1 d = none ∧ d ≠ a ∧ Same H1 H2 ∧ H2 a = some (exo a C (some d)) ∧ H2 d = some (exd d (fs.zip ws).reverse)) (fun a na => ?_) fun a h2 g2 d2 t2 hp2 H2 sz na k un hok bare I2 q => ?_
  · refine ⟨a, ws, rfl, hz, upd_same, fun H2 d nd ne kp ea ed => ⟨rfl, a, d, rfl, na, ?_, ne, fun b o z => kp b o (ne_of_none z na) (by rw [upd_ne (ne_of_none z na)]; exact z), ea, ed⟩⟩
    rw [upd_ne ne] at nd
    exact nd
  · obtain ⟨a', d, ea', _, nd, ne, sm, ea, ed⟩ := q
    cases ea'
    refine mk_end (raises_own N.T.ex.hs N.T.tyC) I1 sz k un hok rfl bare ea ed nd (q1 d _ nd (fun b o z => ?_) upd_same)
    rw [upd_ne (ne_of_none z nd), del_ne (ne_of_none z na)]
    exact sm b o z
theorem pe_xn (FB : ExcBaseFacts B newId initId tl) (N : Exn X.prog X.w X.K X.mg X.base x C tl newId fs) (hr : Room 2 X.A) (hg : Gl X x) (ha : PA X (e :: es) ta)
    (hdb : (x == ("__debug__" : Str)) = false := by decide) (he : starEach (e :: es) X.env = (false, eval e X.env) :: starEach es X.env := by rfl) (hpl : (backTo pos (starEach es X.env)).any (·.1) = false := by rfl) :
    PE X (.Call (.Name x p) (e :: es) [] pos) (tXv C fs ta) := by
  refine ⟨fun pins s σ H Q I h => ?_⟩
  obtain ⟨fI, fd, ps, iC, tI, F1, hb⟩ := N.ini
  refine wpAny_Call_Name_kw (ld_glob I hg N.g ?_ hdb)
  refine PySem.W.callWith_K (h₀ := X.base) I.ok.mod.kin N.T.kC (thn (ha.run pos pins s σ H _ I h) fun us s1 ⟨ws, H1, I1, r1, hz, q1⟩ => ⟨I1.kIn, ?_⟩) he hpl
  obtain ⟨hp, g, dr, tk, os⟩ := s1
  have small := N.small
  refine xmake FB N.T iC tI F1 hr hb pass0 I1 r1 (by omega) (fun v H2 => ∃ a d, v = .ref a ∧ H1 a = none ∧ H1 d = none ∧ d ≠ a ∧ Same H1 H2 ∧ H2 a = some (exo a C (some d)) ∧ H2 d = some (exd d (fs.zip ws).reverse)) (fun a na => ?_) fun a h2 g2 d2 t2 hp2 H2 sz na k un hok bare I2 q => ?_
  · refine ⟨a, ws, rfl, hz, upd_same, fun H2 d nd ne kp ea ed => ⟨rfl, a, d, rfl, na, ?_, ne, fun b o z => kp b o (ne_of_none z na) (by rw [upd_ne (ne_of_none z na)]; exact z), ea, ed⟩⟩
    rw [upd_ne ne] at nd
    exact nd
  · obtain ⟨a', d, ea', _, nd, ne, sm, ea, ed⟩ := q
    cases ea'
    exact ⟨.ref a, H2, I2.call' (ch := []) rfl un hok bare (fun b z => absurd z (by simp)), rfl, q1 a d H2 na nd ne sm ea ed⟩
end
/-! ### isinstance, fields -/
theorem kit_exn {K : PySem.W.Frag} {C x : Addr} {ox : Obj} {od : Option Obj} (T : ExcC K C) : PySem.W.KitX K (.ref x) (.ref C) (fun h => PySem.W.InstAt h x ox C od) :=
  PySem.W.kitx_exc (by obtain ⟨cd, hc, _⟩ := PySem.W.any_some T.hd; rw [hc]; rfl) T.hg T.hk T.hs T.ha T.hn T.ht T.hm
/-- isinstance(e, c), e the caught exception at a of the class D, its fields' dict at d -/
def rIsX (K : PySem.W.Frag) (D a d : Addr) : List V → Hp → VK → Prop := fun xs H Q => ∃ (c : V) (cv : Value) (b : Bool) (fs : List (Str × V)), xs = [.ref a, c] ∧ ClsV c cv ∧ H d = some (.xd fs) ∧ PySem.W.kitOne K (.ref D) cv = some b ∧ Q (.bl b) H
theorem call_isX {X : Cx} {a D d : Addr} {oe : Obj} {pn : List (Addr × Obj)} (T : ExcC X.K D) (hz : Zc (.ref D) (some d) oe) (hf : ∃ vs, oe.data = .fields vs) : CallR (X.suite a ((a, oe) :: pn)) (.builtin "isinstance") (rIsX X.K D a d) := by
  intro pins s σ H xs us Q I r h
  obtain ⟨c, cv, b, fs, rfl, hcv, ed, e, q⟩ := h
  obtain ⟨u1, u2, rfl, r1, r2⟩ := vals2 r
  cases r1
  have ec := hcv.eq r2
  subst ec
  obtain ⟨got, _⟩ := I.pin (a, oe) (List.mem_append.mpr (.inl List.mem_cons_self))
  obtain ⟨vs, hv⟩ := hf
  obtain ⟨mA, hns, _⟩ := (show ObjOk X.prog X.w H s.heap d (.xd fs) from I.hok d _ ed)
  obtain ⟨od, _, _, god, _⟩ := hns
  have J : PySem.W.InstAt s.heap a oe D (some od) := ⟨got, hz.1, by unfold PySem.W.notCls; rw [hv] <;> rfl, by rw [hz.2]; exact god⟩
  exact PySem.W.kia_one (kit_exn T) I.kIn J e (fun z => nomatch z) fun tk => ⟨.bl b, H, I.tok tk, rfl, q⟩
/-- isinstance(e, c), e an exception held as a value -/
def rIsV (K : PySem.W.Frag) : List V → Hp → VK → Prop := fun xs H Q => ∃ (a D : Addr) (d : Option Addr) (c : V) (cv : Value) (b : Bool), xs = [.ref a, c] ∧ ClsV c cv ∧ ExcC K D ∧ H a = some (exo a D d) ∧ (∀ x, d = some x → ∃ fs, H x = some (exd x fs)) ∧ PySem.W.kitOne K (.ref D) cv = some b ∧ Q (.bl b) H
theorem call_isV {X : Cx} : CallR X (.builtin "isinstance") (rIsV X.K) := by
  intro pins s σ H xs us Q I r h
  obtain ⟨a, D, d, c, cv, b, rfl, hcv, T, ea, ed, e, q⟩ := h
  obtain ⟨u1, u2, rfl, r1, r2⟩ := vals2 r
  cases r1
  have ec := hcv.eq r2
  subst ec
  obtain ⟨t1, got⟩ := exo_at I.hok ea
  obtain ⟨od, J⟩ : ∃ od, PySem.W.InstAt s.heap a { cls := .ref D, dict := d, data := .fields #[.ref t1, .none, .none, .none, .bool false, .none] } D od := by
    cases d with
    | none => exact ⟨none, got, rfl, rfl, trivial⟩
    | some x =>
      obtain ⟨fs, ex⟩ := ed x rfl
      obtain ⟨mA, ⟨od, _, _, god, _⟩, _⟩ := exd_at I.hok ex
      exact ⟨some od, got, rfl, rfl, god⟩
  exact PySem.W.kia_one (kit_exn T) I.kIn J e (fun z => nomatch z) fun tk => ⟨.bl b, H, I.tok tk, rfl, q⟩
/-- e.f, e an exception held as a value -/
def tXfv (K : PySem.W.Frag) (f : Str) (te : TE) : TE := fun σ H Q => te σ H fun x H1 => ∃ (a C d : Addr) (fs : List (Str × V)) (v : V), x = .ref a ∧ XfC K C ∧ PySem.W.findIn K (.ref C) f = some none ∧ H1 a = some (exo a C (some d)) ∧ H1 d = some (exd d fs) ∧ fs.lookup f = some v ∧ Q v H1
theorem pe_xfv {X : Cx} {e : Expr} {te : TE} {pos : Pos} {n : Str} (he : PE X e te) (hb : attributeBase e n X.env (eval e X.env) = eval e X.env := by rfl) : PE X (.Attribute e n pos) (tXfv X.K n te) := by
  refine ⟨fun pins s σ H Q I h => ?_⟩
  refine attr_of hb (thn (he.run pins s σ H _ I h) fun u s1 hh => ?_)
  obtain ⟨x, H1, I1, rx, a, C, d, fs, v, rfl, T, hno, ea, ed, l, q⟩ := hh
  cases rx
  obtain ⟨t1, got⟩ := exo_at I1.hok ea
  obtain ⟨mA, hns, hr⟩ := exd_at I1.hok ed
  obtain ⟨od, ho, hl⟩ := lookIn_ns hns
  obtain ⟨u, hu, ru⟩ := RelO.some_of (v := v) (o := mA n) (by rw [← l]; exact hr n)
  exact HandSPX.exc_get I1.kIn (od := some od) ⟨got, rfl, rfl, ho⟩ T.ga T.gg T.exC (PySem.W.findObj_own T.hdC hno rfl (by rw [hl, hu])) (handed_of ru) ⟨v, H1, I1.tok _, ru, q⟩
end Gj

/-! own layer: exception classes of one's own, called with keywords too -/
namespace Gj
open PySem PySem.Spec PyProof.Rows L2
/-- what is asked of a class whose __new__ is that of the built-in class B -/
structure NewOk (B newId : String) (bm : List Value) : Prop where
  b : bm.contains (.type B) = true
  noA : bm.contains (.type "AttributeError") = false
  noN : bm.contains (.type "NameError") = false
section
variable {prog : Program} {w : World} {M : Model} {A : Around} {E : Value → Shared → Prop} {h : Heap} {g : Array GenState} {d : PySem.Drawn} {t : Nat} {os : OsState} {R : Result → Shared → Prop}
variable {nm q : Str} {C N : Addr} {bs bm bmB : List Value} {hdct : Bool} {sn : List Str} {sub : List Value} {ab : Bool} {col : Option Bool} {dd : Option Addr} {k0 k1 k2 k3 k5 : Option Value} {B newId initId : String}
theorem kw_check (F : ExcBaseFacts B newId initId bmB) (O : NewOk B newId bm) {us : List Value} {kw : List (Str × Value)} {Q : Unit → Shared → Prop}
    (hC : h.get? C = some (excClassObj nm q C N bs bm hdct sn sub ab col dd k0 k1 k2 k3 k5 newId)) (hq : Q () ⟨h, g, d, t, os⟩) : wpAny M A (checkBuiltinCall newId ⟨.ref C :: us, kw⟩) Q E ⟨h, g, d, t, os⟩ := by
  have hc : (Value.ref C :: bm).contains (.type B) = true := by rw [List.contains_cons, O.b, Bool.or_true]
  have ns := F.noStar
  simp only [checkBuiltinCall, F.newKind, F.newSplit, F.newRow]
  repeat (first | refine wpAny_loadPart_at hC ?_ | (refine wpAny_isSubtype_exc hC ?_; rw [hc]) | refine wpAny_staticBase_exc hC ?_ | refine wpAny_madeBy_exc hC ?_ | simp only [bne_self_eq_false, Bool.false_eq_true, if_false] | wp_step)
  exact hq
theorem kw_new (F : ExcBaseFacts B newId initId bmB) (O : NewOk B newId bm) {us : List Value} {kw : List (Str × Value)}
    (hC : h.get? C = some (excClassObj nm q C N bs bm hdct sn sub ab col dd k0 k1 k2 k3 k5 newId))
    (hq : R (.ok (.ret (.ref (h.objs.size + 1)))) ⟨(h.push (PySem.W.kdv_tup us)).push (PySem.HandSPX.excO C h.objs.size), g, d, t, os⟩) (hl : us.length ≤ sizeLine) :
    codeAny (model prog w) A (.builtin newId ⟨.ref C :: us, kw⟩) R ⟨h, g, d, t, os⟩ := by
  have he := F.ends
  have hB : (Value.ref C :: bm).contains (.type B) = true := by rw [List.contains_cons, O.b, Bool.or_true]
  have hA : (Value.ref C :: bm).contains (.type "AttributeError") = false := by rw [List.contains_cons, O.noA] <;> rfl
  have hN : (Value.ref C :: bm).contains (.type "NameError") = false := by rw [List.contains_cons, O.noN] <;> rfl
  refine codeAny_builtinAt F.entry ?_
  unfold Builtin.«BaseException.__new__»
  refine PySem.wpAt_bind ?_
  show PySem.wpAt _ _ _ (stack >>= _) _ _ _
  refine PySem.wpAt_bind (PySem.wpAt_stack fun _ _ => PySem.wpAt_of_wpAny ?_)
  wp_walk
  refine PySem.wpAt_of_wpAny ?_
  rw [F.owner]
  repeat (first | with_reducible refine wpAny_madeHere_exc F.canon hC ?_ | with_reducible refine wpAny_loadPart_at hC ?_ | (with_reducible refine wpAny_isSubtype_exc hC ?_; first | rw [hB] | rw [hA] | rw [hN]) | wp_step)
  show R _ _
  rw [Heap.size_push] <;> exact hq
theorem kw_type (F : ExcBaseFacts B newId initId bmB) (O : NewOk B newId bm) {us : List Value} {kw : List (Str × Value)} {fI : Addr} {Q : Fin → Shared → Prop}
    (hC : h.get? C = some (excClassObj nm q C N bs bm hdct sn sub ab col dd k0 k1 k2 k3 k5 newId))
    (hi : PySem.W.Looks (model prog w) h (typeLookup (.ref C) "__init__") (some (.ref fI))) (hb : ∀ self, PySem.W.Looks (model prog w) h (bindSpecial (.ref fI) self) (.ref fI, [self])) (hl : us.length ≤ sizeLine)
    (hq : codeAny (model prog w) A (.call (.ref fI) ⟨.ref (h.objs.size + 1) :: us, kw⟩)
      (fun r s' => match r with | .ok (.ret v) => v = .none ∧ Q (.done (.ret (.ref (h.objs.size + 1)))) s' | .ok _ => False | .error e => E e s')
      ⟨(h.push (PySem.W.kdv_tup us)).push (PySem.HandSPX.excO C h.objs.size), g, d, t, os⟩) :
    wpAny (model prog w) A (Builtin.«type.__call__» ⟨.ref C :: us, kw⟩) Q E ⟨h, g, d, t, os⟩ := by
  repeat (first | with_reducible refine wpAny_loadPart_at hC ?_ | with_reducible refine wpAny_madeBy_exc hC ?_ | wp_step)
  refine codeAny_call_builtin_code (Code.quiet_builtin _ F.quiet) (kw_check F O hC ?_)
  refine kw_new F O hC ?_ hl
  show wpAny _ _ _ _ _ _
  have k : ∀ b o, h.get? b = some o → ((h.push (PySem.W.kdv_tup us)).push (PySem.HandSPX.excO C h.objs.size)).get? b = some o := fun b o e => Heap.get?_push_of_some _ (Heap.get?_push_of_some _ e)
  have hD := k _ _ hC
  have got : ((h.push (PySem.W.kdv_tup us)).push (PySem.HandSPX.excO C h.objs.size)).get? (h.objs.size + 1) = some (PySem.HandSPX.excO C h.objs.size) := by heap_get
  have cc : (Value.ref C :: bm).contains (.ref C) = true := by simp
  have i1 := hi.keeps k
  have b1 := (hb (.ref (h.objs.size + 1))).keeps k
  unfold isInstance
  repeat (first | with_reducible refine wpAny_loadPart_at got ?_ | (with_reducible refine wpAny_isSubtype_exc hD ?_; rw [cc]) | wp_step)
  show wpAny _ _ (typeLookup (.ref C) _) _ _ _
  refine i1.at ?_
  refine wpAny_holding (wpAny_bind (b1.at ?_))
  refine wpAny_bind (wpAny_call (codeAny_mono hq fun r s' z => ?_))
  rcases r with e | (v | _ | _ | _) <;> first | exact z | exact z.elim | skip
  obtain ⟨rfl, z⟩ := z
  first | exact wpAny_pure (wpAny_pure z) | (wp_walk; exact z)
theorem kw_call (F : ExcBaseFacts B newId initId bmB) (O : NewOk B newId bm) {us : List Value} {kw : List (Str × Value)} {fI : Addr}
    (hC : h.get? C = some (excClassObj nm q C N bs bm hdct sn sub ab col dd k0 k1 k2 k3 k5 newId))
    (hi : PySem.W.Looks (model prog w) h (typeLookup (.ref C) "__init__") (some (.ref fI))) (hb : ∀ self, PySem.W.Looks (model prog w) h (bindSpecial (.ref fI) self) (.ref fI, [self])) (hl : us.length ≤ sizeLine)
    (hq : codeAny (model prog w) (A.under (.builtin "type.__call__" ⟨.ref C :: us, kw⟩)) (.call (.ref fI) ⟨.ref (h.objs.size + 1) :: us, kw⟩) (PySem.W.InitBack (h.objs.size + 1) R)
      ⟨(h.push (PySem.W.kdv_tup us)).push (PySem.HandSPX.excO C h.objs.size), g, d, t, os⟩) :
    codeAny (model prog w) A (.call (.ref C) ⟨us, kw⟩) R ⟨h, g, d, t, os⟩ := by
  have f1 := tc_lookup
  have f2 := tc_bind (.ref C)
  have ty : (⟨h, g, d, t, os⟩ : Shared).TypeIs (.ref C) "type" := ⟨_, hC, rfl⟩
  refine codeAny_of_tree ?_
  show wpAny _ _ (callAny (.ref C) _) _ _ _
  repeat (any_goals (first | assumption | with_reducible refine wpAny_loadPart_at hC ?_ | wp_step))
  refine ⟨rfl, ?_⟩
  refine codeAny_call_builtin_at (Code.quiet_builtin _ (by decide +kernel)) entry_typeCall (wpAny_check_type_call_sub hC (kw_type F O hC hi hb hl ?_))
  refine codeAny_mono hq fun r s' z => ?_
  rcases r with e | (v | _ | _ | _) <;> exact z
end
end Gj

namespace Gj
open PySem PySem.Spec PyProof.Rows L2
open C8 (Cal pe_c pe_gc)
section
variable {X : Cx}
/-- the call of such a class, from the values, keywords too -/
theorem xmake2 {CX : CXT} {pins : List (Addr × Obj)} {σ : L2.St} {H1 : Hp} {hp : Heap} {g : Array GenState} {dr : PySem.Drawn} {tk : Nat} {os : OsState} {C fI : Addr} {k : Nat} {fd : FuncData} {ps : List Str} {sp : Sp} {us : List Value} {kw : List (Str × Value)} {B newId initId : String} {bmB tl : List Value} {ws2 : Addr → List V} {us2 : Addr → List Value} {Q : Value → Shared → Prop}
    (FB : ExcBaseFacts B newId initId bmB) (T : ExK X.K C tl newId) (O : NewOk B newId tl) (iC : PySem.W.findIn X.K (.ref C) "__init__" = some (some (.ref fI))) (tI : PySem.W.typeIn X.K (.ref fI) = some (.type "function"))
    (F1 : FnOk X.prog X.w X.K X.mg X.base CX k fI fd ps sp) (hr : Room (k + 1) X.A) (hx : Passes CX X (fun _ _ _ => False)) (I1 : Inv X pins σ H1 ⟨hp, g, dr, tk, os⟩) (lus : us.length ≤ sizeLine)
    (hb : ∀ (s : Shared) (a : Addr), X.K.In s.heap → BindsTo s fd ⟨.ref a :: us, kw⟩ (ps.zip (us2 a))) (rr : ∀ a, Vals (ws2 a) (us2 a))
    (q : V → Hp → Prop) (hq : ∀ a, H1 a = none → sp (ws2 a) (upd H1 a (exo a C none)) (fun v H2 => v = .non ∧ q (.ref a) H2) (fun _ _ _ => False))
    (fin : ∀ (a : Addr) (h2 : Heap) (g2 : Array GenState) (d2 : PySem.Drawn) (t2 : Nat) (hp2 : Heap) (H2 : Hp), hp.objs.size ≤ a → H1 a = none → (∀ b o, hp.get? b = some o → hp2.get? b = some o) → Un (frs X.stack) [] (upd H1 a (exo a C none)) H2 hp2 h2 → HOk X.prog X.w H2 h2 → AllBare g2 →
      Inv X pins σ (upd H1 a (exo a C none)) ⟨hp2, g, dr, tk, os⟩ → q (.ref a) H2 → Q (.ref a) ⟨h2, g2, d2, t2, os⟩) :
    wpAny (model X.prog X.w) X.A (call (.ref C) us kw) Q X.xe ⟨hp, g, dr, tk, os⟩ := by
  obtain ⟨nm, qn, N, bs, bm, sn, sub, ab, col, dd, k0, k1, k2, k3, k5, hC, ht⟩ := T.cls
  have ct : ∀ Y : String, bm.contains (.type Y) = tl.contains (.type Y) := fun Y => PySem.W.excTail_contains Y bm ht
  have O2 : NewOk B newId bm := ⟨(ct _).trans O.b, (ct _).trans O.noA, (ct _).trans O.noN⟩
  have sz : hp.objs.size ≤ hp.objs.size + 1 := Nat.le_succ _
  have n1 : H1 (hp.objs.size + 1) = none := I1.hok.fresh sz
  have keep : ∀ b o, hp.get? b = some o → ((hp.push (PySem.W.kdv_tup us)).push (PySem.HandSPX.excO C hp.objs.size)).get? b = some o := fun b o z => Heap.get?_push_of_some _ (Heap.get?_push_of_some _ z)
  have got : ((hp.push (PySem.W.kdv_tup us)).push (PySem.HandSPX.excO C hp.objs.size)).get? (hp.objs.size + 1) = some (PySem.HandSPX.excO C hp.objs.size) := by heap_get
  have I2 := I1.laid (t' := tk) (a := hp.objs.size + 1) (o := exo (hp.objs.size + 1) C none) (h' := (hp.push (PySem.W.kdv_tup us)).push (PySem.HandSPX.excO C hp.objs.size)) keep sz (exo_ok got)
  refine wpAny_call (kw_call FB O2 (I1.kIn _ _ hC) (PySem.W.looks_findIn I1.kIn iC) (fun self => PySem.W.bind_fn I1.kIn self tI) lus
    (codeAny_mono (F1.run _ X.stack _ _ _ _ _ _ _ (hr.make C us kw) (I2.env0.make C us kw) (hb _ _ I2.kIn) (rr _) (hq _ n1)) fun r s' z => ?_))
  cases r with
  | error er => exact hx pins σ _ _ er s' I2 z
  | ok fl =>
    cases fl with
    | ret u =>
      obtain ⟨v, H2, os2, bare2, un2, hok2, rv, ev, q2⟩ := z
      subst ev
      obtain ⟨h2, g2, d2, t2, os'⟩ := s'
      cases os2
      exact ⟨rv, fin _ h2 g2 d2 t2 _ H2 sz n1 keep un2 hok2 bare2 I2 q2⟩
    | next => exact False.elim z
    | brk => exact False.elim z
    | cont => exact False.elim z
end
/-- two fields by keywords in the other order -/
def turned {α : Type} (sw : Bool) (l : List α) : List α := if sw then l.reverse else l
/-- an own exception class with these fields, by the module's name x; keywords in the order ks -/
structure Exq (P : Program) (w : World) (K : PySem.W.Frag) (mg : Str → Option Value) (base : Heap) (x : Str) (C : Addr) (tl : List Value) (B newId initId : String) (bmB : List Value) (fs ks : List Str) (sw : Bool) : Prop where
  T : ExK K C tl newId
  O : NewOk B newId tl
  FB : ExcBaseFacts B newId initId bmB
  g : mg x = some (.ref C)
  small : fs.length ≤ 900
  len : ks.length = fs.length
  no : ∀ f ∈ fs, PySem.W.findIn K (.ref C) f = some none
  ini : ∃ (fI : Addr) (fd : FuncData) (ps : List Str), PySem.W.findIn K (.ref C) "__init__" = some (some (.ref fI)) ∧ PySem.W.typeIn K (.ref fI) = some (.type "function") ∧ FnOk P w K mg base CX0 1 fI fd ps (spInit C fs) ∧ Binds K fd ps [] ∧
    ∀ (s : Shared) (a : Value) (ws : List Value), ws.length = ks.length → K.In s.heap → BindsTo s fd ⟨[a], ks.zip ws⟩ (ps.zip (a :: turned sw ws))
theorem vals_app : ∀ {vs ws : List V} {us ts : List Value}, Vals vs us → Vals ws ts → Vals (vs ++ ws) (us ++ ts)
  | _, _, _, _, .nil, h => h
  | _, _, _, _, .cons r t, h => .cons r (vals_app t h)
theorem vals_turned {sw : Bool} : ∀ {vs : List V} {us : List Value}, Vals vs us → Vals (turned sw vs) (turned sw us) := fun {vs us} h => by
  cases sw with
  | false => exact h
  | true =>
    show Vals vs.reverse us.reverse
    induction h with
    | nil => exact .nil
    | cons r t ih =>
      rw [List.reverse_cons, List.reverse_cons]
      exact vals_app ih (.cons r .nil)
def tXvK (C : Addr) (fs : List Str) (sw : Bool) (ta : TA) : TE := fun σ H Q => ta σ H fun ws H1 => ws.length = fs.length ∧ ∀ a d H', H1 a = none → H1 d = none → d ≠ a → Same H1 H' → H' a = some (exo a C (some d)) → H' d = some (exd d (fs.zip (turned sw ws)).reverse) → Q (.ref a) H'
section
variable {X : Cx} {e : Expr} {es : List Expr} {ta : TA} {x : Str} {p pos : Pos} {B newId initId : String} {tl bmB : List Value} {C : Addr} {fs ks : List Str} {sw : Bool} {kws : List Keyword}
theorem pmk_xq (N : Exq X.prog X.w X.K X.mg X.base x C tl B newId initId bmB fs ks sw) (hr : Room 2 X.A) (hg : Gl X x) (ha : PA X (e :: es) ta)
    (hdb : (x == ("__debug__" : Str)) = false := by decide) (he : starEach (e :: es) X.env = (false, eval e X.env) :: starEach es X.env := by rfl) (hpl : (backTo pos (starEach es X.env)).any (·.1) = false := by rfl) :
    PMk X (.Call (.Name x p) (e :: es) [] pos) (tRz C fs ta) := by
  intro pins s σ H Q I h
  obtain ⟨fI, fd, ps, iC, tI, F1, hb, _⟩ := N.ini
  refine wpAny_Call_Name_kw (ld_glob I hg N.g ?_ hdb)
  refine PySem.W.callWith_K (h₀ := X.base) I.ok.mod.kin N.T.kC (thn (ha.run pos pins s σ H _ I h) fun us s1 ⟨ws, H1, I1, r1, hz, q1⟩ => ⟨I1.kIn, ?_⟩) he hpl
  obtain ⟨hp, g, dr, tk, os⟩ := s1
  have small := N.small
  have lp : ∀ a, (Value.ref a :: us ++ []).length = ps.length := fun a => by
    rw [List.append_nil, ← (Paired.length (.cons rfl r1 : Vals (V.ref a :: ws) (Value.ref a :: us)))]
    exact F1.len _ (upd H1 a (exo a C none)) (fun _ _ => True) (fun _ _ _ => False) ⟨a, ws, rfl, hz, upd_same, fun _ _ _ _ _ _ _ => trivial⟩
  refine xmake2 (us := us) (kw := []) (ws2 := fun a => .ref a :: ws) (us2 := fun a => .ref a :: us) N.FB N.T N.O iC tI F1 hr pass0 I1 (by rw [← Paired.length r1, sizeLine_eq]; omega) (fun s a X2 => by have b := hb s (.ref a :: us) X2 (lp a); rw [List.append_nil] at b; exact b) (fun a => .cons rfl r1)
    (fun v H2 => ∃ a d, v = .ref a ∧ H1 a = none ∧ H1 d = none ∧ d ≠ a ∧ Same H1 H2 ∧ H2 a = some (exo a C (some d)) ∧ H2 d = some (exd d (fs.zip ws).reverse)) (fun a na => ?_) fun a h2 g2 d2 t2 hp2 H2 sz na k un hok bare I2 q => ?_
  · refine ⟨a, ws, rfl, hz, upd_same, fun H2 d nd ne kp ea ed => ⟨rfl, a, d, rfl, na, ?_, ne, fun b o z => kp b o (ne_of_none z na) (by rw [upd_ne (ne_of_none z na)]; exact z), ea, ed⟩⟩
    rw [upd_ne ne] at nd
    exact nd
  · obtain ⟨a', d, ea', _, nd, ne, sm, ea, ed⟩ := q
    cases ea'
    refine mk_end (raises_own N.T.ex.hs N.T.tyC) I1 sz k un hok rfl bare ea ed nd (q1 d _ nd (fun b o z => ?_) upd_same)
    rw [upd_ne (ne_of_none z nd), del_ne (ne_of_none z na)]
    exact sm b o z
theorem pe_xq (N : Exq X.prog X.w X.K X.mg X.base x C tl B newId initId bmB fs ks sw) (hr : Room 2 X.A) (hg : Gl X x) (ha : PA X (e :: es) ta)
    (hdb : (x == ("__debug__" : Str)) = false := by decide) (he : starEach (e :: es) X.env = (false, eval e X.env) :: starEach es X.env := by rfl) (hpl : (backTo pos (starEach es X.env)).any (·.1) = false := by rfl) :
    PE X (.Call (.Name x p) (e :: es) [] pos) (tXv C fs ta) := by
  refine ⟨fun pins s σ H Q I h => ?_⟩
  obtain ⟨fI, fd, ps, iC, tI, F1, hb, _⟩ := N.ini
  refine wpAny_Call_Name_kw (ld_glob I hg N.g ?_ hdb)
  refine PySem.W.callWith_K (h₀ := X.base) I.ok.mod.kin N.T.kC (thn (ha.run pos pins s σ H _ I h) fun us s1 ⟨ws, H1, I1, r1, hz, q1⟩ => ⟨I1.kIn, ?_⟩) he hpl
  obtain ⟨hp, g, dr, tk, os⟩ := s1
  have small := N.small
  have lp : ∀ a, (Value.ref a :: us ++ []).length = ps.length := fun a => by
    rw [List.append_nil, ← (Paired.length (.cons rfl r1 : Vals (V.ref a :: ws) (Value.ref a :: us)))]
    exact F1.len _ (upd H1 a (exo a C none)) (fun _ _ => True) (fun _ _ _ => False) ⟨a, ws, rfl, hz, upd_same, fun _ _ _ _ _ _ _ => trivial⟩
  refine xmake2 (us := us) (kw := []) (ws2 := fun a => .ref a :: ws) (us2 := fun a => .ref a :: us) N.FB N.T N.O iC tI F1 hr pass0 I1 (by rw [← Paired.length r1, sizeLine_eq]; omega) (fun s a X2 => by have b := hb s (.ref a :: us) X2 (lp a); rw [List.append_nil] at b; exact b) (fun a => .cons rfl r1)
    (fun v H2 => ∃ a d, v = .ref a ∧ H1 a = none ∧ H1 d = none ∧ d ≠ a ∧ Same H1 H2 ∧ H2 a = some (exo a C (some d)) ∧ H2 d = some (exd d (fs.zip ws).reverse)) (fun a na => ?_) fun a h2 g2 d2 t2 hp2 H2 sz na k un hok bare I2 q => ?_
  · refine ⟨a, ws, rfl, hz, upd_same, fun H2 d nd ne kp ea ed => ⟨rfl, a, d, rfl, na, ?_, ne, fun b o z => kp b o (ne_of_none z na) (by rw [upd_ne (ne_of_none z na)]; exact z), ea, ed⟩⟩
    rw [upd_ne ne] at nd
    exact nd
  · obtain ⟨a', d, ea', _, nd, ne, sm, ea, ed⟩ := q
    cases ea'
    exact ⟨.ref a, H2, I2.call' (ch := []) rfl un hok bare (fun b z => absurd z (by simp)), rfl, q1 a d H2 na nd ne sm ea ed⟩
/-- C(k = v, ..) -/
theorem pe_xqk (N : Exq X.prog X.w X.K X.mg X.base x C tl B newId initId bmB fs ks sw) (hr : Room 2 X.A) (hg : Gl X x) (hkw : PK X kws ta)
    (hall : (backToKw pos (keywordEach kws X.env)).all (·.1.isSome) = true := by rfl) (hks : (backToKw pos (keywordEach kws X.env)).filterMap (·.1) = ks := by rfl) (hdb : (x == ("__debug__" : Str)) = false := by decide)
    (hpl : ((backTo pos (starEach [] X.env)).any (·.1) || (backToKw pos (keywordEach kws X.env)).any (·.1.isNone)) = false := by rfl) :
    PE X (.Call (.Name x p) [] kws pos) (tXvK C fs sw ta) := by
  refine ⟨fun pins s σ H Q I h => ?_⟩
  obtain ⟨fI, fd, ps, iC, tI, F1, _, hb⟩ := N.ini
  refine wpAny_Call_Name_kw (ld_glob I hg N.g ?_ hdb)
  refine PySem.W.callWith_KW0 (h₀ := X.base) I.ok.mod.kin N.T.kC hall ?_ hpl
  refine thn (hkw.run pos pins s σ H _ I h) fun us s2 ⟨ws, H1, I1, r1, hz, q1⟩ => ⟨I1.kIn, ?_⟩
  rw [hks]
  obtain ⟨hp, g, dr, tk, os⟩ := s2
  have lw : us.length = ks.length := by rw [← Paired.length r1, hz, N.len]
  have ht : (turned sw ws).length = fs.length := by
    rw [← hz]
    cases sw
    · rfl
    · exact List.length_reverse
  refine xmake2 (ws2 := fun a => .ref a :: turned sw ws) (us2 := fun a => .ref a :: turned sw us) (us := []) (kw := ks.zip us) N.FB N.T N.O iC tI F1 hr pass0 I1 (Nat.zero_le _) (fun s a X2 => hb s (.ref a) us lw X2) (fun a => .cons rfl (vals_turned r1))
    (fun v H2 => ∃ a d, v = .ref a ∧ H1 a = none ∧ H1 d = none ∧ d ≠ a ∧ Same H1 H2 ∧ H2 a = some (exo a C (some d)) ∧ H2 d = some (exd d (fs.zip (turned sw ws)).reverse)) (fun a na => ?_) fun a h2 g2 d2 t2 hp2 H2 sz na k un hok bare I2 q => ?_
  · refine ⟨a, turned sw ws, rfl, ht, upd_same, fun H2 d nd ne kp ea ed => ⟨rfl, a, d, rfl, na, ?_, ne, fun b o z => kp b o (ne_of_none z na) (by rw [upd_ne (ne_of_none z na)]; exact z), ea, ed⟩⟩
    rw [upd_ne ne] at nd
    exact nd
  · obtain ⟨a', d, ea', _, nd, ne, sm, ea, ed⟩ := q
    cases ea'
    exact ⟨.ref a, H2, I2.call' (ch := []) rfl un hok bare (fun b z => absurd z (by simp)), rfl, q1 a d H2 na nd ne sm ea ed⟩
end
end Gj

namespace Gj
open PySem PySem.Spec PyProof.Rows L2
open C8 (Cal pe_c pe_gc)
/-- an exception held as a value, of the class at D -/
def Exv (H : Hp) (a D : Addr) : Prop := (∃ (d : Addr) (fs : List (Str × V)), H a = some (exo a D (some d)) ∧ H d = some (exd d fs)) ∨ H a = some (ExO (.ref D) a)
theorem Exv.same {H H' : Hp} {a D : Addr} (h : Exv H a D) (s : Same H H') : Exv H' a D := by
  rcases h with ⟨d, fs, h1, h2⟩ | h
  · exact .inl ⟨d, fs, s _ _ h1, s _ _ h2⟩
  · exact .inr (s _ _ h)
def rIsW (K : PySem.W.Frag) : List V → Hp → VK → Prop := fun xs H Q => ∃ (a D : Addr) (c : V) (cv : Value) (b : Bool), xs = [.ref a, c] ∧ ClsV c cv ∧ ExcC K D ∧ Exv H a D ∧ PySem.W.kitOne K (.ref D) cv = some b ∧ Q (.bl b) H
theorem call_isW {X : Cx} : CallR X (.builtin "isinstance") (rIsW X.K) := by
  intro pins s σ H xs us Q I r h
  obtain ⟨a, D, c, cv, b, rfl, hcv, T, hx, e, q⟩ := h
  rcases hx with ⟨d, fs, h1, h2⟩ | h1
  · exact call_isV pins s σ H _ us Q I r ⟨a, D, some d, c, cv, b, rfl, hcv, T, h1, fun x ex => by cases ex; exact ⟨fs, h2⟩, e, q⟩
  · obtain ⟨u1, u2, rfl, r1, r2⟩ := vals2 r
    cases r1
    have ec := hcv.eq r2
    subst ec
    obtain ⟨⟨oe, vs, got, hz, hd, _⟩, _, _⟩ := I.hok a _ h1
    have J : PySem.W.InstAt s.heap a oe D none := ⟨got, hz.1, by unfold PySem.W.notCls; rw [hd] <;> rfl, by rw [hz.2]; trivial⟩
    exact PySem.W.kia_one (kit_exn T) I.kIn J e (fun z => nomatch z) fun tk => ⟨.bl b, H, I.tok tk, rfl, q⟩
/-- isinstance(e, c), e the caught exception at a -/
def rIsC (K : PySem.W.Frag) (cls : Value) (d : Option Addr) (a : Addr) : List V → Hp → VK → Prop := fun xs H Q => ∃ (D dd : Addr) (c : V) (cv : Value) (b : Bool) (fs : List (Str × V)), xs = [.ref a, c] ∧ cls = .ref D ∧ d = some dd ∧ ExcC K D ∧ ClsV c cv ∧ H dd = some (.xd fs) ∧ PySem.W.kitOne K (.ref D) cv = some b ∧ Q (.bl b) H
theorem call_isC {X : Cx} {a : Addr} {cls : Value} {d : Option Addr} {oe : Obj} {pn : List (Addr × Obj)} (hz : Zc cls d oe) (hf : ∃ vs, oe.data = .fields vs) : CallR (X.suite a ((a, oe) :: pn)) (.builtin "isinstance") (rIsC X.K cls d a) := by
  intro pins s σ H xs us Q I r h
  obtain ⟨D, dd, c, cv, b, fs, rfl, rfl, rfl, T, hcv, ed, e, q⟩ := h
  exact call_isX T hz hf pins s σ H _ us Q I r ⟨c, cv, b, fs, rfl, hcv, ed, e, q⟩
/-! ### lists of truths -/
def Bls (ta : TA) (σ : L2.St) (H : Hp) (bs : List Bool) : Prop := ∀ Q : List V → Hp → Prop, (∀ H', Same H H' → Q (bs.map V.bl) H') → ta σ H Q
def BlsL (te : TE) (σ : L2.St) (H : Hp) (bs : List Bool) : Prop := ∀ Q : VK, (∀ (H' : Hp) (l : Addr), Same H H' → H' l = some (.lst (bs.map V.bl)) → Q (.ref l) H') → te σ H Q
section
variable {σ : L2.St} {H : Hp} {te tb tc : TE} {ta : TA} {b : Bool} {bs cs : List Bool} {K : PySem.W.Frag} {a D : Addr} {c : V} {cv : Value}
theorem Bls.nil : Bls tNil σ H [] := fun Q q => q H (Same.refl H)
theorem Bls.cons (h : Say te σ H b) (ht : ∀ H', Same H H' → Bls ta σ H' bs) : Bls (tCons te ta) σ H (b :: bs) := fun Q q => h _ fun H1 s1 => ht H1 s1 _ fun H2 s2 => q H2 (s1.trans s2)
theorem Bls.lst (h : Bls ta σ H bs) (hn : bs.length ≤ 1000) : BlsL (tLst ta) σ H bs := fun Q q => h _ fun H1 s1 => ⟨by rw [List.length_map]; exact Nat.le_of_lt (small1000 hn), fun l nl => q _ l (s1.trans (same_new nl)) upd_same⟩
theorem BlsL.var {l : Addr} (h : Giv te σ H (.ref l)) (e : H l = some (.lst (bs.map V.bl))) : BlsL te σ H bs := fun Q q => h _ (q H l (Same.refl H) e)
theorem BlsL.cat (h : BlsL te σ H bs) (h2 : ∀ H', Same H H' → BlsL tb σ H' cs) (hn : bs.length + cs.length ≤ 1000) : BlsL (tOp rCat te tb) σ H (bs ++ cs) := fun Q q => h _ fun H1 l1 s1 e1 => h2 H1 s1 _ fun H2 l2 s2 e2 => ⟨l1, l2, _, _, rfl, rfl, s2 _ _ e1, e2, by rw [List.length_map, List.length_map]; exact Nat.le_of_lt (small1000 hn), fun l nl => q _ l ((s1.trans s2).trans (same_new nl)) (by rw [upd_same, List.map_append])⟩
theorem say_isW (hv : Giv te σ H (.ref a)) (hc : Giv tc σ H c) (hcv : ClsV c cv) (T : ExcC K D) (hx : Exv H a D) (e : PySem.W.kitOne K (.ref D) cv = some b) : Say (tCB (rIsW K) (tCons te (tCons tc tNil))) σ H b := fun Q q => hv _ (hc _ ⟨a, D, c, cv, b, rfl, hcv, T, hx, e, q H (Same.refl H)⟩)
end
end Gj

/-! own layer: data compared -/
namespace Gj
open PySem PySem.Spec PyProof.Rows L2
open C8 (Cal pe_c pe_gc)
theorem dp_all {K : PySem.W.Frag} {H : Hp} : ∀ (bs : List Bool), DpAll K H (bs.map V.bl) (bs.map PyData.bool)
  | [] => .nil
  | b :: l => .cons (.bl b) (dp_all l)
theorem dp_bools {K : PySem.W.Frag} {H : Hp} {l : Addr} {bs : List Bool} (e : H l = some (.lst (bs.map V.bl))) : Dp K H (.ref l) (.list (bs.map PyData.bool)) := .lst (SqL.of e) (dp_all bs)
mutual
def plainD : PyData → Bool
  | .list ds => plainA ds
  | .tuple ds => plainA ds
  | .dict _ => false
  | _ => true
def plainA : List PyData → Bool
  | [] => true
  | d :: ds => plainD d && plainA ds
end
mutual
theorem eqv_self : ∀ (d : PyData), plainD d = true → PyData.eqv d d = true
  | .none, _ => by simp [PyData.eqv]
  | .bool b, _ => by simp [PyData.eqv]
  | .int i, _ => by simp [PyData.eqv]
  | .str x, _ => by simp [PyData.eqv]
  | .list ds, h => by
    unfold PyData.eqv
    exact eqv_selfA ds (by unfold plainD at h; exact h)
  | .tuple ds, h => by
    unfold PyData.eqv
    exact eqv_selfA ds (by unfold plainD at h; exact h)
  | .dict _, h => by simp [plainD] at h
theorem eqv_selfA : ∀ (ds : List PyData), plainA ds = true → PyData.eqvAll ds ds = true
  | [], _ => by simp [PyData.eqvAll]
  | d :: ds, h => by
    unfold plainA at h
    obtain ⟨h1, h2⟩ := Bool.and_eq_true_iff.mp h
    unfold PyData.eqvAll
    rw [eqv_self d h1, eqv_selfA ds h2]
    rfl
end
/-- it is this datum -/
def IsD (K : PySem.W.Frag) (te : TE) (σ : L2.St) (H : Hp) (d : PyData) : Prop := ∀ Q : VK, (∀ (H' : Hp) (v : V), Same H H' → Dp K H' v d → Q v H') → te σ H Q
def IsDs (K : PySem.W.Frag) (ta : TA) (σ : L2.St) (H : Hp) (ds : List PyData) : Prop := ∀ Q : List V → Hp → Prop, (∀ (H' : Hp) (vs : List V), Same H H' → DpAll K H' vs ds → Q vs H') → ta σ H Q
section
variable {σ : L2.St} {H H' : Hp} {te tb : TE} {ta : TA} {K : PySem.W.Frag} {d e : PyData} {ds : List PyData} {bs : List Bool}
theorem seq_sameL {a : Addr} {xs : List V} (h : SqL K H a xs) (s : Same H H') : SqL K H' a xs := s.seq h
theorem seq_sameT {a : Addr} {xs : List V} (h : SqT K H a xs) (s : Same H H') : SqT K H' a xs := by
  rcases h with (h | ⟨o, h⟩) | h
  · exact .inl (.inl (s _ _ h))
  · exact .inl (.inr ⟨o, s _ _ h⟩)
  · exact .inr h
mutual
theorem dp_same (s : Same H H') : ∀ {v : V} {d : PyData}, Dp K H v d → Dp K H' v d
  | _, _, .non => .non
  | _, _, .bl b => .bl b
  | _, _, .int i => .int i
  | _, _, .str x => .str x
  | _, _, .lst h a => .lst (seq_sameL h s) (dp_sameA s a)
  | _, _, .tup h a => .tup (seq_sameT h s) (dp_sameA s a)
theorem dp_sameA (s : Same H H') : ∀ {vs : List V} {ds : List PyData}, DpAll K H vs ds → DpAll K H' vs ds
  | _, _, .nil => .nil
  | _, _, .cons a b => .cons (dp_same s a) (dp_sameA s b)
end
theorem dp_len : ∀ {vs : List V} {ds : List PyData}, DpAll K H vs ds → vs.length = ds.length
  | _, _, .nil => rfl
  | _, _, .cons _ b => congrArg Nat.succ (dp_len b)
theorem IsD.of {v : V} (h : Giv te σ H v) (hd : Dp K H v d) : IsD K te σ H d := fun Q q => h _ (q H v (Same.refl H) hd)
theorem IsD.bls (h : BlsL te σ H bs) : IsD K te σ H (.list (bs.map PyData.bool)) := fun Q q => h _ fun H1 l s e => q H1 _ s (dp_bools e)
theorem IsDs.nil : IsDs K tNil σ H [] := fun Q q => q H [] (Same.refl H) .nil
theorem IsDs.cons (h : IsD K te σ H d) (ht : ∀ H', Same H H' → IsDs K ta σ H' ds) : IsDs K (tCons te ta) σ H (d :: ds) := fun Q q => h _ fun H1 v s1 h1 => ht H1 s1 _ fun H2 vs s2 h2 => q H2 _ (s1.trans s2) (.cons (dp_same s2 h1) h2)
theorem IsDs.tup (h : IsDs K ta σ H ds) (hn : ds.length ≤ 1000) : IsD K (tTup ta) σ H (.tuple ds) := fun Q q => h _ fun H1 vs s1 h1 => ⟨by rw [dp_len h1]; exact Nat.le_of_lt (small1000 hn), fun a na => q _ _ (s1.trans (same_new na)) (.tup (SqT.of upd_same) (dp_sameA (same_new na) h1))⟩
theorem IsDs.lst (h : IsDs K ta σ H ds) (hn : ds.length ≤ 1000) : IsD K (tLst ta) σ H (.list ds) := fun Q q => h _ fun H1 vs s1 h1 => ⟨by rw [dp_len h1]; exact Nat.le_of_lt (small1000 hn), fun a na => q _ _ (s1.trans (same_new na)) (.lst (SqL.of upd_same) (dp_sameA (same_new na) h1))⟩
theorem IsD.eq (h : IsD K te σ H d) (h2 : ∀ H', Same H H' → IsD K tb σ H' e) (s1 : SeqAt.shaped d = true) (s2 : SeqAt.shaped e = true) : Say (tOp (rEqD K) te tb) σ H (PyData.eqv d e) := fun Q q => h _ fun H1 v t1 d1 => h2 H1 t1 _ fun H2 u t2 d2 => ⟨d, e, dp_same t2 d1, d2, s1, s2, q H2 (t1.trans t2)⟩
theorem IsD.ne (h : IsD K te σ H d) (h2 : ∀ H', Same H H' → IsD K tb σ H' e) (s1 : SeqAt.shaped d = true) (s2 : SeqAt.shaped e = true) : Say (tOp (rNeD K) te tb) σ H (!PyData.eqv d e) := fun Q q => h _ fun H1 v t1 d1 => h2 H1 t1 _ fun H2 u t2 d2 => ⟨d, e, dp_same t2 d1, d2, s1, s2, q H2 (t1.trans t2)⟩
theorem IsD.eqS (h : IsD K te σ H d) (h2 : ∀ H', Same H H' → IsD K tb σ H' d) (s1 : SeqAt.shaped d = true) (hp : plainD d = true) : Say (tOp (rEqD K) te tb) σ H true := Say.of (IsD.eq h h2 s1 s1) (eqv_self d hp)
theorem IsD.neS (h : IsD K te σ H d) (h2 : ∀ H', Same H H' → IsD K tb σ H' d) (s1 : SeqAt.shaped d = true) (hp : plainD d = true) : Say (tOp (rNeD K) te tb) σ H false := Say.of (IsD.ne h h2 s1 s1) (by rw [eqv_self d hp]; rfl)
theorem plain_bools : ∀ bs : List Bool, plainA (bs.map PyData.bool) = true
  | [] => rfl
  | b :: l => by unfold List.map plainA; rw [plain_bools l]; rfl
end
/-! ### comprehensions of tests -/
section
variable {σ : L2.St} {H : Hp} {te : TE} {K : PySem.W.Frag} {i : Nat} {vs : List Nat} {n : Nat} {f : Nat → Bool} {z : Str} {g : Nat → Bool}
theorem BlsL.range {lo : Int} {wi : TI} (hi : ∀ R : It → Hp → Prop, R (Itr lo n) H → wi σ H R) (hn : n ≤ 1000) (hw : ∀ v, wipe ((wipe σ vs).set i (some v)) vs = wipe σ vs) (hs : ∀ (k : Nat) (H' : Hp), k < n → Same H H' → Say te ((wipe σ vs).set i (some (.int (lo + k)))) H' (f k)) :
    BlsL (tLc wi (gName i) tYes te vs) σ H ((List.range n).map f) := fun Q q => hi _ fun D hD => by
  refine lc_it walk_range (Pv := fun j H' => Same H H' ∧ H' D = some (.lst (((List.range j).map f).map V.bl))) ⟨same_new hD, upd_same⟩ (fun _ _ _ _ => trivial) (fun j x H1 H2 hj hp hy => ?_) (fun H1 hp => ?_)
  · obtain ⟨rfl, rfl⟩ := hy
    obtain ⟨sm, eD⟩ := hp
    refine ⟨hw _, ?_⟩
    refine hs j _ hj sm _ fun H3 s3 => ⟨_, s3 _ _ eD, ?_, fun b o e => ?_, ?_⟩
    · rw [List.length_map, List.length_map, List.length_range]
      exact small1000 (by omega)
    · rw [upd_ne (ne_of_none e hD)]
      exact s3 _ _ (sm b o e)
    · rw [upd_same, List.range_succ, List.map_append, List.map_append]
      rfl
  · obtain ⟨sm, eD⟩ := hp
    exact q H1 D sm eD
theorem BlsL.str (hv : Giv te σ H (.str z)) {tb : TE} (hz : z.length ≤ 1000) (hw : ∀ v, wipe ((wipe σ vs).set i (some v)) vs = wipe σ vs) (hs : ∀ (c : Nat) (H' : Hp), Same H H' → Say tb ((wipe σ vs).set i (some (.str ⟨#[c]⟩))) H' (g c)) :
    BlsL (tLc (iStr te) (gName i) tYes tb vs) σ H (z.cps.toList.map g) := fun Q q => hv _ ⟨z, rfl, fun D hD => by
  refine lc_it walk_str (Pv := fun j H' => Same H H' ∧ H' D = some (.lst (((z.cps.toList.take j).map g).map V.bl))) ⟨same_new hD, upd_same⟩ (fun _ _ _ _ => trivial) (fun j x H1 H2 hj hp hy => ?_) (fun H1 hp => ?_)
  · obtain ⟨rfl, ch, ec, rfl⟩ := hy
    obtain ⟨sm, eD⟩ := hp
    refine ⟨hw _, ?_⟩
    refine hs ch _ sm _ fun H3 s3 => ⟨_, s3 _ _ eD, ?_, fun b o e => ?_, ?_⟩
    · rw [List.length_map, List.length_map, List.length_take]
      have : z.cps.toList.length = z.length := rfl
      exact small1000 (by omega)
    · rw [upd_ne (ne_of_none e hD)]
      exact s3 _ _ (sm b o e)
    · have ec2 : z.cps.toList[j]? = some ch := by rw [Array.getElem?_toList]; exact ec
      rw [upd_same, take_snoc ec2, List.map_append, List.map_append]
      rfl
  · obtain ⟨sm, eD⟩ := hp
    rw [show z.cps.toList.take z.cps.size = z.cps.toList from List.take_of_length_le (Nat.le_refl _)] at eD
    exact q H1 D sm eD⟩
end
end Gj

set_option maxHeartbeats 4000000
namespace Gj
open PySem PySem.Spec PyProof.Rows L2
open C8 (Cal pe_c pe_gc)
section
variable {σ : L2.St} {H : Hp} {te ta tb : TE} {a b c : Bool} {D : Ends} {u t : TS} {i : Nat} {tc : TT}
theorem setB (h : Say te σ H b) (q : ∀ H', Same H H' → u D (σ.set i (some (.bl b))) H') : tSeq (tAsg te (gName i)) u D σ H := h _ q
theorem setW {w : V} (h : ∀ Q : VK, (∀ H', Same H H' → Q w H') → te σ H Q) (q : ∀ H', Same H H' → u D (σ.set i (some w)) H') : tSeq (tAsg te (gName i)) u D σ H := h _ q
theorem say_var (h : σ[i]? = some (some (.bl b))) : Say (tVar i) σ H b := fun Q q => ⟨_, h, q H (Same.refl H)⟩
theorem retB (h : Say te σ H b) (q : ∀ H', Same H H' → D.rt (.bl b) H') : tRet te D σ H := h _ q
abbrev rReprB : List V → Hp → VK → Prop := fun xs H Q => ∃ b, xs = [.bl b] ∧ Q (.str (if b then "True" else "False")) H
theorem say_reprNe (ha : Say ta σ H a) (hb : ∀ H', Same H H' → Say tb σ H' a) : Say (tOp rNe (tCB rReprB (tCons ta tNil)) (tCB rReprB (tCons tb tNil))) σ H false := fun Q q => ha _ fun H1 s1 => ⟨a, rfl, hb H1 s1 _ fun H2 s2 => ⟨a, rfl, rfl, by
  rw [decide_eq_true rfl]
  exact q H2 (s1.trans s2)⟩⟩
/-- an if whose test is false -/
theorem ifNo (h : SayT tc σ H false) (h2 : ∀ H', Same H H' → u D σ H') : tSeq (tIfS tc t tNext) u D σ H := ifS h (fun e => absurd e (by decide)) fun _ => h2
theorem say_inL {K : PySem.W.Frag} {p : Addr} {v : V} {d : PyData} {z1 z2 : Str} (hv : Giv te σ H v) (hd : Dt p H v d) : Say (tOp (rInT K) te (tLst (tCons (tC (.str z1)) (tCons (tC (.str z2)) tNil)))) σ H ([z1, z2].any fun z => isT d z) := fun Q q => hv _ ⟨(by show 2 ≤ sizeLine; decide), fun a na => ⟨p, a, d, [z1, z2], rfl, SqL.of upd_same, hd.same (same_new na), q _ (same_new na)⟩⟩
end
end Gj

/-! own layer: methods of own classes by place and by keywords, len of an instance -/
namespace Gj
open PySem PySem.Spec PyProof.Rows L2
open C8 (Cal pe_c pe_gc)
theorem fun_of {K : PySem.W.Frag} {x q : Str} {st : Stmt} {kws : List (Str × V)} {f : Addr} {fd : FuncData} (F : FunD K x q (defArgs st) (defBody st) (defScope st) [] kws f fd) : Fun K x q st f fd := by
  obtain ⟨oc, od, dV, kV, doc, pm, an, cdv, ct, osl, rfl, lk, hcd, hD, hK⟩ := F.ex
  rcases hD with ⟨_, rfl⟩ | ⟨e, _⟩
  · exact ⟨⟨oc, od, kV, doc, pm, an, cdv, ct, osl, rfl, lk, hcd⟩, F.kp⟩
  · exact absurd rfl e
/-- the method m of the class at C: its text st, its keyword-only defaults kws -/
def MAt (K : PySem.W.Frag) (C : Addr) (m q : Str) (st : Stmt) (kws : List (Str × V)) : Prop := ∃ f fd, FunD K m q (defArgs st) (defBody st) (defScope st) [] kws f fd ∧ Meth K C m f
/-- what the method promises -/
def MthF (P : Program) (w : World) (K : PySem.W.Frag) (mg : Str → Option Value) (base : Heap) (k : Nat) (C : Addr) (m q : Str) (st : Stmt) (kws : List (Str × V)) (ps : List Str) (sp : Sp) : Prop :=
  ∃ f fd, FunD K m q (defArgs st) (defBody st) (defScope st) [] kws f fd ∧ Meth K C m f ∧ FnOk P w K mg base CX0 k f fd ps sp
/-- .. called by places, dvs its keyword-only defaults -/
def Mth (P : Program) (w : World) (K : PySem.W.Frag) (mg : Str → Option Value) (base : Heap) (k : Nat) (C : Addr) (m : Str) (sp : Sp) (dvs : List V) : Prop :=
  ∃ f fd ps ds, FnOk P w K mg base CX0 k f fd ps sp ∧ Meth K C m f ∧ Binds K fd ps ds ∧ Vals dvs ds
/-- .. by keywords alone -/
def MthK (P : Program) (w : World) (K : PySem.W.Frag) (mg : Str → Option Value) (base : Heap) (k : Nat) (C : Addr) (m : Str) (sp : Sp) (ks : List Str) (gV : V → List V → List V) : Prop :=
  ∃ (f : Addr) (fd : FuncData) (ps : List Str) (g : List Value → List Value → List Value), FnOk P w K mg base CX0 k f fd ps sp ∧ Meth K C m f ∧ KBn K fd ps 1 ks g (fun vs zs => gV (vs.headD .non) zs)
section
variable {P : Program} {w : World} {K : PySem.W.Frag} {mg : Str → Option Value} {base : Heap} {C : Addr} {m q : Str} {st : Stmt} {kws : List (Str × V)} {ps : List Str} {k : Nat} {sp : Sp}
theorem mkMthF {N : List Str} (D : MAt K C m q st kws) (S : FnScope N ps (defScope st)) (len : ∀ vs H Q E, sp vs H Q E → vs.length = ps.length)
    (hbody : ∀ (f : Addr) (cdv : Value) (A : Around) (outer : List Env) (s : Shared) (H : Hp) (vs : List V) (Q : VK) (E : XK), Room k (A.deeper (envOfC q (defScope st) s.heap.objs.size f cdv)) → sp vs H Q E →
      ∃ t, PSs (cxOf CX0 P w K mg base N q (defScope st) f cdv A outer s H E).nox (defBody st) t ∧ t { nx := fun _ H' => Q .non H', rt := Q } (start N vs) H) : MthF P w K mg base (k + 1) C m q st kws ps sp := by
  obtain ⟨f, fd, F, g⟩ := D
  exact ⟨f, fd, F, g, (fun_of F).ok S len (hbody f)⟩
theorem MthF.byPlace (c : MthF P w K mg base k C m q st kws ps sp) (hb : ∀ (kV doc pm : Value) (an : Option Addr) (cdv ct : Value) (us : List Value), us.length = ps.length → bindArgs (PySem.W.fnOf m q (defArgs st) (defBody st) (defScope st) .none kV doc pm an cdv ct) ⟨us, []⟩ = pure (ps.zip us)) : Mth P w K mg base k C m sp [] := by
  obtain ⟨f, fd, F, g, h⟩ := c
  exact ⟨f, fd, ps, [], h, g, F.bindsN hb, .nil⟩
theorem MthF.byDefault (c : MthF P w K mg base k C m q st kws ps sp) (n : Nat) (hk : kws ≠ []) (hn : n + kws.length = ps.length)
    (hb : ∀ (D : Addr) (doc pm : Value) (an : Option Addr) (cdv ct : Value) (us ks : List Value), us.length = n → ks.length = kws.length → KwChain D ((kws.map (·.1)).zip ks) (bindArgs (PySem.W.fnOf m q (defArgs st) (defBody st) (defScope st) .none (.ref D) doc pm an cdv ct) ⟨us, []⟩) (ps.zip (us ++ ks))) : Mth P w K mg base k C m sp (kws.map (·.2)) := by
  obtain ⟨f, fd, F, g, h⟩ := c
  obtain ⟨ds, r, b⟩ := F.binds0 n hk hn hb
  exact ⟨f, fd, ps, ds, h, g, b, r⟩
theorem MthF.byKeys (c : MthF P w K mg base k C m q st kws ps sp) {ks : List Str} {g : Value → List Value → List Value} {gV : V → List V → List V}
    (hb : ∀ (kV doc pm : Value) (an : Option Addr) (cdv ct : Value) (u : Value) (ws : List Value), ws.length = ks.length → bindArgs (PySem.W.fnOf m q (defArgs st) (defBody st) (defScope st) .none kV doc pm an cdv ct) ⟨[u], ks.zip ws⟩ = pure (ps.zip (g u ws)))
    (hv : ∀ {v : V} {u : Value} {zs : List V} {ws : List Value}, RelV v u → Vals zs ws → Vals (gV v zs) (g u ws)) : MthK P w K mg base k C m sp ks gV := by
  obtain ⟨f, fd, F, a, h⟩ := c
  obtain ⟨oc, od, kV, doc, pm, an, cdv, ct, osl, rfl, lk, hcd⟩ := (fun_of F).ex
  refine ⟨f, _, ps, fun us ws => g (us.headD .none) ws, h, a, ⟨fun s us ws kx l1 l2 => ?_, fun {vs us zs ws} r rz => ?_⟩⟩
  · match us, l1 with
    | [u], _ => exact BindsTo.of_looks fun M => PySem.W.Looks.of_pure (hb kV doc pm an cdv ct u ws l2)
  · cases r with
    | nil => exact hv rfl rz
    | cons r t => exact hv r rz
end
section
variable {X : Cx} {k j : Nat} {C : Addr} {m : Str} {sp : Sp} {dvs : List V} {o e : Expr} {es : List Expr} {kws : List Keyword} {ks : List Str} {gV : V → List V → List V} {ta : TE} {t tk : TA} {apos pos : Pos}
/-- o.m(e, ..) -/
theorem pe_m {pl : Sem Bool} (he : PE X o ta) (c : Cls X.K C) (h : Mth X.prog X.w X.K X.mg X.base k C m sp dvs) (hr : Room j X.A) (hk : k ≤ j) (ha : PA X (e :: es) t)
    (hst : starEach (e :: es) X.env = (false, eval e X.env) :: starEach es X.env := by rfl) (hpl : (backTo pos (starEach es X.env)).any (·.1) = false := by rfl)
    (ht : eval (.Call (.Attribute o m apos) (e :: es) [] pos) X.env = (do
      let ov ← eval o X.env
      standAt apos.atName
      let (f, first) ← holding [ov] (getMethod ov m pl)
      callWith pos f first (backTo pos (starEach (e :: es) X.env)) (backToKw pos (keywordEach [] X.env))) := by rfl) : PE X (.Call (.Attribute o m apos) (e :: es) [] pos) (tMeth C m sp dvs C8.E0 ta t) := by
  obtain ⟨f, fd, ps, ds, F, hm, hb, hd⟩ := h
  exact pe_meth he c hm F (hr.mono hk) hb hd pass0 ha hst hpl ht
/-- o.m() -/
theorem pe_m0 {pl : Sem Bool} (he : PE X o ta) (c : Cls X.K C) (h : Mth X.prog X.w X.K X.mg X.base k C m sp dvs) (hr : Room j X.A) (hk : k ≤ j)
    (ht : eval (.Call (.Attribute o m apos) [] [] pos) X.env = (do
      let ov ← eval o X.env
      standAt apos.atName
      let (f, first) ← holding [ov] (getMethod ov m pl)
      callWith pos f first (backTo pos (starEach [] X.env)) (backToKw pos (keywordEach [] X.env))) := by rfl) : PE X (.Call (.Attribute o m apos) [] [] pos) (tMeth C m sp dvs C8.E0 ta tNil) := by
  obtain ⟨f, fd, ps, ds, F, hm, hb, hd⟩ := h
  exact pe_meth0 he c hm F (hr.mono hk) hb hd pass0 ht
def tMethK (C : Addr) (m : Str) (n : Nat) (sp : Sp) (gV : V → List V → List V) (ta : TE) (tk : TA) : TE := fun σ H Q => ta σ H fun x H1 => ∃ a dx fs, x = .ref a ∧ H1 a = some (.ins C dx fs) ∧ fs.lookup m = none ∧ tk σ H1 fun zs H2 => zs.length = n ∧ sp (gV x zs) H2 Q C8.E0
/-- o.m(k = v, ..) -/
theorem pe_mK {pl : Sem Bool} (he : PE X o ta) (c : Cls X.K C) (h : MthK X.prog X.w X.K X.mg X.base k C m sp ks gV) (hr : Room j X.A) (hk : k ≤ j) (hkw : PK X kws tk)
    (hall : (backToKw pos (keywordEach kws X.env)).all (·.1.isSome) = true := by rfl) (hks : (backToKw pos (keywordEach kws X.env)).filterMap (·.1) = ks := by rfl)
    (hpl : ((backTo pos (starEach [] X.env)).any (·.1) || (backToKw pos (keywordEach kws X.env)).any (·.1.isNone)) = false := by rfl)
    (ht : eval (.Call (.Attribute o m apos) [] kws pos) X.env = (do
      let ov ← eval o X.env
      standAt apos.atName
      let (f, first) ← holding [ov] (getMethod ov m pl)
      callWith pos f first (backTo pos (starEach [] X.env)) (backToKw pos (keywordEach kws X.env))) := by rfl) : PE X (.Call (.Attribute o m apos) [] kws pos) (tMethK C m ks.length sp gV ta tk) := by
  obtain ⟨f, fd, ps, g, F, hm, hb⟩ := h
  refine ⟨fun pins s σ H Q I h => ?_⟩
  refine PySem.W.methodCall_KW (pl := pl) (thn (he.run pins s σ H _ I h) fun u s1 ⟨x, H1, I1, rx, a, dx, fs, ex, ea, l, q⟩ => ?_) ht
  subst ex
  obtain rfl : u = Value.ref a := rx
  refine getmeth_ok I1 ea c hm l (PySem.W.callWith_KW0 (first := [.ref a]) (h₀ := X.base) I.ok.mod.kin hm.kp hall ?_ hpl)
  refine thn (hkw.run pos pins s1 σ H1 _ I1 q) fun ws s2 ⟨zs, H2, I2, rz, l2, q2⟩ => ⟨I2.kIn, ?_⟩
  rw [hks]
  exact run_fnN (us := [.ref a]) (vs := [.ref a]) F (hr.mono hk) hb pass0 I2 (.cons rfl .nil) rz rfl l2 q2
end
/-! ### len of an instance -/
section
variable {X : Cx} {k j : Nat} {C : Addr} {sp : Sp}
def rLenO (C : Addr) (sp : Sp) : List V → Hp → VK → Prop := fun vs H Q => ∃ a dx fs, vs = [.ref a] ∧ H a = some (.ins C dx fs) ∧ sp [.ref a] H (fun v H' => ∃ n : Nat, v = .int n ∧ n ≤ sizeLine ∧ Q (.int n) H') C8.E0
theorem call_lenO (h : Mth X.prog X.w X.K X.mg X.base k C "__len__" sp []) (hr : Room j X.A) (hk : k + 1 ≤ j) : CallR X (.builtin "len") (rLenO C sp) := by
  intro pins s σ H xs us Q I r hq
  obtain ⟨a, dx, fs, rfl, ha, q⟩ := hq
  obtain ⟨u, rfl, rfl⟩ := vals1 r
  obtain ⟨f, fd, ps, ds, F, hm, hb, hd⟩ := h
  cases hd
  obtain ⟨mA, J, _⟩ := ins_get I.hok ha
  obtain ⟨od, J, _⟩ := J.look
  obtain ⟨mm, hF⟩ := I.fr
  refine PySem.W.len_K hF I.ok.mod.kin J hm.at_ hm.fn ?_
  have hl := F.len _ _ _ _ q
  have e0 : Env0 X.prog X.w X.K X.mg X.base X.A.in1 X.stack s H := by
    have e := I.env0
    exact ⟨e.frames, e.mod, e.bs, e.bsz, e.funs, e.frf, e.hok, e.bare⟩
  have r2 : Vals [V.ref a] [Value.ref a] := .cons rfl .nil
  refine wpAny_call (codeAny_mono (F.run X.A.in1 X.stack s H ⟨[.ref a], []⟩ [.ref a] [.ref a] _ C8.E0 ((hr.mono hk).in1) e0 (by simpa using hb s [.ref a] I.kIn (by simpa using hl)) r2 q) fun r s' hq => ?_)
  cases r with
  | error e => exact pass0 pins σ H s e s' I hq
  | ok fl =>
    cases fl with
    | next => exact False.elim hq
    | brk => exact False.elim hq
    | cont => exact False.elim hq
    | ret w =>
      obtain ⟨z, H', I', rz, n, rfl, hn, q2⟩ := I.after hq
      obtain ⟨tk, rfl⟩ := rz
      refine ⟨⟨by omega, ?_⟩, .int n, H', I'.tok _, ⟨_, rfl⟩, q2⟩
      have : sizeLine = 16777216 := sizeLine_eq
      omega
end
end Gj

/-! own layer: set(xs) of a list of ints, sorted of such a set, any size -/
namespace Gj
open PySem PySem.Spec PyProof.Rows L2
open C8 (Cal pe_c pe_gc)
section
variable {prog : Program} {w : World} {A : Around} {E : Value → Shared → Prop} {s : Shared}
/-- a new set by the world's way -/
abbrev setW0 (w : World) : Obj := { cls := .type "set", dict := none, data := .set #[] 0 (.fresh 0 0 (!w.params.followText "set-order")) }
set_option maxHeartbeats 3200000 in
theorem call_set_lst {l : Addr} {items : Array Value} {ns : List Int} {Q : Value → Shared → Prop} (hh : A.handled = none) (hl : s.heap.IsList l items) (hi : IntsAre items.toList ns) (hn : ns.length ≤ 1000)
    (h : ∀ (h' : Heap) (tk c : Nat), SetR w h' s.heap.objs.size (fun j => decide (j ∈ ns)) c → c ≤ ns.length → (∀ b o, s.heap.get? b = some o → h'.get? b = some o) → Q (.ref s.heap.objs.size) { s with heap := h', toks := tk }) :
    wpAny (model prog w) A (call (.type "set") [.ref l]) Q E s := by
  have len : items.size = ns.length := by have q := IntsAre.length hi; rwa [Array.length_toList] at q
  obtain ⟨c, tl, hmro⟩ := PySem.F.called_set.mro
  have g1 := PySem.F.called_set.made; have g2 := PySem.F.called_set.sub; have g3 := PySem.F.called_set.notType; have g4 := PySem.F.called_set.canCreate; have g5 := PySem.F.typeCall_set_1 (.ref l)
  refine wpAny_call (codeAny_of_tree (show wpAny _ _ (callAny (.type "set") _) _ _ _ from wpAny_pure ⟨Code.quiet_builtin _ (by decide +kernel), codeAny_builtin PySem.F.entry_type_call ?_⟩))
  rw [Around.under_plain (weight_type_call_type "set" [.ref l] []) rfl]
  repeat (any_goals (first | assumption | wp_step))
  refine codeAny_mono (code_set_led1 (.ref l) (E := E) (Q₁ := fun obj s₁ => obj = .ref s.heap.objs.size ∧ s₁ = { s with heap := s.heap.push (setW0 w) }) ⟨rfl, rfl⟩) fun r s₁ hr => ?_
  cases r with
  | error e => exact hr
  | ok fl =>
    cases fl with
    | next => exact hr.elim
    | brk => exact hr.elim
    | cont => exact hr.elim
    | ret obj =>
      obtain ⟨rfl, rfl⟩ := hr
      have got : (s.heap.push (setW0 w)).get? s.heap.objs.size = some (setW0 w) := Heap.get?_push_size _ rfl
      have ty : Shared.TypeIs { s with heap := s.heap.push (setW0 w) } (.ref s.heap.objs.size) "set" := ⟨_, got, rfl⟩
      have i1 := PySem.F.called_set.init.lookup; have i2 := PySem.F.called_set.init.bind (.ref s.heap.objs.size)
      repeat (any_goals (first | assumption | wp_step))
      refine codeAny_mono (codeAny_call_builtin (R := wants (fun r s₂ => r = .none ∧ ∃ h' tk c, s₂ = { s with heap := h', toks := tk } ∧ SetR w h' s.heap.objs.size (fun j => decide (j ∈ ns)) c ∧ c ≤ ns.length ∧ (∀ b o, s.heap.get? b = some o → h'.get? b = some o)) E) PySem.F.called_set.init.plain PySem.F.entry_set_init (check_set_init_1 ty ?_)) fun r₂ s₂ hr₂ => ?_
      · obtain ⟨⟨oc, od, dt, sl⟩, ho, hc, nl, hd⟩ := hl
        cases hc; cases hd
        have ho2 : (s.heap.push (setW0 w)).get? l = some ⟨.type "list", od, .seq items nl, sl⟩ := Heap.get?_push_of_some _ ho
        have k1 := PySem.F.sub_list_set; have k2 := PySem.F.sub_list_frozenset
        have k3 : (Value.type "list" == Value.type "dict") = false := by decide
        have isL : (s.heap.push (setW0 w)).IsList l items := ⟨_, ho2, rfl, nl, rfl⟩
        unfold Builtin.«set.__init__» noKeywords Builtin.Frozenset.updateFrom
        generalize hPI : pyIter = PI
        wp_walk
        subst hPI
        refine wpAny_pyIter_list isL (wpAny_bind (wpAny_runValue ?_))
        have lt : l < s.heap.objs.size := Heap.lt_size ho
        have ps : (s.heap.push (setW0 w)).objs.size = s.heap.objs.size + 1 := Heap.size_push _ _
        have h3 : A.in1.in1.in1.handled = none := by simp [hh]
        refine set_update_ints ((Walks.list h3 _ l (by rw [ps]; exact Nat.ne_of_lt (Nat.lt_succ_of_lt lt)) items).toS) s.heap.objs.size (by rw [ps]; simp only [List.mem_cons, List.not_mem_nil, or_false, not_or]; exact ⟨Nat.ne_of_lt (Nat.lt_succ_self _), Nat.ne_of_gt lt⟩) ns len (by unfold scanBound; omega) (fun i v hv => ?_) (items.size - 0) 0 _ (by omega) (Nat.zero_le _)
          ⟨⟨_, Heap.get?_push_size _ rfl, rfl, rfl⟩, isL.push _⟩ ?z0 ?z1
        · have hlt : i < ns.length := by rw [← len]; exact (Array.getElem?_eq_some_iff.mp hv).1
          obtain ⟨t, e⟩ := PyProof.Rows.IntsAre.int_at hi i v (by rw [Array.getElem?_toList]; exact hv)
          exact ⟨ns[i], t, List.getElem?_eq_getElem hlt, by rw [e, List.getD_eq_getElem?_getD, List.getElem?_eq_getElem hlt]; rfl⟩
        case z0 => exact ⟨0, Nat.le_refl 0, setR_new_at (Heap.get?_push_of_some _ got)⟩
        case z1 =>
          intro s' c' hm hc' hS'
          obtain ⟨h', g', d', tk', os'⟩ := s'
          obtain rfl : g' = s.gens := hm.gens
          obtain rfl : d' = s.drawn := hm.drawn
          obtain rfl : os' = s.os := hm.os
          have hb : ∀ {b : Addr} {o : Obj}, s.heap.get? b = some o → b < s.heap.objs.size := fun e => Heap.lt_size e
          refine wpAny_pure ?_
          show wpAny _ _ (ret Value.none) _ _ _
          have tk0 : ns.take items.size = ns := by rw [len]; exact List.take_length
          exact wpAny_pure ⟨rfl, h', tk', c', rfl, by simpa [tk0] using hS', by omega, fun b o e => hm.heap b o (by rw [ps]; simp only [List.mem_cons, List.not_mem_nil, or_false, not_or]; exact ⟨Nat.ne_of_lt (hb e), Nat.ne_of_lt (Nat.lt_succ_of_lt (hb e))⟩) (Heap.get?_push_of_some _ (Heap.get?_push_of_some _ e))⟩
      · cases r₂ with
        | error e => exact hr₂
        | ok fl₂ =>
          cases fl₂ with
          | next => exact hr₂.elim
          | brk => exact hr₂.elim
          | cont => exact hr₂.elim
          | ret r =>
            obtain ⟨rfl, h', tk, c, rfl, hS', hc', hk'⟩ := hr₂
            repeat (any_goals (first | assumption | wp_step))
            exact h _ _ _ hS' hc' hk'
set_option maxHeartbeats 3200000 in
/-- sorted(s), s a set of ints of any size -/
theorem sorted_setN {a : Addr} {S : Int → Bool} {n : Nat} {Q : Value → Shared → Prop} (R : SetR w s.heap a S n) (hh : A.handled = none) (hn : n ≤ 1000)
    (hQ : ∀ s' p (out : List Value) (c : Nat) (ns : List Int), (∀ b o, s.heap.get? b = some o → s'.heap.get? b = some o) → s'.gens = s.gens → s'.os = s.os → s.heap.objs.size ≤ p →
      s'.heap.get? p = some (seqObj "list" out.toArray c) → IntsAre out ns → ns.Pairwise (· < ·) → (∀ k, k ∈ ns ↔ S k = true) → ns.length = n → Q (.ref p) s') : wpAny (model prog w) A (call (.builtin "sorted") [.ref a]) Q E s := by
  obtain ⟨o, es, ep, t, ho, hex, hd, g, nd, hm, hb, hf, hn2, hr, hl⟩ := R
  refine Calls.call_function_entry kind_sorted plain_sorted entry_sorted (args_sorted1 _) ?_
  unfold Builtin.«sorted»
  refine wpAny_bind (m := checkCount "sorted" 1 1 _) (wpAny_pure (wpAny_bind (collect_set (A := A.in1) hh ⟨o, ho, hex.1, hd⟩ hf hb hr hl fun s1 vs k1 hz g1 o1 pm => ?_)))
  have vl : vs.length = n := by rw [pm.length_eq, List.length_map, Array.length_toList]; exact hn2
  have vi : IntsAre vs (vs.map Builtin.Re.reRawOf) := ints_of vs fun v hv => by
    obtain ⟨e, he, q⟩ := List.mem_map.mp (pm.mem_iff.mp hv)
    obtain ⟨k, tk, h1, _⟩ := g e he
    exact ⟨k, tk, q ▸ h1⟩
  have pk : (vs.map Builtin.Re.reRawOf).Perm (es.toList.map keyOf) := by
    have q := pm.map Builtin.Re.reRawOf
    rwa [List.map_map] at q
  have small : vs.length ≤ sizeLine := by rw [vl, sizeLine_eq]; omega
  refine wpAny_bind (wpAny_newList ?_ small)
  have at0 : (s1.heap.push (seqObj "list" vs.toArray 0)).get? s1.heap.objs.size = some (seqObj "list" vs.toArray 0) := Heap.get?_push_size _ rfl
  refine wpAny_bind (wpAny_holding (wpAny_call_entry slot_list_sort ⟨_, at0, rfl⟩ entry_list_sort (SrtO.list_sort_ord SrtO.swo_int at0 small (fun h2 => SrtO.ints_sortable vi h2) fun out a1 a2 => ⟨_, rfl, ?_⟩) (args_list_sort _)))
  obtain ⟨b1, b2, b3⟩ := SrtO.ints_out vi a1 a2
  obtain ⟨c, hc⟩ := sortedHeap_at (vs := vs) (out := out.toArray) at0
  have pn : (out.map SrtO.iv).Perm (es.toList.map keyOf) := b2.trans pk
  refine wpAny_pure ⟨_, rfl, hQ _ s1.heap.objs.size out c _ (fun b u e => ?_) g1 o1 hz hc b1 (lt_of_le_nodup _ b3 (pn.nodup_iff.mpr nd)) (fun k => by rw [pn.mem_iff, ← hm k]) (by rw [pn.length_eq, List.length_map, Array.length_toList]; exact hn2)⟩
  have hlt := Heap.lt_size (k1 b u e)
  refine (sortedHeap_old (Nat.ne_of_lt hlt) (by rw [size_push']; exact Nat.lt_succ_of_lt hlt)).trans ?_
  exact Heap.get?_push_of_some _ (k1 b u e)
end
section
variable {X : Cx}
/-- set(xs), xs a list of ints -/
def rSetLI (w : World) (K : PySem.W.Frag) : List V → Hp → VK → Prop := fun vs H Q => ∃ (l : Addr) (ns : List Int), vs = [.ref l] ∧ SqL K H l (ns.map V.int) ∧ ns.length ≤ 1000 ∧ ∀ a c, H a = none → c ≤ ns.length → Q (.ref a) (upd H a (SetO w a (fun j => decide (j ∈ ns)) c))
theorem call_setLI (hc : X.calm = true) : CallR X (.type "set") (rSetLI X.w X.K) := by
  intro pins s σ H xs us Q I r h
  obtain ⟨l, ns, rfl, hq, hn, q⟩ := h
  obtain ⟨u, rfl, rfl⟩ := vals1 r
  obtain ⟨its, rv, pl, _⟩ := I.list hq
  have nf : H s.heap.objs.size = none := I.hok.fresh (Nat.le_refl _)
  exact call_set_lst (I.ok.hd hc) pl.isList (by simpa using rv.ints) hn fun h' tk c hS hc hk => ⟨.ref _, _, I.laid (t' := tk) hk (Nat.le_refl _) (setO_new hS), rfl, q _ c nf hc⟩
/-- sorted(s) -/
def rSortedN (w : World) : List V → Hp → VK → Prop := fun vs H Q => ∃ (a : Addr) (S : Int → Bool) (n : Nat), vs = [V.ref a] ∧ H a = some (SetO w a S n) ∧ n ≤ 1000 ∧
  ∀ (ns : List Int) (p : Addr), ns.Pairwise (· < ·) → (∀ k : Int, k ∈ ns ↔ S k = true) → H p = none → Q (.ref p) (upd H p (.lst (ns.map V.int)))
theorem cr_sortedN (hc : X.calm = true) : CallR X (.builtin "sorted") (rSortedN X.w) := by
  intro pins s σ H vs us Q I r h
  obtain ⟨a, S, n, rfl, ha, h64, q⟩ := h
  rw [Vals.ref1 r]
  refine sorted_setN (setO_get I ha) (I.ok.hd hc) h64 fun s' p out c ns k g o hp hg hi hs hm hl => ?_
  have small : (ns.map V.int).length ≤ sizeLine := by rw [List.length_map, hl, sizeLine_eq]; omega
  have hn : H p = none := I.hok.fresh hp
  have J : Inv X pins σ (upd H p (.lst (ns.map V.int))) { s with heap := s'.heap, gens := s'.gens, drawn := s'.drawn, toks := s'.toks } := I.call (ch := []) (Un.laid k hp hn) (I.hok.laid k hp ⟨small, out, c, vals_of_ints hi, hg⟩) (by rw [g]; exact I.bare) (fun _ z => nomatch z)
  obtain ⟨h', g', d', tk', os'⟩ := s'
  obtain rfl : os' = s.os := o
  exact ⟨.ref p, _, J, rfl, q ns p hs hm hn⟩
end
end Gj

/-! own layer: data that stay (texts, numbers, tuples of such), rows of a number and a datum -/
namespace Gj
open PySem PySem.Spec PyProof.Rows L2
open C8 (Cal pe_c pe_gc)
/-- tuples stay -/
def Ts (H H' : Hp) : Prop := ∀ b xs, H b = some (.tup xs) → H' b = some (.tup xs)
theorem Ts.refl {H : Hp} : Ts H H := fun _ _ h => h
theorem Ts.trans {H H1 H2 : Hp} (a : Ts H H1) (b : Ts H1 H2) : Ts H H2 := fun c o h => b c o (a c o h)
theorem Same.ts {H H' : Hp} (s : Same H H') : Ts H H' := fun b xs h => s _ _ h
/-- all stays but for what is among S -/
def Kp (S : List Addr) (H H' : Hp) : Prop := ∀ b o, b ∉ S → H b = some o → H' b = some o
theorem Kp.refl {S : List Addr} {H : Hp} : Kp S H H := fun _ _ _ h => h
theorem Kp.trans {S : List Addr} {H H1 H2 : Hp} (a : Kp S H H1) (b : Kp S H1 H2) : Kp S H H2 := fun c o n h => b c o n (a c o n h)
theorem Kp.mono {S T : List Addr} {H H1 : Hp} (a : Kp S H H1) (h : ∀ x ∈ S, x ∈ T) : Kp T H H1 := fun c o n e => a c o (fun m => n (h c m)) e
theorem Same.kp {S : List Addr} {H H' : Hp} (s : Same H H') : Kp S H H' := fun b o _ h => s _ _ h
theorem Keep.kp {p : Addr} {S : List Addr} {H H' : Hp} (k : Keep p H H') (h : p ∈ S) : Kp S H H' := fun b o n e => k b o (fun z => n (z ▸ h)) e
theorem Kp.upd {S : List Addr} {H : Hp} {l : Addr} {o : HO} (h : l ∈ S) : Kp S H (upd H l o) := fun b x n e => by
  have hb : b ≠ l := fun z => n (by rw [z]; exact h)
  rw [upd_ne hb]
  exact e
/-- lists are at S -/
def Ls (S : List Addr) (H : Hp) : Prop := ∀ a ∈ S, ∀ xs, H a ≠ some (.tup xs)
theorem Kp.ts {S : List Addr} {H H' : Hp} (k : Kp S H H') (l : Ls S H) : Ts H H' := fun b xs h => k b _ (fun m => l b m xs h) h
theorem ls_one {a : Addr} {xs : List V} {H : Hp} (h : H a = some (.lst xs)) : Ls [a] H := fun b m ys e => by
  rw [List.mem_singleton.mp m, h] at e
  cases e
mutual
inductive Im (H : Hp) : V → PyData → Prop
  | non : Im H .non .none
  | int (i : Int) : Im H (.int i) (.int i)
  | str (x : Str) : Im H (.str x) (.str x)
  | tup {a : Addr} {xs : List V} {ds : List PyData} : H a = some (.tup xs) → ImAll H xs ds → Im H (.ref a) (.tuple ds)
inductive ImAll (H : Hp) : List V → List PyData → Prop
  | nil : ImAll H [] []
  | cons {v : V} {vs : List V} {d : PyData} {ds : List PyData} : Im H v d → ImAll H vs ds → ImAll H (v :: vs) (d :: ds)
end
section
variable {H H' : Hp} {K : PySem.W.Frag}
mutual
theorem Im.ts (t : Ts H H') : ∀ {v : V} {d : PyData}, Im H v d → Im H' v d
  | _, _, .non => .non
  | _, _, .int i => .int i
  | _, _, .str x => .str x
  | _, _, .tup e h => .tup (t _ _ e) (ImAll.ts t h)
theorem ImAll.ts (t : Ts H H') : ∀ {vs : List V} {ds : List PyData}, ImAll H vs ds → ImAll H' vs ds
  | _, _, .nil => .nil
  | _, _, .cons a b => .cons (Im.ts t a) (ImAll.ts t b)
end
theorem Im.same {v : V} {d : PyData} (h : Im H v d) (s : Same H H') : Im H' v d := h.ts (Same.ts s)
mutual
theorem Im.dp : ∀ {v : V} {d : PyData}, Im H v d → Dp K H v d
  | _, _, .non => .non
  | _, _, .int i => .int i
  | _, _, .str x => .str x
  | _, _, .tup e h => .tup (SqT.of e) (ImAll.dp h)
theorem ImAll.dp : ∀ {vs : List V} {ds : List PyData}, ImAll H vs ds → DpAll K H vs ds
  | _, _, .nil => .nil
  | _, _, .cons a b => .cons (Im.dp a) (ImAll.dp b)
end
/-- what draws and lays keeps tuples -/
theorem Drawn.ts {p : Addr} (r : Drawn p H H') (h : Pot H p) : Ts H H' := fun b xs e => r.keep _ _ (by
  rintro rfl
  obtain ⟨a, c, e2, _⟩ := h
  rw [e] at e2
  cases e2) e
/-! ### rows -/
inductive RowsAt (H : Hp) : List V → List Row → Prop
  | nil : RowsAt H [] []
  | cons {t : Addr} {v : V} {r : Row} {xs : List V} {T : List Row} : H t = some (.tup [.int r.1, v]) → Im H v r.2 → RowsAt H xs T → RowsAt H (.ref t :: xs) (r :: T)
theorem RowsAt.ts (t : Ts H H') : ∀ {xs : List V} {T : List Row}, RowsAt H xs T → RowsAt H' xs T
  | _, _, .nil => .nil
  | _, _, .cons e i h => .cons (t _ _ e) (i.ts t) (RowsAt.ts t h)
theorem RowsAt.same {xs : List V} {T : List Row} (h : RowsAt H xs T) (s : Same H H') : RowsAt H' xs T := h.ts (Same.ts s)
theorem RowsAt.len : ∀ {xs : List V} {T : List Row}, RowsAt H xs T → xs.length = T.length
  | _, _, .nil => rfl
  | _, _, .cons _ _ h => congrArg Nat.succ h.len
theorem RowsAt.append : ∀ {xs ys : List V} {T U : List Row}, RowsAt H xs T → RowsAt H ys U → RowsAt H (xs ++ ys) (T ++ U)
  | _, _, _, _, .nil, g => g
  | _, _, _, _, .cons e i h, g => .cons e i (h.append g)
theorem RowsAt.take : ∀ {xs : List V} {T : List Row} (n : Nat), RowsAt H xs T → RowsAt H (xs.take n) (T.take n)
  | _, _, 0, _ => .nil
  | _, _, n + 1, .nil => .nil
  | _, _, n + 1, .cons e i h => .cons e i (h.take n)
theorem RowsAt.drop : ∀ {xs : List V} {T : List Row} (n : Nat), RowsAt H xs T → RowsAt H (xs.drop n) (T.drop n)
  | _, _, 0, h => h
  | _, _, n + 1, .nil => .nil
  | _, _, n + 1, .cons _ _ h => h.drop n
theorem RowsAt.erase : ∀ {xs : List V} {T : List Row} (n : Nat), RowsAt H xs T → RowsAt H (xs.eraseIdx n) (T.eraseIdx n)
  | _, _, _, .nil => .nil
  | _, _, 0, .cons _ _ h => h
  | _, _, n + 1, .cons e i h => .cons e i (h.erase n)
theorem RowsAt.get : ∀ {xs : List V} {T : List Row} {i : Nat} {x : V}, RowsAt H xs T → xs[i]? = some x → ∃ t v r, x = .ref t ∧ T[i]? = some r ∧ H t = some (.tup [.int r.1, v]) ∧ Im H v r.2
  | _, _, i, x, .nil, e => by simp at e
  | _, _, 0, x, .cons e i h, q => by
    have q : _ = x := Option.some.inj q
    subst q
    exact ⟨_, _, _, rfl, rfl, e, i⟩
  | _, _, n + 1, x, .cons _ _ h, q => RowsAt.get h (i := n) q
def rowD (r : Row) : PyData := .tuple [.int r.1, r.2]
theorem row_im {t : Addr} {v : V} {r : Row} (e : H t = some (.tup [.int r.1, v])) (i : Im H v r.2) : Im H (.ref t) (rowD r) := .tup e (.cons (.int _) (.cons i .nil))
theorem RowsAt.dp : ∀ {xs : List V} {T : List Row}, RowsAt H xs T → DpAll K H xs (T.map rowD)
  | _, _, .nil => .nil
  | _, _, .cons e i h => .cons (row_im e i).dp h.dp
/-- the numbers of rows -/
theorem RowsAt.filter {f : Row → Bool} {g : V → Bool} : ∀ {xs : List V} {T : List Row}, RowsAt H xs T → (∀ (t : Addr) (v : V) (r : Row), H t = some (.tup [.int r.1, v]) → g (.ref t) = f r) → RowsAt H (xs.filter g) (T.filter f)
  | _, _, .nil, _ => .nil
  | _, _, @RowsAt.cons _ t v r _ _ e i h, hg => by
    rw [List.filter_cons, List.filter_cons, hg t v r e]
    by_cases c : f r = true
    · rw [if_pos c, if_pos c]
      exact .cons e i (h.filter hg)
    · rw [if_neg c, if_neg c]
      exact h.filter hg
end
/-! ### comprehensions that choose -/
/-- the truth of its number -/
def onNum (H : Hp) (f : Int → Bool) (x : V) : Bool := match x with
  | .ref t => (match H t with
    | some (.tup [.int n, _]) => f n
    | _ => false)
  | _ => false
theorem onNum_at {H : Hp} {f : Int → Bool} {t : Addr} {v : V} {n : Int} (e : H t = some (.tup [.int n, v])) : onNum H f (.ref t) = f n := by
  unfold onNum
  dsimp only
  rw [e]
theorem lc_choose {K : PySem.W.Frag} {c : Addr} {xs : List V} {σ : L2.St} {H : Hp} {te : TE} {tt : TT} {i : Nat} {f : V → Bool} {vs : List Nat} (hv : Giv te σ H (.ref c)) (hc : SqL K H c xs) (hl : xs.length ≤ 1000)
    (hw : ∀ v, wipe ((wipe σ vs).set i (some v)) vs = wipe σ vs) (hi : ∀ v, ((wipe σ vs).set i (some v))[i]? = some (some v))
    (ht : ∀ (k : Nat) (x : V) (H' : Hp), xs[k]? = some x → Same H H' → SayT tt ((wipe σ vs).set i (some x)) H' (f x)) {Q : VK} (q : ∀ (D : Addr) (H' : Hp), H D = none → Same H H' → H' D = some (.lst (xs.filter f)) → Q (.ref D) H') :
    tLc (iList K te) (gName i) tt (tVar i) vs σ H Q := hv _ ⟨c, rfl, ⟨xs, hc⟩, fun D hD => by
  refine lc_list (K := K) (a := c) (xs := xs) (fun j H' => Same H H' ∧ H' D = some (.lst ((xs.take j).filter f))) ⟨same_new hD, upd_same⟩ (fun j H' _ hp => hp.1.seq hc) (fun j x H1 hx hp => ?_) (fun H1 hp => ?_)
  · obtain ⟨sm, eD⟩ := hp
    refine ⟨hw _, ht j x _ hx sm _ fun H2 s2 => ?_⟩
    have fx : (xs.take (j + 1)).filter f = (xs.take j).filter f ++ [x].filter f := by rw [take_snoc hx, List.filter_append]
    cases e : f x with
    | true =>
      refine iteT ⟨_, hi _, _, s2 _ _ eD, ?_, fun b o h => ?_, ?_⟩
      · have l1 := List.length_filter_le f (xs.take j)
        have l2 : (xs.take j).length ≤ xs.length := by rw [List.length_take]; exact Nat.min_le_right _ _
        exact small1000 (by omega)
      · rw [upd_ne (ne_of_none h hD)]
        exact s2 _ _ (sm b o h)
      · rw [upd_same, fx, List.filter_cons, if_pos e]
        rfl
    | false =>
      refine iteF ⟨sm.trans s2, ?_⟩
      rw [s2 _ _ eD, fx, List.filter_cons, if_neg (by rw [e]; decide), List.filter_nil, List.append_nil]
  · obtain ⟨sm, eD⟩ := hp
    rw [List.take_of_length_le (Nat.le_refl _)] at eD
    exact q D H1 hD sm eD⟩
/-- [row[0] for row in rows] -/
theorem lc_nums {K : PySem.W.Frag} {c : Addr} {xs : List V} {σ : L2.St} {H : Hp} {te : TE} {i : Nat} {T : List Row} {vs : List Nat} (hv : Giv te σ H (.ref c)) (hc : SqL K H c xs) (hr : RowsAt H xs T) (hl : xs.length ≤ 1000)
    (hw : ∀ v, wipe ((wipe σ vs).set i (some v)) vs = wipe σ vs) (hi : ∀ v, ((wipe σ vs).set i (some v))[i]? = some (some v)) {Q : VK} (q : ∀ (D : Addr) (H' : Hp), H D = none → Same H H' → H' D = some (.lst ((T.map (·.1)).map V.int)) → Q (.ref D) H') :
    tLc (iList K te) (gName i) tYes (tOp (rIxT K) (tVar i) (tC (.int 0))) vs σ H Q := hv _ ⟨c, rfl, ⟨xs, hc⟩, fun D hD => by
  refine lc_list (K := K) (a := c) (xs := xs) (fun j H' => Same H H' ∧ H' D = some (.lst (((T.take j).map (·.1)).map V.int))) ⟨same_new hD, upd_same⟩ (fun j H' _ hp => hp.1.seq hc) (fun j x H1 hx hp => ?_) (fun H1 hp => ?_)
  · obtain ⟨sm, eD⟩ := hp
    obtain ⟨t, v, r, rfl, er, et, _⟩ := hr.get hx
    refine ⟨hw _, _, hi _, t, _, 0, _, rfl, rfl, SqT.of (sm _ _ et), atI_nat (j := 0) rfl, _, eD, ?_, fun b o h => ?_, ?_⟩
    · rw [List.length_map, List.length_map, List.length_take]
      have := hr.len
      exact small1000 (by omega)
    · rw [upd_ne (ne_of_none h hD)]
      exact sm b o h
    · rw [upd_same, take_snoc er, List.map_append, List.map_append]
      rfl
  · obtain ⟨sm, eD⟩ := hp
    rw [List.take_of_length_le (by rw [hr.len]; exact Nat.le_refl _)] at eD
    exact q D H1 hD sm eD⟩
/-! ### equality of data without truths -/
mutual
def nb : PyData → Bool
  | .bool _ => false
  | .dict _ => false
  | .list ds => nbA ds
  | .tuple ds => nbA ds
  | _ => true
def nbA : List PyData → Bool
  | [] => true
  | d :: ds => nb d && nbA ds
end
mutual
theorem eqv_nb : ∀ (d e : PyData), nb d = true → nb e = true → (PyData.eqv d e = true ↔ d = e)
  | .none, e, _, h => by cases e <;> simp [PyData.eqv] <;> simp [nb] at h
  | .bool b, e, h, _ => by simp [nb] at h
  | .int i, e, _, h => by cases e <;> simp [PyData.eqv] <;> simp [nb] at h
  | .str x, e, _, h => by cases e <;> simp [PyData.eqv] <;> simp [nb] at h
  | .list ds, e, h1, h2 => by
    cases e with
    | list es =>
      unfold PyData.eqv
      rw [eqvA_nb ds es (by simpa [nb] using h1) (by simpa [nb] using h2)]
      simp
    | _ => simp [PyData.eqv]
  | .tuple ds, e, h1, h2 => by
    cases e with
    | tuple es =>
      unfold PyData.eqv
      rw [eqvA_nb ds es (by simpa [nb] using h1) (by simpa [nb] using h2)]
      simp
    | _ => simp [PyData.eqv]
  | .dict _, e, h, _ => by simp [nb] at h
theorem eqvA_nb : ∀ (ds es : List PyData), nbA ds = true → nbA es = true → (PyData.eqvAll ds es = true ↔ ds = es)
  | [], [], _, _ => by simp [PyData.eqvAll]
  | [], _ :: _, _, _ => by simp [PyData.eqvAll]
  | _ :: _, [], _, _ => by simp [PyData.eqvAll]
  | d :: ds, e :: es, h1, h2 => by
    unfold nbA at h1 h2
    obtain ⟨a1, a2⟩ := Bool.and_eq_true_iff.mp h1
    obtain ⟨b1, b2⟩ := Bool.and_eq_true_iff.mp h2
    unfold PyData.eqvAll
    rw [Bool.and_eq_true_iff, eqv_nb d e a1 b1, eqvA_nb ds es a2 b2]
    simp
end
theorem nbA_strs : ∀ zs : List Str, nbA (zs.map PyData.str) = true
  | [] => rfl
  | z :: l => by
    unfold List.map nbA
    rw [nbA_strs l]
    rfl
theorem Th.nb (t : Th) : Gj.nb t.data = true := by
  cases t with
  | letter a b w => rfl
  | echo a b s m n => rfl
  | answer a s m n h k => rfl
  | goer a n zs =>
    show nbA [.str "goer", .str a, .int (n : Int), .tuple (zs.map .str)] = true
    unfold nbA nbA nbA nbA nbA
    show (true && (true && (true && (nbA (zs.map .str) && true)))) = true
    rw [nbA_strs]
    rfl
end Gj

/-! own layer: a shelf in the heap, what its methods promise -/
namespace Gj
open PySem PySem.Spec PyProof.Rows L2
open C8 (Cal pe_c pe_gc)
theorem setE {σ : L2.St} {H : Hp} {te : TE} {D : Ends} {u : TS} {i : Nat} (h : te σ H (fun v H' => u D (σ.set i (some v)) H')) : tSeq (tAsg te (gName i)) u D σ H := h
theorem forE {K : PySem.W.Frag} {σ : L2.St} {H : Hp} {te : TE} {D : Ends} {u tb : TS} {g : TG} (h : te σ H (fun x H1 => ∃ a, x = .ref a ∧ (∃ xs, SqL K H1 a xs) ∧ tFor (fun _ _ R => R (Itl K a) H1) g tb { D with nx := u D } σ H)) : tSeq (tFor (iList K te) g tb) u D σ H := h
theorem appE2 {r1 r2 : List V → Hp → VK → Prop} {σ : L2.St} {H : Hp} {te : TE} {Q : VK} (h : te σ H (fun x H1 => r2 [x] H1 fun y H2 => r1 [y] H2 Q)) : tCB r1 (tCons (tCB r2 (tCons te tNil)) tNil) σ H Q := h
/-- a list of rows at l -/
structure RowsL (H : Hp) (l : Addr) (T : List Row) : Prop where
  ex : ∃ xs, H l = some (.lst xs) ∧ RowsAt H xs T
/-- a shelf at a, its rows at l -/
structure ShelfAt (C : Addr) (H : Hp) (a l : Addr) (T : List Row) : Prop where
  ob : ∃ dx, H a = some (.ins C dx [("kept", .ref l)])
  rows : RowsL H l T
section
variable {C : Addr} {H H' : Hp} {a l k : Addr} {T : List Row} {S : List Addr}
theorem RowsL.keep (h : RowsL H l T) (e : ∀ o, H l = some o → H' l = some o) (t : Ts H H') : RowsL H' l T := by
  obtain ⟨xs, e1, r⟩ := h.ex
  exact ⟨xs, e _ e1, r.ts t⟩
theorem RowsL.same (h : RowsL H l T) (s : Same H H') : RowsL H' l T := h.keep (fun o e => s _ _ e) (Same.ts s)
theorem ShelfAt.keep (h : ShelfAt C H a l T) (e1 : ∀ o, H a = some o → H' a = some o) (e2 : ∀ o, H l = some o → H' l = some o) (t : Ts H H') : ShelfAt C H' a l T := by
  obtain ⟨dx, e⟩ := h.ob
  exact ⟨⟨dx, e1 _ e⟩, h.rows.keep e2 t⟩
theorem ShelfAt.same (h : ShelfAt C H a l T) (s : Same H H') : ShelfAt C H' a l T := h.keep (fun o e => s _ _ e) (fun o e => s _ _ e) (Same.ts s)
theorem RowsL.kp (h : RowsL H l T) (k : Kp S H H') (n : l ∉ S) (ls : Ls S H) : RowsL H' l T := h.keep (fun o e => k _ _ n e) (k.ts ls)
theorem ShelfAt.kp (h : ShelfAt C H a l T) (k : Kp S H H') (n1 : a ∉ S) (n2 : l ∉ S) (ls : Ls S H) : ShelfAt C H' a l T := h.keep (fun o e => k _ _ n1 e) (fun o e => k _ _ n2 e) (k.ts ls)
theorem RowsL.ls (h : RowsL H l T) : Ls [l] H := by
  obtain ⟨xs, e, _⟩ := h.ex
  exact ls_one e
theorem Ls.append {S U : List Addr} (h : Ls S H) (g : Ls U H) : Ls (S ++ U) H := fun a m xs => (List.mem_append.mp m).elim (fun m => h a m xs) (fun m => g a m xs)
theorem ShelfAt.ne (h : ShelfAt C H a l T) : a ≠ l := by
  rintro rfl
  obtain ⟨dx, e⟩ := h.ob
  obtain ⟨xs, e2, _⟩ := h.rows.ex
  rw [e] at e2
  cases e2
theorem Pot.ls {p : Addr} (h : Pot H p) : Ls [p] H := by
  obtain ⟨x, y, e, _⟩ := h
  exact ls_one e
theorem Drawn.kp {p : Addr} (r : Drawn p H H') : Kp [p] H H' := fun b o n e => r.keep b o (fun z => n (by rw [z]; exact List.mem_singleton.mpr rfl)) e
theorem giv_kept {K : PySem.W.Frag} {σ : L2.St} {te : TE} (cl : Cls K C) (nk : NoAttr K C "kept") (h : ShelfAt C H a l T) (hv : Giv te σ H (.ref a)) : Giv (tFld K te "kept") σ H (.ref l) := fun Q q => hv _ (by
  obtain ⟨dx, e⟩ := h.ob
  exact ⟨a, C, dx, _, _, rfl, e, cl, nk, rfl, q⟩)
/-- row[0] < n, and its like -/
theorem say_num {K : PySem.W.Frag} {σ : L2.St} {g : Int → Int → Bool} {i : Nat} {tn : TE} {t : Addr} {v : V} {x n : Int} (hi : σ[i]? = some (some (.ref t))) (e : H t = some (.tup [.int x, v])) (hn : Giv tn σ H (.int n)) : SayT (tTest (tOp (rI0 fun i j => .bl (g i j)) (tOp (rIxT K) (tVar i) (tC (.int 0))) tn)) σ H (g x n) := fun Q q =>
  ⟨_, hi, t, _, 0, _, rfl, rfl, SqT.of e, atI_nat (j := 0) rfl, hn _ ⟨_, _, rfl, rfl, _, rfl, q _ (Same.refl H)⟩⟩
/-- [row for row in rows if row[0] < n], and its like -/
theorem lc_rows {K : PySem.W.Frag} {c : Addr} {xs : List V} {σ : L2.St} {te tn : TE} {i : Nat} {g : Int → Int → Bool} {n : Int} {vs : List Nat} (hv : Giv te σ H (.ref c)) (hc : SqL K H c xs) (hr : RowsAt H xs T) (hl : xs.length ≤ 1000)
    (hw : ∀ v, wipe ((wipe σ vs).set i (some v)) vs = wipe σ vs) (hi : ∀ v, ((wipe σ vs).set i (some v))[i]? = some (some v)) (hn : ∀ v H, Giv tn ((wipe σ vs).set i (some v)) H (.int n)) {Q : VK}
    (q : ∀ (D : Addr) (H' : Hp) (ys : List V), H D = none → Same H H' → H' D = some (.lst ys) → RowsAt H' ys (T.filter fun r => g r.1 n) → Q (.ref D) H') :
    tLc (iList K te) (gName i) (tTest (tOp (rI0 fun i j => .bl (g i j)) (tOp (rIxT K) (tVar i) (tC (.int 0))) tn)) (tVar i) vs σ H Q := by
  refine lc_choose (f := onNum H fun x => g x n) hv hc hl hw hi (fun k x H' hx s => ?_) fun D H' nD s e => ?_
  · obtain ⟨t, v, r, rfl, _, et, _⟩ := hr.get hx
    rw [onNum_at et]
    exact say_num (hi _) (s _ _ et) (hn _ _)
  · exact q D H' _ nD s e ((hr.filter fun t v r et => onNum_at et).same s)
end
/-! ### promises -/
def spInitS (C : Addr) : Sp := fun vs H Q _ => ∃ (a dx : Addr), vs = [.ref a] ∧ H a = some (.ins C dx []) ∧ ∀ (l : Addr) (H' : Hp), H l = none → Kp [a] H H' → ShelfAt C H' a l [] → Q .non H'
def spPutS (C : Addr) : Sp := fun vs H Q _ => ∃ (a l : Addr) (T : List Row) (n : Int) (v : V) (d : PyData), vs = [.ref a, .int n, v] ∧ ShelfAt C H a l T ∧ T.length ≤ 500 ∧ Im H v d ∧ ∀ H', Kp [l] H H' → ShelfAt C H' a l (put1 (n, d) T) → Q .non H'
def spTakenS (C : Addr) : Sp := fun vs H Q _ => ∃ (a l : Addr) (T : List Row) (n : Int), vs = [.ref a, .int n] ∧ ShelfAt C H a l T ∧ T.length ≤ 500 ∧
  ((below n T).length = T.length → ∀ H', Same H H' → Q .non H') ∧
  ((below n T).length ≠ T.length → ∀ (H' : Hp) (t : Addr) (v : V) (r : Row), Kp [l] H H' → T[(below n T).length]? = some r → H' t = some (.tup [.int r.1, v]) → Im H' v r.2 → ShelfAt C H' a l (T.eraseIdx (below n T).length) → Q (.ref t) H')
def spToldS (C : Addr) : Sp := fun vs H Q _ => ∃ (a l : Addr) (T : List Row), vs = [.ref a] ∧ ShelfAt C H a l T ∧ T.length ≤ 500 ∧ ∀ (q : Addr) (H' : Hp), H q = none → Same H H' → RowsL H' q T → Q (.ref q) H'
def spLenS (C : Addr) : Sp := fun vs H Q _ => ∃ (a l : Addr) (T : List Row), vs = [.ref a] ∧ ShelfAt C H a l T ∧ T.length ≤ 500 ∧ Q (.int (T.length : Nat)) H
end Gj

namespace Gj
open PySem PySem.Spec PyProof.Rows L2
open C8 (Cal pe_c pe_gc)
section
variable {P : Program} {w : World} {K : PySem.W.Frag} {mg : Str → Option Value} {base : Heap} {C : Addr}
theorem sc_Shelf___init__ : FnScope ["self"] ["self"] (defScope (inClass (topS 2) 0)) := ⟨rfl, rfl, rfl, by decide +kernel, rfl, by decide +kernel, by decide +kernel⟩
theorem okM_Shelf___init__ (D : MAt K C "__init__" "Shelf.__init__" (inClass (topS 2) 0) []) (cl : Cls K C) (nk : NoAttr K C "kept") : MthF P w K mg base 1 C "__init__" "Shelf.__init__" (inClass (topS 2) 0) [] ["self"] (spInitS C) := by
  have sc := sc_Shelf___init__
  refine mkMthF D sc (fun vs H Q E h => ?_) (fun f cdv A outer s H vs Q E hr h => ?_)
  · obtain ⟨a, dx, rfl, _⟩ := h
    rfl
  · obtain ⟨a, dx, rfl, ea, q⟩ := h
    refine ⟨_, (pss_one (ps_fld (pv 0) (pe_lst pa_nil) rfl)), ?_⟩
    refine ⟨(by show 0 ≤ sizeLine; decide), fun l nl => ?_⟩
    have na : a ≠ l := ne_of_none ea nl
    refine ⟨_, rfl, a, C, dx, _, rfl, (by rw [upd_ne na]; exact ea), cl, nk, (by decide), ?_⟩
    refine q l _ nl (fun b o nb e => ?_) ⟨⟨dx, upd_same⟩, ⟨[], ?_, .nil⟩⟩
    · have nb : b ≠ a := fun z => nb (by rw [z]; exact List.mem_singleton.mpr rfl)
      rw [upd_ne nb, upd_ne (ne_of_none e nl)]
      exact e
    · rw [upd_ne na.symm, upd_same]
theorem sc_Shelf_put : FnScope ["self", "number", "parcel", "ahead", "row"] ["self", "number", "parcel"] (defScope (inClass (topS 2) 1)) := ⟨rfl, rfl, rfl, by decide +kernel, rfl, by decide +kernel, by decide +kernel⟩
theorem okM_Shelf_put (D : MAt K C "put" "Shelf.put" (inClass (topS 2) 1) []) (m : Mg mg) (cl : Cls K C) (nk : NoAttr K C "kept") : MthF P w K mg base 1 C "put" "Shelf.put" (inClass (topS 2) 1) [] ["self", "number", "parcel"] (spPutS C) := by
  have sc := sc_Shelf_put
  refine mkMthF D sc (fun vs H Q E h => ?_) (fun f cdv A outer s H vs Q E hr h => ?_)
  · obtain ⟨a, l, T, n, v, d, rfl, _⟩ := h
    rfl
  · obtain ⟨a, l, T, n, v, d, rfl, hs, hT, hd, q⟩ := h
    refine ⟨_, (pss_cons (ps_setLc (i := 3) (own := [("row", 4)]) (g := gName 4) (tt := tTest (tOp (rI0 fun i j => .bl (decide (i ≤ j))) (tOp (rIxT K) (tVar 4) (tC (.int 0))) (tVar 1))) rfl sc.nd rfl rfl (sw_true rfl rfl rfl (by decide +kernel)) (pi_list (pe_fld (pv 0) rfl)) (blkOk_by (N := ["self", "number", "parcel", "ahead", "row"]) (sc := defScope (inClass (topS 2) 1)) (by decide +kernel)) (fun _ _ _ _ _ => (pg_name (i := 4) sc.nd rfl (.inl rfl))) (fun _ _ _ _ _ => (pts_one (pt_cmpR op_le (pe_ix ix_tup (pv 4) pe_int (fun _ _ => rfl)) (pv 1) (nomark _)))) (fun _ _ _ _ _ => (pv 4)))
  (pss_one (ps_expr (pe_bm PySem.F.plainAttrs_list PySem.F.slot_list_insert PySem.F.type_list_insert mt_insert (pe_fld (pv 0) rfl) (pa_cons (pe_callB call_len (by rfl) m.len (by decide +kernel) (pa_cons (pv 3) pa_nil)) (pa_cons (pe_tup (pa_cons (pv 1) (pa_cons (pv 2) pa_nil))) pa_nil)))))), ?_⟩
    obtain ⟨xs, exs, hr0⟩ := hs.rows.ex
    have hl := hr0.len
    refine setE ?_
    refine lc_rows (n := n) (giv_kept cl nk hs ?_) (SqL.of exs) hr0 (by omega) ?_ ?_ ?_ fun D H1 ys nD s1 eD hr1 => ?_
    · exact giv_var rfl
    · exact fun _ => rfl
    · exact fun _ => rfl
    · exact fun _ _ => giv_var rfl
    have hs1 := hs.same s1
    obtain ⟨dx, eo⟩ := hs.ob
    refine ⟨_, rfl, a, C, dx, _, _, rfl, s1 _ _ eo, cl, nk, rfl, ?_⟩
    refine ⟨.inl ⟨rfl, _, SqL.of (s1 _ _ exs)⟩, _, rfl, _, _, rfl, .inl ⟨_, SqL.of eD, rfl⟩, _, rfl, _, rfl, (by show 2 ≤ sizeLine; decide), fun t nt => ?_⟩
    have el : (upd H1 t (.tup [.int n, v])) l = some (.lst xs) := by rw [upd_ne (ne_of_none (s1 _ _ exs) nt)]; exact s1 _ _ exs
    have hy := hr1.len
    refine ⟨l, xs, (ys.length : Int), _, rfl, rfl, el, small1000 (by omega), by omega, ?_, ?_⟩
    · have := List.length_filter_le (fun r : Row => decide (r.1 ≤ n)) T
      omega
    have e1 : (ys.length : Int).toNat = (ahead n T).length := by
      rw [Int.toNat_natCast, hy]
      rfl
    rw [e1]
    have kp : Kp [l] H (upd (upd H1 t (.tup [.int n, v])) l (.lst (xs.take (ahead n T).length ++ [.ref t] ++ xs.drop (ahead n T).length))) := fun b o nb e => by
      have nb : b ≠ l := fun z => nb (by rw [z]; exact List.mem_singleton.mpr rfl)
      rw [upd_ne nb, upd_ne (ne_of_none (s1 _ _ e) nt)]
      exact s1 _ _ e
    have ts : Ts H _ := kp.ts (ls_one exs)
    refine q _ kp ⟨⟨dx, kp _ _ (fun z => hs.ne (List.mem_singleton.mp z)) eo⟩, ⟨_, upd_same, ?_⟩⟩
    have hr2 := hr0.ts ts
    refine ((hr2.take _).append (.cons (r := (n, d)) ?_ (hd.ts ts) .nil)).append (hr2.drop _)
    rw [upd_ne (ne_of_none (s1 _ _ exs) nt).symm, upd_same]
theorem sc_Shelf_taken : FnScope ["self", "height", "below", "row"] ["self", "height"] (defScope (inClass (topS 2) 2)) := ⟨rfl, rfl, rfl, by decide +kernel, rfl, by decide +kernel, by decide +kernel⟩
theorem okM_Shelf_taken (D : MAt K C "taken" "Shelf.taken" (inClass (topS 2) 2) [("height", .int 0)]) (m : Mg mg) (cl : Cls K C) (nk : NoAttr K C "kept") : MthF P w K mg base 1 C "taken" "Shelf.taken" (inClass (topS 2) 2) [("height", .int 0)] ["self", "height"] (spTakenS C) := by
  have sc := sc_Shelf_taken
  refine mkMthF D sc (fun vs H Q E h => ?_) (fun f cdv A outer s H vs Q E hr h => ?_)
  · obtain ⟨a, l, T, n, rfl, _⟩ := h
    rfl
  · obtain ⟨a, l, T, n, rfl, hs, hT, q1, q2⟩ := h
    refine ⟨_, (pss_cons (ps_setLc (i := 2) (own := [("row", 3)]) (g := gName 3) (tt := tTest (tOp (rI0 fun i j => .bl (decide (i < j))) (tOp (rIxT K) (tVar 3) (tC (.int 0))) (tVar 1))) rfl sc.nd rfl rfl (sw_true rfl rfl rfl (by decide +kernel)) (pi_list (pe_fld (pv 0) rfl)) (blkOk_by (N := ["self", "height", "below", "row"]) (sc := defScope (inClass (topS 2) 2)) (by decide +kernel)) (fun _ _ _ _ _ => (pg_name (i := 3) sc.nd rfl (.inl rfl))) (fun _ _ _ _ _ => (pts_one (pt_cmpR op_lt (pe_ix ix_tup (pv 3) pe_int (fun _ _ => rfl)) (pv 1) (nomark _)))) (fun _ _ _ _ _ => (pv 3)))
  (pss_cons (ps_if (pt_cmpR op_eq (pe_callB call_len (by rfl) m.len (by decide +kernel) (pa_cons (pv 2) pa_nil)) (pe_callB call_len (by rfl) m.len (by decide +kernel) (pa_cons (pe_fld (pv 0) rfl) pa_nil)) (nomark _))
  (pss_one (ps_ret pe_non))
  pss_nil)
  (pss_one (ps_ret (pe_bm PySem.F.plainAttrs_list PySem.F.slot_list_pop PySem.F.type_list_pop mt_popAt (pe_fld (pv 0) rfl) (pa_cons (pe_callB call_len (by rfl) m.len (by decide +kernel) (pa_cons (pv 2) pa_nil)) pa_nil)))))), ?_⟩
    obtain ⟨xs, exs, hr0⟩ := hs.rows.ex
    have hl := hr0.len
    refine setE ?_
    refine lc_rows (n := n) (giv_kept cl nk hs ?_) (SqL.of exs) hr0 (by omega) ?_ ?_ ?_ fun D H1 ys nD s1 eD hr1 => ?_
    · exact giv_var rfl
    · exact fun _ => rfl
    · exact fun _ => rfl
    · exact fun _ _ => giv_var rfl
    have hs1 := hs.same s1
    have hy : ys.length = (below n T).length := hr1.len
    obtain ⟨dx, eo⟩ := hs.ob
    refine ⟨_, rfl, _, _, rfl, .inl ⟨_, SqL.of eD, rfl⟩, ?_⟩
    refine ⟨_, rfl, a, C, dx, _, _, rfl, s1 _ _ eo, cl, nk, rfl, ?_⟩
    refine ⟨_, _, rfl, .inl ⟨_, SqL.of (s1 _ _ exs), rfl⟩, rfl, _, rfl, ?_⟩
    rw [dec_int2]
    refine ite2 (fun c => ?_) (fun c => ?_)
    · have c : (ys.length : Int) = (xs.length : Int) := of_decide_eq_true c
      exact q1 (by omega) _ s1
    · have c : ¬ (ys.length : Int) = (xs.length : Int) := fun z => c (decide_eq_true z)
      have lb := List.length_filter_le (fun r : Row => decide (r.1 < n)) T
      have lb : (below n T).length ≤ T.length := lb
      have hk : (below n T).length < xs.length := by omega
      have ex0 : xs[(below n T).length]? = some xs[(below n T).length] := List.getElem?_eq_getElem hk
      obtain ⟨t, v, r, et, er, e2, hi⟩ := hr0.get ex0
      refine ⟨_, rfl, a, C, dx, _, _, rfl, s1 _ _ eo, cl, nk, rfl, ?_⟩
      refine ⟨.inl ⟨rfl, _, SqL.of (s1 _ _ exs)⟩, _, rfl, _, _, rfl, .inl ⟨_, SqL.of eD, rfl⟩, l, xs, (ys.length : Int), (below n T).length, _, rfl, rfl, s1 _ _ exs, by omega, by omega, ?_, ex0, ?_⟩
      · rw [hy]
        exact PySem.StrLaws.seqIndex_nonneg (by omega) (by omega)
      have kp : Kp [l] H (upd H1 l (.lst (xs.eraseIdx (below n T).length))) := fun b o nb e => by
        have nb : b ≠ l := fun z => nb (by rw [z]; exact List.mem_singleton.mpr rfl)
        rw [upd_ne nb]
        exact s1 _ _ e
      have ts : Ts H _ := kp.ts (ls_one exs)
      rw [et]
      exact q2 (by omega) _ t v r kp er (ts _ _ e2) (hi.ts ts) ⟨⟨dx, kp _ _ (fun z => hs.ne (List.mem_singleton.mp z)) eo⟩, ⟨_, upd_same, (hr0.ts ts).erase _⟩⟩
theorem sc_Shelf_told : FnScope ["self"] ["self"] (defScope (inClass (topS 2) 3)) := ⟨rfl, rfl, rfl, by decide +kernel, rfl, by decide +kernel, by decide +kernel⟩
theorem okM_Shelf_told (D : MAt K C "told" "Shelf.told" (inClass (topS 2) 3) []) (m : Mg mg) (cl : Cls K C) (nk : NoAttr K C "kept") : MthF P w K mg base 1 C "told" "Shelf.told" (inClass (topS 2) 3) [] ["self"] (spToldS C) := by
  have sc := sc_Shelf_told
  refine mkMthF D sc (fun vs H Q E h => ?_) (fun f cdv A outer s H vs Q E hr h => ?_)
  · obtain ⟨a, l, T, rfl, _⟩ := h
    rfl
  · obtain ⟨a, l, T, rfl, hs, hT, q⟩ := h
    refine ⟨_, (pss_one (ps_ret (pe_callTy call_list_of (by rfl) m.list (by decide +kernel) (pa_cons (pe_fld (pv 0) rfl) pa_nil)))), ?_⟩
    obtain ⟨xs, exs, hr0⟩ := hs.rows.ex
    obtain ⟨dx, eo⟩ := hs.ob
    refine ⟨_, rfl, a, C, dx, _, _, rfl, eo, cl, nk, rfl, _, _, rfl, .inl (SqL.of exs), fun D nD => ?_⟩
    exact q D _ nD (same_new nD) ⟨_, upd_same, hr0.same (same_new nD)⟩
theorem sc_Shelf___len__ : FnScope ["self"] ["self"] (defScope (inClass (topS 2) 6)) := ⟨rfl, rfl, rfl, by decide +kernel, rfl, by decide +kernel, by decide +kernel⟩
theorem okM_Shelf___len__ (D : MAt K C "__len__" "Shelf.__len__" (inClass (topS 2) 6) []) (m : Mg mg) (cl : Cls K C) (nk : NoAttr K C "kept") : MthF P w K mg base 1 C "__len__" "Shelf.__len__" (inClass (topS 2) 6) [] ["self"] (spLenS C) := by
  have sc := sc_Shelf___len__
  refine mkMthF D sc (fun vs H Q E h => ?_) (fun f cdv A outer s H vs Q E hr h => ?_)
  · obtain ⟨a, l, T, rfl, _⟩ := h
    rfl
  · obtain ⟨a, l, T, rfl, hs, hT, q⟩ := h
    refine ⟨_, (pss_one (ps_ret (pe_callB call_len (by rfl) m.len (by decide +kernel) (pa_cons (pe_fld (pv 0) rfl) pa_nil)))), ?_⟩
    obtain ⟨xs, exs, hr0⟩ := hs.rows.ex
    obtain ⟨dx, eo⟩ := hs.ob
    refine ⟨_, rfl, a, C, dx, _, _, rfl, eo, cl, nk, rfl, _, _, rfl, .inl ⟨_, SqL.of exs, rfl⟩, ?_⟩
    rw [hr0.len]
    exact q
end
end Gj

/-! own layer: rows are told by repr; repr of what is laid -/
namespace Gj
open PySem PySem.Spec PyProof.Rows L2
open C8 (Cal pe_c pe_gc)
theorem strOk_of {z : Str} (h : ∀ c ∈ z.cps.toList, c < 1114112) : PyData.strOk z = true := by
  unfold PyData.strOk
  rw [Array.all_eq_true]
  intro i hi
  exact decide_eq_true (h _ (by simp))
theorem NameS.ok {z : Str} (h : NameS z) : PyData.strOk z = true := strOk_of fun c hc => by
  obtain ⟨cs, rfl, _, _, h3⟩ := h.ex
  have : ∀ c ∈ ltrs, c < 1114112 := by decide +kernel
  exact this c (h3 c hc)
theorem WordS.ok {z : Str} (h : WordS z) : PyData.strOk z = true := strOk_of fun c hc => by
  obtain ⟨cs, rfl, _, _, h3⟩ := h.ex
  have : ∀ c ∈ wrds, c < 1114112 := by decide +kernel
  exact this c (h3 c hc)
theorem sorts_ok : ∀ s ∈ sorts, PyData.strOk s = true := by decide +kernel
theorem kinds_ok : PyData.strOk "letter" = true ∧ PyData.strOk "echo" = true ∧ PyData.strOk "answer" = true ∧ PyData.strOk "goer" = true := by decide +kernel
theorem canLay_strs : ∀ {zs : List Str}, (∀ z ∈ zs, NameS z) → PyData.canLayAll0 (zs.map .str) = true
  | [], _ => rfl
  | z :: l, h => by
    rw [List.map_cons]
    unfold PyData.canLayAll0 PyData.canLay0
    rw [(h z List.mem_cons_self).ok, canLay_strs fun y hy => h y (List.mem_cons_of_mem _ hy)]
    rfl
theorem Th.Good.lay {t : Th} (h : t.Good) : t.data.canLay0 = true := by
  obtain ⟨k1, k2, k3, k4⟩ := kinds_ok
  cases t with
  | letter a b w =>
    obtain ⟨h1, h2, h3⟩ := h
    simp only [Th.data, Th.parts, PyData.canLay0, PyData.canLayAll0, k1, h1.ok, h2.ok, h3.ok, Bool.and_true]
  | echo a b s m n =>
    obtain ⟨h1, h2, h3, h4, h5⟩ := h
    simp only [Th.data, Th.parts, PyData.canLay0, PyData.canLayAll0, k2, h1.ok, h2.ok, sorts_ok _ h3, h4.ok, Bool.and_true]
  | answer a s m n g k =>
    obtain ⟨h1, h2, h3, h4, h5, h6, h7⟩ := h
    simp only [Th.data, Th.parts, PyData.canLay0, PyData.canLayAll0, k3, h1.ok, sorts_ok _ h2, h3.ok, h5.ok, Bool.and_true]
  | goer a n zs =>
    obtain ⟨h1, h2, h3, h4, h5, h6⟩ := h
    simp only [Th.data, Th.parts, PyData.canLay0, PyData.canLayAll0, k4, h1.ok, canLay_strs h4, Bool.and_true]
theorem Th.Good.small {t : Th} (h : t.Good) : t.data.shown.length ≤ 20012 := by
  have nB : ∀ {z : Str}, NameS z → (PyData.shown (.str z)).length ≤ 400 := fun h => by have := str_small h.cps h.len; omega
  have kB : ∀ s ∈ (["letter", "echo", "answer", "goer"] : List Str), (PyData.shown (.str s)).length ≤ 400 := fun s hs => by have := str_small (kinds_cps s hs) (kinds_name s hs).2.1; omega
  have sB : ∀ {s : Str}, s ∈ sorts → (PyData.shown (.str s)).length ≤ 400 := fun hs => by have := str_small (sorts_cps _ hs) (sorts_name _ hs).2.1; omega
  have wB : ∀ {z : Str}, WordS z → (PyData.shown (.str z)).length ≤ 400 := fun {z} h => by
    have h2 : z.length ≤ 12 := by
      obtain ⟨cs, e, h1, h2, _⟩ := h.ex
      rw [e, SX.S_len]
      exact h2
    have := str_small h.cps h2
    omega
  have pB : ∀ {z : Str} {n : Nat}, NameS z → NumOk n → (PyData.shown (.tuple [.str z, .int n])).length ≤ 1000 := fun {z n} hz hn => by
    have := tup_small (B := 400) (ds := [.str z, .int n]) fun d hd => by
      simp only [List.mem_cons, List.not_mem_nil, or_false] at hd
      rcases hd with rfl | rfl
      · exact nB hz
      · exact int_small hn
    have e : ([PyData.str z, .int n] : List PyData).length = 2 := rfl
    rw [e] at this
    omega
  have zB : ∀ {zs : List Str}, (∀ z ∈ zs, NameS z) → zs.length ≤ 9 → (PyData.shown (.tuple (zs.map .str))).length ≤ 4000 := fun {zs} hz hl => by
    have := tup_small (B := 400) (ds := zs.map .str) fun d hd => by
      obtain ⟨z, h1, rfl⟩ := List.mem_map.mp hd
      exact nB (hz z h1)
    rw [List.length_map] at this
    have h3 : zs.length * (400 + 2) ≤ 9 * 402 := Nat.mul_le_mul_right _ hl
    omega
  have all : (∀ d ∈ t.parts, d.shown.length ≤ 4000) ∧ t.parts.length ≤ 5 := by
    cases t with
    | letter a b w =>
      obtain ⟨h1, h2, h3⟩ := h
      refine ⟨fun d hd => ?_, by show 4 ≤ 5; omega⟩
      simp only [Th.parts, List.mem_cons, List.not_mem_nil, or_false] at hd
      rcases hd with rfl | rfl | rfl | rfl
      · exact Nat.le_trans (kB _ (by decide +kernel)) (by decide)
      · exact Nat.le_trans (nB h1) (by decide)
      · exact Nat.le_trans (nB h2) (by decide)
      · exact Nat.le_trans (wB h3) (by decide)
    | echo a b s m n =>
      obtain ⟨h1, h2, h3, h4, h5⟩ := h
      refine ⟨fun d hd => ?_, by show 5 ≤ 5; omega⟩
      simp only [Th.parts, List.mem_cons, List.not_mem_nil, or_false] at hd
      rcases hd with rfl | rfl | rfl | rfl | rfl
      · exact Nat.le_trans (kB _ (by decide +kernel)) (by decide)
      · exact Nat.le_trans (nB h1) (by decide)
      · exact Nat.le_trans (nB h2) (by decide)
      · exact Nat.le_trans (sB h3) (by decide)
      · exact Nat.le_trans (pB h4 h5) (by decide)
    | answer a s m n g k =>
      obtain ⟨h1, h2, h3, h4, h5, h6, h7⟩ := h
      refine ⟨fun d hd => ?_, by show 5 ≤ 5; omega⟩
      simp only [Th.parts, List.mem_cons, List.not_mem_nil, or_false] at hd
      rcases hd with rfl | rfl | rfl | rfl | rfl
      · exact Nat.le_trans (kB _ (by decide +kernel)) (by decide)
      · exact Nat.le_trans (nB h1) (by decide)
      · exact Nat.le_trans (sB h2) (by decide)
      · exact Nat.le_trans (pB h3 h4) (by decide)
      · exact Nat.le_trans (pB h5 h7) (by decide)
    | goer a n zs =>
      obtain ⟨h1, h2, h3, h4, h5, h6⟩ := h
      refine ⟨fun d hd => ?_, by show 4 ≤ 5; omega⟩
      simp only [Th.parts, List.mem_cons, List.not_mem_nil, or_false] at hd
      rcases hd with rfl | rfl | rfl | rfl
      · exact Nat.le_trans (kB _ (by decide +kernel)) (by decide)
      · exact Nat.le_trans (nB h1) (by decide)
      · exact Nat.le_trans (int_small h3) (by decide)
      · exact zB h4 h6
  have := tup_small all.1
  have h3 : t.parts.length * (4000 + 2) ≤ 5 * 4002 := Nat.mul_le_mul_right _ all.2
  show (PyData.shown (.tuple t.parts)).length ≤ 20012
  omega
theorem Th.flat (t : Th) : t.data.depth ≤ 4 := by
  have ssA : ∀ zs : List Str, PyData.showableAll (zs.map .str) = true ∧ PyData.hasDictAll (zs.map .str) = false ∧ PyData.depthAll (zs.map .str) ≤ 1 := fun zs => by
    induction zs with
    | nil => exact ⟨rfl, rfl, by simp [PyData.depthAll]⟩
    | cons z l ih =>
      obtain ⟨i1, i2, i3⟩ := ih
      refine ⟨?_, ?_, ?_⟩
      · rw [List.map_cons, PyData.showableAll, i1]; rfl
      · rw [List.map_cons, PyData.hasDictAll, i2]; rfl
      · rw [List.map_cons]; simp only [PyData.depthAll, PyData.depth]; omega
  cases t with
    | letter a b w => simp [Th.data, Th.parts, PyData.depth, PyData.depthAll]
    | echo a b s m n => simp [Th.data, Th.parts, PyData.depth, PyData.depthAll]
    | answer a s m n g k => simp [Th.data, Th.parts, PyData.depth, PyData.depthAll]
    | goer a n zs =>
      have := (ssA zs).2.2
      simp [Th.data, Th.parts, PyData.depth, PyData.depthAll]
      omega
/-- a row that is as it should be -/
structure OkRow (B : Int) (r : Row) : Prop where
  lo : 0 ≤ r.1
  hi : r.1 ≤ B
  th : ∃ t : Th, t.Good ∧ r.2 = t.data
theorem OkRow.mono {B B' : Int} {r : Row} (h : OkRow B r) (e : B ≤ B') : OkRow B' r := ⟨h.lo, Int.le_trans h.hi e, h.th⟩
abbrev most : Int := 10000000000000000000000000000
theorem OkRow.num {r : Row} (h : OkRow most r) : ∃ n : Nat, r.1 = (n : Int) ∧ NumOk n := by
  obtain ⟨n, e⟩ := Int.eq_ofNat_of_zero_le h.lo
  refine ⟨n, e, ?_⟩
  have := h.hi
  unfold NumOk
  have e2 : (10 : Nat) ^ 31 = 10000000000000000000000000000000 := by decide
  rw [e2]
  unfold most at this
  omega
theorem OkRow.facts {r : Row} (h : OkRow most r) : (rowD r).showable = true ∧ (rowD r).hasDict = false ∧ (rowD r).depth ≤ 5 ∧ (rowD r).shown.length ≤ 40030 ∧ nb (rowD r) = true ∧ (rowD r).canLay0 = true := by
  obtain ⟨n, e, hn⟩ := h.num
  obtain ⟨t, ht, e2⟩ := h.th
  have s := ht.shows
  have fl := t.flat
  unfold rowD
  rw [e, e2]
  have d5 : (PyData.tuple [.int (n : Int), t.data]).depth ≤ 5 := by
    simp only [PyData.depth, PyData.depthAll]
    omega
  refine ⟨?_, ?_, d5, ?_, ?_, ?_⟩
  · simp only [PyData.showable, PyData.showableAll, s.show1, Bool.and_true]
    exact decide_eq_true (int_log hn)
  · simp only [PyData.hasDict, PyData.hasDictAll, s.nod, Bool.or_false]
  · have := tup_small (B := 20012) (ds := [.int (n : Int), t.data]) fun d hd => by
      simp only [List.mem_cons, List.not_mem_nil, or_false] at hd
      rcases hd with rfl | rfl
      · exact Nat.le_trans (int_small hn) (by decide)
      · exact ht.small
    have e3 : ([PyData.int (n : Int), t.data] : List PyData).length = 2 := rfl
    rw [e3] at this
    omega
  · show nbA [.int (n : Int), t.data] = true
    unfold nbA nbA nbA
    rw [t.nb]
    rfl
  · simp only [PyData.canLay0, PyData.canLayAll0, ht.lay, Bool.and_true]
/-! ### lists of rows -/
theorem rows_facts {T : List Row} (h : ∀ r ∈ T, OkRow most r) : PyData.showableAll (T.map rowD) = true ∧ PyData.hasDictAll (T.map rowD) = false ∧ PyData.depthAll (T.map rowD) ≤ 5 ∧ nbA (T.map rowD) = true ∧ PyData.canLayAll0 (T.map rowD) = true := by
  induction T with
  | nil => exact ⟨rfl, rfl, by simp [PyData.depthAll], rfl, rfl⟩
  | cons r l ih =>
    obtain ⟨i1, i2, i3, i4, i5⟩ := ih fun x hx => h x (List.mem_cons_of_mem _ hx)
    obtain ⟨f1, f2, f3, _, f5, f6⟩ := (h r List.mem_cons_self).facts
    refine ⟨?_, ?_, ?_, ?_, ?_⟩
    · rw [List.map_cons, PyData.showableAll, f1, i1]; rfl
    · rw [List.map_cons, PyData.hasDictAll, f2, i2]; rfl
    · rw [List.map_cons]; simp only [PyData.depthAll]; omega
    · rw [List.map_cons]; unfold nbA; rw [f5, i4]; rfl
    · rw [List.map_cons, PyData.canLayAll0, f6, i5]; rfl
theorem lst_small {B : Nat} {ds : List PyData} (h : ∀ d ∈ ds, d.shown.length ≤ B) : (PyData.shown (.list ds)).length ≤ ds.length * (B + 2) + 3 := by
  show (listText (PyData.shownAll ds)).length ≤ _
  rw [shownAll_map]
  have h1 := listText_len_le (ds.map PyData.shown)
  have h2 := sum_le (B := B) (l := ds.map PyData.shown) fun z hz => by
    obtain ⟨d, hd, rfl⟩ := List.mem_map.mp hz
    exact h d hd
  rw [List.length_map] at h1 h2
  rw [Nat.mul_add]
  omega
theorem rows_show {T : List Row} (h : ∀ r ∈ T, OkRow most r) (hn : T.length ≤ 300) : Shows (.list (T.map rowD)) := by
  obtain ⟨i1, i2, i3, i4, i5⟩ := rows_facts h
  refine ⟨?_, ?_, ?_, ?_⟩
  · simp only [PyData.showable, i1]
  · simp only [PyData.hasDict, i2]
  · simp only [PyData.depth]; omega
  · have := lst_small (B := 40030) (ds := T.map rowD) fun d hd => by
      obtain ⟨r, hr, rfl⟩ := List.mem_map.mp hd
      exact (h r hr).facts.2.2.2.1
    rw [List.length_map] at this
    have h3 : T.length * (40030 + 2) ≤ 300 * 40032 := Nat.mul_le_mul_right _ hn
    show _ ≤ 2 ^ 24
    omega
theorem row_show {r : Row} (h : OkRow most r) : Shows (rowD r) := by
  obtain ⟨f1, f2, f3, f4, f5, _⟩ := h.facts
  exact ⟨f1, f2, by omega, by show _ ≤ 2 ^ 24; omega⟩
theorem rows_shaped {T : List Row} (h : ∀ r ∈ T, OkRow most r) : SeqAt.shaped (.list (T.map rowD)) = true := by
  obtain ⟨i1, i2, i3, i4, i5⟩ := rows_facts h
  unfold SeqAt.shaped
  rw [Bool.and_eq_true_iff]
  refine ⟨by simp only [PyData.canLay0, i5], decide_eq_true ?_⟩
  simp only [PyData.depth]
  omega
theorem row_shaped {r : Row} (h : OkRow most r) : SeqAt.shaped (rowD r) = true := by
  obtain ⟨f1, f2, f3, f4, f5, f6⟩ := h.facts
  unfold SeqAt.shaped
  rw [Bool.and_eq_true_iff]
  exact ⟨f6, decide_eq_true (by omega)⟩
theorem rowD_inj {r s : Row} (e : rowD r = rowD s) : r = s := by
  unfold rowD at e
  injection e with e
  injection e with e1 e2
  injection e2 with e2 _
  injection e1 with e1
  exact Prod.ext e1 e2
theorem row_eqv {r s : Row} (h : OkRow most r) (g : OkRow most s) : PyData.eqv (rowD r) (rowD s) = true ↔ r = s :=
  (eqv_nb _ _ h.facts.2.2.2.2.1 g.facts.2.2.2.2.1).trans ⟨rowD_inj, fun e => by rw [e]⟩
/-! ### texts that are told -/
def SayS (t : TE) (σ : L2.St) (H : Hp) (z : Str) : Prop := ∀ Q : VK, (∀ H', Same H H' → Q (.str z) H') → t σ H Q
def SayI (t : TE) (σ : L2.St) (H : Hp) (i : Int) : Prop := ∀ Q : VK, (∀ H', Same H H' → Q (.int i) H') → t σ H Q
theorem dec_strS {x y : Str} : decide (V.str x = V.str y) = decide (x = y) := by
  by_cases h : x = y
  · rw [h, decide_eq_true rfl, decide_eq_true rfl]
  · rw [decide_eq_false h, decide_eq_false fun z => h (V.str.inj z)]
section
variable {K : PySem.W.Frag} {σ : L2.St} {H : Hp} {te ta tb : TE} {d : PyData} {z y : Str} {i j : Int}
theorem SayS.reprL {ds : List PyData} (h : IsD K te σ H (.list ds)) (hs : Shows (.list ds)) : SayS (tCB (rReprD K) (tCons te tNil)) σ H (PyData.shown (.list ds)) := fun Q q => h _ fun H1 v s1 hd => by
  have hd2 := hd
  cases hd2 with
  | lst _ _ => exact ⟨_, _, rfl, hd, hs, q _ s1⟩
theorem SayS.reprT {ds : List PyData} (h : IsD K te σ H (.tuple ds)) (hs : Shows (.tuple ds)) : SayS (tCB (rReprD K) (tCons te tNil)) σ H (PyData.shown (.tuple ds)) := fun Q q => h _ fun H1 v s1 hd => by
  have hd2 := hd
  cases hd2 with
  | tup _ _ => exact ⟨_, _, rfl, hd, hs, q _ s1⟩
theorem SayS.eq (h1 : SayS ta σ H z) (h2 : ∀ H', Same H H' → SayS tb σ H' y) : Say (tOp rEq ta tb) σ H (decide (z = y)) := fun Q q => h1 _ fun H1 s1 => h2 _ s1 _ fun H2 s2 => ⟨rfl, by rw [dec_strS]; exact q _ (s1.trans s2)⟩
theorem SayS.ne (h1 : SayS ta σ H z) (h2 : ∀ H', Same H H' → SayS tb σ H' y) : Say (tOp rNe ta tb) σ H (!decide (z = y)) := fun Q q => h1 _ fun H1 s1 => h2 _ s1 _ fun H2 s2 => ⟨rfl, by rw [dec_strS]; exact q _ (s1.trans s2)⟩
theorem SayI.eq (h1 : SayI ta σ H i) (h2 : ∀ H', Same H H' → SayI tb σ H' j) : Say (tOp rEq ta tb) σ H (decide (i = j)) := fun Q q => h1 _ fun H1 s1 => h2 _ s1 _ fun H2 s2 => ⟨rfl, by rw [dec_int2]; exact q _ (s1.trans s2)⟩
theorem SayI.ne (h1 : SayI ta σ H i) (h2 : ∀ H', Same H H' → SayI tb σ H' j) : Say (tOp rNe ta tb) σ H (!decide (i = j)) := fun Q q => h1 _ fun H1 s1 => h2 _ s1 _ fun H2 s2 => ⟨rfl, by rw [dec_int2]; exact q _ (s1.trans s2)⟩
theorem SayI.of (h : Giv te σ H (.int i)) : SayI te σ H i := fun Q q => h _ (q _ (Same.refl H))
end
end Gj

/-! own layer: shelves beside their rows, what a law's defs promise of them -/
namespace Gj
open PySem PySem.Spec PyProof.Rows L2
open C8 (Cal pe_c pe_gc)
theorem pick_str {zs : List Str} {k : Nat} {x : V} (h : (zs.map V.str)[k]? = some x) : ∃ z ∈ zs, x = .str z := by
  rw [List.getElem?_map] at h
  cases e : zs[k]? with
  | none => rw [e] at h; cases h
  | some z =>
    rw [e] at h
    exact ⟨z, List.mem_of_getElem? e, (Option.some.inj h).symm⟩
theorem word_a : ∀ z ∈ (["a", "b", "z9", "0"] : List Str), WordS z := by
  intro z hz
  simp only [List.mem_cons, List.not_mem_nil, or_false] at hz
  rcases hz with rfl | rfl | rfl | rfl
  · exact ⟨[97], rfl, by decide, by decide, by decide +kernel⟩
  · exact ⟨[98], rfl, by decide, by decide, by decide +kernel⟩
  · exact ⟨[122, 57], rfl, by decide, by decide, by decide +kernel⟩
  · exact ⟨[48], rfl, by decide, by decide, by decide +kernel⟩
def spLParcel : Sp := fun vs H Q _ => ∃ (p c : Addr) (zs : List Str), vs = [.ref p, .ref c] ∧ Pot H p ∧ c ≠ p ∧ H c = some (.lst (zs.map V.str)) ∧ 0 < zs.length ∧ zs.length ≤ 100 ∧ (∀ z ∈ zs, NameS z) ∧
  ∀ (v : V) (t : Th) (H' : Hp), Drawn p H H' → Im H' v t.data → t.Good → Q v H'
def spLNumber : Sp := fun vs H Q _ => ∃ (p k : Addr) (Kk : List Row) (B : Int), vs = [.ref p, .ref k] ∧ Pot H p ∧ k ≠ p ∧ RowsL H k Kk ∧ Kk.length ≤ 300 ∧ (∀ r ∈ Kk, 0 ≤ r.1 ∧ r.1 ≤ B) ∧ 1000000000000000000000000002 ≤ B ∧
  ∀ (n : Int) (H' : Hp), 0 ≤ n → n ≤ B + 1 → Drawn p H H' → Q (.int n) H'
def spLTold : Sp := fun vs H Q _ => ∃ (k : Addr) (Kk T : List Row), vs = [.ref k] ∧ RowsL H k Kk ∧ Kk.length ≤ 300 ∧ Std T Kk ∧ ∀ (c : Addr) (H' : Hp), H c = none → Same H H' → RowsL H' c T → Q (.ref c) H'
/-- a shelf and its rows, as they should be -/
structure Pair (C : Addr) (H : Hp) (a l k : Addr) (T Kk : List Row) (B : Int) : Prop where
  sh : ShelfAt C H a l T
  rw : RowsL H k Kk
  std : Std T Kk
  ne : l ≠ k
  ok : ∀ r ∈ Kk, OkRow B r
theorem Pair.okT {C : Addr} {H : Hp} {a l k : Addr} {T Kk : List Row} {B : Int} (h : Pair C H a l k T Kk B) : ∀ r ∈ T, OkRow B r := fun r m => h.ok r (h.std.mem.mp m)
theorem Pair.nak {C : Addr} {H : Hp} {a l k : Addr} {T Kk : List Row} {B : Int} (h : Pair C H a l k T Kk B) : a ≠ k := by
  rintro rfl
  obtain ⟨dx, e⟩ := h.sh.ob
  obtain ⟨xs, e2, _⟩ := h.rw.ex
  rw [e] at e2
  cases e2
theorem Pair.ls {C : Addr} {H : Hp} {a l k : Addr} {T Kk : List Row} {B : Int} (h : Pair C H a l k T Kk B) : Ls [l, k] H := Ls.append (S := [l]) (U := [k]) h.sh.rows.ls h.rw.ls
theorem Pair.same {C : Addr} {H H' : Hp} {a l k : Addr} {T Kk : List Row} {B : Int} (h : Pair C H a l k T Kk B) (s : Same H H') : Pair C H' a l k T Kk B := ⟨h.sh.same s, h.rw.same s, h.std, h.ne, h.ok⟩
theorem Pair.mono {C : Addr} {H : Hp} {a l k : Addr} {T Kk : List Row} {B B' : Int} (h : Pair C H a l k T Kk B) (e : B ≤ B') : Pair C H a l k T Kk B' := ⟨h.sh, h.rw, h.std, h.ne, fun r m => (h.ok r m).mono e⟩
theorem Pair.kp {C : Addr} {H H' : Hp} {a l k : Addr} {T Kk : List Row} {B : Int} {S : List Addr} (h : Pair C H a l k T Kk B) (s : Kp S H H') (ls : Ls S H) (n1 : a ∉ S) (n2 : l ∉ S) (n3 : k ∉ S) : Pair C H' a l k T Kk B := ⟨h.sh.kp s n1 n2 ls, h.rw.kp s n3 ls, h.std, h.ne, h.ok⟩
def spLTaken (C : Addr) : Sp := fun vs H Q _ => ∃ (a l k : Addr) (T Kk : List Row) (B h way : Int), vs = [.ref a, .ref k, .int h, .int way] ∧ Pair C H a l k T Kk B ∧ B ≤ most ∧ Kk.length ≤ 200 ∧
  ∀ (H' : Hp) (T' K' : List Row), Kp [l, k] H H' → Pair C H' a l k T' K' B → K'.length ≤ Kk.length → (h = 0 → K' = [] ∨ K'.length < Kk.length) → Q (.bl true) H'
def spLStands (C : Addr) : Sp := fun vs H Q _ => ∃ (a l k : Addr) (T Kk : List Row) (B : Int), vs = [.ref a, .ref k] ∧ Pair C H a l k T Kk B ∧ B ≤ most ∧ Kk.length ≤ 200 ∧ ∀ H', Same H H' → Q (.bl true) H'
def spLDeed (C : Addr) : Sp := fun vs H Q _ => ∃ (p a l k c : Addr) (T Kk : List Row) (B : Int) (zs : List Str), vs = [.ref p, .ref a, .ref k, .ref c] ∧ Pot H p ∧ Pair C H a l k T Kk B ∧ 1000000000000000000000000002 ≤ B ∧ B + 1 ≤ most ∧ Kk.length < 200 ∧ p ≠ l ∧ p ≠ k ∧ c ≠ p ∧
  H c = some (.lst (zs.map V.str)) ∧ 0 < zs.length ∧ zs.length ≤ 100 ∧ (∀ z ∈ zs, NameS z) ∧
  ∀ (H' : Hp) (T' K' : List Row), Kp [p, l, k] H H' → Pot H' p → Pair C H' a l k T' K' (B + 1) → K'.length ≤ Kk.length + 1 → Q (.bl true) H'
def spLBoth (C : Addr) : Sp := fun vs H Q _ => ∃ (s r a1 a2 l1 l2 k1 k2 : Addr) (T1 T2 K1 K2 : List Row) (B : Int), vs = [.ref s, .ref r] ∧ H s = some (.lst [.ref a1, .ref a2]) ∧ H r = some (.lst [.ref k1, .ref k2]) ∧ Pair C H a1 l1 k1 T1 K1 B ∧ Pair C H a2 l2 k2 T2 K2 B ∧ B ≤ most ∧ K1.length ≤ 200 ∧ K2.length ≤ 200 ∧
  ∀ H', Same H H' → Q (.bl true) H'
/-! ### the places of a row -/
theorem filter_first {Kk : List Row} {x : Row} {g : Nat → Bool} (hg : ∀ j r, Kk[j]? = some r → (g j = true ↔ r = x)) (hx : x ∈ Kk) : ∃ k l, (List.range Kk.length).filter g = k :: l ∧ firstAt x Kk k := by
  obtain ⟨k, K1, K2, rfl, h1, rfl⟩ := first_ex hx
  have e1 : (List.range (K1 ++ x :: K2).length).filter g = ((List.range (K1.length + 1)).filter g) ++ ((List.range (K1 ++ x :: K2).length).drop (K1.length + 1)).filter g := by
    conv => lhs; rw [← List.take_append_drop (K1.length + 1) (List.range (K1 ++ x :: K2).length)]
    rw [List.filter_append, List.take_range]
    congr 3
    rw [List.length_append, List.length_cons]
    omega
  have e2 : (List.range (K1.length + 1)).filter g = [K1.length] := by
    rw [List.range_succ, List.filter_append]
    have z : (List.range K1.length).filter g = [] := List.filter_eq_nil_iff.mpr fun j hj c => by
      have hj := List.mem_range.mp hj
      have ej : (K1 ++ x :: K2)[j]? = some K1[j] := by rw [List.getElem?_append_left hj, List.getElem?_eq_getElem hj]
      exact h1 (((hg j _ ej).mp c) ▸ List.getElem_mem hj)
    have y : g K1.length = true := (hg K1.length x (by rw [List.getElem?_append_right (Nat.le_refl _), Nat.sub_self]; rfl)).mpr rfl
    rw [z, List.nil_append, List.filter_cons, if_pos y]
    rfl
  rw [e1, e2]
  exact ⟨_, _, rfl, K1, K2, rfl, h1, rfl⟩
end Gj

namespace Gj
open PySem PySem.Spec PyProof.Rows L2
open C8 (Cal pe_c pe_gc)
section
variable {P : Program} {w : World} {K : PySem.W.Frag} {mg : Str → Option Value} {base : Heap}
theorem sc__law_told : FnScope ["_law_kept", "_law_found", "_law_one", "_law_row"] ["_law_kept"] (defScope (topS 12)) := ⟨rfl, rfl, rfl, by decide +kernel, rfl, by decide +kernel, by decide +kernel⟩
theorem ok__law_told (D : DefAt K mg "_law_told" (topS 12)) (m : Mg mg) : Cal P w K mg base 1 "_law_told" spLTold [] := by
  have sc := sc__law_told
  refine mkCal D (fun _ _ _ _ _ _ us hl => match us, hl with | [_], _ => rfl) sc (fun vs H Q E h => ?_) (fun f cdv A outer s H vs Q E hr h => ?_)
  · obtain ⟨k, Kk, T, rfl, _⟩ := h
    rfl
  · obtain ⟨k, Kk, T, rfl, hk, hl, hst, q⟩ := h
    refine ⟨_, (pss_cons (ps_set (i := 1) sc.nd rfl (.inl rfl) (pe_lst pa_nil))
  (pss_cons (ps_for PassesOwn.never rfl (pi_list (pe_callB (cr_sortedN rfl) (by rfl) m.sorted (by decide +kernel) (pa_cons (pe_callTy (call_setLI rfl) (by rfl) m.set (by decide +kernel) (pa_cons (pe_lc (own := [("_law_row", 3)]) (g := gName 3) (tt := tYes) (te := tOp (rIxT K) (tVar 3) (tC (.int 0))) rfl sc.nd (pi_list (pv 0)) (blkOk_by (N := ["_law_kept", "_law_found", "_law_one", "_law_row"]) (sc := defScope (topS 12)) (by decide +kernel)) (fun _ _ _ _ _ => (pg_name (i := 3) sc.nd rfl (.inl rfl))) (fun _ _ _ _ _ => pts_nil) (fun _ _ _ _ _ => (pe_ix ix_tup (pv 3) pe_int (fun _ _ => rfl)))) pa_nil)) pa_nil))) (pg_name (i := 2) sc.nd rfl (.inr rfl))
  (pss_one (ps_expr (pe_bm PySem.F.plainAttrs_list PySem.F.slot_list_extend PySem.F.type_list_extend mt_extend (pv 1) (pa_cons (pe_lc (own := [("_law_row", 3)]) (g := gName 3) (tt := tTest (tOp rEq (tOp (rIxT K) (tVar 3) (tC (.int 0))) (tVar 2))) rfl sc.nd (pi_list (pv 0)) (blkOk_by (N := ["_law_kept", "_law_found", "_law_one", "_law_row"]) (sc := defScope (topS 12)) (by decide +kernel)) (fun _ _ _ _ _ => (pg_name (i := 3) sc.nd rfl (.inl rfl))) (fun _ _ _ _ _ => (pts_one (pt_cmpR op_eq (pe_ix ix_tup (pv 3) pe_int (fun _ _ => rfl)) (pv 2) (nomark _)))) (fun _ _ _ _ _ => (pv 3))) pa_nil)))))
  (pss_one (ps_ret (pv 1))))), ?_⟩
    obtain ⟨xs, ek, hr0⟩ := hk.ex
    have lx : xs.length ≤ 1000 := by rw [hr0.len]; omega
    refine setE ?_
    refine ⟨(by show 0 ≤ sizeLine; decide), fun F hF => ?_⟩
    have nFk : k ≠ F := ne_of_none ek hF
    have ek1 : (upd H F (.lst [])) k = some (.lst xs) := by rw [upd_ne nFk]; exact ek
    have hr1 : RowsAt (upd H F (.lst [])) xs Kk := hr0.same (same_new hF)
    show tSeq (tFor _ _ _) _ _ _ _
    refine forE (appE2 ?_)
    refine lc_nums (T := Kk) ?_ (SqL.of ek1) hr1 lx ?_ ?_ fun D H1 nD s1 eD => ?_
    · exact giv_var rfl
    · exact fun _ => rfl
    · exact fun _ => rfl
    refine ⟨D, _, rfl, SqL.of eD, by rw [List.length_map]; omega, fun a cc na lc => ?_⟩
    rw [List.length_map] at lc
    refine ⟨a, _, cc, rfl, upd_same, by omega, fun ns S hns hmem nS => ?_⟩
    have sm : Same (upd H F (.lst [])) (upd (upd H1 a (SetO w a (fun j => decide (j ∈ Kk.map (fun r : Row => r.1))) cc)) S (.lst (ns.map V.int))) := (s1.trans (same_new na)).trans (same_new nS)
    refine ⟨S, rfl, ⟨_, SqL.of upd_same⟩, ?_⟩
    have hmem2 : ∀ j : Int, j ∈ ns ↔ j ∈ Kk.map (fun r : Row => r.1) := fun j => (hmem j).trans decide_eq_true_iff
    have hT : byNums ns Kk = T := (byNums_std hns hmem2).uniq hst
    have ll : ns.length ≤ 1000 := by
      have := List.Nodup.length_le_of_subset (l₁ := ns) (l₂ := Kk.map (fun r : Row => r.1)) (hns.imp fun h => Int.ne_of_lt h) (fun j hj => (hmem2 j).mp hj)
      rw [List.length_map] at this
      omega
    have lT := hst.len
    have nSF : S ≠ F := (ne_of_none (s1.trans (same_new na) _ _ upd_same) nS).symm
    refine for_list (K := K) (a := S) (xs := ns.map V.int) (fun i σ H' => ∃ y2 y3 ys, σ = [some (.ref k), some (.ref F), y2, y3] ∧ Kp [F] (upd (upd H1 a (SetO w a (fun j => decide (j ∈ Kk.map (fun r : Row => r.1))) cc)) S (.lst (ns.map V.int))) H' ∧ H' F = some (.lst ys) ∧ RowsAt H' ys (byNums (ns.take i) Kk)) ⟨_, _, [], rfl, Kp.refl, sm _ _ upd_same, .nil⟩ (fun i σ H' _ h => ?_) (fun i x σ H2 hx h => ?_) (fun σ H2 h => ?_)
    · obtain ⟨y2, y3, ys, rfl, kp, eF, hy⟩ := h
      exact SqL.of (kp _ _ (fun z => nSF (List.mem_singleton.mp z)) upd_same)
    · obtain ⟨y2, y3, ys, rfl, kp, eF, hy⟩ := h
      rw [List.getElem?_map] at hx
      obtain ⟨n, hn, rfl⟩ : ∃ n, ns[i]? = some n ∧ x = .int n := by
        cases e : ns[i]? with
        | none => rw [e] at hx; cases hx
        | some n => rw [e] at hx; exact ⟨n, rfl, (Option.some.inj hx).symm⟩
      have nkF : k ∉ [F] := fun z => nFk (List.mem_singleton.mp z)
      have ek2 : H2 k = some (.lst xs) := kp _ _ nkF (sm _ _ ek1)
      have lsF : Ls [F] (upd (upd H1 a (SetO w a (fun j => decide (j ∈ Kk.map (fun r : Row => r.1))) cc)) S (.lst (ns.map V.int))) := ls_one (sm _ _ upd_same)
      have hr2 : RowsAt H2 xs Kk := (hr1.same sm).ts (kp.ts lsF)
      refine ⟨_, rfl, .inl ⟨rfl, _, SqL.of eF⟩, ?_⟩
      refine lc_choose (K := K) (f := onNum H2 fun j => decide (j = n)) (xs := xs) ?_ (SqL.of ek2) lx ?_ ?_ ?_ fun E0 H3 nE s3 eE => ?_
      · exact giv_var rfl
      · exact fun _ => rfl
      · exact fun _ => rfl
      · intro j x H' hx s
        obtain ⟨t, v, r, rfl, _, et, _⟩ := hr2.get hx
        rw [onNum_at et]
        exact Say.tTest (say_eqI (giv_ixT (giv_var rfl) (s _ _ et) rfl) (giv_var rfl))
      have hf : RowsAt H2 (xs.filter (onNum H2 fun j => decide (j = n))) (Kk.filter (keyB n)) := hr2.filter fun t v r et => onNum_at et
      have lb : (byNums (ns.take i) Kk).length + (Kk.filter (keyB n)).length ≤ 300 := by
        have e1 : byNums (ns.take (i + 1)) Kk = byNums (ns.take i) Kk ++ Kk.filter (keyB n) := by
          unfold byNums
          rw [take_snoc hn, List.flatMap_append]
          simp
        have e2 : byNums ns Kk = byNums (ns.take (i + 1)) Kk ++ byNums (ns.drop (i + 1)) Kk := by
          unfold byNums
          rw [← List.flatMap_append, List.take_append_drop]
        have e3 := congrArg List.length e2
        rw [hT, lT, e1, List.length_append, List.length_append] at e3
        omega
      refine ⟨F, E0, ys, _, rfl, rfl, s3 _ _ eF, eE, ?_, ?_⟩
      · rw [hy.len, hf.len]
        exact Nat.le_of_lt (small1000 (by omega))
      refine ⟨_, _, _, rfl, ?_, upd_same, ?_⟩
      · intro b o nb e
        have nb2 : b ≠ F := fun z => nb (List.mem_singleton.mpr z)
        rw [upd_ne nb2]
        exact s3 _ _ (kp b o nb e)
      · have e1 : byNums (ns.take (i + 1)) Kk = byNums (ns.take i) Kk ++ Kk.filter (keyB n) := by
          unfold byNums
          rw [take_snoc hn, List.flatMap_append]
          simp
        rw [e1]
        have ts : Ts H2 (upd H3 F (.lst (ys ++ xs.filter (onNum H2 fun j => decide (j = n))))) := fun b zs e => by
          rw [upd_ne (fun z => by rw [z, eF] at e; cases e)]
          exact s3 _ _ e
        exact (hy.ts ts).append (hf.ts ts)
    · obtain ⟨y2, y3, ys, rfl, kp, eF, hy⟩ := h
      rw [List.length_map, List.take_length, hT] at hy
      refine ⟨_, rfl, q F H2 hF (fun b o e => ?_) ⟨ys, eF, hy⟩⟩
      exact kp b o (fun z => by rw [List.mem_singleton.mp z, hF] at e; cases e) (sm _ _ (by rw [upd_ne (ne_of_none e hF)]; exact e))
end
end Gj

/-! own layer: comprehensions over rows that a call lays; the places of a row -/
namespace Gj
open PySem PySem.Spec PyProof.Rows L2
open C8 (Cal pe_c pe_gc)
section
variable {K : PySem.W.Frag} {σ : L2.St} {H : Hp} {te tn : TE} {i : Nat} {T Kk : List Row} {g : Int → Int → Bool} {n : Int} {vs : List Nat}
theorem lc_rowsC (hv : ∀ R : VK, (∀ c H1, H c = none → Same H H1 → RowsL H1 c T → R (.ref c) H1) → te σ H R) (hl : T.length ≤ 1000)
    (hw : ∀ v, wipe ((wipe σ vs).set i (some v)) vs = wipe σ vs) (hi : ∀ v, ((wipe σ vs).set i (some v))[i]? = some (some v)) (hn : ∀ v H, Giv tn ((wipe σ vs).set i (some v)) H (.int n)) {Q : VK}
    (q : ∀ (D : Addr) (H' : Hp), H D = none → Same H H' → RowsL H' D (T.filter fun r => g r.1 n) → Q (.ref D) H') :
    tLc (iList K te) (gName i) (tTest (tOp (rI0 fun i j => .bl (g i j)) (tOp (rIxT K) (tVar i) (tC (.int 0))) tn)) (tVar i) vs σ H Q := hv _ fun c H1 _ s1 hr => by
  obtain ⟨xs, ec, hx⟩ := hr.ex
  exact lc_rows (te := tC (.ref c)) giv_c (SqL.of ec) hx (by rw [hx.len]; exact hl) hw hi hn fun D H' ys nD s2 e2 h2 => q D H' (Evl.fresh_back s1 nD) (s1.trans s2) ⟨ys, e2, h2⟩
/-- [k for k, row in enumerate(rows) if row == x] -/
theorem lc_places {k : Addr} {j : Nat} {x : Row} {xs : List V} {tx : TE} (ek : H k = some (.lst xs)) (hr : RowsAt H xs Kk) (hl : Kk.length ≤ 1000) (hv : Giv te σ H (.ref k))
    (hw : ∀ u v, wipe (((wipe σ vs).set i (some u)).set j (some v)) vs = wipe σ vs) (hi : ∀ u v, (((wipe σ vs).set i (some u)).set j (some v))[i]? = some (some u)) (hj : ∀ u v, (((wipe σ vs).set i (some u)).set j (some v))[j]? = some (some v))
    (hx : ∀ u v H', Same H H' → ∃ y, Giv tx (((wipe σ vs).set i (some u)).set j (some v)) H' y ∧ Im H' y (rowD x)) (ok : ∀ r ∈ Kk, OkRow most r) (okx : OkRow most x) {Q : VK}
    (q : ∀ (D : Addr) (H' : Hp) (f : Nat → Bool), H D = none → Same H H' → (∀ m r, Kk[m]? = some r → (f m = true ↔ r = x)) → H' D = some (.lst (((List.range Kk.length).filter f).map fun m : Nat => V.int (m : Nat))) → Q (.ref D) H') :
    tLc (iEnum K (tCons te tNil)) (gTup K 2 (gCons (gName i) (gCons (gName j) gNil))) (tTest (tOp (rEqD K) (tVar j) tx)) (tVar i) vs σ H Q := hv _ ⟨k, xs, rfl, SqL.of ek, fun D hD => by
  have lx := hr.len
  let f : Nat → Bool := fun m => (Kk[m]?.map fun r => PyData.eqv (rowD r) (rowD x)).getD false
  refine lc_it (walk_enum (K := K) (a := k) (xs := xs)) (fun m H' => Same H H' ∧ H' D = some (.lst (((List.range m).filter f).map fun m : Nat => V.int (m : Nat)))) ⟨same_new hD, upd_same⟩ (fun m H' _ hp => SqL.of (hp.1 _ _ ek)) (fun m v H1 H2 hm hp hy => ?_) (fun H1 hp => ?_)
  · obtain ⟨sm, eD⟩ := hp
    obtain ⟨U, u, y, rfl, nU, rfl, eu, ey⟩ := hy
    obtain rfl : V.int (m : Nat) = u := Option.some.inj eu
    obtain ⟨t, v, r, rfl, er, et, hi1⟩ := hr.get ey
    have s2 : Same H (upd H1 U (.tup [.int (m : Nat), .ref t])) := sm.trans (same_new nU)
    obtain ⟨z, gz, hz⟩ := hx (.int (m : Nat)) (.ref t) _ s2
    refine ⟨U, _, rfl, SqT.of upd_same, rfl, _, _, rfl, _, _, rfl, rfl, hw _ _, ?_⟩
    refine ⟨_, hj _ _, gz _ ⟨_, _, ((row_im et hi1).same s2).dp, hz.dp, row_shaped (ok r (List.mem_of_getElem? er)), row_shaped okx, _, rfl, ?_⟩⟩
    have fm : f m = PyData.eqv (rowD r) (rowD x) := by
      show (Kk[m]?.map fun r => PyData.eqv (rowD r) (rowD x)).getD false = _
      rw [er]
      rfl
    rw [← fm]
    have e1 : (List.range (m + 1)).filter f = (List.range m).filter f ++ [m].filter f := by rw [List.range_succ, List.filter_append]
    have eD2 := (same_new (o := .tup [.int (m : Nat), .ref t]) nU) _ _ eD
    cases e : f m with
    | true =>
      refine iteT ⟨_, hi _ _, _, eD2, ?_, fun b o h => ?_, ?_⟩
      · rw [List.length_map]
        have := List.length_filter_le f (List.range m)
        rw [List.length_range] at this
        exact small1000 (by omega)
      · rw [upd_ne (ne_of_none h hD)]
        exact s2 _ _ h
      · rw [upd_same, e1, List.filter_cons, if_pos e, List.map_append]
        rfl
    | false =>
      refine iteF ⟨s2, ?_⟩
      rw [eD2, e1, List.filter_cons, if_neg (by rw [e]; decide), List.filter_nil, List.append_nil]
  · obtain ⟨sm, eD⟩ := hp
    rw [lx] at eD
    refine q D H1 f hD sm (fun m r er => ?_) eD
    have fm : f m = PyData.eqv (rowD r) (rowD x) := by
      show (Kk[m]?.map fun r => PyData.eqv (rowD r) (rowD x)).getD false = _
      rw [er]
      rfl
    rw [fm]
    exact row_eqv (ok r (List.mem_of_getElem? er)) okx⟩
end
theorem consOpE {r : R2} {σ : L2.St} {H : Hp} {te tb : TE} {Q : List V → Hp → Prop} (h : te σ H (fun x H1 => tb σ H1 (fun y H2 => r x y H2 (fun z H3 => Q [z] H3)))) : tCons (tOp r te tb) tNil σ H Q := h
theorem eqv_nil {T : List Row} : PyData.eqv (.list (T.map rowD)) (.list []) = decide (T = []) := by
  cases T with
  | nil => simp [PyData.eqv, PyData.eqvAll]
  | cons r l => simp [PyData.eqv, PyData.eqvAll]
theorem shaped_nil : SeqAt.shaped (.list []) = true := by decide +kernel
/-- the truth behind a shelf's taken -/
def TookS (C a l : Addr) (T : List Row) (h : Int) (H : Hp) (x : V) (H' : Hp) : Prop :=
  ((below h T).length = T.length ∧ x = .non ∧ Same H H') ∨
  ((below h T).length ≠ T.length ∧ ∃ t v r, x = .ref t ∧ Kp [l] H H' ∧ T[(below h T).length]? = some r ∧ H' t = some (.tup [.int r.1, v]) ∧ Im H' v r.2 ∧ ShelfAt C H' a l (T.eraseIdx (below h T).length))
theorem tookS {C a l : Addr} {T : List Row} {h : Int} {H : Hp} {Q : VK} (hs : ShelfAt C H a l T) (hT : T.length ≤ 500) (q : ∀ x H', TookS C a l T h H x H' → Q x H') : spTakenS C [.ref a, .int h] H Q C8.E0 :=
  ⟨a, l, T, h, rfl, hs, hT, fun e H' s => q _ _ (.inl ⟨e, rfl, s⟩), fun e H' t v r k e1 e2 e3 e4 => q _ _ (.inr ⟨e, t, v, r, rfl, k, e1, e2, e3, e4⟩)⟩
theorem below_zero {T : List Row} {B : Int} (h : ∀ r ∈ T, OkRow B r) : below 0 T = [] := List.filter_eq_nil_iff.mpr fun r m c => by
  have := (h r m).lo
  have := of_decide_eq_true c
  omega
end Gj
namespace Gj
open PySem PySem.Spec PyProof.Rows L2
theorem RowsL.dp {K : PySem.W.Frag} {H : Hp} {c : Addr} {T : List Row} (h : RowsL H c T) : Dp K H (.ref c) (.list (T.map rowD)) := by
  obtain ⟨xs, e, hr⟩ := h.ex
  exact .lst (SqL.of e) hr.dp
section
variable {K : PySem.W.Frag} {σ : L2.St} {H : Hp} {te : TE} {C a l k : Addr} {T Kk : List Row} {B : Int}
theorem isd_told {E : XK} (hv : Giv te σ H (.ref k)) (hr : RowsL H k Kk) (hl : Kk.length ≤ 300) (hs : Std T Kk) : IsD K (tCall spLTold [] E (tCons te tNil)) σ H (.list (T.map rowD)) := fun Q q => hv _ ⟨k, Kk, T, rfl, hr, hl, hs, fun c H' _ s h => q H' _ s h.dp⟩
theorem isd_toldS {E : XK} (hv : Giv te σ H (.ref a)) (hs : ShelfAt C H a l T) (hT : T.length ≤ 500) : IsD K (tMeth C "told" (spToldS C) [] E te tNil) σ H (.list (T.map rowD)) := fun Q q => hv _ (by
  obtain ⟨dx, eo⟩ := hs.ob
  exact ⟨a, dx, _, rfl, eo, rfl, a, l, T, rfl, hs, hT, fun c H' _ s h => q H' _ s h.dp⟩)
theorem sayi_lenS (hv : Giv te σ H (.ref a)) (hs : ShelfAt C H a l T) (hT : T.length ≤ 500) : SayI (tCB (rLenO C (spLenS C)) (tCons te tNil)) σ H (T.length : Nat) := fun Q q => hv _ (by
  obtain ⟨dx, eo⟩ := hs.ob
  exact ⟨a, dx, _, rfl, eo, a, l, T, rfl, hs, hT, T.length, rfl, Nat.le_of_lt (small1000 (by omega)), q _ (Same.refl H)⟩)
theorem sayi_lenR (hv : Giv te σ H (.ref k)) (hr : RowsL H k Kk) : SayI (tCB (rLenX K) (tCons te tNil)) σ H (Kk.length : Nat) := fun Q q => hv _ (by
  obtain ⟨xs, e, h⟩ := hr.ex
  refine ⟨_, _, rfl, .inl ⟨_, SqL.of e, rfl⟩, ?_⟩
  rw [h.len]
  exact q _ (Same.refl H))
theorem say_isL {xs : List V} (hv : Giv te σ H (.ref a)) (e : H a = some (.lst xs)) : Say (tCB (rIsi K) (tCons te (tCons (tC (.ty "list")) tNil))) σ H true := fun Q q => hv _ ⟨_, .ty "list", .type "list", .type "list", true, rfl, .ty "list", .base (.lst e), kit_ty (by decide +kernel), q _ (Same.refl H)⟩
end
end Gj

namespace Gj
open PySem PySem.Spec PyProof.Rows L2
open C8 (Cal pe_c pe_gc)
section
variable {P : Program} {w : World} {K : PySem.W.Frag} {mg : Str → Option Value} {base : Heap} {C : Addr}
theorem sc__law_taken : FnScope ["_law_shelf", "_law_kept", "_law_high", "_law_way", "_law_there", "_law_told_here", "_law_row", "_law_k"] ["_law_shelf", "_law_kept", "_law_high", "_law_way"] (defScope (topS 13)) := ⟨rfl, rfl, rfl, by decide +kernel, rfl, by decide +kernel, by decide +kernel⟩
theorem ok__law_taken (D : DefAt K mg "_law_taken" (topS 13)) (m : Mg mg) (cl : Cls K C) (nk : NoAttr K C "kept") (c__law_told : Cal P w K mg base 1 "_law_told" spLTold []) (m_taken : Mth P w K mg base 1 C "taken" (spTakenS C) [.int 0]) (k_taken : MthK P w K mg base 1 C "taken" (spTakenS C) ["height"] (fun v zs => v :: zs)) : CalG P w K mg base 3 "_law_taken" (spLTaken C) := by
  have sc := sc__law_taken
  refine mkCalG D (fun _ _ _ _ _ _ us hl => match us, hl with | [_, _, _, _], _ => rfl) sc (fun vs H Q E h => ?_) (fun f cdv A outer s H vs Q E hg hr h => ?_)
  · obtain ⟨a, l, k, T, Kk, B, h, way, rfl, _⟩ := h
    rfl
  · obtain ⟨a, l, k, T, Kk, B, h, way, rfl, hP, hB, hl, q⟩ := h
    refine ⟨_, (pss_cons (ps_set (i := 4) sc.nd rfl (.inr rfl) (pe_lc (own := [("_law_row", 6)]) (g := gName 6) (tt := tTest (tOp (rI0 fun i j => .bl (decide (j ≤ i))) (tOp (rIxT K) (tVar 6) (tC (.int 0))) (tVar 2))) rfl sc.nd (pi_list (pe_c c__law_told hr (by decide) (by rfl) (pa_cons (pv 1) pa_nil))) (blkOk_by (N := ["_law_shelf", "_law_kept", "_law_high", "_law_way", "_law_there", "_law_told_here", "_law_row", "_law_k"]) (sc := defScope (topS 13)) (by decide +kernel)) (fun _ _ _ _ _ => (pg_name (i := 6) sc.nd rfl (.inl rfl))) (fun _ _ _ _ _ => (pts_one (pt_cmpR op_ge (pe_ix ix_tup (pv 6) pe_int (fun _ _ => rfl)) (pv 2) (nomark _)))) (fun _ _ _ _ _ => (pv 6))))
  (C8.pss_cut (ps_if (PW.pt (pw_and (pt_cmpR op_eq (pv 3) pe_int (nomark _)) (pw_and1 (pt_cmpR op_eq (pv 2) pe_int (nomark _)))))
  (pss_one (ps_set (i := 5) sc.nd rfl (.inl rfl) (pe_m0 (pv 0) cl m_taken hr (by decide))))
  (pss_one (ps_set (i := 5) sc.nd rfl (.inl rfl) (pe_mK (pv 0) cl k_taken hr (by decide) (pk_cons (pv 2) pk_nil)))))
  (pss_cons (ps_if (pt_cmpR (op_eqD hr.units) (pv 4) (pe_lst pa_nil) (nomark _))
  (pss_one (ps_ret (pe_cmpR op_isN (pv 5) pe_non (nomark _))))
  pss_nil)
  (pss_cons (ps_expr (pe_bm PySem.F.plainAttrs_list PySem.F.slot_list_pop PySem.F.type_list_pop mt_popAt (pv 1) (pa_cons (pe_ix ix_list (pe_lc (own := [("_law_row", 6), ("_law_k", 7)]) (g := gTup K 2 (gCons (gName 7) (gCons (gName 6) gNil))) (tt := tTest (tOp (rEqD K) (tVar 6) (tOp (rIxL K) (tVar 4) (tC (.int 0))))) rfl sc.nd (pi_enum (by rfl) m.enumerate (pa_cons (pv 1) pa_nil)) (blkOk_by (N := ["_law_shelf", "_law_kept", "_law_high", "_law_way", "_law_there", "_law_told_here", "_law_row", "_law_k"]) (sc := defScope (topS 13)) (by decide +kernel)) (fun _ _ _ _ _ => (pg_tup (by rfl) (pgs_cons (pg_name (i := 7) sc.nd rfl (.inl rfl)) (pgs_cons (pg_name (i := 6) sc.nd rfl (.inl rfl)) pgs_nil)))) (fun _ _ _ _ _ => (pts_one (pt_cmpR (op_eqD hr.units) (pv 6) (pe_ix ix_list (pv 4) pe_int (fun _ _ => rfl)) (nomark _)))) (fun _ _ _ _ _ => (pv 7))) pe_int (fun _ _ => rfl)) pa_nil)))
  (pss_one (ps_ret (pe_cmpR op_eq (pe_callB (call_reprD hg hr.units) (by rfl) m.repr (by decide +kernel) (pa_cons (pv 5) pa_nil)) (pe_callB (call_reprD hg hr.units) (by rfl) m.repr (by decide +kernel) (pa_cons (pe_ix ix_list (pv 4) pe_int (fun _ _ => rfl)) pa_nil)) (nomark _)))))))), ?_⟩
    have okK : ∀ r ∈ Kk, OkRow most r := fun r mr => (hP.ok r mr).mono hB
    have okT : ∀ r ∈ T, OkRow most r := fun r mr => (hP.okT r mr).mono hB
    have lT : T.length = Kk.length := hP.std.len
    refine setE ?_
    refine lc_rowsC (T := T) (n := h) (fun R hR => ?_) (by omega) ?_ ?_ ?_ fun D H1 nD s1 hD => ?_
    · exact ⟨_, rfl, k, Kk, T, rfl, hP.rw, by omega, hP.std, hR⟩
    · exact fun _ => rfl
    · exact fun _ => rfl
    · exact fun _ _ => giv_var rfl
    have hP1 := hP.same s1
    obtain ⟨dx, eo⟩ := hP1.sh.ob
    obtain ⟨xs, ek, hr0⟩ := hP1.rw.ex
    obtain ⟨ys, eD, hrD⟩ := hD.ex
    refine ⟨fun σ' H' => ∃ x5, σ' = [some (.ref a), some (.ref k), some (.int h), some (.int way), some (.ref D), some x5, none, none] ∧ TookS C a l T h H1 x5 H', ?_, ?_⟩
    · have key : spTakenS C [.ref a, .int h] H1 (fun x H2 => ∃ x5, [some (.ref a), some (.ref k), some (.int h), some (.int way), some (.ref D), some x, none, none] = [some (.ref a), some (.ref k), some (.int h), some (.int way), some (.ref D), some x5, (none : Option V), none] ∧ TookS C a l T h H1 x5 H2) C8.E0 := tookS hP1.sh (by omega) fun x H' e => ⟨x, rfl, e⟩
      refine ⟨_, rfl, rfl, _, rfl, ite2 (fun c => ?_) (fun c => ?_)⟩
      · refine ⟨_, rfl, rfl, _, rfl, ite2 (fun c2 => ?_) (fun c2 => ?_)⟩
        · have c2 : h = 0 := V.int.inj (of_decide_eq_true c2)
          subst c2
          exact ⟨_, rfl, a, dx, _, rfl, eo, rfl, key⟩
        · exact ⟨_, rfl, a, dx, _, rfl, eo, rfl, _, rfl, rfl, key⟩
      · exact ⟨_, rfl, a, dx, _, rfl, eo, rfl, _, rfl, rfl, key⟩
    · rintro σ' H2 ⟨x5, rfl, tk⟩
      have okF : ∀ r ∈ T.filter (fun r => decide (h ≤ r.1)), OkRow most r := fun r mr => okT r (List.mem_filter.mp mr).1
      have kpl : Kp [l] H1 H2 := by
        rcases tk with ⟨_, _, s⟩ | ⟨_, _, _, _, _, k, _⟩
        · exact Same.kp s
        · exact k
      have nDl : D ∉ [l] := fun z => by
        rw [List.mem_singleton.mp z] at nD
        obtain ⟨us, e, _⟩ := hP.sh.rows.ex
        rw [nD] at e
        cases e
      have nkl : k ∉ [l] := fun z => hP.ne (List.mem_singleton.mp z).symm
      have tsl : Ts H1 H2 := kpl.ts hP1.sh.rows.ls
      have hD2 : RowsAt H2 ys _ := hrD.ts tsl
      have eD2 : H2 D = some (.lst ys) := kpl _ _ nDl eD
      have ek2 : H2 k = some (.lst xs) := kpl _ _ nkl ek
      have hr2 : RowsAt H2 xs Kk := hr0.ts tsl
      refine ⟨_, rfl, (by show 0 ≤ sizeLine; decide), fun E0 hE => ?_⟩
      refine ⟨_, .list [], .lst (SqL.of (same_new hE _ _ eD2)) ((hD2.same (same_new hE)).dp), .lst (SqL.of upd_same) .nil, rows_shaped okF, shaped_nil, _, rfl, ?_⟩
      rw [eqv_nil]
      have kpH : Kp [l] H (upd H2 E0 (.lst [])) := fun b o nb e => same_new hE _ _ (kpl b o nb (s1 _ _ e))
      refine ite2 (fun c => ?_) (fun c => ?_)
      · have c : T.filter (fun r => decide (h ≤ r.1)) = [] := of_decide_eq_true c
        rcases tk with ⟨e1, rfl, s⟩ | ⟨e1, t, v, r, rfl, kp, er, et, hi, hs⟩
        · refine ⟨_, rfl, rfl, ?_⟩
          have s3 : Same H (upd H2 E0 (.lst [])) := (s1.trans s).trans (same_new hE)
          refine q _ T Kk (Same.kp s3) (hP.same s3) (Nat.le_refl _) fun h0 => .inl ?_
          rw [h0, below_zero hP.okT] at e1
          exact List.length_eq_zero_iff.mp (by rw [← lT, ← e1]; rfl)
        · obtain ⟨x, B', e2, _⟩ := hP.std.take_some e1
          rw [show T.filter (fun r => decide (r.1 ≥ h)) = T.filter (fun r => decide (h ≤ r.1)) from rfl, c] at e2
          cases e2
      · have c : ¬ T.filter (fun r => decide (h ≤ r.1)) = [] := fun z => c (decide_eq_true z)
        rcases tk with ⟨e1, rfl, s⟩ | ⟨e1, t, v, r, rfl, kp, er, et, hi, hs⟩
        · exact absurd (hP.std.take_none e1) c
        obtain ⟨x, B', e2, e3, e4, e5⟩ := hP.std.take_some e1
        have e2 : T.filter (fun r => decide (h ≤ r.1)) = x :: B' := e2
        obtain rfl : r = x := Option.some.inj (er.symm.trans e3)
        rw [e2] at hD2
        have okr := okK r e5
        cases hD2 with
        | @cons t2 v2 _ ys2 _ et2 hi2 hr3 =>
        have s3 : Same H2 (upd H2 E0 (.lst [])) := same_new hE
        refine ⟨_, rfl, .inl ⟨rfl, _, SqL.of (s3 _ _ ek2)⟩, ?_⟩
        refine consOpE ?_
        refine lc_places (Kk := Kk) (x := r) (s3 _ _ ek2) (hr2.same s3) (by omega) ?_ ?_ ?_ ?_ (fun u v H' s => ?_) okK okr fun D3 H3 f nD3 s4 hf eD3 => ?_
        · exact giv_var rfl
        · exact fun _ _ => rfl
        · exact fun _ _ => rfl
        · exact fun _ _ => rfl
        · refine ⟨.ref t2, fun Q q => ⟨_, rfl, D, _, 0, _, rfl, rfl, SqL.of ((s3.trans s) _ _ eD2), atI_nat (j := 0) rfl, q⟩, (row_im et2 hi2).same (s3.trans s)⟩
        obtain ⟨k0, ks, e6, hfa⟩ := filter_first hf e5
        rw [e6] at eD3
        obtain ⟨K1, K2, eK, hx1, lk0⟩ := hfa
        have hk0 : k0 < Kk.length := by
          rw [eK, List.length_append, List.length_cons]
          omega
        have hk1 : k0 < xs.length := by rw [hr2.len]; exact hk0
        have ek3 : H3 k = some (.lst xs) := (s3.trans s4) _ _ ek2
        refine ⟨D3, _, 0, _, rfl, rfl, SqL.of eD3, atI_nat (j := 0) rfl, ?_⟩
        refine ⟨k, xs, (k0 : Int), k0, _, rfl, rfl, ek3, by omega, by omega, PySem.StrLaws.seqIndex_nonneg (by omega) (by omega), List.getElem?_eq_getElem hk1, ?_⟩
        have ts4 : Ts H2 (upd H3 k (.lst (xs.eraseIdx k0))) := fun b us e => by
          rw [upd_ne (fun z => by rw [z, ek2] at e; cases e)]
          exact (s3.trans s4) _ _ e
        have ndk : D ≠ k := fun z => by
          rw [z] at nD
          obtain ⟨us, e, _⟩ := hP.rw.ex
          rw [nD] at e
          cases e
        dsimp only
        refine retB (b := decide ((rowD r).shown = (rowD r).shown)) (SayS.eq (SayS.reprT (IsD.of ?_ (row_im (ts4 _ _ et) (hi.ts ts4)).dp) (row_show okr)) (fun H' s => SayS.reprT (IsD.of (v := .ref t2) ?_ (row_im (s _ _ (ts4 _ _ et2)) ((hi2.ts ts4).same s)).dp) (row_show okr))) fun H' s => ?_
        · exact giv_var rfl
        · exact fun Q q => ⟨_, rfl, D, _, 0, _, rfl, rfl, SqL.of (s _ _ (by rw [upd_ne ndk]; exact (s3.trans s4) _ _ eD2)), atI_nat (j := 0) rfl, q⟩
        rw [decide_eq_true rfl]
        have nak := hP.nak
        have s34 := s3.trans s4
        have shp : ShelfAt C H' a l (T.eraseIdx (below h T).length) := (hs.keep (H' := upd H3 k (.lst (xs.eraseIdx k0))) (fun o e => by rw [upd_ne nak]; exact s34 _ _ e) (fun o e => by rw [upd_ne hP.ne]; exact s34 _ _ e) ts4).same s
        refine q H' (T.eraseIdx (below h T).length) (Kk.eraseIdx k0) (fun b o nb e => ?_) ⟨shp, RowsL.same ⟨_, upd_same, (hr2.ts ts4).erase k0⟩ s, ?_, hP.ne, fun r mr => hP.ok r (List.mem_of_mem_eraseIdx mr)⟩ ?_ ?_
        · have n1 : b ≠ l := fun z => nb (by rw [z]; exact List.mem_cons_self)
          have n2 : b ≠ k := fun z => nb (by rw [z]; exact List.mem_cons_of_mem _ List.mem_cons_self)
          exact s _ _ (by rw [upd_ne n2]; exact s34 _ _ (kpl b o (fun z => n1 (List.mem_singleton.mp z)) (s1 _ _ e)))
        · rw [e4]
          exact hP.std.took e2 ⟨K1, K2, eK, hx1, lk0⟩
        · rw [List.length_eraseIdx_of_lt hk0]
          omega
        · intro _
          right
          rw [List.length_eraseIdx_of_lt hk0]
          omega
end
end Gj

namespace Gj
open PySem PySem.Spec PyProof.Rows L2
open C8 (Cal pe_c pe_gc)
section
variable {P : Program} {w : World} {K : PySem.W.Frag} {mg : Str → Option Value} {base : Heap} {C : Addr}
theorem sc__law_stands : FnScope ["_law_shelf", "_law_kept", "_law_told_here"] ["_law_shelf", "_law_kept"] (defScope (topS 14)) := ⟨rfl, rfl, rfl, by decide +kernel, rfl, by decide +kernel, by decide +kernel⟩
theorem ok__law_stands (D : DefAt K mg "_law_stands" (topS 14)) (m : Mg mg) (cl : Cls K C) (nk : NoAttr K C "kept") (c__law_told : Cal P w K mg base 1 "_law_told" spLTold []) (m_told : Mth P w K mg base 1 C "told" (spToldS C) []) (m_len : Mth P w K mg base 1 C "__len__" (spLenS C) []) : CalG P w K mg base 3 "_law_stands" (spLStands C) := by
  have sc := sc__law_stands
  refine mkCalG D (fun _ _ _ _ _ _ us hl => match us, hl with | [_, _], _ => rfl) sc (fun vs H Q E h => ?_) (fun f cdv A outer s H vs Q E hg hr h => ?_)
  · obtain ⟨a, l, k, T, Kk, B, rfl, _⟩ := h
    rfl
  · obtain ⟨a, l, k, T, Kk, B, rfl, hP, hB, hl, q⟩ := h
    refine ⟨_, (pss_cons (ps_set (i := 2) sc.nd rfl (.inl rfl) (pe_m0 (pv 0) cl m_told hr (by decide)))
  (pss_cons (ps_if (PW.pt (pw_or (pt_not (pt_val (pe_callB call_isi (by rfl) m.isinstance (by decide +kernel) (pa_cons (pv 2) (pa_cons (pe_bltn (v := .ty "list") (by rfl) m.list (by decide +kernel) rfl) pa_nil))))) (pw_or (pt_cmpR op_ne (pe_callB (call_reprD hg hr.units) (by rfl) m.repr (by decide +kernel) (pa_cons (pv 2) pa_nil)) (pe_callB (call_reprD hg hr.units) (by rfl) m.repr (by decide +kernel) (pa_cons (pe_c c__law_told hr (by decide) (by rfl) (pa_cons (pv 1) pa_nil)) pa_nil)) (nomark _)) (pw_or1 (pt_cmpR op_ne (pe_callB (call_lenO m_len hr (by decide)) (by rfl) m.len (by decide +kernel) (pa_cons (pv 0) pa_nil)) (pe_callB call_len (by rfl) m.len (by decide +kernel) (pa_cons (pv 1) pa_nil)) (nomark _))))))
  (pss_one (ps_ret pe_bl))
  pss_nil)
  (pss_cons (ps_expr (pe_bm0 PySem.F.plainAttrs_list PySem.F.slot_list_clear PySem.F.type_list_clear mt_clear (pv 2)))
  (pss_one (ps_ret (pe_and (pe_cmpR op_eq (pe_callB (call_reprD hg hr.units) (by rfl) m.repr (by decide +kernel) (pa_cons (pe_m0 (pv 0) cl m_told hr (by decide)) pa_nil)) (pe_callB (call_reprD hg hr.units) (by rfl) m.repr (by decide +kernel) (pa_cons (pe_c c__law_told hr (by decide) (by rfl) (pa_cons (pv 1) pa_nil)) pa_nil)) (nomark _)) (pe_one (pe_cmpR (op_eqD hr.units) (pv 2) (pe_lst pa_nil) (nomark _))))))))), ?_⟩
    have okT : ∀ r ∈ T, OkRow most r := fun r mr => (hP.okT r mr).mono hB
    have lT : T.length = Kk.length := hP.std.len
    obtain ⟨dx, eo⟩ := hP.sh.ob
    have shw : Shows (.list (T.map rowD)) := rows_show okT (by omega)
    refine setE ?_
    refine ⟨_, rfl, a, dx, _, rfl, eo, rfl, a, l, T, rfl, hP.sh, by omega, fun c H1 nc s1 hc => ?_⟩
    have hP1 := hP.same s1
    obtain ⟨ys, ec, hy⟩ := hc.ex
    dsimp only
    refine ifNo (SayT.of (SayT.or (a := false) (b := false) ?_ fun _ H2 s2 => SayT.of (SayT.or (a := false) (b := false) ?_ fun _ H3 s3 => ?_) rfl) rfl) fun H2 s2 => ?_
    · exact SayT.of (SayT.not (Say.tB (say_isL (giv_var rfl) ec))) rfl
    · exact Say.tTest (Say.of (SayS.ne (SayS.reprL (IsD.of (giv_var rfl) (hc.same s2).dp) shw) fun H' s => SayS.reprL (isd_told (giv_var rfl) (hP1.rw.same (s2.trans s)) (by omega) hP.std) shw) (by rw [decide_eq_true rfl]; rfl))
    · exact Say.tTest (Say.of (SayI.ne (sayi_lenS (giv_var rfl) (hP1.sh.same (s2.trans s3)) (by omega)) fun H' s => sayi_lenR (giv_var rfl) (hP1.rw.same ((s2.trans s3).trans s))) (by rw [lT, decide_eq_true rfl]; rfl))
    refine ⟨_, rfl, .inl ⟨rfl, _, SqL.of (s2 _ _ ec)⟩, c, ys, rfl, rfl, s2 _ _ ec, ?_⟩
    have s3 : Same H (upd H2 c (.lst [])) := fun b o e => by
      rw [upd_ne (ne_of_none e nc)]
      exact s2 _ _ (s1 _ _ e)
    have hP3 := hP.same s3
    dsimp only
    refine retB (b := true && true) (Say.and (a := true) (b := true) ?_ fun _ H4 s4 => ?_) fun H4 s4 => q _ (s3.trans s4)
    · exact Say.of (SayS.eq (SayS.reprL (isd_toldS (giv_var rfl) hP3.sh (by omega)) shw) fun H' s => SayS.reprL (isd_told (giv_var rfl) (hP3.rw.same s) (by omega) hP.std) shw) (decide_eq_true rfl)
    · exact Say.of (IsD.eq (IsD.of (giv_var rfl) (.lst (SqL.of (s4 _ _ upd_same)) .nil)) (fun H' s => IsDs.lst IsDs.nil (Nat.zero_le _)) shaped_nil shaped_nil) rfl
theorem sc__law_both : FnScope ["_law_shelves", "_law_rows", "_law_one", "_law_kept"] ["_law_shelves", "_law_rows"] (defScope (topS 16)) := ⟨rfl, rfl, rfl, by decide +kernel, rfl, by decide +kernel, by decide +kernel⟩
theorem ok__law_both (D : DefAt K mg "_law_both" (topS 16)) (m : Mg mg) (g__law_stands : CalG P w K mg base 3 "_law_stands" (spLStands C)) : CalG P w K mg base 4 "_law_both" (spLBoth C) := by
  have sc := sc__law_both
  refine mkCalG D (fun _ _ _ _ _ _ us hl => match us, hl with | [_, _], _ => rfl) sc (fun vs H Q E h => ?_) (fun f cdv A outer s H vs Q E hg hr h => ?_)
  · obtain ⟨s0, r0, a1, a2, l1, l2, k1, k2, T1, T2, K1, K2, B, rfl, _⟩ := h
    rfl
  · obtain ⟨s0, r0, a1, a2, l1, l2, k1, k2, T1, T2, K1, K2, B, rfl, es, er, hP1, hP2, hB, hl1, hl2, q⟩ := h
    refine ⟨_, (pss_one (ps_ret (pe_callB (cr_all rfl) (by rfl) m.all (by decide +kernel) (pa_cons (pe_lc (own := [("_law_one", 2), ("_law_kept", 3)]) (g := gTup K 2 (gCons (gName 2) (gCons (gName 3) gNil))) (tt := tYes) rfl sc.nd (pi_zip (by rfl) m.zip (pa_cons (pv 0) (pa_cons (pv 1) pa_nil))) (blkOk_by (N := ["_law_shelves", "_law_rows", "_law_one", "_law_kept"]) (sc := defScope (topS 16)) (by decide +kernel)) (fun _ _ _ _ _ => (pg_tup (by rfl) (pgs_cons (pg_name (i := 2) sc.nd rfl (.inl rfl)) (pgs_cons (pg_name (i := 3) sc.nd rfl (.inl rfl)) pgs_nil)))) (fun _ _ _ _ _ => pts_nil) (fun _ _ _ _ _ => (pe_cG g__law_stands hg hr (by decide) (by rfl) (pa_cons (pv 2) (pa_cons (pv 3) pa_nil))))) pa_nil)))), ?_⟩
    refine ⟨_, rfl, _, rfl, s0, r0, _, _, rfl, SqL.of es, SqL.of er, fun D hD => ?_⟩
    refine lc_it (walk_zip (K := K) (a := s0) (b := r0) (xs := [.ref a1, .ref a2]) (ys := [.ref k1, .ref k2]) (n := 2) rfl) (fun j H' => Same H H' ∧ H' D = some (.lst ((List.replicate j true).map V.bl))) ⟨same_new hD, upd_same⟩ (fun j H' _ hp => ⟨SqL.of (hp.1 _ _ es), SqL.of (hp.1 _ _ er)⟩) (fun j x H1 H2 hj hp hy => ?_) (fun H1 hp => ?_)
    · obtain ⟨sm, eD⟩ := hp
      obtain ⟨U, x, y, rfl, nU, rfl, ex, ey⟩ := hy
      have s2 : Same H (upd H1 U (.tup [x, y])) := sm.trans (same_new nU)
      refine ⟨U, _, rfl, SqT.of upd_same, rfl, _, _, rfl, _, _, rfl, rfl, rfl, ?_⟩
      have fin : ∀ H', Same (upd H1 U (.tup [x, y])) H' → ∃ acc, H' D = some (.lst acc) ∧ acc.length < sizeLine ∧ Same H (upd H' D (.lst (acc ++ [.bl true]))) ∧ (upd H' D (.lst (acc ++ [.bl true]))) D = some (.lst ((List.replicate (j + 1) true).map V.bl)) := fun H' s => by
        refine ⟨_, s _ _ (same_new nU _ _ eD), ?_, fun b o e => ?_, ?_⟩
        · rw [List.length_map, List.length_replicate]
          exact small1000 (by omega)
        · rw [upd_ne (ne_of_none e hD)]
          exact s _ _ (s2 _ _ e)
        · rw [upd_same, List.replicate_succ', List.map_append]
          rfl
      match j, hj, ex, ey, fin with
      | 0, _, ex, ey, fin =>
        obtain rfl : V.ref a1 = x := Option.some.inj ex
        obtain rfl : V.ref k1 = y := Option.some.inj ey
        exact ⟨_, rfl, _, rfl, a1, l1, k1, T1, K1, B, rfl, hP1.same s2, hB, hl1, fin⟩
      | 1, _, ex, ey, fin =>
        obtain rfl : V.ref a2 = x := Option.some.inj ex
        obtain rfl : V.ref k2 = y := Option.some.inj ey
        exact ⟨_, rfl, _, rfl, a2, l2, k2, T2, K2, B, rfl, hP2.same s2, hB, hl2, fin⟩
    · obtain ⟨sm, eD⟩ := hp
      exact ⟨D, [true, true], rfl, SqL.of eD, q _ sm⟩
end
end Gj

namespace Gj
open PySem PySem.Spec PyProof.Rows L2
open C8 (Cal pe_c pe_gc)
section
variable {P : Program} {w : World} {K : PySem.W.Frag} {mg : Str → Option Value} {base : Heap}
theorem sc__law_parcel : FnScope ["_law_pot_here", "_law_names_here", "_law_sort"] ["_law_pot_here", "_law_names_here"] (defScope (topS 10)) := ⟨rfl, rfl, rfl, by decide +kernel, rfl, by decide +kernel, by decide +kernel⟩
theorem ok__law_parcel (D : DefAt K mg "_law_parcel" (topS 10)) (m : Mg mg) (c__law_take : Cal P w K mg base 1 "_law_take" spTake []) (c__law_pick : Cal P w K mg base 2 "_law_pick" (spPick K) []) : Cal P w K mg base 3 "_law_parcel" spLParcel [] := by
  have sc := sc__law_parcel
  refine mkCal D (fun _ _ _ _ _ _ us hl => match us, hl with | [_, _], _ => rfl) sc (fun vs H Q E h => ?_) (fun f cdv A outer s H vs Q E hr h => ?_)
  · obtain ⟨p, c, zs, rfl, _⟩ := h
    rfl
  · obtain ⟨p, c, zs, rfl, hp, nc, ec, h0, h1, hz, q⟩ := h
    refine ⟨_, (pss_cons (ps_if (pt_cmpR op_eq (pe_c c__law_take hr (by decide) (by rfl) (pa_cons (pv 0) (pa_cons pe_int pa_nil))) pe_int (nomark _))
  (pss_one (ps_ret (pe_tup (pa_cons pe_str (pa_cons (pe_c c__law_pick hr (by decide) (by rfl) (pa_cons (pv 0) (pa_cons (pv 1) pa_nil))) (pa_cons (pe_c c__law_pick hr (by decide) (by rfl) (pa_cons (pv 0) (pa_cons (pv 1) pa_nil))) (pa_cons (pe_ix ix_list (pe_lst (pa_cons pe_str (pa_cons pe_str (pa_cons pe_str (pa_cons pe_str pa_nil))))) (pe_c c__law_take hr (by decide) (by rfl) (pa_cons (pv 0) (pa_cons pe_int pa_nil))) (fun _ _ => rfl)) pa_nil)))))))
  pss_nil)
  (pss_cons (ps_set (i := 2) sc.nd rfl (.inl rfl) (pe_ix ix_list (pe_lst (pa_cons pe_str (pa_cons pe_str (pa_cons pe_str (pa_cons pe_str pa_nil))))) (pe_c c__law_take hr (by decide) (by rfl) (pa_cons (pv 0) (pa_cons pe_int pa_nil))) (fun _ _ => rfl)))
  (pss_one (ps_ret (pe_tup (pa_cons pe_str (pa_cons (pe_c c__law_pick hr (by decide) (by rfl) (pa_cons (pv 0) (pa_cons (pv 1) pa_nil))) (pa_cons (pe_c c__law_pick hr (by decide) (by rfl) (pa_cons (pv 0) (pa_cons (pv 1) pa_nil))) (pa_cons (pv 2) (pa_cons (pe_tup (pa_cons (pe_c c__law_pick hr (by decide) (by rfl) (pa_cons (pv 0) (pa_cons (pv 1) pa_nil))) (pa_cons (pe_c c__law_take hr (by decide) (by rfl) (pa_cons (pv 0) (pa_cons pe_int pa_nil))) pa_nil))) pa_nil)))))))))), ?_⟩
    have l0 : 0 < (zs.map V.str).length := by rw [List.length_map]; exact h0
    have l1 : (zs.map V.str).length ≤ 1000 := by rw [List.length_map]; omega
    refine ⟨_, rfl, p, 2, rfl, hp, by decide, by decide, fun d H1 d0 d1 r1 => ⟨rfl, _, rfl, ite2 (fun cc => ?_) (fun cc => ?_)⟩⟩
    · refine ⟨_, rfl, _, rfl, p, c, _, rfl, r1.pot, nc, r1.keep _ _ nc ec, l0, l1, fun i1 x1 H2 hx1 r2 => ?_⟩
      have r2 := r1.trans r2
      obtain ⟨z1, hz1, rfl⟩ := pick_str hx1
      refine ⟨_, rfl, _, rfl, p, c, _, rfl, r2.pot, nc, r2.keep _ _ nc ec, l0, l1, fun i2 x2 H3 hx2 r3 => ?_⟩
      have r3 := r2.trans r3
      obtain ⟨z2, hz2, rfl⟩ := pick_str hx2
      refine ⟨(by show 4 ≤ sizeLine; decide), fun L hL => ?_⟩
      refine ⟨_, rfl, p, _, rfl, r3.pot.new hL, by decide, by decide, fun e H4 e0 e1 r4 => ?_⟩
      obtain ⟨x, hxm, hx⟩ := at_some (xs := [V.str "a", .str "b", .str "z9", .str "0"]) e0 e1
      obtain ⟨w, hw, rfl⟩ : ∃ w ∈ (["a", "b", "z9", "0"] : List Str), x = .str w := by
        simp only [List.mem_cons, List.not_mem_nil, or_false] at hxm
        rcases hxm with h | h | h | h
        · exact ⟨_, by decide +kernel, h⟩
        · exact ⟨_, by decide +kernel, h⟩
        · exact ⟨_, by decide +kernel, h⟩
        · exact ⟨_, by decide +kernel, h⟩
      have r4' := (r3.new hL).trans r4
      refine ⟨L, _, _, _, rfl, rfl, SqL.of (r4.keep _ _ (r3.pot.ne hL) upd_same), hx, (by show 4 ≤ sizeLine; decide), fun t ht => ?_⟩
      exact q _ (.letter z1 z2 w) _ (r4'.new ht) (.tup upd_same (.cons (.str _) (.cons (.str _) (.cons (.str _) (.cons (.str _) .nil))))) ⟨hz z1 hz1, hz z2 hz2, word_a w hw⟩
    · refine ⟨(by show 4 ≤ sizeLine; decide), fun L hL => ?_⟩
      refine ⟨_, rfl, p, _, rfl, r1.pot.new hL, by decide, by decide, fun e H2 e0 e1 r2 => ?_⟩
      obtain ⟨x, hxm, hx⟩ := at_some (xs := [V.str "came", .str "short", .str "ask", .str "row"]) e0 e1
      obtain ⟨w, hw, rfl⟩ : ∃ w ∈ sorts, x = .str w := by
        simp only [List.mem_cons, List.not_mem_nil, or_false] at hxm
        rcases hxm with h | h | h | h
        · exact ⟨_, by decide +kernel, h⟩
        · exact ⟨_, by decide +kernel, h⟩
        · exact ⟨_, by decide +kernel, h⟩
        · exact ⟨_, by decide +kernel, h⟩
      have r2' := (r1.new hL).trans r2
      refine ⟨L, _, _, _, rfl, rfl, SqL.of (r2.keep _ _ (r1.pot.ne hL) upd_same), hx, ?_⟩
      refine ⟨_, rfl, _, rfl, p, c, _, rfl, r2'.pot, nc, r2'.keep _ _ nc ec, l0, l1, fun i1 x1 H3 hx1 r3 => ?_⟩
      have r3 := r2'.trans r3
      obtain ⟨z1, hz1, rfl⟩ := pick_str hx1
      refine ⟨_, rfl, _, rfl, p, c, _, rfl, r3.pot, nc, r3.keep _ _ nc ec, l0, l1, fun i2 x2 H4 hx2 r4 => ?_⟩
      have r4 := r3.trans r4
      obtain ⟨z2, hz2, rfl⟩ := pick_str hx2
      refine ⟨_, rfl, ?_⟩
      refine ⟨_, rfl, _, rfl, p, c, _, rfl, r4.pot, nc, r4.keep _ _ nc ec, l0, l1, fun i3 x3 H5 hx3 r5 => ?_⟩
      have r5 := r4.trans r5
      obtain ⟨z3, hz3, rfl⟩ := pick_str hx3
      refine ⟨_, rfl, p, 9, rfl, r5.pot, by decide, by decide, fun n H6 n0 n1 r6 => ?_⟩
      have r6 := r5.trans r6
      obtain ⟨n, rfl⟩ := Int.eq_ofNat_of_zero_le n0
      refine ⟨(by show 2 ≤ sizeLine; decide), fun t ht => ?_⟩
      refine ⟨(by show 5 ≤ sizeLine; decide), fun u hu => ?_⟩
      have nut : u ≠ t := (ne_of_none upd_same hu).symm
      have hn : NumOk n := by
        unfold NumOk
        have e2 : (10 : Nat) ^ 31 = 10000000000000000000000000000000 := by decide
        rw [e2]
        omega
      exact q _ (.echo z1 z2 w z3 n) _ ((r6.new ht).new hu) (.tup upd_same (.cons (.str _) (.cons (.str _) (.cons (.str _) (.cons (.str _) (.cons (.tup (by rw [upd_ne nut.symm]; exact upd_same) (.cons (.str _) (.cons (.int _) .nil))) .nil)))))) ⟨hz z1 hz1, hz z2 hz2, hw, hz z3 hz3, hn⟩
theorem sc__law_number : FnScope ["_law_pot_here", "_law_kept", "_law_numbers", "_law_some", "_law_row"] ["_law_pot_here", "_law_kept"] (defScope (topS 11)) := ⟨rfl, rfl, rfl, by decide +kernel, rfl, by decide +kernel, by decide +kernel⟩
theorem ok__law_number (D : DefAt K mg "_law_number" (topS 11)) (m : Mg mg) (c__law_take : Cal P w K mg base 1 "_law_take" spTake []) (c__law_pick : Cal P w K mg base 2 "_law_pick" (spPick K) []) : Cal P w K mg base 3 "_law_number" spLNumber [] := by
  have sc := sc__law_number
  refine mkCal D (fun _ _ _ _ _ _ us hl => match us, hl with | [_, _], _ => rfl) sc (fun vs H Q E h => ?_) (fun f cdv A outer s H vs Q E hr h => ?_)
  · obtain ⟨p, k, Kk, B, rfl, _⟩ := h
    rfl
  · obtain ⟨p, k, Kk, B, rfl, hp, nk, hk, hl, hB, hB0, q⟩ := h
    refine ⟨_, (pss_cons (ps_set (i := 2) sc.nd rfl (.inl rfl) (pe_op op_cat (pe_lc (own := [("_law_row", 4)]) (g := gName 4) (tt := tYes) (te := tOp (rIxT K) (tVar 4) (tC (.int 0))) rfl sc.nd (pi_list (pv 1)) (blkOk_by (N := ["_law_pot_here", "_law_kept", "_law_numbers", "_law_some", "_law_row"]) (sc := defScope (topS 11)) (by decide +kernel)) (fun _ _ _ _ _ => (pg_name (i := 4) sc.nd rfl (.inl rfl))) (fun _ _ _ _ _ => pts_nil) (fun _ _ _ _ _ => (pe_ix ix_tup (pv 4) pe_int (fun _ _ => rfl)))) (pe_lst (pa_cons pe_int pa_nil))))
  (pss_cons (ps_set (i := 3) sc.nd rfl (.inl rfl) (pe_lst (pa_cons (pe_c c__law_take hr (by decide) (by rfl) (pa_cons (pv 0) (pa_cons pe_int pa_nil))) (pa_cons (pe_c c__law_pick hr (by decide) (by rfl) (pa_cons (pv 0) (pa_cons (pv 2) pa_nil))) (pa_cons (pe_op op_add (pe_c c__law_pick hr (by decide) (by rfl) (pa_cons (pv 0) (pa_cons (pv 2) pa_nil))) pe_int) (pa_cons (pe_op op_add (pe_op op_pow pe_int pe_int) (pe_c c__law_take hr (by decide) (by rfl) (pa_cons (pv 0) (pa_cons pe_int pa_nil)))) pa_nil))))))
  (pss_one (ps_ret (pe_c c__law_pick hr (by decide) (by rfl) (pa_cons (pv 0) (pa_cons (pe_op op_cat (pv 3) (pe_lst (pa_cons (pe_callB (call_max2 rfl) (by rfl) m.max (by decide +kernel) (pa_cons pe_int (pa_cons (pe_op op_sub (pe_ix ix_list (pv 2) pe_int (fun _ _ => rfl)) pe_int) pa_nil))) (pa_cons (pe_c c__law_take hr (by decide) (by rfl) (pa_cons (pv 0) (pa_cons pe_int pa_nil))) pa_nil)))) pa_nil))))))), ?_⟩
    obtain ⟨xs, ek, hr0⟩ := hk.ex
    refine setE ?_
    refine lc_nums (T := Kk) ?_ (SqL.of ek) hr0 (by rw [hr0.len]; omega) ?_ ?_ fun D H1 nD s1 eD => ?_
    · exact giv_var rfl
    · exact fun _ => rfl
    · exact fun _ => rfl
    have p1 : Pot H1 p := hp.same s1
    refine ⟨(by show 1 ≤ sizeLine; decide), fun E0 hE => ?_⟩
    have eD2 : (upd H1 E0 (.lst [.int 0])) D = some (.lst ((Kk.map (fun r : Row => r.1)).map V.int)) := by rw [upd_ne (ne_of_none eD hE)]; exact eD
    refine ⟨D, E0, _, _, rfl, rfl, eD2, upd_same, ?_, fun N hN => ?_⟩
    · rw [List.length_map, List.length_map]
      show Kk.length + 1 ≤ sizeLine
      exact Nat.le_of_lt (small1000 (by omega))
    have en : ((Kk.map (fun r : Row => r.1)).map V.int ++ [V.int 0]) = (Kk.map (fun r : Row => r.1) ++ [0]).map V.int := by rw [List.map_append]; rfl
    obtain ⟨ns, ens⟩ : ∃ ns, Kk.map (fun r : Row => r.1) ++ [(0 : Int)] = ns := ⟨_, rfl⟩
    have hns : ∀ i ∈ ns, 0 ≤ i ∧ i ≤ B := fun i hi => by
      rw [← ens] at hi
      rcases List.mem_append.mp hi with h | h
      · obtain ⟨r, hr1, rfl⟩ := List.mem_map.mp h
        exact hB r hr1
      · rw [List.mem_singleton.mp h]
        omega
    have ln : ns.length = Kk.length + 1 := by rw [← ens, List.length_append, List.length_map]; rfl
    rw [en, ens]
    have sN : Same H (upd (upd H1 E0 (.lst [.int 0])) N (.lst (ns.map V.int))) := (s1.trans (same_new hE)).trans (same_new hN)
    have hN2 : (upd H1 E0 (.lst [.int 0])) N = none := hN
    generalize eH : upd (upd H1 E0 (.lst [.int 0])) N (.lst (ns.map V.int)) = H2 at sN
    have eN : H2 N = some (.lst (ns.map V.int)) := by rw [← eH]; exact upd_same
    have p2 : Pot H2 p := hp.same sN
    have nNp : N ≠ p := (p1.new hE).ne hN2
    have dr2 : Drawn p H H2 := ⟨Same.keep sN, p2⟩
    have l0 : 0 < (ns.map V.int).length := by rw [List.length_map]; omega
    have l1 : (ns.map V.int).length ≤ 1000 := by rw [List.length_map]; omega
    have pk : ∀ {i : Nat} {x : V}, (ns.map V.int)[i]? = some x → ∃ j : Int, x = .int j ∧ 0 ≤ j ∧ j ≤ B := fun {i x} h => by
      rw [List.getElem?_map] at h
      cases e : ns[i]? with
      | none => rw [e] at h; cases h
      | some j =>
        rw [e] at h
        exact ⟨j, (Option.some.inj h).symm, hns j (List.mem_of_getElem? e)⟩
    refine ⟨_, rfl, p, 4, rfl, p2, by decide, by decide, fun a1 H3 a10 a11 r3 => ?_⟩
    have dr3 := dr2.trans r3
    have eN3 := r3.keep _ _ nNp eN
    refine ⟨_, rfl, _, rfl, p, N, _, rfl, dr3.pot, nNp, eN3, l0, l1, fun i1 x1 H4 hx1 r4 => ?_⟩
    obtain ⟨a2, rfl, a20, a21⟩ := pk hx1
    have dr4 := dr3.trans r4
    have eN4 := r4.keep _ _ nNp eN3
    refine ⟨_, rfl, _, rfl, p, N, _, rfl, dr4.pot, nNp, eN4, l0, l1, fun i2 x2 H5 hx2 r5 => ?_⟩
    obtain ⟨a3, rfl, a30, a31⟩ := pk hx2
    have dr5 := dr4.trans r5
    have eN5 := r5.keep _ _ nNp eN4
    refine ⟨_, _, rfl, rfl, _, _, rfl, rfl, ⟨by decide, by decide, by decide⟩, ?_⟩
    refine ⟨_, rfl, p, 3, rfl, dr5.pot, by decide, by decide, fun a4 H6 a40 a41 r6 => ?_⟩
    have dr6 := dr5.trans r6
    have eN6 := r6.keep _ _ nNp eN5
    refine ⟨_, _, rfl, rfl, (by show 4 ≤ sizeLine; decide), fun S hS => ?_⟩
    have dr7 := dr6.new (o := .lst [.int a1, .int a2, .int (a3 + 1), .int (10 ^ (27 : Int).toNat + a4)]) hS
    have nSp : S ≠ p := dr6.pot.ne hS
    have eN7 : (upd H6 S (.lst [.int a1, .int a2, .int (a3 + 1), .int (10 ^ (27 : Int).toNat + a4)])) N = some (.lst (ns.map V.int)) := by rw [upd_ne (ne_of_none eN6 hS)]; exact eN6
    refine ⟨_, rfl, _, rfl, ?_⟩
    obtain ⟨n0, hn0⟩ : ∃ n0, ns[0]? = some n0 := ⟨ns[0]'(by omega), List.getElem?_eq_getElem _⟩
    have b0 := hns n0 (List.mem_of_getElem? hn0)
    refine ⟨_, rfl, N, _, 0, _, rfl, rfl, SqL.of eN7, atI_nat (j := 0) (by rw [List.getElem?_map, hn0]; rfl), _, _, rfl, rfl, _, _, rfl, ?_⟩
    refine ⟨_, rfl, p, 60, rfl, dr7.pot, by decide, by decide, fun a6 H8 a60 a61 r8 => ?_⟩
    have dr8 := dr7.trans r8
    have eS8 := r8.keep _ _ nSp upd_same
    refine ⟨(by show 2 ≤ sizeLine; decide), fun U hU => ?_⟩
    refine ⟨S, U, _, _, rfl, rfl, (by rw [upd_ne (ne_of_none eS8 hU)]; exact eS8), upd_same, (by show 6 ≤ sizeLine; decide), fun W hW => ?_⟩
    have dr9 := (dr8.new (o := .lst [.int (if n0 - 1 > 0 then n0 - 1 else 0), .int a6]) hU).new (o := .lst ([.int a1, .int a2, .int (a3 + 1), .int (10 ^ (27 : Int).toNat + a4)] ++ [.int (if n0 - 1 > 0 then n0 - 1 else 0), .int a6])) hW
    have nWp : W ≠ p := (dr8.pot.new hU).ne hW
    refine ⟨p, W, _, rfl, dr9.pot, nWp, upd_same, (by show 0 < 6; decide), (by show 6 ≤ 1000; decide), fun i x H10 hx r10 => ?_⟩
    have e27 : (10 : Int) ^ (27 : Int).toNat = 1000000000000000000000000000 := by decide
    obtain ⟨n, rfl, n1, n2⟩ : ∃ n : Int, x = .int n ∧ 0 ≤ n ∧ n ≤ B + 1 := by
      have hm := List.mem_of_getElem? hx
      simp only [List.mem_append, List.mem_cons, List.not_mem_nil, or_false] at hm
      rcases hm with (h | h | h | h) | (h | h)
      · exact ⟨_, h, a10, by omega⟩
      · exact ⟨_, h, a20, by omega⟩
      · exact ⟨_, h, by omega, by omega⟩
      · refine ⟨_, h, ?_, ?_⟩ <;> rw [e27] <;> omega
      · refine ⟨_, h, ?_, ?_⟩ <;> split <;> omega
      · exact ⟨_, h, a60, by omega⟩
    exact q n _ n1 n2 (dr9.trans r10)
end
end Gj

namespace Gj
open PySem PySem.Spec PyProof.Rows L2
open C8 (Cal pe_c pe_gc)
section
variable {P : Program} {w : World} {K : PySem.W.Frag} {mg : Str → Option Value} {base : Heap} {C : Addr}
theorem sc__law_deed_right : FnScope ["_law_pot_here", "_law_shelf", "_law_kept", "_law_names_here", "_law_way", "_law_row", "_law_told_here", "_law_high"] ["_law_pot_here", "_law_shelf", "_law_kept", "_law_names_here"] (defScope (topS 15)) := ⟨rfl, rfl, rfl, by decide +kernel, rfl, by decide +kernel, by decide +kernel⟩
theorem ok__law_deed_right (D : DefAt K mg "_law_deed_right" (topS 15)) (m : Mg mg) (cl : Cls K C) (nk : NoAttr K C "kept") (c__law_take : Cal P w K mg base 1 "_law_take" spTake []) (c__law_number : Cal P w K mg base 3 "_law_number" spLNumber []) (c__law_parcel : Cal P w K mg base 3 "_law_parcel" spLParcel []) (g__law_taken : CalG P w K mg base 3 "_law_taken" (spLTaken C)) (m_put : Mth P w K mg base 1 C "put" (spPutS C) []) (k_put : MthK P w K mg base 1 C "put" (spPutS C) ["parcel", "number"] (fun v zs => [v, zs.getD 1 .non, zs.getD 0 .non])) : CalG P w K mg base 4 "_law_deed_right" (spLDeed C) := by
  have sc := sc__law_deed_right
  refine mkCalG D (fun _ _ _ _ _ _ us hl => match us, hl with | [_, _, _, _], _ => rfl) sc (fun vs H Q E h => ?_) (fun f cdv A outer s H vs Q E hg hr h => ?_)
  · obtain ⟨p, a, l, k, c, T, Kk, B, zs, rfl, _⟩ := h
    rfl
  · obtain ⟨p, a, l, k, c, T, Kk, B, zs, rfl, hp, hP, hB0, hB1, hl, npl, npk, ncp, ec, z0, z1, hz, q⟩ := h
    refine ⟨_, (pss_cons (ps_set (i := 4) sc.nd rfl (.inl rfl) (pe_c c__law_take hr (by decide) (by rfl) (pa_cons (pv 0) (pa_cons pe_int pa_nil))))
  (pss_cons (ps_if (pt_cmpR op_lt (pe_c c__law_take hr (by decide) (by rfl) (pa_cons (pv 0) (pa_cons pe_int pa_nil))) pe_int (nomark _))
  (pss_cons (ps_set (i := 5) sc.nd rfl (.inl rfl) (pe_tup (pa_cons (pe_c c__law_number hr (by decide) (by rfl) (pa_cons (pv 0) (pa_cons (pv 2) pa_nil))) (pa_cons (pe_c c__law_parcel hr (by decide) (by rfl) (pa_cons (pv 0) (pa_cons (pv 3) pa_nil))) pa_nil))))
  (C8.pss_cut (ps_set (i := 6) sc.nd rfl (.inl rfl) (pe_ifExp (pt_cmpR op_eq (pv 4) pe_int (nomark _)) (pe_m (pv 1) cl m_put hr (by decide) (pa_cons (pe_ix ix_tup (pv 5) pe_int (fun _ _ => rfl)) (pa_cons (pe_ix ix_tup (pv 5) pe_int (fun _ _ => rfl)) pa_nil))) (pe_mK (pv 1) cl k_put hr (by decide) (pk_cons (pe_ix ix_tup (pv 5) pe_int (fun _ _ => rfl)) (pk_cons (pe_ix ix_tup (pv 5) pe_int (fun _ _ => rfl)) pk_nil)))))
  (pss_cons (ps_expr (pe_bm PySem.F.plainAttrs_list PySem.F.slot_list_append PySem.F.type_list_append mt_append (pv 2) (pa_cons (pv 5) pa_nil)))
  (pss_one (ps_ret (pe_cmpR op_isN (pv 6) pe_non (nomark _)))))))
  pss_nil)
  (pss_cons (ps_set (i := 7) sc.nd rfl (.inl rfl) (pe_ix ix_list (pe_lst (pa_cons pe_int (pa_cons (pe_c c__law_number hr (by decide) (by rfl) (pa_cons (pv 0) (pa_cons (pv 2) pa_nil))) (pa_cons (pe_op op_pow pe_int pe_int) pa_nil)))) (pe_op op_fdivW (pe_c c__law_take hr (by decide) (by rfl) (pa_cons (pv 0) (pa_cons pe_int pa_nil))) pe_int) (fun _ _ => rfl)))
  (pss_one (ps_ret (pe_cG g__law_taken hg hr (by decide) (by rfl) (pa_cons (pv 1) (pa_cons (pv 2) (pa_cons (pv 7) (pa_cons (pv 4) pa_nil)))))))))), ?_⟩
    have hrg : ∀ r ∈ Kk, 0 ≤ r.1 ∧ r.1 ≤ B := fun r mr => ⟨(hP.ok r mr).lo, (hP.ok r mr).hi⟩
    have nap : a ≠ p := fun z => by
      obtain ⟨dx, e⟩ := hP.sh.ob
      obtain ⟨x, y, e2, _⟩ := hp
      rw [z, e2] at e
      cases e
    have lT : T.length = Kk.length := hP.std.len
    have mem1 : ∀ {x : Addr}, x ≠ p → x ∉ [p] := fun n z => n (List.mem_singleton.mp z)
    refine ⟨_, rfl, p, 2, rfl, hp, by decide, by decide, fun way H1 w0 w1 r1 => ?_⟩
    refine ⟨_, rfl, p, 5, rfl, r1.pot, by decide, by decide, fun d H2 d0 d1 r2 => ⟨_, _, rfl, rfl, _, rfl, ite2 (fun cc => ?_) (fun cc => ?_)⟩⟩
    · have r2 := r1.trans r2
      have hP2 : Pair C H2 a l k T Kk B := hP.kp r2.kp hp.ls (mem1 nap) (mem1 npl.symm) (mem1 npk.symm)
      refine ⟨_, rfl, _, rfl, p, k, Kk, B, rfl, r2.pot, npk.symm, hP2.rw, by omega, hrg, hB0, fun n H3 n0 n1 r3 => ?_⟩
      have r3 := r2.trans r3
      refine ⟨_, rfl, _, rfl, p, c, zs, rfl, r3.pot, ncp, r3.keep _ _ ncp ec, z0, z1, hz, fun v t H4 r4 hv ht => ?_⟩
      have r4' := r3.trans r4
      refine ⟨(by show 2 ≤ sizeLine; decide), fun u nu => ?_⟩
      have r5 := r4'.new (o := .tup [.int n, v]) nu
      have hP5 : Pair C (upd H4 u (.tup [.int n, v])) a l k T Kk B := hP.kp r5.kp hp.ls (mem1 nap) (mem1 npl.symm) (mem1 npk.symm)
      have hv5 : Im (upd H4 u (.tup [.int n, v])) v t.data := hv.same (same_new nu)
      have eu : (upd H4 u (.tup [.int n, v])) u = some (.tup [.int n, v]) := upd_same
      generalize upd H4 u (.tup [.int n, v]) = H5 at r5 hP5 hv5 eu
      obtain ⟨dx, eo⟩ := hP5.sh.ob
      have okr : OkRow (B + 1) (n, t.data) := ⟨n0, n1, t, ht, rfl⟩
      have nul : u ≠ l := fun z => by
        obtain ⟨xs, e, _⟩ := hP5.sh.rows.ex
        rw [← z, eu] at e
        cases e
      have key : spPutS C [.ref a, .int n, v] H5 (fun x H6 => [some (.ref p), some (.ref a), some (.ref k), some (.ref c), some (.int way), some (.ref u), some x, none] = [some (.ref p), some (.ref a), some (.ref k), some (.ref c), some (.int way), some (.ref u), some (.non : V), (none : Option V)] ∧ Kp [l] H5 H6 ∧ ShelfAt C H6 a l (put1 (n, t.data) T)) C8.E0 := ⟨a, l, T, n, v, t.data, rfl, hP5.sh, by omega, hv5, fun H6 k6 s6 => ⟨rfl, k6, s6⟩⟩
      refine ⟨fun σ' H6 => σ' = [some (.ref p), some (.ref a), some (.ref k), some (.ref c), some (.int way), some (.ref u), some .non, none] ∧ Kp [l] H5 H6 ∧ ShelfAt C H6 a l (put1 (n, t.data) T), ?_, ?_⟩
      · refine ⟨_, rfl, rfl, _, rfl, ite2 (fun c2 => ?_) (fun c2 => ?_)⟩
        · exact ⟨_, rfl, a, dx, _, rfl, eo, rfl, _, rfl, u, _, 0, _, rfl, rfl, SqT.of eu, atI_nat (j := 0) rfl, _, rfl, u, _, 1, _, rfl, rfl, SqT.of eu, atI_nat (j := 1) rfl, key⟩
        · exact ⟨_, rfl, a, dx, _, rfl, eo, rfl, _, rfl, u, _, 1, _, rfl, rfl, SqT.of eu, atI_nat (j := 1) rfl, _, rfl, u, _, 0, _, rfl, rfl, SqT.of eu, atI_nat (j := 0) rfl, rfl, key⟩
      · rintro σ' H6 ⟨rfl, k6, s6⟩
        have nkl : k ∉ [l] := fun z => hP.ne (List.mem_singleton.mp z).symm
        have ts6 : Ts H5 H6 := k6.ts hP5.sh.rows.ls
        have hrk : RowsL H6 k Kk := hP5.rw.kp k6 nkl hP5.sh.rows.ls
        obtain ⟨xs, ek, hx⟩ := hrk.ex
        have eu6 := ts6 _ _ eu
        refine ⟨_, rfl, .inl ⟨rfl, _, SqL.of ek⟩, _, rfl, k, xs, _, rfl, rfl, ek, small1000 (by rw [hx.len]; omega), _, rfl, rfl, ?_⟩
        have ts7 : Ts H6 (upd H6 k (.lst (xs ++ [.ref u]))) := fun b us e => by
          rw [upd_ne (fun z => by rw [z, ek] at e; cases e)]
          exact e
        have s7 : ShelfAt C (upd H6 k (.lst (xs ++ [.ref u]))) a l (put1 (n, t.data) T) := s6.keep (fun o e => by rw [upd_ne hP.nak]; exact e) (fun o e => by rw [upd_ne hP.ne]; exact e) ts7
        have r7 : RowsL (upd H6 k (.lst (xs ++ [.ref u]))) k (Kk ++ [(n, t.data)]) := ⟨_, upd_same, (hx.ts ts7).append (.cons (r := (n, t.data)) (ts7 _ _ eu6) ((hv5.ts ts6).ts ts7) .nil)⟩
        refine q _ _ _ (fun b o nb e => ?_) ?_ ⟨s7, r7, hP.std.put, hP.ne, fun r mr => ?_⟩ ?_
        · have n1 : b ≠ p := fun z => nb (by rw [z]; exact List.mem_cons_self)
          have n2 : b ≠ l := fun z => nb (by rw [z]; exact List.mem_cons_of_mem _ List.mem_cons_self)
          have n3 : b ≠ k := fun z => nb (by rw [z]; exact List.mem_cons_of_mem _ (List.mem_cons_of_mem _ List.mem_cons_self))
          rw [upd_ne n3]
          exact k6 b o (fun z => n2 (List.mem_singleton.mp z)) (r5.keep _ _ n1 e)
        · obtain ⟨x1, x2, e, z⟩ := r5.pot
          exact ⟨x1, x2, by rw [upd_ne npk]; exact k6 _ _ (fun z => npl (List.mem_singleton.mp z)) e, z⟩
        · rcases List.mem_append.mp mr with h | h
          · exact (hP.ok r h).mono (by omega)
          · rw [List.mem_singleton.mp h]
            exact okr
        · rw [List.length_append]
          exact Nat.le_refl _
    · have r2 := r1.trans r2
      have hP2 : Pair C H2 a l k T Kk B := hP.kp r2.kp hp.ls (mem1 nap) (mem1 npl.symm) (mem1 npk.symm)
      refine ⟨_, rfl, _, rfl, p, k, Kk, B, rfl, r2.pot, npk.symm, hP2.rw, by omega, hrg, hB0, fun n H3 n0 n1 r3 => ?_⟩
      have r3 := r2.trans r3
      refine ⟨_, _, rfl, rfl, ⟨by decide, by decide, by decide⟩, (by show 3 ≤ sizeLine; decide), fun S hS => ?_⟩
      have r4 := r3.new (o := .lst [.int 0, .int n, .int (10 ^ (28 : Int).toNat)]) hS
      have nSp : S ≠ p := r3.pot.ne hS
      refine ⟨_, rfl, p, 5, rfl, r4.pot, by decide, by decide, fun e H5 e0 e1 r5 => ?_⟩
      have r5' := r4.trans r5
      refine ⟨_, _, rfl, rfl, ⟨by decide, by decide⟩, ?_⟩
      obtain ⟨x, hxm, hx⟩ := at_some (xs := [V.int 0, .int n, .int (10 ^ (28 : Int).toNat)]) (d := e / 2) (by omega) (by show e / 2 < 3; omega)
      obtain ⟨h, rfl⟩ : ∃ h : Int, x = .int h := by
        simp only [List.mem_cons, List.not_mem_nil, or_false] at hxm
        rcases hxm with h | h | h
        · exact ⟨_, h⟩
        · exact ⟨_, h⟩
        · exact ⟨_, h⟩
      refine ⟨S, _, _, _, rfl, rfl, SqL.of (r5.keep _ _ nSp upd_same), hx, ?_⟩
      have hP5 : Pair C H5 a l k T Kk B := hP.kp r5'.kp hp.ls (mem1 nap) (mem1 npl.symm) (mem1 npk.symm)
      refine ⟨_, rfl, _, rfl, _, rfl, _, rfl, a, l, k, T, Kk, B, h, way, rfl, hP5, by omega, by omega, fun H6 T' K' k6 P6 l6 _ => ?_⟩
      refine q H6 T' K' (fun b o nb e => ?_) ?_ (P6.mono (by omega)) (by omega)
      · have n1 : b ≠ p := fun z => nb (by rw [z]; exact List.mem_cons_self)
        exact k6 b o (fun z => nb (List.mem_cons_of_mem _ z)) (r5'.keep _ _ n1 e)
      · obtain ⟨x1, x2, e, z⟩ := r5'.pot
        refine ⟨x1, x2, k6 _ _ (fun z => ?_) e, z⟩
        rcases List.mem_cons.mp z with h | h
        · exact npl h
        · exact npk (List.mem_singleton.mp h)
end
end Gj

/-! own layer: two shelves, a pot, making of objects -/
namespace Gj
open PySem PySem.Spec PyProof.Rows L2
open C8 (Cal pe_c pe_gc)
/-- C(): what the class's __init__ promises -/
def Mak (P : Program) (w : World) (K : PySem.W.Frag) (mg : Str → Option Value) (base : Heap) (k : Nat) (C : Addr) (x : Str) (sp : Sp) : Prop := ∃ f fd ps, Mk K C f ∧ FnOk P w K mg base CX0 k f fd ps sp ∧ mg x = some (.ref C) ∧ Binds K fd ps []
theorem pe_mk0 {X : Cx} {k j : Nat} {C : Addr} {x : Str} {sp : Sp} {p pos : Pos} (h : Mak X.prog X.w X.K X.mg X.base k C x sp) (hr : Room j X.A) (hk : k + 1 ≤ j) (hg : Gl X x) (hdb : (x == ("__debug__" : Str)) = false := by decide) : PE X (.Call (.Name x p) [] [] pos) (tMake C sp [] C8.E0 tNil) := by
  obtain ⟨f, fd, ps, M, F, hm, hb⟩ := h
  exact pe_make0 M F (hr.mono hk) hg hm hb .nil pass0 hdb
theorem mkShelf {C : Addr} {σ : L2.St} {H : Hp} {Q : VK} (q : ∀ (a l : Addr) (H' : Hp), H a = none → H l = none → a ≠ l → Same H H' → ShelfAt C H' a l [] → Q (.ref a) H') : tMake C (spInitS C) [] C8.E0 tNil σ H Q := by
  intro a dx na ndx nad
  have ea : (upd (upd H dx (.own a)) a (.ins C dx [])) a = some (.ins C dx []) := upd_same
  refine ⟨a, dx, rfl, ea, fun l H' nl kp hs => ⟨rfl, ?_⟩⟩
  have nal : a ≠ l := ne_of_none ea nl
  have nl2 : H l = none := by
    cases e : H l with
    | none => rfl
    | some o =>
      rw [upd_ne nal.symm, upd_ne (ne_of_none e ndx), e] at nl
      cases nl
  refine q a l H' na nl2 nal (fun b o e => ?_) hs
  have nb : b ≠ a := ne_of_none e na
  exact kp b o (fun z => nb (List.mem_singleton.mp z)) (by rw [upd_ne nb, upd_ne (ne_of_none e ndx)]; exact e)
abbrev B0 : Int := 1000000000000000000000000002
structure Stat (H0 : Hp) (p s r c a1 l1 k1 a2 l2 k2 : Addr) (zs : List Str) : Prop where
  es : H0 s = some (.lst [.ref a1, .ref a2])
  er : H0 r = some (.lst [.ref k1, .ref k2])
  ec : H0 c = some (.lst (zs.map V.str))
  z0 : 0 < zs.length
  z1 : zs.length ≤ 100
  hz : ∀ z ∈ zs, NameS z
  nd : [p, l1, k1, l2, k2].Nodup
  off : ∀ x ∈ [s, r, c, a1, a2], x ∉ [p, l1, k1, l2, k2]
def Dyn (C : Addr) (H0 : Hp) (p a1 l1 k1 a2 l2 k2 : Addr) (n : Nat) (H : Hp) : Prop := ∃ T1 K1 T2 K2, Kp [p, l1, k1, l2, k2] H0 H ∧ Pot H p ∧ Pair C H a1 l1 k1 T1 K1 (B0 + n) ∧ Pair C H a2 l2 k2 T2 K2 (B0 + n) ∧ K1.length ≤ n ∧ K2.length ≤ n
section
variable {C : Addr} {H0 H H' : Hp} {p s r c a1 l1 k1 a2 l2 k2 : Addr} {zs : List Str} {n : Nat} {Q : VK} {E : XK}
theorem Dyn.same (h : Dyn C H0 p a1 l1 k1 a2 l2 k2 n H) (sm : Same H H') : Dyn C H0 p a1 l1 k1 a2 l2 k2 n H' := by
  obtain ⟨T1, K1, T2, K2, h1, h2, h3, h4, h5⟩ := h
  exact ⟨T1, K1, T2, K2, h1.trans (Same.kp sm), h2.same sm, h3.same sm, h4.same sm, h5⟩
theorem Dyn.drawn (st : Stat H0 p s r c a1 l1 k1 a2 l2 k2 zs) (h : Dyn C H0 p a1 l1 k1 a2 l2 k2 n H) (d : Drawn p H H') : Dyn C H0 p a1 l1 k1 a2 l2 k2 n H' := by
  obtain ⟨T1, K1, T2, K2, h1, h2, h3, h4, h5⟩ := h
  have nd := st.nd
  have o1 := st.off a1 (by simp)
  have o2 := st.off a2 (by simp)
  simp only [List.nodup_cons, List.mem_cons, List.not_mem_nil, or_false, not_or] at nd o1 o2
  refine ⟨T1, K1, T2, K2, h1.trans (d.kp.mono (by simp)), d.pot, h3.kp d.kp h2.ls ?_ ?_ ?_, h4.kp d.kp h2.ls ?_ ?_ ?_, h5⟩ <;> simp only [List.mem_singleton]
  · exact o1.1
  · exact Ne.symm nd.1.1
  · exact Ne.symm nd.1.2.1
  · exact o2.1
  · exact Ne.symm nd.1.2.2.1
  · exact Ne.symm nd.1.2.2.2
theorem Dyn.swap1 (st : Stat H0 p s r c a1 l1 k1 a2 l2 k2 zs) (h : Dyn C H0 p a1 l1 k1 a2 l2 k2 n H) {m : Nat} {S : List Addr} (hS : S = [l1, k1] ∨ S = [p, l1, k1]) (kp : Kp S H H') (hp : Pot H' p) {T K : List Row} (hP : Pair C H' a1 l1 k1 T K (B0 + m)) (hl : K.length ≤ m) (hm : n ≤ m) : Dyn C H0 p a1 l1 k1 a2 l2 k2 m H' := by
  obtain ⟨T1, K1, T2, K2, h1, h2, h3, h4, h5, h6⟩ := h
  have nd := st.nd
  have o2 := st.off a2 (by simp)
  simp only [List.nodup_cons, List.mem_cons, List.not_mem_nil, or_false, not_or] at nd o2
  have kp3 : Kp [p, l1, k1] H H' := by
    rcases hS with rfl | rfl
    · exact kp.mono fun x h => List.mem_cons_of_mem _ h
    · exact kp
  have ls : Ls [p, l1, k1] H := Ls.append (S := [p]) (U := [l1, k1]) h2.ls h3.ls
  refine ⟨T, K, T2, K2, h1.trans (kp3.mono (by intro x hx; simp only [List.mem_cons, List.not_mem_nil, or_false] at hx ⊢; rcases hx with h | h | h <;> simp [h])), hp, hP, (h4.kp kp3 ls ?_ ?_ ?_).mono (by omega), hl, by omega⟩ <;> simp only [List.mem_cons, List.not_mem_nil, or_false, not_or]
  · exact ⟨o2.1, o2.2.1, o2.2.2.1⟩
  · exact ⟨Ne.symm nd.1.2.2.1, Ne.symm nd.2.1.2.1, Ne.symm nd.2.2.1.1⟩
  · exact ⟨Ne.symm nd.1.2.2.2, Ne.symm nd.2.1.2.2, Ne.symm nd.2.2.1.2⟩
theorem Dyn.swap2 (st : Stat H0 p s r c a1 l1 k1 a2 l2 k2 zs) (h : Dyn C H0 p a1 l1 k1 a2 l2 k2 n H) {m : Nat} {S : List Addr} (hS : S = [l2, k2] ∨ S = [p, l2, k2]) (kp : Kp S H H') (hp : Pot H' p) {T K : List Row} (hP : Pair C H' a2 l2 k2 T K (B0 + m)) (hl : K.length ≤ m) (hm : n ≤ m) : Dyn C H0 p a1 l1 k1 a2 l2 k2 m H' := by
  obtain ⟨T1, K1, T2, K2, h1, h2, h3, h4, h5, h6⟩ := h
  have nd := st.nd
  have o1 := st.off a1 (by simp)
  simp only [List.nodup_cons, List.mem_cons, List.not_mem_nil, or_false, not_or] at nd o1
  have kp3 : Kp [p, l2, k2] H H' := by
    rcases hS with rfl | rfl
    · exact kp.mono fun x h => List.mem_cons_of_mem _ h
    · exact kp
  have ls : Ls [p, l2, k2] H := Ls.append (S := [p]) (U := [l2, k2]) h2.ls h4.ls
  refine ⟨T1, K1, T, K, h1.trans (kp3.mono (by intro x hx; simp only [List.mem_cons, List.not_mem_nil, or_false] at hx ⊢; rcases hx with h | h | h <;> simp [h])), hp, (h3.kp kp3 ls ?_ ?_ ?_).mono (by omega), hP, by omega, hl⟩ <;> simp only [List.mem_cons, List.not_mem_nil, or_false, not_or]
  · exact ⟨o1.1, o1.2.2.2.1, o1.2.2.2.2⟩
  · exact ⟨Ne.symm nd.1.1, nd.2.1.2.1, nd.2.1.2.2⟩
  · exact ⟨Ne.symm nd.1.2.1, nd.2.2.1.1, nd.2.2.1.2⟩
theorem Dyn.at (st : Stat H0 p s r c a1 l1 k1 a2 l2 k2 zs) (h : Dyn C H0 p a1 l1 k1 a2 l2 k2 n H) {x : Addr} {o : HO} (hx : x ∈ [s, r, c, a1, a2]) (e : H0 x = some o) : H x = some o := by
  obtain ⟨T1, K1, T2, K2, h1, _⟩ := h
  exact h1 x o (st.off x hx) e
theorem Dyn.pot (h : Dyn C H0 p a1 l1 k1 a2 l2 k2 n H) : Pot H p := by
  obtain ⟨T1, K1, T2, K2, h1, h2, _⟩ := h
  exact h2
theorem Dyn.deed (st : Stat H0 p s r c a1 l1 k1 a2 l2 k2 zs) (h : Dyn C H0 p a1 l1 k1 a2 l2 k2 n H) (hn : n < 100) {x y : V} {d : Nat} (hx : [V.ref a1, V.ref a2][d]? = some x) (hy : [V.ref k1, V.ref k2][d]? = some y) (q : ∀ H', Dyn C H0 p a1 l1 k1 a2 l2 k2 (n + 1) H' → Q (.bl true) H') : spLDeed C [.ref p, x, y, .ref c] H Q E := by
  have h0 := h
  obtain ⟨T1, K1, T2, K2, h1, h2, h3, h4, h5, h6⟩ := h
  have nd := st.nd
  have oc := st.off c (by simp)
  have ec := h0.at st (x := c) (by simp) st.ec
  simp only [List.nodup_cons, List.mem_cons, List.not_mem_nil, or_false, not_or] at nd oc
  have e1 : B0 + (n : Int) + 1 = B0 + ((n + 1 : Nat) : Int) := by omega
  have b1 : B0 + (n : Int) + 1 ≤ most := by unfold B0 most; omega
  match d, hx, hy with
  | 0, hx, hy =>
    obtain rfl : V.ref a1 = x := Option.some.inj hx
    obtain rfl : V.ref k1 = y := Option.some.inj hy
    refine ⟨p, a1, l1, k1, c, T1, K1, B0 + n, zs, rfl, h2, h3, by unfold B0; omega, b1, by omega, nd.1.1, nd.1.2.1, oc.1, ec, st.z0, st.z1, st.hz, fun H' T' K' kp hp hP hl => q H' ?_⟩
    rw [e1] at hP
    exact h0.swap1 st (.inr rfl) kp hp hP (by omega) (by omega)
  | 1, hx, hy =>
    obtain rfl : V.ref a2 = x := Option.some.inj hx
    obtain rfl : V.ref k2 = y := Option.some.inj hy
    refine ⟨p, a2, l2, k2, c, T2, K2, B0 + n, zs, rfl, h2, h4, by unfold B0; omega, b1, by omega, nd.1.2.2.1, nd.1.2.2.2, oc.1, ec, st.z0, st.z1, st.hz, fun H' T' K' kp hp hP hl => q H' ?_⟩
    rw [e1] at hP
    exact h0.swap2 st (.inr rfl) kp hp hP (by omega) (by omega)
theorem Dyn.both (st : Stat H0 p s r c a1 l1 k1 a2 l2 k2 zs) (h : Dyn C H0 p a1 l1 k1 a2 l2 k2 n H) (hn : n ≤ 100) (q : ∀ H', Same H H' → Q (.bl true) H') : spLBoth C [.ref s, .ref r] H Q E := by
  have h0 := h
  obtain ⟨T1, K1, T2, K2, h1, h2, h3, h4, h5, h6⟩ := h
  exact ⟨s, r, a1, a2, l1, l2, k1, k2, T1, T2, K1, K2, B0 + n, rfl, h0.at st (by simp) st.es, h0.at st (by simp) st.er, h3, h4, by unfold B0 most; omega, by omega, by omega, q⟩
/-- one of the two -/
theorem Dyn.one (st : Stat H0 p s r c a1 l1 k1 a2 l2 k2 zs) (h : Dyn C H0 p a1 l1 k1 a2 l2 k2 n H) {x y : V} {d : Nat} (hx : [V.ref a1, V.ref a2][d]? = some x) (hy : [V.ref k1, V.ref k2][d]? = some y) :
    ∃ a l k T K, x = .ref a ∧ y = .ref k ∧ Pair C H a l k T K (B0 + n) ∧ K.length ≤ n ∧ p ∉ [l, k] ∧ ∀ H' T' K', Kp [l, k] H H' → Pair C H' a l k T' K' (B0 + n) → K'.length ≤ n → Dyn C H0 p a1 l1 k1 a2 l2 k2 n H' := by
  have h0 := h
  obtain ⟨T1, K1, T2, K2, h1, h2, h3, h4, h5, h6⟩ := h
  have nd := st.nd
  simp only [List.nodup_cons, List.mem_cons, List.not_mem_nil, or_false, not_or] at nd
  have pt : ∀ {l k : Addr} {H' : Hp}, p ∉ [l, k] → Kp [l, k] H H' → Pot H' p := fun n kp => by
    obtain ⟨x, y, e, z⟩ := h2
    exact ⟨x, y, kp _ _ n e, z⟩
  match d, hx, hy with
  | 0, hx, hy =>
    obtain rfl : V.ref a1 = x := Option.some.inj hx
    obtain rfl : V.ref k1 = y := Option.some.inj hy
    have np : p ∉ [l1, k1] := by simp only [List.mem_cons, List.not_mem_nil, or_false, not_or]; exact ⟨nd.1.1, nd.1.2.1⟩
    exact ⟨a1, l1, k1, T1, K1, rfl, rfl, h3, h5, np, fun H' T' K' kp hP hl => h0.swap1 st (.inl rfl) kp (pt np kp) hP hl (Nat.le_refl _)⟩
  | 1, hx, hy =>
    obtain rfl : V.ref a2 = x := Option.some.inj hx
    obtain rfl : V.ref k2 = y := Option.some.inj hy
    have np : p ∉ [l2, k2] := by simp only [List.mem_cons, List.not_mem_nil, or_false, not_or]; exact ⟨nd.1.2.2.1, nd.1.2.2.2⟩
    exact ⟨a2, l2, k2, T2, K2, rfl, rfl, h4, h6, np, fun H' T' K' kp hP hl => h0.swap2 st (.inl rfl) kp (pt np kp) hP hl (Nat.le_refl _)⟩
/-- what stood ahead of all of them stands -/
theorem Dyn.back {H1 : Hp} (h : Dyn C H0 p a1 l1 k1 a2 l2 k2 n H) (s0 : Same H1 H0) (f : ∀ x ∈ [p, l1, k1, l2, k2], H1 x = none) : Same H1 H := fun b o e => by
  obtain ⟨T1, K1, T2, K2, h1, _⟩ := h
  exact h1 b o (fun z => by rw [f b z] at e; cases e) (s0 _ _ e)
end
end Gj
namespace Gj
open PySem PySem.Spec PyProof.Rows L2
theorem par2E {σ : L2.St} {H : Hp} {D : Ends} {u : TS} {i j : Nat} {t1 t2 : TE} {ta : TA} (h : t1 σ H (fun v1 H1 => t2 σ H1 (fun v2 H2 => tPar i j (tCons (tLst (fun _ _ R => R [v1, v2] H2)) ta) { D with nx := u D } σ H2))) : tSeq (tPar i j (tCons (tLst (tCons t1 (tCons t2 tNil))) ta)) u D σ H := h
end Gj

namespace Gj
open PySem PySem.Spec PyProof.Rows L2
open C8 (Cal pe_c pe_gc)
theorem gNameE {i : Nat} {v : V} {σ : L2.St} {H : Hp} {Q : L2.St → Hp → Prop} (h : Q (σ.set i (some v)) H) : gName i v σ H Q := h
theorem ifN1 {σ : L2.St} {H : Hp} {tc : TT} {t : TS} {D : Ends} (h : SayT tc σ H false) (h2 : ∀ H', Same H H' → D.nx σ H') : tIfS tc t tNext D σ H := h _ fun H' s => iteF (h2 H' s)
def spLaw (K : PySem.W.Frag) : Sp := fun vs H Q _ => ∃ (a : Addr) (ns : List Int), vs = [.ref a] ∧ SqL K H a (ns.map V.int) ∧ ns.length ≤ 63 ∧ ∀ H', Q (.bl true) H'
section
variable {P : Program} {w : World} {K : PySem.W.Frag} {mg : Str → Option Value} {base : Heap} {C : Addr}
theorem sc_law : FnScope ["_law_script", "_law_k", "_law_pot_here", "_law_names_here", "_law_shelves", "_law_rows", "_law_turn", "_law_at", "_law_one", "_law_kept"] ["_law_script"] (defScope (topS 17)) := ⟨rfl, rfl, rfl, by decide +kernel, rfl, by decide +kernel, by decide +kernel⟩
theorem ok_law {f : Addr} {fd : FuncData} (F : Fun K "law" "law" (topS 17) f fd) (m : Mg mg) (cl : Cls K C) (nk : NoAttr K C "kept") (c__law_pot : Cal P w K mg base 1 "_law_pot" (spPot K) []) (c__law_take : Cal P w K mg base 1 "_law_take" spTake []) (c__law_names : Cal P w K mg base 3 "_law_names" spNames []) (g__law_deed_right : CalG P w K mg base 4 "_law_deed_right" (spLDeed C)) (g__law_both : CalG P w K mg base 4 "_law_both" (spLBoth C)) (g__law_stands : CalG P w K mg base 3 "_law_stands" (spLStands C)) (g__law_taken : CalG P w K mg base 3 "_law_taken" (spLTaken C)) (m_told : Mth P w K mg base 1 C "told" (spToldS C) []) (m_len : Mth P w K mg base 1 C "__len__" (spLenS C) []) (mk_Shelf : Mak P w K mg base 1 C "Shelf" (spInitS C)) : FnG P w K mg base CX0 5 f fd ["_law_script"] (spLaw K) := by
  have sc := sc_law
  refine fnGn F sc (fun vs H Q E h => ?_) (fun cdv A outer s H vs Q E hg hr h => ?_)
  · obtain ⟨x, z, rfl, _⟩ := h
    rfl
  · obtain ⟨a, ns, rfl, hS, hlen, q⟩ := h
    refine ⟨_, (pss_cons (ps_for PassesOwn.never rfl (pi_range1 (by rfl) m.range (pa_cons (pe_callB (call_max2 rfl) (by rfl) m.max (by decide +kernel) (pa_cons pe_int (pa_cons (pe_callB (call_min2 rfl) (by rfl) m.min (by decide +kernel) (pa_cons pe_int (pa_cons (pe_callB call_len (by rfl) m.len (by decide +kernel) (pa_cons (pv 0) pa_nil)) pa_nil))) pa_nil))) pa_nil)) (pg_name (i := 1) sc.nd rfl (.inl rfl))
  (pss_cons (ps_set (i := 2) sc.nd rfl (.inl rfl) (pe_c c__law_pot hr (by decide) (by rfl) (pa_cons (pv 0) (pa_cons (pv 1) pa_nil))))
  (pss_cons (ps_set (i := 3) sc.nd rfl (.inl rfl) (pe_c c__law_names hr (by decide) (by rfl) (pa_cons (pv 2) (pa_cons pe_int (pa_cons (pe_lst pa_nil) pa_nil)))))
  (pss_cons (ps_par (by rfl) (i := 4) (j := 5) sc.nd rfl rfl (by decide) rfl rfl (pa_cons (pe_lst (pa_cons (pe_mk0 mk_Shelf hr (by decide) (by rfl)) (pa_cons (pe_mk0 mk_Shelf hr (by decide) (by rfl)) pa_nil))) (pa_cons (pe_lst (pa_cons (pe_lst pa_nil) (pa_cons (pe_lst pa_nil) pa_nil))) pa_nil)) (by rfl))
  (pss_cons (ps_for PassesOwn.never rfl (pi_range1 (by rfl) m.range (pa_cons (pe_ix ix_list (pe_lst (pa_cons pe_int (pa_cons pe_int (pa_cons pe_int pa_nil)))) (pe_c c__law_take hr (by decide) (by rfl) (pa_cons (pv 2) (pa_cons pe_int pa_nil))) (fun _ _ => rfl)) pa_nil)) (pg_name (i := 6) sc.nd rfl (.inl rfl))
  (pss_cons (ps_set (i := 7) sc.nd rfl (.inl rfl) (pe_c c__law_take hr (by decide) (by rfl) (pa_cons (pv 2) (pa_cons pe_int pa_nil))))
  (pss_cons (ps_if (pt_not (pt_val (pe_cG g__law_deed_right hg hr (by decide) (by rfl) (pa_cons (pv 2) (pa_cons (pe_ix ix_list (pv 4) (pv 7) (fun _ _ => rfl)) (pa_cons (pe_ix ix_list (pv 5) (pv 7) (fun _ _ => rfl)) (pa_cons (pv 3) pa_nil)))))))
  (pss_one (ps_ret pe_bl))
  pss_nil)
  (pss_one (ps_if (PW.pt (pw_and (pt_cmpR op_gt (pe_c c__law_take hr (by decide) (by rfl) (pa_cons (pv 2) (pa_cons pe_int pa_nil))) pe_int (nomark _)) (pw_and1 (pt_not (pt_val (pe_cG g__law_both hg hr (by decide) (by rfl) (pa_cons (pv 4) (pa_cons (pv 5) pa_nil))))))))
  (pss_one (ps_ret pe_bl))
  pss_nil)))))
  (pss_one (ps_for PassesOwn.never rfl (pi_zip (by rfl) m.zip (pa_cons (pv 4) (pa_cons (pv 5) pa_nil))) (pg_tup (by rfl) (pgs_cons (pg_name (i := 8) sc.nd rfl (.inl rfl)) (pgs_cons (pg_name (i := 9) sc.nd rfl (.inl rfl)) pgs_nil)))
  (pss_cons (ps_if (pt_not (pt_val (pe_cG g__law_stands hg hr (by decide) (by rfl) (pa_cons (pv 8) (pa_cons (pv 9) pa_nil)))))
  (pss_one (ps_ret pe_bl))
  pss_nil)
  (pss_cons (ps_for PassesOwn.never rfl (pi_range1 (by rfl) m.range (pa_cons (pe_op op_add (pe_callB call_len (by rfl) m.len (by decide +kernel) (pa_cons (pv 9) pa_nil)) pe_int) pa_nil)) (pg_name (i := 6) sc.nd rfl (.inl rfl))
  (pss_one (ps_if (pt_not (pt_val (pe_cG g__law_taken hg hr (by decide) (by rfl) (pa_cons (pv 8) (pa_cons (pv 9) (pa_cons pe_int (pa_cons (pv 6) pa_nil)))))))
  (pss_one (ps_ret pe_bl))
  pss_nil)))
  (pss_one (ps_if (PW.pt (pw_or (pt_cmpR op_ne (pe_callB (call_lenO m_len hr (by decide)) (by rfl) m.len (by decide +kernel) (pa_cons (pv 8) pa_nil)) pe_int (nomark _)) (pw_or1 (pt_cmpR (op_neD hr.units) (pe_m0 (pv 8) cl m_told hr (by decide)) (pe_lst pa_nil) (nomark _)))))
  (pss_one (ps_ret pe_bl))
  pss_nil)))))))))))
  (pss_one (ps_ret pe_bl))), ?_⟩
    obtain ⟨N, hN, hN2⟩ : ∃ N : Int, (if (if ((ns.map V.int).length : Int) < 6 then ((ns.map V.int).length : Int) else 6) > 1 then (if ((ns.map V.int).length : Int) < 6 then ((ns.map V.int).length : Int) else 6) else 1) = N ∧ 0 ≤ N ∧ N ≤ 1000 := by
      refine ⟨_, rfl, ?_, ?_⟩ <;> split <;> (try split) <;> omega
    refine ⟨_, rfl, _, _, rfl, .inl ⟨_, hS, rfl⟩, _, _, rfl, _, _, rfl, N, by rw [← hN], by omega, by omega, ?_⟩
    refine for_range (fun i σ H' => ∃ y1 y2 y3 y4 y5 y6 y7 y8 y9, σ = [some (.ref a), y1, y2, y3, y4, y5, y6, y7, y8, y9] ∧ Same H H') ⟨_, _, _, _, _, _, _, _, _, rfl, Same.refl H⟩ (fun i σ H1 hi hp => ?_) (fun σ H1 hp => ?_)
    · obtain ⟨y1, y2, y3, y4, y5, y6, y7, y8, y9, rfl, sm⟩ := hp
      refine gNameE ?_
      dsimp only
      refine setE ?_
      refine ⟨_, rfl, _, rfl, a, ns, _, rfl, sm.seq hS, by omega, by omega, fun p H2 np s2 hp => ?_⟩
      dsimp only
      refine setE ?_
      refine ⟨_, rfl, (by show 0 ≤ sizeLine; decide), fun u nu => ⟨p, u, [], 3, rfl, hp.new nu, hp.ne nu, upd_same, (fun _ h => by cases h), by decide, fun c zs H3 nc ncp lz hz _ _ r3 e_c => ?_⟩⟩
      have hp3 := r3.pot
      obtain ⟨x1, x2, e_p, _⟩ := hp3
      have sm13 : Same H1 H3 := fun b o e => r3.keep _ _ (fun z => by rw [z, np] at e; cases e) (same_new nu _ _ (s2 _ _ e))
      dsimp only
      refine par2E ?_
      refine mkShelf fun a1 l1 H4 n_a1 n_l1 n1 sm34 sh1 => ?_
      refine mkShelf fun a2 l2 H5 n_a2 n_l2 n2 sm45 sh2 => ?_
      refine ⟨(by show 2 ≤ sizeLine; decide), fun s0 n_s0 => ?_⟩
      refine ⟨(by show 0 ≤ sizeLine; decide), fun k1 n_k1 => ?_⟩
      refine ⟨(by show 0 ≤ sizeLine; decide), fun k2 n_k2 => ?_⟩
      refine ⟨(by show 2 ≤ sizeLine; decide), fun r0 n_r0 => ?_⟩
      refine ⟨_, _, rfl, ?_⟩
      have sm56 : Same H5 (upd H5 s0 (.lst [.ref a1, .ref a2])) := same_new n_s0
      have e_s0 : (upd H5 s0 (.lst [.ref a1, .ref a2])) s0 = some (.lst [.ref a1, .ref a2]) := upd_same
      generalize upd H5 s0 (.lst [.ref a1, .ref a2]) = H6 at *
      have sm67 : Same H6 (upd H6 k1 (.lst [])) := same_new n_k1
      have e_k1 : (upd H6 k1 (.lst [])) k1 = some (.lst []) := upd_same
      generalize upd H6 k1 (.lst []) = H7 at *
      have sm78 : Same H7 (upd H7 k2 (.lst [])) := same_new n_k2
      have e_k2 : (upd H7 k2 (.lst [])) k2 = some (.lst []) := upd_same
      generalize upd H7 k2 (.lst []) = H8 at *
      have sm89 : Same H8 (upd H8 r0 (.lst [.ref k1, .ref k2])) := same_new n_r0
      have e_r0 : (upd H8 r0 (.lst [.ref k1, .ref k2])) r0 = some (.lst [.ref k1, .ref k2]) := upd_same
      generalize upd H8 r0 (.lst [.ref k1, .ref k2]) = H9 at *
      have sm35 := sm34.trans sm45
      have sm36 := sm35.trans sm56
      have sm37 := sm36.trans sm67
      have sm38 := sm37.trans sm78
      have sm39 := sm38.trans sm89
      have sm46 := sm45.trans sm56
      have sm47 := sm46.trans sm67
      have sm48 := sm47.trans sm78
      have sm49 := sm48.trans sm89
      have sm57 := sm56.trans sm67
      have sm58 := sm57.trans sm78
      have sm59 := sm58.trans sm89
      have sm68 := sm67.trans sm78
      have sm69 := sm68.trans sm89
      have sm79 := sm78.trans sm89
      obtain ⟨dx1, e_a1⟩ := sh1.ob
      obtain ⟨_, e_l1, _⟩ := sh1.rows.ex
      obtain ⟨dx2, e_a2⟩ := sh2.ob
      obtain ⟨_, e_l2, _⟩ := sh2.rows.ex
      have st : Stat H9 p s0 r0 c a1 l1 k1 a2 l2 k2 zs := by
        refine ⟨sm69 _ _ e_s0, e_r0, sm39 _ _ e_c, by omega, by omega, hz, ?_, fun x hx => ?_⟩
        · simp only [List.nodup_cons, List.mem_cons, List.not_mem_nil, or_false, not_or, List.nodup_nil, and_true, not_false_eq_true]
          exact ⟨⟨(ne_of_none e_p n_l1), (ne_of_none (sm36 _ _ e_p) n_k1), (ne_of_none (sm34 _ _ e_p) n_l2), (ne_of_none (sm37 _ _ e_p) n_k2)⟩, ⟨(ne_of_none (sm46 _ _ e_l1) n_k1), (ne_of_none e_l1 n_l2), (ne_of_none (sm47 _ _ e_l1) n_k2)⟩, ⟨(Ne.symm (ne_of_none (sm56 _ _ e_l2) n_k1)), (ne_of_none e_k1 n_k2)⟩, (ne_of_none (sm57 _ _ e_l2) n_k2)⟩
        · simp only [List.mem_cons, List.not_mem_nil, or_false] at hx
          simp only [List.mem_cons, List.not_mem_nil, or_false, not_or]
          rcases hx with rfl | rfl | rfl | rfl | rfl
          · exact ⟨(Ne.symm (ne_of_none (sm35 _ _ e_p) n_s0)), (Ne.symm (ne_of_none (sm45 _ _ e_l1) n_s0)), (ne_of_none e_s0 n_k1), (Ne.symm (ne_of_none e_l2 n_s0)), (ne_of_none (sm67 _ _ e_s0) n_k2)⟩
          · exact ⟨(Ne.symm (ne_of_none (sm38 _ _ e_p) n_r0)), (Ne.symm (ne_of_none (sm48 _ _ e_l1) n_r0)), (Ne.symm (ne_of_none (sm78 _ _ e_k1) n_r0)), (Ne.symm (ne_of_none (sm58 _ _ e_l2) n_r0)), (Ne.symm (ne_of_none e_k2 n_r0))⟩
          · exact ⟨ncp, (ne_of_none e_c n_l1), (ne_of_none (sm36 _ _ e_c) n_k1), (ne_of_none (sm34 _ _ e_c) n_l2), (ne_of_none (sm37 _ _ e_c) n_k2)⟩
          · exact ⟨(Ne.symm (ne_of_none e_p n_a1)), n1, (ne_of_none (sm46 _ _ e_a1) n_k1), (ne_of_none e_a1 n_l2), (ne_of_none (sm47 _ _ e_a1) n_k2)⟩
          · exact ⟨(Ne.symm (ne_of_none (sm34 _ _ e_p) n_a2)), (Ne.symm (ne_of_none e_l1 n_a2)), (ne_of_none (sm56 _ _ e_a2) n_k1), n2, (ne_of_none (sm57 _ _ e_a2) n_k2)⟩
      have pot9 : Pot H9 p := r3.pot.same sm39
      have dy0 : Dyn C H9 p a1 l1 k1 a2 l2 k2 0 H9 := ⟨[], [], [], [], Kp.refl, pot9, ⟨sh1.same sm49, ⟨[], sm79 _ _ e_k1, .nil⟩, Std.nil, (ne_of_none (sm46 _ _ e_l1) n_k1), (fun _ h => by cases h)⟩, ⟨sh2.same sm59, ⟨[], sm89 _ _ e_k2, .nil⟩, Std.nil, (ne_of_none (sm57 _ _ e_l2) n_k2), (fun _ h => by cases h)⟩, Nat.le_refl _, Nat.le_refl _⟩
      have frs : ∀ x ∈ [p, l1, k1, l2, k2], H1 x = none := fun x hx => by
        have bk : ∀ {Hn : Hp}, Same H1 Hn → Hn x = none → H1 x = none := fun s n => Evl.fresh_back s n
        simp only [List.mem_cons, List.not_mem_nil, or_false] at hx
        rcases hx with rfl | rfl | rfl | rfl | rfl
        · exact np
        · exact bk sm13 n_l1
        · exact bk (sm13.trans sm36) n_k1
        · exact bk (sm13.trans sm34) n_l2
        · exact bk (sm13.trans sm37) n_k2
      refine ⟨(by show 3 ≤ sizeLine; decide), fun L hL => ?_⟩
      refine ⟨_, rfl, p, 3, rfl, pot9.new hL, by decide, by decide, fun e H10 e0 e1 r10 => ?_⟩
      obtain ⟨x, hxm, hx⟩ := at_some (xs := [V.int 10, .int 30, .int 80]) e0 e1
      obtain ⟨M, rfl, hM⟩ : ∃ M : Nat, x = .int (M : Nat) ∧ M ≤ 80 := by
        simp only [List.mem_cons, List.not_mem_nil, or_false] at hxm
        rcases hxm with h | h | h
        · exact ⟨10, h, by decide⟩
        · exact ⟨30, h, by decide⟩
        · exact ⟨80, h, by decide⟩
      have dy10 : Dyn C H9 p a1 l1 k1 a2 l2 k2 0 H10 := Dyn.drawn st (dy0.same (same_new hL)) r10
      refine ⟨L, _, _, _, rfl, rfl, SqL.of (r10.keep _ _ (pot9.ne hL) upd_same), hx, _, rfl, by omega, by omega, ?_⟩
      refine for_range (fun j σ H' => ∃ y6 y7 y8 y9, σ = [some (.ref a), some (.int (0 + i)), some (.ref p), some (.ref c), some (.ref s0), some (.ref r0), y6, y7, y8, y9] ∧ Dyn C H9 p a1 l1 k1 a2 l2 k2 j H') ⟨_, _, _, _, rfl, dy10⟩ (fun j σ Hj hj hpj => ?_) (fun σ Hj hpj => ?_)
      · obtain ⟨z6, z7, z8, z9, rfl, dy⟩ := hpj
        have hj : j < M := by rw [Int.toNat_natCast] at hj; exact hj
        refine ⟨_, rfl, p, 2, rfl, dy.pot, by decide, by decide, fun d H11 d0 d1 r11 => ?_⟩
        have dy := dy.drawn st r11
        obtain ⟨d, rfl⟩ := Int.eq_ofNat_of_zero_le d0
        obtain ⟨x, hx⟩ : ∃ x, [V.ref a1, V.ref a2][d]? = some x := ⟨_, List.getElem?_eq_getElem (by show d < 2; omega)⟩
        obtain ⟨y, hy⟩ : ∃ y, [V.ref k1, V.ref k2][d]? = some y := ⟨_, List.getElem?_eq_getElem (by show d < 2; omega)⟩
        refine ⟨_, rfl, _, rfl, _, rfl, s0, _, _, _, rfl, rfl, SqL.of (dy.at st (by simp) st.es), atI_nat hx, _, rfl, _, rfl, r0, _, _, _, rfl, rfl, SqL.of (dy.at st (by simp) st.er), atI_nat hy, _, rfl, ?_⟩
        dsimp only [tNil, List.append_nil]
        refine dy.deed st (by omega) hx hy fun H12 dy => ?_
        refine ⟨true, rfl, iteF ?_⟩
        refine ⟨_, rfl, p, 3, rfl, dy.pot, by decide, by decide, fun d2 H13 d20 d21 r13 => ⟨_, _, rfl, rfl, _, rfl, ite2 (fun cc => ?_) (fun cc => ?_)⟩⟩
        · have dy := dy.drawn st r13
          refine ⟨_, rfl, _, rfl, ?_⟩
          dsimp only [tNil, List.append_nil]
          refine dy.both st (by omega) fun H14 s14 => ?_
          refine ⟨true, rfl, iteF ?_⟩
          exact ⟨_, _, _, _, rfl, dy.same s14⟩
        · exact ⟨_, _, _, _, rfl, dy.drawn st r13⟩
      · obtain ⟨z6, z7, z8, z9, rfl, dy⟩ := hpj
        rw [Int.toNat_natCast] at dy
        refine ⟨_, rfl, _, rfl, s0, r0, _, _, rfl, SqL.of (dy.at st (by simp) st.es), SqL.of (dy.at st (by simp) st.er), ?_⟩
        refine RZ.for_zipL (K := K) (xs := [.ref a1, .ref a2]) (ys := [.ref k1, .ref k2]) rfl (fun d σ H' => ∃ y6 y7 y8 y9, σ = [some (.ref a), some (.int (0 + i)), some (.ref p), some (.ref c), some (.ref s0), some (.ref r0), y6, y7, y8, y9] ∧ Dyn C H9 p a1 l1 k1 a2 l2 k2 M H') ⟨_, _, _, _, rfl, dy⟩ (fun d σ H' h => ?_) (fun d x y T σ Hd hx hy hpd nT => ?_) (fun σ Hd hpd => ?_)
        · obtain ⟨_, _, _, _, _, dy⟩ := h
          exact ⟨SqL.of (dy.at st (by simp) st.es), SqL.of (dy.at st (by simp) st.er)⟩
        · obtain ⟨z6, z7, z8, z9, rfl, dy⟩ := hpd
          have dy := dy.same (same_new (o := .tup [x, y]) nT)
          refine ⟨T, _, rfl, SqT.of upd_same, rfl, _, _, rfl, _, _, rfl, rfl, ?_⟩
          generalize upd Hd T (.tup [x, y]) = He at dy
          obtain ⟨b, l, k, T1, K1, rfl, rfl, hP, hl, _, fin⟩ := dy.one st hx hy
          have b2 : B0 + (M : Int) ≤ most := by unfold B0 most; omega
          refine ⟨_, rfl, _, rfl, b, l, k, T1, K1, _, rfl, hP, b2, by omega, fun H3' s3' => ⟨true, rfl, iteF ?_⟩⟩
          have hP3 := hP.same s3'
          obtain ⟨xs, ek, hrk⟩ := hP3.rw.ex
          have lk := hrk.len
          refine ⟨_, rfl, _, _, rfl, .inl ⟨_, SqL.of ek, rfl⟩, _, _, rfl, rfl, _, rfl, by omega, by omega, ?_⟩
          refine for_range (fun j σ H' => ∃ y6 T' K', σ = [some (.ref a), some (.int (0 + i)), some (.ref p), some (.ref c), some (.ref s0), some (.ref r0), y6, z7, some (.ref b), some (.ref k)] ∧ Kp [l, k] H3' H' ∧ Pair C H' b l k T' K' (B0 + M) ∧ K'.length ≤ K1.length ∧ (K' = [] ∨ K'.length + j ≤ xs.length)) ⟨_, T1, K1, rfl, Kp.refl, hP3, Nat.le_refl _, .inr (by omega)⟩ (fun j σ Hj hj hpj => ?_) (fun σ Hj hpj => ?_)
          · obtain ⟨w6, T', K', rfl, kp, hP', hl', hz'⟩ := hpj
            refine ⟨_, rfl, _, rfl, _, rfl, b, l, k, T', K', _, 0, _, rfl, hP', b2, by omega, fun H4' T4 K4 kp4 P4 l4 z4 => ⟨true, rfl, iteF ?_⟩⟩
            refine ⟨_, T4, K4, rfl, kp.trans kp4, P4, by omega, ?_⟩
            rcases z4 rfl with z | z
            · exact .inl z
            · rcases hz' with y | y
              · rw [y] at z
                exact absurd z (Nat.not_lt_zero _)
              · exact .inr (by omega)
          · obtain ⟨w6, T', K', rfl, kp, hP', hl', hz'⟩ := hpj
            have eK : K' = [] := by
              rcases hz' with z | z
              · exact z
              · omega
            subst eK
            have eT : T' = [] := List.length_eq_zero_iff.mp hP'.std.len
            subst eT
            dsimp only
            refine ifN1 (SayT.of (SayT.or (a := false) (b := false) ?_ fun _ H5' s5' => ?_) rfl) fun H5' s5' => ?_
            · exact Say.tTest (Say.of (SayI.ne (sayi_lenS (giv_var rfl) hP'.sh (by decide)) fun H' s => SayI.of giv_c) rfl)
            · exact Say.tTest (Say.of (IsD.ne (isd_toldS (giv_var rfl) (hP'.sh.same s5') (by decide)) (fun H' s => IsDs.lst IsDs.nil (Nat.zero_le _)) shaped_nil shaped_nil) rfl)
            · exact ⟨_, _, _, _, rfl, fin _ _ _ ((Same.kp s3').trans (kp.trans (Same.kp s5'))) (hP'.same s5') (Nat.zero_le _)⟩
        · obtain ⟨z6, z7, z8, z9, rfl, dy⟩ := hpd
          exact ⟨_, _, _, _, _, _, _, _, _, rfl, sm.trans (dy.back (sm13.trans sm39) frs)⟩
    · exact q _
end
end Gj

set_option maxHeartbeats 0
namespace Gj
open PySem PySem.Spec PyProof.Rows L2
open C8 (Cal pe_c pe_gc)
def dd (x : Str) (i : Nat) : He.DefD := ⟨(x, none), x, x, defArgs (topS i), defBody (topS i), defScope (topS i), [], []⟩
def ddm (C m q : Str) (st : Stmt) (kw : List (Str × V)) : He.DefD := ⟨(C, some m), m, q, defArgs st, defBody st, defScope st, [], kw.map fun z => (z.1, match z.2 with | .int i => .int i | .bl b => .bl b | .str x => .str x | _ => .non)⟩
def fn : List He.DefD := ([dd "_law_take" 5, dd "_law_pot" 4, dd "_law_pick" 6, dd "_law_name" 7, dd "_law_names" 8, dd "_law_parcel" 10, dd "_law_number" 11, dd "_law_told" 12, dd "_law_taken" 13, dd "_law_stands" 14] : List _) ++ ([dd "_law_both" 16, dd "_law_deed_right" 15, dd "law" 17, ddm "Shelf" "__init__" "Shelf.__init__" (inClass (topS 2) 0) [], ddm "Shelf" "put" "Shelf.put" (inClass (topS 2) 1) [], ddm "Shelf" "taken" "Shelf.taken" (inClass (topS 2) 2) [("height", .int 0)], ddm "Shelf" "told" "Shelf.told" (inClass (topS 2) 3) [], ddm "Shelf" "__len__" "Shelf.__len__" (inClass (topS 2) 6) []] : List _)
def fa : List He.Fa := ([.glo "_law_take", .glo "_law_pot", .glo "_law_pick", .glo "_law_name", .glo "_law_names", .glo "_law_parcel", .glo "_law_number", .glo "_law_told", .glo "_law_taken", .glo "_law_stands"] : List _) ++ ([.glo "_law_both", .glo "_law_deed_right", .glo "law", .free "len", .free "isinstance", .free "repr", .free "max", .free "min", .free "range", .free "list"] : List _) ++ ([.free "set", .free "sorted", .free "enumerate", .free "zip", .free "all", .free "divmod", .glo "Shelf", .cls "Shelf", .noat "Shelf" "kept", .meth "Shelf" "__init__"] : List _) ++ ([.meth "Shelf" "put", .meth "Shelf" "taken", .meth "Shelf" "told", .meth "Shelf" "__len__", .mkr "Shelf"] : List _)
def ex (K : PySem.W.Frag) : Bool := true
abbrev R : PySem.W.OpenRow := PySem.W.OpenLaw.row PySem.Challenge.rw_walkbox_k35_whole_shelves_by_numbers
abbrev hk : PySem.W.Hook := He.hookX 5 fa fn [] [] ex
def ob (s : PySem.W.SharedT) : He.AlX := He.obsX 5 fa fn [] [] ex (HandSHeadRun.getT s)
theorem ob_eq (s : PySem.W.SharedT) : ob s = hk.obs s.abs := He.obsX_eq (HandSHeadRun.getT_eq s)
def names : List Str := (["__name__", "_wall", "Shelf", "_law_pot", "_law_take", "_law_pick", "_law_name", "_law_names", "_law_ground", "_law_parcel", "_law_number", "_law_told"] : List Str) ++ (["_law_taken", "_law_stands", "_law_deed_right", "_law_both"] : List Str)
theorem run (w : World) : HandSHeadRun.RunEq R (PySem.W.view R.prog [17]) hk ob 4000 names w := by
  intro os
  kernel_rfl
theorem facts {P : Program} {w : World} {K : PySem.W.Frag} {h : Heap} {mg : Str → Option Value} {f : Addr} (X : K.In h) (G : h.Ns mainGlobals mg) (hfa : mg ("law" : Str) = some (.ref f)) (c : He.SaysX fa fn [] [] ex w h K) :
    ∃ fd : FuncData, (∀ (s : Shared) (v : Value), BindsTo s fd ⟨[v], []⟩ [("_law_script", v)]) ∧ ∀ base : Heap, K.In base → base.Ns mainGlobals mg → FnG P w K mg base CX0 5 f fd ["_law_script"] (spLaw K) := by
  obtain ⟨fd, F0⟩ := He.SaysD.defs c.t.d (d := dd "law" 17) (List.mem_of_getElem? (i := 12) rfl)
  have e := hfa.symm.trans (He.glo_ok X G (c.t.d.fact 12 (f := .glo "law") rfl))
  cases e
  have b := FunD.bindsA (ps := ["_law_script"]) F0 fun _ _ _ _ _ _ us hl => match us, hl with | [_], _ => rfl
  have m : Mg mg := ⟨He.free_ok X G (c.t.d.fact 13 rfl), He.free_ok X G (c.t.d.fact 14 rfl), He.free_ok X G (c.t.d.fact 15 rfl), He.free_ok X G (c.t.d.fact 16 rfl), He.free_ok X G (c.t.d.fact 17 rfl), He.free_ok X G (c.t.d.fact 18 rfl), He.free_ok X G (c.t.d.fact 19 rfl), He.free_ok X G (c.t.d.fact 20 rfl), He.free_ok X G (c.t.d.fact 21 rfl), He.free_ok X G (c.t.d.fact 22 rfl), He.free_ok X G (c.t.d.fact 23 rfl), He.free_ok X G (c.t.d.fact 24 rfl), He.free_ok X G (c.t.d.fact 25 rfl)⟩
  have st : ∀ {x z : Str}, (∃ t, mg x = some (.str z t)) → ∃ u, mg x = some u ∧ RelV (.str z) u := fun ⟨t, h⟩ => ⟨_, h, t, rfl⟩
  have dA : ∀ (i j : Nat) (x : Str) (_ : fn[i]? = some (dd x j)) (_ : fa[i]? = some (.glo x)), DefAt K mg x (topS j) := fun i j x h1 h2 => by
    obtain ⟨fd, F⟩ := He.SaysD.defs c.t.d (List.mem_of_getElem? h1)
    exact ⟨_, fd, fun_of F, He.glo_ok X G (He.SaysD.facts c.t.d (List.mem_of_getElem? h2))⟩
  have gl_Shelf := He.glo_ok X G (c.t.d.fact 26 (f := .glo "Shelf") rfl)
  have cl_Shelf : Cls K (He.ga K "Shelf") := He.cls_ok (c.t.d.fact 27 (f := .cls "Shelf") rfl)
  have na_Shelf_kept : NoAttr K (He.ga K "Shelf") "kept" := He.noat_ok (c.t.d.fact 28 (f := .noat "Shelf" "kept") rfl)
  have at_Shelf___init__ : MAt K (He.ga K "Shelf") "__init__" "Shelf.__init__" (inClass (topS 2) 0) [] := by
    obtain ⟨fd, Fm⟩ := He.SaysD.defs c.t.d (d := ddm "Shelf" "__init__" "Shelf.__init__" (inClass (topS 2) 0) []) (List.mem_of_getElem? (i := 13) rfl)
    exact ⟨_, fd, Fm, He.meth_ok (c.t.d.fact 29 (f := .meth "Shelf" "__init__") rfl)⟩
  have at_Shelf_put : MAt K (He.ga K "Shelf") "put" "Shelf.put" (inClass (topS 2) 1) [] := by
    obtain ⟨fd, Fm⟩ := He.SaysD.defs c.t.d (d := ddm "Shelf" "put" "Shelf.put" (inClass (topS 2) 1) []) (List.mem_of_getElem? (i := 14) rfl)
    exact ⟨_, fd, Fm, He.meth_ok (c.t.d.fact 30 (f := .meth "Shelf" "put") rfl)⟩
  have at_Shelf_taken : MAt K (He.ga K "Shelf") "taken" "Shelf.taken" (inClass (topS 2) 2) [("height", .int 0)] := by
    obtain ⟨fd, Fm⟩ := He.SaysD.defs c.t.d (d := ddm "Shelf" "taken" "Shelf.taken" (inClass (topS 2) 2) [("height", .int 0)]) (List.mem_of_getElem? (i := 15) rfl)
    exact ⟨_, fd, Fm, He.meth_ok (c.t.d.fact 31 (f := .meth "Shelf" "taken") rfl)⟩
  have at_Shelf_told : MAt K (He.ga K "Shelf") "told" "Shelf.told" (inClass (topS 2) 3) [] := by
    obtain ⟨fd, Fm⟩ := He.SaysD.defs c.t.d (d := ddm "Shelf" "told" "Shelf.told" (inClass (topS 2) 3) []) (List.mem_of_getElem? (i := 16) rfl)
    exact ⟨_, fd, Fm, He.meth_ok (c.t.d.fact 32 (f := .meth "Shelf" "told") rfl)⟩
  have at_Shelf___len__ : MAt K (He.ga K "Shelf") "__len__" "Shelf.__len__" (inClass (topS 2) 6) [] := by
    obtain ⟨fd, Fm⟩ := He.SaysD.defs c.t.d (d := ddm "Shelf" "__len__" "Shelf.__len__" (inClass (topS 2) 6) []) (List.mem_of_getElem? (i := 17) rfl)
    exact ⟨_, fd, Fm, He.meth_ok (c.t.d.fact 33 (f := .meth "Shelf" "__len__") rfl)⟩
  have mkr_Shelf := He.mkr_ok (c.t.d.fact 34 (f := .mkr "Shelf") rfl)
  refine ⟨fd, fun s v => b s [v] rfl, fun base _ _ => ?_⟩
  have cl := cl_Shelf
  have nk := na_Shelf_kept
  have o_init := okM_Shelf___init__ (P := P) (w := w) (mg := mg) (base := base) at_Shelf___init__ cl nk
  have o_put := okM_Shelf_put (P := P) (w := w) (base := base) at_Shelf_put m cl nk
  have o_taken := okM_Shelf_taken (P := P) (w := w) (base := base) at_Shelf_taken m cl nk
  have m_told := (okM_Shelf_told (P := P) (w := w) (base := base) at_Shelf_told m cl nk).byPlace (fun _ _ _ _ _ _ us hl => match us, hl with | [_], _ => rfl)
  have m_len := (okM_Shelf___len__ (P := P) (w := w) (base := base) at_Shelf___len__ m cl nk).byPlace (fun _ _ _ _ _ _ us hl => match us, hl with | [_], _ => rfl)
  have m_put := o_put.byPlace (fun _ _ _ _ _ _ us hl => match us, hl with | [_, _, _], _ => rfl)
  have k_put : MthK P w K mg base 1 (He.ga K "Shelf") "put" (spPutS (He.ga K "Shelf")) ["parcel", "number"] (fun v zs => [v, zs.getD 1 .non, zs.getD 0 .non]) := o_put.byKeys (g := fun u ws => [u, ws.getD 1 .none, ws.getD 0 .none]) (fun _ _ _ _ _ _ u ws hl => match ws, hl with | [_, _], _ => rfl) (fun {v u zs ws} r rz => .cons r (by
    match zs, ws, rz with
    | [], [], .nil => exact .cons rfl (.cons rfl .nil)
    | [_], [_], .cons a .nil => exact .cons rfl (.cons a .nil)
    | _ :: _ :: _, _ :: _ :: _, .cons a (.cons b _) => exact .cons b (.cons a .nil)))
  have m_taken := o_taken.byDefault 1 (by decide) rfl (fun D doc pm an cdv ct us ks h1 h2 => match us, ks, h1, h2 with | [_], [_], _, _ => ⟨_, _, _, _, _, _, rfl, rfl, rfl⟩)
  have k_taken : MthK P w K mg base 1 (He.ga K "Shelf") "taken" (spTakenS (He.ga K "Shelf")) ["height"] (fun v zs => v :: zs) := o_taken.byKeys (g := fun u ws => u :: ws) (fun _ _ _ _ _ _ u ws hl => match ws, hl with | [_], _ => rfl) (fun r rz => .cons r rz)
  have mk_Shelf : Mak P w K mg base 1 (He.ga K "Shelf") "Shelf" (spInitS (He.ga K "Shelf")) := by
    obtain ⟨f1, fd1, F1, M1, O1⟩ := o_init
    have e1 := M1.at_.symm.trans mkr_Shelf.init
    obtain rfl : f1 = _ := by injection (Option.some.inj (Option.some.inj e1))
    exact ⟨_, fd1, ["self"], mkr_Shelf, O1, gl_Shelf, F1.bindsN (fun _ _ _ _ _ _ us hl => match us, hl with | [_], _ => rfl)⟩
  have c__law_take := ok__law_take (P := P) (w := w) (base := base) (dA 0 5 _ rfl rfl) m
  have c__law_pot := ok__law_pot (P := P) (w := w) (base := base) (dA 1 4 _ rfl rfl) m
  have c__law_pick := ok__law_pick (P := P) (w := w) (base := base) (dA 2 6 _ rfl rfl) m c__law_take
  have c__law_name := ok__law_name (P := P) (w := w) (base := base) (dA 3 7 _ rfl rfl) m c__law_take
  have c__law_names := ok__law_names (P := P) (w := w) (base := base) (dA 4 8 _ rfl rfl) m c__law_name
  have c__law_parcel := ok__law_parcel (P := P) (w := w) (base := base) (dA 5 10 _ rfl rfl) m c__law_take c__law_pick
  have c__law_number := ok__law_number (P := P) (w := w) (base := base) (dA 6 11 _ rfl rfl) m c__law_take c__law_pick
  have c__law_told := ok__law_told (P := P) (w := w) (base := base) (dA 7 12 _ rfl rfl) m
  have g__law_taken := ok__law_taken (P := P) (w := w) (base := base) (dA 8 13 _ rfl rfl) m cl nk c__law_told m_taken k_taken
  have g__law_stands := ok__law_stands (P := P) (w := w) (base := base) (dA 9 14 _ rfl rfl) m cl nk c__law_told m_told m_len
  have g__law_both := ok__law_both (P := P) (w := w) (base := base) (dA 10 16 _ rfl rfl) m g__law_stands
  have g__law_deed_right := ok__law_deed_right (P := P) (w := w) (base := base) (dA 11 15 _ rfl rfl) m cl nk c__law_take c__law_number c__law_parcel g__law_taken m_put k_put
  exact ok_law (fun_of F0) m cl nk c__law_pot c__law_take c__law_names g__law_deed_right g__law_both g__law_stands g__law_taken m_told m_len mk_Shelf
end Gj
open PySem PySem.W PySem.Calls PyProof.Rows
theorem PySem.Challenge.cw_walkbox_k35_whole_shelves_by_numbers_holds : PySem.Challenge.rw_walkbox_k35_whole_shelves_by_numbers.Holds := by
  w_on; o_law
  refine HandSHeadRun.head_any (r := OpenLaw.row PySem.Challenge.rw_walkbox_k35_whole_shelves_by_numbers) (q := view (OpenLaw.row PySem.Challenge.rw_walkbox_k35_whole_shelves_by_numbers).prog [17]) (H := Gj.hk) (ob := Gj.ob) (M := 4000) (loose := Gj.names) (d := HandSHeadRun.topDef (OpenLaw.row PySem.Challenge.rw_walkbox_k35_whole_shelves_by_numbers).prog 17) (kwd := []) Gj.ob_eq
    (by kernel_rfl) (fun s => by kernel_rfl) Gj.run (by kernel_rfl) (by kernel_rfl) (by kernel_rfl) (by rfl) (by first | assumption | decide +kernel) (by decide +kernel) ⟨rfl, rfl, rfl, rfl, rfl, by decide +kernel⟩ ?hw ?hc
  case hw => w_witness2
  case hc =>
    refine Gj.walkG (l := PySem.Challenge.rw_walkbox_k35_whole_shelves_by_numbers) (n := 63) (k := 5) (x := "_law_script") rfl (by decide) (by kernel_rfl) ⟨rfl, by decide, by decide⟩ ?F
    intro w mg fa h Y G hmg0
    obtain ⟨K, KX, c⟩ := Y
    have hmg : mg ("law" : PySem.Str) = some (.ref fa) := by
      have e : (HandSHeadRun.topDef (OpenLaw.row PySem.Challenge.rw_walkbox_k35_whole_shelves_by_numbers).prog 17).name = ("law" : PySem.Str) := by kernel_rfl
      rw [← e]
      exact hmg0
    obtain ⟨fd, hb, hF⟩ := Gj.facts (P := (PySem.Challenge.rw_walkbox_k35_whole_shelves_by_numbers).prog) (w := w) KX G hmg c
    exact ⟨K, fd, Gj.spLaw K, KX, hb, fun H a ns hl _ hS => ⟨a, ns, rfl, hS, hl, fun _ => rfl⟩, hF⟩
