import PyProof.Rows.All
import Wide.All
import OpenK.AllK
import Wide.FinOn
import Lean
import KE.KStateDown
import HandS.ForMost
import HandS.Walk
import HandS.Evl
import HandS.Flow
import HandS.Style
import HandS.WideBits
import HandS.Defaults
import HandS.IsInst
import HandS.More
import HandS.Replace
import HandS.TupLe
import HandS.RevRange
import HandS.Conv
import HandS.TupAny
import KE.IntTextLaws
import HandS.Head0
import HandS.Head1
import HandS.Head2
import HandS.HeadEnd
import HandS.HeadHook1
import HandS.HeadHook2
import PyProof.ReprRoads
import PyProof.StrLawsRepr
import PyProof.DictUpdate
import HandS.Rev
import HandS.RevTup
import KE.KDictList
import HandS.HeadHook3
import HandS.Zip
import PySem.Challenge.RW_wireyard_k18_rings_among_names
set_option Elab.async false
set_option linter.all false
set_option maxRecDepth 100000
set_option maxHeartbeats 4000000
/-! Z: my own short steps over the hand layer: one lemma a reading, in the order in which the code runs; heaps are letters, joined by Ex. -/
namespace Z
open PySem PySem.Spec PyProof.Rows L2
open Evl (Ex ex_l ex_t ex_rd sq_of st_of fresh_back)

/-! ### short names of readings -/
abbrev rAddI : R2 := rI0 fun i j => .int (i + j)
abbrev rSubI : R2 := rI0 fun i j => .int (i - j)
abbrev rMulI : R2 := rI CMul fun i j => .int (i * j)
abbrev rMulX : R2 := rI CMulX fun i j => .int (i * j)
abbrev rDivI : R2 := rI CDiv fun i j => .int (i / j)
abbrev rDivW : R2 := rI CDivW fun i j => .int (i / j)
abbrev rIndexS : V → List V → Hp → VK → Prop := fun x xs H Q => ∃ a b i rest, x = .str a ∧ xs = [.str b] ∧ Builtin.Str.occurrences a b 0 a.length 1 = i :: rest ∧ Q (.int (i : Nat)) H
abbrev rModI : R2 := rI (fun _ j => 0 < j) fun i j => .int (i % j)
abbrev rPowI : R2 := rI CPow fun i j => .int (i ^ j.toNat)
abbrev rShlI : R2 := rI CShl fun i j => .int (i * 2 ^ j.toNat)
abbrev rShrI : R2 := rI (fun _ j => 0 ≤ j) fun i j => .int (i / 2 ^ j.toNat)
abbrev rAndI : R2 := rI0 fun i j => .int (Builtin.bitAnd i j)
abbrev rOrI : R2 := rI0 fun i j => .int (Builtin.bitOr i j)
abbrev rXorI : R2 := rI0 fun i j => .int (Builtin.bitXor i j)
abbrev rLtI : R2 := rI0 fun i j => .bl (decide (i < j))
abbrev rLeI : R2 := rI0 fun i j => .bl (decide (i ≤ j))
abbrev rGtI : R2 := rI0 fun i j => .bl (decide (j < i))
abbrev rGeI : R2 := rI0 fun i j => .bl (decide (j ≤ i))
abbrev rNegI : V → Hp → VK → Prop := rU fun i => .int (-i)
def rAddStr : R2 := fun x y H Q => ∃ i j, x = .str i ∧ y = .str j ∧ i.length + j.length ≤ sizeLine ∧ Q (.str (i ++ j)) H
def rInSgn : R2 := fun x y H Q => ∃ (c : Nat) (z : Str), x = .str ⟨#[c]⟩ ∧ y = .str z ∧ Q (.bl (decide (c ∈ z.cps.toList))) H
def rNinSgn : R2 := fun x y H Q => ∃ (c : Nat) (z : Str), x = .str ⟨#[c]⟩ ∧ y = .str z ∧ Q (.bl (!decide (c ∈ z.cps.toList))) H
abbrev cLenSeq (K : PySem.W.Frag) : List V → Hp → VK → Prop := fun xs H Q => ∃ p ys, xs = [.ref p] ∧ (SqL K H p ys ∨ SqT K H p ys) ∧ Q (.int ys.length) H
abbrev cLenStr : List V → Hp → VK → Prop := fun xs H Q => ∃ z, xs = [.str z] ∧ z.length ≤ sizeLine ∧ Q (.int z.length) H
abbrev cInt1 : List V → Hp → VK → Prop := fun xs H Q => (∃ i, xs = [.int i] ∧ Q (.int i) H) ∨ ∃ k, xs = [.bl k] ∧ Q (.int (if k then 1 else 0)) H
abbrev cMax2 : List V → Hp → VK → Prop := fun xs H Q => ∃ i j, xs = [.int i, .int j] ∧ Q (.int (if j > i then j else i)) H
abbrev cMin2 : List V → Hp → VK → Prop := fun xs H Q => ∃ i j, xs = [.int i, .int j] ∧ Q (.int (if j < i then j else i)) H
abbrev rIsBl : R2 := fun x y H Q => ∃ a b, x = .bl a ∧ y = .bl b ∧ Q (.bl (decide (a = b))) H
abbrev rNotBl : R2 := fun x y H Q => ∃ a b, x = .bl a ∧ y = .bl b ∧ Q (.bl (!decide (a = b))) H
def rMulStr : R2 := fun x y H Q => ∃ (s : Str) (n : Int), x = .str s ∧ y = .int n ∧ MulOk s n ∧ Q (.str (Txt.mul s n)) H
theorem op_mul_str {X : Cx} : OpR X (binaryOp .Mult) rMulStr := fun pins s σ H x y v u Q I rx ry h => by
  obtain ⟨z, n, rfl, rfl, hz, q⟩ := h
  obtain ⟨t1, rfl⟩ := rx
  obtain ⟨t2, rfl⟩ := ry
  exact SB.mul hz fun t' k => ⟨.str (Txt.mul z n), H, I.tok _, ⟨_, rfl⟩, q⟩
abbrev rJoin (K : PySem.W.Frag) : V → List V → Hp → VK → Prop := fun x xs H Q => ∃ a p, ∃ ys : List Str, x = .str a ∧ xs = [.ref p] ∧ (SqL K H p (ys.map V.str) ∨ SqT K H p (ys.map V.str)) ∧ (ys.map (·.length)).sum + ys.length * a.length ≤ 16777216 ∧ Q (.str (Txt.join a ys)) H
abbrev cStrInt : List V → Hp → VK → Prop := fun xs H Q => ∃ i : Int, xs = [.int i] ∧ i.natAbs.log2 < 1920 ∧ Q (.str (toString i)) H
abbrev cIntStr : List V → Hp → VK → Prop := fun xs H Q => ∃ a n, xs = [.str a] ∧ PySem.intText? a = some n ∧ a.length ≤ 640 ∧ Q (.int n) H
abbrev rPartition : V → List V → Hp → VK → Prop := fun x xs H Q => ∃ a b, x = .str a ∧ xs = [.str b] ∧ (b.length == 0) = false ∧ a.length ≤ sizeLine ∧ ∀ p, H p = none → Q (.ref p) (upd H p (.tup [.str (Txt.partition a b).1, .str (Txt.partition a b).2.1, .str (Txt.partition a b).2.2]))
abbrev rSplit : V → List V → Hp → VK → Prop := fun x xs H Q => ∃ a b, x = .str a ∧ xs = [.str b] ∧ (b.length == 0) = false ∧ a.length + 2 ≤ sizeLine ∧ ∀ p, H p = none → Q (.ref p) (upd H p (.lst ((Txt.split a b).map V.str)))
abbrev rUpper : V → List V → Hp → VK → Prop := fun x xs H Q => ∃ a, x = .str a ∧ xs = [] ∧ a.length ≤ 5592405 ∧ Q (.str (Txt.upper a)) H
abbrev tTru (K : PySem.W.Frag) (ta : TE) : TT := fun σ H Q => ta σ H fun x H' => ∃ k, TruV K x H' k ∧ Q k H'

/-! ### a def of the module and its promise -/
def DX (K : PySem.W.Frag) (mg : Str → Option Value) (x : Str) (st : Stmt) : Prop := ∃ f fd, FunD K x x (defArgs st) (defBody st) (defScope st) [] [] f fd ∧ mg x = some (.ref f)
structure Cal (P : Program) (w : World) (K : PySem.W.Frag) (mg : Str → Option Value) (base : Heap) (k : Nat) (x : Str) (sp : Sp) : Prop where
  ex : ∃ (f : Addr) (fd : FuncData) (ps : List Str), FnOk P w K mg base CX0 k f fd ps sp ∧ mg x = some (.ref f) ∧ PySem.W.keepIn K (.ref f) = true ∧ Binds K fd ps []
section
variable {X : Cx} {k j : Nat} {x : Str} {sp : Sp} {p pos : Pos} {e : Expr} {es : List Expr} {t : TA}
theorem pe_c (c : Cal X.prog X.w X.K X.mg X.base k x sp) (hr : Room j X.A) (hk : k ≤ j) (hg : Gl X x) (ha : PA X (e :: es) t)
    (hdb : (x == ("__debug__" : Str)) = false := by decide) (he : starEach (e :: es) X.env = (false, eval e X.env) :: starEach es X.env := by rfl) (hpl : (backTo pos (starEach es X.env)).any (·.1) = false := by rfl) :
    PE X (.Call (.Name x p) (e :: es) [] pos) (tCall sp [] E0 t) := by
  obtain ⟨f, fd, ps, F, hm, kp, b⟩ := c.ex
  exact pe_call F (hr.mono hk) hg hm kp b .nil pass0 ha hdb he hpl
theorem pe_c0 (c : Cal X.prog X.w X.K X.mg X.base k x sp) (hr : Room j X.A) (hk : k ≤ j) (hg : Gl X x) (hdb : (x == ("__debug__" : Str)) = false := by decide) :
    PE X (.Call (.Name x p) [] [] pos) (tCall sp [] E0 tNil) := by
  obtain ⟨f, fd, ps, F, hm, kp, b⟩ := c.ex
  exact pe_call0 F (hr.mono hk) hg hm kp b .nil pass0 hdb
/-- a name of the module, by its value -/
theorem pe_gc {v : V} (hg : Gl X x) (h : ∃ u, X.mg x = some u ∧ RelV v u) (hd : (x == ("__debug__" : Str)) = false := by decide) : PE X (.Name x pos) (tC v) := by
  obtain ⟨u, hm, r⟩ := h
  exact pe_glob hg hm r hd
end
section
variable {P : Program} {w : World} {K : PySem.W.Frag} {mg : Str → Option Value} {base : Heap}
theorem cal_mk {x : Str} {st : Stmt} {N ps : List Str} {k : Nat} {sp : Sp} {t : TS} (D : DX K mg x st) (S : FnScope N ps (defScope st))
    (hb : ∀ (kV doc pm : Value) (an : Option Addr) (cdv ct : Value) (us : List Value), us.length = ps.length → bindArgs (PySem.W.fnOf x x (defArgs st) (defBody st) (defScope st) .none kV doc pm an cdv ct) ⟨us, []⟩ = pure (ps.zip us))
    (len : ∀ vs H Q E, sp vs H Q E → vs.length = ps.length)
    (hd : ∀ (f : Addr) (cdv : Value) (A : Around) (outer : List Env) (s : Shared) (H : Hp) (E : XK), Room k (A.deeper (envOfC x (defScope st) s.heap.objs.size f cdv)) → PSs (cxOf CX0 P w K mg base N x (defScope st) f cdv A outer s H E).nox (defBody st) t)
    (hv : ∀ vs H Q E, sp vs H Q E → t { nx := fun _ H' => Q .non H', rt := Q } (start N vs) H) : Cal P w K mg base (k + 1) x sp := by
  obtain ⟨f, fd, F, hm⟩ := D
  exact ⟨f, fd, ps, F.ok S len fun cdv A outer s H vs Q E hr h => ⟨t, PSs.nox (hd f cdv A outer s H E hr), hv vs H Q E h⟩, hm, F.kp, F.bindsN hb⟩
end
theorem hu64 {A : Around} {k : Nat} (hr : Room k A) : A.units + 64 < cLine := by have := hr.un; omega

/-! ### heaps: the facts of an elder one -/
section
variable {K : PySem.W.Frag} {σ : L2.St} {H H' : Hp} {Q : VK} {QB : Bool → Hp → Prop} {QA : List V → Hp → Prop} {QO : Option Int → Hp → Prop} {D : Ends} {v x y : V} {i j : Int} {a p : Addr} {xs : List V} {s z : Str} {b : Bool}
variable {ta tb te tc : TE} {t u : TT} {tl th : TO} {tr : TA} {ts tu : TS} {r : R2} {g : TG}

theorem szl {n : Nat} (h : n ≤ 1000) : n ≤ sizeLine := Nat.le_trans h (by decide)
theorem szlt {n : Nat} (h : n ≤ 1000) : n < sizeLine := Nat.lt_of_le_of_lt h (by decide)
/-! ### expressions -/
theorem z_var {n : Nat} (h : σ[n]? = some (some v)) (q : Q v H) : tVar n σ H Q := ⟨v, h, q⟩
theorem z_c (q : Q v H) : tC v σ H Q := q
theorem z_op (q : ta σ H fun x H1 => tb σ H1 fun y H2 => r x y H2 Q) : tOp r ta tb σ H Q := q
theorem z_un {r : V → Hp → VK → Prop} (q : ta σ H fun x H1 => r x H1 Q) : tUn r ta σ H Q := q
theorem z_i0 {f : Int → Int → V} (q : Q (f i j) H) : rI0 f (.int i) (.int j) H Q := ⟨i, j, rfl, rfl, q⟩
theorem z_i {C : Int → Int → Prop} {f : Int → Int → V} (h : C i j) (q : Q (f i j) H) : rI C f (.int i) (.int j) H Q := ⟨i, j, rfl, rfl, h, q⟩
theorem z_u {f : Int → V} (q : Q (f i) H) : rU f (.int i) H Q := ⟨i, rfl, q⟩
theorem z_eq (h : scal x y = true) (q : Q (.bl (decide (x = y))) H) : rEq x y H Q := ⟨h, q⟩
theorem z_ne (h : scal x y = true) (q : Q (.bl (!decide (x = y))) H) : rNe x y H Q := ⟨h, q⟩
theorem z_addS (h : s.length + z.length ≤ sizeLine) (q : Q (.str (s ++ z)) H) : rAddStr (.str s) (.str z) H Q := ⟨s, z, rfl, rfl, h, q⟩
theorem z_inS {c : Nat} (q : Q (.bl (decide (c ∈ z.cps.toList))) H) : rInSgn (.str ⟨#[c]⟩) (.str z) H Q := ⟨c, z, rfl, rfl, q⟩
theorem z_ninS {c : Nat} (q : Q (.bl (!decide (c ∈ z.cps.toList))) H) : rNinSgn (.str ⟨#[c]⟩) (.str z) H Q := ⟨c, z, rfl, rfl, q⟩
theorem z_if (q : t σ H fun c H1 => if c = true then ta σ H1 Q else tb σ H1 Q) : tIf t ta tb σ H Q := q
theorem z_andT (q : ta σ H fun x H1 => ∃ k, TruV K x H1 k ∧ if k = true then tb σ H1 Q else Q x H1) : tAndT K ta tb σ H Q := q
theorem z_orT (q : ta σ H fun x H1 => ∃ k, TruV K x H1 k ∧ if k = true then Q x H1 else tb σ H1 Q) : tOrT K ta tb σ H Q := q
theorem z_notT (q : ta σ H fun x H1 => ∃ k, TruV K x H1 k ∧ Q (.bl (!k)) H1) : tNotT K ta σ H Q := q
theorem z_isN (q : ta σ H fun x H1 => Q (.bl (decide (x = .non))) H1) : tIsN ta σ H Q := q
theorem z_notN (q : ta σ H fun x H1 => Q (.bl (!decide (x = .non))) H1) : tNotN ta σ H Q := q
theorem z_nil (q : QA [] H) : tNil σ H QA := q
theorem z_cons (q : te σ H fun x H1 => tr σ H1 fun xs H2 => QA (x :: xs) H2) : tCons te tr σ H QA := q
theorem z_call {sp : Sp} {E : XK} (q : tr σ H fun vs H1 => sp (vs ++ []) H1 Q E) : tCall sp [] E tr σ H Q := q
theorem z_cb {r : List V → Hp → VK → Prop} (q : tr σ H fun vs H1 => r vs H1 Q) : tCB r tr σ H Q := q
theorem z_lst (q : tr σ H fun xs H1 => xs.length ≤ sizeLine ∧ ∀ p, H1 p = none → Q (.ref p) (upd H1 p (.lst xs))) : tLst tr σ H Q := q
theorem z_tup (q : tr σ H fun xs H1 => xs.length ≤ sizeLine ∧ ∀ p, H1 p = none → Q (.ref p) (upd H1 p (.tup xs))) : tTup tr σ H Q := q
theorem z_ixL {l : Addr} (h : SqL K H l xs) (e : atI xs i = some v) (q : Q v H) : rIxL K (.ref l) (.int i) H Q := ⟨l, xs, i, v, rfl, rfl, h, e, q⟩
theorem z_ixT {l : Addr} (h : SqT K H l xs) (e : atI xs i = some v) (q : Q v H) : rIxT K (.ref l) (.int i) H Q := ⟨l, xs, i, v, rfl, rfl, h, e, q⟩
theorem z_ixS {c : Nat} (h : z.length ≤ sizeLine) (e : atI z.cps.toList i = some c) (q : Q (.str ⟨#[c]⟩) H) : rIxS (.str z) (.int i) H Q := ⟨z, i, c, rfl, rfl, h, e, q⟩
theorem z_cat {l m : Addr} {ys : List V} (h : H l = some (.lst xs)) (h2 : H m = some (.lst ys)) (hz : xs.length + ys.length ≤ sizeLine) (q : ∀ p, H p = none → Q (.ref p) (upd H p (.lst (xs ++ ys)))) : rCat (.ref l) (.ref m) H Q := ⟨l, m, xs, ys, rfl, rfl, h, h2, hz, q⟩
theorem z_rep {l : Addr} {k : Int} (h : H l = some (.lst xs)) (h1 : -(2 ^ 63) ≤ k) (h2 : k < 2 ^ 63) (hz : xs.length * k.toNat ≤ sizeLine) (q : ∀ p, H p = none → Q (.ref p) (upd H p (.lst (List.replicate k.toNat xs).flatten))) : rRep (.ref l) (.int k) H Q := ⟨l, k, xs, rfl, rfl, h, h1, h2, hz, q⟩
theorem z_inL {l : Addr} {neg : Bool} (h : SqL K H l xs) (hx : flatV x = true) (hs : xs.all flatV = true) (q : Q (.bl (if neg then !inV x xs else inV x xs)) H) : rIn K neg x (.ref l) H Q := ⟨l, xs, rfl, .inl h, hx, hs, q⟩
theorem z_inT {l : Addr} {neg : Bool} (h : SqT K H l xs) (hx : flatV x = true) (hs : xs.all flatV = true) (q : Q (.bl (if neg then !inV x xs else inV x xs)) H) : rIn K neg x (.ref l) H Q := ⟨l, xs, rfl, .inr h, hx, hs, q⟩
theorem z_lenL {l : Addr} (h : SqL K H l xs) (q : Q (.int xs.length) H) : cLenSeq K [.ref l] H Q := ⟨l, xs, rfl, .inl h, q⟩
theorem z_lenT {l : Addr} (h : SqT K H l xs) (q : Q (.int xs.length) H) : cLenSeq K [.ref l] H Q := ⟨l, xs, rfl, .inr h, q⟩
theorem z_lenS (h : z.length ≤ sizeLine) (q : Q (.int z.length) H) : cLenStr [.str z] H Q := ⟨z, rfl, h, q⟩
theorem z_int1 (q : Q (.int i) H) : cInt1 [.int i] H Q := .inl ⟨i, rfl, q⟩
theorem z_intb (q : Q (.int (if b then 1 else 0)) H) : cInt1 [.bl b] H Q := .inr ⟨b, rfl, q⟩
theorem z_max2 (q : Q (.int (if j > i then j else i)) H) : cMax2 [.int i, .int j] H Q := ⟨i, j, rfl, q⟩
theorem z_min2 (q : Q (.int (if j < i then j else i)) H) : cMin2 [.int i, .int j] H Q := ⟨i, j, rfl, q⟩
theorem z_revL (q : te σ H fun x H1 => ∃ a xs, x = .ref a ∧ SqL K H1 a xs ∧ ∀ p, H1 p = none → Q (.ref p) (upd H1 p (.lst xs.reverse))) : tRevL K te σ H Q := q
theorem z_revL1 (h : SqL K H a xs) (q : ∀ p, H p = none → Q (.ref p) (upd H p (.lst xs.reverse))) : ∃ a' xs', V.ref a = .ref a' ∧ SqL K H a' xs' ∧ ∀ p, H p = none → Q (.ref p) (upd H p (.lst xs'.reverse)) := ⟨a, xs, rfl, h, q⟩
theorem z_isi {T U : String} (h : TyX K H x (.type T)) (e : PySem.W.kitOne K (.type T) (.type U) = some b) (q : Q (.bl b) H) : rIsi K [x, .ty U] H Q := ⟨x, _, _, _, b, rfl, .ty U, h, e, q⟩
theorem z_dnew (q : ∀ p, H p = none → Q (.ref p) (upd H p (.dK []))) : tDNewK σ H Q := q
theorem z_isbl {c d : Bool} (q : Q (.bl (decide (c = d))) H) : rIsBl (.bl c) (.bl d) H Q := ⟨c, d, rfl, rfl, q⟩
theorem z_notbl {c d : Bool} (q : Q (.bl (!decide (c = d))) H) : rNotBl (.bl c) (.bl d) H Q := ⟨c, d, rfl, rfl, q⟩
theorem z_mulS {n : Int} (h : MulOk s n) (q : Q (.str (Txt.mul s n)) H) : rMulStr (.str s) (.int n) H Q := ⟨s, n, rfl, rfl, h, q⟩
theorem z_strI (h : i.natAbs.log2 < 1920) (q : Q (.str (toString i)) H) : cStrInt [.int i] H Q := ⟨i, rfl, h, q⟩
theorem z_nopart (q : QO none H) : tNoPart σ H QO := q
theorem z_part (q : te σ H fun x H1 => ∃ i, x = .int i ∧ QO (some i) H1) : tPart te σ H QO := q
theorem z_part1 {R : Int → Prop} (q : R i) : ∃ j, V.int i = .int j ∧ R j := ⟨i, rfl, q⟩
theorem z_sl {r : V → Option Int → Option Int → Hp → VK → Prop} (q : te σ H fun x H1 => tl σ H1 fun l H2 => th σ H2 fun u H3 => r x l u H3 Q) : tSl r te tl th σ H Q := q
theorem z_slL {lo hi : Option Int} (h : SqL K H a xs) (q : ∀ p, H p = none → Q (.ref p) (upd H p (.lst (cutV xs lo hi)))) : rSlL K (.ref a) lo hi H Q := ⟨a, xs, rfl, h, q⟩
theorem z_slS {lo hi : Option Int} (h : z.length ≤ sizeLine) (q : Q (.str (cutS z lo hi)) H) : rSlS (.str z) lo hi H Q := ⟨z, rfl, h, q⟩
theorem z_chain {r r' : R2} (q : ta σ H fun x H1 => tb σ H1 fun y H2 => r x y H2 fun z H3 => ∃ k, z = .bl k ∧ if k = true then tc σ H3 fun w' H4 => r' y w' H4 Q else Q (.bl false) H3) : tChain r r' ta tb tc σ H Q := q

/-! ### truth -/
theorem z_test (q : te σ H fun x H' => ∃ k, x = .bl k ∧ QB k H') : tTest te σ H QB := q
theorem z_tB (q : te σ H fun x H' => ∃ k, x = .bl k ∧ QB k H') : tB te σ H QB := q
theorem z_bl {R : Bool → Prop} (q : R b) : ∃ k, V.bl b = .bl k ∧ R k := ⟨b, rfl, q⟩
theorem z_tru (q : ta σ H fun x H' => ∃ k, TruV K x H' k ∧ QB k H') : tTru K ta σ H QB := q
theorem z_trub {R : Bool → Prop} (q : R b) : ∃ k, TruV K (.bl b) H k ∧ R k := ⟨b, rfl, q⟩
theorem z_trui {R : Bool → Prop} (q : R (i != 0)) : ∃ k, TruV K (.int i) H k ∧ R k := ⟨_, rfl, q⟩
theorem z_trun {R : Bool → Prop} (q : R false) : ∃ k, TruV K .non H k ∧ R k := ⟨_, rfl, q⟩
theorem z_trul {R : Bool → Prop} (h : SqL K H a xs) (q : R (!xs.isEmpty)) : ∃ k, TruV K (.ref a) H k ∧ R k := ⟨_, .inl ⟨xs, h, rfl⟩, q⟩
theorem z_and (q : t σ H fun c H1 => if c = true then u σ H1 QB else QB false H1) : tAnd t u σ H QB := q
theorem z_or (q : t σ H fun c H1 => if c = true then QB true H1 else u σ H1 QB) : tOr t u σ H QB := q
theorem z_not (q : t σ H fun c H1 => QB (!c) H1) : tNot t σ H QB := q
theorem z_yes (q : QB true H) : tYes σ H QB := q
theorem ite_t {A B : Prop} (q : A) : if true = true then A else B := by rw [if_pos rfl]; exact q
theorem ite_f {A B : Prop} (q : B) : if false = true then A else B := by rw [if_neg Bool.false_ne_true]; exact q
theorem ite_b {A B : Prop} (h1 : b = true → A) (h2 : b = false → B) : if b = true then A else B := by
  cases b with
  | true => exact ite_t (h1 rfl)
  | false => exact ite_f (h2 rfl)

/-! ### statements -/
theorem z_seq (q : ts { D with nx := tu D } σ H) : tSeq ts tu D σ H := q
theorem z_cut (Mid : L2.St → Hp → Prop) (h : ts { D with nx := Mid } σ H) (q : ∀ σ' H', Mid σ' H' → tu D σ' H') : Evl.tCut ts tu D σ H := ⟨Mid, h, q⟩
theorem z_next (q : D.nx σ H) : tNext D σ H := q
theorem z_ret (q : te σ H D.rt) : tRet te D σ H := q
theorem z_retN (q : D.rt .non H) : tRetN D σ H := q
theorem z_drop (q : te σ H fun _ H1 => D.nx σ H1) : tDrop te D σ H := q
theorem z_ifs (q : t σ H fun b H1 => if b = true then ts D σ H1 else tu D σ H1) : tIfS t ts tu D σ H := q
theorem z_asg (q : te σ H fun x H1 => g x σ H1 D.nx) : tAsg te g D σ H := q
theorem z_brk (q : D.bk σ H) : tBreak D σ H := q
theorem z_cont (q : D.ct σ H) : tCont D σ H := q
theorem z_gname {n : Nat} {QS : L2.St → Hp → Prop} (q : QS (σ.set n (some v)) H) : gName n v σ H QS := q
theorem z_aug {n : Nat} {f : Int → Int → Int} (h : σ[n]? = some (some (.int i))) (q : te σ H fun y H1 => ipI f (.int i) y H1 fun z H2 => D.nx (σ.set n (some z)) H2) : tAug n te (ipI f) D σ H := ⟨.int i, h, q⟩
theorem z_ipi {f : Int → Int → Int} (q : Q (.int (f i j)) H) : ipI f (.int i) (.int j) H Q := ⟨i, j, rfl, rfl, q⟩
theorem z_gtup2 {m n : Nat} {QS : L2.St → Hp → Prop} (h : SqT K H a [x, y]) (q : QS ((σ.set m (some x)).set n (some y)) H) : gTup K 2 (gCons (gName m) (gCons (gName n) gNil)) (.ref a) σ H QS := ⟨a, _, rfl, h, rfl, x, [y], rfl, y, [], rfl, rfl, q⟩
theorem z_bm {r : V → List V → Hp → VK → Prop} {T : String} (q : te σ H fun x H1 => tyV K T x H1 ∧ tr σ H1 fun xs H2 => r x xs H2 Q) : tBM K T r te tr σ H Q := q
theorem z_bm0 {r : V → List V → Hp → VK → Prop} {T : String} (q : te σ H fun x H1 => tyV K T x H1 ∧ r x [] H1 Q) : tBM0 K T r te σ H Q := q
theorem z_tyl {R : Prop} (h : SqL K H a xs) (q : R) : tyV K "list" (.ref a) H ∧ R := ⟨.inl ⟨rfl, xs, h⟩, q⟩
theorem z_tys {R : Prop} (q : R) : tyV K "str" (.str z) H ∧ R := ⟨rfl, q⟩
theorem z_rapp (h : H a = some (.lst xs)) (hz : xs.length < sizeLine) (q : Q .non (upd H a (.lst (xs ++ [v])))) : rAppend (.ref a) [v] H Q := ⟨a, xs, v, rfl, rfl, h, hz, q⟩
theorem z_rext {c : Addr} {ys : List V} (h : H a = some (.lst xs)) (h2 : H c = some (.lst ys)) (hz : xs.length + ys.length ≤ sizeLine) (q : Q .non (upd H a (.lst (xs ++ ys)))) : rExtend (.ref a) [.ref c] H Q := ⟨a, c, xs, ys, rfl, rfl, h, h2, hz, q⟩
theorem z_rpop (h : H a = some (.lst xs)) (e : xs[xs.length - 1]? = some v) (q : Q v (upd H a (.lst xs.dropLast))) : rPop (.ref a) [] H Q := ⟨a, xs, v, rfl, rfl, h, e, q⟩
end
/-! ### loops -/
def FW (J : It) (g : TG) (tb : TS) (D : Ends) (σ : L2.St) (H1 : Hp) : Prop := ∃ W : Nat → Nat → L2.St → Hp → Prop, (∃ m, W 0 m σ H1) ∧ ∀ i m σ H, W i m σ H →
  (J.stop i H ∧ D.nx σ H) ∨ (J.go i H ∧ ∃ N : L2.St → Hp → Prop, (∀ σ' H', N σ' H' → ∃ m', m' < m ∧ W (i + 1) m' σ' H') ∧ ∀ x H', J.yld i H x H' → g x σ H' fun σ2 H2 => tb { D with nx := N, ct := N, bk := D.nx } σ2 H2)
def FL (K : PySem.W.Frag) (g : TG) (tb : TS) (D : Ends) (σ : L2.St) (x : V) (H1 : Hp) : Prop := ∃ a, x = .ref a ∧ (∃ xs, SqL K H1 a xs) ∧ FW (Itl K a) g tb D σ H1
def FT (K : PySem.W.Frag) (g : TG) (tb : TS) (D : Ends) (σ : L2.St) (x : V) (H1 : Hp) : Prop := ∃ a, x = .ref a ∧ (∃ xs, SqT K H1 a xs) ∧ FW (Itt K a) g tb D σ H1
def FS (g : TG) (tb : TS) (D : Ends) (σ : L2.St) (v : V) (H1 : Hp) : Prop := ∃ x, v = .str x ∧ FW (Its x) g tb D σ H1
def FR1 (g : TG) (tb : TS) (D : Ends) (σ : L2.St) (vs : List V) (H1 : Hp) : Prop := ∃ j : Int, vs = [.int j] ∧ -(2 ^ 62) ≤ j ∧ j < 2 ^ 62 ∧ FW (Itr 0 j.toNat) g tb D σ H1
def FR2 (g : TG) (tb : TS) (D : Ends) (σ : L2.St) (vs : List V) (H1 : Hp) : Prop := ∃ i j : Int, vs = [.int i, .int j] ∧ (-(2 ^ 62) ≤ i ∧ i < 2 ^ 62 ∧ -(2 ^ 62) ≤ j ∧ j < 2 ^ 62) ∧ FW (Itr i (j - i).toNat) g tb D σ H1
def FZ (K : PySem.W.Frag) (g : TG) (tb : TS) (D : Ends) (σ : L2.St) (vs : List V) (H1 : Hp) : Prop := ∃ a b xs ys, vs = [.ref a, .ref b] ∧ SqL K H1 a xs ∧ SqL K H1 b ys ∧ FW (Itz K a b) g tb D σ H1
def FE (K : PySem.W.Frag) (g : TG) (tb : TS) (D : Ends) (σ : L2.St) (vs : List V) (H1 : Hp) : Prop := ∃ a xs, vs = [.ref a] ∧ SqL K H1 a xs ∧ FW (Ite K a) g tb D σ H1
section
variable {K : PySem.W.Frag} {σ : L2.St} {H : Hp} {D : Ends} {g : TG} {tb tu : TS} {te : TE} {ta : TA} {a b : Addr} {xs ys : List V}
theorem z_fl (q : te σ H fun x H1 => FL K g tb D σ x H1) : tFor (iList K te) g tb D σ H := q
theorem z_ft (q : te σ H fun x H1 => FT K g tb D σ x H1) : tFor (iTup K te) g tb D σ H := q
theorem z_fs (q : te σ H fun x H1 => FS g tb D σ x H1) : tFor (iStr te) g tb D σ H := q
theorem z_fr1 (q : ta σ H fun x H1 => FR1 g tb D σ x H1) : tFor (iRng1 ta) g tb D σ H := q
theorem z_fr2 (q : ta σ H fun x H1 => FR2 g tb D σ x H1) : tFor (iRng2 ta) g tb D σ H := q
theorem z_fz (q : ta σ H fun x H1 => FZ K g tb D σ x H1) : tFor (iZip K ta) g tb D σ H := q
theorem z_fe (q : ta σ H fun x H1 => FE K g tb D σ x H1) : tFor (iEnum K ta) g tb D σ H := q
/-- over a list: Pv by the turn, the slots, the heap -/
theorem z_FL (hx : SqL K H a xs) (Pv : Nat → L2.St → Hp → Prop) (h0 : Pv 0 σ H) (hG : ∀ i σ H, i ≤ xs.length → Pv i σ H → SqL K H a xs)
    (hs : ∀ i x σ H, i < xs.length → xs[i]? = some x → Pv i σ H → g x σ H fun σ2 H2 => tb { D with nx := Pv (i + 1), ct := Pv (i + 1), bk := D.nx } σ2 H2) (hd : ∀ σ H, Pv xs.length σ H → D.nx σ H) : FL K g tb D σ (.ref a) H :=
  ⟨a, rfl, ⟨xs, hx⟩, for_it walk_list Pv h0 hG (fun i x σ H H' hi p y => by
    obtain ⟨rfl, e⟩ := y
    exact hs i x σ _ hi e p) hd⟩
theorem z_FT (hx : SqT K H a xs) (Pv : Nat → L2.St → Hp → Prop) (h0 : Pv 0 σ H) (hG : ∀ i σ H, i ≤ xs.length → Pv i σ H → SqT K H a xs)
    (hs : ∀ i x σ H, i < xs.length → xs[i]? = some x → Pv i σ H → g x σ H fun σ2 H2 => tb { D with nx := Pv (i + 1), ct := Pv (i + 1), bk := D.nx } σ2 H2) (hd : ∀ σ H, Pv xs.length σ H → D.nx σ H) : FT K g tb D σ (.ref a) H :=
  ⟨a, rfl, ⟨xs, hx⟩, for_it walk_tup Pv h0 hG (fun i x σ H H' hi p y => by
    obtain ⟨rfl, e⟩ := y
    exact hs i x σ _ hi e p) hd⟩
theorem z_FS {z : Str} (Pv : Nat → L2.St → Hp → Prop) (h0 : Pv 0 σ H)
    (hs : ∀ i (c : Nat) σ H, i < z.cps.size → z.cps[i]? = some c → Pv i σ H → g (.str ⟨#[c]⟩) σ H fun σ2 H2 => tb { D with nx := Pv (i + 1), ct := Pv (i + 1), bk := D.nx } σ2 H2) (hd : ∀ σ H, Pv z.cps.size σ H → D.nx σ H) : FS g tb D σ (.str z) H :=
  ⟨z, rfl, for_it walk_str Pv h0 (fun _ _ _ _ _ => trivial) (fun i x σ H H' hi p y => by
    obtain ⟨rfl, c, e, rfl⟩ := y
    exact hs i c σ _ hi e p) hd⟩
theorem z_FR1 {n : Int} (hn : -(2 ^ 62) ≤ n ∧ n < 2 ^ 62) (Pv : Nat → L2.St → Hp → Prop) (h0 : Pv 0 σ H)
    (hs : ∀ (i : Nat) σ H, i < n.toNat → Pv i σ H → g (.int (i : Int)) σ H fun σ2 H2 => tb { D with nx := Pv (i + 1), ct := Pv (i + 1), bk := D.nx } σ2 H2) (hd : ∀ σ H, Pv n.toNat σ H → D.nx σ H) : FR1 g tb D σ [.int n] H :=
  ⟨n, rfl, hn.1, hn.2, for_it walk_range Pv h0 (fun _ _ _ _ _ => trivial) (fun i x σ H H' hi p y => by
    obtain ⟨rfl, rfl⟩ := y
    show g (.int (0 + (i : Int))) σ H' _
    rw [Int.zero_add]
    exact hs i σ _ hi p) hd⟩
theorem z_FZ {n : Nat} (hn : n = min xs.length ys.length) (hx : SqL K H a xs) (hy : SqL K H b ys) (Pv : Nat → L2.St → Hp → Prop) (h0 : Pv 0 σ H) (hG : ∀ i σ H, i ≤ n → Pv i σ H → SqL K H a xs ∧ SqL K H b ys)
    (hs : ∀ i x y p σ H H', i < n → xs[i]? = some x → ys[i]? = some y → Pv i σ H → Ex H H' → H p = none → H' = upd H p (.tup [x, y]) → g (.ref p) σ H' fun σ2 H2 => tb { D with nx := Pv (i + 1), ct := Pv (i + 1), bk := D.nx } σ2 H2) (hd : ∀ σ H, Pv n σ H → D.nx σ H) : FZ K g tb D σ [.ref a, .ref b] H :=
  ⟨a, b, xs, ys, rfl, hx, hy, for_it (walk_zip hn) Pv h0 hG (fun i x σ H H' hi p y => by
    obtain ⟨T, u, v, rfl, e1, rfl, e3, e4⟩ := y
    exact hs i u v T σ _ _ hi e3 e4 p (Ex.new e1) e1 rfl) hd⟩
theorem z_FE (hx : SqL K H a xs) (Pv : Nat → L2.St → Hp → Prop) (h0 : Pv 0 σ H) (hG : ∀ i σ H, i ≤ xs.length → Pv i σ H → SqL K H a xs)
    (hs : ∀ i x p σ H H', i < xs.length → xs[i]? = some x → Pv i σ H → Ex H H' → H p = none → H' = upd H p (.tup [.int (i : Nat), x]) → g (.ref p) σ H' fun σ2 H2 => tb { D with nx := Pv (i + 1), ct := Pv (i + 1), bk := D.nx } σ2 H2) (hd : ∀ σ H, Pv xs.length σ H → D.nx σ H) : FE K g tb D σ [.ref a] H :=
  ⟨a, xs, rfl, hx, for_it walk_enum Pv h0 hG (fun i x σ H H' hi p y => by
    obtain ⟨T, u, v, rfl, e1, rfl, e3, e4⟩ := y
    cases e3
    exact hs i v T σ _ _ hi e4 p (Ex.new e1) e1 rfl) hd⟩
theorem z_while {tc : TT} (W : Nat → L2.St → Hp → Prop) (m : Nat) (h0 : W m σ H) (hs : ∀ m σ H, W m σ H → tc σ H fun b H1 => if b = true then ∃ N : L2.St → Hp → Prop, (∀ σ' H', N σ' H' → ∃ m', m' < m ∧ W m' σ' H') ∧ tb { D with nx := N, ct := N, bk := D.nx } σ H1 else D.nx σ H1) : tWhile tc tb D σ H := ⟨W, ⟨m, h0⟩, hs⟩
end
/-! ### comprehensions -/
def CW (J : It) (g : TG) (tt : TT) (te : TE) (vs : List Nat) (σ : L2.St) (H1 : Hp) (Q : VK) : Prop := ∀ D, H1 D = none → ∃ W : Nat → Nat → Hp → Prop, (∃ m, W 0 m (upd H1 D (.lst []))) ∧ ∀ i m H, W i m H →
  (J.stop i H ∧ Q (.ref D) H) ∨ (J.go i H ∧ ∃ Nx : Hp → Prop, (∀ H', Nx H' → ∃ m', m' < m ∧ W (i + 1) m' H') ∧ ∀ x H', J.yld i H x H' → g x (wipe σ vs) H' fun σ2 H2 => wipe σ2 vs = wipe σ vs ∧ tt σ2 H2 fun b H3 =>
    if b = true then te σ2 H3 fun y H4 => ∃ acc, H4 D = some (.lst acc) ∧ acc.length < sizeLine ∧ Nx (upd H4 D (.lst (acc ++ [y]))) else Nx H3)
def CL (K : PySem.W.Frag) (g : TG) (tt : TT) (te : TE) (vs : List Nat) (σ : L2.St) (x : V) (H1 : Hp) (Q : VK) : Prop := ∃ a, x = .ref a ∧ (∃ xs, SqL K H1 a xs) ∧ CW (Itl K a) g tt te vs σ H1 Q
def CS (g : TG) (tt : TT) (te : TE) (vs : List Nat) (σ : L2.St) (x : V) (H1 : Hp) (Q : VK) : Prop := ∃ z, x = .str z ∧ CW (Its z) g tt te vs σ H1 Q
def CR1 (g : TG) (tt : TT) (te : TE) (vs : List Nat) (σ : L2.St) (xs : List V) (H1 : Hp) (Q : VK) : Prop := ∃ j : Int, xs = [.int j] ∧ -(2 ^ 62) ≤ j ∧ j < 2 ^ 62 ∧ CW (Itr 0 j.toNat) g tt te vs σ H1 Q
def CRv (g : TG) (tt : TT) (te : TE) (vs : List Nat) (σ : L2.St) (x : V) (H1 : Hp) (Q : VK) : Prop := ∃ n : Int, x = .int n ∧ (-(2 ^ 62) ≤ (0 : Int) ∧ (0 : Int) < 2 ^ 62 ∧ -(2 ^ 62) ≤ n ∧ n < 2 ^ 62 ∧ CW (Itc (0 + (((n - 0).toNat : Nat) : Int) - 1) (-1) (n - 0).toNat) g tt te vs σ H1 Q)
section
variable {K : PySem.W.Frag} {σ : L2.St} {H : Hp} {Q : VK} {g : TG} {tt : TT} {te tl : TE} {ta : TA} {vs : List Nat} {a : Addr} {xs : List V} {J : It} {n j : Nat} {G : Hp → Prop}
theorem z_cl (q : tl σ H fun x H1 => CL K g tt te vs σ x H1 Q) : tLc (iList K tl) g tt te vs σ H Q := q
theorem z_cs (q : tl σ H fun x H1 => CS g tt te vs σ x H1 Q) : tLc (iStr tl) g tt te vs σ H Q := q
theorem z_cr1 (q : ta σ H fun x H1 => CR1 g tt te vs σ x H1 Q) : tLc (iRng1 ta) g tt te vs σ H Q := q
theorem z_crv (q : tl σ H fun x H1 => CRv g tt te vs σ x H1 Q) : tLc (iRevR (tRg1 tl)) g tt te vs σ H Q := q
/-- things without objects of their own -/
theorem z_CW {X : Nat → V} (w : Walk J n G (fun i H x H' => H' = H ∧ x = X i)) (hn : n ≤ 40000) (hG : ∀ H', Ex H H' → G H') (f : Nat → Bool) (v : Nat → V) (hw : ∀ x, wipe ((wipe σ vs).set j (some x)) vs = wipe σ vs)
    (ht : ∀ i H', i < n → Ex H H' → Evl.EvT tt ((wipe σ vs).set j (some (X i))) H' (f i)) (he : ∀ i H', i < n → Ex H H' → f i = true → Evl.Ev te ((wipe σ vs).set j (some (X i))) H' (v i))
    (q : ∀ p H2, H p = none → Ex H H2 → H2 p = some (.lst (Evl.given n f v)) → Q (.ref p) H2) : CW J (gName j) tt te vs σ H Q := fun Dl hD =>
  lc_it w (Evl.Cw H f v Dl) ⟨hD, Ex.new hD, upd_same⟩ (fun _ _ _ p => hG _ p.2.1) (fun i x H1 H2 hi p y => by
    obtain ⟨rfl, rfl⟩ := y
    exact ⟨hw _, Evl.cw_turn p (by omega) (ht i H hi (Ex.refl H)) (fun hf => he i H hi (Ex.refl H) hf)⟩) (fun H' p => q Dl H' p.1 p.2.1 p.2.2)
theorem z_CL (hx : SqL K H a xs) (hz : xs.length ≤ 40000) (f : Nat → Bool) (v : Nat → V) (hw : ∀ x, wipe ((wipe σ vs).set j (some x)) vs = wipe σ vs)
    (ht : ∀ i x H', i < xs.length → xs[i]? = some x → Ex H H' → Evl.EvT tt ((wipe σ vs).set j (some x)) H' (f i)) (he : ∀ i x H', i < xs.length → xs[i]? = some x → Ex H H' → f i = true → Evl.Ev te ((wipe σ vs).set j (some x)) H' (v i))
    (q : ∀ p H2, H p = none → Ex H H2 → H2 p = some (.lst (Evl.given xs.length f v)) → Q (.ref p) H2) : CL K (gName j) tt te vs σ (.ref a) H Q :=
  ⟨a, rfl, ⟨xs, hx⟩, z_CW (X := fun i => xs.getD i .non) (walk_list.mono (fun _ h => h) (fun i H x H' _ _ y => ⟨y.1, by rw [List.getD_eq_getElem?_getD, y.2] <;> rfl⟩)) hz (fun _ e => ex_l e hx) f v hw
    (fun i H' hi e => ht i _ H' hi (by rw [List.getD_eq_getElem?_getD, List.getElem?_eq_getElem hi] <;> rfl) e) (fun i H' hi e hf => he i _ H' hi (by rw [List.getD_eq_getElem?_getD, List.getElem?_eq_getElem hi] <;> rfl) e hf) q⟩
theorem z_CR1 {m : Int} (hn : 0 ≤ m ∧ m ≤ 40000) (f : Nat → Bool) (v : Nat → V) (hw : ∀ x, wipe ((wipe σ vs).set j (some x)) vs = wipe σ vs)
    (ht : ∀ (i : Nat) H', i < m.toNat → Ex H H' → Evl.EvT tt ((wipe σ vs).set j (some (.int (i : Int)))) H' (f i)) (he : ∀ (i : Nat) H', i < m.toNat → Ex H H' → f i = true → Evl.Ev te ((wipe σ vs).set j (some (.int (i : Int)))) H' (v i))
    (q : ∀ p H2, H p = none → Ex H H2 → H2 p = some (.lst (Evl.given m.toNat f v)) → Q (.ref p) H2) : CR1 (gName j) tt te vs σ [.int m] H Q :=
  ⟨m, rfl, by omega, by omega, z_CW (X := fun i => .int (i : Int)) (walk_range.mono (fun _ h => h) (fun i H x H' _ _ y => ⟨y.1, by rw [y.2]; show V.int (0 + (i : Int)) = _; rw [Int.zero_add]⟩)) (by omega) (fun _ _ => trivial) f v hw ht he q⟩
theorem z_CRv {m : Nat} (hn : m ≤ 40000) (f : Nat → Bool) (v : Nat → V) (hw : ∀ x, wipe ((wipe σ vs).set j (some x)) vs = wipe σ vs)
    (ht : ∀ (i : Nat) H', i < m → Ex H H' → Evl.EvT tt ((wipe σ vs).set j (some (.int ((m - 1 - i : Nat) : Int)))) H' (f i)) (he : ∀ (i : Nat) H', i < m → Ex H H' → f i = true → Evl.Ev te ((wipe σ vs).set j (some (.int ((m - 1 - i : Nat) : Int)))) H' (v i))
    (q : ∀ p H2, H p = none → Ex H H2 → H2 p = some (.lst (Evl.given m f v)) → Q (.ref p) H2) : CRv (gName j) tt te vs σ (.int (m : Int)) H Q := by
  refine ⟨m, rfl, by decide, by decide, by omega, by omega, ?_⟩
  have e : ((m : Int) - 0).toNat = m := by omega
  rw [e]
  exact z_CW (X := fun i => .int ((m - 1 - i : Nat) : Int)) (walk_rangeC.mono (fun _ h => h) (fun i H x H' hi _ y => ⟨y.1, by
    rw [y.2]
    show V.int (0 + (m : Int) - 1 + (i : Int) * -1) = _
    congr 1
    omega⟩)) hn (fun _ _ => trivial) f v hw ht he q
theorem z_CS {z : Str} (hz : z.cps.size ≤ 40000) (f : Nat → Bool) (v : Nat → V) (hw : ∀ x, wipe ((wipe σ vs).set j (some x)) vs = wipe σ vs)
    (ht : ∀ i (c : Nat) H', i < z.cps.size → z.cps[i]? = some c → Ex H H' → Evl.EvT tt ((wipe σ vs).set j (some (.str ⟨#[c]⟩))) H' (f i)) (he : ∀ i (c : Nat) H', i < z.cps.size → z.cps[i]? = some c → Ex H H' → f i = true → Evl.Ev te ((wipe σ vs).set j (some (.str ⟨#[c]⟩))) H' (v i))
    (q : ∀ p H2, H p = none → Ex H H2 → H2 p = some (.lst (Evl.given z.cps.size f v)) → Q (.ref p) H2) : CS (gName j) tt te vs σ (.str z) H Q :=
  ⟨z, rfl, z_CW (X := fun i => .str ⟨#[z.cps.getD i 0]⟩) (walk_str.mono (fun _ h => h) (fun i H x H' _ _ y => by
      obtain ⟨e, c, e2, e3⟩ := y
      refine ⟨e, ?_⟩
      rw [e3]; congr 2; simp [Array.getD_eq_getD_getElem?, e2])) hz (fun _ _ => trivial) f v hw
    (fun i H' hi e => ht i _ H' hi (by simp [hi]) e) (fun i H' hi e hf => he i _ H' hi (by simp [hi]) e hf) q⟩
end
end Z
/-! ### data without truths: == is = -/
namespace Z
open PySem PySem.Spec PyProof.Rows L2
mutual
def cl : PyData → Bool
  | .none => true
  | .int _ => true
  | .str x => PyData.canLay0 (.str x)
  | .list xs => clAll xs
  | .tuple xs => clAll xs
  | .bool _ => false
  | .dict _ => false
def clAll : List PyData → Bool
  | [] => true
  | x :: xs => cl x && clAll xs
end
mutual
theorem cl_lay : ∀ d, cl d = true → d.canLay0 = true
  | .none, _ => rfl
  | .int _, _ => rfl
  | .str _, h => h
  | .list xs, h => clAll_lay xs h
  | .tuple xs, h => clAll_lay xs h
  | .bool _, h => by cases h
  | .dict _, h => by cases h
theorem clAll_lay : ∀ xs, clAll xs = true → PyData.canLayAll0 xs = true
  | [], _ => rfl
  | x :: xs, h => by
    have h' := Bool.and_eq_true_iff.mp (show (cl x && clAll xs) = true from h)
    show (x.canLay0 && PyData.canLayAll0 xs) = true
    rw [cl_lay x h'.1, clAll_lay xs h'.2] <;> rfl
end
mutual
theorem eqv_cl : ∀ d e : PyData, cl d = true → cl e = true → PyData.eqv d e = true → d = e
  | .none, e, _, he, h => by cases e <;> first | rfl | cases h
  | .int i, e, _, he, h => by
    cases e with
    | int j => rw [eq_of_beq (show (i == j) = true from h)]
    | bool _ => cases he
    | _ => cases h
  | .str x, e, _, he, h => by
    cases e with
    | str y => rw [eq_of_beq (show (x == y) = true from h)]
    | _ => cases h
  | .list xs, e, hd, he, h => by
    cases e with
    | list ys => rw [eqvAll_cl xs ys hd he h]
    | _ => cases h
  | .tuple xs, e, hd, he, h => by
    cases e with
    | tuple ys => rw [eqvAll_cl xs ys hd he h]
    | _ => cases h
  | .bool _, _, hd, _, _ => by cases hd
  | .dict _, _, hd, _, _ => by cases hd
theorem eqvAll_cl : ∀ xs ys : List PyData, clAll xs = true → clAll ys = true → PyData.eqvAll xs ys = true → xs = ys
  | [], [], _, _, _ => rfl
  | [], _ :: _, _, _, h => by cases h
  | _ :: _, [], _, _, h => by cases h
  | x :: xs, y :: ys, hd, he, h => by
    have h1 := Bool.and_eq_true_iff.mp (show (cl x && clAll xs) = true from hd)
    have h2 := Bool.and_eq_true_iff.mp (show (cl y && clAll ys) = true from he)
    have h3 := Bool.and_eq_true_iff.mp (show (PyData.eqv x y && PyData.eqvAll xs ys) = true from h)
    rw [eqv_cl x y h1.1 h2.1 h3.1, eqvAll_cl xs ys h1.2 h2.2 h3.2]
end
theorem eqv_iff {d e : PyData} (hd : cl d = true) (he : cl e = true) : PyData.eqv d e = true ↔ d = e :=
  ⟨eqv_cl d e hd he, fun h => by
    rw [h]
    exact SeqAt.eqv_refl e (cl_lay e he)⟩
theorem shaped_cl {d : PyData} (hd : cl d = true) (h : d.depth ≤ 64) : SeqAt.shaped d = true := Bool.and_eq_true_iff.mpr ⟨cl_lay d hd, decide_eq_true h⟩
section
variable {K : PySem.W.Frag} {H : Hp} {Q : VK} {x y : V} {d e : PyData}
/-- == over such data -/
theorem z_eqD {b : Bool} (hx : Dp K H x d) (hy : Dp K H y e) (cd : cl d = true) (ce : cl e = true) (dd : d.depth ≤ 64) (de : e.depth ≤ 64) (hb : b = true ↔ d = e) (q : Q (.bl b) H) : rEqD K x y H Q := by
  refine ⟨d, e, hx, hy, shaped_cl cd dd, shaped_cl ce de, ?_⟩
  have e2 : PyData.eqv d e = b := by
    have h := eqv_iff cd ce
    cases hb2 : PyData.eqv d e with
    | true => exact (hb.mpr (h.mp hb2)).symm
    | false =>
      cases b with
      | false => rfl
      | true => exact absurd (h.mpr (hb.mp rfl)) (by rw [hb2]; decide)
  rw [e2]
  exact q
theorem z_neD {b : Bool} (hx : Dp K H x d) (hy : Dp K H y e) (cd : cl d = true) (ce : cl e = true) (dd : d.depth ≤ 64) (de : e.depth ≤ 64) (hb : b = true ↔ d = e) (q : Q (.bl (!b)) H) : rNeD K x y H Q := by
  refine ⟨d, e, hx, hy, shaped_cl cd dd, shaped_cl ce de, ?_⟩
  have e2 : PyData.eqv d e = b := by
    have h := eqv_iff cd ce
    cases hb2 : PyData.eqv d e with
    | true => exact (hb.mpr (h.mp hb2)).symm
    | false =>
      cases b with
      | false => rfl
      | true => exact absurd (h.mpr (hb.mp rfl)) (by rw [hb2]; decide)
  rw [e2]
  exact q
theorem dp_ints : ∀ l : List Int, DpAll K H (l.map V.int) (l.map PyData.int)
  | [] => .nil
  | i :: l => .cons (.int i) (dp_ints l)
theorem cl_ints : ∀ l : List Int, clAll (l.map PyData.int) = true
  | [] => rfl
  | _ :: l => cl_ints l
theorem depth_ints : ∀ l : List Int, PyData.depthAll (l.map PyData.int) = 0
  | [] => rfl
  | i :: l => by
    show max 0 (PyData.depthAll (l.map PyData.int)) = 0
    rw [depth_ints l] <;> rfl
theorem ints_inj {l m : List Int} (h : l.map PyData.int = m.map PyData.int) : l = m := by
  have e := congrArg (List.map fun d => match d with
    | PyData.int i => i
    | _ => 0) h
  rw [List.map_map, List.map_map] at e
  have f : ∀ l : List Int, List.map ((fun d => match d with
    | PyData.int i => i
    | _ => 0) ∘ PyData.int) l = l := fun l => by
    induction l with
    | nil => rfl
    | cons a l ih => rw [List.map_cons, ih] <;> rfl
  rw [f, f] at e
  exact e
theorem z_eqL {a c : Addr} {l m : List Int} {b : Bool} (hx : SqL K H a (l.map V.int)) (hy : SqL K H c (m.map V.int)) (hb : b = true ↔ l = m) (q : Q (.bl b) H) : rEqD K (.ref a) (.ref c) H Q :=
  z_eqD (.lst hx (dp_ints l)) (.lst hy (dp_ints m)) (cl_ints l) (cl_ints m) (by show PyData.depthAll _ + 1 ≤ 64; rw [depth_ints]; decide) (by show PyData.depthAll _ + 1 ≤ 64; rw [depth_ints]; decide)
    (hb.trans ⟨fun h => by rw [h], fun h => ints_inj (by injection h)⟩) q
end
end Z
/-! ### texts as lists of signs -/
namespace Z
open PySem PySem.Spec PyProof.Rows L2
open Evl (Ex ex_l ex_t ex_rd sq_of st_of fresh_back)
def S (l : List Nat) : Str := ⟨l.toArray⟩
theorem S_len (l : List Nat) : (S l).length = l.length := by
  show l.toArray.size = _
  simp
theorem S_size (l : List Nat) : (S l).cps.size = l.length := S_len l
theorem S_tl (l : List Nat) : (S l).cps.toList = l := by
  show l.toArray.toList = l
  simp
theorem S_of (s : Str) : s = S s.cps.toList := by
  cases s with
  | mk a => simp [S]
theorem S_app (l m : List Nat) : S l ++ S m = S (l ++ m) := by
  show (⟨l.toArray ++ m.toArray⟩ : Str) = ⟨(l ++ m).toArray⟩
  simp
theorem S_inj {l m : List Nat} (h : S l = S m) : l = m := by rw [← S_tl l, h, S_tl]
theorem S_iff {l m : List Nat} : S l = S m ↔ l = m := ⟨S_inj, fun h => by rw [h]⟩
theorem S_get (l : List Nat) (i : Nat) : (S l).cps[i]? = l[i]? := by
  show l.toArray[i]? = _
  simp
/-- a slice by places -/
def cutL (l : List Nat) (lo hi : Option Int) : List Nat := (l.drop (HT.sIx l.length 0 lo)).take (HT.sIx l.length l.length hi - HT.sIx l.length 0 lo)
theorem S_cut (l : List Nat) (lo hi : Option Int) : cutS (S l) lo hi = S (cutL l lo hi) := by
  show (⟨(((S l).cps.toList.drop (HT.sIx (S l).length 0 lo)).take (HT.sIx (S l).length (S l).length hi - HT.sIx (S l).length 0 lo)).toArray⟩ : Str) = _
  rw [S_tl, S_len] <;> rfl
theorem cutL_to (l : List Nat) (n : Nat) : cutL l none (some (n : Int)) = l.take n := by
  unfold cutL
  rw [HT.sIx_none, HT.sIx_nat, List.drop_zero, Nat.sub_zero]
  by_cases h : n ≤ l.length
  · rw [Nat.min_eq_left h]
  · rw [Nat.min_eq_right (by omega), List.take_length, List.take_of_length_le (by omega)]
theorem cutL_from (l : List Nat) (n : Nat) : cutL l (some (n : Int)) none = l.drop n := by
  unfold cutL
  rw [HT.sIx_none, HT.sIx_nat]
  by_cases h : n ≤ l.length
  · rw [Nat.min_eq_left h, List.take_of_length_le (by rw [List.length_drop]; omega)]
  · rw [Nat.min_eq_right (by omega), List.drop_eq_nil_of_le (Nat.le_refl _), List.drop_eq_nil_of_le (by omega), List.take_nil]
theorem cutL_mid (l : List Nat) (m n : Nat) : cutL l (some (m : Int)) (some (n : Int)) = (l.drop m).take (n - m) := by
  unfold cutL
  rw [HT.sIx_nat, HT.sIx_nat]
  by_cases h : m ≤ l.length
  · rw [Nat.min_eq_left h]
    by_cases h2 : n ≤ l.length
    · rw [Nat.min_eq_left h2]
    · rw [Nat.min_eq_right (by omega), List.take_of_length_le (by rw [List.length_drop]; omega), List.take_of_length_le (by rw [List.length_drop]; omega)]
  · rw [List.drop_eq_nil_of_le (by omega), List.drop_eq_nil_of_le (by omega), List.take_nil, List.take_nil]
theorem cutS_le (s : Str) (lo hi : Option Int) : (cutS s lo hi).length ≤ s.length := cutS_length s lo hi
theorem join_S (ls : List (List Nat)) : Txt.join (S []) (ls.map S) = S ls.flatten := by
  rw [TL.join_eq, S_of (Str.join _ _)]
  congr 1
  show TL.tl (Str.join (S []) (ls.map S)) = _
  rw [TL.tl_join]
  have e : TL.tl (S []) = [] := rfl
  have f : ∀ ls : List (List Nat), (ls.map S).map TL.tl = ls := fun ls => by
    rw [List.map_map]
    refine (List.map_congr_left (g := id) fun l _ => S_tl l).trans (List.map_id _)
  rw [e, f]
  have g : ∀ ls : List (List Nat), TL.joinL [] ls = ls.flatten := fun ls => by
    induction ls with
    | nil => rfl
    | cons a r ih =>
      cases r with
      | nil => simp [TL.joinL]
      | cons b r => simp [TL.joinL, ih] at *
  exact g ls
theorem txt_app_len (s z : Str) : (s ++ z).length = s.length + z.length := by
  show (s.cps ++ z.cps).size = _
  rw [Array.size_append] <;> rfl
theorem mul_len (s : Str) (n : Int) (hn : 0 ≤ n) : (Txt.mul s n).length ≤ s.length * n.toNat := by
  unfold Txt.mul
  by_cases h : n < 1
  · rw [if_pos h]
    exact Nat.zero_le _
  · rw [if_neg h]
    by_cases h2 : (n == 1 || s.length == 0) = true
    · rw [if_pos h2]
      exact Nat.le_mul_of_pos_right _ (by omega)
    · rw [if_neg h2]
      show ((List.replicate n.toNat s.cps).foldl (· ++ ·) #[]).size ≤ _
      have g : ∀ (k : Nat) (a : Array Nat), ((List.replicate k s.cps).foldl (· ++ ·) a).size = a.size + s.length * k := fun k => by
        induction k with
        | zero => intro a; simp
        | succ k ih =>
          intro a
          rw [List.replicate_succ, List.foldl_cons, ih, Array.size_append, Nat.mul_succ]
          show a.size + s.cps.size + s.length * k = a.size + (s.length * k + s.cps.size)
          omega
      rw [g]
      simp
theorem mul_ok (s : Str) (n : Int) (h0 : 0 ≤ n) (hn : n ≤ 1000) (hs : s.length ≤ 1000) : MulOk s n := by
  refine ⟨by rw [decide_eq_false (by omega), decide_eq_false (by omega)] <;> rfl, fun h _ => ?_, fun h _ => ?_⟩
  · have : (2 ^ 63 - 1) / 1000 ≤ (2 ^ 63 - 1 : Int) / n := by
      rw [Int.le_ediv_iff_mul_le (by omega)]
      have : (2 ^ 63 - 1 : Int) / 1000 * n ≤ (2 ^ 63 - 1) / 1000 * 1000 := Int.mul_le_mul_of_nonneg_left hn (by decide)
      exact Int.le_trans this (by decide)
    have e : ((2 ^ 63 - 1 : Int)) / 1000 = 9223372036854775 := by decide
    omega
  · have : s.length * n.toNat ≤ 1000 * 1000 := Nat.mul_le_mul hs (by omega)
    show decide (s.length * n.toNat > sizeLine) = false
    exact decide_eq_false (by rw [sizeLine_eq]; omega)
end Z
/-! ### a head's facts and one test more -/
namespace Z
open PySem PySem.Spec PyProof.Rows L2 He
def lookZ (fa : List Fa) (fn : List DefD) (ex : PySem.W.Frag → Bool) (n : Nat) (g : Addr → Option Obj) : AlD × Bool :=
  (obsD fa fn (frG g (asD g n)), ex (frG g (asD g n)))
def hookZ (fa : List Fa) (fn : List DefD) (ex : PySem.W.Frag → Bool) (n : Nat) : PySem.W.Hook where
  α := AlD × Bool
  obs := fun st => lookZ fa fn ex n st.heap.get?
  val := fun _ => (valD fn, true)
  says := fun _ hp => ∃ F : PySem.W.Frag, F.In hp ∧ SaysD fa fn F ∧ ex F = true
  of := fun _ _ eq => ⟨_, frG_in, congrArg Prod.fst eq, congrArg Prod.snd eq⟩
  keeps := fun _ _ _ ⟨F, hF, cF, xF⟩ kp => ⟨F, PySem.W.Frag.In.keeps hF kp, cF, xF⟩
theorem lookZ_eq {fa : List Fa} {fn : List DefD} {ex : PySem.W.Frag → Bool} {n : Nat} {g : Addr → Option Obj} {st : Shared} (hg : ∀ a, g a = st.heap.get? a) : lookZ fa fn ex n g = (hookZ fa fn ex n).obs st := by
  have e : g = st.heap.get? := funext hg
  subst e
  rfl
end Z
/-! ### data, an elder heap's -/
namespace Z
open PySem PySem.Spec PyProof.Rows L2
open Evl (Ex ex_l ex_t ex_rd sq_of st_of fresh_back)
mutual
theorem dp_mono {K : PySem.W.Frag} {H H' : Hp} (e : Ex H H') : ∀ {v : V} {d : PyData}, Dp K H v d → Dp K H' v d
  | _, _, .non => .non
  | _, _, .bl b => .bl b
  | _, _, .int i => .int i
  | _, _, .str x => .str x
  | _, _, .lst s a => .lst (ex_l e s) (dpAll_mono e a)
  | _, _, .tup s a => .tup (ex_t e s) (dpAll_mono e a)
theorem dpAll_mono {K : PySem.W.Frag} {H H' : Hp} (e : Ex H H') : ∀ {vs : List V} {ds : List PyData}, DpAll K H vs ds → DpAll K H' vs ds
  | _, _, .nil => .nil
  | _, _, .cons a r => .cons (dp_mono e a) (dpAll_mono e r)
end
theorem dpAll_app {K : PySem.W.Frag} {H : Hp} : ∀ {vs us : List V} {ds es : List PyData}, DpAll K H vs ds → DpAll K H us es → DpAll K H (vs ++ us) (ds ++ es)
  | _, _, _, _, .nil, b => b
  | _, _, _, _, .cons a r, b => .cons a (dpAll_app r b)
theorem dpAll_len {K : PySem.W.Frag} {H : Hp} : ∀ {vs : List V} {ds : List PyData}, DpAll K H vs ds → vs.length = ds.length
  | _, _, .nil => rfl
  | _, _, .cons _ r => by rw [List.length_cons, List.length_cons, dpAll_len r]
theorem dpAll_get {K : PySem.W.Frag} {H : Hp} : ∀ {vs : List V} {ds : List PyData} {i : Nat} {v : V}, DpAll K H vs ds → vs[i]? = some v → ∃ d, ds[i]? = some d ∧ Dp K H v d
  | _, _, _, _, .nil, h => by simp at h
  | _, _, 0, _, .cons a _, h => by
    cases h
    exact ⟨_, rfl, a⟩
  | _, _, i + 1, _, .cons _ r, h => dpAll_get (i := i) r h
theorem ty_tup {K : PySem.W.Frag} {H : Hp} {a : Addr} {xs : List V} (h : SqT K H a xs) : TyX K H (.ref a) (.type "tuple") := by
  rcases h with (h | ⟨o, h⟩) | ⟨o, its, n, h, hc, _⟩
  · exact .base (.tup h)
  · exact .fTuple h
  · exact .kTuple h hc
theorem ty_lst {K : PySem.W.Frag} {H : Hp} {a : Addr} {xs : List V} (h : SqL K H a xs) : TyX K H (.ref a) (.type "list") := by
  rcases h with (h | ⟨o, h⟩) | ⟨o, its, n, h, hc, _⟩
  · exact .base (.lst h)
  · exact .base (.frz h)
  · exact .kList h hc
/-- a new thing that bears data: I, what was known, grows to J -/
def RetD (K : PySem.W.Frag) (d : PyData) (I H : Hp) (Q : VK) : Prop :=
  ∀ v J H', Ex I J → Ex H H' → Ex J H' → (∀ a o, H a = some o → I a = none → J a = none) → Dp K J v d → Q v H'
/-- a new list of such things -/
def RetLD (K : PySem.W.Frag) (ds : List PyData) (H : Hp) (Q : VK) : Prop :=
  ∀ p xs H', H p = none → Ex H H' → H' p = some (.lst xs) → DpAll K H' xs ds → Q (.ref p) H'
/-- a new tuple over what is known -/
theorem RetD.tup {K : PySem.W.Frag} {ds : List PyData} {I H : Hp} {Q : VK} {p : Addr} {xs : List V} (q : RetD K (.tuple ds) I H Q) (e : Ex I H) (hp : H p = none) (h : DpAll K I xs ds) : Q (.ref p) (upd H p (.tup xs)) := by
  have ip : I p = none := fresh_back e hp
  refine q (.ref p) (upd I p (.tup xs)) _ (Ex.new ip) (Ex.new hp) (fun b o hb => ?_) (fun a o ha hI => ?_) (.tup (st_of upd_same) (dpAll_mono (Ex.new ip) h))
  · by_cases hbp : b = p
    · subst hbp
      rw [upd_same] at hb ⊢
      exact hb
    · rw [upd_ne hbp] at hb ⊢
      exact e b o hb
  · have ne : a ≠ p := fun z => by
      rw [z, hp] at ha
      cases ha
    rw [upd_ne ne]
    exact hI
end Z

set_option Elab.async false
set_option linter.all false
set_option maxRecDepth 100000
set_option maxHeartbeats 4000000
/-! Zc: methods and makings of own classes, in short steps. -/
namespace Z
open PySem PySem.Spec PyProof.Rows L2
/-- a method's text, as it stands behind the top -/
def DM (K : PySem.W.Frag) (C m qual : Str) (st : Stmt) : Prop := ∃ fd, FunD K m qual (defArgs st) (defBody st) (defScope st) [] [] (He.ma K (He.ga K C) m) fd
def inCls (st : Stmt) (j : Nat) : Stmt := match st with
  | .ClassDef (body := b) .. => b.getD j (.Pass ⟨0, 0, 0, 0⟩)
  | _ => .Pass ⟨0, 0, 0, 0⟩
structure CalM (P : Program) (w : World) (K : PySem.W.Frag) (mg : Str → Option Value) (base : Heap) (k : Nat) (C : Addr) (m : Str) (sp : Sp) : Prop where
  ex : ∃ (fd : FuncData) (ps : List Str), FnOk P w K mg base CX0 k (He.ma K C m) fd ps sp ∧ Cls K C ∧ Meth K C m (He.ma K C m) ∧ Binds K fd ps []
structure CalI (P : Program) (w : World) (K : PySem.W.Frag) (mg : Str → Option Value) (base : Heap) (k : Nat) (x : Str) (C : Addr) (sp : Sp) : Prop where
  ex : ∃ (fd : FuncData) (ps : List Str), FnOk P w K mg base CX0 k (He.ma K C "__init__") fd ps sp ∧ Mk K C (He.ma K C "__init__") ∧ mg x = some (.ref C) ∧ Binds K fd ps []
section
variable {P : Program} {w : World} {K : PySem.W.Frag} {mg : Str → Option Value} {base : Heap}
theorem fn_mk {C m qual : Str} {st : Stmt} {N ps : List Str} {k : Nat} {sp : Sp} {t : TS} (D : DM K C m qual st) (S : FnScope N ps (defScope st))
    (hb : ∀ (kV doc pm : Value) (an : Option Addr) (cdv ct : Value) (us : List Value), us.length = ps.length → bindArgs (PySem.W.fnOf m qual (defArgs st) (defBody st) (defScope st) .none kV doc pm an cdv ct) ⟨us, []⟩ = pure (ps.zip us))
    (len : ∀ vs H Q E, sp vs H Q E → vs.length = ps.length)
    (hd : ∀ (f : Addr) (cdv : Value) (A : Around) (outer : List Env) (s : Shared) (H : Hp) (E : XK), Room k (A.deeper (envOfC qual (defScope st) s.heap.objs.size f cdv)) → PSs (cxOf CX0 P w K mg base N qual (defScope st) f cdv A outer s H E).nox (defBody st) t)
    (hv : ∀ vs H Q E, sp vs H Q E → t { nx := fun _ H' => Q .non H', rt := Q } (start N vs) H) : ∃ fd, FnOk P w K mg base CX0 (k + 1) (He.ma K (He.ga K C) m) fd ps sp ∧ Binds K fd ps [] := by
  obtain ⟨fd, F⟩ := D
  exact ⟨fd, F.ok S len fun cdv A outer s H vs Q E hr h => ⟨t, PSs.nox (hd _ cdv A outer s H E hr), hv vs H Q E h⟩, F.bindsN hb⟩
theorem calM_mk {C m qual : Str} {st : Stmt} {N ps : List Str} {k : Nat} {sp : Sp} {t : TS} (c : Cls K (He.ga K C)) (me : Meth K (He.ga K C) m (He.ma K (He.ga K C) m)) (D : DM K C m qual st) (S : FnScope N ps (defScope st))
    (hb : ∀ (kV doc pm : Value) (an : Option Addr) (cdv ct : Value) (us : List Value), us.length = ps.length → bindArgs (PySem.W.fnOf m qual (defArgs st) (defBody st) (defScope st) .none kV doc pm an cdv ct) ⟨us, []⟩ = pure (ps.zip us))
    (len : ∀ vs H Q E, sp vs H Q E → vs.length = ps.length)
    (hd : ∀ (f : Addr) (cdv : Value) (A : Around) (outer : List Env) (s : Shared) (H : Hp) (E : XK), Room k (A.deeper (envOfC qual (defScope st) s.heap.objs.size f cdv)) → PSs (cxOf CX0 P w K mg base N qual (defScope st) f cdv A outer s H E).nox (defBody st) t)
    (hv : ∀ vs H Q E, sp vs H Q E → t { nx := fun _ H' => Q .non H', rt := Q } (start N vs) H) : CalM P w K mg base (k + 1) (He.ga K C) m sp := by
  obtain ⟨fd, F, b⟩ := fn_mk D S hb len hd hv
  exact ⟨fd, ps, F, c, me, b⟩
theorem calI_mk {C qual : Str} {st : Stmt} {N ps : List Str} {k : Nat} {sp : Sp} {t : TS} (M : Mk K (He.ga K C) (He.ma K (He.ga K C) "__init__")) (g : mg C = some (.ref (He.ga K C))) (D : DM K C "__init__" qual st) (S : FnScope N ps (defScope st))
    (hb : ∀ (kV doc pm : Value) (an : Option Addr) (cdv ct : Value) (us : List Value), us.length = ps.length → bindArgs (PySem.W.fnOf "__init__" qual (defArgs st) (defBody st) (defScope st) .none kV doc pm an cdv ct) ⟨us, []⟩ = pure (ps.zip us))
    (len : ∀ vs H Q E, sp vs H Q E → vs.length = ps.length)
    (hd : ∀ (f : Addr) (cdv : Value) (A : Around) (outer : List Env) (s : Shared) (H : Hp) (E : XK), Room k (A.deeper (envOfC qual (defScope st) s.heap.objs.size f cdv)) → PSs (cxOf CX0 P w K mg base N qual (defScope st) f cdv A outer s H E).nox (defBody st) t)
    (hv : ∀ vs H Q E, sp vs H Q E → t { nx := fun _ H' => Q .non H', rt := Q } (start N vs) H) : CalI P w K mg base (k + 1) C (He.ga K C) sp := by
  obtain ⟨fd, F, b⟩ := fn_mk D S hb len hd hv
  exact ⟨fd, ps, F, M, g, b⟩
end
section
variable {X : Cx} {k j : Nat} {x m : Str} {C : Addr} {sp : Sp} {p pos apos : Pos} {e o : Expr} {es : List Expr} {t : TA} {ta : TE}
theorem pe_m {pl : Sem Bool} (c : CalM X.prog X.w X.K X.mg X.base k C m sp) (hr : Room j X.A) (hk : k ≤ j) (he : PE X o ta) (ha : PA X (e :: es) t)
    (h1 : starEach (e :: es) X.env = (false, eval e X.env) :: starEach es X.env := by rfl) (h2 : (backTo pos (starEach es X.env)).any (·.1) = false := by rfl)
    (h3 : eval (.Call (.Attribute o m apos) (e :: es) [] pos) X.env = (eval o X.env >>= fun ov => standAt apos.atName >>= fun _ => holding [ov] (getMethod ov m pl) >>= fun gf => callWith pos gf.1 gf.2 (backTo pos (starEach (e :: es) X.env)) (backToKw pos (keywordEach [] X.env))) := by rfl) :
    PE X (.Call (.Attribute o m apos) (e :: es) [] pos) (tMeth C m sp [] E0 ta t) := by
  obtain ⟨fd, ps, F, hc, hm, b⟩ := c.ex
  exact pe_meth (pl := pl) he hc hm F (hr.mono hk) b .nil pass0 ha h1 h2 h3
theorem pe_m0 {pl : Sem Bool} (c : CalM X.prog X.w X.K X.mg X.base k C m sp) (hr : Room j X.A) (hk : k ≤ j) (he : PE X o ta)
    (h3 : eval (.Call (.Attribute o m apos) [] [] pos) X.env = (eval o X.env >>= fun ov => standAt apos.atName >>= fun _ => holding [ov] (getMethod ov m pl) >>= fun gf => callWith pos gf.1 gf.2 (backTo pos (starEach [] X.env)) (backToKw pos (keywordEach [] X.env))) := by rfl) :
    PE X (.Call (.Attribute o m apos) [] [] pos) (tMeth C m sp [] E0 ta tNil) := by
  obtain ⟨fd, ps, F, hc, hm, b⟩ := c.ex
  exact pe_meth0 (pl := pl) he hc hm F (hr.mono hk) b .nil pass0 h3
theorem pe_i (c : CalI X.prog X.w X.K X.mg X.base k x C sp) (hr : Room j X.A) (hk : k + 1 ≤ j) (hg : Gl X x) (ha : PA X (e :: es) t)
    (hdb : (x == ("__debug__" : Str)) = false := by decide) (h1 : starEach (e :: es) X.env = (false, eval e X.env) :: starEach es X.env := by rfl) (h2 : (backTo pos (starEach es X.env)).any (·.1) = false := by rfl) :
    PE X (.Call (.Name x p) (e :: es) [] pos) (tMake C sp [] E0 t) := by
  obtain ⟨fd, ps, F, M, hm, b⟩ := c.ex
  exact pe_make M F (hr.mono hk) hg hm b .nil pass0 ha hdb h1 h2
theorem pe_i0 (c : CalI X.prog X.w X.K X.mg X.base k x C sp) (hr : Room j X.A) (hk : k + 1 ≤ j) (hg : Gl X x) (hdb : (x == ("__debug__" : Str)) = false := by decide) :
    PE X (.Call (.Name x p) [] [] pos) (tMake C sp [] E0 tNil) := by
  obtain ⟨fd, ps, F, M, hm, b⟩ := c.ex
  exact pe_make0 M F (hr.mono hk) hg hm b .nil pass0 hdb
end
/-! ### steps -/
def FldR (K : PySem.W.Frag) (f : Str) (x : V) (H : Hp) (Q : VK) : Prop := ∃ a C dx fs v, x = .ref a ∧ H a = some (.ins C dx fs) ∧ Cls K C ∧ NoAttr K C f ∧ fs.lookup f = some v ∧ Q v H
def FldW (K : PySem.W.Frag) (f : Str) (y x : V) (σ : L2.St) (H : Hp) (D : Ends) : Prop := ∃ a C dx fs, x = .ref a ∧ H a = some (.ins C dx fs) ∧ Cls K C ∧ NoAttr K C f ∧ fs.length < 1000 ∧ D.nx σ (upd H a (.ins C dx (putF f y fs)))
def MethR (C : Addr) (m : Str) (sp : Sp) (t : TA) (σ : L2.St) (Q : VK) (x : V) (H : Hp) : Prop := ∃ a dx fs, x = .ref a ∧ H a = some (.ins C dx fs) ∧ fs.lookup m = none ∧ t σ H fun vs H2 => sp (x :: (vs ++ [])) H2 Q E0
section
variable {K : PySem.W.Frag} {σ : L2.St} {H : Hp} {Q : VK} {D : Ends} {ta tv : TE} {t : TA} {f m : Str} {C a dx : Addr} {fs : List (Str × V)} {v x : V} {sp : Sp}
theorem z_fld (q : ta σ H fun x H1 => FldR K f x H1 Q) : tFld K ta f σ H Q := q
theorem z_fldR (h : H a = some (.ins C dx fs)) (c : Cls K C) (n : NoAttr K C f) (e : fs.lookup f = some v) (q : Q v H) : FldR K f (.ref a) H Q := ⟨a, C, dx, fs, v, rfl, h, c, n, e, q⟩
theorem z_sfld (q : tv σ H fun y H1 => ta σ H1 fun x H2 => FldW K f y x σ H2 D) : sFld K ta tv f D σ H := q
theorem z_fldW (h : H a = some (.ins C dx fs)) (c : Cls K C) (n : NoAttr K C f) (l : fs.length < 1000) (q : D.nx σ (upd H a (.ins C dx (putF f v fs)))) : FldW K f v (.ref a) σ H D := ⟨a, C, dx, fs, rfl, h, c, n, l, q⟩
theorem z_meth (q : ta σ H fun x H1 => MethR C m sp t σ Q x H1) : tMeth C m sp [] E0 ta t σ H Q := q
theorem z_methR (h : H a = some (.ins C dx fs)) (e : fs.lookup m = none) (q : t σ H fun vs H2 => sp (.ref a :: (vs ++ [])) H2 Q E0) : MethR C m sp t σ Q (.ref a) H := ⟨a, dx, fs, rfl, h, e, q⟩
theorem z_make (q : t σ H fun vs H1 => ∀ x dx, H1 x = none → H1 dx = none → dx ≠ x → sp (.ref x :: (vs ++ [])) (upd (upd H1 dx (.own x)) x (.ins C dx [])) (fun v H2 => v = .non ∧ Q (.ref x) H2) E0) : tMake C sp [] E0 t σ H Q := q
end
/-! ### more short steps -/
abbrev cTupOf (K : PySem.W.Frag) : List V → Hp → VK → Prop := fun xs H Q => ∃ p ys, xs = [.ref p] ∧ ((SqL K H p ys ∧ ∀ l, H l = none → Q (.ref l) (upd H l (.tup ys))) ∨ (SqT K H p ys ∧ Q (.ref p) H))
abbrev cListOf (K : PySem.W.Frag) : List V → Hp → VK → Prop := fun xs H Q => ∃ p ys, xs = [.ref p] ∧ (SqL K H p ys ∨ SqT K H p ys) ∧ ∀ l, H l = none → Q (.ref l) (upd H l (.lst ys))
theorem at_some {α : Type} {l : List α} {i : Int} (h0 : 0 ≤ i) (h : i < l.length) : ∃ c, atI l i = some c ∧ c ∈ l := by
  obtain ⟨j, rfl⟩ := Int.eq_ofNat_of_zero_le h0
  have hj : j < l.length := Int.ofNat_lt.mp h
  exact ⟨l[j], atI_nat (List.getElem?_eq_getElem hj), List.getElem_mem hj⟩
/-- xs != [], xs == [], of lists of any things that are data without truths -/
theorem z_neNil {K : PySem.W.Frag} {H : Hp} {Q : VK} {a c : Addr} {xs : List V} {ds : List PyData} (hx : SqL K H a xs) (hd : DpAll K H xs ds) (hc : SqL K H c []) (cl : clAll ds = true) (dd : PyData.depthAll ds + 1 ≤ 64) (q : Q (.bl (!xs.isEmpty)) H) : rNeD K (.ref a) (.ref c) H Q := by
  refine z_neD (b := xs.isEmpty) (.lst hx hd) (.lst hc .nil) cl rfl dd (by decide) ?_ q
  cases hd with
  | nil => exact ⟨fun _ => rfl, fun _ => rfl⟩
  | cons a r => exact ⟨fun h => (by cases h), fun h => (by cases h)⟩
section
variable {σ : L2.St} {H : Hp} {D : Ends} {ta : TA} {i j : Nat} {to ti : TE} {t : TSet} {v : V} {QS : L2.St → Hp → Prop}
theorem z_par (q : ta σ H fun vs H1 => ∃ v w, vs = [v, w] ∧ D.nx ((σ.set i (some v)).set j (some w)) H1) : tPar i j ta D σ H := q
theorem z_gsub (q : to σ H fun o H1 => ti σ H1 fun i H2 => t o i v H2 fun H3 => QS σ H3) : gSub to ti t v σ H QS := q
end
end Z

set_option Elab.async false
set_option linter.all false
set_option maxRecDepth 100000
set_option maxHeartbeats 4000000
/-! Zg: promises that hold where no repr is under way (A.guards = some []), and a law's end over such a promise. -/
namespace Z
open PySem PySem.Spec PyProof.Rows L2
/-- a def's promise where no repr is under way -/
structure FnG (P : Program) (w : World) (K : PySem.W.Frag) (mg : Str → Option Value) (base : Heap) (k : Nat) (f : Addr) (fd : FuncData) (xs : List Str) (sp : Sp) : Prop where
  many : ∀ vs H Q E, sp vs H Q E → vs.length = xs.length
  go : ∀ (B : Around) (st : List Env) (s : Shared) (H : Hp) (ar : Args) (us : List Value) (vs : List V) (Q : VK) (E : XK), B.guards = some [] → Room k B → Env0 P w K mg base B st s H → BindsTo s fd ar (xs.zip us) → Vals vs us → sp vs H Q E →
    codeAny (model P w) B (.call (.ref f) ar) (CR CX0 st P w H s Q E) s
theorem FnG.all {P : Program} {w : World} {K : PySem.W.Frag} {mg : Str → Option Value} {base : Heap} {k : Nat} {f : Addr} {fd : FuncData} {xs : List Str} {sp : Sp} (F : FnOk P w K mg base CX0 k f fd xs sp) : FnG P w K mg base k f fd xs sp :=
  ⟨F.len, fun B st s H ar us vs Q E _ hr e b v q => F.run B st s H ar us vs Q E hr e b v q⟩
section
variable {P : Program} {w : World} {K : PySem.W.Frag} {mg : Str → Option Value} {base : Heap} {x qual : Str} {params : Arguments} {body : List Stmt} {scope : Scope} {dvs : List V} {kws : List (Str × V)} {f : Addr} {fd : FuncData}
theorem FnG.of {N xs : List Str} {k : Nat} {sp : Sp} (F : FunD K x qual params body scope dvs kws f fd) (S : FnScope N xs scope) (many : ∀ vs H Q E, sp vs H Q E → vs.length = xs.length)
    (hb : ∀ (cv : Value) (B : Around) (st : List Env) (s : Shared) (H : Hp) (vs : List V) (Q : VK) (E : XK), B.guards = some [] → Room k (B.deeper (envOfC qual scope s.heap.objs.size f cv)) → sp vs H Q E →
      ∃ t, PSs (cxOf CX0 P w K mg base N qual scope f cv B st s H E) body t ∧ t { nx := fun _ H' => Q .non H', rt := Q } (start N vs) H) : FnG P w K mg base (k + 1) f fd xs sp := by
  obtain ⟨oc, od, dV, kV, doc, pm, an, cv, ct, sl, rfl, lk, hcd, _, _⟩ := F.ex
  constructor
  · exact many
  intro B st s H ar us vs Q E hg room env0 binds rel q0
  have inHeap : K.In s.heap := env0.mod.kin.keeps fun b o z => (env0.bs b o z).1
  have free : s.heap.NoLimit := env0.mod.nolimit.keeps fun b o z => (env0.bs b o z).1
  have lenV := many _ _ _ _ q0
  have kinds : ∀ y ∈ xs.zip us, scope.names.lookup y.1 = some .local ∨ (scope.names.lookup y.1 = some .cell ∧ ((cellsFrom (s.heap.objs.size + 1) scope.names []).lookup y.1).isSome = true) := by
    rintro ⟨n, v⟩ hy
    rcases S.par n (List.of_mem_zip hy).1 with z | z
    · exact Or.inl z
    · exact Or.inr ⟨z, PySem.W.cellsFrom_some _ _ _ (Or.inl z)⟩
  refine codeAny_call_function room.depth (inHeap _ _ lk) rfl S.co S.gen rfl (PySem.W.codeRec_of inHeap hcd) (binds _ _ _ _ ?_)
  refine wpAny_newFunctionEnv_cells S.kind kinds fun env hv s1 y => ?_
  cases hv
  refine ⟨free.keeps y.toInCall.keep, codeAny_func ?_⟩
  obtain ⟨t, ht, q1⟩ := hb cv B st s H vs Q E hg (room.deeper _) q0
  have inv0 : Inv (cxOf CX0 P w K mg base N qual scope f cv B st s H E) [] (start N vs) H s1 := inv_start S room.hd env0 lenV rel y
  have ending : ∀ {σ' : L2.St} {H' : Hp} {s' : Shared} {v : V} {u : Value}, Inv (cxOf CX0 P w K mg base N qual scope f cv B st s H E) [] σ' H' s' → RelV v u → Q v H' → CE st P w H s Q u s' :=
    fun {_ H' _ v _} J r z => ⟨v, H', J.os, J.bare, J.base, J.hok, r, z⟩
  refine wpAny_mono (ht.run [] s1 (start N vs) H _ inv0 q1) ?_ fun _ _ z => z
  intro fl s' z
  match fl, z with
  | .ret u, ⟨v, σ', H', J, r, z⟩ => exact ending J r z
  | .next, ⟨σ', H', J, z⟩ => exact ending (v := V.non) (u := Value.none) J rfl z
  | .brk, ⟨_, _, _, z⟩ => exact z.elim
  | .cont, ⟨_, _, _, z⟩ => exact z.elim
end
section
variable {P : Program} {w : World} {K : PySem.W.Frag} {mg mb : Str → Option Value} {k : Nat} {fa a : Addr} {fd : FuncData} {x : Str} {sp : Sp} {s₁ : Shared} {vs : List Value} {ns : List Int}
theorem hid_ns {H : Hp} (only : ∀ b, H b ≠ none → b = a) (list : s₁.heap.get? a = some { cls := .type "list", data := .seq vs.toArray }) {b : Addr} {m : Str → Option Value} (h : s₁.heap.Ns b m) : (hidT s₁.heap H).Ns b m := by
  obtain ⟨o, es, ep, e, d, r⟩ := h
  refine ⟨o, es, ep, hidT_get e ?_, d, r⟩
  cases z : H b with
  | none => rfl
  | some u =>
    obtain rfl : b = a := only b (by rw [z]; exact Option.some_ne_none u)
    rw [list] at e
    obtain rfl := Option.some.inj e
    exact Data.noConfusion d
theorem law_G1 (inHeap : K.In s₁.heap) (globals : s₁.heap.Ns mainGlobals mg) (names : s₁.heap.Ns builtinsNs mb) (boots : ∀ x : Str, x ≠ "__name__" → mb x = bootBuiltins x) (free : s₁.heap.NoLimit) (still : s₁.gens = #[])
    (list : s₁.heap.get? a = some { cls := .type "list", data := .seq vs.toArray }) (room : Room k callerA)
    (F : ∀ base : Heap, K.In base → base.Ns mainGlobals mg → FnG P w K mg base k fa fd [x] sp) (binds : ∀ (s : Shared) (u : Value), BindsTo s fd ⟨[u], []⟩ [(x, u)])
    {H : Hp} (hO : Only H) (hs : sp [.ref a] H (fun v _ => v = .bl true) fun _ _ _ => False) (hok : HOk P w H s₁.heap) (only : ∀ b, H b ≠ none → b = a) (apart : H a ≠ none → K.lookup a = none) :
    codeAny (model P w) callerA (.call (.ref fa) ⟨[.ref a], []⟩) (fun r s' => r = .ok (.ret (.bool true)) ∧ OldK s₁.heap s'.heap ∧ s'.os = s₁.os ∧ AllBare s'.gens) s₁ := by
  have kIn : K.In (hidT s₁.heap H) := by
    intro b o e
    refine hidT_get (inHeap b o e) ?_
    cases z : H b with
    | none => rfl
    | some u =>
      obtain rfl : b = a := only b (by rw [z]; exact Option.some_ne_none u)
      rw [apart (by rw [z]; exact Option.some_ne_none u)] at e
      cases e
  have nolim : (hidT s₁.heap H).NoLimit := by
    obtain ⟨mc, z1, z2⟩ := free
    exact ⟨mc, hid_ns only list z1, z2⟩
  have g2 := hid_ns only list globals
  have env0 : Env0 P w K mg (hidT s₁.heap H) callerA [] s₁ H :=
    { frames := rfl, mod := ⟨kIn, g2, ⟨mb, hid_ns only list names, boots⟩, nolim⟩, bs := fun b o e => of_hidT e, bsz := Nat.le_of_eq (hidT_size _ _), funs := trivial, frf := fun b z => absurd (show b ∈ ([] : List Addr) from z) List.not_mem_nil, hok := hok, bare := .of_eq still }
  have run := (F _ kIn g2).go callerA [] s₁ H ⟨[.ref a], []⟩ [.ref a] [.ref a] _ _ rfl room env0 (binds s₁ (.ref a)) (.cons rfl .nil) hs
  refine codeAny_mono run ?_
  intro r s' z
  match r, z with
  | .error e, z => exact False.elim z
  | .ok .next, z => exact False.elim z
  | .ok .brk, z => exact False.elim z
  | .ok .cont, z => exact False.elim z
  | .ok (.ret u), ⟨v, H', os, bare, un, hok2, rel, z⟩ =>
    have zv : v = .bl true := z
    subst zv
    have zu : u = Value.bool true := rel
    subst zu
    refine ⟨rfl, OldK.of_keep ?_, os, bare⟩
    intro b o e
    rcases hO b with n | ⟨ob, ys, n⟩
    · exact un.keep b o e n (fun y => absurd (show b ∈ ([] : List Addr) from y) List.not_mem_nil) (by simp)
    · have n2 := un.frzs b ob _ n
      have o1 := (hok b _ n).1
      have o2 := (hok2 b _ n2).1
      rw [e] at o1
      cases o1
      exact o2
theorem law_G (inHeap : K.In s₁.heap) (globals : s₁.heap.Ns mainGlobals mg) (names : s₁.heap.Ns builtinsNs mb) (boots : ∀ x : Str, x ≠ "__name__" → mb x = bootBuiltins x) (free : s₁.heap.NoLimit) (still : s₁.gens = #[])
    (list : s₁.heap.get? a = some { cls := .type "list", data := .seq vs.toArray }) (nums : IntsAre vs ns) (few : ns.length ≤ sizeLine) (room : Room k callerA)
    (F : ∀ base : Heap, K.In base → base.Ns mainGlobals mg → FnG P w K mg base k fa fd [x] sp) (binds : ∀ (s : Shared) (u : Value), BindsTo s fd ⟨[u], []⟩ [(x, u)])
    (promised : ∀ H : Hp, Only H → SqL K H a (ns.map V.int) → sp [.ref a] H (fun v _ => v = .bl true) fun _ _ _ => False) :
    codeAny (model P w) callerA (.call (.ref fa) ⟨[.ref a], []⟩) (fun r s' => r = .ok (.ret (.bool true)) ∧ OldK s₁.heap s'.heap ∧ s'.os = s₁.os ∧ AllBare s'.gens) s₁ := by
  have rel := vals_ints nums
  have size := nums.length
  by_cases lk : K.lookup a = none
  · obtain ⟨H, hH⟩ : ∃ H : Hp, ∀ b, H b = if b = a then some (.frz { cls := .type "list", data := .seq vs.toArray } (.lst (ns.map V.int))) else none := ⟨_, fun _ => rfl⟩
    have at_a : H a = some (.frz { cls := .type "list", data := .seq vs.toArray } (.lst (ns.map V.int))) := (hH a).trans (if_pos rfl)
    have off : ∀ b, b ≠ a → H b = none := fun b h => (hH b).trans (if_neg h)
    have only : ∀ b, H b ≠ none → b = a := fun b h => Classical.byContradiction fun z => h (off b z)
    have hO : Only H := fun b => by
      by_cases z : b = a
      · exact .inr ⟨_, _, by rw [z]; exact at_a⟩
      · exact .inl (off b z)
    refine law_G1 inHeap globals names boots free still list room F binds hO (promised H hO (.inl (.inr ⟨_, at_a⟩))) ?_ only fun _ => lk
    intro b u h
    obtain rfl : b = a := only b (by rw [h]; exact Option.some_ne_none u)
    rw [at_a] at h
    obtain rfl := Option.some.inj h
    exact ⟨list, by rw [List.length_map]; exact few, vs, _, rel, list⟩
  · obtain ⟨o, lk2⟩ : ∃ o, K.lookup a = some o := by
      cases z : K.lookup a with
      | none => exact absurd z lk
      | some o => exact ⟨o, rfl⟩
    have own := inHeap a o lk2
    rw [list] at own
    cases own
    have hO : Only fun _ => none := fun _ => .inl rfl
    refine law_G1 inHeap globals names boots free still list room F binds hO (promised _ hO (.inr ⟨_, vs.toArray, _, lk2, rfl, rfl, rfl, ?_, ?_⟩)) ?_ (fun _ z => absurd rfl z) fun z => absurd rfl z
    · rw [List.size_toArray, size]
      exact few
    · simpa using rel
    · intro b u h
      cases h
end
/-- a law's end, as walk_ofE, over such a promise -/
theorem walk_G {l : PySem.W.OpenLaw} {n k : Nat} {q : Program} {loose : List Str} {XP : (Str → Option Value) → Heap → Prop} {YP : World → Heap → Prop} {d : DefRec} {x : Str}
    (most : l.most = some n) (line : n ≤ sizeLine) (plain : d.params.defaults = []) (room : Room k callerA)
    (F : ∀ (w : World) (mg : Str → Option Value) (fa : Addr) (h : Heap), YP w h → h.Ns mainGlobals mg → mg d.name = some (.ref fa) →
      ∃ (K : PySem.W.Frag) (fd : FuncData) (sp : Sp), K.In h ∧ (∀ (s : Shared) (u : Value), BindsTo s fd ⟨[u], []⟩ [(x, u)]) ∧
        (∀ (H : Hp) (a : Addr) (ns : List Int), ns.length ≤ n → Only H → SqL K H a (ns.map V.int) → sp [.ref a] H (fun v _ => v = .bl true) fun _ _ _ => False) ∧
        ∀ base : Heap, K.In base → base.Ns mainGlobals mg → FnG l.prog w K mg base k fa fd [x] sp) :
    PySem.W.WalkO q loose XP YP l.row.toRowW d [] (fun f vs => PySem.call f vs) := by
  apply Att.attach_call most plain
  intro w s₀ s₁ mg mb fa o pm cd doc a vs ns ground y hof hdat hcode hname hlist hints hmany hstill
  obtain ⟨K, fd, sp, inHeap, binds, promised, hF⟩ := F w mg fa _ y ground.T.g hname
  exact law_G inHeap ground.T.g ground.T.b ground.T.builtins ground.T.nolimit hstill hlist hints (Nat.le_trans hmany line) room hF binds fun H hO hS => promised H a ns hmany hO hS
end Z

set_option Elab.async false
set_option linter.all false
set_option maxRecDepth 100000
set_option maxHeartbeats 4000000
/-! Zg2: repr of data and of a dict of such, where no repr is under way. -/
namespace Z
open PySem PySem.Spec PyProof.Rows L2
def keyD : Key → PyData
  | .inl i => .int i
  | .inr x => .str x
theorem key_reads {P : Program} {w : World} {h : Heap} {k : Key} {v : Value} (e : (mixKind P w).is k v = true) : Reads h v (keyD k) [] := by
  rcases keyIs_shape e with ⟨i, t, rfl, rfl⟩ | ⟨x, t, rfl, rfl⟩
  · exact .int i t
  · exact .str x t
theorem pairs_reads {P : Program} {w : World} {h : Heap} : ∀ {es : List DictEntry} {kvs : List (Key × Value)}, Pairs (mixKind P w) es kvs → ReadsAll h (es.map (·.key)) (kvs.map fun p => keyD p.1) [] ∧ es.map (·.val) = kvs.map (·.2)
  | _, _, .nil => ⟨.nil, rfl⟩
  | _, _, .cons e v r => by
    obtain ⟨z1, z2⟩ := pairs_reads (h := h) r
    refine ⟨ReadsAll.cons (as := []) (bs := []) (key_reads e) z1, ?_⟩
    rw [List.map_cons, List.map_cons, z2, v]
theorem kv_parts : ∀ {kvs : List (Key × V)} {vs : List (Key × Value)}, KV kvs vs → vs.map (·.1) = kvs.map (·.1) ∧ Vals (kvs.map (·.2)) (vs.map (·.2))
  | _, _, .nil => ⟨rfl, .nil⟩
  | _, _, .cons e r => by
    obtain ⟨z1, z2⟩ := kv_parts r
    exact ⟨by rw [List.map_cons, List.map_cons, z1, e.1], .cons e.2 z2⟩
/-- the data of a dict -/
def dictD (kvs : List (Key × V)) (ds : List PyData) : PyData := .dict ((kvs.map fun p => keyD p.1).zip ds)
/-- repr of a dict with values that are data without dicts -/
def rReprK (K : PySem.W.Frag) : List V → Hp → VK → Prop := fun xs H Q => ∃ (a : Addr) (kvs : List (Key × V)) (ds : List PyData), xs = [.ref a] ∧ Rd H a (.dK kvs) ∧ DpAll K H (kvs.map (·.2)) ds ∧ (dictD kvs ds).showable = true ∧ PyData.hasDictAll ds = false ∧ (dictD kvs ds).depth ≤ 50 ∧ (dictD kvs ds).shown.length ≤ sizeLine ∧ Q (.str (dictD kvs ds).shown) H
theorem call_reprK {X : Cx} (quiet : X.A.guards = some []) (hu : X.A.units + 64 < cLine) : CallR X (.builtin "repr") (rReprK X.K) := by
  intro pins s σ H xs us Q I r h
  obtain ⟨a, kvs, ds, rfl, hR, hD, sh, nd, dp, sz, q⟩ := h
  obtain ⟨u, rfl, ru⟩ := vals1 r
  cases ru
  obtain ⟨_, hsys, vs, hkv, o, es, ep, ho, ex, hd, _, pr, _⟩ := dk_rd I.hok hR
  obtain ⟨ek, vv⟩ := kv_parts hkv
  obtain ⟨rk, ev⟩ := pairs_reads (h := s.heap) pr
  rw [← ev] at vv
  obtain ⟨bs, rv⟩ := Dp.readsAll I ds _ _ hD vv
  have eks : (vs.map fun p => keyD p.1) = kvs.map fun p => keyD p.1 := by
    have := congrArg (List.map keyD) ek
    rwa [List.map_map, List.map_map] at this
  rw [eks] at rk
  have ll : (kvs.map fun p => keyD p.1).length = ds.length := by
    rw [← dpAll_len hD, List.length_map, List.length_map]
  have z1 : ((kvs.map fun p => keyD p.1).zip ds).map (·.1) = kvs.map fun p => keyD p.1 := List.map_fst_zip (by omega)
  have z2 : ((kvs.map fun p => keyD p.1).zip ds).map (·.2) = ds := List.map_snd_zip (by omega)
  unfold dictD at sh dp sz q
  generalize (kvs.map fun p => keyD p.1).zip ds = dd at *
  rw [← z1] at rk
  rw [← z2] at rv nd
  have szD : (dictText (PyData.shownKv dd)).length ≤ sizeLine := by simpa only [PyData.shown] using sz
  have dpD : PyData.depthKv dd + 1 ≤ 50 := by simpa only [PyData.depth] using dp
  obtain ⟨sk, sv⟩ := PyData.showableKv_split dd (by simpa only [PyData.showable] using sh)
  obtain ⟨c1, m1, k1⟩ := ReprAllK.of_readsAll (prog := X.prog) (w := X.w) rk sk (fun _ z => by cases z) fun t ht => by
    obtain ⟨y, hy, l⟩ := PyData.shownKv_key_le dd t ht
    exact Nat.le_trans l (Nat.le_trans (dictText_mem_le hy) szD)
  obtain ⟨c2, m2, k2⟩ := ReprAllK.of_readsAll (prog := X.prog) (w := X.w) rv sv (fun z => by rw [nd] at z; cases z) fun t ht => by
    obtain ⟨y, hy, l⟩ := PyData.shownKv_val_le dd t ht
    exact Nat.le_trans l (Nat.le_trans (dictText_mem_le hy) szD)
  have d1 := PyData.depthAll_keys_le dd
  have d2 := PyData.depthAll_vals_le dd
  have apart : a ∉ c1 ++ c2 := not_mem_of_deeper (.dict ho ex.1 hd rk rv) (show PyData.depthKv dd < _ by simp only [PyData.depth]; omega) ((m1.mono d1).append (m2.mono d2))
  refine call_repr_slot (by omega) ⟨o, ho, ex.1⟩ F.slot_dict_repr ?_
  have entries := ReprEntriesK.of_two es.toList _ _ (k1.more_le (fun b z => List.mem_append_left c2 z) d1) (k2.more_le (fun b z => List.mem_append_right c1 z) d2)
  rw [← PyData.shownKv_eq] at entries
  refine call_dict_reprK ho ex.1 hd hsys apart entries (A := X.A.in1) quiet (fun b _ => Clear.nil b) (by show X.A.units + 1 + _ < cLine; omega) (fun _ _ z => z) (fun h' u tk kept => ⟨_, _, rfl, ?_⟩) szD
  refine ⟨.str _, H, I.kept kept, ⟨_, rfl⟩, ?_⟩
  simpa only [PyData.shown] using q
/-- repr of data without dicts -/
def rReprD (K : PySem.W.Frag) : List V → Hp → VK → Prop := fun xs H Q => ∃ (a : Addr) (d : PyData), xs = [.ref a] ∧ Dp K H (.ref a) d ∧ d.showable = true ∧ d.hasDict = false ∧ d.depth ≤ 50 ∧ d.shown.length ≤ sizeLine ∧ Q (.str d.shown) H
theorem call_reprD {X : Cx} (quiet : X.A.guards = some []) (hu : X.A.units + 64 < cLine) : CallR X (.builtin "repr") (rReprD X.K) := by
  intro pins s σ H xs us Q I r h
  obtain ⟨a, d, rfl, hD, sh, nd, dp, sz, q⟩ := h
  obtain ⟨u, rfl, ru⟩ := vals1 r
  cases ru
  obtain ⟨as, rd⟩ := Dp.reads I d _ _ hD (show RelV (.ref a) (.ref a) from rfl)
  refine repr_of_reads' rd sh (fun z => by rw [nd] at z; cases z) quiet (by omega) (fun _ _ z => z) (fun h' u tk kept => ?_) sz
  exact ⟨.str _, H, I.kept kept, ⟨_, rfl⟩, q⟩
theorem deep_quiet {B : Around} {env : Env} (h : B.guards = some []) : (B.deeper env).guards = some [] := h
/-! ### defs of the module that are promised so -/
structure CalG (P : Program) (w : World) (K : PySem.W.Frag) (mg : Str → Option Value) (base : Heap) (k : Nat) (x : Str) (sp : Sp) : Prop where
  is : ∃ (f : Addr) (fd : FuncData) (xs : List Str), FnG P w K mg base k f fd xs sp ∧ mg x = some (.ref f) ∧ PySem.W.keepIn K (.ref f) = true ∧ Binds K fd xs []
section
variable {X : Cx} {k j : Nat} {x : Str} {sp : Sp} {p pos : Pos} {e : Expr} {es : List Expr} {t : TA}
theorem run_G {f : Addr} {fd : FuncData} {xs : List Str} {pins : List (Addr × Obj)} {σ : L2.St} {H : Hp} {s : Shared} {Q : VK} {us : List Value} {vs : List V} (F : FnG X.prog X.w X.K X.mg X.base k f fd xs sp) (quiet : X.A.guards = some []) (room : Room k X.A) (b : Binds X.K fd xs [])
    (I : Inv X pins σ H s) (r : Vals vs us) (h : sp (vs ++ []) H Q E0) : wpAny (model X.prog X.w) X.A (call (.ref f) us) (EP X pins σ Q) X.xe s := by
  have r2 : Vals (vs ++ []) (us ++ []) := r.append .nil
  have many : (us ++ []).length = xs.length := by
    rw [← r2.length]
    exact F.many _ _ _ _ h
  have run := F.go X.A X.stack s H ⟨us, []⟩ (us ++ []) (vs ++ []) Q E0 quiet room I.env0 (b s us I.kIn many) r2 h
  refine wpAny_call (codeAny_mono run fun r s' z => ?_)
  match r, z with
  | .error e, z => exact pass0 pins σ H s e s' I z
  | .ok (.ret u), z => exact I.after z
  | .ok .next, z => exact z.elim
  | .ok .brk, z => exact z.elim
  | .ok .cont, z => exact z.elim
theorem pe_cG (c : CalG X.prog X.w X.K X.mg X.base k x sp) (quiet : X.A.guards = some []) (room : Room j X.A) (hk : k ≤ j) (hg : Gl X x) (ha : PA X (e :: es) t)
    (hdb : (x == ("__debug__" : Str)) = false := by decide) (he : starEach (e :: es) X.env = (false, eval e X.env) :: starEach es X.env := by rfl) (hpl : (backTo pos (starEach es X.env)).any (·.1) = false := by rfl) :
    PE X (.Call (.Name x p) (e :: es) [] pos) (tCall sp [] E0 t) := by
  obtain ⟨f, fd, xs, F, at_, keep, b⟩ := c.is
  constructor
  intro pins s σ H Q I h
  refine wpAny_Call_Name_kw (ld_glob I hg at_ (PySem.W.callWith_K (h₀ := X.base) I.ok.mod.kin keep ?_ he hpl) hdb)
  refine thn (ha.run pos pins s σ H _ I h) ?_
  rintro us s1 ⟨vs, H1, I1, r, q⟩
  exact ⟨I1.kIn, run_G F quiet (room.mono hk) b I1 r q⟩
end
section
variable {P : Program} {w : World} {K : PySem.W.Frag} {mg : Str → Option Value} {base : Heap}
theorem calG_mk {x : Str} {st : Stmt} {N xs : List Str} {k : Nat} {sp : Sp} {t : TS} (D : DX K mg x st) (S : FnScope N xs (defScope st))
    (hb : ∀ (kV doc pm : Value) (an : Option Addr) (cv ct : Value) (us : List Value), us.length = xs.length → bindArgs (PySem.W.fnOf x x (defArgs st) (defBody st) (defScope st) .none kV doc pm an cv ct) ⟨us, []⟩ = pure (xs.zip us))
    (many : ∀ vs H Q E, sp vs H Q E → vs.length = xs.length)
    (hd : ∀ (f : Addr) (cv : Value) (B : Around) (st' : List Env) (s : Shared) (H : Hp) (E : XK), B.guards = some [] → Room k (B.deeper (envOfC x (defScope st) s.heap.objs.size f cv)) → PSs (cxOf CX0 P w K mg base N x (defScope st) f cv B st' s H E).nox (defBody st) t)
    (hv : ∀ vs H Q E, sp vs H Q E → t { nx := fun _ H' => Q .non H', rt := Q } (start N vs) H) : CalG P w K mg base (k + 1) x sp := by
  obtain ⟨f, fd, F, at_⟩ := D
  exact ⟨f, fd, xs, FnG.of F S many fun cv B st' s H vs Q E quiet room h => ⟨t, PSs.nox (hd f cv B st' s H E quiet room), hv vs H Q E h⟩, at_, F.kp, F.bindsN hb⟩
end
end Z

set_option Elab.async false
set_option linter.all false
set_option maxRecDepth 100000
set_option maxHeartbeats 4000000
/-! Zx: how long repr of data is. -/
namespace Z
open PySem PySem.Spec PyProof.Rows L2
open PyData (shown shownAll shownKv)
mutual
def bnd : PyData → Nat
  | .none => 4
  | .bool _ => 5
  | .int i => (shown (.int i)).length
  | .str x => 10 * x.length + 2
  | .list xs => bndAll xs + 4
  | .tuple xs => bndAll xs + 4
  | .dict kvs => bndKv kvs + 4
def bndAll : List PyData → Nat
  | [] => 0
  | x :: xs => bnd x + 2 + bndAll xs
def bndKv : List (PyData × PyData) → Nat
  | [] => 0
  | (k, v) :: r => bnd k + bnd v + 4 + bndKv r
end
mutual
def cpOk : PyData → Bool
  | .str x => x.cps.toList.all fun c => decide (c < 16 ^ 8)
  | .list xs => cpAll xs
  | .tuple xs => cpAll xs
  | .dict kvs => cpKv kvs
  | _ => true
def cpAll : List PyData → Bool
  | [] => true
  | x :: xs => cpOk x && cpAll xs
def cpKv : List (PyData × PyData) → Bool
  | [] => true
  | (k, v) :: r => cpOk k && cpOk v && cpKv r
end
theorem textFrom_bnd : ∀ (ts : List Str) (k : Nat) (acc : Str), (textFrom k acc ts).length ≤ acc.length + piled ts
  | [], _, _ => Nat.le_add_right _ _
  | t :: r, k, acc => by
    have ih := textFrom_bnd r (k + 1) (acc ++ (if k > 0 then ", " else "" : String) ++ t)
    rw [strLen_append, strLen_append] at ih
    have e : ((if k > 0 then ", " else "" : String) : Str).length ≤ 2 := by split <;> decide
    rw [piled_cons]
    show (textFrom (k + 1) _ r).length ≤ _
    omega
theorem join_bnd (ts : List Str) : (Str.join ", " ts).length ≤ piled ts := by
  by_cases h : ts = []
  · subst h
    decide
  · have := join_length_add ts h
    omega
mutual
theorem shown_bnd : ∀ d : PyData, cpOk d = true → (shown d).length ≤ bnd d
  | .none, _ => by decide
  | .bool b, _ => by cases b <;> decide
  | .int i, _ => Nat.le_refl _
  | .str x, h => StrLaws.reprText_len x fun c hc => of_decide_eq_true (List.all_eq_true.mp (show (x.cps.toList.all fun c => decide (c < 16 ^ 8)) = true from h) c hc)
  | .list xs, h => by
    have := shownAll_bnd xs h
    have t := textFrom_bnd (shownAll xs) 0 "["
    show (textFrom 0 "[" (shownAll xs) ++ ("]" : Str)).length ≤ bndAll xs + 4
    rw [strLen_append]
    have e1 : (("[" : String) : Str).length = 1 := rfl
    have e2 : (("]" : String) : Str).length = 1 := rfl
    omega
  | .tuple xs, h => by
    have := shownAll_bnd xs h
    have t := join_bnd (shownAll xs)
    show (("(" : Str) ++ Str.join ", " (shownAll xs) ++ (if (shownAll xs).length == 1 then ",)" else ")" : String)).length ≤ bndAll xs + 4
    rw [strLen_append, strLen_append]
    have e1 : (("(" : String) : Str).length = 1 := rfl
    have e3 : ((if (shownAll xs).length == 1 then ",)" else ")" : String) : Str).length ≤ 2 := by split <;> decide
    omega
  | .dict kvs, h => by
    have := shownKv_bnd kvs h
    have t := join_bnd (shownKv kvs)
    show (("{" : Str) ++ Str.join ", " (shownKv kvs) ++ "}").length ≤ bndKv kvs + 4
    rw [strLen_append, strLen_append]
    have e1 : (("{" : String) : Str).length = 1 := rfl
    have e2 : (("}" : String) : Str).length = 1 := rfl
    omega
theorem shownAll_bnd : ∀ xs : List PyData, cpAll xs = true → piled (shownAll xs) ≤ bndAll xs
  | [], _ => Nat.le_refl _
  | x :: xs, h => by
    have h' := Bool.and_eq_true_iff.mp (show (cpOk x && cpAll xs) = true from h)
    have a := shown_bnd x h'.1
    have b := shownAll_bnd xs h'.2
    show piled (shown x :: shownAll xs) ≤ bnd x + 2 + bndAll xs
    rw [piled_cons]
    omega
theorem shownKv_bnd : ∀ kvs : List (PyData × PyData), cpKv kvs = true → piled (shownKv kvs) ≤ bndKv kvs
  | [], _ => Nat.le_refl _
  | (k, v) :: r, h => by
    have h' := Bool.and_eq_true_iff.mp (show (cpOk k && cpOk v && cpKv r) = true from h)
    have h2 := Bool.and_eq_true_iff.mp h'.1
    have a := shown_bnd k h2.1
    have a2 := shown_bnd v h2.2
    have b := shownKv_bnd r h'.2
    show piled ((shown k ++ ": " ++ shown v) :: shownKv r) ≤ bnd k + bnd v + 4 + bndKv r
    rw [piled_cons, strLen_append, strLen_append]
    have e2 : ((": " : String) : Str).length = 2 := rfl
    omega
end
end Z

set_option Elab.async false
set_option linter.all false
set_option maxRecDepth 100000
set_option maxHeartbeats 4000000
/-! Zd: dicts: update, a dict held beside an empty one; short steps. -/
namespace Z
open PySem PySem.Spec PyProof.Rows L2
/-- d.update(e) -/
def rDUpd : V → List V → Hp → VK → Prop := fun x vs H Q => ∃ (a c : Addr) (kvs more : List (Key × V)), x = .ref a ∧ vs = [.ref c] ∧ H a = some (.dK kvs) ∧ Rd H c (.dK more) ∧ a ≠ c ∧ kvs.length + more.length ≤ sizeLine ∧ Q .non (upd H a (.dK (mergeK kvs more)))
theorem mt_dupd {X : Cx} : MtR X "dict.update" rDUpd := by
  intro pins s σ H x vs v us Q I rx rv h
  obtain ⟨a, c, kvs, more, rfl, rfl, ea, ec, ne, sz, q⟩ := h
  cases rx
  obtain ⟨u, rfl, ru⟩ := vals1 rv
  cases ru
  obtain ⟨_, na, va, ra, da⟩ := dk_of I.hok ea
  obtain ⟨_, nc, vc, rc, dc⟩ := dk_rd I.hok ec
  have k1 : va.length + vc.length ≤ sizeLine := by rw [← ra.length, ← rc.length]; exact sz
  refine call_meetsIn PySem.F.slot_dict_update da.typeIs PySem.F.entry_dict_update (PySem.F.args_dict_update_2 _ _) (meets_dict_update (mixKind X.prog X.w) a c ne nc) ⟨va, vc, da, dc, k1, fun h' dm _ sb => ?_⟩
  have at_ : ∃ ob, h'.get? a = some ob := by
    obtain ⟨ob, _, _, g, _⟩ := dm
    exact ⟨ob, g⟩
  have ok : (mergeK kvs more).length ≤ sizeLine := Nat.le_trans (length_mergeK more kvs) sz
  have new : ObjOk X.prog X.w (upd H a (.dK (mergeK kvs more))) h' a (.dK (mergeK kvs more)) := dk_new ok na (rc.merge ra) dm
  exact ⟨.non, _, d_write (t' := s.toks) I (by rw [ea]; exact True.intro) sb at_ new, rfl, q⟩
/-- d != {}, d == {}: c is an empty dict -/
def rNeD0 : R2 := fun x y H Q => ∃ (a c : Addr) (kvs : List (Key × V)), x = .ref a ∧ y = .ref c ∧ H a = some (.dK kvs) ∧ H c = some (.dK []) ∧ Q (.bl (!kvs.isEmpty)) H
theorem op_neD0 {X : Cx} (hu : X.A.units < cLine) : OpR X (compareOp .NotEq) rNeD0 := by
  intro pins s σ H x y v u Q I rx ry h
  obtain ⟨a, c, kvs, rfl, rfl, ea, ec, q⟩ := h
  cases rx
  cases ry
  obtain ⟨_, na, va, ra, da⟩ := dk_of I.hok ea
  obtain ⟨_, nc, vc, rc, dc⟩ := dk_of I.hok ec
  have l0 : vc.length = 0 := rc.length.symm
  have la : kvs.length = va.length := ra.length
  refine PySem.W.keq_ne (knd := mixKind X.prog X.w) (r := true) na nc da dc hu (fun e => ?_) ?_
  · have : va = [] := List.length_eq_zero_iff.mp (e.trans l0)
    subst this
    exact .nil
  · refine ⟨.bl (!kvs.isEmpty), H, I, ?_, q⟩
    rw [Bool.and_true, l0]
    show _ = _
    cases kvs with
    | nil =>
      rw [show va.length = 0 from la.symm]
      rfl
    | cons p r =>
      rw [← la]
      rfl
abbrev cListD : List V → Hp → VK → Prop := fun xs H Q => ∃ (a : Addr) (kvs : List (Key × V)), xs = [.ref a] ∧ Rd H a (.dK kvs) ∧ ∀ p, H p = none → Q (.ref p) (upd H p (.lst (kvs.map fun kv => kV kv.1)))
abbrev cDictD : List V → Hp → VK → Prop := fun xs H Q => ∃ (a : Addr) (kvs : List (Key × V)), xs = [.ref a] ∧ Rd H a (.dK kvs) ∧ ∀ p, H p = none → Q (.ref p) (upd H p (.dK kvs))
abbrev cDictP (K : PySem.W.Frag) : List V → Hp → VK → Prop := fun xs H Q => ∃ (a : Addr) (ps : List Addr) (kvs : List (Key × V)), xs = [.ref a] ∧ SqL K H a (ps.map V.ref) ∧ Paired (fun p kv => SqT K H p [kV kv.1, kv.2]) ps kvs ∧ ∀ p, H p = none → Q (.ref p) (upd H p (.dK (mergeK [] kvs)))
section
variable {σ : L2.St} {H : Hp} {Q : VK} {D : Ends} {td ty tx tv : TE} {ts : TS} {te : TE} {trs : List (TE × TE)}
theorem z_dget (q : td σ H fun x H1 => ty σ H1 fun y H2 => ∃ a v, x = .ref a ∧ DGet H2 a y (some v) ∧ Q v H2) : tDGet td ty σ H Q := q
theorem z_dget1 (q : td σ H fun x H1 => ∃ a, x = .ref a ∧ IsD H1 a ∧ ty σ H1 fun y H2 => ∃ o, DGet H2 a y o ∧ Q (o.getD .non) H2) : tDGet1 td ty σ H Q := q
theorem z_dget2 (q : td σ H fun x H1 => ∃ a, x = .ref a ∧ IsD H1 a ∧ ty σ H1 fun y H2 => tx σ H2 fun z H3 => ∃ o, DGet H3 a y o ∧ Q (o.getD z) H3) : tDGet2 td ty tx σ H Q := q
theorem z_din (q : ty σ H fun y H1 => td σ H1 fun x H2 => ∃ a o, x = .ref a ∧ DGet H2 a y o ∧ Q (.bl o.isSome) H2) : tDIn ty td σ H Q := q
theorem z_dnotin (q : ty σ H fun y H1 => td σ H1 fun x H2 => ∃ a o, x = .ref a ∧ DGet H2 a y o ∧ Q (.bl (!o.isSome)) H2) : tDNotIn ty td σ H Q := q
theorem z_dput (q : tv σ H fun v H1 => td σ H1 fun x H2 => ty σ H2 fun y H3 => ∃ a H4, x = .ref a ∧ DPut H3 a y v H4 ∧ D.nx σ H4) : sDPut td ty tv D σ H := q
theorem z_dpop1 (q : td σ H fun x H1 => ∃ a, x = .ref a ∧ IsD H1 a ∧ ty σ H1 fun y H2 => ∃ kvs k v, H2 a = some (.dK kvs) ∧ y = kV k ∧ valV kvs k = some v ∧ Q v (upd H2 a (.dK (dropK kvs k)))) : tDPop1 td ty σ H Q := q
theorem z_disp (q : ∀ p, H p = none → tPairs trs σ (upd H p (.dK [])) fun ps H2 => H2 p = some (.dK []) ∧ ∃ kvs : List (Key × V), ps = kvs.map (fun kv => (kV kv.1, kv.2)) ∧ kvs.length ≤ 15 ∧ Q (.ref p) (upd H2 p (.dK (mergeK [] kvs)))) : tDisp trs σ H Q := q
theorem z_pairs0 {R : List (V × V) → Hp → Prop} (q : R [] H) : tPairs [] σ H R := q
theorem z_pairs {R : List (V × V) → Hp → Prop} {tk tw : TE} (q : tk σ H fun x H1 => tw σ H1 fun y H2 => tPairs trs σ H2 fun ps H3 => R ((x, y) :: ps) H3) : tPairs ((tk, tw) :: trs) σ H R := q
theorem z_lock {d : Addr} {u : HO} (h : H d = some u) (mu : Mut (some u)) (q : ∀ od, ts ⟨fun σ' H' => H' d = some (.frz od u) ∧ D.nx σ' (upd H' d u), fun v H' => H' d = some (.frz od u) ∧ D.rt v (upd H' d u), fun σ' H' => H' d = some (.frz od u) ∧ D.bk σ' (upd H' d u), fun σ' H' => H' d = some (.frz od u) ∧ D.ct σ' (upd H' d u)⟩ σ (upd H d (.frz od u))) : tLock ts D σ H := ⟨d, u, h, mu, q⟩
theorem z_lockE {d : Addr} {u : HO} (h : H d = some u) (mu : Mut (some u)) (q : ∀ od, te σ (upd H d (.frz od u)) fun v H' => H' d = some (.frz od u) ∧ Q v (upd H' d u)) : tLockE te σ H Q := ⟨d, u, h, mu, q⟩
end
end Z

set_option Elab.async false
set_option linter.all false
set_option maxRecDepth 100000
set_option maxHeartbeats 4000000
/-! Zt: texts with signs that texts may have; joins of single signs; lists of texts as data. -/
namespace Z
open PySem PySem.Spec PyProof.Rows L2
open Evl (Ex ex_l ex_t ex_rd sq_of st_of fresh_back RetL RetV)
/-- signs that a text may have -/
def okS (l : List Nat) : Prop := ∀ c ∈ l, c < 1114112
/-! ### texts with signs that texts may have -/
def okT (z : Str) (n : Nat) : Prop := z.length ≤ n ∧ okS z.cps.toList
theorem okT.mono {z : Str} {m n : Nat} (h : okT z m) (e : m ≤ n) : okT z n := ⟨Nat.le_trans h.1 e, h.2⟩
theorem okS_of (s : String) : okS (Str.ofString s).cps.toList := by
  rw [Str.ofString_eq_toList]
  intro c hc
  have hc' : c ∈ s.toList.map Char.toNat := by simpa using hc
  obtain ⟨ch, _, rfl⟩ := List.mem_map.mp hc'
  have := ch.valid
  show ch.val.toNat < 1114112
  rcases this with h | ⟨_, h⟩
  · exact Nat.lt_trans h (by decide)
  · exact h
theorem okT.of (s : String) {n : Nat} (h : (Str.ofString s).length ≤ n) : okT (Str.ofString s) n := ⟨h, okS_of s⟩
theorem tl_app (a b : Str) : (a ++ b).cps.toList = a.cps.toList ++ b.cps.toList := by
  show (a.cps ++ b.cps).toList = _
  simp
theorem okT.app {a b : Str} {m n : Nat} (h : okT a m) (k : okT b n) : okT (a ++ b) (m + n) := by
  refine ⟨by rw [txt_app_len]; exact Nat.add_le_add h.1 k.1, fun c hc => ?_⟩
  rw [tl_app] at hc
  exact (List.mem_append.mp hc).elim (h.2 c) (k.2 c)
theorem okT.cut {a : Str} {m : Nat} (lo hi : Option Int) (h : okT a m) : okT (cutS a lo hi) m := by
  refine ⟨Nat.le_trans (cutS_le _ _ _) h.1, ?_⟩
  rw [S_of a, S_cut, S_tl]
  exact fun c hc => h.2 c (List.mem_of_mem_drop (List.mem_of_mem_take hc))
theorem okT.one {a : Str} {m c : Nat} (h : okT a m) (hc : c ∈ a.cps.toList) : okT ⟨#[c]⟩ 1 := by
  refine ⟨Nat.le_refl _, fun d hd => ?_⟩
  have : d = c := by simpa using hd
  rw [this]
  exact h.2 c hc
theorem okT.S {l : List Nat} {n : Nat} (h : l.length ≤ n) (k : okS l) : okT (Z.S l) n := by
  refine ⟨by rw [S_len]; exact h, ?_⟩
  rw [S_tl]
  exact k
theorem okT.sz {z : Str} {n : Nat} (h : okT z n) (hn : n ≤ 1000) : z.length ≤ sizeLine := szl (Nat.le_trans h.1 hn)
theorem okT.ret {z : Str} {n : Nat} {H : Hp} {Q : VK} (h : okT z n) (q : ∀ l : List Nat, l.length ≤ n → okS l → RetV (.str (Z.S l)) H Q) : RetV (.str z) H Q := by
  rw [S_of z]
  exact q _ h.1 h.2
theorem okS_sub {l m : List Nat} (h : okS l) (k : ∀ c ∈ m, c ∈ l) : okS m := fun c hc => h c (k c hc)

theorem one_eq (n : Nat) : (⟨#[n]⟩ : Str) = S [n] := rfl
theorem empty_str : (Str.ofString "" : Str) = S [] := by decide +kernel
theorem given_all (n : Nat) (v : Nat → V) : Evl.given n (fun _ => true) v = (List.range n).map v := by
  unfold Evl.given
  rw [List.filter_eq_self.mpr (fun _ _ => rfl)]
theorem sum_ones : ∀ (n : Nat) (f : Nat → Nat), (∀ i, f i = 1) → ((List.range n).map f).sum = n
  | 0, _, _ => rfl
  | n + 1, f, h => by
    rw [List.range_succ, List.map_append, List.sum_append, sum_ones n f h]
    simp [h]
/-- a text put together of single signs -/
theorem z_join1 {K : PySem.W.Frag} {H : Hp} {Q : VK} {p : Addr} {n : Nat} {f : Nat → Nat} (h : H p = some (.lst ((List.range n).map fun k => V.str ⟨#[f k]⟩))) (hn : n ≤ 1000) (q : Q (.str (S ((List.range n).map f))) H) : rJoin K (.str (Str.ofString "")) [.ref p] H Q := by
  refine ⟨_, p, (List.range n).map (fun k => S [f k]), rfl, rfl, .inl ?_, ?_, ?_⟩
  · rw [List.map_map]
    exact sq_of h
  · rw [List.map_map, List.length_map, List.length_range, show (Str.ofString "" : Str).length = 0 by decide +kernel, sum_ones n ((fun x : Str => x.length) ∘ fun k : Nat => S [f k]) fun i => rfl]
    omega
  · rw [empty_str]
    have e : (List.range n).map (fun k => S [f k]) = ((List.range n).map fun k => [f k]).map S := by rw [List.map_map] <;> rfl
    have g : ∀ l : List Nat, (l.map fun k => [f k]).flatten = l.map f := fun l => by
      induction l with
      | nil => rfl
      | cons a r ih => rw [List.map_cons, List.flatten_cons, ih] <;> rfl
    rw [e, join_S, g]
    exact q
theorem strOk_S {l : List Nat} (h : okS l) : PyData.strOk (S l) = true := by
  unfold PyData.strOk
  rw [← Array.all_toList, S_tl, List.all_eq_true]
  exact fun c hc => decide_eq_true (h c hc)
theorem strOk_T {z : Str} {n : Nat} (h : okT z n) : PyData.strOk z = true := by
  rw [S_of z]
  exact strOk_S h.2
theorem strs_dp {K : PySem.W.Frag} {H : Hp} : ∀ {zs : List Str}, (∀ z ∈ zs, ∃ n, okT z n) → DpAll K H (zs.map V.str) (zs.map PyData.str) ∧ clAll (zs.map PyData.str) = true ∧ PyData.depthAll (zs.map PyData.str) = 0
  | [], _ => ⟨.nil, rfl, rfl⟩
  | z :: zs, h => by
    obtain ⟨n, hz⟩ := h z List.mem_cons_self
    obtain ⟨a, b, c⟩ := strs_dp (K := K) (H := H) fun u hu => h u (List.mem_cons_of_mem _ hu)
    refine ⟨.cons (.str z) a, ?_, ?_⟩
    · show (PyData.strOk z && clAll (zs.map PyData.str)) = true
      rw [strOk_T hz, b] <;> rfl
    · show max 0 (PyData.depthAll (zs.map PyData.str)) = 0
      rw [c] <;> rfl
end Z

set_option Elab.async false
set_option linter.all false
set_option maxRecDepth 100000
set_option maxHeartbeats 4000000
/-! Zr: list(reversed(xs)) of a list. -/
namespace Z
open PySem PySem.Spec PyProof.Rows L2
section
variable {prog : Program} {w : World} {A : Around} {E : Value → Shared → Prop} {s : Shared}
/-- a list that stands empty is filled by a reversing iterator -/
theorem fill_rev {R : Result → Shared → Prop} {T it l : Addr} {items : Array Value} {res : Value} {c0 : Nat} (hh : A.handled = none) (hit : s.heap.IsRevIter it l ((items.size : Int) - 1)) (hl : s.heap.IsList l items) (ne : l ≠ it) (n1 : T ≠ it) (n2 : T ≠ l) (hn : items.size ≤ sizeLine)
    (hT : s.heap.get? T = some { cls := .type "list", data := .seq #[] c0 })
    (hR : ∀ h' tk acc c, (∀ b o, b ≠ T → b ≠ it → s.heap.get? b = some o → h'.get? b = some o) → h'.get? T = some { cls := .type "list", dict := none, data := .seq acc c, slots := #[] } → ItemsOf (fun i v => items[items.size - 1 - i]? = some v) acc items.size → R (.ok (.ret res)) { s with heap := h', toks := tk }) :
    wpAny (model prog w) A.in1 (Builtin.List.listExtendWith (.ref T) (.ref it) res) (fun fin s' => match fin with | .done f => R (.ok f) s' | .again c' => c'.quiet = true ∧ codeAny (model prog w) A c' R s') (fun e s' => R (.error e) s') s := by
  have W := (Walks.listRev (prog := prog) (w := w) (A := A.in1) hh it l ne items).toS
  have off : T ∉ [it, l] := by simp [n1, n2]
  have ty : s.TypeIs (.ref it) "list_reverseiterator" := hit.typeIs
  have nsame : Builtin.List.listSameRef (.ref T) (.ref it) = false := by simp [Builtin.List.listSameRef, n1]
  (unfold Builtin.List.listExtendWith; skip)
  refine wpAny_bind (wpAny_typeOf ty ?_)
  rw [if_neg (by rw [nsame]; decide)]
  refine wpAny_bind (wpAny_pyIter_revIter hit (wpAny_bind (wpAny_holding ?_)))
  (unfold Builtin.List.listLengthHint; skip)
  refine wpAny_bind (wpAny_specialOf ty RT.nolen_lri ?_)
  show wpAny _ _ (specialOf (Value.ref it) (Str.ofString "__length_hint__") >>= _) _ _ _
  refine wpAny_bind (wpAny_specialOf ty RT.hint_lri ?_)
  generalize nm0 : ("list_reverseiterator.__length_hint__" : String) = nm
  (wp_delta; rw [show splitId nm = some ("list_reverseiterator", "__length_hint__") by subst nm0; decide +kernel]; subst nm0)
  refine wpAny_bind (wpAny_isInstance (b := true) ty (by rw [isSubtype_type]; kernel_rfl) (wpAny_pure ?_))
  rw [if_neg (by decide)]
  have z : ((items.size : Nat) : Int) - 1 - ((0 : Nat) : Int) = (items.size : Int) - 1 := by omega
  refine wpAny_pure ⟨plainId_quiet F.plain_extend_loop _, codeAny_extend_loopS W hn T off res items.size 0 _ #[] c0 rfl (Nat.zero_le _) ⟨Nat.zero_le _, by rw [z]; exact hit, hl⟩ hT (ItemsOf.nil _) fun s' acc c hm hT' hacc => ?_⟩
  rw [Moved.eq_with hm]
  refine hR s'.heap s'.toks acc c (fun b o b1 b2 e => hm.heap b o (fun m => ?_) e) hT' hacc
  rcases List.mem_cons.mp m with m | m
  · exact b1 m
  · exact b2 (List.mem_singleton.mp m)
theorem call_list_rev {it l : Addr} {items : Array Value} {Q : Value → Shared → Prop} (hh : A.handled = none) (hit : s.heap.IsRevIter it l ((items.size : Int) - 1)) (hl : s.heap.IsList l items) (ne : l ≠ it) (hn : items.size ≤ sizeLine)
    (hQ : ∀ h' tk acc c, (∀ b o, b ≠ it → s.heap.get? b = some o → h'.get? b = some o) → h'.get? s.heap.objs.size = some { cls := .type "list", dict := none, data := .seq acc c, slots := #[] } → ItemsOf (fun i v => items[items.size - 1 - i]? = some v) acc items.size → Q (.ref s.heap.objs.size) { s with heap := h', toks := tk }) :
    wpAny (model prog w) A (call (.type "list") [.ref it]) Q E s := by
  obtain ⟨oi, gi, _⟩ := id hit
  obtain ⟨ol, gl, _⟩ := id hl
  have si : s.heap.objs.size ≠ it := Nat.ne_of_gt (Heap.lt_size gi)
  have sl : s.heap.objs.size ≠ l := Nat.ne_of_gt (Heap.lt_size gl)
  refine callType_codes (Q₁ := fun obj s₁ => obj = .ref s.heap.objs.size ∧ s₁ = { s with heap := s.heap.push { cls := .type "list", data := .seq #[] } }) PySem.F.called_list (PySem.F.typeCall_list_1 _) PySem.F.entry_list_init (code_list_new _ ⟨rfl, rfl⟩) ?_
  rintro obj s₁ ⟨rfl, rfl⟩
  have new : (s.heap.push { cls := .type "list", data := .seq #[] }).get? s.heap.objs.size = some { cls := .type "list", data := .seq #[] } := Heap.get?_push_size _ rfl
  have up : ∀ b o, s.heap.get? b = some o → (s.heap.push { cls := .type "list", data := .seq #[] }).get? b = some o := fun b o e => Heap.get?_push_of_some _ e
  refine ⟨⟨_, new, rfl⟩, PySem.F.args_list_init_2 _ _, ?_⟩
  show wpAny _ _ (Builtin.List.listItems (.ref s.heap.objs.size) >>= _) _ _ _
  refine wpAny_bind ?_
  (unfold Builtin.List.listItems; skip)
  refine wpAny_bind (wpAny_seqItems new rfl (wpAny_pure ?_))
  show wpAny _ _ (updateSeq s.heap.objs.size (fun _ => #[]) >>= fun _ => letGo (#[] : Array Value).toList.reverse >>= fun _ => Builtin.List.listExtendWith (.ref s.heap.objs.size) (.ref it) .none) _ _ _
  refine wpAny_bind (wpAny_updateSeq new rfl ?_)
  have new2 := Heap.get?_update_self (Obj.mapSeq (fun _ => (#[] : Array Value))) new rfl
  have oth : ∀ b o, b ≠ s.heap.objs.size → s.heap.get? b = some o → ((s.heap.push { cls := .type "list", data := .seq #[] }).update s.heap.objs.size (Obj.mapSeq (fun _ => (#[] : Array Value)))).get? b = some o := fun b o hb e => (Heap.get?_update_other _ _ (Ne.symm hb)).trans (up b o e)
  refine wpAny_bind (wpAny_letGo ?_)
  refine fill_rev (A := A.in1) hh (hit.at fun o e => oth it o si.symm e) (hl.at fun o e => oth l o sl.symm e) ne si sl hn new2 fun h' tk acc c kp at_ ac => ?_
  exact ⟨rfl, hQ h' tk acc c (fun b o hb e => kp b o (Nat.ne_of_lt (Heap.lt_size e)) hb (oth b o (Nat.ne_of_lt (Heap.lt_size e)) e)) at_ ac⟩
end
/-- list(reversed(xs)): a new list -/
def tRevOf (K : PySem.W.Frag) (te : TE) : TE := fun σ H Q => te σ H fun x H1 => ∃ (a : Addr) (xs : List V), x = .ref a ∧ SqL K H1 a xs ∧ ∀ q, H1 q = none → Q (.ref q) (upd H1 q (.lst xs.reverse))
theorem pe_revOf {X : Cx} {e : Expr} {te : TE} {p1 p2 q1 q2 : Pos} (calm : X.calm = true) (g1 : Gl X "list") (m1 : X.mg "list" = none) (g2 : Gl X "reversed") (m2 : X.mg "reversed" = none) (he : PE X e te)
    (s1 : starEach [e] X.env = (false, eval e X.env) :: starEach [] X.env := by rfl)
    (s2 : starEach [.Call (.Name "reversed" p2) [e] [] q2] X.env = (false, eval (.Call (.Name "reversed" p2) [e] [] q2) X.env) :: starEach [] X.env := by rfl) :
    PE X (.Call (.Name "list" p1) [.Call (.Name "reversed" p2) [e] [] q2] [] q1) (tRevOf X.K te) := by
  refine ⟨fun pins s σ H Q I h => ?_⟩
  have inner : ∀ {s' : Shared} {H' : Hp}, Inv X pins σ H' s' → ∀ {u : Value} {x : V}, RelV x u → (∃ (a : Addr) (xs : List V), x = .ref a ∧ SqL X.K H' a xs ∧ ∀ q, H' q = none → Q (.ref q) (upd H' q (.lst xs.reverse))) →
      wpAny (model X.prog X.w) X.A (call (.type "reversed") [u]) (fun it s'' => wpAny (model X.prog X.w) X.A (call (.type "list") [it]) (EP X pins σ Q) X.xe s'') X.xe s' := fun {s' H'} I1 {u x} rx hx => by
    obtain ⟨a, xs, rfl, hs, q⟩ := hx
    cases rx
    obtain ⟨its, rv, pl, sz⟩ := I1.list hs
    refine call_reversed_list pl.isList ?_
    have up : ∀ b o, s'.heap.get? b = some o → (s'.heap.push (revObj a ((its.toArray.size : Int) - 1))).get? b = some o := fun b o g => Heap.get?_push_of_some _ g
    obtain ⟨ol, gl, _⟩ := id pl.isList
    have ne : a ≠ s'.heap.objs.size := Nat.ne_of_lt (Heap.lt_size gl)
    have nz : its.toArray.size ≤ sizeLine := by
      rw [List.size_toArray, ← rv.length]
      exact sz
    refine call_list_rev (s := { s' with heap := s'.heap.push (revObj a ((its.toArray.size : Int) - 1)) }) (I1.ok.hd calm) ⟨_, Heap.get?_push_size _ rfl, rfl, rfl⟩ (pl.isList.push _) ne nz fun h' tk acc c kp at_ ac => ?_
    have sz' : (s'.heap.push (revObj a ((its.toArray.size : Int) - 1))).objs.size = s'.heap.objs.size + 1 := by rw [size_push']
    rw [sz'] at at_ ⊢
    have big : s'.heap.objs.size ≤ s'.heap.objs.size + 1 := Nat.le_succ _
    have new : ObjOk X.prog X.w (upd H' (s'.heap.objs.size + 1) (.lst xs.reverse)) h' (s'.heap.objs.size + 1) (.lst xs.reverse) := by
      refine ⟨?_, acc.toList, c, RT.vals_rev rv ac, ?_⟩
      · rw [List.length_reverse]
        exact sz
      · rw [Array.toArray_toList]
        exact at_
    exact ⟨.ref (s'.heap.objs.size + 1), _, I1.laid (t' := tk) (fun b o g => kp b o (Nat.ne_of_lt (Heap.lt_size g)) (up b o g)) big new, rfl, q _ (I1.hok.fresh big)⟩
  refine Call_ (ld_blt I g1 m1 boot_list (PyProof.Rows.callWith_type1 (args_cons ?_ s2) s2 rfl))
  refine Call_ (ld_blt I g2 m2 PyProof.Rows.boot_reversed (PyProof.Rows.callWith_type1 (args_cons (thn (he.run pins s σ H _ I h) fun u s' ⟨x, H1, I1, rx, hx⟩ => args_nil ?_) s1) s1 rfl))
  exact wpAny_mono (inner I1 rx hx) (fun it s'' h => args_nil h) fun _ _ h => h
end Z

set_option Elab.async false
set_option linter.all false
set_option maxRecDepth 100000
set_option maxHeartbeats 4000000
/-! Zk: written dicts with text keys, whose values are plain or tuples of plain things; a head's facts with such tables. -/
namespace Z
open PySem PySem.Spec PyProof.Rows L2 He
inductive TV where
  | v (x : V)
  | tup (xs : List V)
def tupAt (K : PySem.W.Frag) (b : Addr) (vs : List V) : Bool := match K.lookup b with
  | some ⟨.type c, _, .seq its _, _⟩ => decide (c = "tuple") && (decide (its.size ≤ sizeLine) && relAll vs its.toList)
  | _ => false
theorem tupAt_ok {K : PySem.W.Frag} {b : Addr} {vs : List V} (h : tupAt K b vs = true) (H : Hp) : SqT K H b vs := by
  unfold tupAt at h
  cases q : K.lookup b with
  | none =>
    rw [q] at h
    cases h
  | some o =>
    obtain ⟨oc, od, dt, osl⟩ := o
    rw [q] at h
    cases oc with
    | type c =>
      cases dt with
      | seq its n =>
        have h0 : (decide (c = "tuple") && (decide (its.size ≤ sizeLine) && relAll vs its.toList)) = true := h
        obtain ⟨h1, h2⟩ := ba h0
        obtain ⟨h3, h4⟩ := ba h2
        exact .inr ⟨_, its, n, q, congrArg Value.type (of_decide_eq_true h1), rfl, of_decide_eq_true h3, relAll_ok h4⟩
      | _ => cases h
    | _ => cases dt <;> cases h
def tvB (K : PySem.W.Frag) : TV → Value → Bool
  | .v x, u => relB x u
  | .tup xs, .ref b => tupAt K b xs
  | .tup _, _ => false
def tabB (K : PySem.W.Frag) (a : Addr) (kvs : List (Str × TV)) : Bool := kvs.all fun p => match PySem.W.nsIn K a p.1 with
  | some (some u) => tvB K p.2 u
  | _ => false
def TvAt (K : PySem.W.Frag) (w : World) (a : Addr) (z : Str) : TV → Prop
  | .v x => KDct K w a z x
  | .tup xs => ∃ b, KDct K w a z (.ref b) ∧ ∀ H, SqT K H b xs
structure TabK (K : PySem.W.Frag) (w : World) (a : Addr) (kvs : List (Str × TV)) : Prop where
  d : ∃ es n, KDict K w a es n
  get : ∀ z t, (z, t) ∈ kvs → TvAt K w a z t
theorem tab_mk {K : PySem.W.Frag} {w : World} {a : Addr} {kvs : List (Str × TV)} (d : ∃ es n, KDict K w a es n) (h : tabB K a kvs = true) : TabK K w a kvs := by
  refine ⟨d, fun z t hm => ?_⟩
  obtain ⟨es, n, D⟩ := d
  have h1 := List.all_eq_true.mp h (z, t) hm
  cases e : PySem.W.nsIn K a z with
  | none =>
    rw [show PySem.W.nsIn K a (z, t).1 = none from e] at h1
    cases h1
  | some r =>
    rw [show PySem.W.nsIn K a (z, t).1 = some r from e] at h1
    cases r with
    | none => cases h1
    | some u =>
      have h2 : tvB K t u = true := h1
      cases t with
      | v x => exact ⟨es, n, u, D.at_, D.lit, e, relB_ok h2⟩
      | tup xs =>
        cases u with
        | ref b => exact ⟨b, ⟨es, n, .ref b, D.at_, D.lit, e, rfl⟩, tupAt_ok h2⟩
        | _ => cases h2
abbrev AlK : Type := (AlD × Bool) × List (Option (List (Option (Str × Int))))
def lookK (fa : List Fa) (fn : List DefD) (ex : PySem.W.Frag → Bool) (ts : List (Str × List Str)) (n : Nat) (g : Addr → Option Obj) : AlK :=
  (lookZ fa fn ex n g, ts.map fun t => dicW (frG g (asD g n)) (ga (frG g (asD g n)) t.1))
def hookK (fa : List Fa) (fn : List DefD) (ex : PySem.W.Frag → Bool) (ts : List (Str × List Str)) (n : Nat) : PySem.W.Hook where
  α := AlK
  obs := fun st => lookK fa fn ex ts n st.heap.get?
  val := fun w => ((valD fn, true), ts.map fun t => some (keysIn w.params t.2))
  says := fun w hp => ∃ F : PySem.W.Frag, F.In hp ∧ SaysD fa fn F ∧ ex F = true ∧ (ts.map fun t => dicW F (ga F t.1)) = ts.map fun t => some (keysIn w.params t.2)
  of := fun w s eq => by
    have e : lookK fa fn ex ts n s.heap.get? = ((valD fn, true), ts.map fun t => some (keysIn w.params t.2)) := eq
    exact ⟨_, frG_in, congrArg (fun z : AlK => z.1.1) e, congrArg (fun z : AlK => z.1.2) e, congrArg (fun z : AlK => z.2) e⟩
  keeps := fun _ _ _ ⟨F, hF, cF, xF, tF⟩ kp => ⟨F, PySem.W.Frag.In.keeps hF kp, cF, xF, tF⟩
theorem lookK_eq {fa : List Fa} {fn : List DefD} {ex : PySem.W.Frag → Bool} {ts : List (Str × List Str)} {n : Nat} {g : Addr → Option Obj} {st : Shared} (hg : ∀ a, g a = st.heap.get? a) : lookK fa fn ex ts n g = (hookK fa fn ex ts n).obs st := by
  have e : g = st.heap.get? := funext hg
  subst e
  rfl
theorem tabs_at {w : World} {F : PySem.W.Frag} {ts : List (Str × List Str)} (h : (ts.map fun t => dicW F (ga F t.1)) = ts.map fun t => some (keysIn w.params t.2)) (i : Nat) {t : Str × List Str} (e : ts[i]? = some t) : ∃ es n, KDict F w (ga F t.1) es n := by
  have e2 : (ts.map fun t => dicW F (ga F t.1))[i]? = (ts.map fun t => some (keysIn w.params t.2))[i]? := by rw [h]
  rw [List.getElem?_map, List.getElem?_map, e] at e2
  exact dicW_ok (Option.some.inj e2)
section
variable {K : PySem.W.Frag} {w : World} {H : Hp} {Q : VK} {a : Addr} {z : Str} {v : V}
theorem z_ixK (h : KDct K w a z v) (q : Q v H) : rIxD K w (.ref a) (.str z) H Q := ⟨a, z, v, rfl, rfl, h, q⟩
end
end Z

set_option Elab.async false
set_option linter.all false
set_option maxRecDepth 100000
set_option maxHeartbeats 4000000
/-! Zq: what stays but at some places; comprehensions over enumerate, and by one's own invariant; dicts by written keys. -/
namespace Z
open PySem PySem.Spec PyProof.Rows L2
open Evl (Ex ex_l ex_t ex_rd sq_of st_of fresh_back RetL RetV)
/-- all but what may be written stays -/
def But (B : List Addr) (H H' : Hp) : Prop := ∀ b o, b ∉ B → H b = some o → H' b = some o
section
variable {B C : List Addr} {H H' H2 : Hp} {p : Addr} {o : HO}
theorem But.refl : But B H H := fun _ _ _ h => h
theorem But.ex (e : Ex H H') : But B H H' := fun b o _ h => e b o h
theorem But.trans (a : But B H H') (b : But B H' H2) : But B H H2 := fun c o hc h => b c o hc (a c o hc h)
theorem But.mono (a : But B H H') (s : ∀ b ∈ B, b ∈ C) : But C H H' := fun c o hc h => a c o (fun z => hc (s c z)) h
theorem But.put (h : p ∈ B) : But B H (upd H p o) := fun b u hb e => by
  rw [upd_ne fun z => hb (by rw [z]; exact h)]
  exact e
theorem But.put' (a : But B H H') (h : p ∈ B) : But B H (upd H' p o) := a.trans (But.put h)
theorem But.mut (a : But B H H') (h : H p = none) : But B H (upd H' p o) := fun b u hb e => by
  rw [upd_ne (ne_of_none e h)]
  exact a b u hb e
theorem But.exOf (a : But B H H') (h : ∀ b ∈ B, H b = none) : Ex H H' := fun b u e => a b u (fun z => by
  rw [h b z] at e
  cases e) e
/-- an address that is new later was new ahead, but for the places -/
theorem But.fresh (a : But B H H') (h : H' p = none) (hp : p ∉ B) : H p = none := by
  cases e : H p with
  | none => rfl
  | some u =>
    have := a p u hp e
    rw [h] at this
    cases this
end
/-! ### comprehensions over enumerate -/
def CE (K : PySem.W.Frag) (g : TG) (tt : TT) (te : TE) (vs : List Nat) (σ : L2.St) (xs : List V) (H1 : Hp) (Q : VK) : Prop := ∃ a ys, xs = [.ref a] ∧ SqL K H1 a ys ∧ CW (Ite K a) g tt te vs σ H1 Q
section
variable {K : PySem.W.Frag} {σ : L2.St} {H : Hp} {Q : VK} {g : TG} {tt : TT} {te tl : TE} {ta : TA} {vs : List Nat} {a : Addr} {xs : List V} {n j m : Nat}
theorem z_ce (q : ta σ H fun x H1 => CE K g tt te vs σ x H1 Q) : tLc (iEnum K ta) g tt te vs σ H Q := q
theorem z_CE (hx : SqL K H a xs) (hz : xs.length ≤ 40000) (f : Nat → Bool) (v : Nat → V) (hw : ∀ x y, wipe (((wipe σ vs).set m (some x)).set j (some y)) vs = wipe σ vs)
    (ht : ∀ i x H', i < xs.length → xs[i]? = some x → Ex H H' → Evl.EvT tt (((wipe σ vs).set m (some (.int (i : Nat)))).set j (some x)) H' (f i)) (he : ∀ i x H', i < xs.length → xs[i]? = some x → Ex H H' → f i = true → Evl.Ev te (((wipe σ vs).set m (some (.int (i : Nat)))).set j (some x)) H' (v i))
    (q : ∀ p H2, H p = none → Ex H H2 → H2 p = some (.lst (Evl.given xs.length f v)) → Q (.ref p) H2) : CE K (gTup K 2 (gCons (gName m) (gCons (gName j) gNil))) tt te vs σ [.ref a] H Q :=
  ⟨a, xs, rfl, hx, fun Dl hD => lc_it walk_enum (Evl.Cw H f v Dl) ⟨hD, Ex.new hD, upd_same⟩ (fun _ _ _ p => ex_l p.2.1 hx) (fun i x H1 H2 hi p y => by
    obtain ⟨T, u, x', rfl, e1, rfl, e3, e4⟩ := y
    cases e3
    refine z_gtup2 (st_of upd_same) ⟨hw _ _, ?_⟩
    have p2 : Evl.Cw H f v Dl i (upd H1 T (.tup [.int (i : Nat), x'])) := ⟨p.1, p.2.1.trans (Ex.new e1), Ex.new e1 _ _ p.2.2⟩
    exact Evl.cw_turn p2 (by omega) (ht i x' H hi e4 (Ex.refl H)) fun hf => he i x' H hi e4 (Ex.refl H) hf) (fun H' p => q Dl H' p.1 p.2.1 p.2.2)⟩
/-- one's own invariant: over a range, a list, enumerate -/
theorem z_CR1w {m : Int} (hn : 0 ≤ m ∧ m ≤ 40000) (Pv : Addr → Nat → Hp → Prop) (h0 : ∀ D, H D = none → Pv D 0 (upd H D (.lst []))) (hw : ∀ x, wipe ((wipe σ vs).set j (some x)) vs = wipe σ vs)
    (hs : ∀ D (i : Nat) H1, H D = none → i < m.toNat → Pv D i H1 → te ((wipe σ vs).set j (some (.int (i : Int)))) H1 fun y H2 => ∃ acc, H2 D = some (.lst acc) ∧ acc.length < sizeLine ∧ Pv D (i + 1) (upd H2 D (.lst (acc ++ [y]))))
    (q : ∀ D H2, H D = none → Pv D m.toNat H2 → Q (.ref D) H2) : CR1 (gName j) tYes te vs σ [.int m] H Q :=
  ⟨m, rfl, by omega, by omega, fun D hD => lc_it walk_range (Pv D) (h0 D hD) (fun _ _ _ _ => trivial) (fun i x H1 H2 hi p y => by
    obtain ⟨rfl, rfl⟩ := y
    refine ⟨hw _, ?_⟩
    show te ((wipe σ vs).set j (some (.int (0 + (i : Int))))) H2 _
    rw [Int.zero_add]
    exact hs D i H2 hD hi p) (fun H' p => q D H' hD p)⟩
theorem z_CLw (hx : SqL K H a xs) (Pv : Addr → Nat → Hp → Prop) (h0 : ∀ D, H D = none → Pv D 0 (upd H D (.lst []))) (hG : ∀ D i H1, H D = none → Pv D i H1 → SqL K H1 a xs) (hw : ∀ x, wipe ((wipe σ vs).set j (some x)) vs = wipe σ vs)
    (hs : ∀ D i x H1, H D = none → i < xs.length → xs[i]? = some x → Pv D i H1 → te ((wipe σ vs).set j (some x)) H1 fun y H2 => ∃ acc, H2 D = some (.lst acc) ∧ acc.length < sizeLine ∧ Pv D (i + 1) (upd H2 D (.lst (acc ++ [y]))))
    (q : ∀ D H2, H D = none → Pv D xs.length H2 → Q (.ref D) H2) : CL K (gName j) tYes te vs σ (.ref a) H Q :=
  ⟨a, rfl, ⟨xs, hx⟩, fun D hD => lc_it walk_list (Pv D) (h0 D hD) (fun i H1 _ p => hG D i H1 hD p) (fun i x H1 H2 hi p y => by
    obtain ⟨rfl, e⟩ := y
    exact ⟨hw _, hs D i x H2 hD hi e p⟩) (fun H' p => q D H' hD p)⟩
theorem z_CEw (hx : SqL K H a xs) (Pv : Addr → Nat → Hp → Prop) (h0 : ∀ D, H D = none → Pv D 0 (upd H D (.lst []))) (hG : ∀ D i H1, H D = none → Pv D i H1 → SqL K H1 a xs) (hw : ∀ x y, wipe (((wipe σ vs).set m (some x)).set j (some y)) vs = wipe σ vs)
    (hs : ∀ D i x H1 H2, H D = none → i < xs.length → xs[i]? = some x → Pv D i H1 → Ex H1 H2 → te (((wipe σ vs).set m (some (.int (i : Nat)))).set j (some x)) H2 fun y H3 => ∃ acc, H3 D = some (.lst acc) ∧ acc.length < sizeLine ∧ Pv D (i + 1) (upd H3 D (.lst (acc ++ [y]))))
    (q : ∀ D H2, H D = none → Pv D xs.length H2 → Q (.ref D) H2) : CE K (gTup K 2 (gCons (gName m) (gCons (gName j) gNil))) tYes te vs σ [.ref a] H Q :=
  ⟨a, xs, rfl, hx, fun D hD => lc_it walk_enum (Pv D) (h0 D hD) (fun i H1 _ p => hG D i H1 hD p) (fun i x H1 H2 hi p y => by
    obtain ⟨T, u, x', rfl, e1, rfl, e3, e4⟩ := y
    cases e3
    refine z_gtup2 (st_of upd_same) ⟨hw _ _, ?_⟩
    exact hs D i x' H1 _ hD hi e4 p (Ex.new e1)) (fun H' p => q D H' hD p)⟩
end
/-! ### dicts with a few written keys -/
section
variable {K : PySem.W.Frag} {σ : L2.St} {H : Hp} {Q : VK} {a : Addr} {kvs : List (Key × V)} {x : Str} {v y : V}
theorem z_dgetK (hd : H a = some (.dK kvs)) (e : valV kvs (Sum.inr x) = some v) (q : Q v H) : ∃ a' v', V.ref a = .ref a' ∧ DGet H a' (.str x) (some v') ∧ Q v' H := by
  refine ⟨a, v, rfl, ?_, q⟩
  rw [← e]
  exact DGet.k (k := Sum.inr x) hd
theorem dgK (hd : H a = some (.dK kvs)) (e : valV kvs (Sum.inr x) = some v) : DGet H a (.str x) (some v) := by
  rw [← e]
  exact DGet.k (k := Sum.inr x) hd
theorem dgI {i : Int} (hd : H a = some (.dK kvs)) (e : valV kvs (Sum.inl i) = some v) : DGet H a (.int i) (some v) := by
  rw [← e]
  exact DGet.k (k := Sum.inl i) hd
theorem z_dgetI {i : Int} (hd : H a = some (.dK kvs)) (e : valV kvs (Sum.inl i) = some v) (q : Q v H) : ∃ a' v', V.ref a = .ref a' ∧ DGet H a' (.int i) (some v') ∧ Q v' H := by
  refine ⟨a, v, rfl, ?_, q⟩
  rw [← e]
  exact DGet.k (k := Sum.inl i) hd
end
theorem valV_str {kvs : List (Key × V)} {x : Str} {v : V} (h : kvs.find? (fun kv => decide (kv.1 = Sum.inr x)) = some (Sum.inr x, v)) : valV kvs (Sum.inr x) = some v := by
  unfold valV
  rw [h] <;> rfl
end Z

set_option Elab.async false
set_option linter.all false
set_option maxRecDepth 100000
set_option maxHeartbeats 4000000
/-! Zw: enumerate of a tuple; zip of a list or a tuple beside another one. b tells a tuple. -/
namespace ZW
open PySem PySem.Spec PyProof.Rows L2
open PySem.AutoSeq1 (wpAny_loadPart')
def SIt : Bool → Heap → Addr → Addr → Nat → Prop
  | false, h, it, l, i => h.IsListIter it l i
  | true, h, it, l, i => h.IsTupleIter it l i
def SOf : Bool → Heap → Addr → Array Value → Prop
  | false, h, l, xs => h.IsList l xs
  | true, h, l, xs => h.IsTuple l xs
theorem SIt.keep {b : Bool} {h h' : Heap} {it l : Addr} {i : Nat} (k : ∀ o, h.get? it = some o → h'.get? it = some o) (x : SIt b h it l i) : SIt b h' it l i := by
  cases b with
  | false =>
    obtain ⟨o, g, r⟩ := (x : h.IsListIter it l i)
    exact ⟨o, k o g, r⟩
  | true =>
    obtain ⟨o, g, r⟩ := (x : h.IsTupleIter it l i)
    exact ⟨o, k o g, r⟩
theorem SOf.keep {b : Bool} {h h' : Heap} {l : Addr} {xs : Array Value} (k : ∀ o, h.get? l = some o → h'.get? l = some o) (x : SOf b h l xs) : SOf b h' l xs := by
  cases b with
  | false =>
    obtain ⟨o, g, r⟩ := (x : h.IsList l xs)
    exact ⟨o, k o g, r⟩
  | true =>
    obtain ⟨o, g, r⟩ := (x : h.IsTuple l xs)
    exact ⟨o, k o g, r⟩
theorem SIt.obj {b : Bool} {h : Heap} {it l : Addr} {i : Nat} (x : SIt b h it l i) : ∃ o, h.get? it = some o ∧ ∀ v, o.data ≠ .cell v := by
  cases b with
  | false =>
    obtain ⟨o, g, _, d⟩ := (x : h.IsListIter it l i)
    exact ⟨o, g, fun v z => by rw [d] at z; cases z⟩
  | true =>
    obtain ⟨o, g, _, d⟩ := (x : h.IsTupleIter it l i)
    exact ⟨o, g, fun v z => by rw [d] at z; cases z⟩
theorem SIt.lt {b : Bool} {h : Heap} {it l : Addr} {i : Nat} (x : SIt b h it l i) : it < h.objs.size := by
  obtain ⟨o, g, _⟩ := x.obj
  exact Heap.lt_size g
theorem SIt.but {b : Bool} {h h' : Heap} {it l c : Addr} {i : Nat} (k : Heap.SameBut c h h') (n : it ≠ c) (x : SIt b h it l i) : SIt b h' it l i := x.keep fun o g => (k.2 it n).trans g
theorem SOf.but {b : Bool} {h h' : Heap} {l c : Addr} {xs : Array Value} (k : Heap.SameBut c h h') (n : l ≠ c) (x : SOf b h l xs) : SOf b h' l xs := x.keep fun o g => (k.2 l n).trans g
section
variable {prog : Program} {w : World} {A : Around} {E : Value → Shared → Prop} {s : Shared}
theorem s_item {b : Bool} {it l : Addr} {i : Nat} {xs : Array Value} {x : Value} {Q : Value → Shared → Prop} (si : SIt b s.heap it l i) (so : SOf b s.heap l xs) (ex : xs[i]? = some x)
    (q : ∀ h', SIt b h' it l (i + 1) → Heap.SameBut it s.heap h' → Q x { s with heap := h' }) : wpAny (model prog w) A (Builtin.SmallTypes.nextOf (.ref it)) Q E s := by
  cases b with
  | false => exact wpAny_nextOf_list_item si so ex q
  | true => exact RZ.nextOf_tuple_item si so ex q
theorem s_end {b : Bool} {it l : Addr} {i : Nat} {xs : Array Value} {Q : Value → Shared → Prop} (hh : A.handled = none) (si : SIt b s.heap it l i) (so : SOf b s.heap l xs) (ex : xs[i]? = none)
    (q : ∀ h' e, Heap.ExtBut it s.heap h' → (∃ o, h'.get? e = some o ∧ o.cls = .type "StopIteration") → E (.ref e) { s with heap := h' }) : wpAny (model prog w) A (Builtin.SmallTypes.nextOf (.ref it)) Q E s := by
  cases b with
  | false => exact wpAny_nextOf_list_end hh si so ex q
  | true => exact RZ.nextOf_tuple_end hh si so ex q
/-- a turn of enumerate, whatever stands within -/
theorem en_item {b : Bool} {e it l : Addr} {i : Nat} {xs : Array Value} {x was : Value} {Q : Option Value → Shared → Prop} (ee : IsEnum s.heap e it i was) (si : SIt b s.heap it l i) (so : SOf b s.heap l xs) (ex : xs[i]? = some x) (ne : e ≠ it)
    (q : ∀ h', IsEnumOut h' e it ((i : Int) + 1) x s.heap.objs.size → SIt b h' it l (i + 1) → h'.get? s.heap.objs.size = some (seqObj "tuple" #[.int i s.toks, x] 0) → (∀ c o, c ≠ e → c ≠ it → s.heap.get? c = some o → h'.get? c = some o) → Q (some (.ref s.heap.objs.size)) { s with heap := h', toks := s.toks + 1 }) :
    wpAny (model prog w) A (pyNext (.ref e)) Q E s := by
  have ty : s.TypeIs (.ref e) "enumerate" := ⟨_, ee, rfl⟩
  have el := Heap.lt_size ee
  unfold pyNext
  refine wpAny_bind (wpAny_attempt (wpAny_callSpecial?_slot (name := Str.ofString "__next__") ty F.slot_enumerate_next (wpAny_call_entry F.slot_enumerate_next ty F.entry_enumerate_next ?_ (F.args_enumerate_next_1 _))))
  obtain ⟨h, g, d, tk, os⟩ := s
  show wpAny _ _ (field (.ref e) 2 >>= _) _ _ _
  refine wpAny_bind (wpAny_field ee rfl (x := .ref it) rfl (wpAny_bind (s_item si so ex fun h1 si1 c1 => ?_)))
  have e1 : IsEnum h1 e it i was := (c1.2 e ne).trans ee
  show wpAny _ _ (field (.ref e) 3 >>= _) _ _ _
  refine wpAny_bind (wpAny_field e1 rfl (x := rawInt i) rfl ?_)
  show wpAny _ _ (field (.ref e) 4 >>= _) _ _ _
  refine wpAny_bind (wpAny_field e1 rfl (x := .none) rfl ?_)
  show wpAny _ _ (mkInt i >>= _) _ _ _
  refine wpAny_bind (wpAny_mkInt ?_)
  show wpAny _ _ (setField (.ref e) 3 (rawInt ((i : Int) + 1)) >>= _) _ _ _
  refine wpAny_bind (wpAny_setField_rec e1 (by simp) fun h2 e2 c2 => ?_)
  have e2' : IsEnum h2 e it ((i : Int) + 1) was := e2
  show wpAny _ _ (setField (.ref e) 4 .none >>= _) _ _ _
  refine wpAny_bind (wpAny_setField_rec e2' (by simp) fun h3 e3 c3 => ?_)
  have e3' : IsEnum h3 e it ((i : Int) + 1) was := e3
  have sz3 : h3.objs.size = h.objs.size := c3.1.trans (c2.1.trans c1.1)
  show wpAny _ _ (newTuple [.int i tk, x] >>= _) _ _ _
  refine wpAny_bind (wpAny_newTuple ?_)
  have e4 : IsEnum (h3.push (seqObj "tuple" #[.int i tk, x] 0)) e it ((i : Int) + 1) was := Heap.get?_push_of_some _ e3'
  have t4 : (h3.push (seqObj "tuple" #[.int i tk, x] 0)).get? h.objs.size = some (seqObj "tuple" #[.int i tk, x] 0) := by
    rw [← sz3]
    exact Heap.get?_push_size _ rfl
  have o4 : ∀ c o, c ≠ e → c ≠ it → h.get? c = some o → (h3.push (seqObj "tuple" #[.int i tk, x] 0)).get? c = some o := fun c o n1 n2 gc => Heap.get?_push_of_some _ ((c3.2 c n1).trans ((c2.2 c n1).trans ((c1.2 c n2).trans gc)))
  have si4 : SIt b (h3.push (seqObj "tuple" #[.int i tk, x] 0)) it l (i + 1) := ((si1.but c2 ne.symm).but c3 ne.symm).keep fun o gc => Heap.get?_push_of_some _ gc
  show wpAny _ _ (Builtin.SmallTypes.ownedTupleIsFree (.ref e) >>= _) _ _ { heap := h3.push (seqObj "tuple" #[.int i tk, x] 0), gens := g, drawn := d, toks := tk + 1, os := os }
  rw [sz3]
  generalize h3.push (seqObj "tuple" #[.int i tk, x] 0) = h4 at e4 t4 o4 si4 ⊢
  clear e3 e3' c3 e2 e2' c2 e1 c1 si1 sz3 h3 h2 h1
  refine wpAny_bind ?_
  unfold Builtin.SmallTypes.ownedTupleIsFree
  refine wpAny_bind (wpAny_field e4 rfl (x := .none) rfl (wpAny_pure ?_))
  simp only [if_true]
  refine wpAny_bind (wpAny_rule (wpAny_bind (wpAny_field e4 rfl (x := was) rfl (wpAny_bind (wpAny_setField_rec e4 (by simp) fun h5 e5 c5 => ?_)))))
  have e5' : IsEnum h5 e it ((i : Int) + 1) x := e5
  show wpAny _ _ (Builtin.SmallTypes.ownedTupleHandOut (.ref e) (.ref h.objs.size) >>= _) _ _ _
  refine wpAny_bind ?_
  unfold Builtin.SmallTypes.ownedTupleHandOut
  refine wpAny_bind (wpAny_setField_rec e5' (by simp) fun h6 e6 c6 => ?_)
  have e6' : IsEnumOut h6 e it ((i : Int) + 1) x h.objs.size := e6
  refine wpAny_setField_rec e6' (by simp) fun h7 e7 c7 => wpAny_bind (wpAny_letGo (wpAny_pure ⟨_, rfl, wpAny_pure ?_⟩))
  have up : ∀ c, c ≠ e → h7.get? c = h4.get? c := fun c n => (c7.2 c n).trans ((c6.2 c n).trans (c5.2 c n))
  exact q h7 e7 (si4.keep fun o gc => (up it ne.symm).trans gc) ((up _ (Nat.ne_of_gt el)).trans t4) fun c o n1 n2 gc => (up c n1).trans (o4 c o n1 n2 gc)
theorem en_end {b : Bool} {e it l : Addr} {i : Nat} {xs : Array Value} {was : Value} {Q : Option Value → Shared → Prop} (hh : A.handled = none) (ee : IsEnum s.heap e it i was) (si : SIt b s.heap it l i) (so : SOf b s.heap l xs) (ex : xs[i]? = none)
    (q : ∀ h', Heap.ExtBut it s.heap h' → Q none { s with heap := h' }) : wpAny (model prog w) A (pyNext (.ref e)) Q E s := by
  have ty : s.TypeIs (.ref e) "enumerate" := ⟨_, ee, rfl⟩
  unfold pyNext
  refine wpAny_bind (wpAny_attempt (wpAny_callSpecial?_slot (name := Str.ofString "__next__") ty F.slot_enumerate_next (wpAny_call_entry F.slot_enumerate_next ty F.entry_enumerate_next ?_ (F.args_enumerate_next_1 _))))
  show wpAny _ _ (field (.ref e) 2 >>= _) _ _ _
  refine wpAny_bind (wpAny_field ee rfl (x := .ref it) rfl (wpAny_bind (s_end hh si so ex fun h1 z k1 ⟨oz, gz, cz⟩ => ?_)))
  exact wpAny_bind (wpAny_isInstance (T := "StopIteration") (b := true) ⟨oz, gz, cz⟩ isSubtype_stop (wpAny_pure (q _ k1)))
end
theorem new_enT (l : Addr) (xs : Array Value) (n : Nat) (dc : Option Addr) (sl : Array (Option Value)) :
    Meets (Builtin.«enumerate.__new__» ⟨[.type "enumerate", .ref l], []⟩) (fun _ R s => s.heap.get? l = some { cls := .type "tuple", dict := dc, data := .seq xs n, slots := sl } ∧
      R (.ok (.ret (.ref (s.heap.push { cls := .type "tuple_iterator", data := .fields #[.ref l, .int 0 0] }).objs.size)))
        { s with heap := (s.heap.push { cls := .type "tuple_iterator", data := .fields #[.ref l, .int 0 0] }).push { cls := .type "enumerate", data := .fields #[.none, .bool false, .ref s.heap.objs.size, rawInt 0, .none, .none] } }) :=
  .of_wp fun prog w A R s ⟨gl, hR⟩ => by
    obtain ⟨h, g, d, tk, os⟩ := s
    have sb := sub_enumerate
    have tl : Heap.IsTuple (Shared.heap ⟨h, g, d, tk, os⟩) l xs := ⟨_, gl, rfl, n, rfl⟩
    wp_walk using wpAny_loadPart' gl
    refine wpAny_stack_any fun st => wpAny_pure ?_
    split
    · rename_i c _ _ _ _ _
      cases (c == Value.type "enumerate") <;> (wp_walk using wpAny_loadPart' gl, wpAny_pyIter_tuple tl; exact ⟨_, rfl, hR⟩)
    · wp_walk using wpAny_loadPart' gl, wpAny_pyIter_tuple tl
      exact ⟨_, rfl, hR⟩
section
variable {prog : Program} {w : World} {A : Around} {E : Value → Shared → Prop} {s : Shared}
theorem call_en {b : Bool} {l : Addr} {xs : Array Value} {Q : Value → Shared → Prop} (so : SOf b s.heap l xs)
    (q : ∀ h', IsEnum h' (s.heap.objs.size + 1) s.heap.objs.size 0 .none → SIt b h' s.heap.objs.size l 0 → (∀ c o, s.heap.get? c = some o → h'.get? c = some o) → Q (.ref (s.heap.objs.size + 1)) { s with heap := h' }) :
    wpAny (model prog w) A (call (.type "enumerate") [.ref l]) Q E s := by
  cases b with
  | false => exact call_enumerate_list so fun h' a b _ c => q h' a b c
  | true =>
    obtain ⟨⟨c, dc, dt, sl⟩, gl, hc, n, hd⟩ := (so : s.heap.IsTuple l xs)
    obtain rfl : c = .type "tuple" := hc
    obtain rfl : dt = .seq xs n := hd
    refine callType_new F.called_enumerate (by decide) (F.typeCall_enumerate_1 _) (F.newCall_enumerate_1 _) (fun obj => F.args_object_init_2 obj _) F.entry_enumerate_new (new_enT l xs n dc sl) ⟨gl, ?_⟩
    have z1 : (s.heap.push { cls := .type "tuple_iterator", data := .fields #[.ref l, .int 0 0] }).objs.size = s.heap.objs.size + 1 := Heap.size_push ..
    show _ ∧ _
    rw [z1]
    have ee : IsEnum ((s.heap.push { cls := .type "tuple_iterator", data := .fields #[.ref l, .int 0 0] }).push { cls := .type "enumerate", data := .fields #[.none, .bool false, .ref s.heap.objs.size, rawInt 0, .none, .none] }) (s.heap.objs.size + 1) s.heap.objs.size 0 .none := by
      have z := Heap.get?_push_size (s.heap.push { cls := .type "tuple_iterator", data := .fields #[.ref l, .int 0 0] }) (o := { cls := .type "enumerate", data := .fields #[.none, .bool false, .ref s.heap.objs.size, rawInt 0, .none, .none] }) rfl
      rw [z1] at z
      exact z
    exact ⟨⟨_, ee, rfl⟩, q _ ee ⟨_, Heap.get?_push_of_some _ (Heap.get?_push_size _ rfl), rfl, rfl⟩ fun c o gc => Heap.get?_push_of_some _ (Heap.get?_push_of_some _ gc)⟩
end
/-- a list or a tuple -/
def SqS (b : Bool) (K : PySem.W.Frag) (H : Hp) (a : Addr) (xs : List V) : Prop := match b with
  | false => SqL K H a xs
  | true => SqT K H a xs
section
variable {X : Cx} {pins : List (Addr × Obj)} {σ : L2.St} {H : Hp} {s : Shared} {a : Addr} {xs ys : List V} {b : Bool}
theorem sOf (I : Inv X pins σ H s) (h : SqS b X.K H a xs) : ∃ its : List Value, Vals xs its ∧ SOf b s.heap a its.toArray ∧ xs.length ≤ sizeLine := by
  cases b with
  | false =>
    obtain ⟨its, rv, p, z⟩ := I.list h
    exact ⟨its, rv, p.isList, z⟩
  | true =>
    obtain ⟨its, rv, p, z⟩ := I.tuple h
    exact ⟨its, rv, p, z⟩
theorem sInj (I : Inv X pins σ H s) (h : SqS b X.K H a xs) (k : SqS b X.K H a ys) : xs = ys := by
  cases b with
  | false => exact I.list_inj h k
  | true => exact I.tuple_inj h k
end
def IteS (b : Bool) (K : PySem.W.Frag) (a : Addr) : It :=
  ⟨fun i H => ∃ (xs : List V) (x : V), SqS b K H a xs ∧ xs[i]? = some x, fun i H v H' => ∃ T x, v = .ref T ∧ H T = none ∧ H' = upd H T (.tup [.int (i : Nat), x]) ∧ ∀ xs, SqS b K H a xs → xs[i]? = some x, fun i H => ∃ xs : List V, SqS b K H a xs ∧ xs.length ≤ i⟩
theorem turn_enS {P : Program} {w : World} {K : PySem.W.Frag} {elts : List Expr} {kk : Nat} {tpos : Pos} (b : Bool) (a e it : Addr) :
    Turn P w K (.Tuple elts kk tpos) (IteS b K a) [e, it] e (fun i h => (∃ was, IsEnum h e it ((i : Nat) : Int) was) ∧ SIt b h it a i ∧ e ≠ it) where
  mem := List.mem_cons_self
  obj := fun i h st c hc => by
    obtain ⟨⟨was, ee⟩, si, _⟩ := st
    rcases List.mem_cons.mp hc with z | z
    · rw [z]
      exact ⟨_, ee, fun v q => nomatch q⟩
    · rw [List.mem_singleton.mp z]
      exact si.obj
  keep := fun i h h' st k => by
    obtain ⟨⟨was, ee⟩, si, ne⟩ := st
    exact ⟨⟨was, k e (by simp) _ ee⟩, si.keep fun o g => k it (by simp) o g, ne⟩
  item := by
    intro X hP hw hK _ i pins s σ H E I fp st go
    subst hP hw hK
    obtain ⟨⟨was, ee⟩, si, ne⟩ := st
    obtain ⟨xs, x, hq, hx⟩ := go
    obtain ⟨its, rv, so, _⟩ := sOf I hq
    obtain ⟨u, hu, ru⟩ := rv.get hx
    have le := Heap.lt_size ee
    have li := si.lt
    refine en_item ee si so (x := u) (by simpa using hu) ne fun h1 eo si1 gt kp => ⟨_, rfl, wpAny_letOwnedTupleGo_enum (s := { s with heap := h1, toks := s.toks + 1 }) eo fun h2 e2 c2 => ?_⟩
    have g2 : h2.get? s.heap.objs.size = some (seqObj "tuple" #[.int i s.toks, u] 0) := (c2.2 _ (Nat.ne_of_gt le)).trans gt
    have new : ObjOk X.prog X.w (upd H s.heap.objs.size (.tup [.int (i : Nat), x])) h2 s.heap.objs.size (.tup [.int (i : Nat), x]) :=
      ⟨by show 2 ≤ sizeLine; decide, [.int i s.toks, u], .cons ⟨_, rfl⟩ (.cons ru .nil), ⟨_, g2, rfl, _, rfl⟩⟩
    have I2 : Inv X pins σ (upd H s.heap.objs.size (.tup [.int (i : Nat), x])) { s with heap := h2, toks := s.toks + 1 } :=
      I.turnedNew (ch := [e, it]) (fun c o hc g => (c2.2 c fun z => hc (by simp [z])).trans (kp c o (fun z => hc (by simp [z])) (fun z => hc (by simp [z])) g)) fp (Nat.le_refl _) new
    refine ⟨.ref s.heap.objs.size, _, I2, rfl, ⟨_, x, rfl, I.hok.fresh (Nat.le_refl _), rfl, fun zs hz => by rw [sInj I hz hq]; exact hx⟩, ⟨⟨u, ?_⟩, si1.but c2 ne.symm, ne⟩, fun c hc => ?_⟩
    · rw [show ((i + 1 : Nat) : Int) = (i : Int) + 1 by omega]
      exact e2
    · rw [upd_ne (by rcases List.mem_cons.mp hc with z | z <;> first | (rw [z]; exact Nat.ne_of_lt le) | (rw [List.mem_singleton.mp z]; exact Nat.ne_of_lt li))]
      exact (fp c hc).1
  done := by
    intro X hP hw hK hcalm i pins s σ H E I fp st stop
    subst hP hw hK
    obtain ⟨⟨was, ee⟩, si, ne⟩ := st
    obtain ⟨xs, hq, hx⟩ := stop
    obtain ⟨its, rv, so, _⟩ := sOf I hq
    obtain ⟨f0, f1, f2, f3, f4, f5⟩ := fp it (by simp)
    have hl := rv.length
    exact en_end (I.ok.hd hcalm) ee si so (by simp; omega) fun h1 k1 => ⟨rfl, I.turned (t' := s.toks) (fun c o hc g => k1 c o hc g) f0 f1 f3 f4 f5⟩
  self := fun A i s Q E st q => by
    obtain ⟨⟨_, ee⟩, _⟩ := st
    exact wpAny_pyIter_enum ee q
def iEnS (K : PySem.W.Frag) (ta : TA) : TI := fun σ H R => ta σ H fun vs H1 => ∃ b a xs, vs = [.ref a] ∧ SqS b K H1 a xs ∧ R (IteS b K a) H1
theorem pi_enS {X : Cx} {e : Expr} {ta : TA} {p pos tpos : Pos} {elts : List Expr} {kk : Nat} (hg : Gl X "enumerate") (hm : X.mg "enumerate" = none) (ha : PA X [e] ta) (hs : starEach [e] X.env = [(false, eval e X.env)] := by rfl) :
    PI X (.Tuple elts kk tpos) (.Call (.Name "enumerate" p) [e] [] pos) (iEnS X.K ta) := by
  refine ⟨fun pins s σ H R I h => Call_ (ld_blt I hg hm boot_enumerate (PyProof.Rows.callWith_type1 (thn (ha.run pos pins s σ H _ I h) fun us s1 ⟨vs, H1, I1, r1, q1⟩ => ?_) hs rfl))⟩
  obtain ⟨b, a, xs, rfl, hq, q⟩ := q1
  obtain ⟨u, rfl, ru⟩ := vals1 r1
  cases ru
  obtain ⟨its, rv, so, _⟩ := sOf I1 hq
  refine call_en so fun h1 ee si kp => wpAny_pyIter_enum ee ?_
  have I2 : Inv X pins σ H1 { s1 with heap := h1 } := I1.kept (t' := s1.toks) kp
  refine ⟨s1.heap.objs.size + 1, [s1.heap.objs.size + 1, s1.heap.objs.size], _, _, H1, rfl, I2, turn_enS b a (s1.heap.objs.size + 1) s1.heap.objs.size, ⟨⟨.none, ee⟩, si, Nat.succ_ne_self _⟩, fun c hc => ?_, q⟩
  have le : s1.heap.objs.size ≤ c := by
    rcases List.mem_cons.mp hc with z | z
    · rw [z]
      exact Nat.le_succ _
    · rw [List.mem_singleton.mp z]
      exact Nat.le_refl _
  exact I1.fpOk le (I1.hok.fresh le)
/-! ### zip -/
section
variable {prog : Program} {w : World} {A : Around} {E : Value → Shared → Prop} {s : Shared} {b c : Bool} {z TI TO i1 i2 l1 l2 : Addr} {k1 k2 : Nat} {xs ys : Array Value} {x y u v : Value}
/-- what stays over a turn -/
def Kept (z TO i1 i2 : Addr) (h h' : Heap) : Prop := ∀ d o, d ≠ z → d ≠ TO → d ≠ i1 → d ≠ i2 → h.get? d = some o → h'.get? d = some o
theorem zw_item {Q : Option Value → Shared → Prop} (D : ZipApart z TI TO i1 i2 l1 l2) (zz : IsZip s.heap z TI TO .none) (ti : IsPair s.heap TI (.ref i1) (.ref i2)) (to : IsPair s.heap TO u v) (s1 : SIt b s.heap i1 l1 k1) (s2 : SIt c s.heap i2 l2 k2)
    (o1 : SOf b s.heap l1 xs) (o2 : SOf c s.heap l2 ys) (ex : xs[k1]? = some x) (ey : ys[k2]? = some y)
    (q : ∀ h', IsZip h' z TI TO (rawInt s.heap.objs.size) → IsPair h' TO x y → SIt b h' i1 l1 (k1 + 1) → SIt c h' i2 l2 (k2 + 1) → IsPair h' s.heap.objs.size x y → Kept z TO i1 i2 s.heap h' → Q (some (.ref s.heap.objs.size)) { s with heap := h' }) :
    wpAny (model prog w) A (pyNext (.ref z)) Q E s := by
  have ty : s.TypeIs (.ref z) "zip" := ⟨_, zz, rfl⟩
  unfold pyNext
  refine wpAny_bind (wpAny_attempt (wpAny_callSpecial?_slot (name := Str.ofString "__next__") ty F.slot_zip_next (wpAny_call_entry F.slot_zip_next ty F.entry_zip_next ?_ (F.args_zip_next_1 _))))
  show wpAny _ _ (field (.ref z) 2 >>= _) _ _ _
  refine wpAny_bind (wpAny_field zz rfl (x := .bool false) rfl ?_)
  show wpAny _ _ (field (.ref z) 3 >>= _) _ _ _
  refine wpAny_bind (wpAny_field zz rfl (x := .ref TI) rfl (wpAny_bind (wpAny_seqItems ti rfl ?_)))
  show wpAny _ _ (Builtin.SmallTypes.ownedTupleIsFree (.ref z) >>= _) _ _ _
  refine wpAny_bind ?_
  unfold Builtin.SmallTypes.ownedTupleIsFree
  refine wpAny_bind (wpAny_field zz rfl (x := .none) rfl (wpAny_pure ?_))
  simp only [if_true]
  refine wpAny_bind (wpAny_rule (wpAny_bind (wpAny_field zz rfl (x := .ref TO) rfl (wpAny_bind (wpAny_setField_rec zz (by simp) fun h1 z1 c1 => ?_)))))
  have z1' : IsZip h1 z TI TO .ellipsis := z1
  refine wpAny_bind ?_
  simp only [List.zipIdx_cons, List.zipIdx_nil, List.forIn_cons, List.forIn_nil]
  refine wpAny_bind (wpAny_bind (wpAny_onRaise ?_))
  show wpAny _ _ (Builtin.SmallTypes.nextOf (.ref i1) >>= _) _ _ _
  refine wpAny_bind (s_item (s1.but c1 D.i1z) (o1.but c1 D.l1z) ex fun h2 t2 c2 => wpAny_pure ?_)
  have to2 : IsPair h2 TO u v := (c2.2 _ D.TOi1).trans ((c1.2 _ D.TOz).trans to)
  refine wpAny_bind (wpAny_seqItems to2 rfl (wpAny_bind (wpAny_updateSeq_pair to2 fun h3 to3 c3 => wpAny_bind (wpAny_letGo (wpAny_pure ?_)))))
  have to3' : IsPair h3 TO x v := to3
  refine wpAny_bind (wpAny_bind (wpAny_onRaise ?_))
  show wpAny _ _ (Builtin.SmallTypes.nextOf (.ref i2) >>= _) _ _ _
  refine wpAny_bind (s_item (((s2.but c1 D.i2z).but c2 D.i12.symm).but c3 D.TOi2.symm) (((o2.but c1 D.l2z).but c2 D.l2i1).but c3 D.l2TO) ey fun h4 t4 c4 => wpAny_pure ?_)
  have to4 : IsPair h4 TO x v := (c4.2 _ D.TOi2).trans to3'
  refine wpAny_bind (wpAny_seqItems to4 rfl (wpAny_bind (wpAny_updateSeq_pair to4 fun h5 to5 c5 => wpAny_bind (wpAny_letGo (wpAny_pure (wpAny_pure ?_))))))
  have to5' : IsPair h5 TO x y := to5
  have sz5 : h5.objs.size = s.heap.objs.size := c5.1.trans (c4.1.trans (c3.1.trans (c2.1.trans c1.1)))
  have z5 : IsZip h5 z TI TO .ellipsis := (c5.2 _ D.TOz.symm).trans ((c4.2 _ D.i2z.symm).trans ((c3.2 _ D.TOz.symm).trans ((c2.2 _ D.i1z.symm).trans z1')))
  have zl : z < h5.objs.size := Heap.lt_size z5
  have s15 : SIt b h5 i1 l1 (k1 + 1) := ((t2.but c3 D.TOi1.symm).but c4 D.i12).but c5 D.TOi1.symm
  have s25 : SIt c h5 i2 l2 (k2 + 1) := t4.but c5 D.TOi2.symm
  refine wpAny_bind (wpAny_seqItems to5' rfl (wpAny_bind (wpAny_newTuple ?_)))
  show wpAny _ _ (Builtin.SmallTypes.ownedTupleHandOut (.ref z) (.ref h5.objs.size) >>= _) _ _ _
  refine wpAny_bind ?_
  unfold Builtin.SmallTypes.ownedTupleHandOut
  have z6 : IsZip (h5.push (seqObj "tuple" #[x, y] 0)) z TI TO .ellipsis := Heap.get?_push_of_some _ z5
  refine wpAny_bind (wpAny_setField_rec z6 (by simp) fun h7 z7 c7 => ?_)
  have z7' : IsZip h7 z TI TO (rawInt h5.objs.size) := z7
  refine wpAny_setField_rec z7' (by simp) fun h8 z8 c8 => ?_
  have z8' : IsZip h8 z TI TO (rawInt h5.objs.size) := z8
  have up : ∀ d o, d ≠ z → h5.get? d = some o → h8.get? d = some o := fun d o n gd => (c8.2 d n).trans ((c7.2 d n).trans (Heap.get?_push_of_some _ gd))
  have tn : IsPair h8 h5.objs.size x y := (c8.2 _ (Nat.ne_of_gt zl)).trans ((c7.2 _ (Nat.ne_of_gt zl)).trans (Heap.get?_push_size _ rfl))
  refine wpAny_pure ⟨_, rfl, wpAny_pure ?_⟩
  show Q (some (.ref h5.objs.size)) _
  rw [sz5] at z8' tn ⊢
  exact q h8 z8' (up _ _ D.TOz to5') (s15.keep fun o g => up _ o D.i1z g) (s25.keep fun o g => up _ o D.i2z g) tn fun d o n1 n2 n3 n4 g => up d o n1 ((c5.2 d n2).trans ((c4.2 d n4).trans ((c3.2 d n2).trans ((c2.2 d n3).trans ((c1.2 d n1).trans g)))))
theorem zw_end {Q : Option Value → Shared → Prop} (hh : A.handled = none) (D : ZipApart z TI TO i1 i2 l1 l2) (zz : IsZip s.heap z TI TO .none) (ti : IsPair s.heap TI (.ref i1) (.ref i2)) (to : IsPair s.heap TO u v) (s1 : SIt b s.heap i1 l1 k1) (s2 : SIt c s.heap i2 l2 k2)
    (o1 : SOf b s.heap l1 xs) (o2 : SOf c s.heap l2 ys) (ee : xs[k1]? = none ∨ ys[k2]? = none) (q : ∀ h', Kept z TO i1 i2 s.heap h' → Q none { s with heap := h' }) : wpAny (model prog w) A (pyNext (.ref z)) Q E s := by
  have ty : s.TypeIs (.ref z) "zip" := ⟨_, zz, rfl⟩
  have stop : ∀ (h' : Heap) (e : Addr), Kept z TO i1 i2 s.heap h' → (∃ o, h'.get? e = some o ∧ o.cls = .type "StopIteration") → wpAny (model prog w) A (isInstance (.ref e) (.type "StopIteration") >>= fun r => if r = true then (pure none : Sem (Option Value)) else throw (.ref e)) Q E { s with heap := h' } := fun h' e kp ⟨o, g, cl⟩ =>
    wpAny_bind (wpAny_isInstance (T := "StopIteration") (b := true) ⟨o, g, cl⟩ isSubtype_stop (wpAny_pure (q _ kp)))
  unfold pyNext
  refine wpAny_bind (wpAny_attempt (wpAny_callSpecial?_slot (name := Str.ofString "__next__") ty F.slot_zip_next (wpAny_call_entry F.slot_zip_next ty F.entry_zip_next ?_ (F.args_zip_next_1 _))))
  show wpAny _ _ (field (.ref z) 2 >>= _) _ _ _
  refine wpAny_bind (wpAny_field zz rfl (x := .bool false) rfl ?_)
  show wpAny _ _ (field (.ref z) 3 >>= _) _ _ _
  refine wpAny_bind (wpAny_field zz rfl (x := .ref TI) rfl (wpAny_bind (wpAny_seqItems ti rfl ?_)))
  show wpAny _ _ (Builtin.SmallTypes.ownedTupleIsFree (.ref z) >>= _) _ _ _
  refine wpAny_bind ?_
  unfold Builtin.SmallTypes.ownedTupleIsFree
  refine wpAny_bind (wpAny_field zz rfl (x := .none) rfl (wpAny_pure ?_))
  simp only [if_true]
  refine wpAny_bind (wpAny_rule (wpAny_bind (wpAny_field zz rfl (x := .ref TO) rfl (wpAny_bind (wpAny_setField_rec zz (by simp) fun h1 z1 c1 => ?_)))))
  have z1' : IsZip h1 z TI TO .ellipsis := z1
  refine wpAny_bind ?_
  simp only [List.zipIdx_cons, List.zipIdx_nil, List.forIn_cons, List.forIn_nil]
  refine wpAny_bind (wpAny_bind (wpAny_onRaise ?_))
  show wpAny _ _ (Builtin.SmallTypes.nextOf (.ref i1) >>= _) _ _ _
  cases ex : xs[k1]? with
  | none =>
    refine wpAny_bind (s_end hh (s1.but c1 D.i1z) (o1.but c1 D.l1z) ex fun h2 e k2' ⟨oe, ge, ce⟩ => ?_)
    have z2 : IsZip h2 z TI TO .ellipsis := k2' _ _ D.i1z.symm z1'
    have ez : e ≠ z := fun r => by
      rw [r, z2] at ge
      cases ge
      simp at ce
    refine wpAny_setField_rec z2 (by simp) fun h3 _ c3 => stop h3 e (fun d o n1 _ n3 _ g => (c3.2 d n1).trans (k2' d o n3 ((c1.2 d n1).trans g))) ⟨oe, (c3.2 e ez).trans ge, ce⟩
  | some x =>
    have ey : ys[k2]? = none := by
      rcases ee with r | r
      · rw [ex] at r
        cases r
      · exact r
    refine wpAny_bind (s_item (s1.but c1 D.i1z) (o1.but c1 D.l1z) ex fun h2 t2 c2 => wpAny_pure ?_)
    have to2 : IsPair h2 TO u v := (c2.2 _ D.TOi1).trans ((c1.2 _ D.TOz).trans to)
    refine wpAny_bind (wpAny_seqItems to2 rfl (wpAny_bind (wpAny_updateSeq_pair to2 fun h3 to3 c3 => wpAny_bind (wpAny_letGo (wpAny_pure ?_)))))
    refine wpAny_bind (wpAny_bind (wpAny_onRaise ?_))
    show wpAny _ _ (Builtin.SmallTypes.nextOf (.ref i2) >>= _) _ _ _
    refine wpAny_bind (s_end hh (((s2.but c1 D.i2z).but c2 D.i12.symm).but c3 D.TOi2.symm) (((o2.but c1 D.l2z).but c2 D.l2i1).but c3 D.l2TO) ey fun h4 e k4 ⟨oe, ge, ce⟩ => ?_)
    have z4 : IsZip h4 z TI TO .ellipsis := k4 _ _ D.i2z.symm ((c3.2 _ D.TOz.symm).trans ((c2.2 _ D.i1z.symm).trans z1'))
    have ez : e ≠ z := fun r => by
      rw [r, z4] at ge
      cases ge
      simp at ce
    refine wpAny_setField_rec z4 (by simp) fun h5 _ c5 => stop h5 e (fun d o n1 n2 n3 n4 g => (c5.2 d n1).trans (k4 d o n4 ((c3.2 d n2).trans ((c2.2 d n3).trans ((c1.2 d n1).trans g))))) ⟨oe, (c5.2 e ez).trans ge, ce⟩
end
/-- an iterator at its beginning -/
def itO (b : Bool) (l : Addr) : Obj := { cls := .type (match b with | false => "list_iterator" | true => "tuple_iterator"), data := .fields #[.ref l, .int 0 0] }
theorem itO_at {b : Bool} {h : Heap} {a l : Addr} (g : h.get? a = some (itO b l)) : SIt b h a l 0 := by
  cases b <;> exact ⟨_, g, rfl, rfl⟩
def zh3 (b c : Bool) (h : Heap) (l m : Addr) : Heap := ((h.push (itO b l)).push (itO c m)).push (seqObj "tuple" #[.ref h.objs.size, .ref (h.objs.size + 1)] 0)
def zh5 (b c : Bool) (h : Heap) (l m : Addr) : Heap := ((zh3 b c h l m).push (seqObj "tuple" #[.none, .none] 0)).push { cls := .type "zip", data := .fields #[.none, .bool false, .bool false, .ref (h.objs.size + 2), .ref (h.objs.size + 3)] }
theorem new_zip (b c : Bool) (l m : Addr) (xs ys : Array Value) :
    Meets (Builtin.«zip.__new__» ⟨[.type "zip", .ref l, .ref m], []⟩) (fun _ R s => SOf b s.heap l xs ∧ SOf c s.heap m ys ∧ R (.ok (.ret (.ref (s.heap.objs.size + 4)))) { s with heap := zh5 b c s.heap l m }) :=
  .of_wp fun prog w A R s ⟨o1, o2, hR⟩ => by
    obtain ⟨h, g, d, tk, os⟩ := s
    have sb := sub_zip
    have p1 : (h.push (itO b l)).objs.size = h.objs.size + 1 := Heap.size_push ..
    have p2 : ((h.push (itO b l)).push (itO c m)).objs.size = h.objs.size + 2 := by rw [Heap.size_push, p1]
    have p3 : (zh3 b c h l m).objs.size = h.objs.size + 3 := (Heap.size_push ..).trans (by rw [p2])
    have p4 : ((zh3 b c h l m).push (seqObj "tuple" #[.none, .none] 0)).objs.size = h.objs.size + 4 := (Heap.size_push ..).trans (by rw [p3])
    have o2' : SOf c (h.push (itO b l)) m ys := o2.keep fun o gm => Heap.get?_push_of_some _ gm
    unfold zh5 at hR
    rw [← p4, ← p3, ← p2] at hR
    unfold zh3 at hR
    rw [← p1] at hR
    cases b <;> cases c
    · have t1 : Heap.IsList (Shared.heap ⟨h, g, d, tk, os⟩) l xs := o1
      have t2 : Heap.IsList (Shared.heap ⟨h.push { cls := .type "list_iterator", data := .fields #[.ref l, .int 0 0] }, g, d, tk, os⟩) m ys := o2'
      wp_walk using wpAny_pyIter_list t1, wpAny_pyIter_list t2
      exact ⟨_, rfl, hR⟩
    · have t1 : Heap.IsList (Shared.heap ⟨h, g, d, tk, os⟩) l xs := o1
      have t2 : Heap.IsTuple (Shared.heap ⟨h.push { cls := .type "list_iterator", data := .fields #[.ref l, .int 0 0] }, g, d, tk, os⟩) m ys := o2'
      wp_walk using wpAny_pyIter_list t1, wpAny_pyIter_tuple t2
      exact ⟨_, rfl, hR⟩
    · have t1 : Heap.IsTuple (Shared.heap ⟨h, g, d, tk, os⟩) l xs := o1
      have t2 : Heap.IsList (Shared.heap ⟨h.push { cls := .type "tuple_iterator", data := .fields #[.ref l, .int 0 0] }, g, d, tk, os⟩) m ys := o2'
      wp_walk using wpAny_pyIter_tuple t1, wpAny_pyIter_list t2
      exact ⟨_, rfl, hR⟩
    · have t1 : Heap.IsTuple (Shared.heap ⟨h, g, d, tk, os⟩) l xs := o1
      have t2 : Heap.IsTuple (Shared.heap ⟨h.push { cls := .type "tuple_iterator", data := .fields #[.ref l, .int 0 0] }, g, d, tk, os⟩) m ys := o2'
      wp_walk using wpAny_pyIter_tuple t1, wpAny_pyIter_tuple t2
      exact ⟨_, rfl, hR⟩
section
variable {prog : Program} {w : World} {A : Around} {E : Value → Shared → Prop} {s : Shared} {b c : Bool} {l m : Addr} {xs ys : Array Value}
theorem call_zw {Q : Value → Shared → Prop} (o1 : SOf b s.heap l xs) (o2 : SOf c s.heap m ys)
    (q : ∀ h', IsZip h' (s.heap.objs.size + 4) (s.heap.objs.size + 2) (s.heap.objs.size + 3) .none → IsPair h' (s.heap.objs.size + 2) (.ref s.heap.objs.size) (.ref (s.heap.objs.size + 1)) → IsPair h' (s.heap.objs.size + 3) .none .none →
      SIt b h' s.heap.objs.size l 0 → SIt c h' (s.heap.objs.size + 1) m 0 → (∀ d o, s.heap.get? d = some o → h'.get? d = some o) → Q (.ref (s.heap.objs.size + 4)) { s with heap := h' }) :
    wpAny (model prog w) A (call (.type "zip") [.ref l, .ref m]) Q E s := by
  refine callType_new F.called_zip (by decide) (F.typeCall_zip_2 _ _) (F.newCall_zip_2 _ _) (fun obj => F.args_object_init_3 obj _ _) F.entry_zip_new (new_zip b c l m xs ys) ⟨o1, o2, ?_⟩
  have p1 : (s.heap.push (itO b l)).objs.size = s.heap.objs.size + 1 := Heap.size_push ..
  have p2 : ((s.heap.push (itO b l)).push (itO c m)).objs.size = s.heap.objs.size + 2 := by rw [Heap.size_push, p1]
  have p3 : (zh3 b c s.heap l m).objs.size = s.heap.objs.size + 3 := (Heap.size_push ..).trans (by rw [p2])
  have p4 : ((zh3 b c s.heap l m).push (seqObj "tuple" #[.none, .none] 0)).objs.size = s.heap.objs.size + 4 := (Heap.size_push ..).trans (by rw [p3])
  have up1 : ∀ d o, (zh3 b c s.heap l m).get? d = some o → (zh5 b c s.heap l m).get? d = some o := fun d o g => Heap.get?_push_of_some _ (Heap.get?_push_of_some _ g)
  have up2 : ∀ d o, ((s.heap.push (itO b l)).push (itO c m)).get? d = some o → (zh5 b c s.heap l m).get? d = some o := fun d o g => up1 d o (Heap.get?_push_of_some _ g)
  have gz : IsZip (zh5 b c s.heap l m) (s.heap.objs.size + 4) (s.heap.objs.size + 2) (s.heap.objs.size + 3) .none := by
    rw [← p4]
    exact Heap.get?_push_size _ rfl
  have g3 : IsPair (zh5 b c s.heap l m) (s.heap.objs.size + 3) .none .none := by
    rw [← p3]
    exact Heap.get?_push_of_some _ (Heap.get?_push_size _ rfl)
  have g2 : IsPair (zh5 b c s.heap l m) (s.heap.objs.size + 2) (.ref s.heap.objs.size) (.ref (s.heap.objs.size + 1)) := up1 _ _ (by
    rw [← p2]
    exact Heap.get?_push_size _ rfl)
  have g1 : (zh5 b c s.heap l m).get? (s.heap.objs.size + 1) = some (itO c m) := up2 _ _ (by
    rw [← p1]
    exact Heap.get?_push_size _ rfl)
  have g0 : (zh5 b c s.heap l m).get? s.heap.objs.size = some (itO b l) := up2 _ _ (Heap.get?_push_of_some _ (Heap.get?_push_size _ rfl))
  exact ⟨⟨_, gz, rfl⟩, q _ gz g2 g3 (itO_at g0) (itO_at g1) fun d o g => up2 d o (Heap.get?_push_of_some _ (Heap.get?_push_of_some _ g))⟩
end
def ItzS (b c : Bool) (K : PySem.W.Frag) (l m : Addr) : It :=
  ⟨fun i H => ∃ (xs ys : List V) (x y : V), SqS b K H l xs ∧ SqS c K H m ys ∧ xs[i]? = some x ∧ ys[i]? = some y,
    fun i H v H' => ∃ T x y, v = .ref T ∧ H T = none ∧ H' = upd H T (.tup [x, y]) ∧ (∀ xs, SqS b K H l xs → xs[i]? = some x) ∧ ∀ ys, SqS c K H m ys → ys[i]? = some y,
    fun i H => ∃ xs ys : List V, SqS b K H l xs ∧ SqS c K H m ys ∧ (xs.length ≤ i ∨ ys.length ≤ i)⟩
def five (z TI TO i1 i2 : Addr) : List Addr := [z, TI, TO, i1, i2]
theorem five_cases {d z TI TO i1 i2 : Addr} (h : d ∈ five z TI TO i1 i2) : d = z ∨ d = TI ∨ d = TO ∨ d = i1 ∨ d = i2 := by simpa [five] using h
theorem turn_zw {P : Program} {w : World} {K : PySem.W.Frag} {elts : List Expr} {kk : Nat} {tpos : Pos} {b c : Bool} {l m z TI TO i1 i2 : Addr} (D : ZipApart z TI TO i1 i2 l m) :
    Turn P w K (.Tuple elts kk tpos) (ItzS b c K l m) (five z TI TO i1 i2) z (fun i h => IsZip h z TI TO .none ∧ IsPair h TI (.ref i1) (.ref i2) ∧ (∃ x y, IsPair h TO x y) ∧ SIt b h i1 l i ∧ SIt c h i2 m i) where
  mem := List.mem_cons_self
  obj := fun i h st d hd => by
    obtain ⟨zz, ti, ⟨x, y, to⟩, s1, s2⟩ := st
    rcases five_cases hd with e | e | e | e | e <;> rw [e]
    · exact ⟨_, zz, fun v q => nomatch q⟩
    · exact ⟨_, ti, fun v q => nomatch q⟩
    · exact ⟨_, to, fun v q => nomatch q⟩
    · exact s1.obj
    · exact s2.obj
  keep := fun i h h' st k => by
    obtain ⟨zz, ti, ⟨x, y, to⟩, s1, s2⟩ := st
    have m : ∀ d, (d = z ∨ d = TI ∨ d = TO ∨ d = i1 ∨ d = i2) → d ∈ five z TI TO i1 i2 := fun d e => by simpa [five] using e
    exact ⟨k z (m _ (by simp)) _ zz, k TI (m _ (by simp)) _ ti, ⟨x, y, k TO (m _ (by simp)) _ to⟩, s1.keep fun o g => k i1 (m _ (by simp)) o g, s2.keep fun o g => k i2 (m _ (by simp)) o g⟩
  item := by
    intro X hP hw hK _ i pins s σ H E I fp st go
    subst hP hw hK
    obtain ⟨zz, ti, ⟨x0, y0, to⟩, s1, s2⟩ := st
    obtain ⟨xs, ys, x, y, q1, q2, hx, hy⟩ := go
    obtain ⟨its, rv, o1, _⟩ := sOf I q1
    obtain ⟨jts, rw', o2, _⟩ := sOf I q2
    obtain ⟨u, hu, ru⟩ := rv.get hx
    obtain ⟨v, hv, rv2⟩ := rw'.get hy
    have zl := Heap.lt_size zz
    refine zw_item D zz ti to s1 s2 o1 o2 (x := u) (y := v) (by simpa using hu) (by simpa using hv) fun h1 z1 to1 s11 s21 g kp => ⟨_, rfl, wpAny_letOwnedTupleGo_zip (s := { s with heap := h1 }) z1 fun h2 z2 c2 => ?_⟩
    have g2 : h2.get? s.heap.objs.size = some (seqObj "tuple" #[u, v] 0) := (c2.2 _ (Nat.ne_of_gt zl)).trans g
    have new : ObjOk X.prog X.w (upd H s.heap.objs.size (.tup [x, y])) h2 s.heap.objs.size (.tup [x, y]) := ⟨by show 2 ≤ sizeLine; decide, [u, v], .cons ru (.cons rv2 .nil), ⟨_, g2, rfl, _, rfl⟩⟩
    have kp2 : ∀ d o, d ∉ five z TI TO i1 i2 → s.heap.get? d = some o → h2.get? d = some o := fun d o hd gd => by
      have n : ∀ e, (e = z ∨ e = TI ∨ e = TO ∨ e = i1 ∨ e = i2) → d ≠ e := fun e he r => hd (by rw [r]; simpa [five] using he)
      exact (c2.2 d (n z (by simp))).trans (kp d o (n z (by simp)) (n TO (by simp)) (n i1 (by simp)) (n i2 (by simp)) gd)
    have I2 : Inv X pins σ (upd H s.heap.objs.size (.tup [x, y])) { s with heap := h2 } := I.turnedNew (t' := s.toks) kp2 fp (Nat.le_refl _) new
    refine ⟨.ref s.heap.objs.size, _, I2, rfl, ⟨_, x, y, rfl, I.hok.fresh (Nat.le_refl _), rfl, fun zs hz => by rw [sInj I hz q1]; exact hx, fun zs hz => by rw [sInj I hz q2]; exact hy⟩, ⟨z2, (c2.2 _ D.TIz).trans (kp _ _ D.TIz D.TITO D.TIi1 D.TIi2 ti), ⟨u, v, (c2.2 _ D.TOz).trans to1⟩, s11.but c2 D.i1z, s21.but c2 D.i2z⟩, fun d hd => ?_⟩
    have lt : d < s.heap.objs.size := by
      rcases five_cases hd with e | e | e | e | e <;> rw [e]
      · exact zl
      · exact Heap.lt_size ti
      · exact Heap.lt_size to
      · exact s1.lt
      · exact s2.lt
    rw [upd_ne (Nat.ne_of_lt lt)]
    exact (fp d hd).1
  done := by
    intro X hP hw hK hcalm i pins s σ H E I fp st stop
    subst hP hw hK
    obtain ⟨zz, ti, ⟨x0, y0, to⟩, s1, s2⟩ := st
    obtain ⟨xs, ys, q1, q2, hend⟩ := stop
    obtain ⟨its, rv, o1, _⟩ := sOf I q1
    obtain ⟨jts, rw', o2, _⟩ := sOf I q2
    have n1 := rv.length
    have n2 := rw'.length
    have he : its.toArray[i]? = none ∨ jts.toArray[i]? = none := by
      rcases hend with e | e
      · exact .inl (by simp; omega)
      · exact .inr (by simp; omega)
    refine zw_end (I.ok.hd hcalm) D zz ti to s1 s2 o1 o2 he fun h1 kp => ⟨rfl, I.turnedL (t' := s.toks) (ch := five z TI TO i1 i2) (fun d o hd g => ?_) fp⟩
    have n : ∀ e, (e = z ∨ e = TI ∨ e = TO ∨ e = i1 ∨ e = i2) → d ≠ e := fun e he r => hd (by rw [r]; simpa [five] using he)
    exact kp d o (n z (by simp)) (n TO (by simp)) (n i1 (by simp)) (n i2 (by simp)) g
  self := fun A i s Q E st q => wpAny_pyIter_zip st.1 q
def iZw (K : PySem.W.Frag) (ta : TA) : TI := fun σ H R => ta σ H fun vs H1 => ∃ b c l m xs ys, vs = [.ref l, .ref m] ∧ SqS b K H1 l xs ∧ SqS c K H1 m ys ∧ R (ItzS b c K l m) H1
theorem pi_zw {X : Cx} {e e2 : Expr} {ta : TA} {p pos tpos : Pos} {elts : List Expr} {kk : Nat} (hg : Gl X "zip") (hm : X.mg "zip" = none) (ha : PA X [e, e2] ta) (hs : starEach [e, e2] X.env = (false, eval e X.env) :: starEach [e2] X.env := by rfl) (hpl : (backTo pos (starEach [e2] X.env)).any (·.1) = false := by rfl) :
    PI X (.Tuple elts kk tpos) (.Call (.Name "zip" p) [e, e2] [] pos) (iZw X.K ta) := by
  refine ⟨fun pins s σ H R I h => Call_ (ld_blt I hg hm PyProof.Rows.boot_zip (PyProof.Rows.callWith_type1 (thn (ha.run pos pins s σ H _ I h) fun us s1 ⟨vs, H1, I1, r1, q1⟩ => ?_) hs hpl))⟩
  obtain ⟨b, c, l, m, xs, ys, rfl, q1, q2, q⟩ := q1
  obtain ⟨u, v, rfl, ru, rv⟩ := vals2 r1
  cases ru
  cases rv
  obtain ⟨its, rv, o1, _⟩ := sOf I1 q1
  obtain ⟨jts, rw', o2, _⟩ := sOf I1 q2
  have lt : ∀ {b : Bool} {a : Addr} {zs : Array Value}, SOf b s1.heap a zs → a < s1.heap.objs.size := fun {b a zs} o => by
    cases b with
    | false =>
      obtain ⟨_, g, _⟩ := (o : s1.heap.IsList a zs)
      exact Heap.lt_size g
    | true =>
      obtain ⟨_, g, _⟩ := (o : s1.heap.IsTuple a zs)
      exact Heap.lt_size g
  refine call_zw o1 o2 fun h1 zz ti to t1 t2 kp => wpAny_pyIter_zip zz ?_
  have I2 : Inv X pins σ H1 { s1 with heap := h1 } := I1.kept (t' := s1.toks) kp
  refine ⟨s1.heap.objs.size + 4, five (s1.heap.objs.size + 4) (s1.heap.objs.size + 2) (s1.heap.objs.size + 3) s1.heap.objs.size (s1.heap.objs.size + 1), _, _, H1, rfl, I2, turn_zw (PySem.W.ktu_apart s1.heap.objs.size l m (lt o1) (lt o2)), ⟨zz, ti, ⟨_, _, to⟩, t1, t2⟩, fun d hd => ?_, q⟩
  have le : s1.heap.objs.size ≤ d := by rcases five_cases hd with e | e | e | e | e <;> rw [e] <;> first | exact Nat.le_add_right _ _ | exact Nat.le_refl _
  exact I1.fpOk le (I1.hok.fresh le)
end ZW

set_option Elab.async false
set_option linter.all false
set_option maxRecDepth 100000
set_option maxHeartbeats 4000000
/-! Zv: short steps for lists or tuples: enumerate, zip, subscripts; a list or a dict by a number. -/
namespace Z
open PySem PySem.Spec PyProof.Rows L2 ZW
open Evl (Ex ex_l ex_t ex_rd sq_of st_of fresh_back RetL RetV)
section
variable {K : PySem.W.Frag} {b c : Bool} {a m : Addr} {xs ys : List V}
theorem walk_enS : Walk (IteS b K a) xs.length (fun H => SqS b K H a xs) (YPair (fun i => some (.int (i : Nat))) (fun i => xs[i]?)) := by
  refine ⟨fun i _ hi q => ⟨xs, xs[i], q, List.getElem?_eq_getElem hi⟩, fun _ q => ⟨xs, q, Nat.le_refl _⟩, fun i H v H' _ q y => ?_⟩
  obtain ⟨T, x, h1, h2, h3, h4⟩ := y
  exact ⟨T, _, x, h1, h2, h3, rfl, h4 xs q⟩
theorem walk_zw {n : Nat} (hn : n = min xs.length ys.length) : Walk (ItzS b c K a m) n (fun H => SqS b K H a xs ∧ SqS c K H m ys) (YPair (fun i => xs[i]?) (fun i => ys[i]?)) := by
  refine ⟨fun i _ hi q => ⟨xs, ys, xs[i]'(by omega), ys[i]'(by omega), q.1, q.2, List.getElem?_eq_getElem (by omega), List.getElem?_eq_getElem (by omega)⟩, fun _ q => ⟨xs, ys, q.1, q.2, by omega⟩, fun i H v H' _ q y => ?_⟩
  obtain ⟨T, x, y, h1, h2, h3, h4, h5⟩ := y
  exact ⟨T, x, y, h1, h2, h3, h4 xs q.1, h5 ys q.2⟩
theorem sqs_l {H : Hp} (h : SqL K H a xs) : SqS false K H a xs := h
theorem sqs_t {H : Hp} (h : SqT K H a xs) : SqS true K H a xs := h
theorem ex_s {H H' : Hp} (e : Ex H H') (h : SqS b K H a xs) : SqS b K H' a xs := by
  cases b with
  | false => exact ex_l e h
  | true => exact ex_t e h
end
def FEs (K : PySem.W.Frag) (g : TG) (tb : TS) (D : Ends) (σ : L2.St) (vs : List V) (H1 : Hp) : Prop := ∃ b a xs, vs = [.ref a] ∧ SqS b K H1 a xs ∧ FW (IteS b K a) g tb D σ H1
def FZw (K : PySem.W.Frag) (g : TG) (tb : TS) (D : Ends) (σ : L2.St) (vs : List V) (H1 : Hp) : Prop := ∃ b c l m xs ys, vs = [.ref l, .ref m] ∧ SqS b K H1 l xs ∧ SqS c K H1 m ys ∧ FW (ItzS b c K l m) g tb D σ H1
def CEs (K : PySem.W.Frag) (g : TG) (tt : TT) (te : TE) (vs : List Nat) (σ : L2.St) (xs : List V) (H1 : Hp) (Q : VK) : Prop := ∃ b a ys, xs = [.ref a] ∧ SqS b K H1 a ys ∧ CW (IteS b K a) g tt te vs σ H1 Q
def CZw (K : PySem.W.Frag) (g : TG) (tt : TT) (te : TE) (vs : List Nat) (σ : L2.St) (xs : List V) (H1 : Hp) (Q : VK) : Prop := ∃ b c l m ys zs, xs = [.ref l, .ref m] ∧ SqS b K H1 l ys ∧ SqS c K H1 m zs ∧ CW (ItzS b c K l m) g tt te vs σ H1 Q
section
variable {K : PySem.W.Frag} {σ : L2.St} {H : Hp} {Q : VK} {D : Ends} {g : TG} {tb : TS} {te tl : TE} {tt : TT} {ta : TA} {vs : List Nat} {a m : Addr} {xs ys : List V} {n j k : Nat} {b c : Bool}
theorem z_fes (q : ta σ H fun x H1 => FEs K g tb D σ x H1) : tFor (iEnS K ta) g tb D σ H := q
theorem z_fzw (q : ta σ H fun x H1 => FZw K g tb D σ x H1) : tFor (iZw K ta) g tb D σ H := q
theorem z_ces (q : ta σ H fun x H1 => CEs K g tt te vs σ x H1 Q) : tLc (iEnS K ta) g tt te vs σ H Q := q
theorem z_czw (q : ta σ H fun x H1 => CZw K g tt te vs σ x H1 Q) : tLc (iZw K ta) g tt te vs σ H Q := q
theorem z_FEs (hx : SqS b K H a xs) (Pv : Nat → L2.St → Hp → Prop) (h0 : Pv 0 σ H) (hG : ∀ i σ H, i ≤ xs.length → Pv i σ H → SqS b K H a xs)
    (hs : ∀ i x p σ H H', i < xs.length → xs[i]? = some x → Pv i σ H → Ex H H' → H p = none → H' = upd H p (.tup [.int (i : Nat), x]) → g (.ref p) σ H' fun σ2 H2 => tb { D with nx := Pv (i + 1), ct := Pv (i + 1), bk := D.nx } σ2 H2) (hd : ∀ σ H, Pv xs.length σ H → D.nx σ H) : FEs K g tb D σ [.ref a] H :=
  ⟨b, a, xs, rfl, hx, for_it walk_enS Pv h0 hG (fun i x σ H H' hi p y => by
    obtain ⟨T, u, v, rfl, e1, rfl, e3, e4⟩ := y
    cases e3
    exact hs i v T σ _ _ hi e4 p (Ex.new e1) e1 rfl) hd⟩
theorem z_FZw (hn : n = min xs.length ys.length) (hx : SqS b K H a xs) (hy : SqS c K H m ys) (Pv : Nat → L2.St → Hp → Prop) (h0 : Pv 0 σ H) (hG : ∀ i σ H, i ≤ n → Pv i σ H → SqS b K H a xs ∧ SqS c K H m ys)
    (hs : ∀ i x y p σ H H', i < n → xs[i]? = some x → ys[i]? = some y → Pv i σ H → Ex H H' → H p = none → H' = upd H p (.tup [x, y]) → g (.ref p) σ H' fun σ2 H2 => tb { D with nx := Pv (i + 1), ct := Pv (i + 1), bk := D.nx } σ2 H2) (hd : ∀ σ H, Pv n σ H → D.nx σ H) : FZw K g tb D σ [.ref a, .ref m] H :=
  ⟨b, c, a, m, xs, ys, rfl, hx, hy, for_it (walk_zw hn) Pv h0 hG (fun i x σ H H' hi p y => by
    obtain ⟨T, u, v, rfl, e1, rfl, e3, e4⟩ := y
    exact hs i u v T σ _ _ hi e3 e4 p (Ex.new e1) e1 rfl) hd⟩
/-- things without objects of their own -/
theorem z_CEs (hx : SqS b K H a xs) (hz : xs.length ≤ 40000) (f : Nat → Bool) (v : Nat → V) (hw : ∀ x y, wipe (((wipe σ vs).set k (some x)).set j (some y)) vs = wipe σ vs)
    (ht : ∀ i x H', i < xs.length → xs[i]? = some x → Ex H H' → Evl.EvT tt (((wipe σ vs).set k (some (.int (i : Nat)))).set j (some x)) H' (f i)) (he : ∀ i x H', i < xs.length → xs[i]? = some x → Ex H H' → f i = true → Evl.Ev te (((wipe σ vs).set k (some (.int (i : Nat)))).set j (some x)) H' (v i))
    (q : ∀ p H2, H p = none → Ex H H2 → H2 p = some (.lst (Evl.given xs.length f v)) → Q (.ref p) H2) : CEs K (gTup K 2 (gCons (gName k) (gCons (gName j) gNil))) tt te vs σ [.ref a] H Q :=
  ⟨b, a, xs, rfl, hx, fun Dl hD => lc_it walk_enS (Evl.Cw H f v Dl) ⟨hD, Ex.new hD, upd_same⟩ (fun _ _ _ p => ex_s p.2.1 hx) (fun i x H1 H2 hi p y => by
    obtain ⟨T, u, x', rfl, e1, rfl, e3, e4⟩ := y
    cases e3
    refine z_gtup2 (st_of upd_same) ⟨hw _ _, ?_⟩
    have p2 : Evl.Cw H f v Dl i (upd H1 T (.tup [.int (i : Nat), x'])) := ⟨p.1, p.2.1.trans (Ex.new e1), Ex.new e1 _ _ p.2.2⟩
    exact Evl.cw_turn p2 (by omega) (ht i x' H hi e4 (Ex.refl H)) fun hf => he i x' H hi e4 (Ex.refl H) hf) (fun H' p => q Dl H' p.1 p.2.1 p.2.2)⟩
theorem z_CZw (hn : n = min xs.length ys.length) (hx : SqS b K H a xs) (hy : SqS c K H m ys) (hz : n ≤ 40000) (f : Nat → Bool) (v : Nat → V) (hw : ∀ x y, wipe (((wipe σ vs).set k (some x)).set j (some y)) vs = wipe σ vs)
    (ht : ∀ i x y H', i < n → xs[i]? = some x → ys[i]? = some y → Ex H H' → Evl.EvT tt (((wipe σ vs).set k (some x)).set j (some y)) H' (f i)) (he : ∀ i x y H', i < n → xs[i]? = some x → ys[i]? = some y → Ex H H' → f i = true → Evl.Ev te (((wipe σ vs).set k (some x)).set j (some y)) H' (v i))
    (q : ∀ p H2, H p = none → Ex H H2 → H2 p = some (.lst (Evl.given n f v)) → Q (.ref p) H2) : CZw K (gTup K 2 (gCons (gName k) (gCons (gName j) gNil))) tt te vs σ [.ref a, .ref m] H Q :=
  ⟨b, c, a, m, xs, ys, rfl, hx, hy, fun Dl hD => lc_it (walk_zw hn) (Evl.Cw H f v Dl) ⟨hD, Ex.new hD, upd_same⟩ (fun _ _ _ p => ⟨ex_s p.2.1 hx, ex_s p.2.1 hy⟩) (fun i x H1 H2 hi p y => by
    obtain ⟨T, u, x', rfl, e1, rfl, e3, e4⟩ := y
    refine z_gtup2 (st_of upd_same) ⟨hw _ _, ?_⟩
    have p2 : Evl.Cw H f v Dl i (upd H1 T (.tup [u, x'])) := ⟨p.1, p.2.1.trans (Ex.new e1), Ex.new e1 _ _ p.2.2⟩
    exact Evl.cw_turn p2 (by omega) (ht i u x' H hi e3 e4 (Ex.refl H)) fun hf => he i u x' H hi e3 e4 (Ex.refl H) hf) (fun H' p => q Dl H' p.1 p.2.1 p.2.2)⟩
end
def CT (K : PySem.W.Frag) (g : TG) (tt : TT) (te : TE) (vs : List Nat) (σ : L2.St) (x : V) (H1 : Hp) (Q : VK) : Prop := ∃ a, x = .ref a ∧ (∃ xs, SqT K H1 a xs) ∧ CW (Itt K a) g tt te vs σ H1 Q
section
variable {K : PySem.W.Frag} {σ : L2.St} {H : Hp} {Q : VK} {g : TG} {te tl : TE} {tt : TT} {vs : List Nat} {a : Addr} {xs : List V} {j : Nat}
theorem z_ct (q : tl σ H fun x H1 => CT K g tt te vs σ x H1 Q) : tLc (iTup K tl) g tt te vs σ H Q := q
theorem z_CT (hx : SqT K H a xs) (hz : xs.length ≤ 40000) (f : Nat → Bool) (v : Nat → V) (hw : ∀ x, wipe ((wipe σ vs).set j (some x)) vs = wipe σ vs)
    (ht : ∀ i x H', i < xs.length → xs[i]? = some x → Ex H H' → Evl.EvT tt ((wipe σ vs).set j (some x)) H' (f i)) (he : ∀ i x H', i < xs.length → xs[i]? = some x → Ex H H' → f i = true → Evl.Ev te ((wipe σ vs).set j (some x)) H' (v i))
    (q : ∀ p H2, H p = none → Ex H H2 → H2 p = some (.lst (Evl.given xs.length f v)) → Q (.ref p) H2) : CT K (gName j) tt te vs σ (.ref a) H Q :=
  ⟨a, rfl, ⟨xs, hx⟩, z_CW (X := fun i => xs.getD i .non) (walk_tup.mono (fun _ h => h) (fun i H x H' _ _ y => ⟨y.1, by rw [List.getD_eq_getElem?_getD, y.2] <;> rfl⟩)) hz (fun _ e => ex_t e hx) f v hw
    (fun i H' hi e => ht i _ H' hi (by rw [List.getD_eq_getElem?_getD, List.getElem?_eq_getElem hi] <;> rfl) e) (fun i H' hi e hf => he i _ H' hi (by rw [List.getD_eq_getElem?_getD, List.getElem?_eq_getElem hi] <;> rfl) e hf) q⟩
end
theorem z_lenSq {K : PySem.W.Frag} {H : Hp} {Q : VK} {l : Addr} {xs : List V} {b : Bool} (h : ZW.SqS b K H l xs) (q : Q (.int xs.length) H) : cLenSeq K [.ref l] H Q := by
  cases b with
  | false => exact z_lenL h q
  | true => exact z_lenT h q
/-! ### a list, a tuple or a dict by a number -/
def rIxA (K : PySem.W.Frag) : R2 := fun x y H Q => rIxL K x y H Q ∨ rIxT K x y H Q ∨ ∃ a kvs i v, x = .ref a ∧ y = .int i ∧ H a = some (.dK kvs) ∧ valV kvs (Sum.inl i) = some v ∧ Q v H
theorem ix_any {X : Cx} (hu : X.A.units + 1 < cLine) : IxR X (rIxA X.K) := by
  intro value slice pins s σ H x y v u Q I rx ry h hs
  rcases h with h | h | ⟨a, kvs, i, r, rfl, rfl, hd, e, q⟩
  · exact ix_list value slice pins s σ H x y v u Q I rx ry h hs
  · exact ix_tup value slice pins s σ H x y v u Q I rx ry h hs
  · cases rx
    have dg : DGet H a (.int i) (some r) := by
      rw [← e]
      exact DGet.k (k := Sum.inl i) hd
    exact tail_any (dict_typeIs I dg) slot_dict_getitem.lookup (d_getItem hu I dg ry fun w' s' I' r' => ⟨r, H, I', r', q⟩) hs
section
variable {K : PySem.W.Frag} {H : Hp} {Q : VK} {a : Addr} {xs : List V} {i : Int} {v : V} {kvs : List (Key × V)} {b : Bool}
theorem z_ixAs (h : ZW.SqS b K H a xs) (e : atI xs i = some v) (q : Q v H) : rIxA K (.ref a) (.int i) H Q := by
  cases b with
  | false => exact .inl (z_ixL h e q)
  | true => exact .inr (.inl (z_ixT h e q))
theorem z_ixAd (h : H a = some (.dK kvs)) (e : valV kvs (Sum.inl i) = some v) (q : Q v H) : rIxA K (.ref a) (.int i) H Q := .inr (.inr ⟨a, kvs, i, v, rfl, rfl, h, e, q⟩)
end
end Z

set_option Elab.async false
set_option linter.all false
set_option maxRecDepth 100000
set_option maxHeartbeats 4000000
/-! Zf: loops and comprehensions over the keys of a locked dict. -/
namespace Z
open PySem PySem.Spec PyProof.Rows L2
open Evl (Ex ex_l ex_t ex_rd sq_of st_of fresh_back)
def FK (g : TG) (tb : TS) (D : Ends) (σ : L2.St) (x : V) (H1 : Hp) : Prop := ∃ d o, x = .ref d ∧ ((∃ kvs, H1 d = some (.frz o (.dK kvs)) ∧ FW (Itk d o kvs) g tb D σ H1) ∨ ∃ kvs, H1 d = some (.frz o (.dT kvs)) ∧ FW (Itkt d o kvs) g tb D σ H1)
def CK (g : TG) (tt : TT) (te : TE) (vs : List Nat) (σ : L2.St) (x : V) (H1 : Hp) (Q : VK) : Prop := ∃ d o, x = .ref d ∧ ((∃ kvs, H1 d = some (.frz o (.dK kvs)) ∧ CW (Itk d o kvs) g tt te vs σ H1 Q) ∨ ∃ kvs, H1 d = some (.frz o (.dT kvs)) ∧ CW (Itkt d o kvs) g tt te vs σ H1 Q)
section
variable {K : PySem.W.Frag} {σ : L2.St} {H : Hp} {D : Ends} {Q : VK} {g : TG} {tb : TS} {td te : TE} {tt : TT} {vs : List Nat} {d : Addr} {o : Obj} {kvs : List (Key × V)} {j : Nat}
theorem z_fk (q : td σ H fun x H1 => FK g tb D σ x H1) : tFor (iKeys td) g tb D σ H := q
theorem z_ck (q : td σ H fun x H1 => CK g tt te vs σ x H1 Q) : tLc (iKeys td) g tt te vs σ H Q := q
theorem z_FK (hd : H d = some (.frz o (.dK kvs))) (Pv : Nat → L2.St → Hp → Prop) (h0 : Pv 0 σ H) (hG : ∀ i σ H, i ≤ kvs.length → Pv i σ H → H d = some (.frz o (.dK kvs)))
    (hs : ∀ i k v σ H, i < kvs.length → kvs[i]? = some (k, v) → Pv i σ H → g (kV k) σ H fun σ2 H2 => tb { D with nx := Pv (i + 1), ct := Pv (i + 1), bk := D.nx } σ2 H2) (he : ∀ σ H, Pv kvs.length σ H → D.nx σ H) : FK g tb D σ (.ref d) H :=
  ⟨d, o, rfl, .inl ⟨kvs, hd, for_it walk_keys Pv h0 hG (fun i x σ H H' hi p y => by
    obtain ⟨rfl, k, v, e, rfl⟩ := y
    exact hs i k v σ _ hi e p) he⟩⟩
theorem z_CK (hd : H d = some (.frz o (.dK kvs))) (hz : kvs.length ≤ 40000) (f : Nat → Bool) (v : Nat → V) (hw : ∀ x, wipe ((wipe σ vs).set j (some x)) vs = wipe σ vs)
    (ht : ∀ i k u H', i < kvs.length → kvs[i]? = some (k, u) → Ex H H' → Evl.EvT tt ((wipe σ vs).set j (some (kV k))) H' (f i)) (he : ∀ i k u H', i < kvs.length → kvs[i]? = some (k, u) → Ex H H' → f i = true → Evl.Ev te ((wipe σ vs).set j (some (kV k))) H' (v i))
    (q : ∀ p H2, H p = none → Ex H H2 → H2 p = some (.lst (Evl.given kvs.length f v)) → Q (.ref p) H2) : CK (gName j) tt te vs σ (.ref d) H Q :=
  ⟨d, o, rfl, .inl ⟨kvs, hd, z_CW (X := fun i => ((kvs[i]?).map fun kv => kV kv.1).getD .non) (walk_keys.mono (fun _ h => h) (fun i H x H' _ _ y => by
      obtain ⟨e, k, u, e2, e3⟩ := y
      exact ⟨e, by rw [e2, e3] <;> rfl⟩)) hz (fun _ e => e _ _ hd) f v hw
    (fun i H' hi e => by
      rcases hk : kvs[i] with ⟨k, u⟩
      have h2 : kvs[i]? = some (k, u) := by rw [List.getElem?_eq_getElem hi, hk]
      show Evl.EvT tt ((wipe σ vs).set j (some (((kvs[i]?).map fun kv => kV kv.1).getD .non))) H' (f i)
      rw [h2]
      exact ht i k u H' hi h2 e) (fun i H' hi e hf => by
      rcases hk : kvs[i] with ⟨k, u⟩
      have h2 : kvs[i]? = some (k, u) := by rw [List.getElem?_eq_getElem hi, hk]
      show Evl.Ev te ((wipe σ vs).set j (some (((kvs[i]?).map fun kv => kV kv.1).getD .non))) H' (v i)
      rw [h2]
      exact he i k u H' hi h2 e hf) q⟩⟩
theorem z_CKw (hd : H d = some (.frz o (.dK kvs))) (Pv : Addr → Nat → Hp → Prop) (h0 : ∀ D, H D = none → Pv D 0 (upd H D (.lst []))) (hG : ∀ D i H1, H D = none → Pv D i H1 → H1 d = some (.frz o (.dK kvs))) (hw : ∀ x, wipe ((wipe σ vs).set j (some x)) vs = wipe σ vs)
    (hs : ∀ D i k v H1, H D = none → i < kvs.length → kvs[i]? = some (k, v) → Pv D i H1 → te ((wipe σ vs).set j (some (kV k))) H1 fun y H2 => ∃ acc, H2 D = some (.lst acc) ∧ acc.length < sizeLine ∧ Pv D (i + 1) (upd H2 D (.lst (acc ++ [y]))))
    (q : ∀ D H2, H D = none → Pv D kvs.length H2 → Q (.ref D) H2) : CK (gName j) tYes te vs σ (.ref d) H Q :=
  ⟨d, o, rfl, .inl ⟨kvs, hd, fun D hD => lc_it walk_keys (Pv D) (h0 D hD) (fun i H1 _ p => hG D i H1 hD p) (fun i x H1 H2 hi p y => by
    obtain ⟨rfl, k, v, e, rfl⟩ := y
    exact ⟨hw _, hs D i k v H2 hD hi e p⟩) (fun H' p => q D H' hD p)⟩⟩
/-- the last one of a list -/
theorem z_ixLast {l : Addr} {xs : List V} {v : V} (h : SqL K H l (xs ++ [v])) (q : Q v H) : rIxL K (.ref l) (.int (-1)) H Q := ⟨l, _, -1, v, rfl, rfl, h, atI_last xs v, q⟩
theorem z_rpopLast {a : Addr} {xs : List V} {v : V} (h : H a = some (.lst (xs ++ [v]))) (q : Q v (upd H a (.lst xs))) : rPop (.ref a) [] H Q :=
  z_rpop (v := v) h (by simp) (by rw [List.dropLast_concat]; exact q)
theorem z_revOf {te : TE} (q : te σ H fun x H1 => ∃ (a : Addr) (xs : List V), x = .ref a ∧ SqL K H1 a xs ∧ ∀ q, H1 q = none → Q (.ref q) (upd H1 q (.lst xs.reverse))) : tRevOf K te σ H Q := q
end
end Z

set_option linter.all false
set_option maxHeartbeats 1000000
namespace M03
def isL (c : Nat) : Bool := decide (97 ≤ c) && decide (c ≤ 122)
def isF (c : Nat) : Bool := decide (48 ≤ c) && decide (c ≤ 57)
def isNS (c : Nat) : Bool := isL c || isF c
def toldL : List (List Nat) := [[112, 97, 114, 116], [105, 110], [111, 117, 116], [119, 105, 114, 101], [114, 101, 115, 116], [108, 101, 116], [117, 115, 101], [116, 97, 98, 108, 101], [109, 101, 109, 111, 114, 121], [105, 102], [116, 104, 101, 110], [101, 108, 115, 101], [99, 117, 116], [106, 111, 105, 110], [102, 105, 108, 108]]
def marks1 : List Nat := [58, 44, 46, 61, 60, 38, 124, 94, 43, 45, 126, 40, 41, 91, 93]
def marksL : List (List Nat) := [[58], [44], [46], [61], [61, 61], [60], [38], [124], [94], [43], [45], [126], [40], [41], [91], [93]]
inductive Wd where
  | told (l : List Nat) | mark (l : List Nat) | name (l : List Nat) | num (l : List Nat)
  deriving DecidableEq
def badNum (a : List Nat) : Prop := a.length > 20 ∨ (a.head? = some 48 ∧ a ≠ [48])
instance (a : List Nat) : Decidable (badNum a) := inferInstanceAs (Decidable (_ ∨ _))
def runW (a : List Nat) : Option Wd :=
  if a ∈ toldL then some (.told a)
  else if a.all isF = true then (if badNum a then none else some (.num a))
  else if isF (a.headD 0) = true ∨ a.length > 8 then none else some (.name a)
inductive Step where
  | stop | bad | skip (r : List Nat) | word (w : Wd) (r : List Nat)
def step : List Nat → Step
  | [] => .stop
  | c :: r =>
    if c = 35 then .stop else if c = 32 then .skip r
    else if (c :: r).takeWhile isNS ≠ [] then (match runW ((c :: r).takeWhile isNS) with
      | none => .bad
      | some w => .word w ((c :: r).drop ((c :: r).takeWhile isNS).length))
    else if c = 61 ∧ r.head? = some 61 then .word (.mark [61, 61]) (r.drop 1)
    else if c ∈ marks1 then .word (.mark [c]) r else .bad
theorem step_less : ∀ l r, (step l = .skip r ∨ ∃ w, step l = .word w r) → r.length < l.length
  | [], r, h => by rcases h with h | ⟨w, h⟩ <;> cases h
  | c :: t, r, h => by
    rw [step] at h
    by_cases h1 : c = 35
    · rw [if_pos h1] at h
      rcases h with h | ⟨w, h⟩ <;> cases h
    rw [if_neg h1] at h
    by_cases h2 : c = 32
    · rw [if_pos h2] at h
      rcases h with h | ⟨w, h⟩ <;> cases h
      simp
    rw [if_neg h2] at h
    by_cases h3 : (c :: t).takeWhile isNS ≠ []
    · rw [if_pos h3] at h
      have hl : 0 < ((c :: t).takeWhile isNS).length := List.length_pos_iff.mpr h3
      cases hw : runW ((c :: t).takeWhile isNS) with
      | none =>
        rw [hw] at h
        rcases h with h | ⟨w, h⟩ <;> cases h
      | some w =>
        rw [hw] at h
        rcases h with h | ⟨w', h⟩ <;> cases h
        rw [List.length_drop, List.length_cons]
        omega
    rw [if_neg h3] at h
    by_cases h4 : c = 61 ∧ t.head? = some 61
    · rw [if_pos h4] at h
      rcases h with h | ⟨w', h⟩ <;> cases h
      rw [List.length_drop, List.length_cons]
      omega
    rw [if_neg h4] at h
    by_cases h5 : c ∈ marks1
    · rw [if_pos h5] at h
      rcases h with h | ⟨w', h⟩ <;> cases h
      simp
    · rw [if_neg h5] at h
      rcases h with h | ⟨w', h⟩ <;> cases h
def words (l : List Nat) : Option (List Wd) :=
  match h : step l with
  | .stop => some []
  | .bad => none
  | .skip r => words r
  | .word w r => (words r).map (w :: ·)
termination_by l.length
decreasing_by
  · exact step_less l r (.inl h)
  · exact step_less l r (.inr ⟨w, h⟩)
theorem words_stop {l : List Nat} (h : step l = .stop) : words l = some [] := by
  rw [words]
  split <;> simp_all
theorem words_bad {l : List Nat} (h : step l = .bad) : words l = none := by
  rw [words]
  split <;> simp_all
theorem words_skip {l r : List Nat} (h : step l = .skip r) : words l = words r := by
  rw [words]
  split <;> simp_all
theorem words_word {l r : List Nat} {w : Wd} (h : step l = .word w r) : words l = (words r).map (w :: ·) := by
  rw [words]
  split <;> simp_all
/-- behind a # nothing counts -/
theorem tw_app {pre post : List Nat} : (pre ++ 35 :: post).takeWhile isNS = pre.takeWhile isNS := by
  induction pre with
  | nil => rfl
  | cons c r ih =>
    rw [List.cons_append, List.takeWhile_cons, List.takeWhile_cons, ih]
theorem tw_le (l : List Nat) : (l.takeWhile isNS).length ≤ l.length := by
  induction l with
  | nil => simp
  | cons c r ih =>
    rw [List.takeWhile_cons]
    split <;> simp <;> omega
theorem words_cut (post : List Nat) : ∀ (n : Nat) (pre : List Nat), pre.length ≤ n → 35 ∉ pre → words (pre ++ 35 :: post) = words pre
  | n, [], _, _ => by
    rw [words_stop (l := [] ++ 35 :: post) rfl, words_stop (l := []) rfl]
  | 0, c :: r, h, _ => by simp at h
  | n + 1, c :: r, h, hn => by
    have hc : c ≠ 35 := fun z => hn (by rw [z]; simp)
    have hr : 35 ∉ r := fun z => hn (List.mem_cons_of_mem _ z)
    have hl : r.length ≤ n := by simpa using h
    have tw := tw_app (pre := c :: r) (post := post)
    rw [List.cons_append] at tw
    rw [List.cons_append]
    by_cases h2 : c = 32
    · have s1 : step (c :: (r ++ 35 :: post)) = .skip (r ++ 35 :: post) := by rw [step, if_neg hc, if_pos h2]
      have s2 : step (c :: r) = .skip r := by rw [step, if_neg hc, if_pos h2]
      rw [words_skip s1, words_skip s2, words_cut post n r hl hr]
    by_cases h3 : (c :: r).takeWhile isNS ≠ []
    · have hp : 0 < ((c :: r).takeWhile isNS).length := List.length_pos_iff.mpr h3
      cases hw : runW ((c :: r).takeWhile isNS) with
      | none =>
        have s1 : step (c :: (r ++ 35 :: post)) = .bad := by rw [step, if_neg hc, if_neg h2, tw, if_pos h3, hw]
        have s2 : step (c :: r) = .bad := by rw [step, if_neg hc, if_neg h2, if_pos h3, hw]
        rw [words_bad s1, words_bad s2]
      | some w =>
        have s1 : step (c :: (r ++ 35 :: post)) = .word w ((c :: (r ++ 35 :: post)).drop ((c :: r).takeWhile isNS).length) := by rw [step, if_neg hc, if_neg h2, tw, if_pos h3, hw]
        have s2 : step (c :: r) = .word w ((c :: r).drop ((c :: r).takeWhile isNS).length) := by rw [step, if_neg hc, if_neg h2, if_pos h3, hw]
        have dl := tw_le (c :: r)
        have d1 : (c :: (r ++ 35 :: post)).drop ((c :: r).takeWhile isNS).length = (c :: r).drop ((c :: r).takeWhile isNS).length ++ 35 :: post := by
          rw [← List.cons_append, List.drop_append_of_le_length dl]
        rw [words_word s1, words_word s2, d1, words_cut post n _ (by rw [List.length_drop, List.length_cons]; omega) fun z => hn (List.mem_of_mem_drop z)]
    by_cases h4 : c = 61 ∧ r.head? = some 61
    · obtain ⟨h41, h42⟩ := h4
      cases r with
      | nil => cases h42
      | cons d r =>
        have s1 : step (c :: (d :: r ++ 35 :: post)) = .word (.mark [61, 61]) (r ++ 35 :: post) := by
          rw [step, if_neg hc, if_neg h2, tw, if_neg h3, if_pos ⟨h41, h42⟩] <;> rfl
        have s2 : step (c :: d :: r) = .word (.mark [61, 61]) r := by
          rw [step, if_neg hc, if_neg h2, if_neg h3, if_pos ⟨h41, h42⟩] <;> rfl
        rw [words_word s1, words_word s2, words_cut post n r (by simp at hl; omega) fun z => hr (List.mem_cons_of_mem _ z)]
    have h4' : ¬ (c = 61 ∧ (r ++ 35 :: post).head? = some 61) := fun z => h4 ⟨z.1, by
      cases r with
      | nil => exact absurd (Option.some.inj z.2) (by decide)
      | cons d r => exact z.2⟩
    by_cases h5 : c ∈ marks1
    · have s1 : step (c :: (r ++ 35 :: post)) = .word (.mark [c]) (r ++ 35 :: post) := by rw [step, if_neg hc, if_neg h2, tw, if_neg h3, if_neg h4', if_pos h5]
      have s2 : step (c :: r) = .word (.mark [c]) r := by rw [step, if_neg hc, if_neg h2, if_neg h3, if_neg h4, if_pos h5]
      rw [words_word s1, words_word s2, words_cut post n r hl hr]
    · have s1 : step (c :: (r ++ 35 :: post)) = .bad := by rw [step, if_neg hc, if_neg h2, tw, if_neg h3, if_neg h4', if_neg h5]
      have s2 : step (c :: r) = .bad := by rw [step, if_neg hc, if_neg h2, if_neg h3, if_neg h4, if_neg h5]
      rw [words_bad s1, words_bad s2]
/-- what the program tells of one word's text -/
def nameOk (a : List Nat) : Bool := decide (1 ≤ a.length) && decide (a.length ≤ 8) && isL (a.headD 0) && !decide (a ∈ toldL) && a.all isNS
def numOk (a : List Nat) : Bool := !decide (badNum a) && a.all isF
def wordBy (a : List Nat) : Option Wd :=
  if a ∈ toldL then some (.told a) else if a ∈ marksL then some (.mark a) else if nameOk a = true then some (.name a) else if numOk a = true then some (.num a) else none
theorem ns_not_mark {a : List Nat} (h : a ≠ []) (hn : a.all isNS = true) : a ∉ marksL := fun z => by
  have : ∀ m ∈ marksL, m.all isNS = false := by decide
  rw [this a z] at hn
  cases hn
theorem f_not_l {c : Nat} (h : isF c = true) : isL c = false := by
  unfold isF isL at *
  simp at *
  omega
theorem run_by {a : List Nat} (h : a ≠ []) (hn : a.all isNS = true) : wordBy a = runW a := by
  unfold wordBy runW
  by_cases h1 : a ∈ toldL
  · rw [if_pos h1, if_pos h1]
  rw [if_neg h1, if_neg h1, if_neg (ns_not_mark h hn)]
  obtain ⟨c, r, rfl⟩ : ∃ c r, a = c :: r := by
    cases a with
    | nil => exact absurd rfl h
    | cons c r => exact ⟨c, r, rfl⟩
  have hc : isNS c = true := List.all_eq_true.mp hn c (by simp)
  by_cases h2 : (c :: r).all isF = true
  · have fc : isF c = true := List.all_eq_true.mp h2 c (by simp)
    have n1 : nameOk (c :: r) = false := by
      unfold nameOk
      rw [show isL ((c :: r).headD 0) = false from f_not_l fc]
      simp
    rw [if_pos h2, n1, if_neg Bool.false_ne_true]
    unfold numOk
    rw [h2, Bool.and_true]
    by_cases h3 : badNum (c :: r)
    · rw [if_pos h3, decide_eq_true h3, if_neg (by decide)]
    · rw [if_neg h3, decide_eq_false h3, if_pos (by decide)]
  · have f2 : (c :: r).all isF = false := Bool.eq_false_iff.mpr h2
    rw [if_neg h2]
    have n2 : numOk (c :: r) = false := by
      unfold numOk
      rw [f2, Bool.and_false]
    rw [n2, if_neg (show ¬ false = true by decide)]
    by_cases h4 : isF c = true
    · have A : nameOk (c :: r) = false := by
        unfold nameOk
        rw [show isL ((c :: r).headD 0) = false from f_not_l h4]
        simp
      have B : isF ((c :: r).headD 0) = true ∨ (c :: r).length > 8 := Or.inl h4
      rw [A, if_neg Bool.false_ne_true, if_pos B]
    · have lc : isL c = true := by
        unfold isNS at hc
        rw [Bool.eq_false_iff.mpr h4, Bool.or_false] at hc
        exact hc
      by_cases h5 : (c :: r).length > 8
      · have A : nameOk (c :: r) = false := by
          unfold nameOk
          rw [decide_eq_false (show ¬ (c :: r).length ≤ 8 by omega)]
          simp
        have B : isF ((c :: r).headD 0) = true ∨ (c :: r).length > 8 := Or.inr h5
        rw [A, if_neg Bool.false_ne_true, if_pos B]
      · have A : nameOk (c :: r) = true := by
          unfold nameOk
          rw [decide_eq_true (show (c :: r).length ≤ 8 by omega), decide_eq_true (show 1 ≤ (c :: r).length by simp), show isL ((c :: r).headD 0) = true from lc, decide_eq_false h1, hn] <;> rfl
        have B : ¬ (isF ((c :: r).headD 0) = true ∨ (c :: r).length > 8) := fun z => Or.elim z h4 h5
        rw [A, if_pos rfl, if_neg B]
theorem one_by {c : Nat} (h : isNS c = false) : wordBy [c] = if c ∈ marks1 then some (.mark [c]) else none := by
  have t1 : [c] ∉ toldL := fun z => by
    have : ∀ m ∈ toldL, m.length ≠ 1 := by decide
    exact this [c] z rfl
  unfold wordBy
  rw [if_neg t1]
  have mm : [c] ∈ marksL ↔ c ∈ marks1 := by
    unfold marksL marks1
    simp
  have l0 : isL c = false := by
    unfold isNS at h
    exact (Bool.or_eq_false_iff.mp h).1
  have f0 : isF c = false := by
    unfold isNS at h
    exact (Bool.or_eq_false_iff.mp h).2
  by_cases h2 : c ∈ marks1
  · rw [if_pos (mm.mpr h2), if_pos h2]
  · rw [if_neg (fun z => h2 (mm.mp z)), if_neg h2]
    have n1 : nameOk [c] = false := by
      unfold nameOk
      rw [show isL ([c].headD 0) = false from l0]
      simp
    have n2 : numOk [c] = false := by
      unfold numOk
      rw [show [c].all isF = false by simp [f0], Bool.and_false]
    rw [n1, n2]
    simp
/-- a text is one name -/
theorem wlen : ∀ (n : Nat) (l : List Nat), l.length ≤ n → ∀ ws a, words l = some ws → Wd.name a ∈ ws → a.length ≤ l.length
  | n, [], _, ws, a, h, ha => by
    rw [words_stop rfl] at h
    cases h
    simp at ha
  | 0, c :: r, h, _, _, _, _ => by simp at h
  | n + 1, c :: r, hl, ws, a, h, ha => by
    cases hs : step (c :: r) with
    | stop =>
      rw [words_stop hs] at h
      cases h
      simp at ha
    | bad =>
      rw [words_bad hs] at h
      cases h
    | skip t =>
      rw [words_skip hs] at h
      have := step_less _ _ (.inl hs)
      have := wlen n t (by simp at *; omega) ws a h ha
      omega
    | word w t =>
      rw [words_word hs] at h
      have ls := step_less _ _ (.inr ⟨w, hs⟩)
      cases ht : words t with
      | none =>
        rw [ht] at h
        cases h
      | some us =>
        rw [ht] at h
        cases h
        rcases List.mem_cons.mp ha with e | e
        · subst e
          rw [step] at hs
          by_cases h1 : c = 35
          · rw [if_pos h1] at hs
            cases hs
          rw [if_neg h1] at hs
          by_cases h2 : c = 32
          · rw [if_pos h2] at hs
            cases hs
          rw [if_neg h2] at hs
          by_cases h3 : (c :: r).takeWhile isNS ≠ []
          · rw [if_pos h3] at hs
            cases hw : runW ((c :: r).takeWhile isNS) with
            | none =>
              rw [hw] at hs
              cases hs
            | some w =>
              rw [hw] at hs
              cases hs
              have : a = (c :: r).takeWhile isNS := by
                unfold runW at hw
                split at hw
                · cases hw
                · split at hw
                  · split at hw <;> cases hw
                  · split at hw
                    · cases hw
                    · cases hw
                      rfl
              rw [this]
              exact tw_le _
          rw [if_neg h3] at hs
          split at hs
          · cases hs
          · split at hs <;> cases hs
        · have := wlen n t (by simp at *; omega) us a ht e
          omega
theorem tw_all {l : List Nat} (h : l.all isNS = true) : l.takeWhile isNS = l := by
  induction l with
  | nil => rfl
  | cons c r ih =>
    have h' := Bool.and_eq_true_iff.mp (show (isNS c && r.all isNS) = true from h)
    rw [List.takeWhile_cons, if_pos h'.1, ih h'.2]
theorem tw_ns (l : List Nat) : (l.takeWhile isNS).all isNS = true := by
  induction l with
  | nil => rfl
  | cons c r ih =>
    rw [List.takeWhile_cons]
    split
    · rename_i h
      show (isNS c && (r.takeWhile isNS).all isNS) = true
      rw [h, ih] <;> rfl
    · rfl
theorem name_iff (l : List Nat) : words l = some [.name l] ↔ nameOk l = true := by
  constructor
  · intro h
    cases l with
    | nil =>
      rw [words_stop rfl] at h
      cases h
    | cons c r =>
      cases hs : step (c :: r) with
      | stop =>
        rw [words_stop hs] at h
        cases h
      | bad =>
        rw [words_bad hs] at h
        cases h
      | skip t =>
        rw [words_skip hs] at h
        have l1 := step_less _ _ (.inl hs)
        have l2 := wlen t.length t (Nat.le_refl _) _ (c :: r) h (by simp)
        omega
      | word w t =>
        rw [words_word hs] at h
        have l1 := step_less _ _ (.inr ⟨w, hs⟩)
        cases ht : words t with
        | none =>
          rw [ht] at h
          cases h
        | some us =>
          rw [ht] at h
          have h := Option.some.inj h
          injection h with h1 h2
          subst h1
          rw [step] at hs
          by_cases h1 : c = 35
          · rw [if_pos h1] at hs
            cases hs
          rw [if_neg h1] at hs
          by_cases h2 : c = 32
          · rw [if_pos h2] at hs
            cases hs
          rw [if_neg h2] at hs
          by_cases h3 : (c :: r).takeWhile isNS ≠ []
          · rw [if_pos h3] at hs
            cases hw : runW ((c :: r).takeWhile isNS) with
            | none =>
              rw [hw] at hs
              cases hs
            | some w =>
              rw [hw] at hs
              have hs1 : w = .name (c :: r) := by injection hs
              subst hs1
              have hr := run_by h3 (tw_ns _)
              rw [hw] at hr
              unfold wordBy at hr
              split at hr
              · cases hr
              · split at hr
                · cases hr
                · split at hr
                  · rename_i hn
                    have e : (c :: r).takeWhile isNS = c :: r := by
                      have := Option.some.inj hr
                      injection this
                    rw [e] at hn
                    exact hn
                  · split at hr <;> cases hr
          rw [if_neg h3] at hs
          split at hs
          · cases hs
          · split at hs <;> cases hs
  · intro h
    have hk := h
    unfold nameOk at hk
    simp only [Bool.and_eq_true, decide_eq_true_eq, Bool.not_eq_true', decide_eq_false_iff_not] at hk
    obtain ⟨⟨⟨⟨h1, h2⟩, h3⟩, h4⟩, h5⟩ := hk
    cases l with
    | nil => simp at h1
    | cons c r =>
      have h3' : isL c = true := h3
      have c1 : c ≠ 35 ∧ c ≠ 32 := by
        unfold isL at h3'
        simp at h3'
        omega
      have tw := tw_all h5
      have hw : runW (c :: r) = some (.name (c :: r)) := by
        rw [← run_by (by simp) h5]
        unfold wordBy
        rw [if_neg h4, if_neg (ns_not_mark (by simp) h5), if_pos h]
      have s1 : step (c :: r) = .word (.name (c :: r)) [] := by
        rw [step, if_neg c1.1, if_neg c1.2, tw, if_pos (by simp), hw]
        simp
      rw [words_word s1, words_stop (l := []) rfl] <;> rfl
end M03

set_option linter.all false
set_option maxHeartbeats 1000000
namespace M01
def bitsN : Nat → Nat → List Nat
  | 0, _ => []
  | n + 1, w => (w % 2) :: bitsN n (w / 2)
def numN : List Nat → Nat
  | [] => 0
  | b :: r => b + 2 * numN r
theorem pow_s (n : Nat) : 2 ^ (n + 1) = 2 * 2 ^ n := by rw [Nat.pow_succ, Nat.mul_comm]
theorem mod_s (x n : Nat) : x % 2 ^ (n + 1) = x % 2 + 2 * (x / 2 % 2 ^ n) := by rw [pow_s, Nat.mod_mul]
theorem bits_len : ∀ n w, (bitsN n w).length = n
  | 0, _ => rfl
  | n + 1, w => by rw [bitsN, List.length_cons, bits_len n]
theorem num_bits : ∀ n w, numN (bitsN n w) = w % 2 ^ n
  | 0, w => by rw [bitsN, numN, Nat.pow_zero, Nat.mod_one]
  | n + 1, w => by rw [bitsN, numN, num_bits n, mod_s]
theorem bits_lt : ∀ n w, ∀ b ∈ bitsN n w, b < 2
  | 0, _, b, h => by simp [bitsN] at h
  | n + 1, w, b, h => by
    rw [bitsN, List.mem_cons] at h
    rcases h with rfl | h
    · exact Nat.mod_lt _ (by decide)
    · exact bits_lt n _ b h
theorem num_app : ∀ (xs ys : List Nat), numN (xs ++ ys) = numN xs + 2 ^ xs.length * numN ys
  | [], ys => by simp [numN]
  | x :: xs, ys => by
    rw [List.cons_append, numN, numN, num_app xs, List.length_cons, pow_s, Nat.mul_add, Nat.mul_assoc, Nat.add_assoc]
theorem bits_inj {n a b : Nat} (ha : a < 2 ^ n) (hb : b < 2 ^ n) (h : bitsN n a = bitsN n b) : a = b := by
  have e := congrArg numN h
  rw [num_bits, num_bits, Nat.mod_eq_of_lt ha, Nat.mod_eq_of_lt hb] at e
  exact e
/-- sign by sign -/
theorem zip_num (f : Nat → Nat → Nat) (g : Nat → Nat → Nat) (h2 : ∀ a b, g a b / 2 = g (a / 2) (b / 2)) (h1 : ∀ a b, g a b % 2 = f (a % 2) (b % 2)) :
    ∀ n a b, numN (List.zipWith f (bitsN n a) (bitsN n b)) = g a b % 2 ^ n
  | 0, a, b => by rw [bitsN, bitsN, List.zipWith_nil_left, numN, Nat.pow_zero, Nat.mod_one]
  | n + 1, a, b => by rw [bitsN, bitsN, List.zipWith_cons_cons, numN, zip_num f g h2 h1 n, mod_s, h2, h1]
theorem lt2 {f : Nat → Nat → Nat} {g : Nat → Nat → Nat} (h : ∀ i, i < 2 → ∀ j, j < 2 → g i j = f i j) (a b : Nat) : g (a % 2) (b % 2) = f (a % 2) (b % 2) := h _ (Nat.mod_lt _ (by decide)) _ (Nat.mod_lt _ (by decide))
theorem and2 (a b : Nat) : (a &&& b) % 2 = a % 2 * (b % 2) := by
  have e : (a &&& b) % 2 = (a % 2 &&& b % 2) := by
    have := Nat.and_mod_two_pow (a := a) (b := b) (n := 1)
    simpa using this
  rw [e]
  exact lt2 (f := fun i j => i * j) (g := fun i j => i &&& j) (by decide) a b
theorem or2 (a b : Nat) : (a ||| b) % 2 = max (a % 2) (b % 2) := by
  have e : (a ||| b) % 2 = (a % 2 ||| b % 2) := by
    have := Nat.or_mod_two_pow (a := a) (b := b) (n := 1)
    simpa using this
  rw [e]
  exact lt2 (f := fun i j => max i j) (g := fun i j => i ||| j) (by decide) a b
theorem xor2 (a b : Nat) : (a ^^^ b) % 2 = (a % 2 + b % 2) % 2 := by
  have e : (a ^^^ b) % 2 = (a % 2 ^^^ b % 2) := by
    have := Nat.xor_mod_two_pow (a := a) (b := b) (n := 1)
    simpa using this
  rw [e]
  exact lt2 (f := fun i j => (i + j) % 2) (g := fun i j => i ^^^ j) (by decide) a b
theorem num_and (n a b : Nat) : numN (List.zipWith (fun i j => i * j) (bitsN n a) (bitsN n b)) = (a &&& b) % 2 ^ n := zip_num _ (fun a b => a &&& b) (fun a b => Nat.and_div_two) and2 n a b
theorem num_or (n a b : Nat) : numN (List.zipWith (fun i j => max i j) (bitsN n a) (bitsN n b)) = (a ||| b) % 2 ^ n := zip_num _ (fun a b => a ||| b) (fun a b => Nat.or_div_two) or2 n a b
theorem num_xor (n a b : Nat) : numN (List.zipWith (fun i j => (i + j) % 2) (bitsN n a) (bitsN n b)) = (a ^^^ b) % 2 ^ n := zip_num _ (fun a b => a ^^^ b) (fun a b => Nat.xor_div_two) xor2 n a b
/-- what goes over -/
def sumN : Nat → List Nat → List Nat → List Nat
  | c, x :: xs, y :: ys => ((x + y + c) % 2) :: sumN ((x + y + c) / 2) xs ys
  | _, _, _ => []
theorem num_sum : ∀ n a b c, numN (sumN c (bitsN n a) (bitsN n b)) = (a + b + c) % 2 ^ n
  | 0, a, b, c => by rw [bitsN, bitsN, sumN, numN, Nat.pow_zero, Nat.mod_one] <;> simp
  | n + 1, a, b, c => by
    rw [bitsN, bitsN, sumN, numN, num_sum n, mod_s]
    have e1 : (a + b + c) % 2 = (a % 2 + b % 2 + c) % 2 := by omega
    have e2 : (a + b + c) / 2 = a / 2 + b / 2 + (a % 2 + b % 2 + c) / 2 := by omega
    rw [e1, e2]
theorem flip_bits : ∀ n b, (bitsN n b).map (fun x => 1 - x) = bitsN n (2 ^ n - 1 - b % 2 ^ n)
  | 0, _ => rfl
  | n + 1, b => by
    have h := mod_s b n
    have p := pow_s n
    have q : b / 2 % 2 ^ n < 2 ^ n := Nat.mod_lt _ (Nat.two_pow_pos n)
    rw [bitsN, bitsN, List.map_cons, flip_bits n]
    have e1 : 1 - b % 2 = (2 ^ (n + 1) - 1 - b % 2 ^ (n + 1)) % 2 := by omega
    have e2 : 2 ^ n - 1 - b / 2 % 2 ^ n = (2 ^ (n + 1) - 1 - b % 2 ^ (n + 1)) / 2 := by omega
    rw [e1, e2]
theorem num_sub (n a b : Nat) (hb : b < 2 ^ n) : numN (sumN 1 (bitsN n a) ((bitsN n b).map fun x => 1 - x)) = (a + (2 ^ n - b)) % 2 ^ n := by
  rw [flip_bits, num_sum, Nat.mod_eq_of_lt hb]
  congr 1
  omega
theorem num_flip (n a : Nat) (ha : a < 2 ^ n) : numN ((bitsN n a).map fun x => 1 - x) = 2 ^ n - 1 - a := by
  rw [flip_bits, num_bits, Nat.mod_eq_of_lt ha, Nat.mod_eq_of_lt (by omega)]
/-- the top bit -/
theorem bits_top : ∀ n w, bitsN (n + 1) w = bitsN n w ++ [w / 2 ^ n % 2]
  | 0, w => by simp [bitsN]
  | n + 1, w => by
    rw [bitsN, bits_top n, bitsN, List.cons_append, Nat.div_div_eq_div_mul, pow_s]
def fd : List (Nat × Nat) → Nat
  | [] => 0
  | p :: t => if p.1 = p.2 then fd t else if p.1 < p.2 then 1 else 0
theorem fd_bits : ∀ n a b, fd (List.zip (bitsN n a).reverse (bitsN n b).reverse) = if a % 2 ^ n < b % 2 ^ n then 1 else 0
  | 0, a, b => by simp [bitsN, fd, Nat.mod_one]
  | n + 1, a, b => by
    rw [bits_top, bits_top, List.reverse_append, List.reverse_append]
    show fd ((a / 2 ^ n % 2, b / 2 ^ n % 2) :: List.zip (bitsN n a).reverse (bitsN n b).reverse) = _
    have ea : a % 2 ^ (n + 1) = a % 2 ^ n + 2 ^ n * (a / 2 ^ n % 2) := by rw [Nat.pow_succ, Nat.mod_mul]
    have eb : b % 2 ^ (n + 1) = b % 2 ^ n + 2 ^ n * (b / 2 ^ n % 2) := by rw [Nat.pow_succ, Nat.mod_mul]
    have la : a % 2 ^ n < 2 ^ n := Nat.mod_lt _ (Nat.two_pow_pos n)
    have lb : b % 2 ^ n < 2 ^ n := Nat.mod_lt _ (Nat.two_pow_pos n)
    have ta := Nat.mod_two_eq_zero_or_one (a / 2 ^ n)
    have tb := Nat.mod_two_eq_zero_or_one (b / 2 ^ n)
    rw [fd, fd_bits n, ea, eb]
    rcases ta with ta | ta <;> rcases tb with tb | tb <;> rw [ta, tb] <;> simp
    · omega
    · omega
theorem bits_drop : ∀ k n w, (bitsN n w).drop k = bitsN (n - k) (w / 2 ^ k)
  | 0, n, w => by simp
  | k + 1, 0, w => by simp [bitsN]
  | k + 1, n + 1, w => by
    rw [bitsN, List.drop_succ_cons, bits_drop k n, Nat.div_div_eq_div_mul, pow_s, Nat.add_sub_add_right]
theorem bits_take : ∀ k n w, (bitsN n w).take k = bitsN (min k n) w
  | 0, n, w => by simp [bitsN]
  | k + 1, 0, w => by simp [bitsN]
  | k + 1, n + 1, w => by
    rw [bitsN, List.take_succ_cons, bits_take k n, Nat.add_min_add_right, bitsN]
theorem num_cut (n a low many : Nat) (ha : a < 2 ^ n) : numN (((bitsN n a).drop low).take many) = a / 2 ^ low % 2 ^ many := by
  rw [bits_drop, bits_take, num_bits]
  by_cases h : many ≤ n - low
  · rw [Nat.min_eq_left h]
  · have h2 : n - low ≤ many := by omega
    rw [Nat.min_eq_right h2]
    have l1 : a / 2 ^ low < 2 ^ (n - low) := by
      by_cases hl : low ≤ n
      · rw [Nat.div_lt_iff_lt_mul (Nat.two_pow_pos low), ← Nat.pow_add]
        rw [show n - low + low = n by omega]
        exact ha
      · have : a < 2 ^ low := Nat.lt_of_lt_of_le ha (Nat.pow_le_pow_right (by decide) (by omega))
        rw [Nat.div_eq_of_lt this]
        exact Nat.two_pow_pos _
    rw [Nat.mod_eq_of_lt l1, Nat.mod_eq_of_lt (Nat.lt_of_lt_of_le l1 (Nat.pow_le_pow_right (by decide) h2))]
theorem num_ones (n : Nat) : numN (List.replicate n 1) = 2 ^ n - 1 := by
  induction n with
  | zero => rfl
  | succ n ih =>
    have p := Nat.two_pow_pos n
    rw [List.replicate_succ, numN, ih, pow_s]
    omega
end M01

set_option linter.all false
set_option maxHeartbeats 1000000
namespace M18
variable {α : Type} [DecidableEq α]
/-- where a name stands in the way, by what was noted -/
def place : List (α × Nat) → α → Option Nat
  | [], _ => none
  | (m, i) :: r, n => if m = n then some i else place r n
/-- way: the last one first; left: the top first; done: the newest first -/
structure St (α : Type) where
  way : List α
  places : List (α × Nat)
  left : List (List α)
  done : List α
inductive Out (α : Type) where
  | fin (r : Option (List α)) (d : List α) | go (s : St α)
def step (get : α → List α) (s : St α) : Out α :=
  match s.left with
  | [] => .fin none s.done
  | [] :: rest => (match s.way with
    | [] => .go ⟨[], s.places, rest, s.done⟩
    | w :: ws => .go ⟨ws, s.places, rest, w :: s.done⟩)
  | (n :: l) :: rest =>
    if n ∈ s.done then .go ⟨s.way, s.places, l :: rest, s.done⟩
    else match place s.places n with
      | some i => .fin (some (s.way.reverse.drop i)) s.done
      | none => .go ⟨n :: s.way, (n, s.way.length) :: s.places, get n :: l :: rest, s.done⟩
def wL : List (List α) → Nat
  | [] => 0
  | l :: r => 2 * l.length + 1 + wL r
def wK (get : α → List α) (p : List (α × Nat)) : List α → Nat
  | [] => 0
  | k :: r => (if place p k = none then 2 * (get k).length else 0) + wK get p r
def mu (get : α → List α) (keys : List α) (s : St α) : Nat := wL s.left + wK get s.places keys
theorem place_cons (m : α) (i : Nat) (r : List (α × Nat)) (n : α) : place ((m, i) :: r) n = if m = n then some i else place r n := rfl
theorem wK_cons (get : α → List α) (p : List (α × Nat)) (k : α) (r : List α) : wK get p (k :: r) = (if place p k = none then 2 * (get k).length else 0) + wK get p r := rfl
theorem wL_cons (l : List α) (r : List (List α)) : wL (l :: r) = 2 * l.length + 1 + wL r := rfl
theorem wK_mono (get : α → List α) (p : List (α × Nat)) (n : α) (i : Nat) : ∀ ks, wK get ((n, i) :: p) ks ≤ wK get p ks
  | [] => Nat.le_refl _
  | k :: r => by
    have ih := wK_mono get p n i r
    rw [wK_cons, wK_cons, place_cons]
    by_cases h : n = k
    · rw [if_pos h, if_neg (by simp)]
      omega
    · rw [if_neg h]
      omega
theorem wK_less (get : α → List α) (p : List (α × Nat)) (n : α) (i : Nat) (hn : place p n = none) : ∀ ks, n ∈ ks → wK get ((n, i) :: p) ks + 2 * (get n).length ≤ wK get p ks
  | [], h => by simp at h
  | k :: r, h => by
    rw [wK_cons, wK_cons, place_cons]
    by_cases e : n = k
    · subst e
      have := wK_mono get p n i r
      rw [if_pos rfl, if_neg (by simp), if_pos hn]
      omega
    · have ih := wK_less get p n i hn r (by
        rcases List.mem_cons.mp h with h | h
        · exact absurd h e
        · exact h)
      rw [if_neg e]
      omega
theorem step_less {get : α → List α} {keys : List α} (hk : ∀ n, n ∉ keys → get n = []) {s s' : St α} (h : step get s = .go s') : mu get keys s' < mu get keys s := by
  obtain ⟨way, places, left, done⟩ := s
  unfold step at h
  cases left with
  | nil => cases h
  | cons t rest =>
    cases t with
    | nil =>
      cases way with
      | nil =>
        cases h
        unfold mu
        show wL rest + _ < wL ([] :: rest) + _
        rw [wL_cons]
        show wL rest + wK get places keys < _ + wK get places keys
        omega
      | cons w ws =>
        cases h
        unfold mu
        show wL rest + wK get places keys < wL ([] :: rest) + wK get places keys
        rw [wL_cons]
        omega
    | cons n l =>
      simp only at h
      by_cases h1 : n ∈ done
      · rw [if_pos h1] at h
        cases h
        unfold mu
        show wL (l :: rest) + wK get places keys < wL ((n :: l) :: rest) + wK get places keys
        rw [wL_cons, wL_cons, List.length_cons]
        omega
      · rw [if_neg h1] at h
        cases hp : place places n with
        | some i =>
          rw [hp] at h
          cases h
        | none =>
          rw [hp] at h
          cases h
          unfold mu
          show wL (get n :: l :: rest) + wK get ((n, way.length) :: places) keys < wL ((n :: l) :: rest) + wK get places keys
          rw [wL_cons, wL_cons, wL_cons, List.length_cons]
          by_cases hm : n ∈ keys
          · have := wK_less get places n way.length hp keys hm
            omega
          · have := wK_mono get places n way.length keys
            rw [hk n hm, List.length_nil]
            omega
def run (get : α → List α) (keys : List α) (hk : ∀ n, n ∉ keys → get n = []) (s : St α) : Option (List α) × List α :=
  match h : step get s with
  | .fin r d => (r, d)
  | .go s' => run get keys hk s'
termination_by mu get keys s
decreasing_by exact step_less hk h
section
variable {get : α → List α} {keys : List α} {hk : ∀ n, n ∉ keys → get n = []}
theorem run_fin {s : St α} {r : Option (List α)} {d : List α} (h : step get s = .fin r d) : run get keys hk s = (r, d) := by
  rw [run]
  split <;> simp_all
theorem run_go {s s' : St α} (h : step get s = .go s') : run get keys hk s = run get keys hk s' := by
  rw [run]
  split <;> simp_all
end
def ringFrom (get : α → List α) (keys : List α) (hk : ∀ n, n ∉ keys → get n = []) (n : α) (done : List α) : Option (List α) × List α := run get keys hk ⟨[], [], [[n]], done⟩
def ringL (get : α → List α) (keys : List α) (hk : ∀ n, n ∉ keys → get n = []) : List α → List α → Option (List α)
  | [], _ => none
  | n :: ns, done => match ringFrom get keys hk n done with
    | (some r, _) => some r
    | (none, d) => ringL get keys hk ns d
/-! ### what is known on the way -/
def Rel (get : α → List α) (start : α) (done : List α) : Option α → List (List α) → List α → Prop
  | up, ls, [] => (ls = [] ∧ start ∈ done) ∨ ∃ l, ls = [l] ∧ (start ∈ done ∨ start ∈ l ∨ up = some start)
  | up, ls, w :: ws => ∃ l r, ls = l :: r ∧ (∀ x ∈ l, x ∈ get w) ∧ (∀ x ∈ get w, x ∈ done ∨ x ∈ l ∨ up = some x) ∧ (∀ u, up = some u → u ∈ get w) ∧ Rel get start done (some w) r ws
def Ord (get : α → List α) : List α → Prop
  | [] => True
  | d :: ds => (∀ y ∈ get d, y ∈ ds) ∧ Ord get ds
def IsRing (get : α → List α) (r : List α) : Prop := r ≠ [] ∧ r.Nodup ∧ ∀ p ∈ r.zip (r.drop 1 ++ r.take 1), p.2 ∈ get p.1
structure Inv (get : α → List α) (start : α) (s : St α) : Prop where
  nd : s.way.Nodup
  dis : ∀ x ∈ s.way, x ∉ s.done
  pl : ∀ n i, place s.places n = some i → n ∉ s.done → s.way.reverse[i]? = some n
  pw : ∀ n ∈ s.way, place s.places n ≠ none
  rel : Rel get start s.done none s.left s.way
  ord : Ord get s.done
theorem Rel.more {get : α → List α} {start w : α} {done : List α} : ∀ {ws : List α} {up : Option α} {ls : List (List α)}, Rel get start done up ls ws → Rel get start (w :: done) up ls ws
  | [], up, ls, h => by
    rcases h with ⟨h1, h2⟩ | ⟨l, h1, h2⟩
    · exact .inl ⟨h1, List.mem_cons_of_mem _ h2⟩
    · exact .inr ⟨l, h1, h2.imp (List.mem_cons_of_mem _) id⟩
  | v :: vs, up, ls, h => by
    obtain ⟨l, r, e, a, b, c, d⟩ := h
    exact ⟨l, r, e, a, fun x hx => (b x hx).imp (List.mem_cons_of_mem _) id, c, Rel.more d⟩
theorem Rel.pop {get : α → List α} {start w : α} {done : List α} : ∀ {ws : List α} {ls : List (List α)}, Rel get start done (some w) ls ws → Rel get start (w :: done) none ls ws
  | [], ls, h => by
    rcases h with ⟨h1, h2⟩ | ⟨l, h1, h2⟩
    · exact .inl ⟨h1, List.mem_cons_of_mem _ h2⟩
    · refine .inr ⟨l, h1, ?_⟩
      rcases h2 with h | h | h
      · exact .inl (List.mem_cons_of_mem _ h)
      · exact .inr (.inl h)
      · exact .inl (by rw [Option.some.inj h]; exact List.mem_cons_self)
  | v :: vs, ls, h => by
    obtain ⟨l, r, e, a, b, c, d⟩ := h
    refine ⟨l, r, e, a, fun x hx => ?_, fun u hu => (by cases hu), Rel.more d⟩
    rcases b x hx with h | h | h
    · exact .inl (List.mem_cons_of_mem _ h)
    · exact .inr (.inl h)
    · exact .inl (by rw [Option.some.inj h]; exact List.mem_cons_self)
theorem Rel.skip {get : α → List α} {start n : α} {done : List α} {l : List α} {ls : List (List α)} {ws : List α} (hn : n ∈ done) (h : Rel get start done none ((n :: l) :: ls) ws) : Rel get start done none (l :: ls) ws := by
  cases ws with
  | nil =>
    rcases h with ⟨h1, _⟩ | ⟨l', h1, h2⟩
    · cases h1
    · cases h1
      refine .inr ⟨l, rfl, ?_⟩
      rcases h2 with h | h | h
      · exact .inl h
      · rcases List.mem_cons.mp h with h | h
        · exact .inl (by rw [h]; exact hn)
        · exact .inr (.inl h)
      · cases h
  | cons w ws =>
    obtain ⟨l', r, e, a, b, c, d⟩ := h
    cases e
    refine ⟨l, ls, rfl, fun x hx => a x (List.mem_cons_of_mem _ hx), fun x hx => ?_, c, d⟩
    rcases b x hx with h | h | h
    · exact .inl h
    · rcases List.mem_cons.mp h with h | h
      · exact .inl (by rw [h]; exact hn)
      · exact .inr (.inl h)
    · exact .inr (.inr h)
theorem Rel.push {get : α → List α} {start n : α} {done : List α} {l : List α} {ls : List (List α)} {ws : List α} (h : Rel get start done none ((n :: l) :: ls) ws) : Rel get start done none (get n :: l :: ls) (n :: ws) := by
  refine ⟨get n, l :: ls, rfl, fun x hx => hx, fun x hx => .inr (.inl hx), fun u hu => (by cases hu), ?_⟩
  cases ws with
  | nil =>
    rcases h with ⟨h1, _⟩ | ⟨l', h1, h2⟩
    · cases h1
    · cases h1
      refine .inr ⟨l, rfl, ?_⟩
      rcases h2 with h | h | h
      · exact .inl h
      · rcases List.mem_cons.mp h with h | h
        · exact .inr (.inr (by rw [h]))
        · exact .inr (.inl h)
      · cases h
  | cons w ws =>
    obtain ⟨l', r, e, a, b, c, d⟩ := h
    cases e
    refine ⟨l, ls, rfl, fun x hx => a x (List.mem_cons_of_mem _ hx), fun x hx => ?_, fun u hu => ?_, d⟩
    · rcases b x hx with h | h | h
      · exact .inl h
      · rcases List.mem_cons.mp h with h | h
        · exact .inr (.inr (by rw [h]))
        · exact .inr (.inl h)
      · cases h
    · cases hu
      exact a n List.mem_cons_self
/-- the way goes along asks -/
theorem Rel.chain {get : α → List α} {start : α} {done : List α} : ∀ {ws : List α} {up : Option α} {ls : List (List α)}, Rel get start done up ls ws → ∀ i x y, ws[i]? = some x → ws[i + 1]? = some y → x ∈ get y
  | [], _, _, _, i, x, y, h1, _ => by simp at h1
  | [w], _, _, h, i, x, y, _, h2 => by simp at h2
  | w :: v :: ws, _, _, h, 0, x, y, h1, h2 => by
    cases h1
    cases h2
    obtain ⟨_, _, _, _, _, _, d⟩ := h
    obtain ⟨_, _, _, _, _, c, _⟩ := d
    exact c w rfl
  | w :: v :: ws, _, _, h, i + 1, x, y, h1, h2 => by
    obtain ⟨_, _, _, _, _, _, d⟩ := h
    exact Rel.chain d i x y (by simpa using h1) (by simpa using h2)
theorem rev_get {l : List α} {i : Nat} {x : α} (h : l.reverse[i]? = some x) : i < l.length ∧ l[l.length - 1 - i]? = some x := by
  have hi : i < l.length := by
    have := List.getElem?_eq_some_iff.mp h
    simpa using this.1
  refine ⟨hi, ?_⟩
  rw [List.getElem?_reverse hi] at h
  exact h
theorem ring_of {get : α → List α} {way : List α} {i : Nat} {n w : α} {ws : List α} (hw : way = w :: ws) (nd : way.Nodup) (ch : ∀ i x y, way[i]? = some x → way[i + 1]? = some y → x ∈ get y) (hi : way.reverse[i]? = some n) (hn : n ∈ get w) : IsRing get (way.reverse.drop i) := by
  obtain ⟨hil, _⟩ := rev_get hi
  have hl : i < way.reverse.length := by simpa using hil
  have nonempty : way.reverse.drop i ≠ [] := by
    intro h
    have := congrArg List.length h
    rw [List.length_drop] at this
    simp at this
    omega
  refine ⟨nonempty, List.Sublist.nodup (List.drop_sublist _ _) (List.pairwise_reverse.mpr (List.Pairwise.imp (fun h e => h e.symm) nd)), fun p hp => ?_⟩
  obtain ⟨k, hk, e⟩ := List.mem_iff_getElem.mp hp
  have e' := (List.getElem?_eq_getElem hk).trans (congrArg some e)
  rw [List.getElem?_zip_eq_some] at e'
  obtain ⟨e1, e2⟩ := e'
  rw [List.getElem?_drop] at e1
  obtain ⟨h1l, h1⟩ := rev_get e1
  by_cases hlast : k + 1 < (way.reverse.drop i).length
  · rw [List.getElem?_append_left (by rw [List.length_drop]; omega), List.getElem?_drop, List.getElem?_drop] at e2
    obtain ⟨h2l, h2⟩ := rev_get e2
    refine ch (way.length - 1 - (i + (1 + k))) p.2 p.1 h2 ?_
    rw [← h1]
    congr 1
    omega
  · have hlen : (way.reverse.drop i).length = way.length - i := by simp
    have hk1 : k < way.length - i := by omega
    rw [hlen] at hlast
    have hkl : i + k = way.length - 1 := by omega
    rw [List.getElem?_append_right (by rw [List.length_drop, hlen]; omega)] at e2
    have : k - ((way.reverse.drop i).drop 1).length = 0 := by
      rw [List.length_drop, hlen]
      omega
    rw [this, List.getElem?_take_of_lt (by decide), List.getElem?_drop, Nat.add_zero, hi] at e2
    have p2 : p.2 = n := (Option.some.inj e2).symm
    have : way.length - 1 - (i + k) = 0 := by omega
    rw [this, hw] at h1
    have p1 : p.1 = w := (Option.some.inj h1).symm
    rw [p1, p2]
    exact hn
/-- a step keeps what is known -/
theorem Inv.step {get : α → List α} {start : α} {s s' : St α} (I : Inv get start s) (h : M18.step get s = .go s') : Inv get start s' := by
  obtain ⟨way, places, left, done⟩ := s
  obtain ⟨nd, dis, pl, pw, rel, ord⟩ := I
  unfold M18.step at h
  cases left with
  | nil => cases h
  | cons t rest =>
    cases t with
    | nil =>
      cases way with
      | nil =>
        cases h
        refine ⟨.nil, fun x hx => absurd hx (by simp), fun n i h1 h2 => ?_, fun n hn => absurd hn (by simp), ?_, ord⟩
        · have := pl n i h1 h2
          simp at this
        · rcases rel with ⟨h1, _⟩ | ⟨l, h1, h2⟩
          · cases h1
          · cases h1
            refine .inl ⟨rfl, ?_⟩
            rcases h2 with h | h | h
            · exact h
            · simp at h
            · cases h
      | cons w ws =>
        cases h
        obtain ⟨l, r, e, a, b, c, d⟩ := rel
        cases e
        have nd' := List.nodup_cons.mp nd
        refine ⟨nd'.2, fun x hx hd => ?_, fun n i h1 h2 => ?_, fun n hn => pw n (List.mem_cons_of_mem _ hn), Rel.pop d, ⟨fun y hy => ?_, ord⟩⟩
        · rcases List.mem_cons.mp hd with hd | hd
          · exact nd'.1 (by rw [← hd]; exact hx)
          · exact dis x (List.mem_cons_of_mem _ hx) hd
        · have hn : n ∉ done := fun z => h2 (List.mem_cons_of_mem _ z)
          have hw : n ≠ w := fun z => h2 (by rw [z]; exact List.mem_cons_self)
          have := pl n i h1 hn
          rw [List.reverse_cons] at this
          by_cases hi : i < ws.reverse.length
          · rw [List.getElem?_append_left hi] at this
            exact this
          · rw [List.getElem?_append_right (by omega)] at this
            have hz : i - ws.reverse.length = 0 := by
              have := (List.getElem?_eq_some_iff.mp this).1
              simpa using this
            rw [hz] at this
            exact absurd (Option.some.inj this).symm hw
        · rcases b y hy with h | h | h
          · exact h
          · simp at h
          · cases h
    | cons n l =>
      simp only at h
      by_cases h1 : n ∈ done
      · rw [if_pos h1] at h
        cases h
        exact ⟨nd, dis, pl, pw, Rel.skip h1 rel, ord⟩
      · rw [if_neg h1] at h
        cases hp : place places n with
        | some i =>
          rw [hp] at h
          cases h
        | none =>
          rw [hp] at h
          cases h
          have nw : n ∉ way := fun z => pw n z hp
          refine ⟨List.nodup_cons.mpr ⟨nw, nd⟩, fun x hx => ?_, fun m i h2 h3 => ?_, fun m hm => ?_, Rel.push rel, ord⟩
          · rcases List.mem_cons.mp hx with e | e
            · rw [e]
              exact h1
            · exact dis x e
          · rw [List.reverse_cons]
            have h2 : place ((n, way.length) :: places) m = some i := h2
            rw [place_cons] at h2
            by_cases e : n = m
            · rw [if_pos e] at h2
              have : i = way.reverse.length := by
                rw [List.length_reverse]
                exact (Option.some.inj h2).symm
              rw [this, List.getElem?_append_right (Nat.le_refl _), Nat.sub_self, e]
              rfl
            · rw [if_neg e] at h2
              have := pl m i h2 h3
              rw [List.getElem?_append_left (List.getElem?_eq_some_iff.mp this).1]
              exact this
          · show place ((n, way.length) :: places) m ≠ none
            rw [place_cons]
            by_cases e : n = m
            · rw [if_pos e]
              simp
            · rw [if_neg e]
              rcases List.mem_cons.mp hm with h | h
              · exact absurd h.symm e
              · exact pw m h
/-- where it ends -/
theorem Inv.fin {get : α → List α} {start : α} {s : St α} {r : Option (List α)} {d : List α} (I : Inv get start s) (h : M18.step get s = .fin r d) : d = s.done ∧ (r = none → start ∈ d) ∧ ∀ x, r = some x → IsRing get x := by
  obtain ⟨way, places, left, done⟩ := s
  obtain ⟨nd, dis, pl, pw, rel, ord⟩ := I
  unfold M18.step at h
  cases left with
  | nil =>
    cases h
    refine ⟨rfl, fun _ => ?_, fun x hx => by cases hx⟩
    cases way with
    | nil =>
      rcases rel with ⟨_, h⟩ | ⟨l, h, _⟩
      · exact h
      · cases h
    | cons w ws =>
      obtain ⟨l, r, e, _⟩ := rel
      cases e
  | cons t rest =>
    cases t with
    | nil =>
      cases way with
      | nil => cases h
      | cons w ws => cases h
    | cons n l =>
      simp only at h
      by_cases h1 : n ∈ done
      · rw [if_pos h1] at h
        cases h
      · rw [if_neg h1] at h
        cases hp : place places n with
        | none =>
          rw [hp] at h
          cases h
        | some i =>
          rw [hp] at h
          cases h
          refine ⟨rfl, fun h => (by cases h), fun x hx => ?_⟩
          cases hx
          have hi := pl n i hp h1
          cases way with
          | nil => simp at hi
          | cons w ws =>
            have ch := rel.chain
            obtain ⟨l', r, e, a, b, c, d⟩ := rel
            cases e
            exact ring_of rfl nd ch hi (a n List.mem_cons_self)
theorem run_ends {get : α → List α} {keys : List α} {hk : ∀ n, n ∉ keys → get n = []} {start : α} : ∀ (k : Nat) (s : St α), mu get keys s ≤ k → Inv get start s → Ord get (run get keys hk s).2 ∧ (∀ x ∈ s.done, x ∈ (run get keys hk s).2) ∧ ((run get keys hk s).1 = none → start ∈ (run get keys hk s).2) ∧ ∀ x, (run get keys hk s).1 = some x → IsRing get x := by
  intro k
  induction k with
  | zero =>
    intro s hm I
    cases h : M18.step get s with
    | fin r d =>
      rw [run_fin h]
      obtain ⟨e, h1, h2⟩ := I.fin h
      exact ⟨by rw [e]; exact I.ord, fun x hx => by rw [e]; exact hx, h1, h2⟩
    | go s' =>
      have := step_less hk h
      omega
  | succ k ih =>
    intro s hm I
    cases h : M18.step get s with
    | fin r d =>
      rw [run_fin h]
      obtain ⟨e, h1, h2⟩ := I.fin h
      exact ⟨by rw [e]; exact I.ord, fun x hx => by rw [e]; exact hx, h1, h2⟩
    | go s' =>
      have hl := step_less hk h
      rw [run_go h]
      obtain ⟨a, b, c, d⟩ := ih s' (by omega) (I.step h)
      refine ⟨a, fun x hx => b x ?_, c, d⟩
      obtain ⟨way, places, left, done⟩ := s
      unfold M18.step at h
      split at h
      · cases h
      · split at h
        · cases h
          exact hx
        · cases h
          exact List.mem_cons_of_mem _ hx
      · split at h
        · cases h
          exact hx
        · split at h
          · cases h
          · cases h
            exact hx
theorem inv_start {get : α → List α} {n : α} {done : List α} (o : Ord get done) : Inv get n ⟨[], [], [[n]], done⟩ :=
  ⟨.nil, fun x hx => absurd hx (by simp), fun m i h => (by cases h), fun m hm => absurd hm (by simp), .inr ⟨[n], rfl, .inr (.inl (by simp))⟩, o⟩
theorem ringL_none {get : α → List α} {keys : List α} {hk : ∀ n, n ∉ keys → get n = []} : ∀ (ns done : List α), Ord get done → ringL get keys hk ns done = none → ∃ d, Ord get d ∧ (∀ x ∈ done, x ∈ d) ∧ ∀ x ∈ ns, x ∈ d
  | [], done, o, _ => ⟨done, o, fun x hx => hx, fun x hx => absurd hx (by simp)⟩
  | n :: ns, done, o, h => by
    have e := run_ends (hk := hk) _ _ (Nat.le_refl _) (inv_start (n := n) o)
    unfold ringL ringFrom at h
    cases hr : run get keys hk ⟨[], [], [[n]], done⟩ with
    | mk r d =>
      rw [hr] at e h
      cases r with
      | some x => cases h
      | none =>
        obtain ⟨a, b, c, _⟩ := e
        obtain ⟨d2, o2, h2, h3⟩ := ringL_none ns d a h
        refine ⟨d2, o2, fun x hx => h2 x (b x hx), fun x hx => ?_⟩
        rcases List.mem_cons.mp hx with z | z
        · rw [z]
          exact h2 n (c rfl)
        · exact h3 x z
theorem ringL_some {get : α → List α} {keys : List α} {hk : ∀ n, n ∉ keys → get n = []} {r : List α} : ∀ (ns done : List α), Ord get done → ringL get keys hk ns done = some r → IsRing get r
  | [], done, o, h => by cases h
  | n :: ns, done, o, h => by
    have e := run_ends (hk := hk) _ _ (Nat.le_refl _) (inv_start (n := n) o)
    unfold ringL ringFrom at h
    cases hr : run get keys hk ⟨[], [], [[n]], done⟩ with
    | mk r' d =>
      rw [hr] at e h
      cases r' with
      | some x =>
        cases h
        exact e.2.2.2 _ rfl
      | none => exact ringL_some ns d e.1 h
/-! ### taking off -/
def gone (get : α → List α) (L : List α) : List α := L.filter fun n => (get n).all fun m => !decide (m ∈ L)
theorem gone_ring {get : α → List α} {r L : List α} (h : IsRing get r) (hL : ∀ x ∈ r, x ∈ L) : ∀ x ∈ r, x ∉ gone get L := fun x hx hg => by
  have hg := (List.mem_filter.mp hg).2
  obtain ⟨i, hi, rfl⟩ := List.mem_iff_getElem.mp hx
  have zl : (r.drop 1 ++ r.take 1).length = r.length := by
    rw [List.length_append, List.length_drop, List.length_take]
    omega
  have hm := h.2.2 (r[i], (r.drop 1 ++ r.take 1)[i]'(by omega)) (List.mem_iff_getElem.mpr ⟨i, by rw [List.length_zip]; omega, by rw [List.getElem_zip]⟩)
  have inr : (r.drop 1 ++ r.take 1)[i]'(by omega) ∈ r := by
    have := List.getElem_mem (l := r.drop 1 ++ r.take 1) (n := i) (by omega)
    rcases List.mem_append.mp this with h | h
    · exact List.mem_of_mem_drop h
    · exact List.mem_of_mem_take h
  have := List.all_eq_true.mp hg _ hm
  simp only [Bool.not_eq_true', decide_eq_false_iff_not] at this
  exact this (hL _ inr)
theorem gone_some {get : α → List α} {L : List α} : ∀ (d : List α), Ord get d → (∃ x ∈ L, x ∈ d) → gone get L ≠ []
  | [], _, ⟨x, _, h⟩ => by simp at h
  | w :: d, o, ⟨x, hx, hd⟩ => by
    by_cases h : ∃ y ∈ L, y ∈ d
    · exact gone_some d o.2 h
    · have xw : x = w := by
        rcases List.mem_cons.mp hd with z | z
        · exact z
        · exact absurd ⟨x, hx, z⟩ h
      subst xw
      intro z
      have : x ∈ gone get L := by
        refine List.mem_filter.mpr ⟨hx, List.all_eq_true.mpr fun m hm => ?_⟩
        simp only [Bool.not_eq_true', decide_eq_false_iff_not]
        exact fun ml => h ⟨m, ml, o.1 m hm⟩
      rw [z] at this
      simp at this
end M18

set_option Elab.async false
set_option linter.all false
set_option maxRecDepth 100000
set_option maxHeartbeats 4000000
namespace K18
open PySem PySem.Spec PyProof.Rows L2 Z
open Evl (Ex ex_l ex_t sq_of st_of fresh_back RetL RetV)
local macro_rules | `(tactic| walk_at "zc") => `(tactic| first
  | (show (0 : Int) < _; omega)
  | exact ⟨by decide, by decide⟩
  | exact Or.inl ⟨by decide, by decide⟩
  | exact Or.inr ⟨by decide, by decide⟩
  | exact ⟨by decide, by decide, by decide⟩
  | exact Or.inl ⟨by omega, by omega⟩
  | exact Or.inr ⟨by omega, by omega⟩)
local macro_rules | `(tactic| walk_at "sq") => `(tactic| first
  | assumption
  | exact sq_of (by assumption)
  | exact sq_of upd_same
  | exact st_of (by assumption)
  | exact st_of upd_same
  | (refine ex_l (by assumption) ?_; walk_at "sq")
  | (refine ex_t (by assumption) ?_; walk_at "sq")
  | (refine ex_l (Ex.new (by assumption)) ?_; walk_at "sq")
  | (refine ex_t (Ex.new (by assumption)) ?_; walk_at "sq"))
local macro_rules | `(tactic| walk_at "ex") => `(tactic| first
  | exact Ex.refl _
  | assumption
  | (refine Ex.trans ?_ (Ex.new (by assumption)); walk_at "ex")
  | ((refine' Ex.trans ?_ ?zx); (case zx => assumption); walk_at "ex"))
local macro_rules | `(tactic| walk_at "z1") => `(tactic| first
  | with_reducible exact trivial
  | with_reducible refine z_seq ?_
  | with_reducible refine z_asg ?_
  | with_reducible refine z_ret ?_
  | with_reducible refine z_ifs ?_
  | with_reducible refine z_op ?_
  | with_reducible refine z_c ?_
  | ((with_reducible refine' z_var ?zh ?_); (case zh => exact rfl))
  | with_reducible refine z_i0 ?_
  | with_reducible refine z_gname ?_
  | ((with_reducible refine z_i ?zh ?_); (case zh => walk_at "zc"))
  | with_reducible refine z_next ?_
  | with_reducible refine z_test ?_
  | with_reducible refine z_tB ?_
  | with_reducible refine z_bl ?_
  | ((with_reducible refine z_eq ?zh ?_); (case zh => rfl))
  | ((with_reducible refine z_ne ?zh ?_); (case zh => rfl))
  | with_reducible refine z_cons ?_
  | with_reducible refine z_nil ?_
  | with_reducible refine z_call ?_
  | with_reducible refine z_cb ?_
  | with_reducible refine z_lst ?_
  | with_reducible refine z_tup ?_
  | with_reducible refine z_un ?_
  | with_reducible refine z_u ?_
  | with_reducible refine z_if ?_
  | with_reducible refine z_andT ?_
  | with_reducible refine z_orT ?_
  | with_reducible refine z_notT ?_
  | with_reducible refine z_trub ?_
  | with_reducible refine z_trui ?_
  | with_reducible refine z_trun ?_
  | with_reducible refine z_tru ?_
  | with_reducible refine z_and ?_
  | with_reducible refine z_or ?_
  | with_reducible refine z_not ?_
  | with_reducible refine z_yes ?_
  | with_reducible refine z_isN ?_
  | with_reducible refine z_notN ?_
  | with_reducible refine z_chain ?_
  | with_reducible refine z_int1 ?_
  | with_reducible refine z_intb ?_
  | with_reducible refine z_max2 ?_
  | with_reducible refine z_min2 ?_
  | with_reducible refine z_revL ?_
  | with_reducible refine z_nopart ?_
  | with_reducible refine z_part ?_
  | with_reducible refine z_part1 ?_
  | with_reducible refine z_sl ?_
  | with_reducible refine z_drop ?_
  | with_reducible refine z_bm ?_
  | with_reducible refine z_bm0 ?_
  | with_reducible refine z_tys ?_
  | with_reducible refine z_brk ?_
  | with_reducible refine z_cont ?_
  | with_reducible refine z_retN ?_
  | with_reducible refine z_fl ?_
  | with_reducible refine z_ft ?_
  | with_reducible refine z_fs ?_
  | with_reducible refine z_fr1 ?_
  | with_reducible refine z_fr2 ?_
  | with_reducible refine z_fz ?_
  | with_reducible refine z_fe ?_
  | with_reducible refine z_cl ?_
  | with_reducible refine z_cs ?_
  | with_reducible refine z_cr1 ?_
  | with_reducible refine z_crv ?_
  | with_reducible refine z_isbl ?_
  | with_reducible refine z_notbl ?_
  | with_reducible refine ite_t ?_
  | with_reducible refine ite_f ?_
  | ((with_reducible refine' z_aug ?zh ?_); (case zh => exact rfl))
  | with_reducible refine z_ipi ?_)
local macro_rules | `(tactic| walk_at "zz") => `(tactic| repeat walk_at "z1")
open ZW M01
local macro_rules | `(tactic| walk_at "z1") => `(tactic| first
  | with_reducible refine z_fld ?_
  | with_reducible refine z_sfld ?_
  | with_reducible refine z_meth ?_
  | with_reducible refine z_make ?_
  | with_reducible refine z_par ?_
  | with_reducible refine z_gsub ?_
  | with_reducible refine z_dget ?_
  | with_reducible refine z_dget2 ?_
  | with_reducible refine z_din ?_
  | with_reducible refine z_dnotin ?_
  | with_reducible refine z_dput ?_
  | with_reducible refine z_ce ?_
  | with_reducible refine z_ces ?_
  | with_reducible refine z_fes ?_
  | with_reducible refine z_fzw ?_
  | with_reducible refine z_ct ?_
  | with_reducible refine z_fk ?_
  | with_reducible refine z_ck ?_
  | with_reducible refine z_dpop1 ?_)

def mixN (n k : Int) : Int := (n + 7919 * k * k + 31 * k + 1) * 48271 % 2147483647 * 69621 % 2147483629 / 64
theorem mixN_b (n k : Int) : 0 ≤ mixN n k ∧ mixN n k < 33554432 := by
  unfold mixN
  omega
def cellB (b k : Int) : Int := (b + 7919 * k * k + 31 * k) * 48271 % 2147483647 * 69621 % 2147483629 / 64
def cellN (ns : List Int) (k : Int) : Int := cellB (if 0 < ns.length then ns.getD (k % ns.length).toNat 0 % 2147483647 else 17) k
theorem cellN_b (ns : List Int) (k : Int) : 0 ≤ cellN ns k ∧ cellN ns k < 33554432 := by
  unfold cellN cellB
  omega
def sp_L_mixed : Sp := fun vs H Q _ => ∃ (n k : Int), vs = [.int n, .int k] ∧ (0 ≤ k ∧ k ≤ 100000) ∧ RetV (.int (mixN n k)) H Q
def sp_L_cell (K : PySem.W.Frag) : Sp := fun vs H Q _ => ∃ (a : Addr) (ns : List Int) (k : Int), vs = [.ref a, .int k] ∧ SqL K H a (ns.map V.int) ∧ (0 ≤ k ∧ k ≤ 100000) ∧ RetV (.int (cellN ns k)) H Q
def sp_L_names (K : PySem.W.Frag) : Sp := fun vs H Q _ => ∃ (n : Int), vs = [.int n] ∧ (0 ≤ n ∧ n < 33554432) ∧ ∀ zs : List Str, zs.length = 16 → (∀ z ∈ zs, okT z 20) → RetL (zs.map V.str) H Q
abbrev Web : Type := List (Str × List Str)
def getW (g : Web) (n : Str) : List Str := ((g.find? fun p => decide (p.1 = n)).map (·.2)).getD []
/-- a web in a dict: names to lists of names -/
def WebKV (K : PySem.W.Frag) (H : Hp) (kvs : List (Key × V)) (g : Web) : Prop := Paired (fun (kv : Key × V) (p : Str × List Str) => kv.1 = Sum.inr p.1 ∧ ∃ l, kv.2 = .ref l ∧ SqL K H l (p.2.map V.str)) kvs g
def WebAt (K : PySem.W.Frag) (H : Hp) (a : Addr) (g : Web) : Prop := ∃ kvs, Rd H a (.dK kvs) ∧ WebKV K H kvs g
def okW (g : Web) : Prop := (∀ p ∈ g, okT p.1 30 ∧ p.2.length ≤ 4 ∧ ∀ z ∈ p.2, okT z 30) ∧ g.length ≤ 40 ∧ (g.map (·.1)).Nodup
def sp_L_is_ring (K : PySem.W.Frag) : Sp := fun vs H Q _ => ∃ (p a : Addr) (r : List Str) (g : Web), vs = [.ref p, .ref a] ∧ SqL K H p (r.map V.str) ∧ WebAt K H a g ∧ (∀ z ∈ r, okT z 30) ∧ r.length ≤ 100 ∧ M18.IsRing (getW g) r ∧ RetV (.bl true) H Q
theorem web_hk (g : Web) : ∀ n, n ∉ g.map (·.1) → getW g n = [] := fun n hn => by
  unfold getW
  have : g.find? (fun p => decide (p.1 = n)) = none := List.find?_eq_none.mpr fun p hp z => hn (List.mem_map.mpr ⟨p, hp, of_decide_eq_true z⟩)
  rw [this] <;> rfl
/-- what is done, as keys of a dict -/
def Dn (dk : List (Key × V)) (ds : List Str) : Prop := ∀ n : Str, (valV dk (Sum.inr n)).isSome = decide (n ∈ ds)
abbrev rFrom (g : Web) (n : Str) (ds : List Str) : Option (List Str) × List Str := M18.ringFrom (getW g) (g.map (·.1)) (web_hk g) n ds
def RetRing (r : Option (List Str)) (H : Hp) (Q : VK) : Prop := match r with
  | none => Q .non H
  | some x => ∀ p H2, H p = none → Ex H H2 → H2 p = some (.lst (x.map V.str)) → Q (.ref p) H2
def sp_p_ring_from (K : PySem.W.Frag) : Sp := fun vs H Q _ => ∃ (s : Str) (a d : Addr) (g : Web) (kvs dk : List (Key × V)) (ds : List Str), vs = [.str s, .ref a, .ref d] ∧ Rd H a (.dK kvs) ∧ WebKV K H kvs g ∧ ((∀ p ∈ g, p.2.length ≤ 4) ∧ g.length ≤ 40) ∧ a ≠ d ∧ H d = some (.dK dk) ∧ Dn dk ds ∧ dk.length ≤ 50000 ∧ ∀ H' dk', But [d] H H' → H' d = some (.dK dk') → Dn dk' (rFrom g s ds).2 → dk'.length ≤ dk.length + 400 → RetRing (rFrom g s ds).1 H' Q
abbrev ringAll (g : Web) : Option (List Str) := M18.ringL (getW g) (g.map (·.1)) (web_hk g) (g.map (·.1)) []
def RetRO (r : Option (List Str)) (H : Hp) (Q : VK) : Prop := match r with
  | none => RetV .non H Q
  | some x => RetL (x.map V.str) H Q
def sp_ring_in (K : PySem.W.Frag) : Sp := fun vs H Q _ => ∃ (a : Addr) (g : Web) (kvs : List (Key × V)), vs = [.ref a] ∧ H a = some (.dK kvs) ∧ WebKV K H kvs g ∧ ((∀ p ∈ g, p.2.length ≤ 4) ∧ g.length ≤ 40) ∧ RetRO (ringAll g) H Q
def sp_L_has_ring (K : PySem.W.Frag) : Sp := fun vs H Q _ => ∃ (a : Addr) (g : Web) (kvs : List (Key × V)), vs = [.ref a] ∧ Rd H a (.dK kvs) ∧ WebKV K H kvs g ∧ okW g ∧ ∀ b : Bool, (∀ r, M18.IsRing (getW g) r → b = true) → (∀ d, M18.Ord (getW g) d → (∀ x ∈ g.map (·.1), x ∈ d) → b = false) → RetV (.bl b) H Q
def RetWeb (K : PySem.W.Frag) (g : Web) (H : Hp) (Q : VK) : Prop := ∀ p kvs H2, H p = none → Ex H H2 → H2 p = some (.dK kvs) → WebKV K H2 kvs g → Q (.ref p) H2
def sp_L_web (K : PySem.W.Frag) : Sp := fun vs H Q _ => ∃ (a : Addr) (ns : List Int), vs = [.ref a] ∧ (SqL K H a (ns.map V.int) ∧ ns.length ≤ 63) ∧ ∀ g, okW g → RetWeb K g H Q
def sp_law (K : PySem.W.Frag) : Sp := fun vs H Q _ => ∃ (a : Addr) (ns : List Int), vs = [.ref a] ∧ SqL K H a (ns.map V.int) ∧ ns.length ≤ 63 ∧ RetV (.bl true) H Q

theorem len_L_mixed : ∀ vs H Q E, sp_L_mixed vs H Q E → vs.length = 2 := by
  intro vs H Q E h
  obtain ⟨_, _, rfl, _⟩ := h
  rfl
theorem len_L_names {K : PySem.W.Frag} : ∀ vs H Q E, sp_L_names K vs H Q E → vs.length = 1 := by
  intro vs H Q E h
  obtain ⟨_, rfl, _⟩ := h
  rfl
theorem len_L_cell {K : PySem.W.Frag} : ∀ vs H Q E, sp_L_cell K vs H Q E → vs.length = 2 := by
  intro vs H Q E h
  obtain ⟨_, _, _, rfl, _⟩ := h
  rfl
theorem len_L_web {K : PySem.W.Frag} : ∀ vs H Q E, sp_L_web K vs H Q E → vs.length = 1 := by
  intro vs H Q E h
  obtain ⟨_, _, rfl, _⟩ := h
  rfl
theorem len_L_has_ring {K : PySem.W.Frag} : ∀ vs H Q E, sp_L_has_ring K vs H Q E → vs.length = 1 := by
  intro vs H Q E h
  obtain ⟨_, _, _, rfl, _⟩ := h
  rfl
theorem len_p_ring_from {K : PySem.W.Frag} : ∀ vs H Q E, sp_p_ring_from K vs H Q E → vs.length = 3 := by
  intro vs H Q E h
  obtain ⟨_, _, _, _, _, _, _, rfl, _⟩ := h
  rfl
theorem len_ring_in {K : PySem.W.Frag} : ∀ vs H Q E, sp_ring_in K vs H Q E → vs.length = 1 := by
  intro vs H Q E h
  obtain ⟨_, _, _, rfl, _⟩ := h
  rfl
theorem len_L_is_ring {K : PySem.W.Frag} : ∀ vs H Q E, sp_L_is_ring K vs H Q E → vs.length = 2 := by
  intro vs H Q E h
  obtain ⟨_, _, _, _, rfl, _⟩ := h
  rfl
theorem len_law {K : PySem.W.Frag} : ∀ vs H Q E, sp_law K vs H Q E → vs.length = 1 := by
  intro vs H Q E h
  obtain ⟨_, _, rfl, _⟩ := h
  rfl

/-- L_mixed -/
def rd_L_mixed : TS :=
  (tRet (tOp rDivI (tOp rModI (tOp rMulI (tOp rModI (tOp rMulI (tOp rAddI (tOp rAddI (tOp rAddI (tVar 0) (tOp rMulI (tOp rMulI (tC (.int 7919)) (tVar 1)) (tVar 1))) (tOp rMulI (tC (.int 31)) (tVar 1))) (tC (.int 1))) (tC (.int 48271))) (tC (.int 2147483647))) (tC (.int 69621))) (tC (.int 2147483629))) (tC (.int 64))))


/-- L_names -/
def rd_L_names (K : PySem.W.Frag) : TS :=
  (tSeq (tAsg (tC (.str "abcdefghijklmnopqrstuvwxyz")) (gName 1))
    (tSeq (tAsg (tBM K "str" (rJoin K) (tC (.str "")) (tCons (tLc (iRng1 (tCons (tC (.int 8)) tNil)) (gName 11) tYes (tOp rIxS (tVar 1) (tOp rModI (tCall sp_L_mixed [] E0 (tCons (tVar 0) (tCons (tVar 11) tNil))) (tC (.int 26)))) [11]) tNil)) (gName 2))
    (Evl.tCut (tIfS (tTest (tOp rLtI (tOp rModI (tVar 0) (tC (.int 4))) (tC (.int 2)))) (tSeq (tAsg (tOp rAddI (tC (.int 2)) (tOp rModI (tOp rDivI (tVar 0) (tC (.int 4))) (tC (.int 7)))) (gName 3))
    (tSeq (tAsg (tOp rModI (tOp rDivI (tVar 0) (tC (.int 32))) (tVar 3)) (gName 4))
    (Evl.tCut (tAsg (tIf (tTest (tOp rEq (tVar 4) (tC (.int 0)))) (tVar 1) (tOp rAddStr (tVar 1) (tC (.str "0123456789")))) (gName 5))
    (tSeq (tAsg (tLc (iRng1 (tCons (tC (.int 16)) tNil)) (gName 12) tYes (tOp rIxS (tVar 5) (tOp rModI (tOp rAddI (tOp rDivI (tVar 0) (tC (.int 256))) (tOp rMulI (tC (.int 5)) (tVar 12))) (tCB cLenStr (tCons (tVar 5) tNil)))) [12]) (gName 6))
    (tAsg (tLc (iList K (tVar 6)) (gName 13) tYes (tOp rAddStr (tOp rAddStr (tSl rSlS (tVar 2) tNoPart (tPart (tVar 4))) (tVar 13)) (tSl rSlS (tVar 2) (tPart (tOp rAddI (tVar 4) (tC (.int 1)))) (tPart (tVar 3)))) [13]) (gName 7))))))
    (tIfS (tTest (tOp rEq (tOp rModI (tVar 0) (tC (.int 4))) (tC (.int 2)))) (tSeq (tAsg (tOp rAddI (tOp rAddI (tBM K "str" rIndexS (tVar 1) (tCons (tOp rIxS (tVar 2) (tC (.int 0))) tNil)) (tC (.int 1))) (tOp rModI (tOp rDivI (tVar 0) (tC (.int 4))) (tC (.int 25)))) (gName 8))
    (tSeq (tAsg (tOp rAddStr (tOp rIxS (tVar 1) (tOp rModI (tVar 8) (tC (.int 26)))) (tSl rSlS (tVar 2) (tPart (tC (.int 1))) tNoPart)) (gName 9))
    (tSeq (tAsg (tLc (iRng1 (tCons (tC (.int 8)) tNil)) (gName 12) tYes (tSl rSlS (tVar 2) tNoPart (tPart (tOp rAddI (tVar 12) (tC (.int 1))))) [12]) (gName 7))
    (tAsg (tOp rCat (tVar 7) (tLc (iRng1 (tCons (tC (.int 8)) tNil)) (gName 12) tYes (tSl rSlS (tVar 9) tNoPart (tPart (tOp rAddI (tVar 12) (tC (.int 1))))) [12])) (gName 7)))))
    (tAsg (tLc (iRng1 (tCons (tC (.int 16)) tNil)) (gName 12) tYes (tOp rIxS (tVar 1) (tOp rModI (tOp rAddI (tOp rDivI (tVar 0) (tC (.int 4))) (tOp rMulI (tC (.int 7)) (tVar 12))) (tC (.int 26)))) [12]) (gName 7))))
    (tSeq (tAsg (tBM K "str" rSplit (tC (.str "part in out wire rest let use table memory if then else cut join fill")) (tCons (tC (.str " ")) tNil)) (gName 10))
    (tSeq (tIfS (tTest (tOp (rNeD K) (tLc (iList K (tVar 7)) (gName 14) (tTest (tOp (rIn K false) (tVar 14) (tVar 10))) (tVar 14) [14]) (tLst tNil))) (tRet (tLc (iRng1 (tCons (tC (.int 16)) tNil)) (gName 12) tYes (tOp rAddStr (tC (.str "q")) (tOp rIxS (tVar 1) (tVar 12))) [12]))
    tNext)
    (tRet (tVar 7)))))))


/-- L_cell -/
def rd_L_cell (K : PySem.W.Frag) : TS :=
  (tSeq (tAsg (tC (.int 17)) (gName 2))
    (tSeq (tIfS (tTest (tOp rGtI (tCB (cLenSeq K) (tCons (tVar 0) tNil)) (tC (.int 0)))) (tAsg (tOp rModI (tOp (rIxL K) (tVar 0) (tOp rModI (tVar 1) (tCB (cLenSeq K) (tCons (tVar 0) tNil)))) (tC (.int 2147483647))) (gName 2))
    tNext)
    (tRet (tOp rDivI (tOp rModI (tOp rMulI (tOp rModI (tOp rMulI (tOp rAddI (tOp rAddI (tVar 2) (tOp rMulI (tOp rMulI (tC (.int 7919)) (tVar 1)) (tVar 1))) (tOp rMulI (tC (.int 31)) (tVar 1))) (tC (.int 48271))) (tC (.int 2147483647))) (tC (.int 69621))) (tC (.int 2147483629))) (tC (.int 64))))))


/-- L_web -/
def rd_L_web (K : PySem.W.Frag) : TS :=
  (tSeq (tAsg (tCall (sp_L_names K) [] E0 (tCons (tCall (sp_L_cell K) [] E0 (tCons (tVar 0) (tCons (tC (.int 0)) tNil))) tNil)) (gName 1))
    (tSeq (tAsg (tOp rCat (tOp rCat (tVar 1) (tLc (iList K (tVar 1)) (gName 12) tYes (tOp rAddStr (tVar 12) (tC (.str ".a"))) [12])) (tLc (iList K (tSl (rSlL K) (tVar 1) tNoPart (tPart (tC (.int 8))))) (gName 12) tYes (tOp rAddStr (tVar 12) (tC (.str ".b.c"))) [12])) (gName 1))
    (tSeq (tAsg (tCB cMax2 (tCons (tC (.int 1)) (tCons (tCB cMin2 (tCons (tC (.int 40)) (tCons (tCB (cLenSeq K) (tCons (tVar 0) tNil)) tNil))) tNil))) (gName 2))
    (tSeq (tAsg (tOp (rIxL K) (tLst (tCons (tC (.int 1)) (tCons (tC (.int 60)) (tCons (tC (.int 12)) (tCons (tC (.int 1)) tNil))))) (tOp rModI (tCall (sp_L_cell K) [] E0 (tCons (tVar 0) (tCons (tC (.int 50)) tNil))) (tC (.int 4)))) (gName 3))
    (tSeq (tAsg tDNewK (gName 4))
    (tSeq (tFor (iRng1 (tCons (tVar 2) tNil)) (gName 5) (tSeq (tAsg (tCall (sp_L_cell K) [] E0 (tCons (tVar 0) (tCons (tVar 5) tNil))) (gName 6))
    (tSeq (tAsg (tLst tNil) (gName 7))
    (tSeq (tFor (iRng1 (tCons (tOp (rIxL K) (tLst (tCons (tC (.int 0)) (tCons (tC (.int 1)) (tCons (tC (.int 2)) (tCons (tC (.int 2)) (tCons (tC (.int 3)) (tCons (tC (.int 4)) tNil))))))) (tOp rModI (tVar 6) (tC (.int 6)))) tNil)) (gName 8) (tSeq (tAsg (tCall sp_L_mixed [] E0 (tCons (tVar 6) (tCons (tOp rAddI (tVar 8) (tVar 5)) tNil))) (gName 9))
    (tIfS (tTest (tOp rEq (tOp rModI (tVar 9) (tC (.int 17))) (tC (.int 3)))) (tDrop (tBM K "list" rAppend (tVar 7) (tCons (tOp rAddStr (tOp rAddStr (tC (.str "none")) (tOp rIxS (tC (.str "abc")) (tOp rModI (tOp rDivI (tVar 9) (tC (.int 17))) (tC (.int 3))))) (tC (.str ".z"))) tNil)))
    (tIfS (tAnd (tTest (tOp rGtI (tVar 5) (tC (.int 0)))) (tOr (tTest (tOp rEq (tVar 3) (tC (.int 1)))) (tTest (tOp rGtI (tOp rModI (tVar 9) (tVar 3)) (tC (.int 0)))))) (tDrop (tBM K "list" rAppend (tVar 7) (tCons (tOp (rIxL K) (tVar 1) (tOp rModI (tOp rDivI (tVar 9) (tC (.int 60))) (tVar 5))) tNil)))
    (tDrop (tBM K "list" rAppend (tVar 7) (tCons (tOp (rIxL K) (tVar 1) (tOp rModI (tOp rDivI (tVar 9) (tC (.int 60))) (tVar 2))) tNil)))))))
    (sDPut (tVar 4) (tOp (rIxL K) (tVar 1) (tVar 5)) (tVar 7))))))
    (tSeq (tAsg (tOp rModI (tCall (sp_L_cell K) [] E0 (tCons (tVar 0) (tCons (tC (.int 51)) tNil))) (tVar 2)) (gName 10))
    (tSeq (tAsg (tOp rCat (tSl (rSlL K) (tCB cListD (tCons (tVar 4) tNil)) (tPart (tVar 10)) tNoPart) (tSl (rSlL K) (tCB cListD (tCons (tVar 4) tNil)) tNoPart (tPart (tVar 10)))) (gName 11))
    (tRet (tCB (cDictP K) (tCons (tLc (iList K (tVar 11)) (gName 12) tYes (tTup (tCons (tVar 12) (tCons (tDGet (tVar 4) (tVar 12)) tNil))) [12]) tNil)))))))))))


/-- L_has_ring -/
def rd_L_has_ring (K : PySem.W.Frag) : TS :=
  (tSeq (tAsg (tCB cDictD (tCons (tVar 0) tNil)) (gName 1))
    (tSeq (tAsg (tC (.bl true)) (gName 2))
    (tSeq (tWhile (tTru K (tVar 2)) (tSeq (tLock (tAsg (tLc (iKeys (tVar 1)) (gName 4) (tTest (tOp (rEqD K) (tLc (iList K (tDGet (tVar 1) (tVar 4))) (gName 5) (tB (tDIn (tVar 5) (tVar 1))) (tVar 5) [5]) (tLst tNil))) (tVar 4) [4]) (gName 3)))
    (tSeq (tFor (iList K (tVar 3)) (gName 4) (tDrop (tDPop1 (tVar 1) (tVar 4))))
    (tAsg (tOp (rNeD K) (tVar 3) (tLst tNil)) (gName 2)))))
    (tRet (tOp rNeD0 (tVar 1) tDNewK)))))


/-- p_ring_from -/
def rd_p_ring_from (K : PySem.W.Frag) : TS :=
  (tSeq (tAsg (tLst tNil) (gName 3))
    (tSeq (tAsg tDNewK (gName 4))
    (tSeq (tAsg (tLst (tCons (tLst (tCons (tVar 0) tNil)) tNil)) (gName 5))
    (tSeq (tWhile (tTru K (tVar 5)) (tSeq (tIfS (tNot (tTru K (tOp (rIxL K) (tVar 5) (tUn rNegI (tC (.int 1)))))) (tSeq (tDrop (tBM0 K "list" rPop (tVar 5)))
    (tSeq (tIfS (tTru K (tVar 3)) (sDPut (tVar 2) (tBM0 K "list" rPop (tVar 3)) (tC (.bl true)))
    tNext)
    tCont))
    tNext)
    (tSeq (tAsg (tBM0 K "list" rPop (tOp (rIxL K) (tVar 5) (tUn rNegI (tC (.int 1))))) (gName 6))
    (tSeq (tIfS (tB (tDIn (tVar 6) (tVar 2))) tCont
    tNext)
    (tSeq (tIfS (tB (tDIn (tVar 6) (tVar 4))) (tRet (tSl (rSlL K) (tVar 3) (tPart (tDGet (tVar 4) (tVar 6))) tNoPart))
    tNext)
    (tSeq (sDPut (tVar 4) (tVar 6) (tCB (cLenSeq K) (tCons (tVar 3) tNil)))
    (tSeq (tDrop (tBM K "list" rAppend (tVar 3) (tCons (tVar 6) tNil)))
    (tDrop (tBM K "list" rAppend (tVar 5) (tCons (tRevOf K (tDGet2 (tVar 1) (tVar 6) (tLst tNil))) tNil))))))))))
    (tRet (tC .non))))))


/-- ring_in -/
def rd_ring_in (K : PySem.W.Frag) : TS :=
  (tSeq (tAsg tDNewK (gName 1))
    (tSeq (tLock (tFor (iKeys (tVar 0)) (gName 2) (tSeq (tAsg (tCall (sp_p_ring_from K) [] E0 (tCons (tVar 2) (tCons (tVar 0) (tCons (tVar 1) tNil)))) (gName 3))
    (tIfS (tB (tNotN (tVar 3))) (tRet (tVar 3))
    tNext))))
    (tRet (tC .non))))


/-- L_is_ring -/
def rd_L_is_ring (K : PySem.W.Frag) : TS :=
  (tSeq (tIfS (tOr (tNot (tTru K (tCB (rIsi K) (tCons (tVar 0) (tCons (tC (.ty "list")) tNil))))) (tTest (tOp (rEqD K) (tVar 0) (tLst tNil)))) (tRet (tC (.bl false)))
    tNext)
    (tSeq (tIfS (tTest (tOp (rNeD K) (tLc (iEnum K (tCons (tVar 0) tNil)) (gTup K 2 (gCons (gName 4) (gCons (gName 2) gNil))) (tTest (tOp (rIn K false) (tVar 2) (tSl (rSlL K) (tVar 0) tNoPart (tPart (tVar 4))))) (tVar 2) [4, 2]) (tLst tNil))) (tRet (tC (.bl false)))
    tNext)
    (tSeq (tFor (iZip K (tCons (tVar 0) (tCons (tOp rCat (tSl (rSlL K) (tVar 0) (tPart (tC (.int 1))) tNoPart) (tSl (rSlL K) (tVar 0) tNoPart (tPart (tC (.int 1))))) tNil))) (gTup K 2 (gCons (gName 2) (gCons (gName 3) gNil))) (tIfS (tOr (tB (tDNotIn (tVar 2) (tVar 1))) (tTest (tOp (rIn K true) (tVar 3) (tDGet (tVar 1) (tVar 2))))) (tRet (tC (.bl false)))
    tNext))
    (tRet (tC (.bl true))))))


/-- law -/
def rd_law (K : PySem.W.Frag) : TS :=
  (tSeq (tAsg (tCall (sp_L_web K) [] E0 (tCons (tVar 0) tNil)) (gName 1))
    (tSeq (tAsg (tCB (rReprK K) (tCons (tVar 1) tNil)) (gName 2))
    (tSeq (tAsg (tCall (sp_L_has_ring K) [] E0 (tCons (tVar 1) tNil)) (gName 3))
    (tSeq (tAsg (tCall (sp_ring_in K) [] E0 (tCons (tVar 1) tNil)) (gName 4))
    (tSeq (tAsg (tCall (sp_ring_in K) [] E0 (tCons (tCB (cDictP K) (tCons (tRevL K (tLockE (tLc (iKeys (tVar 1)) (gName 7) tYes (tTup (tCons (tVar 7) (tCons (tRevL K (tDGet (tVar 1) (tVar 7))) tNil))) [7]))) tNil)) tNil)) (gName 5))
    (tSeq (tIfS (tNot (tTru K (tVar 3))) (tRet (tAndT K (tIsN (tVar 4)) (tAndT K (tIsN (tVar 5)) (tOp rEq (tCB (rReprK K) (tCons (tVar 1) tNil)) (tVar 2)))))
    tNext)
    (tSeq (tIfS (tOr (tNot (tTru K (tCall (sp_L_is_ring K) [] E0 (tCons (tVar 4) (tCons (tVar 1) tNil))))) (tNot (tTru K (tCall (sp_L_is_ring K) [] E0 (tCons (tVar 5) (tCons (tVar 1) tNil)))))) (tRet (tC (.bl false)))
    tNext)
    (tSeq (tAsg (tCB (cListOf K) (tCons (tVar 4) tNil)) (gName 6))
    (tSeq (tDrop (tBM K "list" rAppend (tVar 4) (tCons (tC (.str "more")) tNil)))
    (tRet (tAndT K (tOp (rEqD K) (tCall (sp_ring_in K) [] E0 (tCons (tVar 1) tNil)) (tVar 6)) (tOp rEq (tCB (rReprK K) (tCons (tVar 1) tNil)) (tVar 2)))))))))))))

section
variable {K : PySem.W.Frag} {w : World}
theorem vr_L_mixed (vs H Q E) (h : sp_L_mixed vs H Q E) : rd_L_mixed { nx := fun _ H' => Q .non H', rt := Q } (start ["_law_number", "_law_k"] vs) H := by
  obtain ⟨n, k, rfl, hk, q⟩ := h
  unfold rd_L_mixed
  walk_at "zz"
  exact RetV.go q (Ex.refl H)
def letL : List Nat := (List.range 26).map (· + 97)
theorem let_str : (Str.ofString "abcdefghijklmnopqrstuvwxyz" : Str) = S letL := by decide +kernel
theorem let_ok : okT (Str.ofString "abcdefghijklmnopqrstuvwxyz") 26 := okT.of _ (by decide +kernel)
/-- the sign at a place, by rests -/
def sg (z : Str) (i : Int) : Nat := (atI z.cps.toList (i % z.length)).getD 0
theorem sg_at {z : Str} (h : 0 < z.length) (i : Int) : atI z.cps.toList (i % z.length) = some (sg z i) ∧ sg z i ∈ z.cps.toList := by
  have e : z.cps.toList.length = z.length := Array.length_toList
  obtain ⟨c, h1, h2⟩ := at_some (l := z.cps.toList) (i := i % z.length) (Int.emod_nonneg _ (by omega)) (by rw [e]; exact Int.emod_lt_of_pos _ (by omega))
  unfold sg
  rw [h1]
  exact ⟨rfl, h2⟩
theorem let26 : (Str.ofString "abcdefghijklmnopqrstuvwxyz" : Str).length = 26 := by decide +kernel
theorem let_at (i : Int) : atI (Str.ofString "abcdefghijklmnopqrstuvwxyz" : Str).cps.toList (i % 26) = some (sg (Str.ofString "abcdefghijklmnopqrstuvwxyz") i) ∧ sg (Str.ofString "abcdefghijklmnopqrstuvwxyz") i ∈ (Str.ofString "abcdefghijklmnopqrstuvwxyz" : Str).cps.toList := by
  have := sg_at (z := Str.ofString "abcdefghijklmnopqrstuvwxyz") (by rw [let26]; decide) i
  rw [let26] at this
  exact this
theorem let_occ : ∀ i ∈ List.range 26, Builtin.Str.occurrences (Str.ofString "abcdefghijklmnopqrstuvwxyz") ⟨#[i + 97]⟩ 0 (Str.ofString "abcdefghijklmnopqrstuvwxyz" : Str).length 1 = [i] := by decide +kernel
theorem let_mem {c : Nat} (h : c ∈ (Str.ofString "abcdefghijklmnopqrstuvwxyz" : Str).cps.toList) : ∃ i, i < 26 ∧ c = i + 97 := by
  rw [let_str, S_tl] at h
  obtain ⟨i, hi, rfl⟩ := List.mem_map.mp h
  exact ⟨i, List.mem_range.mp hi, rfl⟩
theorem given_strs (zs : List Str) (f : Nat → Bool) : ∃ zs' : List Str, Evl.given zs.length f (fun i => (zs.map V.str).getD i .non) = zs'.map V.str ∧ ∀ z ∈ zs', z ∈ zs := by
  refine ⟨((List.range zs.length).filter f).map fun i => zs.getD i ⟨#[]⟩, ?_, fun z hz => ?_⟩
  · unfold Evl.given
    rw [List.map_map]
    refine List.map_congr_left fun i hi => ?_
    have hl : i < zs.length := List.mem_range.mp (List.mem_filter.mp hi).1
    simp [hl]
  · obtain ⟨i, hi, rfl⟩ := List.mem_map.mp hz
    have hl : i < zs.length := List.mem_range.mp (List.mem_filter.mp hi).1
    rw [List.getD_eq_getElem?_getD, List.getElem?_eq_getElem hl]
    exact List.getElem_mem hl
theorem strs_flat (zs : List Str) : (zs.map V.str).all flatV = true := by
  rw [List.all_map]
  exact List.all_eq_true.mpr fun _ _ => rfl
theorem told_split : (Txt.split (Str.ofString "part in out wire rest let use table memory if then else cut join fill") (Str.ofString " ")) = M03.toldL.map S := by decide +kernel
theorem vr_L_names (vs H Q E) (h : sp_L_names K vs H Q E) : (rd_L_names K) { nx := fun _ H' => Q .non H', rt := Q } (start ["_law_number", "_law_letters", "_law_base", "_law_size", "_law_at", "_law_signs", "_law_some", "_law_found", "_law_first", "_law_other", "_law_told", "_law_j", "_law_k", "_law_sign", "_law_name"] vs) H := by
  obtain ⟨n, rfl, hn, q⟩ := h
  unfold rd_L_names
  refine z_seq (z_asg (z_c (z_gname ?_)))
  refine z_seq ?_
  walk_at "zz"
  refine z_CR1 ⟨by decide, by decide⟩ (fun _ => true) (fun k => .str ⟨#[sg (Str.ofString "abcdefghijklmnopqrstuvwxyz") (mixN n k)]⟩) (fun _ => rfl) (fun i H' hi e => fun H2 e2 Q' q' => q' _ (Ex.refl _)) (fun i H' hi e _ => fun H2 e2 Q' q' => ?_) (fun p H1 hp e1 h1 => ?_)
  · walk_at "zz"
    refine ⟨n, i, rfl, ⟨by omega, by omega⟩, fun H3 e3 => ?_⟩
    walk_at "zz"
    refine z_ixS (szl (by decide +kernel)) (let_at _).1 ?_
    exact q' _ e3
  rw [given_all] at h1
  walk_at "zz"
  refine z_join1 (n := 8) (f := fun k => sg (Str.ofString "abcdefghijklmnopqrstuvwxyz") (mixN n k)) h1 (by decide) ?_
  have okB : okT (S ((List.range 8).map fun k : Nat => sg (Str.ofString "abcdefghijklmnopqrstuvwxyz") (mixN n k))) 8 := by
    refine okT.S (by simp) fun c hc => ?_
    obtain ⟨k, _, rfl⟩ := List.mem_map.mp hc
    exact let_ok.2 _ (let_at _).2
  have headB : ∃ i r, i < 26 ∧ (S ((List.range 8).map fun k : Nat => sg (Str.ofString "abcdefghijklmnopqrstuvwxyz") (mixN n k))).cps.toList = (i + 97) :: r := by
    obtain ⟨i, hi, e⟩ := let_mem (let_at (mixN n (0 : Nat))).2
    refine ⟨i, ((List.range 8).map fun k : Nat => sg (Str.ofString "abcdefghijklmnopqrstuvwxyz") (mixN n k)).tail, hi, ?_⟩
    rw [S_tl, ← e]
    rfl
  generalize S ((List.range 8).map fun k : Nat => sg (Str.ofString "abcdefghijklmnopqrstuvwxyz") (mixN n k)) = B at okB headB ⊢
  refine z_gname ?_
  refine z_cut (fun σ' H' => ∃ (y3 y4 y5 y6 y8 y9 y10 y11 y12 y13 y14 : Option V) (p : Addr) (zs : List Str), σ' = [some (.int n), some (.str (Str.ofString "abcdefghijklmnopqrstuvwxyz")), some (.str B), y3, y4, y5, y6, some (.ref p), y8, y9, y10, y11, y12, y13, y14] ∧ Ex H H' ∧ H p = none ∧ H' p = some (.lst (zs.map V.str)) ∧ zs.length = 16 ∧ ∀ z ∈ zs, okT z 20) ?_ (fun σ' H' hm => ?_)
  · walk_at "zz"
    refine ite_b (fun _ => ?_) (fun _ => ?_)
    · walk_at "zz"
      generalize hat : n / 32 % (2 + n / 4 % 7) = at_
      refine z_cut (fun σ' H' => ∃ z, okT z 36 ∧ 0 < z.length ∧ σ' = [some (.int n), some (.str (Str.ofString "abcdefghijklmnopqrstuvwxyz")), some (.str B), some (.int (2 + n / 4 % 7)), some (.int at_), some (.str z), none, none, none, none, none, none, none, none, none] ∧ H' = H1) ?_ (fun σ' H' hm => ?_)
      · walk_at "zz"
        refine ite_b (fun _ => ?_) (fun _ => ?_)
        · walk_at "zz"
          exact ⟨_, let_ok.mono (by decide), by rw [let26]; decide, rfl, rfl⟩
        · walk_at "zz"
          refine z_addS (szl (by decide +kernel)) ?_
          walk_at "zz"
          exact ⟨_, let_ok.app (okT.of "0123456789" (n := 10) (by decide +kernel)), by rw [txt_app_len, let26]; omega, rfl, rfl⟩
      obtain ⟨z, okz, z0, rfl, rfl⟩ := hm
      walk_at "zz"
      refine z_CR1 ⟨by decide, by decide⟩ (fun _ => true) (fun k => .str ⟨#[sg z (n / 256 + 5 * (k : Int))]⟩) (fun _ => rfl) (fun i H4 hi e4 => fun H5 e5 Q' q' => q' _ (Ex.refl _)) (fun i H4 hi e4 _ => fun H5 e5 Q' q' => ?_) (fun p2 H4 hp2 e4 h4 => ?_)
      · walk_at "zz"
        refine z_lenS (okz.sz (by decide)) ?_
        refine z_i (show (0 : Int) < _ by omega) ?_
        refine z_ixS (okz.sz (by decide)) (sg_at z0 _).1 ?_
        exact q' _ (Ex.refl _)
      rw [given_all, show ((16 : Int).toNat) = 16 from rfl] at h4
      walk_at "zz"
      refine z_CL (xs := (List.range 16).map fun k : Nat => V.str ⟨#[sg z (n / 256 + 5 * (k : Int))]⟩) (sq_of h4) (by simp) (fun _ => true) (fun k => .str (cutS B none (some at_) ++ ⟨#[sg z (n / 256 + 5 * (k : Int))]⟩ ++ cutS B (some (at_ + 1)) (some (2 + n / 4 % 7)))) (fun _ => rfl) (fun i x H5 hi hx e5 => fun H6 e6 Q' q' => q' _ (Ex.refl _)) (fun i x H5 hi hx e5 _ => fun H6 e6 Q' q' => ?_) (fun p3 H5 hp3 e5 h5 => ?_)
      · have hi' : i < 16 := by simpa using hi
        rw [List.getElem?_map, List.getElem?_range hi'] at hx
        obtain rfl := Option.some.inj hx
        have o1 := (okB.cut none (some at_)).app (okT.one okz (sg_at z0 (n / 256 + 5 * (i : Int))).2)
        have o2 := o1.app (okB.cut (some (at_ + 1)) (some (2 + n / 4 % 7)))
        walk_at "zz"
        refine z_slS (okB.sz (by decide)) ?_
        walk_at "zz"
        refine z_addS (by rw [← txt_app_len]; exact o1.sz (by decide)) ?_
        walk_at "zz"
        refine z_slS (okB.sz (by decide)) ?_
        refine z_addS (by rw [← txt_app_len]; exact o2.sz (by decide)) ?_
        exact q' _ (Ex.refl _)
      rw [given_all, List.length_map, List.length_range, show (fun k : Nat => V.str (cutS B none (some at_) ++ ⟨#[sg z (n / 256 + 5 * (k : Int))]⟩ ++ cutS B (some (at_ + 1)) (some (2 + n / 4 % 7)))) = V.str ∘ (fun k : Nat => cutS B none (some at_) ++ ⟨#[sg z (n / 256 + 5 * (k : Int))]⟩ ++ cutS B (some (at_ + 1)) (some (2 + n / 4 % 7))) from rfl, ← List.map_map] at h5
      walk_at "zz"
      refine ⟨_, _, _, _, _, _, _, _, _, _, _, p3, _, rfl, (e1.trans e4).trans e5, fresh_back (e1.trans e4) hp3, h5, by simp, fun u hu => ?_⟩
      obtain ⟨k, _, rfl⟩ := List.mem_map.mp hu
      exact (((okB.cut none (some at_)).app (okT.one okz (sg_at z0 (n / 256 + 5 * (k : Int))).2)).app (okB.cut (some (at_ + 1)) (some (2 + n / 4 % 7)))).mono (by decide)
    · walk_at "zz"
      refine ite_b (fun _ => ?_) (fun _ => ?_)
      · obtain ⟨i0, r0, hi0, hB⟩ := headB
        walk_at "zz"
        refine z_ixS (c := i0 + 97) (okB.sz (by decide)) (show atI _ ((0 : Nat) : Int) = _ from atI_nat (by rw [hB] <;> rfl)) ?_
        walk_at "zz"
        refine ⟨_, _, i0, [], rfl, rfl, let_occ i0 (List.mem_range.mpr hi0), ?_⟩
        walk_at "zz"
        refine z_ixS (szl (by decide +kernel)) (let_at _).1 ?_
        walk_at "zz"
        refine z_slS (okB.sz (by decide)) ?_
        have oA := (okT.one let_ok (let_at ((i0 : Int) + 1 + n / 4 % 25)).2).app (okB.cut (some 1) none)
        refine z_addS (by rw [← txt_app_len]; exact oA.sz (by decide)) ?_
        generalize (⟨#[sg (Str.ofString "abcdefghijklmnopqrstuvwxyz") ((i0 : Int) + 1 + n / 4 % 25)]⟩ : Str) ++ cutS B (some 1) none = A at oA ⊢
        walk_at "zz"
        refine z_CR1 ⟨by decide, by decide⟩ (fun _ => true) (fun k => .str (cutS B none (some ((k : Int) + 1)))) (fun _ => rfl) (fun i H4 hi e4 => fun H5 e5 Q' q' => q' _ (Ex.refl _)) (fun i H4 hi e4 _ => fun H5 e5 Q' q' => ?_) (fun p2 H4 hp2 e4 h4 => ?_)
        · walk_at "zz"
          refine z_slS (okB.sz (by decide)) ?_
          exact q' _ (Ex.refl _)
        rw [given_all] at h4
        walk_at "zz"
        refine z_CR1 ⟨by decide, by decide⟩ (fun _ => true) (fun k => .str (cutS A none (some ((k : Int) + 1)))) (fun _ => rfl) (fun i H5 hi e5 => fun H6 e6 Q' q' => q' _ (Ex.refl _)) (fun i H5 hi e5 _ => fun H6 e6 Q' q' => ?_) (fun p3 H5 hp3 e5 h5 => ?_)
        · walk_at "zz"
          refine z_slS (oA.sz (by decide)) ?_
          exact q' _ (Ex.refl _)
        rw [given_all] at h5
        refine z_cat (e5 _ _ h4) h5 (szl (by simp)) fun p4 hp4 => ?_
        have e6 : Ex H5 (upd H5 p4 (.lst ((List.range (8 : Int).toNat).map (fun k : Nat => V.str (cutS B none (some ((k : Int) + 1)))) ++ (List.range (8 : Int).toNat).map (fun k : Nat => V.str (cutS A none (some ((k : Int) + 1))))))) := Ex.new hp4
        have eA := ((e1.trans e4).trans e5).trans e6
        walk_at "zz"
        refine ⟨_, _, _, _, _, _, _, _, _, _, _, p4, (List.range 8).map (fun k : Nat => cutS B none (some ((k : Int) + 1))) ++ (List.range 8).map (fun k : Nat => cutS A none (some ((k : Int) + 1))), rfl, eA, fresh_back ((e1.trans e4).trans e5) hp4, ?_, by simp, fun u hu => ?_⟩
        · rw [upd_same, List.map_append, List.map_map, List.map_map] <;> rfl
        · rcases List.mem_append.mp hu with hu | hu
          · obtain ⟨k, _, rfl⟩ := List.mem_map.mp hu
            exact (okB.cut none _).mono (by decide)
          · obtain ⟨k, _, rfl⟩ := List.mem_map.mp hu
            exact (oA.cut none _).mono (by decide)
      · walk_at "zz"
        refine z_CR1 ⟨by decide, by decide⟩ (fun _ => true) (fun k => .str ⟨#[sg (Str.ofString "abcdefghijklmnopqrstuvwxyz") (n / 4 + 7 * (k : Int))]⟩) (fun _ => rfl) (fun i H4 hi e4 => fun H5 e5 Q' q' => q' _ (Ex.refl _)) (fun i H4 hi e4 _ => fun H5 e5 Q' q' => ?_) (fun p2 H4 hp2 e4 h4 => ?_)
        · walk_at "zz"
          refine z_ixS (szl (by decide +kernel)) (let_at _).1 ?_
          exact q' _ (Ex.refl _)
        rw [given_all, show ((16 : Int).toNat) = 16 from rfl, show (fun k : Nat => V.str ⟨#[sg (Str.ofString "abcdefghijklmnopqrstuvwxyz") (n / 4 + 7 * (k : Int))]⟩) = V.str ∘ (fun k : Nat => ⟨#[sg (Str.ofString "abcdefghijklmnopqrstuvwxyz") (n / 4 + 7 * (k : Int))]⟩) from rfl, ← List.map_map] at h4
        walk_at "zz"
        refine ⟨_, _, _, _, _, _, _, _, _, _, _, p2, _, rfl, e1.trans e4, fresh_back e1 hp2, h4, by simp, fun u hu => ?_⟩
        obtain ⟨k, _, rfl⟩ := List.mem_map.mp hu
        exact (okT.one let_ok (let_at _).2).mono (by decide)
  · obtain ⟨y3, y4, y5, y6, y8, y9, y10, y11, y12, y13, y14, p, zs, rfl, e, hp, hz, lz, oz⟩ := hm
    walk_at "zz"
    refine ⟨_, _, rfl, rfl, by decide +kernel, by decide +kernel, fun t ht => ?_⟩
    rw [told_split]
    have e1 : Ex H' (upd H' t (.lst ((M03.toldL.map S).map V.str))) := Ex.new ht
    have ut : upd H' t (.lst ((M03.toldL.map S).map V.str)) t = some (.lst ((M03.toldL.map S).map V.str)) := upd_same
    have hz1 := e1 _ _ hz
    generalize upd H' t (.lst ((M03.toldL.map S).map V.str)) = H1 at e1 ut hz1 ⊢
    walk_at "zz"
    refine z_CL (xs := zs.map V.str) (sq_of hz1) (by rw [List.length_map, lz]; decide) (fun i => inV ((zs.map V.str).getD i .non) ((M03.toldL.map S).map V.str)) (fun i => (zs.map V.str).getD i .non) (fun _ => rfl) (fun i x H2 hi hx e2 => fun H3 e3 Q' q' => ?_) (fun i x H2 hi hx e2 _ => fun H3 e3 Q' q' => ?_) (fun g H2 hg e2 h2 => ?_)
    · have ex : (zs.map V.str).getD i .non = x := by rw [List.getD_eq_getElem?_getD, hx] <;> rfl
      obtain ⟨z, _, rfl⟩ := List.mem_map.mp (List.mem_of_getElem? hx)
      walk_at "zz"
      refine z_inL (sq_of (e3 _ _ (e2 _ _ ut))) rfl (strs_flat _) ?_
      walk_at "zz"
      have := q' H3 (Ex.refl _)
      rw [ex] at this
      exact this
    · have ex : (zs.map V.str).getD i .non = x := by rw [List.getD_eq_getElem?_getD, hx] <;> rfl
      rw [ex] at q'
      walk_at "zz"
      exact q' H3 (Ex.refl _)
    rw [List.length_map] at h2
    obtain ⟨zs', e', m'⟩ := given_strs zs fun i => inV ((zs.map V.str).getD i .non) ((M03.toldL.map S).map V.str)
    rw [e'] at h2
    obtain ⟨d1, d2, d3⟩ := strs_dp (K := K) (H := H2) fun z hz => ⟨20, oz z (m' z hz)⟩
    walk_at "zz"
    refine ⟨szl (by simp), fun c hc => ?_⟩
    have ec : Ex H2 (upd H2 c (.lst [])) := Ex.new hc
    refine z_neNil (sq_of (ec _ _ h2)) (dpAll_mono ec d1) (sq_of upd_same) d2 (by omega) ?_
    have eA := ((e.trans e1).trans e2).trans ec
    walk_at "zz"
    refine ite_b (fun _ => ?_) (fun _ => ?_)
    · walk_at "zz"
      refine z_CR1 ⟨by decide, by decide⟩ (fun _ => true) (fun k => .str (Str.ofString "q" ++ ⟨#[letL.getD k 0]⟩)) (fun _ => rfl) (fun i H4 hi e4 => fun H5 e5 Q' q' => q' _ (Ex.refl _)) (fun i H4 hi e4 _ => fun H5 e5 Q' q' => ?_) (fun p2 H4 hp2 e4 h4 => ?_)
      · walk_at "zz"
        have hi' : i < 16 := hi
        refine z_ixS (szl (by decide +kernel)) (show atI _ ((i : Nat) : Int) = some (letL.getD i 0) from atI_nat ?_) ?_
        · rw [let_str, S_tl, List.getD_eq_getElem?_getD, List.getElem?_eq_getElem (show i < letL.length by simp [letL]; omega)] <;> rfl
        refine z_addS (szl (by rw [show (Str.ofString "q" : Str).length = 1 by decide +kernel]; exact (show 1 + 1 ≤ 1000 by decide))) ?_
        exact q' _ (Ex.refl _)
      · rw [given_all, show ((16 : Int).toNat) = 16 from rfl, show (fun k : Nat => V.str (Str.ofString "q" ++ ⟨#[letL.getD k 0]⟩)) = V.str ∘ (fun k : Nat => Str.ofString "q" ++ ⟨#[letL.getD k 0]⟩) from rfl, ← List.map_map] at h4
        refine (q _ (by simp) fun z hz => ?_).go eA hp2 e4 h4
        obtain ⟨k, hk, rfl⟩ := List.mem_map.mp hz
        have hk' := List.mem_range.mp hk
        refine ((okT.of "q" (n := 1) (by decide +kernel)).app (okT.one let_ok ?_)).mono (by decide)
        rw [let_str, S_tl, List.getD_eq_getElem?_getD, List.getElem?_eq_getElem (show k < letL.length by simp [letL]; omega)]
        exact List.getElem_mem _
    · walk_at "zz"
      have := ec _ _ (e2 _ _ hz1)
      exact q zs lz oz p _ hp eA this
theorem vr_L_cell (vs H Q E) (h : sp_L_cell K vs H Q E) : (rd_L_cell K) { nx := fun _ H' => Q .non H', rt := Q } (start ["_law_script", "_law_k", "_law_cell_here"] vs) H := by
  obtain ⟨a, ns, k, rfl, ha, hk, q⟩ := h
  unfold rd_L_cell
  unfold cellN at q
  walk_at "zz"
  refine z_lenL ha ?_
  walk_at "zz"
  rw [List.length_map]
  refine ite_b (fun h => ?_) (fun h => ?_)
  · have hl : (0 : Int) < (ns.length : Int) := of_decide_eq_true h
    rw [if_pos (by omega)] at q
    walk_at "zz"
    refine z_lenL ha ?_
    rw [List.length_map]
    walk_at "zz"
    have h1 := Int.emod_nonneg k (show (ns.length : Int) ≠ 0 by omega)
    have h2 := Int.emod_lt_of_pos k hl
    obtain ⟨j, hj⟩ := Int.eq_ofNat_of_zero_le h1
    have jl : j < ns.length := by omega
    rw [hj, Int.toNat_natCast] at q
    rw [hj]
    refine z_ixL ha (v := .int (ns.getD j 0)) (atI_nat (by rw [List.getElem?_map, List.getD_eq_getElem?_getD, List.getElem?_eq_getElem jl] <;> rfl)) ?_
    walk_at "zz"
    exact RetV.go q (Ex.refl H)
  · have hl : ¬ (0 : Int) < (ns.length : Int) := of_decide_eq_false h
    rw [if_neg (by omega)] at q
    walk_at "zz"
    exact RetV.go q (Ex.refl H)
/-- a list of numbers stays where another thing is written -/
theorem sq_other {H : Hp} {a d : Addr} {ns : List Int} {y : V} {r : List V} {o : HO} (h : SqL K H a (ns.map V.int)) (hd : H d = some (.lst (.ref a :: y :: r))) : SqL K (upd H d o) a (ns.map V.int) := by
  rcases h with h | h
  · have ne : a ≠ d := fun z => by
      subst z
      rcases h with h | ⟨ob, h⟩
      · rw [hd] at h
        have h' := HO.lst.inj (Option.some.inj h)
        cases ns with
        | nil => cases h'
        | cons i r => cases h'
      · rw [hd] at h
        cases h
    refine .inl ?_
    rcases h with h | ⟨ob, h⟩
    · exact .inl (by rw [upd_ne ne]; exact h)
    · exact .inr ⟨ob, by rw [upd_ne ne]; exact h⟩
  · exact .inr h
theorem szlt2 {n : Nat} (h : n ≤ 100000) : n < sizeLine := Nat.lt_of_le_of_lt h (by decide)
theorem web_val {H : Hp} {n : Str} : ∀ {kvs : List (Key × V)} {g : Web}, WebKV K H kvs g → getW g n ≠ [] → ∃ l, valV kvs (Sum.inr n) = some (.ref l) ∧ SqL K H l ((getW g n).map V.str)
  | _, _, .nil, h => absurd rfl h
  | kv :: kvs, p :: g, .cons e r, h => by
    obtain ⟨ek, l, el, hs⟩ := e
    by_cases z : p.1 = n
    · have eg : getW (p :: g) n = p.2 := by
        unfold getW
        rw [List.find?_cons_of_pos (by simp [z])] <;> rfl
      rw [eg, valV_pos (by rw [ek, z]), el]
      exact ⟨l, rfl, hs⟩
    · have eg : getW (p :: g) n = getW g n := by
        unfold getW
        rw [List.find?_cons_of_neg (by simp [z])]
      rw [eg] at h ⊢
      rw [valV_neg (by rw [ek]; exact fun y => z (Sum.inr.inj y))]
      exact web_val r h
theorem web_ex {H H' : Hp} {kvs : List (Key × V)} {g : Web} (e : Ex H H') (h : WebKV K H kvs g) : WebKV K H' kvs g := Paired.mono (fun _ _ ⟨z, l, y, x⟩ => ⟨z, l, y, ex_l e x⟩) h
theorem inV_strs (z : Str) : ∀ L : List Str, inV (.str z) (L.map V.str) = decide (z ∈ L)
  | [] => rfl
  | y :: L => by
    have ih := inV_strs z L
    unfold inV at ih ⊢
    rw [List.map_cons, List.any_cons, ih]
    by_cases h : y = z
    · subst h
      have : eqV (.str y) (.str y) = true := by simp [eqV]
      rw [this]
      simp
    · have : eqV (.str y) (.str z) = false := by simp [eqV, h]
      rw [this, Bool.false_or]
      have h2 : ¬ z = y := fun e => h e.symm
      simp [h2]
theorem cut_take (r : List Str) (i : Nat) : cutV (r.map V.str) none (some (i : Int)) = (r.take i).map V.str := by
  unfold cutV
  rw [HT.sIx_none, HT.sIx_nat, List.drop_zero, Nat.sub_zero, ← List.map_take, List.length_map]
  congr 1
  by_cases h : i ≤ r.length
  · rw [Nat.min_eq_left h]
  · rw [Nat.min_eq_right (by omega), List.take_of_length_le (Nat.le_refl _), List.take_of_length_le (by omega)]
theorem cut_drop (r : List Str) (i : Nat) : cutV (r.map V.str) (some (i : Int)) none = (r.drop i).map V.str := by
  unfold cutV
  rw [HT.sIx_none, HT.sIx_nat, ← List.map_drop, List.take_of_length_le (by rw [List.length_map, List.length_drop, List.length_map]; exact Nat.le_refl _), List.length_map]
  congr 1
  by_cases h : i ≤ r.length
  · rw [Nat.min_eq_left h]
  · rw [Nat.min_eq_right (by omega), List.drop_of_length_le (Nat.le_refl _), List.drop_of_length_le (by omega)]
theorem not_ahead {r : List Str} {i : Nat} {z : Str} (nd : r.Nodup) (h : r[i]? = some z) : z ∉ r.take i := fun hm => by
  obtain ⟨j, hj, e⟩ := List.mem_iff_getElem.mp hm
  rw [List.length_take] at hj
  rw [List.getElem_take] at e
  obtain ⟨hi, e2⟩ := List.getElem?_eq_some_iff.mp h
  exact List.pairwise_iff_getElem.mp nd j i (by omega) hi (by omega) (e.trans e2.symm)
theorem vr_L_is_ring (vs H Q E) (h : sp_L_is_ring K vs H Q E) : (rd_L_is_ring K) { nx := fun _ H' => Q .non H', rt := Q } (start ["_law_found", "_law_asks", "_law_one", "_law_other", "_law_k"] vs) H := by
  obtain ⟨p, a, r, g, rfl, hp, ⟨kvs, ha, hk⟩, hr, hl, ring, q⟩ := h
  unfold rd_L_is_ring
  walk_at "zz"
  refine z_isi (ty_lst hp) rfl ?_
  walk_at "zz"
  refine ite_f ?_
  walk_at "zz"
  refine ⟨szl (by simp), fun p1 hp1 => ?_⟩
  have e1 := Ex.new (o := .lst []) hp1
  have g1 : upd H p1 (.lst []) p1 = some (.lst []) := upd_same
  generalize upd H p1 (.lst []) = H1 at e1 g1 ⊢
  obtain ⟨dp, cp, dd⟩ := strs_dp (K := K) (H := H1) (zs := r) fun z hz => ⟨30, hr z hz⟩
  have hp1' := ex_l e1 hp
  refine z_eqD (b := false) (.lst hp1' dp) (.lst (sq_of g1) .nil) cp rfl (by show PyData.depthAll _ + 1 ≤ 64; rw [dd]; decide) (by decide) ⟨(fun z => by cases z), fun z => absurd (List.map_eq_nil_iff.mp (PyData.list.inj z)) ring.1⟩ ?_
  walk_at "zz"
  have fl : (r.map V.str).all flatV = true := by
    rw [List.all_map]
    exact List.all_eq_true.mpr fun _ _ => rfl
  refine z_CE hp1' (by rw [List.length_map]; omega) (fun _ => false) (fun _ => .non) (fun _ _ => rfl) (fun i x H2 hi hx e2 => fun H3 e3 Q' q' => ?_) (fun i x H2 hi hx e2 z => by cases z) (fun p4 H4 hp4 e4 g4 => ?_)
  · walk_at "zz"
    refine z_slL (ex_l (e2.trans e3) hp1') fun p2 hp2 => ?_
    walk_at "zz"
    rw [List.getElem?_map] at hx
    obtain ⟨z, hz, rfl⟩ := Option.map_eq_some_iff.mp hx
    have e5 := Ex.new (o := .lst (cutV (r.map V.str) none (some (i : Int)))) hp2
    refine z_inL (sq_of upd_same) rfl (List.all_eq_true.mpr fun y hy => List.all_eq_true.mp fl y (List.mem_of_mem_drop (List.mem_of_mem_take hy))) ?_
    rw [cut_take, inV_strs, decide_eq_false (not_ahead ring.2.1 hz)]
    exact ⟨false, rfl, q' _ (by rw [cut_take] at e5; exact e5)⟩
  have eg : Evl.given (r.map V.str).length (fun _ => false) (fun _ => V.non) = [] := by
    unfold Evl.given
    simp
  rw [eg] at g4
  walk_at "zz"
  refine ⟨szl (by simp), fun p5 hp5 => ?_⟩
  have e5 := Ex.new (o := .lst []) hp5
  refine z_neNil (sq_of (e5 _ _ g4)) .nil (sq_of upd_same) rfl (by decide) ?_
  have x5 := e1.trans (e4.trans e5)
  generalize upd H4 p5 (.lst []) = H5 at e5 x5 ⊢
  walk_at "zz"
  refine ite_f ?_
  walk_at "zz"
  refine z_slL (ex_l x5 hp) fun p6 hp6 => ?_
  have e6 := Ex.new (o := .lst (cutV (r.map V.str) (some (1 : Int)) none)) hp6
  have g6 : upd H5 p6 (.lst (cutV (r.map V.str) (some (1 : Int)) none)) p6 = some (.lst ((r.drop 1).map V.str)) := by
    rw [upd_same]
    exact congrArg (fun z => some (HO.lst z)) (cut_drop r 1)
  generalize upd H5 p6 (.lst (cutV (r.map V.str) (some (1 : Int)) none)) = H6 at e6 g6 ⊢
  walk_at "zz"
  refine z_slL (ex_l (x5.trans e6) hp) fun p7 hp7 => ?_
  have e7 := Ex.new (o := .lst (cutV (r.map V.str) none (some (1 : Int)))) hp7
  have g7 : upd H6 p7 (.lst (cutV (r.map V.str) none (some (1 : Int)))) p7 = some (.lst ((r.take 1).map V.str)) := by
    rw [upd_same]
    exact congrArg (fun z => some (HO.lst z)) (cut_take r 1)
  generalize upd H6 p7 (.lst (cutV (r.map V.str) none (some (1 : Int)))) = H7 at e7 g7 ⊢
  refine z_cat (e7 _ _ g6) g7 (szl (by simp; omega)) fun p8 hp8 => ?_
  have e8 := Ex.new (o := .lst ((r.drop 1).map V.str ++ (r.take 1).map V.str)) hp8
  have g8 : upd H7 p8 (.lst ((r.drop 1).map V.str ++ (r.take 1).map V.str)) p8 = some (.lst ((r.drop 1 ++ r.take 1).map V.str)) := by
    rw [upd_same, List.map_append]
  generalize upd H7 p8 (.lst ((r.drop 1).map V.str ++ (r.take 1).map V.str)) = H8 at e8 g8 ⊢
  have x8 := x5.trans (e6.trans (e7.trans e8))
  walk_at "zz"
  refine z_FZ (xs := r.map V.str) (ys := (r.drop 1 ++ r.take 1).map V.str) (n := r.length) (by simp; omega) (ex_l x8 hp) (sq_of g8) (fun i σ' H' => ∃ y2 y3, σ' = [some (.ref p), some (.ref a), y2, y3, none] ∧ Ex H8 H') ?_ ?_ ?_ ?_
  · exact ⟨_, _, rfl, Ex.refl _⟩
  · rintro i σ' H' hi ⟨y2, y3, rfl, e⟩
    exact ⟨ex_l (x8.trans e) hp, sq_of (e _ _ g8)⟩
  · rintro i x y T σ' H9 H10 hi ex ey ⟨y2, y3, rfl, e9⟩ e10 hT rfl
    rw [List.getElem?_map] at ex ey
    obtain ⟨one, h1, rfl⟩ := Option.map_eq_some_iff.mp ex
    obtain ⟨other, h2, rfl⟩ := Option.map_eq_some_iff.mp ey
    have hm : other ∈ getW g one := ring.2.2 (one, other) (List.mem_of_getElem? (i := i) (by
      rw [List.getElem?_zip_eq_some]
      exact ⟨h1, h2⟩))
    have x10 := x8.trans (e9.trans e10)
    obtain ⟨l, hv, hs⟩ := web_val (web_ex x10 hk) (List.ne_nil_of_mem hm)
    have ha10 : Rd (upd H9 T (.tup [.str one, .str other])) a (.dK kvs) := Evl.ex_rd x10 ha
    refine z_gtup2 (st_of upd_same) ?_
    walk_at "zz"
    generalize upd H9 T (.tup [.str one, .str other]) = H11 at e10 x10 hs ha10 ⊢
    have dg : DGet H11 a (.str one) (some (.ref l)) := by
      rw [← hv]
      exact .inl ⟨kvs, Sum.inr one, ha10, rfl, rfl⟩
    refine ⟨a, some (.ref l), rfl, dg, false, rfl, ?_⟩
    walk_at "zz"
    refine ⟨a, .ref l, rfl, dg, ?_⟩
    refine z_inL hs rfl (by rw [List.all_map]; exact List.all_eq_true.mpr fun _ _ => rfl) ?_
    rw [inV_strs, decide_eq_true hm]
    walk_at "zz"
    refine ite_f ?_
    walk_at "zz"
    exact ⟨_, _, rfl, e9.trans e10⟩
  rintro σ' H9 ⟨y2, y3, rfl, e9⟩
  walk_at "zz"
  exact q.go (x8.trans e9)
theorem wK_le {get : Str → List Str} {p : List (Str × Nat)} (h : ∀ k, (get k).length ≤ 4) : ∀ ks : List Str, M18.wK get p ks ≤ 8 * ks.length
  | [] => Nat.le_refl _
  | k :: r => by
    have ih := wK_le (p := p) h r
    have := h k
    rw [M18.wK_cons, List.length_cons]
    by_cases z : M18.place p k = none
    · rw [if_pos z]
      omega
    · rw [if_neg z]
      omega
theorem wL_len : ∀ L : List (List Str), L.length ≤ M18.wL L
  | [] => Nat.le_refl _
  | l :: r => by
    have := wL_len r
    rw [M18.wL_cons, List.length_cons]
    omega
theorem getW_le {g : Web} (h : ∀ p ∈ g, p.2.length ≤ 4) (n : Str) : (getW g n).length ≤ 4 := by
  unfold getW
  cases e : g.find? fun p => decide (p.1 = n) with
  | none => exact Nat.zero_le _
  | some p => exact h p (List.mem_of_find?_eq_some e)
abbrev Ins (H : Hp) : List Addr → List (List Str) → Prop := Paired fun r l => H r = some (HO.lst (l.reverse.map V.str))
theorem ins_upd {H : Hp} {x : Addr} {o : HO} : ∀ {fs : List Addr} {ls : List (List Str)}, Ins H fs ls → (∀ r ∈ fs, r ≠ x) → Ins (upd H x o) fs ls
  | _, _, .nil, _ => .nil
  | _, _, .cons e r, h => .cons (by rw [upd_ne (h _ (List.mem_cons_self ..))]; exact e) (ins_upd r fun y hy => h y (List.mem_cons_of_mem _ hy))
theorem ins_ex {H H' : Hp} (e : Ex H H') {fs : List Addr} {ls : List (List Str)} (h : Ins H fs ls) : Ins H' fs ls := Paired.mono (fun _ _ z => e _ _ z) h
theorem ins_some {H : Hp} {x : Addr} : ∀ {fs : List Addr} {ls : List (List Str)}, Ins H fs ls → x ∈ fs → ∃ o, H x = some o
  | _, _, .nil, h => by cases h
  | _, _, .cons e r, h => by
    rcases List.mem_cons.mp h with z | z
    · rw [z]
      exact ⟨_, e⟩
    · exact ins_some r z
structure RI (H0 : Hp) (d w p f : Addr) (L : Nat) (s : M18.St Str) (m : Nat) (H : Hp) : Prop where
  but : But [d] H0 H
  hw : H w = some (.lst (s.way.reverse.map V.str))
  hp : ∃ pl, H p = some (.dK pl) ∧ (∀ n, valV pl (.inr n) = (M18.place s.places n).map fun i => V.int (i : Int)) ∧ pl.length + m ≤ 400
  hf : ∃ fs : List Addr, H f = some (.lst (fs.reverse.map V.ref)) ∧ Ins H fs s.left ∧ fs.Nodup ∧ ∀ r ∈ fs, H0 r = none ∧ r ≠ w ∧ r ≠ p ∧ r ≠ f
  hd : ∃ dk, H d = some (.dK dk) ∧ Dn dk s.done ∧ dk.length + m ≤ L + 400
  wl : s.way.length + m ≤ 400
/-- a known dict or list stays where another one is changed -/
theorem rd_but {H H' : Hp} {a d : Addr} {u : HO} (b : But [d] H H') (ne : a ≠ d) (h : Rd H a u) : Rd H' a u := by
  rcases h with h | ⟨o, h⟩
  · exact .inl (b _ _ (by simp [ne]) h)
  · exact .inr ⟨o, b _ _ (by simp [ne]) h⟩
theorem sq_but {K : PySem.W.Frag} {H H' : Hp} {l d : Addr} {xs : List V} {kvs : List (Key × V)} (b : But [d] H H') (hd : H d = some (.dK kvs)) (h : SqL K H l xs) : SqL K H' l xs := by
  rcases h with h | h
  · refine .inl (rd_but b (fun z => ?_) h)
    subst z
    rcases h with h | ⟨o, h⟩ <;> rw [hd] at h <;> cases h
  · exact .inr h
theorem web_but {K : PySem.W.Frag} {H H' : Hp} {d : Addr} {dk kvs : List (Key × V)} {g : Web} (b : But [d] H H') (hd : H d = some (.dK dk)) (h : WebKV K H kvs g) : WebKV K H' kvs g := Paired.mono (fun _ _ ⟨z, l, y, x⟩ => ⟨z, l, y, sq_but b hd x⟩) h
/-- what a web's dict has, or none -/
theorem web_opt {K : PySem.W.Frag} {H : Hp} {n : Str} : ∀ {kvs : List (Key × V)} {g : Web}, WebKV K H kvs g → (valV kvs (Sum.inr n) = none ∧ getW g n = []) ∨ ∃ l, valV kvs (Sum.inr n) = some (.ref l) ∧ SqL K H l ((getW g n).map V.str)
  | _, _, .nil => .inl ⟨rfl, rfl⟩
  | kv :: kvs, p :: g, .cons e r => by
    obtain ⟨ek, l, el, hs⟩ := e
    by_cases z : p.1 = n
    · have eg : getW (p :: g) n = p.2 := by
        unfold getW
        rw [List.find?_cons_of_pos (by simp [z])] <;> rfl
      rw [eg, valV_pos (by rw [ek, z]), el]
      exact .inr ⟨l, rfl, hs⟩
    · have eg : getW (p :: g) n = getW g n := by
        unfold getW
        rw [List.find?_cons_of_neg (by simp [z])]
      rw [eg, valV_neg (by rw [ek]; exact fun y => z (Sum.inr.inj y))]
      exact web_opt r
theorem vr_p_ring_from (vs H Q E) (h : sp_p_ring_from K vs H Q E) : (rd_p_ring_from K) { nx := fun _ H' => Q .non H', rt := Q } (start ["start", "asks", "done", "way", "places", "left", "name"] vs) H := by
  obtain ⟨s0, a, d, g, kvs, dk0, ds, rfl, ha, hk, ⟨h4, h40⟩, nad, hd0, hdn0, hdl, q⟩ := h
  unfold rd_p_ring_from
  walk_at "zz"
  refine ⟨szl (by simp), fun w hw => ?_⟩
  walk_at "zz"
  refine z_dnew fun p hp => ?_
  walk_at "zz"
  refine ⟨szl (by simp), fun r0 hr0 => ?_⟩
  walk_at "zz"
  refine ⟨szl (by simp), fun f hf => ?_⟩
  walk_at "zz"
  have e1 : Ex H (upd H w (.lst [])) := Ex.new hw
  have e2 := e1.trans (Ex.new (o := .dK []) hp)
  have e3 := e2.trans (Ex.new (o := .lst [.str s0]) hr0)
  have e4 := e3.trans (Ex.new (o := .lst [.ref r0]) hf)
  have np : H p = none := fresh_back e1 hp
  have nr0 : H r0 = none := fresh_back e2 hr0
  have nf : H f = none := fresh_back e3 hf
  have wp : w ≠ p := fun z => by subst z; rw [upd_same] at hp; cases hp
  have wr : w ≠ r0 := fun z => by subst z; rw [upd_ne wp, upd_same] at hr0; cases hr0
  have pr : p ≠ r0 := fun z => by subst z; rw [upd_same] at hr0; cases hr0
  have wf : w ≠ f := fun z => by subst z; rw [upd_ne wr, upd_ne wp, upd_same] at hf; cases hf
  have pf : p ≠ f := fun z => by subst z; rw [upd_ne pr, upd_same] at hf; cases hf
  have rf : r0 ≠ f := fun z => by subst z; rw [upd_same] at hf; cases hf
  have dw : d ≠ w := fun z => by subst z; rw [hd0] at hw; cases hw
  have dp : d ≠ p := fun z => by subst z; rw [hd0] at np; cases np
  have df : d ≠ f := fun z => by subst z; rw [hd0] at nf; cases nf
  have gw : upd (upd (upd (upd H w (.lst [])) p (.dK [])) r0 (.lst [.str s0])) f (.lst [.ref r0]) w = some (.lst []) := by rw [upd_ne wf, upd_ne wr, upd_ne wp, upd_same]
  have gp : upd (upd (upd (upd H w (.lst [])) p (.dK [])) r0 (.lst [.str s0])) f (.lst [.ref r0]) p = some (.dK []) := by rw [upd_ne pf, upd_ne pr, upd_same]
  have gr : upd (upd (upd (upd H w (.lst [])) p (.dK [])) r0 (.lst [.str s0])) f (.lst [.ref r0]) r0 = some (.lst [.str s0]) := by rw [upd_ne rf, upd_same]
  have gf : upd (upd (upd (upd H w (.lst [])) p (.dK [])) r0 (.lst [.str s0])) f (.lst [.ref r0]) f = some (.lst [.ref r0]) := upd_same
  have gd := e4 _ _ hd0
  generalize upd (upd (upd (upd H w (.lst [])) p (.dK [])) r0 (.lst [.str s0])) f (.lst [.ref r0]) = H4 at e4 gw gp gr gf gd ⊢
  have mu0 : M18.mu (getW g) (g.map (·.1)) ⟨[], [], [[s0]], ds⟩ ≤ 400 := by
    have := wK_le (p := []) (getW_le h4) (g.map (·.1))
    rw [List.length_map] at this
    unfold M18.mu
    show M18.wL [[s0]] + M18.wK (getW g) [] (g.map (·.1)) ≤ 400
    have e : M18.wL [[s0]] = 3 := rfl
    omega
  refine z_while (fun m σ' H' => ∃ (s : M18.St Str) (y6 : Option V), m = M18.mu (getW g) (g.map (·.1)) s ∧ σ' = [some (.str s0), some (.ref a), some (.ref d), some (.ref w), some (.ref p), some (.ref f), y6] ∧ RI H d w p f dk0.length s m H' ∧ M18.run (getW g) (g.map (·.1)) (web_hk g) s = rFrom g s0 ds) (M18.mu (getW g) (g.map (·.1)) ⟨[], [], [[s0]], ds⟩) ?_ ?_
  · exact ⟨⟨[], [], [[s0]], ds⟩, none, rfl, rfl, ⟨But.ex e4, gw, ⟨[], gp, fun n => rfl, by simpa using mu0⟩, ⟨[r0], gf, .cons gr .nil, by simp, fun r hr => by
      rw [List.mem_singleton] at hr
      subst hr
      exact ⟨nr0, fun z => wr z.symm, fun z => pr z.symm, rf⟩⟩, ⟨dk0, gd, hdn0, by show dk0.length + _ ≤ dk0.length + 400; omega⟩, by simpa using mu0⟩, rfl⟩
  rintro m σ' H5 ⟨s, y6, rfl, rfl, I, hrun⟩
  obtain ⟨hbut, hw5, ⟨pl, hp5, hpl, hpll⟩, ⟨fs, hf5, hins, hnd, hfr⟩, ⟨dk, hd5, hdn, hdkl⟩, hwl⟩ := I
  obtain ⟨way, places, left, done⟩ := s
  generalize hmu : M18.mu (getW g) (g.map (·.1)) ⟨way, places, left, done⟩ = m at hpll hdkl hwl ⊢
  walk_at "zz"
  refine z_trul (sq_of hf5) ?_
  dsimp only at hw5 hpl hins hdn hwl
  cases hins with
  | nil =>
    refine ite_f ?_
    walk_at "zz"
    have hs : M18.step (getW g) ⟨way, places, [], done⟩ = .fin none done := rfl
    have hr := (M18.run_fin (hk := web_hk g) hs).symm.trans hrun
    have := q H5 dk hbut hd5 (by rw [← hr]; exact hdn) (by omega)
    rw [← hr] at this
    exact this
  | @cons r t fr rest hr hrest =>
    rw [show (!((r :: fr).reverse.map V.ref).isEmpty) = true by simp]
    refine ite_t ?_
    have hrf := hfr r (List.mem_cons_self ..)
    have rd : r ≠ d := fun z => by rw [z, hd0] at hrf; cases hrf.1
    have hfr' : ∀ x ∈ fr, H x = none ∧ x ≠ w ∧ x ≠ p ∧ x ≠ f := fun x hx => hfr x (List.mem_cons_of_mem _ hx)
    have hfd : ∀ x ∈ fr, x ≠ d := fun x hx z => by have := hfr' x hx; rw [z, hd0] at this; cases this.1
    have hnr : ∀ x ∈ fr, x ≠ r := fun x hx z => by subst z; exact (List.nodup_cons.mp hnd).1 hx
    have hnd' := (List.nodup_cons.mp hnd).2
    have hf6 : H5 f = some (.lst (fr.reverse.map V.ref ++ [.ref r])) := by rw [hf5]; simp
    refine ⟨_, fun _ _ h => h, ?_⟩
    walk_at "zz"
    refine z_ixLast (xs := fr.reverse.map V.ref) (v := .ref r) (sq_of hf6) ?_
    walk_at "zz"
    refine z_trul (sq_of hr) ?_
    cases t with
    | nil =>
      refine ite_b (fun _ => ?_) (fun h => by simp at h)
      walk_at "zz"
      refine z_tyl (sq_of hf6) ?_
      refine z_rpopLast hf6 ?_
      walk_at "zz"
      have hw6 : upd H5 f (.lst (fr.reverse.map V.ref)) w = some (.lst (way.reverse.map V.str)) := by rw [upd_ne wf]; exact hw5
      refine z_trul (sq_of hw6) ?_
      cases way with
      | nil =>
        refine ite_f ?_
        walk_at "zz"
        have hs : M18.step (getW g) ⟨[], places, [] :: rest, done⟩ = .go ⟨[], places, rest, done⟩ := rfl
        have less := M18.step_less (web_hk g) hs
        rw [hmu] at less
        refine ⟨_, less, _, _, rfl, rfl, ⟨hbut.mut nf, hw6, ⟨pl, by rw [upd_ne pf]; exact hp5, hpl, by omega⟩, ⟨fr, upd_same, ins_upd hrest fun x hx => (hfr' x hx).2.2.2, hnd', hfr'⟩, ⟨dk, by rw [upd_ne df]; exact hd5, hdn, by omega⟩, by show 0 + _ ≤ 400; simp at hwl; omega⟩, (M18.run_go hs).symm.trans hrun⟩
      | cons x ws =>
        refine ite_b (fun _ => ?_) (fun h => by simp at h)
        have hw7 : upd H5 f (.lst (fr.reverse.map V.ref)) w = some (.lst (ws.reverse.map V.str ++ [.str x])) := by rw [hw6]; simp
        walk_at "zz"
        refine z_tyl (sq_of hw7) ?_
        refine z_rpopLast hw7 ?_
        have hd7 : upd (upd H5 f (.lst (fr.reverse.map V.ref))) w (.lst (ws.reverse.map V.str)) d = some (.dK dk) := by rw [upd_ne dw, upd_ne df]; exact hd5
        refine ⟨d, _, rfl, DPut.k (k := Sum.inr x) hd7 (szlt2 (by omega)), ?_⟩
        walk_at "zz"
        have hs : M18.step (getW g) ⟨x :: ws, places, [] :: rest, done⟩ = .go ⟨ws, places, rest, x :: done⟩ := rfl
        have less := M18.step_less (web_hk g) hs
        rw [hmu] at less
        have lp := length_putK dk (Sum.inr x) (.bl true)
        refine ⟨_, less, _, _, rfl, rfl, ⟨((hbut.mut nf).mut hw).put' (by simp), by rw [upd_ne dw.symm, upd_same], ⟨pl, by rw [upd_ne dp.symm, upd_ne wp.symm, upd_ne pf]; exact hp5, hpl, by omega⟩, ⟨fr, by rw [upd_ne df.symm, upd_ne wf.symm, upd_same], ins_upd (ins_upd (ins_upd hrest fun x hx => (hfr' x hx).2.2.2) fun x hx => (hfr' x hx).2.1) hfd, hnd', hfr'⟩, ⟨_, upd_same, fun n => ?_, by omega⟩, by show ws.length + _ ≤ 400; simp at hwl; omega⟩, (M18.run_go hs).symm.trans hrun⟩
        rw [valV_put]
        by_cases z : n = x
        · subst z
          simp
        · rw [if_neg (fun y => z (Sum.inr.inj y)), hdn n]
          simp [z]
    | cons n l =>
      refine ite_b (fun h => by simp at h) (fun _ => ?_)
      have hr6 : H5 r = some (.lst (l.reverse.map V.str ++ [.str n])) := by rw [hr]; simp
      walk_at "zz"
      refine z_ixLast (xs := fr.reverse.map V.ref) (v := .ref r) (sq_of hf6) ?_
      refine z_tyl (sq_of hr6) ?_
      refine z_rpopLast hr6 ?_
      walk_at "zz"
      have hbut6 := hbut.mut (o := .lst (l.reverse.map V.str)) hrf.1
      have hd6 : upd H5 r (.lst (l.reverse.map V.str)) d = some (.dK dk) := by rw [upd_ne rd.symm]; exact hd5
      have hp6 : upd H5 r (.lst (l.reverse.map V.str)) p = some (.dK pl) := by rw [upd_ne hrf.2.2.1.symm]; exact hp5
      have hw6 : upd H5 r (.lst (l.reverse.map V.str)) w = some (.lst (way.reverse.map V.str)) := by rw [upd_ne hrf.2.1.symm]; exact hw5
      have hf7 : upd H5 r (.lst (l.reverse.map V.str)) f = some (.lst (fr.reverse.map V.ref ++ [.ref r])) := by rw [upd_ne hrf.2.2.2.symm]; exact hf6
      have hr7 : upd H5 r (.lst (l.reverse.map V.str)) r = some (.lst (l.reverse.map V.str)) := upd_same
      have hin6 : Ins (upd H5 r (.lst (l.reverse.map V.str))) fr rest := ins_upd hrest hnr
      generalize upd H5 r (.lst (l.reverse.map V.str)) = H6 at hbut6 hd6 hp6 hw6 hf7 hr7 hin6 ⊢
      refine ⟨d, _, rfl, DGet.k (k := Sum.inr n) hd6, ?_⟩
      walk_at "zz"
      rw [hdn n]
      by_cases hm : n ∈ done
      · rw [decide_eq_true hm]
        refine ite_t ?_
        walk_at "zz"
        have hs : M18.step (getW g) ⟨way, places, (n :: l) :: rest, done⟩ = .go ⟨way, places, l :: rest, done⟩ := by
          unfold M18.step
          exact if_pos hm
        have less := M18.step_less (web_hk g) hs
        rw [hmu] at less
        refine ⟨_, less, _, _, rfl, rfl, ⟨hbut6, hw6, ⟨pl, hp6, hpl, by omega⟩, ⟨r :: fr, by rw [hf7]; simp, .cons hr7 hin6, hnd, hfr⟩, ⟨dk, hd6, hdn, by omega⟩, by show way.length + _ ≤ 400; omega⟩, (M18.run_go hs).symm.trans hrun⟩
      rw [decide_eq_false hm]
      refine ite_f ?_
      walk_at "zz"
      refine ⟨p, _, rfl, DGet.k (k := Sum.inr n) hp6, ?_⟩
      walk_at "zz"
      rw [hpl n]
      cases hpn : M18.place places n with
      | some i =>
        refine ite_t ?_
        walk_at "zz"
        refine ⟨p, .int (i : Int), rfl, ?_, ?_⟩
        · have := DGet.k (k := Sum.inr n) hp6
          rw [hpl n, hpn] at this
          exact this
        walk_at "zz"
        refine z_slL (sq_of hw6) fun p3 hp3 => ?_
        have hs : M18.step (getW g) ⟨way, places, (n :: l) :: rest, done⟩ = .fin (some (way.reverse.drop i)) done := by
          unfold M18.step
          simp only [if_neg hm, hpn]
        have hr := (M18.run_fin (hk := web_hk g) hs).symm.trans hrun
        have := q H6 dk hbut6 hd6 (by rw [← hr]; exact hdn) (by omega)
        rw [← hr] at this
        exact this p3 _ hp3 (Ex.new hp3) (by rw [upd_same]; exact congrArg (fun z => some (HO.lst z)) (cut_drop _ i))
      | none =>
        refine ite_f ?_
        walk_at "zz"
        refine z_lenL (sq_of hw6) ?_
        walk_at "zz"
        refine ⟨p, _, rfl, DPut.k (k := Sum.inr n) hp6 (szlt (by omega)), ?_⟩
        walk_at "zz"
        rw [List.length_map, List.length_reverse]
        have hw7 : upd H6 p (.dK (putK pl (Sum.inr n) (.int (way.length : Int)))) w = some (.lst (way.reverse.map V.str)) := by rw [upd_ne wp]; exact hw6
        refine z_tyl (sq_of hw7) ?_
        walk_at "zz"
        refine z_rapp hw7 (szlt (by rw [List.length_map, List.length_reverse]; omega)) ?_
        walk_at "zz"
        have b8 := (hbut6.mut (o := .dK (putK pl (Sum.inr n) (.int (way.length : Int)))) np).mut (o := .lst (way.reverse.map V.str ++ [.str n])) hw
        have w8 : upd (upd H6 p (.dK (putK pl (Sum.inr n) (.int (way.length : Int))))) w (.lst (way.reverse.map V.str ++ [.str n])) w = some (.lst (way.reverse.map V.str ++ [.str n])) := upd_same
        have p8 : upd (upd H6 p (.dK (putK pl (Sum.inr n) (.int (way.length : Int))))) w (.lst (way.reverse.map V.str ++ [.str n])) p = some (.dK (putK pl (Sum.inr n) (.int (way.length : Int)))) := by rw [upd_ne wp.symm, upd_same]
        have f8 : upd (upd H6 p (.dK (putK pl (Sum.inr n) (.int (way.length : Int))))) w (.lst (way.reverse.map V.str ++ [.str n])) f = some (.lst (fr.reverse.map V.ref ++ [.ref r])) := by rw [upd_ne wf.symm, upd_ne pf.symm]; exact hf7
        have d8 : upd (upd H6 p (.dK (putK pl (Sum.inr n) (.int (way.length : Int))))) w (.lst (way.reverse.map V.str ++ [.str n])) d = some (.dK dk) := by rw [upd_ne dw, upd_ne dp]; exact hd6
        have i8 : Ins (upd (upd H6 p (.dK (putK pl (Sum.inr n) (.int (way.length : Int))))) w (.lst (way.reverse.map V.str ++ [.str n]))) (r :: fr) (l :: rest) := ins_upd (ins_upd (.cons hr7 hin6) fun x hx => (hfr x hx).2.2.1) fun x hx => (hfr x hx).2.1
        generalize upd (upd H6 p (.dK (putK pl (Sum.inr n) (.int (way.length : Int))))) w (.lst (way.reverse.map V.str ++ [.str n])) = H8 at b8 w8 p8 f8 d8 i8 ⊢
        refine z_tyl (sq_of f8) ?_
        walk_at "zz"
        refine z_revOf ?_
        walk_at "zz"
        have ha8 := rd_but b8 nad ha
        refine ⟨a, rfl, .inl ⟨kvs, ha8⟩, ?_⟩
        walk_at "zz"
        refine ⟨szl (by simp), fun e he => ?_⟩
        have x9 : Ex H8 (upd H8 e (.lst [])) := Ex.new he
        have e9 : upd H8 e (.lst []) e = some (.lst []) := upd_same
        have hk9 := web_ex x9 (web_but b8 hd0 hk)
        have ha9 := Evl.ex_rd x9 ha8
        have f9 := x9 _ _ f8
        have fin : ∀ y9 : Option V, ∀ H9 v, Ex H8 H9 → SqL K H9 v ((getW g n).map V.str) → ∃ a_1 xs, V.ref v = .ref a_1 ∧ SqL K H9 a_1 xs ∧ ∀ q_1, H9 q_1 = none → rAppend (.ref f) [.ref q_1] (upd H9 q_1 (.lst xs.reverse)) fun _ H1 => ∃ m', m' < m ∧ ∃ (s : M18.St Str) (y6 : Option V), m' = M18.mu (getW g) (g.map (·.1)) s ∧ [some (.str s0), some (.ref a), some (.ref d), some (.ref w), some (.ref p), some (.ref f), some (.str n)] = [some (.str s0), some (.ref a), some (.ref d), some (.ref w), some (.ref p), some (.ref f), y6] ∧ RI H d w p f dk0.length s m' H1 ∧ M18.run (getW g) (g.map (·.1)) (web_hk g) s = rFrom g s0 ds := fun y9 H9 v x9 hv => by
          refine ⟨v, _, rfl, hv, fun q1 hq1 => ?_⟩
          have nq8 : H8 q1 = none := fresh_back x9 hq1
          have nqH : H q1 = none := b8.fresh nq8 (by
            rw [List.mem_singleton]
            intro z
            rw [z, d8] at nq8
            cases nq8)
          have x10 : Ex H8 (upd H9 q1 (.lst ((getW g n).map V.str).reverse)) := x9.trans (Ex.new hq1)
          have qw : q1 ≠ w := fun z => by rw [z, w8] at nq8; cases nq8
          have qp : q1 ≠ p := fun z => by rw [z, p8] at nq8; cases nq8
          have qf : q1 ≠ f := fun z => by rw [z, f8] at nq8; cases nq8
          have q10 : upd H9 q1 (.lst ((getW g n).map V.str).reverse) q1 = some (.lst ((getW g n).reverse.map V.str)) := by rw [upd_same, List.map_reverse]
          generalize upd H9 q1 (.lst ((getW g n).map V.str).reverse) = H10 at x10 q10 ⊢
          have hs : M18.step (getW g) ⟨way, places, (n :: l) :: rest, done⟩ = .go ⟨n :: way, (n, way.length) :: places, getW g n :: l :: rest, done⟩ := by
            unfold M18.step
            simp only [if_neg hm, hpn]
          have less := M18.step_less (web_hk g) hs
          rw [hmu] at less
          have hqn : ∀ x ∈ r :: fr, x ≠ q1 := fun x hx z => by
            have := ins_some i8 hx
            obtain ⟨o, ho⟩ := this
            rw [z, nq8] at ho
            cases ho
          have lp := length_putK pl (Sum.inr n) (.int (way.length : Int))
          have hlen : fr.length + 1 ≤ 400 := by
            have h1 : M18.wL ((n :: l) :: rest) ≤ m := by
              rw [← hmu]
              unfold M18.mu
              exact Nat.le_add_right _ _
            have h2 := wL_len ((n :: l) :: rest)
            have h3 := Paired.length i8
            rw [List.length_cons, List.length_cons] at h3
            rw [List.length_cons] at h2
            omega
          refine z_rapp (x10 _ _ f8) (szlt (by simp; omega)) ?_
          refine ⟨_, less, _, _, rfl, rfl, ⟨(b8.trans (But.ex x10)).mut nf, by rw [upd_ne wf, x10 _ _ w8]; simp, ⟨_, by rw [upd_ne pf]; exact x10 _ _ p8, fun k => ?_, by omega⟩, ⟨q1 :: r :: fr, by rw [upd_same]; simp, ins_upd (.cons q10 (ins_ex x10 i8)) (fun x hx => ?_), List.nodup_cons.mpr ⟨fun z => hqn _ z rfl, hnd⟩, fun x hx => ?_⟩, ⟨dk, by rw [upd_ne df]; exact x10 _ _ d8, hdn, by omega⟩, by show way.length + 1 + _ ≤ 400; omega⟩, (M18.run_go hs).symm.trans hrun⟩
          · rw [valV_put, M18.place_cons]
            by_cases z : k = n
            · subst z
              rw [if_pos rfl, if_pos rfl] <;> rfl
            · rw [if_neg (fun y => z (Sum.inr.inj y)), if_neg (fun y => z y.symm), hpl k]
          · rcases List.mem_cons.mp hx with z | z
            · rw [z]; exact qf
            · exact (hfr x z).2.2.2
          · rcases List.mem_cons.mp hx with z | z
            · rw [z]
              exact ⟨nqH, qw, qp, qf⟩
            · exact hfr x z
        rcases web_opt (n := n) hk9 with ⟨hv, hg⟩ | ⟨v, hv, hs⟩
        · refine ⟨none, .inl ⟨kvs, Sum.inr n, ha9, rfl, hv.symm⟩, ?_⟩
          exact fin none _ e x9 (by rw [hg]; exact sq_of e9)
        · refine ⟨some (.ref v), .inl ⟨kvs, Sum.inr n, ha9, rfl, hv.symm⟩, ?_⟩
          exact fin none _ v x9 hs
theorem web_at {K : PySem.W.Frag} {H : Hp} : ∀ {kvs : List (Key × V)} {g : Web} {i : Nat} {k : Key} {v : V}, WebKV K H kvs g → kvs[i]? = some (k, v) → ∃ p, g[i]? = some p ∧ k = Sum.inr p.1 ∧ ∃ l, v = .ref l ∧ SqL K H l (p.2.map V.str)
  | _, _, _, _, _, .nil, h => by simp at h
  | _, _, 0, _, _, .cons e _, h => by
    cases h
    exact ⟨_, rfl, e.1, e.2⟩
  | _, _, i + 1, _, _, .cons _ r, h => web_at (i := i) r h
theorem ringL_cons {get : Str → List Str} {keys : List Str} {hk : ∀ n, n ∉ keys → get n = []} {n : Str} {ns done : List Str} : M18.ringL get keys hk (n :: ns) done = match M18.ringFrom get keys hk n done with
    | (some r, _) => some r
    | (none, d) => M18.ringL get keys hk ns d := by
  rw [M18.ringL]
  rcases M18.ringFrom get keys hk n done with ⟨_ | _, _⟩ <;> rfl
theorem nodup_len {l : List Str} : ∀ {m : List Str}, l.Nodup → (∀ x ∈ l, x ∈ m) → l.length ≤ m.length := by
  induction l with
  | nil => intro m _ _; exact Nat.zero_le _
  | cons x r ih =>
    intro m nd s
    have nd' := List.nodup_cons.mp nd
    have hm := s x (List.mem_cons_self ..)
    have := ih (m := m.erase x) nd'.2 fun y hy => (List.mem_erase_of_ne (fun z => nd'.1 (by rw [← z]; exact hy))).mpr (s y (List.mem_cons_of_mem _ hy))
    rw [List.length_erase_of_mem hm] at this
    have := List.length_pos_of_mem hm
    rw [List.length_cons]
    omega
theorem lock_ex {H H4 : Hp} {a d : Addr} {u z o : HO} (ha : H a = some u) (hd : H d = none) (b : But [d] (upd (upd H d o) a z) H4) : Ex H (upd H4 a u) := fun x y e => by
  by_cases h : x = a
  · subst h
    rw [upd_same, ← e, ha]
  · rw [upd_ne h]
    have xd : x ≠ d := ne_of_none e hd
    exact b x y (by simp [xd]) (by rw [upd_ne h, upd_ne xd]; exact e)
theorem vr_ring_in (vs H Q E) (h : sp_ring_in K vs H Q E) : (rd_ring_in K) { nx := fun _ H' => Q .non H', rt := Q } (start ["asks", "done", "name", "ring"] vs) H := by
  obtain ⟨a, g, kvs, rfl, ha, hk, h4, q⟩ := h
  unfold rd_ring_in
  walk_at "zz"
  refine z_dnew fun d hd => ?_
  walk_at "zz"
  have nad : a ≠ d := ne_of_none ha hd
  refine z_lock (d := a) (u := .dK kvs) (by rw [upd_ne nad]; exact ha) trivial fun od => ?_
  walk_at "zz"
  have h1a : upd (upd H d (.dK [])) a (.frz od (.dK kvs)) a = some (.frz od (.dK kvs)) := upd_same
  have h1d : upd (upd H d (.dK [])) a (.frz od (.dK kvs)) d = some (.dK []) := by rw [upd_ne nad.symm, upd_same]
  have hk1 : WebKV K (upd (upd H d (.dK [])) a (.frz od (.dK kvs))) kvs g := by
    refine Paired.mono (fun _ _ ⟨z, l, y, x⟩ => ⟨z, l, y, ?_⟩) hk
    rcases x with x | x
    · refine .inl ?_
      have la : l ≠ a := fun z => by
        subst z
        rcases x with x | ⟨ob, x⟩ <;> rw [ha] at x <;> cases x
      have ld : l ≠ d := fun z => by
        subst z
        rcases x with x | ⟨ob, x⟩ <;> rw [hd] at x <;> cases x
      rcases x with x | ⟨ob, x⟩
      · exact .inl (by rw [upd_ne la, upd_ne ld]; exact x)
      · exact .inr ⟨ob, by rw [upd_ne la, upd_ne ld]; exact x⟩
    · exact .inr x
  have kl := Paired.length hk
  refine z_FK h1a (fun i σ' H' => ∃ y2 y3 dk ds, σ' = [some (.ref a), some (.ref d), y2, y3] ∧ But [d] (upd (upd H d (.dK [])) a (.frz od (.dK kvs))) H' ∧ H' d = some (.dK dk) ∧ Dn dk ds ∧ dk.length ≤ i * 400 ∧ M18.ringL (getW g) (g.map (·.1)) (web_hk g) ((g.map (·.1)).drop i) ds = ringAll g) ?_ ?_ ?_ ?_
  · exact ⟨_, _, [], [], rfl, But.refl, h1d, fun n => rfl, Nat.zero_le _, rfl⟩
  · rintro i σ' H' hi ⟨y2, y3, dk, ds, rfl, b, _⟩
    exact b _ _ (by simp [nad]) h1a
  · rintro i k v σ' H2 hi hkv ⟨y2, y3, dk, ds, rfl, b, hd2, hdn, hdl, hrun⟩
    obtain ⟨p, hp, rfl, l, rfl, hs⟩ := web_at hk1 hkv
    have nm : (g.map (·.1))[i]? = some p.1 := by rw [List.getElem?_map, hp] <;> rfl
    have ha2 : Rd H2 a (.dK kvs) := .inr ⟨od, b _ _ (by simp [nad]) h1a⟩
    have ed : (g.map (·.1)).drop i = p.1 :: (g.map (·.1)).drop (i + 1) := by
      obtain ⟨hlt, he⟩ := List.getElem?_eq_some_iff.mp nm
      rw [← he, List.getElem_cons_drop]
    rw [ed] at hrun
    walk_at "zz"
    refine ⟨p.1, a, d, g, kvs, dk, ds, rfl, ha2, web_but b h1d hk1, h4, nad, hd2, hdn, by omega, fun H3 dk3 b3 d3 n3 l3 => ?_⟩
    have e2 : rFrom g p.1 ds = ((rFrom g p.1 ds).1, (rFrom g p.1 ds).2) := rfl
    rw [ringL_cons] at hrun
    cases e : (rFrom g p.1 ds).1 with
    | none =>
      rw [e] at e2
      rw [show M18.ringFrom (getW g) (g.map (·.1)) (web_hk g) p.1 ds = _ from e2] at hrun
      unfold RetRing
      walk_at "zz"
      refine ite_f ?_
      walk_at "zz"
      exact ⟨_, _, dk3, _, rfl, b.trans b3, d3, n3, by omega, hrun⟩
    | some x =>
      rw [e] at e2
      rw [show M18.ringFrom (getW g) (g.map (·.1)) (web_hk g) p.1 ds = _ from e2] at hrun
      have hrun : some x = ringAll g := hrun
      unfold RetRing
      intro p3 H4 hp3 e4 h4'
      walk_at "zz"
      rw [decide_eq_false (by intro z; cases z)]
      refine ite_t ?_
      walk_at "zz"
      have a3 := b3 _ _ (by simp [nad]) (b _ _ (by simp [nad]) h1a)
      have a4 := e4 _ _ a3
      have pa : p3 ≠ a := fun z => by rw [z, a3] at hp3; cases hp3
      have pd : p3 ≠ d := fun z => by rw [z, d3] at hp3; cases hp3
      refine ⟨a4, ?_⟩
      have bb := (b.trans b3).trans (But.ex e4)
      rw [← hrun] at q
      refine q p3 _ ?_ (lock_ex ha hd bb) (by rw [upd_ne pa]; exact h4')
      have := (b.trans b3).fresh hp3 (by simp [pd])
      rw [upd_ne pa, upd_ne pd] at this
      exact this
  · rintro σ' H2 ⟨y2, y3, dk, ds, rfl, b, hd2, hdn, hdl, hrun⟩
    refine ⟨b _ _ (by simp [nad]) h1a, ?_⟩
    walk_at "zz"
    rw [kl, show (g.map (·.1)).drop g.length = [] by simp] at hrun
    have hrun : none = ringAll g := hrun
    rw [← hrun] at q
    exact RetV.go q (lock_ex ha hd b)
theorem ring_keys {g : Web} {r : List Str} (h : M18.IsRing (getW g) r) : ∀ x ∈ r, x ∈ g.map (·.1) := fun x hx => by
  obtain ⟨i, hi, e⟩ := List.mem_iff_getElem.mp hx
  have hl : (r.drop 1 ++ r.take 1).length = r.length := by
    rw [List.length_append, List.length_drop, List.length_take]
    omega
  have hm := h.2.2 (x, (r.drop 1 ++ r.take 1)[i]'(by omega)) (List.mem_of_getElem? (i := i) (by
    rw [List.getElem?_zip_eq_some]
    exact ⟨by rw [← e]; exact List.getElem?_eq_getElem hi, List.getElem?_eq_getElem (by omega)⟩))
  refine Decidable.byContradiction fun hn => ?_
  rw [web_hk g x hn] at hm
  cases hm
theorem getW_mem {g : Web} {n : Str} (h : n ∈ g.map (·.1)) : ∃ p ∈ g, p.1 = n ∧ getW g n = p.2 := by
  unfold getW
  cases e : g.find? fun p => decide (p.1 = n) with
  | none =>
    obtain ⟨p, hp, rfl⟩ := List.mem_map.mp h
    exact absurd (List.find?_eq_none.mp e p hp) (by simp)
  | some p =>
    have := List.find?_some e
    exact ⟨p, List.mem_of_find?_eq_some e, of_decide_eq_true this, rfl⟩
theorem nodup_fst {g : Web} (nd : (g.map (·.1)).Nodup) {p p' : Str × List Str} (h : p ∈ g) (h' : p' ∈ g) (e : p.1 = p'.1) : p = p' := by
  induction g with
  | nil => cases h
  | cons x r ih =>
    have nd' := List.nodup_cons.mp (show (x.1 :: r.map (·.1)).Nodup from nd)
    rcases List.mem_cons.mp h with h1 | h1 <;> rcases List.mem_cons.mp h' with h2 | h2
    · rw [h1, h2]
    · exact absurd (show x.1 ∈ r.map (·.1) from List.mem_map.mpr ⟨p', h2, by rw [← e, h1]⟩) nd'.1
    · exact absurd (show x.1 ∈ r.map (·.1) from List.mem_map.mpr ⟨p, h1, by rw [e, h2]⟩) nd'.1
    · exact ih nd'.2 h1 h2
theorem getW_sub {g gL : Web} (nd : (g.map (·.1)).Nodup) (s : ∀ p ∈ gL, p ∈ g) {n : Str} (h : n ∈ gL.map (·.1)) : getW gL n = getW g n := by
  obtain ⟨p, hp, e, e2⟩ := getW_mem h
  obtain ⟨p', hp', e', e2'⟩ := getW_mem (g := g) (n := n) (List.mem_map.mpr ⟨p, s p hp, e⟩)
  rw [e2, e2', nodup_fst nd (s p hp) hp' (e.trans e'.symm)]
theorem web_some {K : PySem.W.Frag} {H : Hp} {n : Str} : ∀ {kvs : List (Key × V)} {g : Web}, WebKV K H kvs g → (valV kvs (Sum.inr n)).isSome = decide (n ∈ g.map (·.1))
  | _, _, .nil => rfl
  | kv :: kvs, p :: g, .cons e r => by
    obtain ⟨ek, l, el, hs⟩ := e
    by_cases z : p.1 = n
    · rw [valV_pos (by rw [ek, z])]
      simp [z]
    · rw [valV_neg (by rw [ek]; exact fun y => z (Sum.inr.inj y)), web_some r]
      have z' : ¬ n = p.1 := fun y => z y.symm
      simp [z']
theorem web_drop {K : PySem.W.Frag} {H : Hp} {n : Str} : ∀ {kvs : List (Key × V)} {g : Web}, WebKV K H kvs g → WebKV K H (dropK kvs (Sum.inr n)) (g.filter fun p => decide (p.1 ≠ n))
  | _, _, .nil => .nil
  | kv :: kvs, p :: g, .cons e r => by
    have ih := web_drop (n := n) r
    unfold dropK at ih ⊢
    by_cases z : p.1 = n
    · have ek : kv.1 = Sum.inr n := by rw [e.1, z]
      rw [List.filter_cons_of_neg (by simp [ek]), List.filter_cons_of_neg (by simp [z])]
      exact ih
    · have ek : ¬ kv.1 = Sum.inr n := fun y => z (Sum.inr.inj (e.1.symm.trans y))
      rw [List.filter_cons_of_pos (by simp [ek]), List.filter_cons_of_pos (by simp [z])]
      exact .cons e ih
theorem given_filter (zs : List Str) (P : Str → Bool) : Evl.given zs.length (fun i => P (zs.getD i ⟨#[]⟩)) (fun i => V.str (zs.getD i ⟨#[]⟩)) = (zs.filter P).map V.str := by
  unfold Evl.given
  have e : (List.range zs.length).map (fun i => zs.getD i ⟨#[]⟩) = zs := by
    refine List.ext_getElem (by simp) fun i h1 h2 => ?_
    simp [List.getD_eq_getElem?_getD, List.getElem?_eq_getElem h2]
  have e2 : zs.filter P = ((List.range zs.length).filter fun i => P (zs.getD i ⟨#[]⟩)).map (fun i => zs.getD i ⟨#[]⟩) := by
    conv => lhs; rw [← e]
    rw [List.filter_map]
    rfl
  rw [e2, List.map_map]
  rfl
theorem filt_less {α : Type} [DecidableEq α] {L G : List α} (s : ∀ x ∈ G, x ∈ L) (ne : G ≠ []) : (L.filter fun n => !decide (n ∈ G)).length < L.length := by
  obtain ⟨x, hx⟩ := List.exists_mem_of_ne_nil G ne
  refine Nat.lt_of_le_of_ne (List.length_filter_le ..) fun z => ?_
  have := List.length_filter_eq_length_iff.mp z x (s x hx)
  simp [hx] at this
theorem gone_sub {α : Type} [DecidableEq α] {get : α → List α} {L : List α} : ∀ x ∈ M18.gone get L, x ∈ L := fun x hx => (List.mem_filter.mp hx).1
theorem vr_L_has_ring (vs H Q E) (h : sp_L_has_ring K vs H Q E) : (rd_L_has_ring K) { nx := fun _ H' => Q .non H', rt := Q } (start ["_law_asks", "_law_left", "_law_going", "_law_gone", "_law_name", "_law_one"] vs) H := by
  obtain ⟨a, g, kvs, rfl, ha, hk, ⟨hok, h40, hnd⟩, q⟩ := h
  unfold rd_L_has_ring
  walk_at "zz"
  refine ⟨a, kvs, rfl, ha, fun d hd => ?_⟩
  walk_at "zz"
  refine z_while (fun m σ' H' => ∃ (kL : List (Key × V)) (gL : Web) (go : Bool) (y3 y4 y5 : Option V), σ' = [some (.ref a), some (.ref d), some (.bl go), y3, y4, y5] ∧ Ex H H' ∧ H' d = some (.dK kL) ∧ WebKV K H kL gL ∧ (∀ p ∈ gL, p ∈ g) ∧ (gL.map (·.1)).Nodup ∧ (∀ r, M18.IsRing (getW g) r → ∀ x ∈ r, x ∈ gL.map (·.1)) ∧ (go = false → M18.gone (getW g) (gL.map (·.1)) = []) ∧ m = gL.length + (if go = true then 1 else 0)) (g.length + 1) ?_ ?_
  · exact ⟨kvs, g, true, _, _, _, rfl, Ex.new hd, upd_same, hk, fun _ h => h, hnd, fun r hr => ring_keys hr, (fun h => by cases h), rfl⟩
  rintro m σ' H1 ⟨kL, gL, go, y3, y4, y5, rfl, e1, hd1, hkL, hsub, hndL, hring, hgo, rfl⟩
  walk_at "zz"
  have kl := Paired.length hkL
  cases go with
  | false =>
    refine ite_f ?_
    walk_at "zz"
    refine z_dnew fun c hc => ?_
    refine ⟨d, c, kL, rfl, rfl, by rw [upd_ne (ne_of_none hd1 hc)]; exact hd1, upd_same, ?_⟩
    refine (q (!kL.isEmpty) (fun r hr => ?_) (fun dl ho hc => ?_)).go (e1.trans (Ex.new hc))
    · obtain ⟨x, hx⟩ := List.exists_mem_of_ne_nil r hr.1
      have := hring r hr x hx
      cases kL with
      | nil =>
        cases gL with
        | nil => cases this
        | cons _ _ => simp at kl
      | cons _ _ => rfl
    · cases gL with
      | nil =>
        cases kL with
        | nil => rfl
        | cons _ _ => simp at kl
      | cons p r =>
        refine absurd (hgo rfl) (M18.gone_some dl ho ⟨p.1, by simp, hc p.1 (List.mem_map.mpr ⟨p, hsub p (List.mem_cons_self ..), rfl⟩)⟩)
  | true =>
    refine ite_t ⟨_, fun _ _ h => h, ?_⟩
    walk_at "zz"
    refine z_lock hd1 trivial fun od => ?_
    walk_at "zz"
    have x1 : Ex H (upd H1 d (.frz od (.dK kL))) := e1.mut hd
    have d1 : upd H1 d (.frz od (.dK kL)) d = some (.frz od (.dK kL)) := upd_same
    have nlen : (gL.map (·.1)).length = gL.length := List.length_map ..
    have glen : gL.length ≤ 40 := by
      rw [← nlen]
      refine Nat.le_trans (nodup_len hndL (m := g.map (·.1)) fun x hx => ?_) (by rw [List.length_map]; exact h40)
      obtain ⟨p, hp, rfl⟩ := List.mem_map.mp hx
      exact List.mem_map.mpr ⟨p, hsub p hp, rfl⟩
    refine z_CK d1 (by omega) (fun i => (fun n => (getW g n).all fun m => !decide (m ∈ gL.map (·.1))) ((gL.map (·.1)).getD i ⟨#[]⟩)) (fun i => .str ((gL.map (·.1)).getD i ⟨#[]⟩)) (fun _ => rfl) (fun i k u H2 hi hkv e2 => fun H3 e3 Q' q' => ?_) (fun i k u H2 hi hkv e2 _ => fun H3 e3 Q' q' => ?_) (fun p H2 hp e2 h2 => ?_)
    · obtain ⟨pp, hpp, rfl, l, rfl, hs⟩ := web_at hkL hkv
      have nm : (gL.map (·.1))[i]? = some pp.1 := by rw [List.getElem?_map, hpp] <;> rfl
      have en : (gL.map (·.1)).getD i ⟨#[]⟩ = pp.1 := by rw [List.getD_eq_getElem?_getD, nm] <;> rfl
      try dsimp only at q'
      rw [en] at q'
      have x3 := x1.trans (e2.trans e3)
      have d3 := (e2.trans e3) _ _ d1
      have hin : pp.1 ∈ gL.map (·.1) := List.mem_of_getElem? nm
      have hpg := hsub pp (List.mem_of_getElem? hpp)
      obtain ⟨hp30, hp4, hpz⟩ := hok pp hpg
      have eg : getW g pp.1 = pp.2 := by
        obtain ⟨p', hp', e', e2'⟩ := getW_mem (g := g) (n := pp.1) (List.mem_map.mpr ⟨pp, hpg, rfl⟩)
        rw [e2', nodup_fst hnd hp' hpg e']
      have ev : valV kL (Sum.inr pp.1) = some (.ref l) := by
        rcases web_opt (n := pp.1) hkL with ⟨hv, _⟩ | ⟨v, hv, _⟩
        · have := web_some (n := pp.1) hkL
          rw [hv, decide_eq_true hin] at this
          cases this
        · obtain ⟨kk, hkk⟩ := List.getElem?_eq_some_iff.mp hkv
          clear q
          have : ∀ {kvs : List (Key × V)} {g : Web} {i : Nat}, WebKV K H kvs g → (g.map (·.1)).Nodup → kvs[i]? = some (Sum.inr pp.1, .ref l) → valV kvs (Sum.inr pp.1) = some (.ref l) := by
            intro kvs g i w nd
            induction w generalizing i with
            | nil => intro h; simp at h
            | @cons kv p ks gs e r ih =>
              intro h
              have nd' := List.nodup_cons.mp (show (p.1 :: gs.map (·.1)).Nodup from nd)
              cases i with
              | zero =>
                cases h
                exact valV_pos rfl
              | succ i =>
                obtain ⟨p', hp', hk', _⟩ := web_at r h
                have ne : ¬ kv.1 = Sum.inr pp.1 := fun z => by
                  have z1 : p.1 = pp.1 := Sum.inr.inj (e.1.symm.trans z)
                  have z2 : pp.1 = p'.1 := Sum.inr.inj hk'
                  exact nd'.1 (List.mem_map.mpr ⟨p', List.mem_of_getElem? hp', (z1.trans z2).symm⟩)
                rw [valV_neg ne]
                exact ih nd'.2 h
          exact this hkL hndL hkv
      walk_at "zz"
      refine ⟨d, .ref l, rfl, .inl ⟨kL, Sum.inr pp.1, .inr ⟨od, d3⟩, rfl, ev.symm⟩, ?_⟩
      refine z_CL (ex_l x3 hs) (by rw [List.length_map]; omega) (fun j => (fun o => decide (o ∈ gL.map (·.1))) (pp.2.getD j ⟨#[]⟩)) (fun j => .str (pp.2.getD j ⟨#[]⟩)) (fun _ => rfl) (fun j y H4 hj hy e4 => fun H5 e5 Q2 q2 => ?_) (fun j y H4 hj hy e4 _ => fun H5 e5 Q2 q2 => ?_) (fun p4 H4 hp4 e4 h4 => ?_)
      · rw [List.getElem?_map] at hy
        obtain ⟨z, hz, rfl⟩ := Option.map_eq_some_iff.mp hy
        have ez : pp.2.getD j ⟨#[]⟩ = z := by rw [List.getD_eq_getElem?_getD, hz] <;> rfl
        try dsimp only at q2
        rw [ez] at q2
        walk_at "zz"
        refine ⟨d, _, rfl, .inl ⟨kL, Sum.inr z, .inr ⟨od, e5 _ _ (e4 _ _ d3)⟩, rfl, rfl⟩, ?_⟩
        walk_at "zz"
        rw [web_some hkL]
        exact q2 _ (Ex.refl _)
      · rw [List.getElem?_map] at hy
        obtain ⟨z, hz, rfl⟩ := Option.map_eq_some_iff.mp hy
        have ez : pp.2.getD j ⟨#[]⟩ = z := by rw [List.getD_eq_getElem?_getD, hz] <;> rfl
        try dsimp only at q2
        rw [ez] at q2
        walk_at "zz"
        exact q2 _ (Ex.refl _)
      rw [List.length_map] at h4
      have h4 : H4 p4 = some (.lst ((pp.2.filter fun o => decide (o ∈ gL.map (·.1))).map V.str)) := h4.trans (congrArg (fun z => some (HO.lst z)) (given_filter pp.2 fun o => decide (o ∈ gL.map (·.1))))
      walk_at "zz"
      refine ⟨szl (by simp), fun c hc => ?_⟩
      have x5 := Ex.new (o := .lst []) hc
      obtain ⟨t1, t2, t3⟩ := strs_dp (K := K) (H := upd H4 c (.lst [])) (zs := pp.2.filter fun o => decide (o ∈ gL.map (·.1))) fun z hz => ⟨30, hpz z (List.mem_filter.mp hz).1⟩
      refine z_eqD (b := (pp.2.all fun m => !decide (m ∈ gL.map (·.1)))) (.lst (sq_of (x5 _ _ h4)) t1) (.lst (sq_of upd_same) .nil) t2 rfl (by show PyData.depthAll _ + 1 ≤ 64; rw [t3]; decide) (by decide) ⟨fun z => ?_, fun z => ?_⟩ ?_
      · have : (pp.2.filter fun o => decide (o ∈ gL.map (·.1))) = [] := List.filter_eq_nil_iff.mpr fun y hy => by
          have := List.all_eq_true.mp z y hy
          simpa using this
        rw [this] <;> rfl
      · have z2 := List.map_eq_nil_iff.mp (PyData.list.inj z)
        exact List.all_eq_true.mpr fun y hy => by
          have := List.filter_eq_nil_iff.mp z2 y hy
          simpa using this
      · walk_at "zz"
        rw [eg] at q'
        exact q' _ (e4.trans x5)
    · obtain ⟨pp, hpp, rfl, l, rfl, hs⟩ := web_at hkL hkv
      have nm : (gL.map (·.1))[i]? = some pp.1 := by rw [List.getElem?_map, hpp] <;> rfl
      have en : (gL.map (·.1)).getD i ⟨#[]⟩ = pp.1 := by rw [List.getD_eq_getElem?_getD, nm] <;> rfl
      try dsimp only at q'
      rw [en] at q'
      walk_at "zz"
      exact q' _ (Ex.refl _)
    rw [kl, ← nlen] at h2
    have h2 : H2 p = some (.lst ((M18.gone (getW g) (gL.map (·.1))).map V.str)) := h2.trans (congrArg (fun z => some (HO.lst z)) (given_filter (gL.map (·.1)) fun n => (getW g n).all fun m => !decide (m ∈ gL.map (·.1))))
    have d2 := e2 _ _ d1
    have pd : p ≠ d := fun z => by rw [z, upd_same] at hp; cases hp
    walk_at "zz"
    refine ⟨d2, ?_⟩
    walk_at "zz"
    have x3 : Ex H (upd H2 d (.dK kL)) := (x1.trans e2).mut hd
    have h3 : upd H2 d (.dK kL) p = some (.lst ((M18.gone (getW g) (gL.map (·.1))).map V.str)) := by rw [upd_ne pd]; exact h2
    have d3 : upd H2 d (.dK kL) d = some (.dK kL) := upd_same
    generalize upd H2 d (.dK kL) = H3 at x3 h3 d3 ⊢
    have gnd : (M18.gone (getW g) (gL.map (·.1))).Nodup := hndL.filter _
    have glen2 : (M18.gone (getW g) (gL.map (·.1))).length ≤ 40 := Nat.le_trans (List.length_filter_le ..) (by omega)
    have gok : ∀ z ∈ M18.gone (getW g) (gL.map (·.1)), okT z 30 := fun z hz => by
      obtain ⟨pp, hpp, rfl⟩ := List.mem_map.mp (gone_sub z hz)
      exact (hok pp (hsub pp hpp)).1
    refine z_FL (sq_of h3) (fun i σ' H' => ∃ (y4 : Option V) (kL' : List (Key × V)) (gL' : Web), σ' = [some (.ref a), some (.ref d), some (.bl true), some (.ref p), y4, y5] ∧ Ex H H' ∧ H' p = some (.lst ((M18.gone (getW g) (gL.map (·.1))).map V.str)) ∧ H' d = some (.dK kL') ∧ WebKV K H kL' gL' ∧ (∀ x ∈ gL', x ∈ gL) ∧ gL'.map (·.1) = (gL.map (·.1)).filter fun n => !decide (n ∈ (M18.gone (getW g) (gL.map (·.1))).take i)) ?_ ?_ ?_ ?_
    · exact ⟨_, kL, gL, rfl, x3, h3, d3, hkL, fun _ h => h, (List.filter_eq_self.mpr (by simp)).symm⟩
    · rintro i σ' H' hi ⟨y4, kL', gL', rfl, x, hp', _⟩
      exact sq_of hp'
    · rintro i x σ' H4 hi hx ⟨y4, kL', gL', rfl, x4, hp4, hd4, hw4, hs4, hn4⟩
      rw [List.getElem?_map] at hx
      obtain ⟨n, hn, rfl⟩ := Option.map_eq_some_iff.mp hx
      have hin : n ∈ gL'.map (·.1) := by
        rw [hn4]
        refine List.mem_filter.mpr ⟨gone_sub n (List.mem_of_getElem? hn), ?_⟩
        simpa using not_ahead gnd hn
      obtain ⟨v, hv⟩ : ∃ v, valV kL' (Sum.inr n) = some v := by
        have := web_some (n := n) hw4
        rw [decide_eq_true hin] at this
        exact Option.isSome_iff_exists.mp this
      walk_at "zz"
      refine ⟨d, rfl, .inl ⟨kL', .inl hd4⟩, ?_⟩
      walk_at "zz"
      refine ⟨kL', Sum.inr n, v, hd4, rfl, hv, ?_⟩
      refine ⟨_, _, _, rfl, x4.mut hd, by rw [upd_ne pd]; exact hp4, upd_same, web_drop hw4, fun x hx => hs4 x (List.mem_filter.mp hx).1, ?_⟩
      have e5 : (gL'.filter fun p => decide (p.1 ≠ n)).map (·.1) = (gL'.map (·.1)).filter fun m => decide (m ≠ n) := by
        rw [List.filter_map]
        rfl
      rw [e5, hn4, List.filter_filter]
      refine List.filter_congr fun m _ => ?_
      rw [List.take_add_one, hn]
      by_cases z : m = n
      · subst z
        simp
      · simp [z]
    · rintro σ' H4 ⟨y4, kL', gL', rfl, x4, hp4, hd4, hw4, hs4, hn4⟩
      rw [List.length_map, List.take_length] at hn4
      walk_at "zz"
      refine ⟨szl (by simp), fun c hc => ?_⟩
      have x5 := Ex.new (o := .lst []) hc
      obtain ⟨t1, t2, t3⟩ := strs_dp (K := K) (H := upd H4 c (.lst [])) (zs := M18.gone (getW g) (gL.map (·.1))) fun z hz => ⟨30, gok z hz⟩
      refine z_neNil (sq_of (x5 _ _ hp4)) t1 (sq_of upd_same) t2 (by rw [t3]; decide) ?_
      walk_at "zz"
      have l' : gL'.length = ((gL.map (·.1)).filter fun n => !decide (n ∈ M18.gone (getW g) (gL.map (·.1)))).length := by rw [← hn4, List.length_map]
      refine ⟨_, ?_, kL', gL', _, _, _, _, rfl, x4.trans x5, x5 _ _ hd4, hw4, fun x hx => hsub x (hs4 x hx), by rw [hn4]; exact hndL.filter _, fun r hr x hx => ?_, fun z => ?_, rfl⟩
      · by_cases ge : M18.gone (getW g) (gL.map (·.1)) = []
        · rw [l', ge, List.filter_eq_self.mpr (by simp), List.length_map]
          simp
        · have := filt_less (L := gL.map (·.1)) gone_sub ge
          have e6 : (!((M18.gone (getW g) (gL.map (·.1))).map V.str).isEmpty) = true := by
            cases hh : M18.gone (getW g) (gL.map (·.1)) with
            | nil => exact absurd hh ge
            | cons _ _ => rfl
          rw [l', if_pos e6, if_pos rfl]
          omega
      · rw [hn4]
        refine List.mem_filter.mpr ⟨hring r hr x hx, ?_⟩
        have := M18.gone_ring hr (hring r hr) x hx
        simpa using this
      · have ge : M18.gone (getW g) (gL.map (·.1)) = [] := by
          cases hh : M18.gone (getW g) (gL.map (·.1)) with
          | nil => rfl
          | cons _ _ => rw [hh] at z; cases z
        have : gL'.map (·.1) = gL.map (·.1) := by
          rw [hn4, ge]
          exact List.filter_eq_self.mpr (by simp)
        rw [this, ge]
theorem given_map (zs : List Str) (f : Str → Str) : Evl.given zs.length (fun _ => true) (fun i => V.str (f (zs.getD i ⟨#[]⟩))) = (zs.map f).map V.str := by
  rw [given_all]
  refine List.ext_getElem (by simp) fun i h1 h2 => ?_
  have hi : i < zs.length := by simpa using h1
  simp [List.getD_eq_getElem?_getD, List.getElem?_eq_getElem hi]
def putW (g : Web) (n : Str) (zs : List Str) : Web := if (g.any fun p => decide (p.1 = n)) = true then g.map (fun p => if p.1 = n then (p.1, zs) else p) else g ++ [(n, zs)]
theorem web_any {K : PySem.W.Frag} {H : Hp} {n : Str} : ∀ {kvs : List (Key × V)} {g : Web}, WebKV K H kvs g → (kvs.any fun kv => decide (kv.1 = Sum.inr n)) = g.any fun p => decide (p.1 = n)
  | _, _, .nil => rfl
  | kv :: kvs, p :: g, .cons e r => by
    rw [List.any_cons, List.any_cons, web_any r, e.1]
    by_cases z : p.1 = n
    · simp [z]
    · have : ¬ (Sum.inr p.1 : Key) = Sum.inr n := fun y => z (Sum.inr.inj y)
      simp [z]
theorem web_map {K : PySem.W.Frag} {H : Hp} {n : Str} {l : Addr} {zs : List Str} (hl : SqL K H l (zs.map V.str)) : ∀ {kvs : List (Key × V)} {g : Web}, WebKV K H kvs g → WebKV K H (kvs.map fun kv => if kv.1 = Sum.inr n then (kv.1, .ref l) else kv) (g.map fun p => if p.1 = n then (p.1, zs) else p)
  | _, _, .nil => .nil
  | kv :: kvs, p :: g, .cons e r => by
    rw [List.map_cons, List.map_cons]
    refine .cons ?_ (web_map hl r)
    by_cases z : p.1 = n
    · have : kv.1 = Sum.inr n := by rw [e.1, z]
      rw [if_pos this, if_pos z]
      exact ⟨e.1, l, rfl, hl⟩
    · have : ¬ kv.1 = Sum.inr n := fun y => z (Sum.inr.inj (e.1.symm.trans y))
      rw [if_neg this, if_neg z]
      exact e
theorem web_put {K : PySem.W.Frag} {H : Hp} {n : Str} {l : Addr} {zs : List Str} {kvs : List (Key × V)} {g : Web} (w : WebKV K H kvs g) (hl : SqL K H l (zs.map V.str)) : WebKV K H (putK kvs (Sum.inr n) (.ref l)) (putW g n zs) := by
  unfold putK putW
  rw [web_any w]
  by_cases z : (g.any fun p => decide (p.1 = n)) = true
  · rw [if_pos z, if_pos z]
    exact web_map hl w
  · rw [if_neg z, if_neg z]
    exact Paired.snoc w ⟨rfl, l, rfl, hl⟩
theorem putW_mem {P : Str × List Str → Prop} {g : Web} {n : Str} {zs : List Str} (h : ∀ p ∈ g, P p) (hn : P (n, zs)) : ∀ p ∈ putW g n zs, P p := fun p hp => by
  unfold putW at hp
  split at hp
  · obtain ⟨x, hx, rfl⟩ := List.mem_map.mp hp
    by_cases z : x.1 = n
    · rw [if_pos z, z]
      exact hn
    · rw [if_neg z]
      exact h x hx
  · rcases List.mem_append.mp hp with hp | hp
    · exact h p hp
    · rw [List.mem_singleton.mp hp]
      exact hn
theorem putW_keys {g : Web} {n : Str} {zs : List Str} (nd : (g.map (·.1)).Nodup) : ((putW g n zs).map (·.1)).Nodup ∧ (putW g n zs).length ≤ g.length + 1 := by
  unfold putW
  by_cases z : (g.any fun p => decide (p.1 = n)) = true
  · rw [if_pos z]
    refine ⟨?_, by rw [List.length_map]; omega⟩
    have : (g.map fun p => if p.1 = n then (p.1, zs) else p).map (·.1) = g.map (·.1) := by
      rw [List.map_map]
      refine List.map_congr_left fun p _ => ?_
      show (if p.1 = n then (p.1, zs) else p).1 = p.1
      split <;> rfl
    rw [this]
    exact nd
  · rw [if_neg z]
    refine ⟨?_, by simp⟩
    rw [List.map_append]
    refine List.nodup_append.mpr ⟨nd, by simp, fun x hx y hy e => z ?_⟩
    obtain ⟨p, hp, rfl⟩ := List.mem_map.mp hx
    have hy : y = n := by simpa using hy
    exact List.any_eq_true.mpr ⟨p, hp, decide_eq_true (e.trans hy)⟩
theorem web_keysV {K : PySem.W.Frag} {H : Hp} : ∀ {kvs : List (Key × V)} {g : Web}, WebKV K H kvs g → (kvs.map fun kv => kV kv.1) = (g.map (·.1)).map V.str
  | _, _, .nil => rfl
  | kv :: kvs, p :: g, .cons e r => by
    rw [List.map_cons, List.map_cons, List.map_cons, web_keysV r, e.1] <;> rfl
theorem web_val_at {K : PySem.W.Frag} {H : Hp} {n : Str} {v : V} : ∀ {kvs : List (Key × V)} {g : Web} {i : Nat}, WebKV K H kvs g → (g.map (·.1)).Nodup → kvs[i]? = some (Sum.inr n, v) → valV kvs (Sum.inr n) = some v
  | _, _, _, .nil, _, h => by simp at h
  | kv :: kvs, p :: gs, 0, .cons e r, nd, h => by
    cases h
    exact valV_pos rfl
  | kv :: kvs, p :: gs, i + 1, .cons e r, nd, h => by
    have nd' := List.nodup_cons.mp (show (p.1 :: gs.map (·.1)).Nodup from nd)
    have h : kvs[i]? = some (Sum.inr n, v) := h
    obtain ⟨p', hp', hk', _⟩ := web_at r h
    have ne : ¬ kv.1 = Sum.inr n := fun z => by
      have z1 : p.1 = n := Sum.inr.inj (e.1.symm.trans z)
      have z2 : n = p'.1 := Sum.inr.inj hk'
      exact nd'.1 (List.mem_map.mpr ⟨p', List.mem_of_getElem? hp', (z1.trans z2).symm⟩)
    rw [valV_neg ne]
    exact web_val_at r nd'.2 h
theorem pr_app {α β : Type} {F : α → β → Prop} : ∀ {a c : List α} {b d : List β}, Paired F a b → Paired F c d → Paired F (a ++ c) (b ++ d)
  | _, _, _, _, .nil, h => h
  | _, _, _, _, .cons e r, h => .cons e (pr_app r h)
theorem pr_drop {α β : Type} {F : α → β → Prop} : ∀ (i : Nat) {a : List α} {b : List β}, Paired F a b → Paired F (a.drop i) (b.drop i)
  | 0, _, _, h => h
  | _ + 1, _, _, .nil => .nil
  | i + 1, _, _, .cons _ r => pr_drop i r
theorem pr_take {α β : Type} {F : α → β → Prop} : ∀ (i : Nat) {a : List α} {b : List β}, Paired F a b → Paired F (a.take i) (b.take i)
  | 0, _, _, _ => .nil
  | _ + 1, _, _, .nil => .nil
  | i + 1, _, _, .cons e r => .cons e (pr_take i r)
theorem pr_rev {α β : Type} {F : α → β → Prop} : ∀ {a : List α} {b : List β}, Paired F a b → Paired F a.reverse b.reverse
  | _, _, .nil => .nil
  | _, _, .cons e r => by
    rw [List.reverse_cons, List.reverse_cons]
    exact Paired.snoc (pr_rev r) e
theorem valV_key : ∀ {kvs : List (Key × V)} {k : Key}, k ∉ kvs.map (·.1) → valV kvs k = none
  | [], _, _ => rfl
  | p :: r, k, h => by
    rw [valV_neg (fun z => h (by simp [z])), valV_key fun z => h (List.mem_cons_of_mem _ z)]
theorem merge_nodup : ∀ (more kvs : List (Key × V)), ((kvs ++ more).map (·.1)).Nodup → mergeK kvs more = kvs ++ more
  | [], kvs, _ => by rw [List.append_nil] <;> rfl
  | p :: r, kvs, h => by
    have hk : p.1 ∉ kvs.map (·.1) := fun z => by
      rw [List.map_append, List.map_cons] at h
      exact (List.nodup_append.mp h).2.2 p.1 z p.1 (by simp) rfl
    have e : putK kvs p.1 p.2 = kvs ++ [p] := putK_new p.2 (valV_key hk)
    show mergeK (putK kvs p.1 p.2) r = _
    rw [e, merge_nodup r (kvs ++ [p]) (by simpa using h)]
    simp
theorem web_keysK {K : PySem.W.Frag} {H : Hp} : ∀ {kvs : List (Key × V)} {g : Web}, WebKV K H kvs g → kvs.map (·.1) = (g.map (·.1)).map (Sum.inr : Str → Key)
  | _, _, .nil => rfl
  | kv :: kvs, p :: g, .cons e r => by
    rw [List.map_cons, List.map_cons, List.map_cons, web_keysK r, e.1]
theorem web_merge {K : PySem.W.Frag} {H : Hp} {kvs : List (Key × V)} {g : Web} (w : WebKV K H kvs g) (nd : (g.map (·.1)).Nodup) : mergeK [] kvs = kvs := by
  refine merge_nodup kvs [] ?_
  rw [List.nil_append, web_keysK w]
  exact List.Pairwise.map _ (fun a b h z => h (Sum.inr.inj z)) nd
theorem okW_turn {g : Web} (h : okW g) (t : Nat) : okW (g.drop t ++ g.take t) := by
  refine ⟨fun p hp => h.1 p ?_, ?_, ?_⟩
  · rcases List.mem_append.mp hp with hp | hp
    · exact List.mem_of_mem_drop hp
    · exact List.mem_of_mem_take hp
  · have := h.2.1
    rw [List.length_append, List.length_drop, List.length_take]
    omega
  · have e : g.take t ++ g.drop t = g := List.take_append_drop t g
    have nd := h.2.2
    rw [← e, List.map_append] at nd
    rw [List.map_append]
    have := List.nodup_append.mp nd
    exact List.nodup_append.mpr ⟨this.2.1, this.1, fun x hx y hy z => this.2.2 y hy x hx z.symm⟩
theorem ok4 (s : String) {n : Nat} (h : (Str.ofString s).length ≤ n) {z : Str} {m : Nat} (hz : okT z m) : okT (z ++ Str.ofString s) (m + n) := hz.app (okT.of s h)
theorem tups_upd {H : Hp} {x : Addr} {o : HO} : ∀ {ps : List Addr} {ks : List (Key × V)}, Paired (fun p kv => H p = some (HO.tup [kV kv.1, kv.2])) ps ks → (∀ us, H x ≠ some (HO.tup us)) → Paired (fun p kv => upd H x o p = some (HO.tup [kV kv.1, kv.2])) ps ks
  | _, _, .nil, _ => .nil
  | p :: ps, kv :: ks, .cons e r, h => .cons (by rw [upd_ne fun z => h _ (by rw [← z]; exact e)]; exact e) (tups_upd r h)
theorem vr_L_web (vs H Q E) (h : sp_L_web K vs H Q E) : (rd_L_web K) { nx := fun _ H' => Q .non H', rt := Q } (start ["_law_script", "_law_names_here", "_law_many", "_law_back", "_law_found", "_law_k", "_law_number", "_law_asked", "_law_j", "_law_more", "_law_turn", "_law_order", "_law_name"] vs) H := by
  obtain ⟨a, ns, rfl, ⟨ha, hns⟩, q⟩ := h
  unfold rd_L_web
  walk_at "zz"
  refine ⟨a, ns, 0, rfl, ha, ⟨by decide, by decide⟩, fun H1 e1 => ?_⟩
  walk_at "zz"
  refine ⟨cellN ns 0, rfl, cellN_b ns 0, fun zs lz oz p1 H2 hp1 e2 h2 => ?_⟩
  walk_at "zz"
  refine z_CL (sq_of h2) (by rw [List.length_map, lz]; decide) (fun _ => true) (fun i => .str ((fun z => z ++ Str.ofString ".a") (zs.getD i ⟨#[]⟩))) (fun _ => rfl) (fun i x H3 hi hx e3 => fun H4 e4 Q' q' => q' _ (Ex.refl _)) (fun i x H3 hi hx e3 _ => fun H4 e4 Q' q' => ?_) (fun p2 H3 hp2 e3 h3 => ?_)
  · rw [List.getElem?_map] at hx
    obtain ⟨z, hz, rfl⟩ := Option.map_eq_some_iff.mp hx
    have ez : zs.getD i ⟨#[]⟩ = z := by rw [List.getD_eq_getElem?_getD, hz] <;> rfl
    rw [ez] at q'
    have o2 := ok4 ".a" (n := 2) (by decide +kernel) (oz z (List.mem_of_getElem? hz))
    walk_at "zz"
    refine z_addS (by rw [← txt_app_len]; exact o2.sz (by decide)) ?_
    exact q' _ (Ex.refl _)
  rw [List.length_map] at h3
  have h3 : H3 p2 = some (.lst ((zs.map fun z => z ++ Str.ofString ".a").map V.str)) := h3.trans (congrArg (fun z => some (HO.lst z)) (given_map zs fun z => z ++ Str.ofString ".a"))
  refine z_cat (e3 _ _ h2) h3 (szl (by simp [lz])) fun p3 hp3 => ?_
  have e4 : Ex H3 (upd H3 p3 (.lst (zs.map V.str ++ (zs.map fun z => z ++ Str.ofString ".a").map V.str))) := Ex.new hp3
  have h4 : upd H3 p3 (.lst (zs.map V.str ++ (zs.map fun z => z ++ Str.ofString ".a").map V.str)) p3 = some (.lst ((zs ++ zs.map fun z => z ++ Str.ofString ".a").map V.str)) := by rw [upd_same, List.map_append]
  generalize upd H3 p3 (.lst (zs.map V.str ++ (zs.map fun z => z ++ Str.ofString ".a").map V.str)) = H4 at e4 h4 ⊢
  walk_at "zz"
  refine z_slL (sq_of ((e3.trans e4) _ _ h2)) fun p5 hp5 => ?_
  have e5 := Ex.new (o := .lst (cutV (zs.map V.str) none (some (8 : Int)))) hp5
  have h5 : upd H4 p5 (.lst (cutV (zs.map V.str) none (some (8 : Int)))) p5 = some (.lst ((zs.take 8).map V.str)) := by
    rw [upd_same]
    exact congrArg (fun z => some (HO.lst z)) (cut_take zs 8)
  generalize upd H4 p5 (.lst (cutV (zs.map V.str) none (some (8 : Int)))) = H5 at e5 h5 ⊢
  refine z_CL (sq_of h5) (by simp; omega) (fun _ => true) (fun i => .str ((fun z => z ++ Str.ofString ".b.c") ((zs.take 8).getD i ⟨#[]⟩))) (fun _ => rfl) (fun i x H6 hi hx e6 => fun H7 e7 Q' q' => q' _ (Ex.refl _)) (fun i x H6 hi hx e6 _ => fun H7 e7 Q' q' => ?_) (fun p6 H6 hp6 e6 h6 => ?_)
  · rw [List.getElem?_map] at hx
    obtain ⟨z, hz, rfl⟩ := Option.map_eq_some_iff.mp hx
    have ez : (zs.take 8).getD i ⟨#[]⟩ = z := by rw [List.getD_eq_getElem?_getD, hz] <;> rfl
    rw [ez] at q'
    have o2 := ok4 ".b.c" (n := 4) (by decide +kernel) (oz z (List.mem_of_mem_take (List.mem_of_getElem? hz)))
    walk_at "zz"
    refine z_addS (by rw [← txt_app_len]; exact o2.sz (by decide)) ?_
    exact q' _ (Ex.refl _)
  rw [List.length_map] at h6
  have h6 : H6 p6 = some (.lst (((zs.take 8).map fun z => z ++ Str.ofString ".b.c").map V.str)) := h6.trans (congrArg (fun z => some (HO.lst z)) (given_map (zs.take 8) fun z => z ++ Str.ofString ".b.c"))
  refine z_cat ((e5.trans e6) _ _ h4) h6 (szl (by simp [lz])) fun pn hpn => ?_
  have e7 := Ex.new (o := .lst ((zs ++ zs.map fun z => z ++ Str.ofString ".a").map V.str ++ ((zs.take 8).map fun z => z ++ Str.ofString ".b.c").map V.str)) hpn
  obtain ⟨N, hN, lN, oN⟩ : ∃ N : List Str, N = (zs ++ zs.map fun z => z ++ Str.ofString ".a") ++ (zs.take 8).map (fun z => z ++ Str.ofString ".b.c") ∧ N.length = 40 ∧ ∀ z ∈ N, okT z 30 := by
    refine ⟨_, rfl, by simp [lz], fun z hz => ?_⟩
    rcases List.mem_append.mp hz with hz | hz
    · rcases List.mem_append.mp hz with hz | hz
      · exact (oz z hz).mono (by decide)
      · obtain ⟨x, hx, rfl⟩ := List.mem_map.mp hz
        exact (ok4 ".a" (n := 2) (by decide +kernel) (oz x hx)).mono (by decide)
    · obtain ⟨x, hx, rfl⟩ := List.mem_map.mp hz
      exact (ok4 ".b.c" (n := 4) (by decide +kernel) (oz x (List.mem_of_mem_take hx))).mono (by decide)
  rw [← List.map_append, ← hN] at e7 ⊢
  have h7 : upd H6 pn (.lst (N.map V.str)) pn = some (.lst (N.map V.str)) := upd_same
  have x7 := e1.trans (e2.trans (e3.trans (e4.trans (e5.trans (e6.trans e7)))))
  generalize upd H6 pn (.lst (N.map V.str)) = H7 at e7 h7 x7 ⊢
  clear hN h6 h5 h4 h3 h2 e6 e5 e4 e3 e2 e1 e7
  walk_at "zz"
  refine z_lenL (ex_l x7 ha) ?_
  walk_at "zz"
  rw [List.length_map]
  generalize hmany : (if (if ((ns.length : Nat) : Int) < 40 then ((ns.length : Nat) : Int) else 40) > 1 then (if ((ns.length : Nat) : Int) < 40 then ((ns.length : Nat) : Int) else 40) else 1) = many
  have hm : 1 ≤ many ∧ many ≤ 40 := by
    subst hmany
    split <;> split at * <;> omega
  clear hmany
  refine ⟨szl (by simp), fun pb hpb => ?_⟩
  have e8 := Ex.new (o := .lst [V.int 1, V.int 60, V.int 12, V.int 1]) hpb
  have h8 : upd H7 pb (.lst [V.int 1, V.int 60, V.int 12, V.int 1]) pb = some (.lst [V.int 1, V.int 60, V.int 12, V.int 1]) := upd_same
  have x8 := x7.trans e8
  have n8 := e8 _ _ h7
  generalize upd H7 pb (.lst [V.int 1, V.int 60, V.int 12, V.int 1]) = H8 at e8 h8 x8 n8 ⊢
  walk_at "zz"
  refine ⟨a, ns, 50, rfl, ex_l x8 ha, ⟨by decide, by decide⟩, fun H9 e9 => ?_⟩
  walk_at "zz"
  obtain ⟨back, hb1, hback⟩ : ∃ b : Int, atI [V.int 1, V.int 60, V.int 12, V.int 1] (cellN ns 50 % 4) = some (.int b) ∧ 0 < b := by
    have b1 := (cellN_b ns 50).1
    rcases (by omega : cellN ns 50 % 4 = 0 ∨ cellN ns 50 % 4 = 1 ∨ cellN ns 50 % 4 = 2 ∨ cellN ns 50 % 4 = 3) with z | z | z | z <;> rw [z]
    · exact ⟨1, rfl, by decide⟩
    · exact ⟨60, rfl, by decide⟩
    · exact ⟨12, rfl, by decide⟩
    · exact ⟨1, rfl, by decide⟩
  refine z_ixL (sq_of (e9 _ _ h8)) hb1 ?_
  walk_at "zz"
  refine z_dnew fun d hd => ?_
  have x9 := x8.trans e9
  have n9 := e9 _ _ n8
  clear x8 n8 e9 h8 e8 x7 h7
  walk_at "zz"
  refine z_FR1 (n := many) ⟨by omega, by omega⟩ (fun i σ' H' => ∃ (y5 y6 y7 y8 y9 : Option V) (kvs : List (Key × V)) (g : Web), σ' = [some (.ref a), some (.ref pn), some (.int many), some (.int back), some (.ref d), y5, y6, y7, y8, y9, none, none, none] ∧ Ex H9 H' ∧ H' d = some (.dK kvs) ∧ WebKV K H' kvs g ∧ (∀ p ∈ g, okT p.1 30 ∧ p.2.length ≤ 4 ∧ ∀ z ∈ p.2, okT z 30) ∧ g.length ≤ i ∧ (g.map (·.1)).Nodup) ?_ ?_ ?_
  · exact ⟨_, _, _, _, _, [], [], rfl, Ex.new hd, upd_same, .nil, (fun p hp => by cases hp), Nat.le_refl _, by simp⟩
  · rintro i σ' Ha hi ⟨y5, y6, y7, y8, y9, kvs, g, rfl, xa, da, wa, oa, la, nda⟩
    have hi40 : i < 40 := by omega
    walk_at "zz"
    refine ⟨a, ns, (i : Int), rfl, ex_l (x9.trans xa) ha, ⟨by omega, by omega⟩, fun Hb eb => ?_⟩
    have cb := cellN_b ns (i : Int)
    generalize cellN ns (i : Int) = cell at cb
    walk_at "zz"
    refine ⟨szl (by simp), fun qa hqa => ?_⟩
    have xb := xa.trans eb
    have db := eb _ _ da
    have qd : qa ≠ d := fun z => by rw [z, db] at hqa; cases hqa
    have wb := web_ex eb wa
    have e10 := Ex.new (o := .lst []) hqa
    have h10 : upd Hb qa (.lst []) qa = some (.lst []) := upd_same
    generalize upd Hb qa (.lst []) = Hc at e10 h10 ⊢
    walk_at "zz"
    refine ⟨szl (by simp), fun pc hpc => ?_⟩
    have e11 := Ex.new (o := .lst [V.int 0, V.int 1, V.int 2, V.int 2, V.int 3, V.int 4]) hpc
    have h11 : upd Hc pc (.lst [V.int 0, V.int 1, V.int 2, V.int 2, V.int 3, V.int 4]) pc = some (.lst [V.int 0, V.int 1, V.int 2, V.int 2, V.int 3, V.int 4]) := upd_same
    have q11 := e11 _ _ h10
    have x11 := e10.trans e11
    generalize upd Hc pc (.lst [V.int 0, V.int 1, V.int 2, V.int 2, V.int 3, V.int 4]) = Hd at x11 h11 q11 ⊢
    walk_at "zz"
    obtain ⟨cnt, hc1, hc4⟩ : ∃ b : Int, atI [V.int 0, V.int 1, V.int 2, V.int 2, V.int 3, V.int 4] (cell % 6) = some (.int b) ∧ 0 ≤ b ∧ b ≤ 4 := by
      rcases (by omega : cell % 6 = 0 ∨ cell % 6 = 1 ∨ cell % 6 = 2 ∨ cell % 6 = 3 ∨ cell % 6 = 4 ∨ cell % 6 = 5) with z | z | z | z | z | z <;> rw [z]
      · exact ⟨0, rfl, by decide⟩
      · exact ⟨1, rfl, by decide⟩
      · exact ⟨2, rfl, by decide⟩
      · exact ⟨2, rfl, by decide⟩
      · exact ⟨3, rfl, by decide⟩
      · exact ⟨4, rfl, by decide⟩
    refine z_ixL (sq_of h11) hc1 ?_
    have nb : ∀ {H'}, Ex Hb H' → H' pn = some (.lst (N.map V.str)) := fun e => (xb.trans e) _ _ n9
    refine z_FR1 (n := cnt) ⟨by omega, by omega⟩ (fun j σ' H' => ∃ (y8 y9 : Option V) (as : List Str), σ' = [some (.ref a), some (.ref pn), some (.int many), some (.int back), some (.ref d), some (.int (i : Int)), some (.int cell), some (.ref qa), y8, y9, none, none, none] ∧ Ex Hb H' ∧ H' qa = some (.lst (as.map V.str)) ∧ as.length ≤ j ∧ ∀ z ∈ as, okT z 30) ?_ ?_ ?_
    · exact ⟨_, _, [], rfl, x11, q11, Nat.le_refl _, fun z hz => by cases hz⟩
    · rintro j σ' He hj ⟨y8, y9, as, rfl, xe, qe, le, oe⟩
      have hj4 : j < 4 := by omega
      walk_at "zz"
      refine ⟨cell, (j : Int) + (i : Int), rfl, ⟨by omega, by omega⟩, fun Hf ef => ?_⟩
      have mb := mixN_b cell ((j : Int) + (i : Int))
      generalize mixN cell ((j : Int) + (i : Int)) = more at mb
      have xf := xe.trans ef
      have qf := ef _ _ qe
      have add : ∀ (y9 : Option V) (z : Str), okT z 30 → rAppend (.ref qa) [.str z] Hf fun _ H1 => ∃ (y8 y9 : Option V) (as : List Str), [some (.ref a), some (.ref pn), some (.int many), some (.int back), some (.ref d), some (.int (i : Int)), some (.int cell), some (.ref qa), some (V.int (j : Int)), some (V.int more), none, none, none] = [some (.ref a), some (.ref pn), some (.int many), some (.int back), some (.ref d), some (.int (i : Int)), some (.int cell), some (.ref qa), y8, y9, none, none, none] ∧ Ex Hb H1 ∧ H1 qa = some (.lst (as.map V.str)) ∧ as.length ≤ j + 1 ∧ ∀ z ∈ as, okT z 30 := fun y9 z oz => by
        refine z_rapp qf (szlt (by rw [List.length_map]; omega)) ?_
        refine ⟨_, _, as ++ [z], rfl, xf.mut hqa, by rw [upd_same]; simp, by simp; omega, fun u hu => ?_⟩
        rcases List.mem_append.mp hu with hu | hu
        · exact oe u hu
        · rw [List.mem_singleton.mp hu]
          exact oz
      have pick : ∀ k : Int, 0 ≤ k → k < 40 → ∃ z, okT z 30 ∧ atI (N.map V.str) k = some (.str z) := fun k h0 h1 => by
        obtain ⟨m, rfl⟩ := Int.eq_ofNat_of_zero_le h0
        have hm : m < N.length := by omega
        exact ⟨N[m], oN _ (List.getElem_mem hm), atI_nat (by rw [List.getElem?_map, List.getElem?_eq_getElem hm] <;> rfl)⟩
      walk_at "zz"
      refine ite_b (fun _ => ?_) (fun _ => ?_)
      · walk_at "zz"
        refine z_tyl (sq_of qf) ?_
        walk_at "zz"
        have l3 : (Str.ofString "abc" : Str).length = 3 := by decide +kernel
        have s3 := sg_at (z := Str.ofString "abc") (by rw [l3]; decide) (more / 17)
        rw [l3] at s3
        refine z_ixS (szl (by decide +kernel)) s3.1 ?_
        have oA := (okT.of "none" (n := 4) (by decide +kernel)).app (okT.one (okT.of "abc" (n := 3) (by decide +kernel)) s3.2)
        have oB := oA.app (okT.of ".z" (n := 2) (by decide +kernel))
        refine z_addS (by rw [← txt_app_len]; exact oA.sz (by decide)) ?_
        walk_at "zz"
        refine z_addS (by rw [← txt_app_len]; exact oB.sz (by decide)) ?_
        exact add none _ (oB.mono (by decide))
      · walk_at "zz"
        have rest : ∀ k : Int, 0 < k → k ≤ 40 → tDrop (tBM K "list" rAppend (tVar 7) (tCons (fun σ H Q => ∃ z, okT z 30 ∧ Q (.str z) H) tNil)) = tDrop (tBM K "list" rAppend (tVar 7) (tCons (fun σ H Q => ∃ z, okT z 30 ∧ Q (.str z) H) tNil)) := fun _ _ _ => rfl
        refine ite_b (fun hz => ?_) (fun hz => ?_)
        · have hi0 : (0 : Int) < (i : Int) := of_decide_eq_true hz
          have go : ∀ (D : Ends), (D.nx = fun σ' H1 => ∃ (y8 y9 : Option V) (as : List Str), σ' = [some (.ref a), some (.ref pn), some (.int many), some (.int back), some (.ref d), some (.int (i : Int)), some (.int cell), some (.ref qa), y8, y9, none, none, none] ∧ Ex Hb H1 ∧ H1 qa = some (.lst (as.map V.str)) ∧ as.length ≤ j + 1 ∧ ∀ z ∈ as, okT z 30) → True := fun _ _ => trivial
          walk_at "zz"
          refine ite_b (fun _ => ?_) (fun _ => ?_)
          · refine ite_t ?_
            walk_at "zz"
            refine z_tyl (sq_of qf) ?_
            walk_at "zz"
            obtain ⟨z, oz', hz'⟩ := pick (more / 60 % (i : Int)) (Int.emod_nonneg _ (by omega)) (by have := Int.emod_lt_of_pos (more / 60) hi0; omega)
            refine z_ixL (sq_of (nb xf)) hz' ?_
            exact add none z oz'
          · walk_at "zz"
            refine ite_b (fun _ => ?_) (fun _ => ?_)
            · walk_at "zz"
              refine z_tyl (sq_of qf) ?_
              walk_at "zz"
              obtain ⟨z, oz', hz'⟩ := pick (more / 60 % (i : Int)) (Int.emod_nonneg _ (by omega)) (by have := Int.emod_lt_of_pos (more / 60) hi0; omega)
              refine z_ixL (sq_of (nb xf)) hz' ?_
              exact add none z oz'
            · walk_at "zz"
              refine z_tyl (sq_of qf) ?_
              walk_at "zz"
              obtain ⟨z, oz', hz'⟩ := pick (more / 60 % many) (Int.emod_nonneg _ (by omega)) (by have := Int.emod_lt_of_pos (more / 60) (show (0 : Int) < many by omega); omega)
              refine z_ixL (sq_of (nb xf)) hz' ?_
              exact add none z oz'
        · refine ite_f ?_
          walk_at "zz"
          refine z_tyl (sq_of qf) ?_
          walk_at "zz"
          obtain ⟨z, oz', hz'⟩ := pick (more / 60 % many) (Int.emod_nonneg _ (by omega)) (by have := Int.emod_lt_of_pos (more / 60) (show (0 : Int) < many by omega); omega)
          refine z_ixL (sq_of (nb xf)) hz' ?_
          exact add none z oz'
    · rintro σ' He ⟨y8, y9, as, rfl, xe, qe, le, oe⟩
      walk_at "zz"
      have hiN : i < N.length := by omega
      refine z_ixL (sq_of (nb xe)) (atI_nat (by rw [List.getElem?_map, List.getElem?_eq_getElem hiN] <;> rfl)) ?_
      have de := xe _ _ db
      have kl := Paired.length wb
      refine ⟨d, _, rfl, DPut.k (k := Sum.inr N[i]) de (szlt (by omega)), ?_⟩
      have bt : But [d] He (upd He d (.dK (putK kvs (Sum.inr N[i]) (.ref qa)))) := But.put (by simp)
      have nk := putW_keys (n := N[i]) (zs := as) nda
      refine ⟨_, _, _, _, _, _, putW g N[i] as, rfl, (xb.trans xe).mut hd, upd_same, web_put (web_but bt de (web_ex xe wb)) (sq_of (by rw [upd_ne qd]; exact qe)), putW_mem oa ⟨oN _ (List.getElem_mem hiN), by show as.length ≤ 4; omega, oe⟩, by have := nk.2; omega, nk.1⟩
  · rintro σ' Ha ⟨y5, y6, y7, y8, y9, kvs, g, rfl, xa, da, wa, oa, la, nda⟩
    have okg : okW g := ⟨oa, by omega, nda⟩
    have kl := Paired.length wa
    walk_at "zz"
    refine ⟨a, ns, 51, rfl, ex_l (x9.trans xa) ha, ⟨by decide, by decide⟩, fun Hb eb => ?_⟩
    walk_at "zz"
    obtain ⟨t, ht⟩ := Int.eq_ofNat_of_zero_le (Int.emod_nonneg (cellN ns 51) (show many ≠ 0 by omega))
    rw [ht]
    have db := eb _ _ da
    refine ⟨d, kvs, rfl, .inl db, fun p5 hp5 => ?_⟩
    rw [web_keysV wa]
    have e5 := Ex.new (o := .lst ((g.map (·.1)).map V.str)) hp5
    have h5 : upd Hb p5 (.lst ((g.map (·.1)).map V.str)) p5 = some (.lst ((g.map (·.1)).map V.str)) := upd_same
    generalize upd Hb p5 (.lst ((g.map (·.1)).map V.str)) = Hc at e5 h5 ⊢
    walk_at "zz"
    refine z_slL (sq_of h5) fun p6 hp6 => ?_
    have e6 := Ex.new (o := .lst (cutV ((g.map (·.1)).map V.str) (some (t : Int)) none)) hp6
    have h6 : upd Hc p6 (.lst (cutV ((g.map (·.1)).map V.str) (some (t : Int)) none)) p6 = some (.lst (((g.map (·.1)).drop t).map V.str)) := by
      rw [upd_same]
      exact congrArg (fun z => some (HO.lst z)) (cut_drop _ t)
    generalize upd Hc p6 (.lst (cutV ((g.map (·.1)).map V.str) (some (t : Int)) none)) = Hd at e6 h6 ⊢
    walk_at "zz"
    refine ⟨d, kvs, rfl, .inl ((e5.trans e6) _ _ db), fun p7 hp7 => ?_⟩
    rw [web_keysV wa]
    have e7 := Ex.new (o := .lst ((g.map (·.1)).map V.str)) hp7
    have h7 : upd Hd p7 (.lst ((g.map (·.1)).map V.str)) p7 = some (.lst ((g.map (·.1)).map V.str)) := upd_same
    generalize upd Hd p7 (.lst ((g.map (·.1)).map V.str)) = He at e7 h7 ⊢
    walk_at "zz"
    refine z_slL (sq_of h7) fun p8 hp8 => ?_
    have e8 := Ex.new (o := .lst (cutV ((g.map (·.1)).map V.str) none (some (t : Int)))) hp8
    have h8 : upd He p8 (.lst (cutV ((g.map (·.1)).map V.str) none (some (t : Int)))) p8 = some (.lst (((g.map (·.1)).take t).map V.str)) := by
      rw [upd_same]
      exact congrArg (fun z => some (HO.lst z)) (cut_take _ t)
    generalize upd He p8 (.lst (cutV ((g.map (·.1)).map V.str) none (some (t : Int)))) = Hf at e8 h8 ⊢
    refine z_cat ((e7.trans e8) _ _ h6) h8 (szl (by simp; omega)) fun po hpo => ?_
    have eo := Ex.new (o := .lst (((g.map (·.1)).drop t).map V.str ++ ((g.map (·.1)).take t).map V.str)) hpo
    have ho : upd Hf po (.lst (((g.map (·.1)).drop t).map V.str ++ ((g.map (·.1)).take t).map V.str)) po = some (.lst (((g.drop t ++ g.take t).map (·.1)).map V.str)) := by
      rw [upd_same]
      simp [List.map_drop, List.map_take]
    generalize upd Hf po (.lst (((g.map (·.1)).drop t).map V.str ++ ((g.map (·.1)).take t).map V.str)) = Hg at eo ho ⊢
    have xg : Ex Hb Hg := e5.trans (e6.trans (e7.trans (e8.trans eo)))
    have dg := xg _ _ db
    have wg := web_ex (eb.trans xg) wa
    have okr := okW_turn okg t
    have wr : WebKV K Hg (kvs.drop t ++ kvs.take t) (g.drop t ++ g.take t) := pr_app (pr_drop t wg) (pr_take t wg)
    have x10 := xa.trans (eb.trans xg)
    walk_at "zz"
    refine z_CLw (sq_of ho) (fun D i H' => Ex Hg H' ∧ ∃ ps : List Addr, H' D = some (.lst (ps.map V.ref)) ∧ Paired (fun p (kv : Key × V) => H' p = some (HO.tup [kV kv.1, kv.2])) ps ((kvs.drop t ++ kvs.take t).take i)) (fun D hD => ⟨Ex.new hD, [], upd_same, .nil⟩) (fun D i H' hD p => sq_of (p.1 _ _ ho)) (fun _ => rfl) (fun D i x H' hD hi hx p => ?_) (fun D H' hD p => ?_)
    · obtain ⟨xh, ps, hps, prs⟩ := p
      rw [List.getElem?_map, List.getElem?_map] at hx
      obtain ⟨n, hn, rfl⟩ := Option.map_eq_some_iff.mp hx
      obtain ⟨pp, hpp, rfl⟩ := Option.map_eq_some_iff.mp hn
      have hlen := Paired.length wr
      obtain ⟨hlt, hpe⟩ := List.getElem?_eq_some_iff.mp hpp
      rcases hkv : (kvs.drop t ++ kvs.take t)[i]'(by omega) with ⟨k, v⟩
      have hk2 : (kvs.drop t ++ kvs.take t)[i]? = some (k, v) := by rw [List.getElem?_eq_getElem (by omega), hkv]
      obtain ⟨p', hp', rfl, l, rfl, hl⟩ := web_at wr hk2
      rw [hpp] at hp'
      cases hp'
      have ev : valV kvs (Sum.inr pp.1) = some (.ref l) := by
        have hm := List.mem_of_getElem? hk2
        have hm : (Sum.inr pp.1, V.ref l) ∈ kvs := by
          rcases List.mem_append.mp hm with hm | hm
          · exact List.mem_of_mem_drop hm
          · exact List.mem_of_mem_take hm
        obtain ⟨j, hj⟩ := List.mem_iff_getElem?.mp hm
        exact web_val_at wg nda hj
      walk_at "zz"
      refine ⟨d, .ref l, rfl, .inl ⟨kvs, Sum.inr pp.1, .inl (xh _ _ dg), rfl, ev.symm⟩, ?_⟩
      walk_at "zz"
      refine ⟨szl (by simp), fun T hT => ?_⟩
      have TD : T ≠ D := fun z => by rw [z, hps] at hT; cases hT
      have eT := Ex.new (o := .tup [V.str pp.1, V.ref l]) hT
      have pl := Paired.length prs
      refine ⟨_, eT _ _ hps, szlt (by rw [List.length_map, pl, List.length_take]; have := okr.2.1; omega), (xh.trans eT).mut hD, ps ++ [T], by rw [upd_same]; simp, ?_⟩
      rw [List.take_add_one, hk2]
      have e9 : upd H' T (.tup [V.str pp.1, V.ref l]) D = some (.lst (ps.map V.ref)) := eT _ _ hps
      refine tups_upd (Paired.snoc (Paired.mono (fun _ _ z => eT _ _ z) prs) upd_same) fun us z => by rw [e9] at z; cases z
    · obtain ⟨xh, ps, hps, prs⟩ := p
      have hlen := Paired.length wr
      rw [List.length_map, List.length_map, List.take_of_length_le (by omega)] at prs
      walk_at "zz"
      refine ⟨D, ps, _, rfl, sq_of hps, Paired.mono (fun _ _ z => st_of z) prs, fun pw hpw => ?_⟩
      have wm := web_merge wr okr.2.2
      rw [wm]
      have xw := xh.trans (Ex.new (o := .dK (kvs.drop t ++ kvs.take t)) hpw)
      refine q _ okr pw _ _ (fresh_back (x9.trans (x10.trans xh)) hpw) (x9.trans (x10.trans xw)) upd_same (web_ex xw wr)
def IsRO (r : Option (List Str)) (H H' : Hp) (v : V) : Prop := match r with
  | none => v = .non
  | some x => ∃ p, v = .ref p ∧ H p = none ∧ H' p = some (.lst (x.map V.str))
theorem retRO {r : Option (List Str)} {H : Hp} {Q : VK} (h : ∀ v H', Ex H H' → IsRO r H H' v → Q v H') : RetRO r H Q := by
  cases r with
  | none => exact fun H' e => h _ _ e rfl
  | some x => exact fun p H' hp e h' => h _ _ e ⟨p, rfl, hp, h'⟩
def datW (g : Web) : List PyData := g.map fun p => .list (p.2.map PyData.str)
def webD (g : Web) : PyData := .dict (g.map fun p => (.str p.1, .list (p.2.map PyData.str)))
theorem web_dict {K : PySem.W.Frag} {H : Hp} : ∀ {kvs : List (Key × V)} {g : Web}, WebKV K H kvs g → (kvs.map fun p => keyD p.1).zip (datW g) = g.map fun p => (PyData.str p.1, PyData.list (p.2.map PyData.str))
  | _, _, .nil => rfl
  | kv :: kvs, p :: g, .cons e r => by
    have ih := web_dict r
    unfold datW at ih ⊢
    rw [List.map_cons, List.map_cons, List.map_cons, List.zip_cons_cons, ih, e.1] <;> rfl
theorem web_dp {K : PySem.W.Frag} {H : Hp} : ∀ {kvs : List (Key × V)} {g : Web}, WebKV K H kvs g → (∀ p ∈ g, ∀ z ∈ p.2, okT z 30) → DpAll K H (kvs.map (·.2)) (datW g) ∧ PyData.hasDictAll (datW g) = false
  | _, _, .nil, _ => ⟨.nil, rfl⟩
  | kv :: kvs, p :: g, .cons e r, h => by
    obtain ⟨ek, l, el, hs⟩ := e
    obtain ⟨t1, t2, t3⟩ := strs_dp (K := K) (H := H) (zs := p.2) fun z hz => ⟨30, h p (List.mem_cons_self ..) z hz⟩
    have ih := web_dp r fun p' hp' => h p' (List.mem_cons_of_mem _ hp')
    unfold datW at ih ⊢
    rw [List.map_cons, List.map_cons, el]
    refine ⟨.cons (.lst hs t1) ih.1, ?_⟩
    have nd : ∀ l : List Str, PyData.hasDictAll (l.map PyData.str) = false := fun l => by
      induction l with
      | nil => rfl
      | cons z r ih => exact ih
    show (PyData.hasDictAll (p.2.map PyData.str) || _) = false
    rw [nd, ih.2] <;> rfl
theorem strs_all : ∀ {zs : List Str}, (∀ z ∈ zs, okT z 30) → PyData.showableAll (zs.map PyData.str) = true ∧ PyData.depthAll (zs.map PyData.str) = 0 ∧ cpAll (zs.map PyData.str) = true ∧ bndAll (zs.map PyData.str) ≤ 304 * zs.length
  | [], _ => ⟨rfl, rfl, rfl, Nat.le_refl _⟩
  | z :: zs, h => by
    obtain ⟨a, b, c, d⟩ := strs_all (zs := zs) fun y hy => h y (List.mem_cons_of_mem _ hy)
    have hz := h z (List.mem_cons_self ..)
    refine ⟨a, ?_, ?_, ?_⟩
    · show max 0 (PyData.depthAll (zs.map PyData.str)) = 0
      rw [b] <;> rfl
    · show (z.cps.toList.all (fun c => decide (c < 16 ^ 8)) && cpAll (zs.map PyData.str)) = true
      rw [c, Bool.and_true]
      exact List.all_eq_true.mpr fun c hc => decide_eq_true (Nat.lt_trans (hz.2 c hc) (by decide))
    · show 10 * z.length + 2 + 2 + bndAll (zs.map PyData.str) ≤ _
      have := hz.1
      rw [List.length_cons]
      omega
theorem webD_all : ∀ {g : Web}, (∀ p ∈ g, okT p.1 30 ∧ p.2.length ≤ 4 ∧ ∀ z ∈ p.2, okT z 30) → PyData.showableKv (g.map fun p => (PyData.str p.1, PyData.list (p.2.map PyData.str))) = true ∧ PyData.depthKv (g.map fun p => (PyData.str p.1, PyData.list (p.2.map PyData.str))) ≤ 1 ∧ cpKv (g.map fun p => (PyData.str p.1, PyData.list (p.2.map PyData.str))) = true ∧ bndKv (g.map fun p => (PyData.str p.1, PyData.list (p.2.map PyData.str))) ≤ 1600 * g.length
  | [], _ => ⟨rfl, by decide, rfl, Nat.le_refl _⟩
  | p :: g, h => by
    obtain ⟨a, b, c, d⟩ := webD_all (g := g) fun y hy => h y (List.mem_cons_of_mem _ hy)
    obtain ⟨h1, h4, hz⟩ := h p (List.mem_cons_self ..)
    obtain ⟨s1, s2, s3, s4⟩ := strs_all hz
    refine ⟨?_, ?_, ?_, ?_⟩
    · show (true && PyData.showableAll (p.2.map PyData.str) && _) = true
      rw [s1]
      exact a
    · show max (max 0 (PyData.depthAll (p.2.map PyData.str) + 1)) _ ≤ 1
      rw [s2]
      omega
    · show (p.1.cps.toList.all (fun c => decide (c < 16 ^ 8)) && cpAll (p.2.map PyData.str) && _) = true
      rw [s3, c, Bool.and_true, Bool.and_true]
      exact List.all_eq_true.mpr fun c hc => decide_eq_true (Nat.lt_trans (h1.2 c hc) (by decide))
    · show (10 * p.1.length + 2) + (bndAll (p.2.map PyData.str) + 4) + 4 + bndKv _ ≤ _
      have := h1.1
      rw [List.length_cons]
      have : 304 * p.2.length ≤ 304 * 4 := Nat.mul_le_mul_left _ h4
      omega
/-- repr of a web -/
theorem web_repr {K : PySem.W.Frag} {H : Hp} {Q : VK} {a : Addr} {kvs : List (Key × V)} {g : Web} (ha : Rd H a (.dK kvs)) (hk : WebKV K H kvs g) (ok : okW g) (q : Q (.str (webD g).shown) H) : rReprK K [.ref a] H Q := by
  obtain ⟨w1, w2, w3, w4⟩ := webD_all ok.1
  obtain ⟨d1, d2⟩ := web_dp hk fun p hp => (ok.1 p hp).2.2
  have e : dictD kvs (datW g) = webD g := by
    unfold dictD webD
    rw [web_dict hk]
  refine ⟨a, kvs, datW g, rfl, ha, d1, ?_, d2, ?_, ?_, ?_⟩
  · rw [e]
    exact w1
  · rw [e]
    show PyData.depthKv _ + 1 ≤ 50
    omega
  · rw [e]
    refine Nat.le_trans (shown_bnd (webD g) w3) ?_
    show bndKv _ + 4 ≤ sizeLine
    have := ok.2.1
    have : 1600 * g.length ≤ 1600 * 40 := Nat.mul_le_mul_left _ this
    refine Nat.le_trans (show _ ≤ 70000 by omega) (by decide)
  · rw [e]
    exact q
theorem ex_kvs {K : PySem.W.Frag} {H : Hp} : ∀ {qs : List (Addr × Addr)} {g : Web}, Paired (fun (q : Addr × Addr) (p : Str × List Str) => H q.1 = some (HO.tup [V.str p.1, V.ref q.2]) ∧ H q.2 = some (HO.lst (p.2.reverse.map V.str))) qs g →
    ∃ kv : List (Key × V), Paired (fun p (x : Key × V) => SqT K H p [kV x.1, x.2]) (qs.map (·.1)) kv ∧ WebKV K H kv (g.map fun p => (p.1, p.2.reverse))
  | _, _, .nil => ⟨[], .nil, .nil⟩
  | q :: qs, p :: g, .cons e r => by
    obtain ⟨kv, h1, h2⟩ := ex_kvs r
    exact ⟨(Sum.inr p.1, .ref q.2) :: kv, .cons (st_of e.1) h1, .cons ⟨rfl, q.2, rfl, sq_of e.2⟩ h2⟩
def revW (g : Web) : Web := (g.map fun p => (p.1, p.2.reverse)).reverse
theorem revW_mem {g : Web} {p : Str × List Str} : p ∈ revW g ↔ ∃ x ∈ g, p = (x.1, x.2.reverse) := by
  unfold revW
  rw [List.mem_reverse, List.mem_map]
  exact ⟨fun ⟨x, hx, e⟩ => ⟨x, hx, e.symm⟩, fun ⟨x, hx, e⟩ => ⟨x, hx, e.symm⟩⟩
theorem revW_keys (g : Web) : (revW g).map (·.1) = (g.map (·.1)).reverse := by
  unfold revW
  rw [List.map_reverse, List.map_map] <;> rfl
theorem revW_get {g : Web} (nd : (g.map (·.1)).Nodup) (n : Str) : getW (revW g) n = (getW g n).reverse := by
  by_cases h : n ∈ g.map (·.1)
  · obtain ⟨p, hp, e, e2⟩ := getW_mem h
    obtain ⟨p', hp', e', e2'⟩ := getW_mem (g := revW g) (n := n) (by rw [revW_keys]; exact List.mem_reverse.mpr h)
    obtain ⟨x, hx, rfl⟩ := revW_mem.mp hp'
    rw [e2, e2', nodup_fst nd hx hp (e'.trans e.symm)]
  · rw [web_hk g n h, web_hk (revW g) n (by rw [revW_keys]; exact fun z => h (List.mem_reverse.mp z))] <;> rfl
theorem ring_rev {g : Web} (nd : (g.map (·.1)).Nodup) {r : List Str} (h : M18.IsRing (getW (revW g)) r) : M18.IsRing (getW g) r :=
  ⟨h.1, h.2.1, fun p hp => by
    have := h.2.2 p hp
    rw [revW_get nd] at this
    exact List.mem_reverse.mp this⟩
theorem ord_rev {g : Web} (nd : (g.map (·.1)).Nodup) : ∀ {d : List Str}, M18.Ord (getW (revW g)) d → M18.Ord (getW g) d
  | [], _ => trivial
  | x :: d, h => ⟨fun y hy => h.1 y (by rw [revW_get nd]; exact List.mem_reverse.mpr hy), ord_rev nd h.2⟩
theorem all_some {g : Web} {r : List Str} (h : ringAll g = some r) : M18.IsRing (getW g) r := M18.ringL_some _ [] trivial h
theorem all_none {g : Web} (h : ringAll g = none) : ∃ d, M18.Ord (getW g) d ∧ ∀ x ∈ g.map (·.1), x ∈ d := by
  obtain ⟨d, h1, _, h3⟩ := M18.ringL_none _ [] trivial h
  exact ⟨d, h1, h3⟩
abbrev RevP (H : Hp) : List (Addr × Addr) → Web → Prop := Paired fun q p => H q.1 = some (HO.tup [V.str p.1, V.ref q.2]) ∧ H q.2 = some (HO.lst (p.2.reverse.map V.str))
theorem revP_upd {H : Hp} {x : Addr} {o : HO} {xs : List V} (hx : H x = some (.lst xs)) : ∀ {qs : List (Addr × Addr)} {g : Web}, RevP H qs g → (∀ q ∈ qs, q.2 ≠ x) → RevP (upd H x o) qs g
  | _, _, .nil, _ => .nil
  | q :: qs, p :: g, .cons e r, h => .cons ⟨by rw [upd_ne fun z => by rw [← z, e.1] at hx; cases hx]; exact e.1, by rw [upd_ne (h q (List.mem_cons_self ..))]; exact e.2⟩ (revP_upd hx r fun y hy => h y (List.mem_cons_of_mem _ hy))
theorem ring_ok {g : Web} (ok : okW g) {r : List Str} (h : M18.IsRing (getW g) r) : (∀ z ∈ r, okT z 30) ∧ r.length ≤ 40 := by
  have hk := ring_keys h
  refine ⟨fun z hz => ?_, ?_⟩
  · obtain ⟨p, hp, e⟩ := List.mem_map.mp (hk z hz)
    rw [← e]
    exact (ok.1 p hp).1
  · refine Nat.le_trans (nodup_len h.2.1 hk) ?_
    rw [List.length_map]
    exact ok.2.1
theorem vr_law (vs H Q E) (h : sp_law K vs H Q E) : (rd_law K) { nx := fun _ H' => Q .non H', rt := Q } (start ["_law_script", "_law_web_here", "_law_kept", "_law_is_due", "_law_found", "_law_other", "_law_told", "_law_name"] vs) H := by
  obtain ⟨a, ns, rfl, ha, hns, q⟩ := h
  unfold rd_law
  walk_at "zz"
  refine ⟨a, ns, rfl, ⟨ha, hns⟩, fun g ok w kvs H1 hw e1 h1 hk => ?_⟩
  walk_at "zz"
  refine web_repr (.inl h1) hk ok ?_
  walk_at "zz"
  refine ⟨w, g, kvs, rfl, .inl h1, hk, ok, fun b hb1 hb2 => fun H2 e2 => ?_⟩
  walk_at "zz"
  have g4 : (∀ p ∈ g, p.2.length ≤ 4) ∧ g.length ≤ 40 := ⟨fun p hp => (ok.1 p hp).2.1, ok.2.1⟩
  refine ⟨w, g, kvs, rfl, e2 _ _ h1, web_ex e2 hk, g4, retRO fun f H3 e3 hf => ?_⟩
  walk_at "zz"
  have w3 := (e2.trans e3) _ _ h1
  refine z_lockE w3 trivial fun od => ?_
  walk_at "zz"
  have wf : upd H3 w (.frz od (.dK kvs)) w = some (.frz od (.dK kvs)) := upd_same
  have hkf : WebKV K (upd H3 w (.frz od (.dK kvs))) kvs g := web_but (But.put (by simp)) w3 (web_ex (e2.trans e3) hk)
  have kl := Paired.length hk
  refine z_CKw wf (fun D i H' => Ex (upd H3 w (.frz od (.dK kvs))) H' ∧ ∃ qs : List (Addr × Addr), H' D = some (.lst (qs.map fun q => V.ref q.1)) ∧ RevP H' qs (g.take i) ∧ ∀ q ∈ qs, q.2 ≠ D) (fun D hD => ⟨Ex.new hD, [], upd_same, .nil, fun q hq => by cases hq⟩) (fun D i H' hD p => p.1 _ _ wf) (fun _ => rfl) (fun D i k v H' hD hi hkv p => ?_) (fun D H' hD p => ?_)
  · obtain ⟨xh, qs, hqs, rp, nqs⟩ := p
    obtain ⟨pp, hpp, rfl, l, rfl, hl⟩ := web_at hkf hkv
    have ev := web_val_at hkf ok.2.2 hkv
    walk_at "zz"
    refine ⟨w, .ref l, rfl, .inl ⟨kvs, Sum.inr pp.1, .inr ⟨od, xh _ _ wf⟩, rfl, ev.symm⟩, ?_⟩
    refine ⟨_, _, rfl, ex_l xh hl, fun q2 hq2 => ?_⟩
    have x2 := Ex.new (o := .lst (pp.2.map V.str).reverse) hq2
    have h2 : upd H' q2 (.lst (pp.2.map V.str).reverse) q2 = some (.lst (pp.2.reverse.map V.str)) := by rw [upd_same, List.map_reverse]
    have nD : q2 ≠ D := fun z => by rw [z, hqs] at hq2; cases hq2
    generalize upd H' q2 (.lst (pp.2.map V.str).reverse) = H5 at x2 h2 ⊢
    walk_at "zz"
    refine ⟨szl (by simp), fun T hT => ?_⟩
    have xT := Ex.new (o := .tup [V.str pp.1, V.ref q2]) hT
    have pl := Paired.length rp
    have nTD : T ≠ D := fun z => by rw [z, x2 _ _ hqs] at hT; cases hT
    refine ⟨_, (x2.trans xT) _ _ hqs, szlt (by rw [List.length_map, pl, List.length_take]; have := ok.2.1; omega), ((xh.trans x2).trans xT).mut hD, qs ++ [(T, q2)], by rw [upd_same]; simp, ?_, fun y hy => ?_⟩
    · rw [List.take_add_one, hpp]
      refine revP_upd ((x2.trans xT) _ _ hqs) (Paired.snoc (Paired.mono (fun _ _ z => ⟨(x2.trans xT) _ _ z.1, (x2.trans xT) _ _ z.2⟩) rp) ⟨upd_same, xT _ _ h2⟩) fun y hy => ?_
      rcases List.mem_append.mp hy with hy | hy
      · exact nqs y hy
      · rw [List.mem_singleton.mp hy]
        exact nD
    · rcases List.mem_append.mp hy with hy | hy
      · exact nqs y hy
      · rw [List.mem_singleton.mp hy]
        exact nD
  obtain ⟨xh, qs, hqs, rp, nqs⟩ := p
  rw [kl, List.take_length] at rp
  refine ⟨xh _ _ wf, ?_⟩
  have wD : D ≠ w := fun z => by rw [z, wf] at hD; cases hD
  have nD1 : H1 D = none := by
    rw [upd_ne wD] at hD
    exact fresh_back (e2.trans e3) hD
  have xw : Ex H1 (upd H' w (.dK kvs)) := fun y o hy => by
    by_cases z : y = w
    · rw [z, upd_same, ← h1, ← z, hy]
    · rw [upd_ne z]
      exact xh y o (by rw [upd_ne z]; exact (e2.trans e3) y o hy)
  have xw3 : Ex H3 (upd H' w (.dK kvs)) := fun y o hy => by
    by_cases z : y = w
    · rw [z, upd_same, ← w3, ← z, hy]
    · rw [upd_ne z]
      exact xh y o (by rw [upd_ne z]; exact hy)
  have rp : RevP (upd H' w (.dK kvs)) qs g := by
    have hxw := xh _ _ wf
    refine Paired.mono (fun q p z => ⟨?_, ?_⟩) rp
    · rw [upd_ne fun y => by rw [y, hxw] at z; cases z.1]
      exact z.1
    · rw [upd_ne fun y => by rw [y, hxw] at z; cases z.2]
      exact z.2
  have hqs : upd H' w (.dK kvs) D = some (.lst (qs.map fun q => V.ref q.1)) := by rw [upd_ne wD]; exact hqs
  generalize upd H' w (.dK kvs) = H4 at xw xw3 rp hqs ⊢
  walk_at "zz"
  refine ⟨_, _, rfl, sq_of hqs, fun pr hpr => ?_⟩
  have x5 := Ex.new (o := .lst (qs.map fun q => V.ref q.1).reverse) hpr
  have h5 : upd H4 pr (.lst (qs.map fun q => V.ref q.1).reverse) pr = some (.lst ((qs.map (·.1)).reverse.map V.ref)) := by
    rw [upd_same, List.map_reverse, List.map_map] <;> rfl
  have rp5 : RevP (upd H4 pr (.lst (qs.map fun q => V.ref q.1).reverse)) qs g := Paired.mono (fun _ _ z => ⟨x5 _ _ z.1, x5 _ _ z.2⟩) rp
  generalize upd H4 pr (.lst (qs.map fun q => V.ref q.1).reverse) = H5 at x5 h5 rp5 ⊢
  obtain ⟨kv, hkv1, hkv2⟩ := ex_kvs (K := K) rp5
  have ndr : ((revW g).map (·.1)).Nodup := by
    rw [revW_keys]
    exact List.pairwise_reverse.mpr (ok.2.2.imp fun h z => h z.symm)
  have wr : WebKV K H5 kv.reverse (revW g) := pr_rev hkv2
  walk_at "zz"
  refine ⟨pr, (qs.map (·.1)).reverse, kv.reverse, rfl, sq_of h5, pr_rev hkv1, fun dR hdR => ?_⟩
  rw [web_merge wr ndr]
  have x6 := Ex.new (o := .dK kv.reverse) hdR
  have h6 : upd H5 dR (.dK kv.reverse) dR = some (.dK kv.reverse) := upd_same
  generalize upd H5 dR (.dK kv.reverse) = H6 at x6 h6 ⊢
  walk_at "zz"
  have r4 : (∀ p ∈ revW g, p.2.length ≤ 4) ∧ (revW g).length ≤ 40 := by
    refine ⟨fun p hp => ?_, ?_⟩
    · obtain ⟨x, hx, rfl⟩ := revW_mem.mp hp
      show x.2.reverse.length ≤ 4
      rw [List.length_reverse]
      exact g4.1 x hx
    · unfold revW
      rw [List.length_reverse, List.length_map]
      exact g4.2
  refine ⟨dR, revW g, kv.reverse, rfl, h6, web_ex x6 wr, r4, retRO fun o H7 e7 ho => ?_⟩
  walk_at "zz"
  have x7 : Ex H1 H7 := xw.trans (x5.trans (x6.trans e7))
  have x37 : Ex H3 H7 := xw3.trans (x5.trans (x6.trans e7))
  have w7 := x7 _ _ h1
  cases b with
  | false =>
    refine ite_t ?_
    have n1 : ringAll g = none := by
      cases hr : ringAll g with
      | none => rfl
      | some r => exact absurd (hb1 r (all_some hr)) (by decide)
    have n2 : ringAll (revW g) = none := by
      cases hr : ringAll (revW g) with
      | none => rfl
      | some r => exact absurd (hb1 r (ring_rev ok.2.2 (all_some hr))) (by decide)
    rw [n1] at hf
    rw [n2] at ho
    have hf : f = .non := hf
    have ho : o = .non := ho
    subst hf ho
    walk_at "zz"
    refine ite_b (fun _ => ?_) (fun h => by simp at h)
    walk_at "zz"
    refine ite_b (fun _ => ?_) (fun h => by simp at h)
    walk_at "zz"
    refine web_repr (.inl w7) (web_ex x7 hk) ok ?_
    walk_at "zz"
    rw [← (show (true = decide (V.str (webD g).shown = V.str (webD g).shown)) by simp)]
    exact RetV.go q (e1.trans x7)
  | true =>
    refine ite_f ?_
    obtain ⟨r, hr⟩ : ∃ r, ringAll g = some r := by
      cases hr : ringAll g with
      | some r => exact ⟨r, rfl⟩
      | none =>
        obtain ⟨d, h1, h2⟩ := all_none hr
        exact absurd (hb2 d h1 h2) (by decide)
    obtain ⟨r', hr'⟩ : ∃ r, ringAll (revW g) = some r := by
      cases hr : ringAll (revW g) with
      | some r => exact ⟨r, rfl⟩
      | none =>
        obtain ⟨d, h1, h2⟩ := all_none hr
        refine absurd (hb2 d (ord_rev ok.2.2 h1) fun x hx => h2 x ?_) (by decide)
        rw [revW_keys]
        exact List.mem_reverse.mpr hx
    have ir := all_some hr
    have ir' := ring_rev ok.2.2 (all_some hr')
    rw [hr] at hf
    rw [hr'] at ho
    obtain ⟨pf, rfl, npf, hpf⟩ := hf
    obtain ⟨po, rfl, npo, hpo⟩ := ho
    have pf7 := x37 _ _ hpf
    obtain ⟨rz, rl⟩ := ring_ok ok ir
    obtain ⟨rz', rl'⟩ := ring_ok ok ir'
    walk_at "zz"
    refine ⟨pf, w, r, g, rfl, sq_of pf7, ⟨kvs, .inl w7, web_ex x7 hk⟩, rz, by omega, ir, fun H8 e8 => ?_⟩
    walk_at "zz"
    refine ite_f ?_
    walk_at "zz"
    refine ⟨po, w, r', g, rfl, sq_of (e8 _ _ hpo), ⟨kvs, .inl (e8 _ _ w7), web_ex (x7.trans e8) hk⟩, rz', by omega, ir', fun H9 e9 => ?_⟩
    walk_at "zz"
    refine ite_f ?_
    walk_at "zz"
    have pf9 := (e8.trans e9) _ _ pf7
    refine ⟨pf, _, rfl, .inl (sq_of pf9), fun tl htl => ?_⟩
    have x10 := Ex.new (o := .lst (r.map V.str)) htl
    have t10 : upd H9 tl (.lst (r.map V.str)) tl = some (.lst (r.map V.str)) := upd_same
    have pf10 := x10 _ _ pf9
    have ntf : tl ≠ pf := fun z => by rw [z, pf9] at htl; cases htl
    generalize upd H9 tl (.lst (r.map V.str)) = H10 at x10 t10 pf10 ⊢
    walk_at "zz"
    refine z_tyl (sq_of pf10) ?_
    walk_at "zz"
    refine z_rapp pf10 (szlt (by rw [List.length_map]; omega)) ?_
    have npf1 : H1 pf = none := fresh_back e2 npf
    have x11 : Ex H1 (upd H10 pf (.lst (r.map V.str ++ [V.str (Str.ofString "more")]))) := (x7.trans (e8.trans (e9.trans x10))).mut npf1
    have t11 : upd H10 pf (.lst (r.map V.str ++ [V.str (Str.ofString "more")])) tl = some (.lst (r.map V.str)) := by rw [upd_ne ntf]; exact t10
    generalize upd H10 pf (.lst (r.map V.str ++ [V.str (Str.ofString "more")])) = H11 at x11 t11 ⊢
    walk_at "zz"
    refine ⟨w, g, kvs, rfl, x11 _ _ h1, web_ex x11 hk, g4, ?_⟩
    rw [hr]
    intro p12 H12 hp12 e12 h12
    walk_at "zz"
    obtain ⟨t1, t2, t3⟩ := strs_dp (K := K) (H := H12) (zs := r) fun z hz => ⟨30, rz z hz⟩
    refine z_eqD (b := true) (.lst (sq_of h12) t1) (.lst (sq_of (e12 _ _ t11)) t1) t2 t2 (by show PyData.depthAll _ + 1 ≤ 64; rw [t3]; decide) (by show PyData.depthAll _ + 1 ≤ 64; rw [t3]; decide) ⟨fun _ => rfl, fun _ => rfl⟩ ?_
    walk_at "zz"
    refine web_repr (.inl ((x11.trans e12) _ _ h1)) (web_ex (x11.trans e12) hk) ok ?_
    walk_at "zz"
    rw [← (show (true = decide (V.str (webD g).shown = V.str (webD g).shown)) by simp)]
    exact RetV.go q (e1.trans (x11.trans e12))
end

end K18
namespace K18
open PySem PySem.Spec PyProof.Rows L2 Z
open Evl (Ex ex_l ex_t sq_of st_of fresh_back RetL RetV)

def topS (i : Nat) : Stmt := PySem.Challenge.pw_wireyard_k18_rings_among_names.main.body.getD i (.Pass ⟨0, 0, 0, 0⟩)
abbrev s_L_mixed : Stmt := topS 5
theorem sc_L_mixed : FnScope ["_law_number", "_law_k"] ["_law_number", "_law_k"] (defScope s_L_mixed) := ⟨rfl, rfl, rfl, by decide +kernel, rfl, by decide +kernel, by decide +kernel⟩
abbrev s_L_names : Stmt := topS 6
theorem sc_L_names : FnScope ["_law_number", "_law_letters", "_law_base", "_law_size", "_law_at", "_law_signs", "_law_some", "_law_found", "_law_first", "_law_other", "_law_told", "_law_j", "_law_k", "_law_sign", "_law_name"] ["_law_number"] (defScope s_L_names) := ⟨rfl, rfl, rfl, by decide +kernel, rfl, by decide +kernel, by decide +kernel⟩
abbrev s_L_cell : Stmt := topS 4
theorem sc_L_cell : FnScope ["_law_script", "_law_k", "_law_cell_here"] ["_law_script", "_law_k"] (defScope s_L_cell) := ⟨rfl, rfl, rfl, by decide +kernel, rfl, by decide +kernel, by decide +kernel⟩
abbrev s_L_web : Stmt := topS 9
theorem sc_L_web : FnScope ["_law_script", "_law_names_here", "_law_many", "_law_back", "_law_found", "_law_k", "_law_number", "_law_asked", "_law_j", "_law_more", "_law_turn", "_law_order", "_law_name"] ["_law_script"] (defScope s_L_web) := ⟨rfl, rfl, rfl, by decide +kernel, rfl, by decide +kernel, by decide +kernel⟩
abbrev s_L_has_ring : Stmt := topS 7
theorem sc_L_has_ring : FnScope ["_law_asks", "_law_left", "_law_going", "_law_gone", "_law_name", "_law_one"] ["_law_asks"] (defScope s_L_has_ring) := ⟨rfl, rfl, rfl, by decide +kernel, rfl, by decide +kernel, by decide +kernel⟩
abbrev s_p_ring_from : Stmt := topS 2
theorem sc_p_ring_from : FnScope ["start", "asks", "done", "way", "places", "left", "name"] ["start", "asks", "done"] (defScope s_p_ring_from) := ⟨rfl, rfl, rfl, by decide +kernel, rfl, by decide +kernel, by decide +kernel⟩
abbrev s_ring_in : Stmt := topS 1
theorem sc_ring_in : FnScope ["asks", "done", "name", "ring"] ["asks"] (defScope s_ring_in) := ⟨rfl, rfl, rfl, by decide +kernel, rfl, by decide +kernel, by decide +kernel⟩
abbrev s_L_is_ring : Stmt := topS 8
theorem sc_L_is_ring : FnScope ["_law_found", "_law_asks", "_law_one", "_law_other", "_law_k"] ["_law_found", "_law_asks"] (defScope s_L_is_ring) := ⟨rfl, rfl, rfl, by decide +kernel, rfl, by decide +kernel, by decide +kernel⟩
abbrev s_law : Stmt := topS 10
theorem sc_law : FnScope ["_law_script", "_law_web_here", "_law_kept", "_law_is_due", "_law_found", "_law_other", "_law_told", "_law_name"] ["_law_script"] (defScope s_law) := ⟨rfl, rfl, rfl, by decide +kernel, rfl, by decide +kernel, by decide +kernel⟩
structure Tx (K : PySem.W.Frag) (mg : Str → Option Value) : Prop where
  d_L_mixed : DX K mg "_law_mixed" s_L_mixed
  d_L_names : DX K mg "_law_names" s_L_names
  d_L_cell : DX K mg "_law_cell" s_L_cell
  d_L_web : DX K mg "_law_web" s_L_web
  d_L_has_ring : DX K mg "_law_has_ring" s_L_has_ring
  d_p_ring_from : DX K mg "_ring_from" s_p_ring_from
  d_ring_in : DX K mg "ring_in" s_ring_in
  d_L_is_ring : DX K mg "_law_is_ring" s_L_is_ring
  d_law : DX K mg "law" s_law
  n_dict : mg "dict" = none
  n_enumerate : mg "enumerate" = none
  n_isinstance : mg "isinstance" = none
  n_len : mg "len" = none
  n_list : mg "list" = none
  n_max : mg "max" = none
  n_min : mg "min" = none
  n_range : mg "range" = none
  n_repr : mg "repr" = none
  n_reversed : mg "reversed" = none
  n_zip : mg "zip" = none
section
variable {P : Program} {w : World} {K : PySem.W.Frag} {mg : Str → Option Value} {base : Heap}
theorem ok_L_mixed (T : Tx K mg) : Cal P w K mg base 1 "_law_mixed" sp_L_mixed :=
  cal_mk (t := rd_L_mixed) T.d_L_mixed sc_L_mixed (fun _ _ _ _ _ _ us hl => match us, hl with | [_, _], _ => rfl) len_L_mixed
    (fun f cdv A outer s H E hr => (pss_one (ps_ret (pe_op op_fdiv (pe_op op_mod (pe_op op_mul (pe_op op_mod (pe_op op_mul (pe_op op_add (pe_op op_add (pe_op op_add (pv 0) (pe_op op_mul (pe_op op_mul pe_int (pv 1)) (pv 1))) (pe_op op_mul pe_int (pv 1))) pe_int) pe_int) pe_int) pe_int) pe_int) pe_int))))
    (fun vs H Q E h => vr_L_mixed vs H Q E h)
theorem ok_L_names (T : Tx K mg) : Cal P w K mg base 2 "_law_names" (sp_L_names K) :=
  cal_mk (t := (rd_L_names K)) T.d_L_names sc_L_names (fun _ _ _ _ _ _ us hl => match us, hl with | [_], _ => rfl) len_L_names
    (fun f cdv A outer s H E hr => (pss_cons (ps_set (i := 1) sc_L_names.nd rfl (.inr rfl) pe_str)
    (pss_cons (ps_set (i := 2) sc_L_names.nd rfl (.inr rfl) (pe_bm PySem.F.plainAttrs_str PySem.F.slot_str_join PySem.F.type_str_join mt_join pe_str (pa_cons (pe_lc (own := [("_law_j", 11)]) (g := (gName 11)) (tt := tYes) rfl sc_L_names.nd (pi_range1 (by rfl) T.n_range (pa_cons pe_int pa_nil)) (blkOk_by (N := ["_law_number", "_law_letters", "_law_base", "_law_size", "_law_at", "_law_signs", "_law_some", "_law_found", "_law_first", "_law_other", "_law_told", "_law_j", "_law_k", "_law_sign", "_law_name"]) (sc := defScope s_L_names) (by decide +kernel)) (fun _ _ _ _ _ => (pg_name (i := 11) sc_L_names.nd rfl (.inl rfl))) (fun _ _ _ _ _ => pts_nil) (fun _ _ _ _ _ => (pe_ix ix_str (pv 1) (pe_op op_mod (pe_c (ok_L_mixed T) hr (by decide) (by rfl) (pa_cons (pv 0) (pa_cons (pv 11) pa_nil))) pe_int) (fun _ _ => rfl)))) pa_nil)))
    (Evl.pss_cut (ps_if (pt_cmpR op_lt (pe_op op_mod (pv 0) pe_int) pe_int (nomark _)) (pss_cons (ps_set (i := 3) sc_L_names.nd rfl (.inr rfl) (pe_op op_add pe_int (pe_op op_mod (pe_op op_fdiv (pv 0) pe_int) pe_int)))
    (pss_cons (ps_set (i := 4) sc_L_names.nd rfl (.inr rfl) (pe_op op_mod (pe_op op_fdiv (pv 0) pe_int) (pv 3)))
    (Evl.pss_cut (ps_set (i := 5) sc_L_names.nd rfl (.inr rfl) (pe_ifExp (pt_cmpR op_eq (pv 4) pe_int (nomark _)) (pv 1) (pe_op op_add_str (pv 1) pe_str)))
    (pss_cons (ps_setLc (i := 6) (own := [("_law_k", 12)]) (g := (gName 12)) (tt := tYes) rfl sc_L_names.nd rfl rfl (sw_true rfl rfl rfl (by decide +kernel)) (pi_range1 (by rfl) T.n_range (pa_cons pe_int pa_nil)) (blkOk_by (N := ["_law_number", "_law_letters", "_law_base", "_law_size", "_law_at", "_law_signs", "_law_some", "_law_found", "_law_first", "_law_other", "_law_told", "_law_j", "_law_k", "_law_sign", "_law_name"]) (sc := defScope s_L_names) (by decide +kernel)) (fun _ _ _ _ _ => (pg_name (i := 12) sc_L_names.nd rfl (.inl rfl))) (fun _ _ _ _ _ => pts_nil) (fun _ _ _ _ _ => (pe_ix ix_str (pv 5) (pe_op op_mod (pe_op op_add (pe_op op_fdiv (pv 0) pe_int) (pe_op op_mul pe_int (pv 12))) (pe_callB call_len_str (by rfl) T.n_len (by decide +kernel) (pa_cons (pv 5) pa_nil))) (fun _ _ => rfl))))
    (pss_one (ps_setLc (i := 7) (own := [("_law_sign", 13)]) (g := (gName 13)) (tt := tYes) rfl sc_L_names.nd rfl rfl (sw_true rfl rfl rfl (by decide +kernel)) (pi_list (pv 6)) (blkOk_by (N := ["_law_number", "_law_letters", "_law_base", "_law_size", "_law_at", "_law_signs", "_law_some", "_law_found", "_law_first", "_law_other", "_law_told", "_law_j", "_law_k", "_law_sign", "_law_name"]) (sc := defScope s_L_names) (by decide +kernel)) (fun _ _ _ _ _ => (pg_name (i := 13) sc_L_names.nd rfl (.inl rfl))) (fun _ _ _ _ _ => pts_nil) (fun _ _ _ _ _ => (pe_op op_add_str (pe_op op_add_str (pe_slice sl_str (pv 2) po_none (po_some (pv 4))) (pv 13)) (pe_slice sl_str (pv 2) (po_some (pe_op op_add (pv 4) pe_int)) (po_some (pv 3)))))))))))
    (pss_one (ps_if (pt_cmpR op_eq (pe_op op_mod (pv 0) pe_int) pe_int (nomark _)) (pss_cons (ps_set (i := 8) sc_L_names.nd rfl (.inl rfl) (pe_op op_add (pe_op op_add (pe_bm PySem.F.plainAttrs_str PySem.F.slot_str_index PySem.F.type_str_index mt_sindex (pv 1) (pa_cons (pe_ix ix_str (pv 2) pe_int (fun _ _ => rfl)) pa_nil)) pe_int) (pe_op op_mod (pe_op op_fdiv (pv 0) pe_int) pe_int)))
    (pss_cons (ps_set (i := 9) sc_L_names.nd rfl (.inr rfl) (pe_op op_add_str (pe_ix ix_str (pv 1) (pe_op op_mod (pv 8) pe_int) (fun _ _ => rfl)) (pe_slice sl_str (pv 2) (po_some pe_int) po_none)))
    (pss_cons (ps_setLc (i := 7) (own := [("_law_k", 12)]) (g := (gName 12)) (tt := tYes) rfl sc_L_names.nd rfl rfl (sw_true rfl rfl rfl (by decide +kernel)) (pi_range1 (by rfl) T.n_range (pa_cons pe_int pa_nil)) (blkOk_by (N := ["_law_number", "_law_letters", "_law_base", "_law_size", "_law_at", "_law_signs", "_law_some", "_law_found", "_law_first", "_law_other", "_law_told", "_law_j", "_law_k", "_law_sign", "_law_name"]) (sc := defScope s_L_names) (by decide +kernel)) (fun _ _ _ _ _ => (pg_name (i := 12) sc_L_names.nd rfl (.inl rfl))) (fun _ _ _ _ _ => pts_nil) (fun _ _ _ _ _ => (pe_slice sl_str (pv 2) po_none (po_some (pe_op op_add (pv 12) pe_int)))))
    (pss_one (ps_set (i := 7) sc_L_names.nd rfl (.inl rfl) (pe_op op_cat (pv 7) (pe_lc (own := [("_law_k", 12)]) (g := (gName 12)) (tt := tYes) rfl sc_L_names.nd (pi_range1 (by rfl) T.n_range (pa_cons pe_int pa_nil)) (blkOk_by (N := ["_law_number", "_law_letters", "_law_base", "_law_size", "_law_at", "_law_signs", "_law_some", "_law_found", "_law_first", "_law_other", "_law_told", "_law_j", "_law_k", "_law_sign", "_law_name"]) (sc := defScope s_L_names) (by decide +kernel)) (fun _ _ _ _ _ => (pg_name (i := 12) sc_L_names.nd rfl (.inl rfl))) (fun _ _ _ _ _ => pts_nil) (fun _ _ _ _ _ => (pe_slice sl_str (pv 9) po_none (po_some (pe_op op_add (pv 12) pe_int)))))))))))
    (pss_one (ps_setLc (i := 7) (own := [("_law_k", 12)]) (g := (gName 12)) (tt := tYes) rfl sc_L_names.nd rfl rfl (sw_true rfl rfl rfl (by decide +kernel)) (pi_range1 (by rfl) T.n_range (pa_cons pe_int pa_nil)) (blkOk_by (N := ["_law_number", "_law_letters", "_law_base", "_law_size", "_law_at", "_law_signs", "_law_some", "_law_found", "_law_first", "_law_other", "_law_told", "_law_j", "_law_k", "_law_sign", "_law_name"]) (sc := defScope s_L_names) (by decide +kernel)) (fun _ _ _ _ _ => (pg_name (i := 12) sc_L_names.nd rfl (.inl rfl))) (fun _ _ _ _ _ => pts_nil) (fun _ _ _ _ _ => (pe_ix ix_str (pv 1) (pe_op op_mod (pe_op op_add (pe_op op_fdiv (pv 0) pe_int) (pe_op op_mul pe_int (pv 12))) pe_int) (fun _ _ => rfl))))))))
    (pss_cons (ps_set (i := 10) sc_L_names.nd rfl (.inr rfl) (pe_bm PySem.F.plainAttrs_str PySem.F.slot_str_split PySem.F.type_str_split mt_split pe_str (pa_cons pe_str pa_nil)))
    (pss_cons (ps_if (pt_cmpR (op_neD (hu64 hr)) (pe_lc (own := [("_law_name", 14)]) (g := (gName 14)) (tt := (tTest (tOp (rIn K false) (tVar 14) (tVar 10)))) rfl sc_L_names.nd (pi_list (pv 7)) (blkOk_by (N := ["_law_number", "_law_letters", "_law_base", "_law_size", "_law_at", "_law_signs", "_law_some", "_law_found", "_law_first", "_law_other", "_law_told", "_law_j", "_law_k", "_law_sign", "_law_name"]) (sc := defScope s_L_names) (by decide +kernel)) (fun _ _ _ _ _ => (pg_name (i := 14) sc_L_names.nd rfl (.inl rfl))) (fun _ _ _ _ _ => (pts_one (pt_cmpR op_in_seq (pv 14) (pv 10) (by with_unfolding_all rfl)))) (fun _ _ _ _ _ => (pv 14))) (pe_lst pa_nil) (nomark _)) (pss_one (ps_ret (pe_lc (own := [("_law_k", 12)]) (g := (gName 12)) (tt := tYes) rfl sc_L_names.nd (pi_range1 (by rfl) T.n_range (pa_cons pe_int pa_nil)) (blkOk_by (N := ["_law_number", "_law_letters", "_law_base", "_law_size", "_law_at", "_law_signs", "_law_some", "_law_found", "_law_first", "_law_other", "_law_told", "_law_j", "_law_k", "_law_sign", "_law_name"]) (sc := defScope s_L_names) (by decide +kernel)) (fun _ _ _ _ _ => (pg_name (i := 12) sc_L_names.nd rfl (.inl rfl))) (fun _ _ _ _ _ => pts_nil) (fun _ _ _ _ _ => (pe_op op_add_str pe_str (pe_ix ix_str (pv 1) (pv 12) (fun _ _ => rfl)))))))
    pss_nil)
    (pss_one (ps_ret (pv 7)))))))))
    (fun vs H Q E h => vr_L_names vs H Q E h)
theorem ok_L_cell (T : Tx K mg) : Cal P w K mg base 1 "_law_cell" (sp_L_cell K) :=
  cal_mk (t := (rd_L_cell K)) T.d_L_cell sc_L_cell (fun _ _ _ _ _ _ us hl => match us, hl with | [_, _], _ => rfl) len_L_cell
    (fun f cdv A outer s H E hr => (pss_cons (ps_set (i := 2) sc_L_cell.nd rfl (.inl rfl) pe_int)
    (pss_cons (ps_if (pt_cmpR op_gt (pe_callB call_len_seq (by rfl) T.n_len (by decide +kernel) (pa_cons (pv 0) pa_nil)) pe_int (nomark _)) (pss_one (ps_set (i := 2) sc_L_cell.nd rfl (.inl rfl) (pe_op op_mod (pe_ix ix_list (pv 0) (pe_op op_mod (pv 1) (pe_callB call_len_seq (by rfl) T.n_len (by decide +kernel) (pa_cons (pv 0) pa_nil))) (fun _ _ => rfl)) pe_int)))
    pss_nil)
    (pss_one (ps_ret (pe_op op_fdiv (pe_op op_mod (pe_op op_mul (pe_op op_mod (pe_op op_mul (pe_op op_add (pe_op op_add (pv 2) (pe_op op_mul (pe_op op_mul pe_int (pv 1)) (pv 1))) (pe_op op_mul pe_int (pv 1))) pe_int) pe_int) pe_int) pe_int) pe_int))))))
    (fun vs H Q E h => vr_L_cell vs H Q E h)
theorem ok_L_web (T : Tx K mg) : Cal P w K mg base 3 "_law_web" (sp_L_web K) :=
  cal_mk (t := (rd_L_web K)) T.d_L_web sc_L_web (fun _ _ _ _ _ _ us hl => match us, hl with | [_], _ => rfl) len_L_web
    (fun f cdv A outer s H E hr => (pss_cons (ps_set (i := 1) sc_L_web.nd rfl (.inl rfl) (pe_c (ok_L_names T) hr (by decide) (by rfl) (pa_cons (pe_c (ok_L_cell T) hr (by decide) (by rfl) (pa_cons (pv 0) (pa_cons pe_int pa_nil))) pa_nil)))
    (pss_cons (ps_set (i := 1) sc_L_web.nd rfl (.inl rfl) (pe_op op_cat (pe_op op_cat (pv 1) (pe_lc (own := [("_law_name", 12)]) (g := (gName 12)) (tt := tYes) rfl sc_L_web.nd (pi_list (pv 1)) (blkOk_by (N := ["_law_script", "_law_names_here", "_law_many", "_law_back", "_law_found", "_law_k", "_law_number", "_law_asked", "_law_j", "_law_more", "_law_turn", "_law_order", "_law_name"]) (sc := defScope s_L_web) (by decide +kernel)) (fun _ _ _ _ _ => (pg_name (i := 12) sc_L_web.nd rfl (.inl rfl))) (fun _ _ _ _ _ => pts_nil) (fun _ _ _ _ _ => (pe_op op_add_str (pv 12) pe_str)))) (pe_lc (own := [("_law_name", 12)]) (g := (gName 12)) (tt := tYes) rfl sc_L_web.nd (pi_list (pe_slice sl_list (pv 1) po_none (po_some pe_int))) (blkOk_by (N := ["_law_script", "_law_names_here", "_law_many", "_law_back", "_law_found", "_law_k", "_law_number", "_law_asked", "_law_j", "_law_more", "_law_turn", "_law_order", "_law_name"]) (sc := defScope s_L_web) (by decide +kernel)) (fun _ _ _ _ _ => (pg_name (i := 12) sc_L_web.nd rfl (.inl rfl))) (fun _ _ _ _ _ => pts_nil) (fun _ _ _ _ _ => (pe_op op_add_str (pv 12) pe_str)))))
    (pss_cons (ps_set (i := 2) sc_L_web.nd rfl (.inl rfl) (pe_callB (call_max2 rfl) (by rfl) T.n_max (by decide +kernel) (pa_cons pe_int (pa_cons (pe_callB (call_min2 rfl) (by rfl) T.n_min (by decide +kernel) (pa_cons pe_int (pa_cons (pe_callB call_len_seq (by rfl) T.n_len (by decide +kernel) (pa_cons (pv 0) pa_nil)) pa_nil))) pa_nil))))
    (pss_cons (ps_set (i := 3) sc_L_web.nd rfl (.inl rfl) (pe_ix ix_list (pe_lst (pa_cons pe_int (pa_cons pe_int (pa_cons pe_int (pa_cons pe_int pa_nil))))) (pe_op op_mod (pe_c (ok_L_cell T) hr (by decide) (by rfl) (pa_cons (pv 0) (pa_cons pe_int pa_nil))) pe_int) (fun _ _ => rfl)))
    (pss_cons (ps_set (i := 4) sc_L_web.nd rfl (.inr rfl) pe_dnewK)
    (pss_cons (ps_for PassesOwn.never rfl (pi_range1 (by rfl) T.n_range (pa_cons (pv 2) pa_nil)) (pg_name (i := 5) sc_L_web.nd rfl (.inl rfl)) (pss_cons (ps_set (i := 6) sc_L_web.nd rfl (.inl rfl) (pe_c (ok_L_cell T) hr (by decide) (by rfl) (pa_cons (pv 0) (pa_cons (pv 5) pa_nil))))
    (pss_cons (ps_set (i := 7) sc_L_web.nd rfl (.inl rfl) (pe_lst pa_nil))
    (pss_cons (ps_for PassesOwn.never rfl (pi_range1 (by rfl) T.n_range (pa_cons (pe_ix ix_list (pe_lst (pa_cons pe_int (pa_cons pe_int (pa_cons pe_int (pa_cons pe_int (pa_cons pe_int (pa_cons pe_int pa_nil))))))) (pe_op op_mod (pv 6) pe_int) (fun _ _ => rfl)) pa_nil)) (pg_name (i := 8) sc_L_web.nd rfl (.inl rfl)) (pss_cons (ps_set (i := 9) sc_L_web.nd rfl (.inl rfl) (pe_c (ok_L_mixed T) hr (by decide) (by rfl) (pa_cons (pv 6) (pa_cons (pe_op op_add (pv 8) (pv 5)) pa_nil))))
    (pss_one (ps_if (pt_cmpR op_eq (pe_op op_mod (pv 9) pe_int) pe_int (nomark _)) (pss_one (ps_expr (pe_bm PySem.F.plainAttrs_list PySem.F.slot_list_append PySem.F.type_list_append mt_append (pv 7) (pa_cons (pe_op op_add_str (pe_op op_add_str pe_str (pe_ix ix_str pe_str (pe_op op_mod (pe_op op_fdiv (pv 9) pe_int) pe_int) (fun _ _ => rfl))) pe_str) pa_nil))))
    (pss_one (ps_if (PW.pt (pw_and (pt_cmpR op_gt (pv 5) pe_int (nomark _)) (pw_and1 (PW.pt (pw_or (pt_cmpR op_eq (pv 3) pe_int (nomark _)) (pw_or1 (pt_cmpR op_gt (pe_op op_mod (pv 9) (pv 3)) pe_int (nomark _)))))))) (pss_one (ps_expr (pe_bm PySem.F.plainAttrs_list PySem.F.slot_list_append PySem.F.type_list_append mt_append (pv 7) (pa_cons (pe_ix ix_list (pv 1) (pe_op op_mod (pe_op op_fdiv (pv 9) pe_int) (pv 5)) (fun _ _ => rfl)) pa_nil))))
    (pss_one (ps_expr (pe_bm PySem.F.plainAttrs_list PySem.F.slot_list_append PySem.F.type_list_append mt_append (pv 7) (pa_cons (pe_ix ix_list (pv 1) (pe_op op_mod (pe_op op_fdiv (pv 9) pe_int) (pv 2)) (fun _ _ => rfl)) pa_nil))))))))))
    (pss_one (ps_dput (hu_of hr) (pv 4) (pe_ix ix_list (pv 1) (pv 5) (fun _ _ => rfl)) (pv 7) rfl))))))
    (pss_cons (ps_set (i := 10) sc_L_web.nd rfl (.inl rfl) (pe_op op_mod (pe_c (ok_L_cell T) hr (by decide) (by rfl) (pa_cons (pv 0) (pa_cons pe_int pa_nil))) (pv 2)))
    (pss_cons (ps_set (i := 11) sc_L_web.nd rfl (.inl rfl) (pe_op op_cat (pe_slice sl_list (pe_callTy (call_listD rfl) (by rfl) T.n_list (by decide +kernel) (pa_cons (pv 4) pa_nil)) (po_some (pv 10)) po_none) (pe_slice sl_list (pe_callTy (call_listD rfl) (by rfl) T.n_list (by decide +kernel) (pa_cons (pv 4) pa_nil)) po_none (po_some (pv 10)))))
    (pss_one (ps_ret (pe_callTy (call_dictP rfl) (by rfl) T.n_dict (by decide +kernel) (pa_cons (pe_lc (own := [("_law_name", 12)]) (g := (gName 12)) (tt := tYes) rfl sc_L_web.nd (pi_list (pv 11)) (blkOk_by (N := ["_law_script", "_law_names_here", "_law_many", "_law_back", "_law_found", "_law_k", "_law_number", "_law_asked", "_law_j", "_law_more", "_law_turn", "_law_order", "_law_name"]) (sc := defScope s_L_web) (by decide +kernel)) (fun _ _ _ _ _ => (pg_name (i := 12) sc_L_web.nd rfl (.inl rfl))) (fun _ _ _ _ _ => pts_nil) (fun _ _ _ _ _ => (pe_tup (pa_cons (pv 12) (pa_cons (pe_dget (hu_of hr) (pv 4) (pv 12) (fun _ _ => rfl)) pa_nil))))) pa_nil)))))))))))))
    (fun vs H Q E h => vr_L_web vs H Q E h)
theorem ok_L_has_ring (T : Tx K mg) : Cal P w K mg base 1 "_law_has_ring" (sp_L_has_ring K) :=
  cal_mk (t := (rd_L_has_ring K)) T.d_L_has_ring sc_L_has_ring (fun _ _ _ _ _ _ us hl => match us, hl with | [_], _ => rfl) len_L_has_ring
    (fun f cdv A outer s H E hr => (pss_cons (ps_set (i := 1) sc_L_has_ring.nd rfl (.inr rfl) (pe_callTy call_dictD (by rfl) T.n_dict (by decide +kernel) (pa_cons (pv 0) pa_nil)))
    (pss_cons (ps_set (i := 2) sc_L_has_ring.nd rfl (.inl rfl) pe_bl)
    (pss_cons (ps_while PassesOwn.never (pt_truth (pv 2) (by intro _; rfl)) (pss_cons (ps_lock (ps_setLc (i := 3) (own := [("_law_name", 4)]) (g := (gName 4)) (tt := (tTest (tOp (rEqD K) (tLc (iList K (tDGet (tVar 1) (tVar 4))) (gName 5) (tB (tDIn (tVar 5) (tVar 1))) (tVar 5) [5]) (tLst tNil)))) rfl sc_L_has_ring.nd rfl rfl (sw_true rfl rfl rfl (by decide +kernel)) (pi_keys (pv 1)) (blkOk_by (N := ["_law_asks", "_law_left", "_law_going", "_law_gone", "_law_name", "_law_one"]) (sc := defScope s_L_has_ring) (by decide +kernel)) (fun _ _ _ _ _ => (pg_name (i := 4) sc_L_has_ring.nd rfl (.inl rfl))) (fun _ _ _ _ _ => (pts_one (pt_cmpR (op_eqD (hu64 hr)) (pe_lc (own := [("_law_one", 5)]) (g := (gName 5)) (tt := (tB (tDIn (tVar 5) (tVar 1)))) rfl sc_L_has_ring.nd (pi_list (pe_dget (hu_of hr) (pv 1) (pv 4) (fun _ _ => rfl))) (blkOk_by (N := ["_law_asks", "_law_left", "_law_going", "_law_gone", "_law_name", "_law_one"]) (sc := _) (by with_unfolding_all rfl)) (fun _ _ _ _ _ => (pg_name (i := 5) sc_L_has_ring.nd rfl (.inl rfl))) (fun _ _ _ _ _ => (pts_one (pt_cmp (pc_din (hu_of hr) (pv 5) (pv 1))))) (fun _ _ _ _ _ => (pv 5))) (pe_lst pa_nil) (nomark _)))) (fun _ _ _ _ _ => (pv 4))))
    (pss_cons (ps_for PassesOwn.never rfl (pi_list (pv 3)) (pg_name (i := 4) sc_L_has_ring.nd rfl (.inl rfl)) (pss_one (ps_expr (pe_dpop1 (pv 1) (pv 4) ⟨rfl, rfl, rfl, rfl⟩))))
    (pss_one (ps_set (i := 2) sc_L_has_ring.nd rfl (.inl rfl) (pe_cmpR (op_neD (hu64 hr)) (pv 3) (pe_lst pa_nil) (nomark _)))))))
    (pss_one (ps_ret (pe_cmpR (op_neD0 (Nat.lt_of_le_of_lt (Nat.le_add_right _ 64) (hu64 hr))) (pv 1) pe_dnewK (nomark _))))))))
    (fun vs H Q E h => vr_L_has_ring vs H Q E h)
theorem ok_p_ring_from (T : Tx K mg) : Cal P w K mg base 1 "_ring_from" (sp_p_ring_from K) :=
  cal_mk (t := (rd_p_ring_from K)) T.d_p_ring_from sc_p_ring_from (fun _ _ _ _ _ _ us hl => match us, hl with | [_, _, _], _ => rfl) len_p_ring_from
    (fun f cdv A outer s H E hr => (pss_cons (ps_set (i := 3) sc_p_ring_from.nd rfl (.inl rfl) (pe_lst pa_nil))
    (pss_cons (ps_set (i := 4) sc_p_ring_from.nd rfl (.inl rfl) pe_dnewK)
    (pss_cons (ps_set (i := 5) sc_p_ring_from.nd rfl (.inl rfl) (pe_lst (pa_cons (pe_lst (pa_cons (pv 0) pa_nil)) pa_nil)))
    (pss_cons (ps_while PassesOwn.never (pt_truth (pv 5) (by intro _; rfl)) (pss_cons (ps_if (pt_not (pt_truth (pe_ix ix_list (pv 5) (pe_un un_neg pe_int) (fun _ _ => rfl)) (by intro _; rfl))) (pss_cons (ps_expr (pe_bm0 PySem.F.plainAttrs_list PySem.F.slot_list_pop PySem.F.type_list_pop mt_pop (pv 5)))
    (pss_cons (ps_if (pt_truth (pv 3) (by intro _; rfl)) (pss_one (ps_dput (hu_of hr) (pv 2) (pe_bm0 PySem.F.plainAttrs_list PySem.F.slot_list_pop PySem.F.type_list_pop mt_pop (pv 3)) pe_bl rfl))
    pss_nil)
    (pss_one ps_continue)))
    pss_nil)
    (pss_cons (ps_set (i := 6) sc_p_ring_from.nd rfl (.inl rfl) (pe_bm0 PySem.F.plainAttrs_list PySem.F.slot_list_pop PySem.F.type_list_pop mt_pop (pe_ix ix_list (pv 5) (pe_un un_neg pe_int) (fun _ _ => rfl))))
    (pss_cons (ps_if (pt_cmp (pc_din (hu_of hr) (pv 6) (pv 2))) (pss_one ps_continue)
    pss_nil)
    (pss_cons (ps_if (pt_cmp (pc_din (hu_of hr) (pv 6) (pv 4))) (pss_one (ps_ret (pe_slice sl_list (pv 3) (po_some (pe_dget (hu_of hr) (pv 4) (pv 6) (fun _ _ => rfl))) po_none)))
    pss_nil)
    (pss_cons (ps_dput (hu_of hr) (pv 4) (pv 6) (pe_callB call_len_seq (by rfl) T.n_len (by decide +kernel) (pa_cons (pv 3) pa_nil)) rfl)
    (pss_cons (ps_expr (pe_bm PySem.F.plainAttrs_list PySem.F.slot_list_append PySem.F.type_list_append mt_append (pv 3) (pa_cons (pv 6) pa_nil)))
    (pss_one (ps_expr (pe_bm PySem.F.plainAttrs_list PySem.F.slot_list_append PySem.F.type_list_append mt_append (pv 5) (pa_cons (pe_revOf rfl (by rfl) T.n_list (by rfl) T.n_reversed (pe_dget2 (hu_of hr) (pv 1) (pv 6) (pe_lst pa_nil) ⟨rfl, rfl, rfl, rfl⟩)) pa_nil)))))))))))
    (pss_one (ps_ret pe_non)))))))
    (fun vs H Q E h => vr_p_ring_from vs H Q E h)
theorem ok_ring_in (T : Tx K mg) : Cal P w K mg base 2 "ring_in" (sp_ring_in K) :=
  cal_mk (t := (rd_ring_in K)) T.d_ring_in sc_ring_in (fun _ _ _ _ _ _ us hl => match us, hl with | [_], _ => rfl) len_ring_in
    (fun f cdv A outer s H E hr => (pss_cons (ps_set (i := 1) sc_ring_in.nd rfl (.inl rfl) pe_dnewK)
    (pss_cons (ps_lock (ps_for PassesOwn.never rfl (pi_keys (pv 0)) (pg_name (i := 2) sc_ring_in.nd rfl (.inl rfl)) (pss_cons (ps_set (i := 3) sc_ring_in.nd rfl (.inl rfl) (pe_c (ok_p_ring_from T) hr (by decide) (by rfl) (pa_cons (pv 2) (pa_cons (pv 0) (pa_cons (pv 1) pa_nil)))))
    (pss_one (ps_if (pt_cmp (pc_notN (pv 3))) (pss_one (ps_ret (pv 3)))
    pss_nil)))))
    (pss_one (ps_ret pe_non)))))
    (fun vs H Q E h => vr_ring_in vs H Q E h)
theorem ok_L_is_ring (T : Tx K mg) : Cal P w K mg base 1 "_law_is_ring" (sp_L_is_ring K) :=
  cal_mk (t := (rd_L_is_ring K)) T.d_L_is_ring sc_L_is_ring (fun _ _ _ _ _ _ us hl => match us, hl with | [_, _], _ => rfl) len_L_is_ring
    (fun f cdv A outer s H E hr => (pss_cons (ps_if (PW.pt (pw_or (pt_not (pt_truth (pe_callB call_isi (by rfl) T.n_isinstance (by decide +kernel) (pa_cons (pv 0) (pa_cons (pe_bltn (by rfl) T.n_list (by decide +kernel) rfl) pa_nil))) (by intro _; rfl))) (pw_or1 (pt_cmpR (op_eqD (hu64 hr)) (pv 0) (pe_lst pa_nil) (nomark _))))) (pss_one (ps_ret pe_bl))
    pss_nil)
    (pss_cons (ps_if (pt_cmpR (op_neD (hu64 hr)) (pe_lc (own := [("_law_k", 4), ("_law_one", 2)]) (g := (gTup K 2 (gCons (gName 4) (gCons (gName 2) gNil)))) (tt := (tTest (tOp (rIn K false) (tVar 2) (tSl (rSlL K) (tVar 0) tNoPart (tPart (tVar 4)))))) rfl sc_L_is_ring.nd (pi_enum (by rfl) T.n_enumerate (pa_cons (pv 0) pa_nil)) (blkOk_by (N := ["_law_found", "_law_asks", "_law_one", "_law_other", "_law_k"]) (sc := defScope s_L_is_ring) (by decide +kernel)) (fun _ _ _ _ _ => (pg_tup rfl (pgs_cons (pg_name (i := 4) sc_L_is_ring.nd rfl (.inl rfl)) (pgs_cons (pg_name (i := 2) sc_L_is_ring.nd rfl (.inl rfl)) pgs_nil)))) (fun _ _ _ _ _ => (pts_one (pt_cmpR op_in_seq (pv 2) (pe_slice sl_list (pv 0) po_none (po_some (pv 4))) (by with_unfolding_all rfl)))) (fun _ _ _ _ _ => (pv 2))) (pe_lst pa_nil) (nomark _)) (pss_one (ps_ret pe_bl))
    pss_nil)
    (pss_cons (ps_for PassesOwn.never rfl (pi_zip (by rfl) T.n_zip (pa_cons (pv 0) (pa_cons (pe_op op_cat (pe_slice sl_list (pv 0) (po_some pe_int) po_none) (pe_slice sl_list (pv 0) po_none (po_some pe_int))) pa_nil))) (pg_tup rfl (pgs_cons (pg_name (i := 2) sc_L_is_ring.nd rfl (.inl rfl)) (pgs_cons (pg_name (i := 3) sc_L_is_ring.nd rfl (.inl rfl)) pgs_nil))) (pss_one (ps_if (PW.pt (pw_or (pt_cmp (pc_dnotin (hu_of hr) (pv 2) (pv 1))) (pw_or1 (pt_cmpR op_notIn_seq (pv 3) (pe_dget (hu_of hr) (pv 1) (pv 2) (fun _ _ => rfl)) (by with_unfolding_all rfl))))) (pss_one (ps_ret pe_bl))
    pss_nil)))
    (pss_one (ps_ret pe_bl))))))
    (fun vs H Q E h => vr_L_is_ring vs H Q E h)
theorem ok_law (T : Tx K mg) : CalG P w K mg base 4 "law" (sp_law K) :=
  calG_mk (t := (rd_law K)) T.d_law sc_law (fun _ _ _ _ _ _ us hl => match us, hl with | [_], _ => rfl) len_law
    (fun f cdv A outer s H E hq hr => (pss_cons (ps_set (i := 1) sc_law.nd rfl (.inr rfl) (pe_c (ok_L_web T) hr (by decide) (by rfl) (pa_cons (pv 0) pa_nil)))
    (pss_cons (ps_set (i := 2) sc_law.nd rfl (.inl rfl) (pe_callB (call_reprK hq (hu64 hr)) (by rfl) T.n_repr (by decide +kernel) (pa_cons (pv 1) pa_nil)))
    (pss_cons (ps_set (i := 3) sc_law.nd rfl (.inl rfl) (pe_c (ok_L_has_ring T) hr (by decide) (by rfl) (pa_cons (pv 1) pa_nil)))
    (pss_cons (ps_set (i := 4) sc_law.nd rfl (.inl rfl) (pe_c (ok_ring_in T) hr (by decide) (by rfl) (pa_cons (pv 1) pa_nil)))
    (pss_cons (ps_set (i := 5) sc_law.nd rfl (.inl rfl) (pe_c (ok_ring_in T) hr (by decide) (by rfl) (pa_cons (pe_callTy (call_dictP rfl) (by rfl) T.n_dict (by decide +kernel) (pa_cons (pe_revL (pe_lock (pe_lc (own := [("_law_name", 7)]) (g := (gName 7)) (tt := tYes) rfl sc_law.nd (pi_keys (pv 1)) (blkOk_by (N := ["_law_script", "_law_web_here", "_law_kept", "_law_is_due", "_law_found", "_law_other", "_law_told", "_law_name"]) (sc := defScope s_law) (by decide +kernel)) (fun _ _ _ _ _ => (pg_name (i := 7) sc_law.nd rfl (.inl rfl))) (fun _ _ _ _ _ => pts_nil) (fun _ _ _ _ _ => (pe_tup (pa_cons (pv 7) (pa_cons (pe_revL (pe_dget (hu_of hr) (pv 1) (pv 7) (fun _ _ => rfl))) pa_nil))))))) pa_nil)) pa_nil)))
    (pss_cons (ps_if (pt_not (pt_truth (pv 3) (by intro _; rfl))) (pss_one (ps_ret (pe_andT (pe_cmp (pc_isN (pv 4))) (pe_andT (pe_cmp (pc_isN (pv 5))) (pe_one (pe_cmpR op_eq (pe_callB (call_reprK hq (hu64 hr)) (by rfl) T.n_repr (by decide +kernel) (pa_cons (pv 1) pa_nil)) (pv 2) (nomark _)))))))
    pss_nil)
    (pss_cons (ps_if (PW.pt (pw_or (pt_not (pt_truth (pe_c (ok_L_is_ring T) hr (by decide) (by rfl) (pa_cons (pv 4) (pa_cons (pv 1) pa_nil))) (by intro _; rfl))) (pw_or1 (pt_not (pt_truth (pe_c (ok_L_is_ring T) hr (by decide) (by rfl) (pa_cons (pv 5) (pa_cons (pv 1) pa_nil))) (by intro _; rfl)))))) (pss_one (ps_ret pe_bl))
    pss_nil)
    (pss_cons (ps_set (i := 6) sc_law.nd rfl (.inl rfl) (pe_callTy call_list_of (by rfl) T.n_list (by decide +kernel) (pa_cons (pv 4) pa_nil)))
    (pss_cons (ps_expr (pe_bm PySem.F.plainAttrs_list PySem.F.slot_list_append PySem.F.type_list_append mt_append (pv 4) (pa_cons pe_str pa_nil)))
    (pss_one (ps_ret (pe_andT (pe_cmpR (op_eqD (hu64 hr)) (pe_c (ok_ring_in T) hr (by decide) (by rfl) (pa_cons (pv 1) pa_nil)) (pv 6) (nomark _)) (pe_one (pe_cmpR op_eq (pe_callB (call_reprK hq (hu64 hr)) (by rfl) T.n_repr (by decide +kernel) (pa_cons (pv 1) pa_nil)) (pv 2) (nomark _))))))))))))))))
    (fun vs H Q E h => vr_law vs H Q E h)
end
def dd_L_mixed : He.DefD := ⟨("_law_mixed", none), "_law_mixed", "_law_mixed", defArgs s_L_mixed, defBody s_L_mixed, defScope s_L_mixed, [], []⟩
def dd_L_names : He.DefD := ⟨("_law_names", none), "_law_names", "_law_names", defArgs s_L_names, defBody s_L_names, defScope s_L_names, [], []⟩
def dd_L_cell : He.DefD := ⟨("_law_cell", none), "_law_cell", "_law_cell", defArgs s_L_cell, defBody s_L_cell, defScope s_L_cell, [], []⟩
def dd_L_web : He.DefD := ⟨("_law_web", none), "_law_web", "_law_web", defArgs s_L_web, defBody s_L_web, defScope s_L_web, [], []⟩
def dd_L_has_ring : He.DefD := ⟨("_law_has_ring", none), "_law_has_ring", "_law_has_ring", defArgs s_L_has_ring, defBody s_L_has_ring, defScope s_L_has_ring, [], []⟩
def dd_p_ring_from : He.DefD := ⟨("_ring_from", none), "_ring_from", "_ring_from", defArgs s_p_ring_from, defBody s_p_ring_from, defScope s_p_ring_from, [], []⟩
def dd_ring_in : He.DefD := ⟨("ring_in", none), "ring_in", "ring_in", defArgs s_ring_in, defBody s_ring_in, defScope s_ring_in, [], []⟩
def dd_L_is_ring : He.DefD := ⟨("_law_is_ring", none), "_law_is_ring", "_law_is_ring", defArgs s_L_is_ring, defBody s_L_is_ring, defScope s_L_is_ring, [], []⟩
def dd_law : He.DefD := ⟨("law", none), "law", "law", defArgs s_law, defBody s_law, defScope s_law, [], []⟩
def fnD : List He.DefD := [dd_L_mixed, dd_L_names, dd_L_cell, dd_L_web, dd_L_has_ring, dd_p_ring_from, dd_ring_in, dd_L_is_ring, dd_law]
def faD : List He.Fa := [.glo "_law_mixed", .glo "_law_names", .glo "_law_cell", .glo "_law_web", .glo "_law_has_ring", .glo "_ring_from", .glo "ring_in", .glo "_law_is_ring", .glo "law", .free "dict", .free "enumerate", .free "isinstance", .free "len", .free "list", .free "max", .free "min", .free "range", .free "repr", .free "reversed", .free "zip"]
def exD : PySem.W.Frag → Bool := fun K => true
theorem tx_of {K : PySem.W.Frag} {h : Heap} {mg : Str → Option Value} (X : K.In h) (G : h.Ns mainGlobals mg) (c : He.SaysD faD fnD K) (ex : exD K = true) : Tx K mg where
  d_L_mixed := by
    obtain ⟨fd, F⟩ := c.def_ 0 (d := dd_L_mixed) rfl
    exact ⟨_, fd, F, He.glo_ok X G (c.fact 0 (f := .glo "_law_mixed") rfl)⟩
  d_L_names := by
    obtain ⟨fd, F⟩ := c.def_ 1 (d := dd_L_names) rfl
    exact ⟨_, fd, F, He.glo_ok X G (c.fact 1 (f := .glo "_law_names") rfl)⟩
  d_L_cell := by
    obtain ⟨fd, F⟩ := c.def_ 2 (d := dd_L_cell) rfl
    exact ⟨_, fd, F, He.glo_ok X G (c.fact 2 (f := .glo "_law_cell") rfl)⟩
  d_L_web := by
    obtain ⟨fd, F⟩ := c.def_ 3 (d := dd_L_web) rfl
    exact ⟨_, fd, F, He.glo_ok X G (c.fact 3 (f := .glo "_law_web") rfl)⟩
  d_L_has_ring := by
    obtain ⟨fd, F⟩ := c.def_ 4 (d := dd_L_has_ring) rfl
    exact ⟨_, fd, F, He.glo_ok X G (c.fact 4 (f := .glo "_law_has_ring") rfl)⟩
  d_p_ring_from := by
    obtain ⟨fd, F⟩ := c.def_ 5 (d := dd_p_ring_from) rfl
    exact ⟨_, fd, F, He.glo_ok X G (c.fact 5 (f := .glo "_ring_from") rfl)⟩
  d_ring_in := by
    obtain ⟨fd, F⟩ := c.def_ 6 (d := dd_ring_in) rfl
    exact ⟨_, fd, F, He.glo_ok X G (c.fact 6 (f := .glo "ring_in") rfl)⟩
  d_L_is_ring := by
    obtain ⟨fd, F⟩ := c.def_ 7 (d := dd_L_is_ring) rfl
    exact ⟨_, fd, F, He.glo_ok X G (c.fact 7 (f := .glo "_law_is_ring") rfl)⟩
  d_law := by
    obtain ⟨fd, F⟩ := c.def_ 8 (d := dd_law) rfl
    exact ⟨_, fd, F, He.glo_ok X G (c.fact 8 (f := .glo "law") rfl)⟩
  n_dict := He.free_ok X G (c.fact 9 (f := .free "dict") rfl)
  n_enumerate := He.free_ok X G (c.fact 10 (f := .free "enumerate") rfl)
  n_isinstance := He.free_ok X G (c.fact 11 (f := .free "isinstance") rfl)
  n_len := He.free_ok X G (c.fact 12 (f := .free "len") rfl)
  n_list := He.free_ok X G (c.fact 13 (f := .free "list") rfl)
  n_max := He.free_ok X G (c.fact 14 (f := .free "max") rfl)
  n_min := He.free_ok X G (c.fact 15 (f := .free "min") rfl)
  n_range := He.free_ok X G (c.fact 16 (f := .free "range") rfl)
  n_repr := He.free_ok X G (c.fact 17 (f := .free "repr") rfl)
  n_reversed := He.free_ok X G (c.fact 18 (f := .free "reversed") rfl)
  n_zip := He.free_ok X G (c.fact 19 (f := .free "zip") rfl)
abbrev R : PySem.W.OpenRow := PySem.W.OpenLaw.row PySem.Challenge.rw_wireyard_k18_rings_among_names
def loose0 : List PySem.Str := ["ring_in", "_ring_from", "_law_cell", "_law_mixed", "_law_names", "_law_has_ring", "_law_is_ring", "_law_web"]
def loose : List PySem.Str := loose0
abbrev hk : PySem.W.Hook := Z.hookZ faD fnD exD 4
def ob (s : PySem.W.SharedT) : He.AlD × Bool := Z.lookZ faD fnD exD 4 (HandSHeadRun.getT s)
theorem ob_eq (s : PySem.W.SharedT) : ob s = hk.obs s.abs := Z.lookZ_eq (HandSHeadRun.getT_eq s)
theorem run (w : World) : HandSHeadRun.RunEq R (PySem.W.view R.prog [10]) hk ob 4000 loose w := by
  intro os
  kernel_rfl
theorem fn_law {P : Program} {w : World} {K : PySem.W.Frag} {mg : Str → Option Value} {base : Heap} {f : Addr} {fd : FuncData} (F : FunD K "law" "law" (defArgs s_law) (defBody s_law) (defScope s_law) [] [] f fd) (T : Tx K mg) : FnG P w K mg base 4 f fd ["_law_script"] (sp_law K) :=
  FnG.of F sc_law len_law fun cdv A outer s H vs Q E hq hr h => ⟨(rd_law K), PSs.nox ((pss_cons (ps_set (i := 1) sc_law.nd rfl (.inr rfl) (pe_c (ok_L_web T) hr (by decide) (by rfl) (pa_cons (pv 0) pa_nil)))
    (pss_cons (ps_set (i := 2) sc_law.nd rfl (.inl rfl) (pe_callB (call_reprK hq (hu64 hr)) (by rfl) T.n_repr (by decide +kernel) (pa_cons (pv 1) pa_nil)))
    (pss_cons (ps_set (i := 3) sc_law.nd rfl (.inl rfl) (pe_c (ok_L_has_ring T) hr (by decide) (by rfl) (pa_cons (pv 1) pa_nil)))
    (pss_cons (ps_set (i := 4) sc_law.nd rfl (.inl rfl) (pe_c (ok_ring_in T) hr (by decide) (by rfl) (pa_cons (pv 1) pa_nil)))
    (pss_cons (ps_set (i := 5) sc_law.nd rfl (.inl rfl) (pe_c (ok_ring_in T) hr (by decide) (by rfl) (pa_cons (pe_callTy (call_dictP rfl) (by rfl) T.n_dict (by decide +kernel) (pa_cons (pe_revL (pe_lock (pe_lc (own := [("_law_name", 7)]) (g := (gName 7)) (tt := tYes) rfl sc_law.nd (pi_keys (pv 1)) (blkOk_by (N := ["_law_script", "_law_web_here", "_law_kept", "_law_is_due", "_law_found", "_law_other", "_law_told", "_law_name"]) (sc := defScope s_law) (by decide +kernel)) (fun _ _ _ _ _ => (pg_name (i := 7) sc_law.nd rfl (.inl rfl))) (fun _ _ _ _ _ => pts_nil) (fun _ _ _ _ _ => (pe_tup (pa_cons (pv 7) (pa_cons (pe_revL (pe_dget (hu_of hr) (pv 1) (pv 7) (fun _ _ => rfl))) pa_nil))))))) pa_nil)) pa_nil)))
    (pss_cons (ps_if (pt_not (pt_truth (pv 3) (by intro _; rfl))) (pss_one (ps_ret (pe_andT (pe_cmp (pc_isN (pv 4))) (pe_andT (pe_cmp (pc_isN (pv 5))) (pe_one (pe_cmpR op_eq (pe_callB (call_reprK hq (hu64 hr)) (by rfl) T.n_repr (by decide +kernel) (pa_cons (pv 1) pa_nil)) (pv 2) (nomark _)))))))
    pss_nil)
    (pss_cons (ps_if (PW.pt (pw_or (pt_not (pt_truth (pe_c (ok_L_is_ring T) hr (by decide) (by rfl) (pa_cons (pv 4) (pa_cons (pv 1) pa_nil))) (by intro _; rfl))) (pw_or1 (pt_not (pt_truth (pe_c (ok_L_is_ring T) hr (by decide) (by rfl) (pa_cons (pv 5) (pa_cons (pv 1) pa_nil))) (by intro _; rfl)))))) (pss_one (ps_ret pe_bl))
    pss_nil)
    (pss_cons (ps_set (i := 6) sc_law.nd rfl (.inl rfl) (pe_callTy call_list_of (by rfl) T.n_list (by decide +kernel) (pa_cons (pv 4) pa_nil)))
    (pss_cons (ps_expr (pe_bm PySem.F.plainAttrs_list PySem.F.slot_list_append PySem.F.type_list_append mt_append (pv 4) (pa_cons pe_str pa_nil)))
    (pss_one (ps_ret (pe_andT (pe_cmpR (op_eqD (hu64 hr)) (pe_c (ok_ring_in T) hr (by decide) (by rfl) (pa_cons (pv 1) pa_nil)) (pv 6) (nomark _)) (pe_one (pe_cmpR op_eq (pe_callB (call_reprK hq (hu64 hr)) (by rfl) T.n_repr (by decide +kernel) (pa_cons (pv 1) pa_nil)) (pv 2) (nomark _)))))))))))))))), vr_law vs H Q E h⟩
theorem facts {P : Program} {w : World} {K : PySem.W.Frag} {h : Heap} {mg : Str → Option Value} {f : Addr} (X : K.In h) (G : h.Ns mainGlobals mg) (hfa : mg ("law" : Str) = some (.ref f)) (c : He.SaysD faD fnD K) (x : exD K = true) :
    ∃ fd : FuncData, (∀ (s : Shared) (v : Value), BindsTo s fd ⟨[v], []⟩ [("_law_script", v)]) ∧ ∀ base : Heap, K.In base → base.Ns mainGlobals mg → FnG P w K mg base 4 f fd ["_law_script"] (sp_law K) := by
  have T : Tx K mg := tx_of X G c x
  obtain ⟨fd, F⟩ := c.def_ 8 (d := dd_law) rfl
  have e := hfa.symm.trans (He.glo_ok X G (c.fact 8 (f := .glo "law") rfl))
  cases e
  have b := FunD.bindsA (ps := ["_law_script"]) F fun _ _ _ _ _ _ us hl => match us, hl with | [_], _ => rfl
  refine ⟨fd, fun s v => b s [v] rfl, fun base _ _ => ?_⟩
  exact fn_law F T
end K18
open PySem PySem.W PySem.Calls PyProof.Rows
set_option maxHeartbeats 0 in
theorem PySem.Challenge.cw_wireyard_k18_rings_among_names_holds : PySem.Challenge.rw_wireyard_k18_rings_among_names.Holds := by
  w_on; o_law
  refine HandSHeadRun.head_any (r := K18.R) (q := view K18.R.prog [10]) (H := K18.hk) (ob := K18.ob) (M := 4000) (loose := K18.loose) (d := HandSHeadRun.topDef K18.R.prog 10) (kwd := []) K18.ob_eq
    (by kernel_rfl) (fun s => by kernel_rfl) K18.run (by kernel_rfl) (by kernel_rfl) (by kernel_rfl) (by rfl) (by first | assumption | decide +kernel) (by decide +kernel) ⟨rfl, rfl, rfl, rfl, rfl, by decide +kernel⟩ ?hw ?hc
  case hw => w_witness2
  case hc =>
    refine Z.walk_G (l := PySem.Challenge.rw_wireyard_k18_rings_among_names) (n := 63) (k := 4) (x := "_law_script") rfl (by decide) (by kernel_rfl) ⟨rfl, by decide, by decide⟩ ?F
    intro w mg fa h Y G hmg0
    obtain ⟨K, KX, c, x⟩ := Y
    have hmg : mg ("law" : PySem.Str) = some (.ref fa) := by
      have e : (HandSHeadRun.topDef K18.R.prog 10).name = ("law" : PySem.Str) := by kernel_rfl
      rw [← e]
      exact hmg0
    obtain ⟨fd, hb, hF⟩ := K18.facts (P := (PySem.Challenge.rw_wireyard_k18_rings_among_names).prog) (w := w) KX G hmg c x
    exact ⟨K, fd, K18.sp_law K, KX, hb, fun H a ns hl _ hS => ⟨a, ns, rfl, hS, hl, fun _ _ => rfl⟩, hF⟩
